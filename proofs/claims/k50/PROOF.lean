import PyProof.Rows.All
import Wide.All
import OpenK.AllK
import Wide.FinOn
import PySem.Challenge.RW_sidebooks_k50_whole_books_bent
import HandS.ForExc
import HandS.ForMost
import HandS.Wide
import HandS.IsInst
import HandS.Flow
import HandS.Call
import PyProof.NoPylong
import PyProof.Rows.RuleB_floordiv
import HandS.TupSets
import HandS.SetBool
import KE.KeyNested
import HandS.Comp
import HandS.AnyAll
import HandS.GenOver
import PyProof.GenRules
import PyProof.GenQ
import PyProof.ConsumeS
import HandS.Gcd
import HandS.Zip
import HandS.TupMul
import HandS.TupAny
import PyProof.WalksMore
import HandS.TryOnly
import HandS.Style
import HandS.WordsDict
import PyProof.ListMulRoad
import PyProof.FactsAll.tuple_2
import HandS.Base
import HandS.List
import KE.KRevSl
import HandS.SetKeys
import HandS.Deep
import HandS.Text
import HandS.FStr
import HandS.NoneIn
import HandS.StrMore
import HandS.More
import HandS.CallLocal
import PyProof.StrLawsFrom
import HandS.ExcField
import HandS.ExcIs
import KE.KExcIs
import HandS.ExcValue
import HandS.ExcCtx
import HandS.TryMany
import HandS.HotCalls
import HandS.SuiteRaise
import HandS.EndOwn
import KE.KNestM
set_option Elab.async false
set_option linter.all false
set_option maxRecDepth 100000
set_option maxHeartbeats 8000000
namespace SB
open PySem L2
def topI (i : Nat) : Stmt := PySem.Challenge.pw_sidebooks_k50_whole_books_bent.main.body.getD i (.Pass ⟨0, 0, 0, 0⟩)
abbrev s_is_whole : Stmt := topI 5
abbrev s_are_wholes : Stmt := topI 6
abbrev s_are_sides : Stmt := topI 7
abbrev s_is_question : Stmt := topI 8
abbrev s_is_question_of : Stmt := topI 9
abbrev s_common_of : Stmt := topI 10
abbrev s_begins_at : Stmt := topI 11
abbrev s_normal_form : Stmt := topI 12
abbrev s_is_book : Stmt := topI 14
abbrev s__is_many : Stmt := topI 15
abbrev s_nought_form : Stmt := topI 16
abbrev s_read_number : Stmt := topI 22
abbrev s_read_point : Stmt := topI 23
abbrev s_read_row : Stmt := topI 24
abbrev s_read_wish : Stmt := topI 25
abbrev s_read_book : Stmt := topI 26
abbrev s_read_saying : Stmt := topI 27
abbrev s_integer_in : Stmt := topI 28
abbrev s_number_in : Stmt := topI 29
abbrev s_point_in : Stmt := topI 30
abbrev s_row_in : Stmt := topI 31
abbrev s_wish_in : Stmt := topI 32
abbrev s__read_alone : Stmt := topI 33
abbrev s__lines_of : Stmt := topI 34
abbrev s__all_or_none : Stmt := topI 35
abbrev s__sides_in : Stmt := topI 36
abbrev s__question_in : Stmt := topI 37
abbrev s__saying_in : Stmt := topI 38
abbrev s__opened_at : Stmt := topI 39
abbrev s__closed : Stmt := topI 40
abbrev s__law_well : Stmt := topI 42
abbrev s__law_draw : Stmt := topI 43
abbrev s__law_same : Stmt := topI 44
abbrev s__law_divided : Stmt := topI 45
abbrev s__law_ground : Stmt := topI 46
abbrev s__law_unlike : Stmt := topI 47
abbrev s__law_power : Stmt := topI 48
abbrev s__law_integer : Stmt := topI 49
abbrev s__law_sided : Stmt := topI 50
abbrev s__law_book : Stmt := topI 51
abbrev s__law_said_question : Stmt := topI 52
abbrev s__law_said_book : Stmt := topI 53
abbrev s__law_sign : Stmt := topI 54
abbrev s__law_odd_word : Stmt := topI 55
abbrev s__law_bent_signs : Stmt := topI 56
abbrev s__law_bent_parts : Stmt := topI 57
abbrev s__law_integer_in : Stmt := topI 58
abbrev s__law_all_in : Stmt := topI 59
abbrev s__law_integers_in : Stmt := topI 60
abbrev s__law_question_in : Stmt := topI 61
abbrev s__law_due : Stmt := topI 62
abbrev s__law_read : Stmt := topI 63
abbrev s__law_told : Stmt := topI 64
abbrev s__law_odd_line : Stmt := topI 65
abbrev s__law_bent : Stmt := topI 66
abbrev s__law_others_right : Stmt := topI 67
abbrev s_law : Stmt := topI 68
end SB
namespace SB
open PySem PySem.Spec PyProof.Rows L2
/-- nobody looks on when two long integers are divided -/
structure NSK (P : Program) (K : PySem.W.Frag) : Prop where
  seer : ∀ h : Heap, K.In h → h.NoSeer
  tree : P.given.tree = none
/-- // by any number but 0 -/
theorem op_fdivP {X : Cx} {e : Env} {l : List Env} (NS : NSK X.prog X.K) (hd : X.A.depth + Builtin.pylongFrames < recursionLimit) (hst : X.stack = e :: l) (hg : e.scope.isGenerator = false) (hc : e.scope.isCoroutine = false) (hb : e.builtins = builtinsNs) (hm : e.globals = mainGlobals) :
    OpR X (binaryOp .FloorDiv) (rI (fun _ j => j ≠ 0) fun i j => .int (i.fdiv j)) := by
  intro pins s σ H x y v u Q I rx ry h
  obtain ⟨i, j, rfl, rfl, hj, q⟩ := h
  obtain ⟨t, rfl⟩ := rx
  obtain ⟨t', rfl⟩ := ry
  refine floordiv_int hj ?_ (.inr (PylongRoom.of I.nolimit hd (SeerAt.of (NS.seer _ I.kIn) NS.tree (by rw [I.ok.frames, hst]) hg hc hb hm)))
  exact ⟨.int (i.fdiv j), H, I.tok _, ⟨_, rfl⟩, q⟩
/-- // by a number above 0 -/
theorem op_fdivE {X : Cx} {e : Env} {l : List Env} (NS : NSK X.prog X.K) (hd : X.A.depth + Builtin.pylongFrames < recursionLimit) (hst : X.stack = e :: l) (hg : e.scope.isGenerator = false) (hc : e.scope.isCoroutine = false) (hb : e.builtins = builtinsNs) (hm : e.globals = mainGlobals) :
    OpR X (binaryOp .FloorDiv) (rI (fun _ j => 0 < j) fun i j => .int (i / j)) := by
  intro pins s σ H x y v u Q I rx ry h
  obtain ⟨i, j, rfl, rfl, hj, q⟩ := h
  refine op_fdivP NS hd hst hg hc hb hm pins s σ H _ _ v u Q I rx ry ⟨i, j, rfl, rfl, Int.ne_of_gt hj, ?_⟩
  have q : Q (V.int (i / j)) H := q
  rw [← Int.fdiv_eq_ediv_of_nonneg i (Int.le_of_lt hj)] at q
  exact q
theorem Room.far {k : Nat} {A : Around} (r : Room (k + 33) A) : A.depth + Builtin.pylongFrames < recursionLimit := by
  have := r.dp
  show A.depth + 100 < _
  omega
end SB
/-! Small sets whose members are objects of one sort (tuples of tuples): searched, filled. Over the table's own facts (HandS.TupSets). -/
namespace SG
open PySem PySem.Spec PyProof.Rows L2
/-- a sort of members -/
structure Kd (P : Program) (w : World) (κ : Type) [DecidableEq κ] where
  is : Heap → κ → Addr → Prop
  hash : κ → Int
  draws : κ → Nat
  keep : ∀ {h h' : Heap} {k : κ} {b : Addr}, is h k b → (∀ c o, h.get? c = some o → (∃ vs n, o.data = .seq vs n) → h'.get? c = some o) → is h' k b
  eqB : ∀ {A : Around} {E : Value → Shared → Prop} {s : Shared} {x y : κ} {a b : Addr} {Q : Bool → Shared → Prop}, A.units + 8 < cLine → is s.heap x a → is s.heap y b → Q (decide (x = y)) s → wpAny (model P w) A (eqBool (.ref a) (.ref b)) Q E s
  pyH : ∀ {A : Around} {E : Value → Shared → Prop} {s : Shared} {k : κ} {a : Addr} {Q : Int → Shared → Prop}, A.units + 8 < cLine → is s.heap k a → Q (hash k) { s with toks := s.toks + draws k } → wpAny (model P w) A (pyHash (.ref a)) Q E s
  quiet : ∀ {A : Around} {E : Value → Shared → Prop} {s : Shared} {k : κ} {a : Addr} {Q : Bool → Shared → Prop}, is s.heap k a → Q true s → wpAny (model P w) A (eqIsQuiet 8 (.ref a)) Q E s
  noCls : ∀ {A : Around} {E : Value → Shared → Prop} {s : Shared} {k : κ} {a : Addr} {Q : Bool → Shared → Prop}, is s.heap k a → Q false s → wpAny (model P w) A (ofAClassStatement 8 (.ref a)) Q E s
  byV : ∀ {A : Around} {E : Value → Shared → Prop} {s : Shared} {k : κ} {a : Addr} {Q : Bool → Shared → Prop}, is s.heap k a → Q true s → wpAny (model P w) A (hashByValue 8 (.ref a)) Q E s
section
variable {P : Program} {w : World} {κ : Type} [DecidableEq κ] (kd : Kd P w κ) {A : Around} {E : Value → Shared → Prop} {s : Shared}
theorem kd_same {h h' : Heap} {k : κ} {b a : Addr} {o : Obj} {es : Array (Int × Value)} {ep : Nat} {t : SetTable} (hb : kd.is h k b) (ho : h.get? a = some o) (hd : o.data = .set es ep t) (sb : Heap.SameBut a h h') : kd.is h' k b :=
  kd.keep hb fun c o' hc hseq => (sb.2 c fun z => by
    obtain ⟨vs, n, hs⟩ := hseq
    rw [z, ho] at hc
    cases hc
    rw [hd] at hs
    cases hs).trans hc
/-- looking among members of the sort tells nothing -/
theorem kd_unseen {x : Addr} {k : κ} {ys : List Value} {Q : Bool → Shared → Prop} (hx : kd.is s.heap k x) (hy : ∀ y ∈ ys, ∃ c k', y = Value.ref c ∧ kd.is s.heap k' c) (q : Q false s) : wpAny (model P w) A (searchCouldBeSeen (.ref x) ys) Q E s := by
  unfold searchCouldBeSeen
  refine wpAny_bind ?_
  refine wpAny_forIn_list _ (fun left r s2 => r.1 = none ∧ s2 = s ∧ ∀ y ∈ left, ∃ c k', y = Value.ref c ∧ kd.is s.heap k' c) _ ?_ ?_ _ _ ⟨rfl, rfl, hy⟩
  · rintro y left r s2 ⟨er, rfl, al⟩
    obtain ⟨c, k', rfl, hc⟩ := al _ List.mem_cons_self
    have al2 : ∀ y ∈ left, ∃ c k', y = Value.ref c ∧ kd.is s2.heap k' c := fun u hu => al u (List.mem_cons_of_mem _ hu)
    dsimp only
    by_cases same : (x == c || (carriedByValue (.ref x) && carriedByValue (.ref c))) = true
    · exact wp_if_pos same (wpAny_pure ⟨rfl, rfl, al2⟩)
    · refine wp_if_neg same (wpAny_bind (kd.quiet hx ?_))
      simp only [Bool.not_true, Bool.false_eq_true, if_false]
      refine wpAny_bind (kd.quiet hc ?_)
      simp only [Bool.not_true, Bool.false_eq_true, if_false]
      refine wpAny_bind (kd.noCls hx ?_)
      simp only [Bool.false_eq_true, if_false]
      refine wpAny_bind (kd.noCls hc ?_)
      simp only [Bool.false_eq_true, if_false]
      exact wpAny_pure ⟨rfl, rfl, al2⟩
  · rintro ⟨r1, r2⟩ s2 ⟨er, rfl, _⟩
    simp only at er
    subst er
    exact wpAny_pure q
def rowsG (L : List (Addr × κ)) : List (Int × Value) := L.map fun p => (kd.hash p.2, Value.ref p.1)
/-- a set at a that holds L, each key once -/
structure SR (h : Heap) (a : Addr) (L : List (Addr × κ)) (es : Array (Int × Value)) (ep : Nat) (t : SetTable) : Prop where
  ob : ∃ o, h.get? a = some o ∧ o.ExactSet ∧ o.data = .set es ep t
  rows : es.toList = rowsG kd L
  tab : TabOk t (L.map fun p => kd.hash p.2)
  nd : (L.map (·.2)).Nodup
  mem : ∀ p ∈ L, kd.is h p.2 p.1
  plain : t.plain = true
  led : w.params.followText "set-order" = true ∨ t.led = true
  room : L.length * 5 < t.mask * 3
  few : L.length < 64
variable {kd} {a : Addr} {L : List (Addr × κ)} {es : Array (Int × Value)} {ep : Nat} {t : SetTable}
theorem SR.size (R : SR kd s.heap a L es ep t) : es.size = L.length := by
  have e := congrArg List.length R.rows
  rwa [rowsG, Array.length_toList, List.length_map] at e
theorem SR.len (R : SR kd s.heap a L es ep t) : t.place.toList.length = L.length := by
  have e := R.tab.sz
  rwa [List.length_map, ← Array.length_toList] at e
theorem SR.fits (R : SR kd s.heap a L es ep t) : t.fits es.size = true := by
  have e1 := R.size
  have e2 := R.len
  have e3 := R.room
  rw [Array.length_toList] at e2
  unfold SetTable.fits SetTable.fill
  rw [R.tab.dm, Bool.and_eq_true, beq_iff_eq, decide_eq_true_eq]
  exact ⟨by omega, by show t.place.size + 0 ≤ t.mask; omega⟩
theorem SR.at_ (R : SR kd s.heap a L es ep t) {i : Nat} {p : Addr × κ} (h : L[i]? = some p) : es[i]? = some (kd.hash p.2, Value.ref p.1) := by
  have e : es.toList[i]? = some (kd.hash p.2, Value.ref p.1) := by rw [R.rows, rowsG, List.getElem?_map, h] <;> rfl
  rwa [Array.getElem?_toList] at e
/-- the c-th look on the way of a hash -/
abbrev look (t : SetTable) (hk : Int) (c : Nat) : SetTable.Probe := nth t.mask (runAt t.mask (SetTable.bits hk % (t.mask + 1)) (SetTable.bits hk)) c
theorem look_add (t : SetTable) (hk : Int) (c q : Nat) : nth t.mask (look t hk c) q = look t hk (c + q) := (nth_add t.mask c _ q).symm
theorem look_clean (t : SetTable) (hk : Int) (c : Nat) : (look t hk c).dummy = none := by
  have go : ∀ (n : Nat) (p : SetTable.Probe), p.dummy = none → (nth t.mask p n).dummy = none := fun n => by
    induction n with
    | zero => exact fun _ h => h
    | succ n ih => exact fun p h => ih _ (by unfold adv; split <;> exact h)
  exact go c _ rfl
/-- how the search answers where a member is met -/
def met (add : Bool) (i : Nat) : SetFound := .there (if add = true then none else some i)
theorem sr_search (R : SR kd s.heap a L es ep t) (add : Bool) {x : Addr} {k : κ} (hx : kd.is s.heap k x) (hu : A.units + 8 < cLine) {K : Nat} (hKf : K < 10 * SetTable.turns t.mask) (hK : way t.mask (kd.hash k) K ∉ t.place.toList)
    (hKb : ∀ c, c < K → way t.mask (kd.hash k) c ∈ t.place.toList) {Q : SetFound → Shared → Prop} (yes : ∀ i, k ∈ L.map (·.2) → Q (met add i) s) (no : k ∉ L.map (·.2) → Q (.free (way t.mask (kd.hash k) K) false) s) :
    ∀ (f c : Nat) (stand : Option SetTable.Probe), stand.getD (t.probeStart (kd.hash k)) = look t (kd.hash k) c → c ≤ K → K - c < f →
      (∀ (i : Nat) p, L[i]? = some p → p.2 = k → ∃ c', c ≤ c' ∧ c' < K ∧ t.place.toList[i]? = some (way t.mask (kd.hash k) c')) →
      wpAny (model P w) A (setSearchFrom a (.ref x) (kd.hash k) add f stand) Q E s
  | 0, c, stand, _, _, hf, _ => absurd hf (Nat.not_lt_zero _)
  | f + 1, c, stand, est, hc, hf, ahead => by
    obtain ⟨o, ho, hex, hd⟩ := R.ob
    have hAt : Nat → Int := fun i => (es[i]?.map (·.1)).getD 0
    have hashAt : ∀ {i : Nat} {p}, L[i]? = some p → (es[i]?.map (·.1)).getD 0 = kd.hash p.2 := fun {i p} hp => by rw [R.at_ hp] <;> rfl
    have wy : ∀ q, (nth t.mask (look t (kd.hash k) c) q).j = way t.mask (kd.hash k) (c + q) := fun q => congrArg SetTable.Probe.j (look_add t _ c q)
    rw [setSearchFrom_succ]
    refine wpAny_bind (wpAny_setState_of ho hd R.fits ?_)
    dsimp only
    refine wp_if_neg (by unfold SetTable.gaveWay; rw [mask_odd R.tab.mok]; decide) ?_
    try refine wpAny_bind (wpAny_pure ?_)
    have spec := go_spec t R.tab.ris R.tab.dm (fun i => (es[i]?.map (·.1)).getD 0) (kd.hash k) (10 * SetTable.turns t.mask) (K - c) _ (look_clean t (kd.hash k) c) (by omega)
      (fun q hq => by rw [wy]; exact hKb (c + q) (by omega)) (by rw [wy, show c + (K - c) = K by omega]; exact hK)
    rcases spec with ⟨q, i, hq, hi, hh, early, hpr⟩ | ⟨early, hpr⟩
    · rw [wy] at hi
      have hil : i < L.length := by
        have z := (List.getElem?_eq_some_iff.mp hi).1
        rwa [R.len] at z
      obtain ⟨p, hp⟩ : ∃ p, L[i]? = some p := ⟨_, List.getElem?_eq_getElem hil⟩
      have pin : p ∈ L := List.mem_of_getElem? hp
      have hsl : t.slot (way t.mask (kd.hash k) (c + q)) = .live i := slot_live R.tab.ris hi
      have probe : t.probe (fun i => (es[i]?.map (·.1)).getD 0) (kd.hash k) (stand.getD (t.probeStart (kd.hash k))) = some (.candidate (way t.mask (kd.hash k) (c + q)) i (look t (kd.hash k) (c + (q + 1)))) := by
        rw [est, ← wy, ← look_add]
        exact hpr
      rw [probe]
      dsimp only
      have behind : wpAny (model P w) A (searchRest a (.ref x) (kd.hash k) add f es t (way t.mask (kd.hash k) (c + q)) i (look t (kd.hash k) (c + (q + 1)))) Q E s := by
        unfold searchRest
        rw [R.at_ hp]
        dsimp only
        refine wpAny_bind (wpAny_holding (kd.eqB hu (R.mem p pin) hx ?_))
        refine wpAny_bind (wpAny_setState_of ho hd R.fits ?_)
        dsimp only
        by_cases eqk : p.2 = k
        · have mem : k ∈ L.map (·.2) := List.mem_map.mpr ⟨p, pin, eqk⟩
          cases add with
          | true => exact wp_if_pos (by simp [eqk]) (wpAny_pure (yes i mem))
          | false =>
            refine wp_if_neg (by simp) ?_
            try refine wpAny_bind (wpAny_pure ?_)
            rw [sameMem]
            dsimp only
            simp only [if_true, hsl, R.at_ hp]
            refine wpAny_bind (wpAny_isSame_ref_self (wpAny_bind (wpAny_pure ?_)))
            simp only [if_true]
            exact wp_if_pos (by simp [eqk]) (wpAny_pure (yes i mem))
        · refine wp_if_neg (by simp [eqk]) ?_
          try refine wpAny_bind (wpAny_pure ?_)
          rw [sameMem]
          dsimp only
          simp only [if_true, hsl, R.at_ hp]
          refine wpAny_bind (wpAny_isSame_ref_self (wpAny_bind (wpAny_pure ?_)))
          simp only [if_true]
          refine wp_if_neg (by simp [eqk]) ?_
          refine sr_search R add hx hu hKf hK hKb yes no f (c + (q + 1)) _ rfl (by omega) (by omega) fun i0 p0 h0 k0 => ?_
          obtain ⟨c', l1, l2, l3⟩ := ahead i0 p0 h0 k0
          have nlt : ¬ c' < c + q := fun z => early (c' - c) i0 (by omega) (by rw [wy, show c + (c' - c) = c' by omega]; exact l3) ((hashAt h0).trans (congrArg kd.hash k0))
          have nne : c' ≠ c + q := fun z => by
            rw [z] at l3
            have z2 := slot_live R.tab.ris l3
            rw [hsl] at z2
            injection z2 with z2
            rw [← z2, hp] at h0
            exact eqk ((congrArg Prod.snd (Option.some.inj h0)).trans k0)
          exact ⟨c', by omega, l2, l3⟩
      by_cases hl : t.led = true
      · refine wp_if_neg (by simp [hl]) ?_
        try refine wpAny_bind (wpAny_pure ?_)
        exact behind
      · refine wp_if_pos (by simp [hl]) (wpAny_bind (kd_unseen kd hx (fun y hy => ?_) ?_))
        · obtain ⟨e, he, rfl⟩ := List.mem_map.mp hy
          have he2 : e ∈ es.toList := by
            have z : e ∈ es ∧ e.1 = kd.hash k := by simpa using he
            simpa using z.1
          rw [R.rows, rowsG] at he2
          obtain ⟨p2, m2, rfl⟩ := List.mem_map.mp he2
          exact ⟨p2.1, p2.2, rfl, R.mem p2 m2⟩
        · refine wp_if_neg (by decide) ?_
          try refine wpAny_bind (wpAny_pure ?_)
          exact behind
    · have probe : t.probe (fun i => (es[i]?.map (·.1)).getD 0) (kd.hash k) (stand.getD (t.probeStart (kd.hash k))) = some (.empty (way t.mask (kd.hash k) K) none) := by
        have z : way t.mask (kd.hash k) K = (nth t.mask (look t (kd.hash k) c) (K - c)).j := by rw [wy, show c + (K - c) = K by omega]
        rw [est, z]
        exact hpr
      rw [probe]
      dsimp only
      refine wpAny_pure (no fun hm => ?_)
      obtain ⟨p0, m0, k0⟩ := List.mem_map.mp hm
      obtain ⟨i0, l0, e0⟩ := List.getElem_of_mem m0
      have h0 : L[i0]? = some p0 := by rw [List.getElem?_eq_getElem l0, e0]
      obtain ⟨c', l1, l2, l3⟩ := ahead i0 p0 h0 k0
      exact early (c' - c) i0 (by omega) (by rw [wy, show c + (c' - c) = c' by omega]; exact l3) ((hashAt h0).trans (congrArg kd.hash k0))
theorem sr_find (R : SR kd s.heap a L es ep t) (add : Bool) {x : Addr} {k : κ} (hx : kd.is s.heap k x) (hu : A.units + 8 < cLine) {Q : SetFound → Shared → Prop} (yes : ∀ i, k ∈ L.map (·.2) → Q (met add i) s)
    (no : ∀ K, k ∉ L.map (·.2) → way t.mask (kd.hash k) K ∉ t.place.toList → (∀ c, c < K → way t.mask (kd.hash k) c ∈ t.place.toList) → Q (.free (way t.mask (kd.hash k) K) false) s) :
    wpAny (model P w) A (setSearch a (.ref x) (kd.hash k) add) Q E s := by
  have hroom := R.room
  obtain ⟨K, hKf, hK, hKb⟩ := R.tab.first (by rw [List.length_map]; omega) (kd.hash k)
  have few : 10 * SetTable.turns t.mask ≤ 1420 := by
    unfold SetTable.turns
    rcases R.tab.mok with e | e | e <;> omega
  unfold setSearch
  refine sr_search R add hx hu hKf hK hKb yes (fun n => no K n hK hKb) 100000 0 none rfl (Nat.zero_le _) (by omega) fun i p hp hk => ?_
  have hi : (L.map fun p => kd.hash p.2)[i]? = some (kd.hash k) := by rw [List.getElem?_map, hp, ← hk] <;> rfl
  have hil : i < t.place.toList.length := by
    rw [R.len]
    exact (List.getElem?_eq_some_iff.mp hp).1
  obtain ⟨c, hc, e⟩ := R.tab.before hK hi (List.getElem?_eq_getElem hil)
  exact ⟨c, Nat.zero_le _, hc, by rw [List.getElem?_eq_getElem hil, e]⟩
end
end SG
namespace SG
open PySem PySem.Spec PyProof.Rows L2
section
variable {P : Program} {w : World} {κ : Type} [DecidableEq κ] {kd : Kd P w κ} {A : Around} {E : Value → Shared → Prop} {s : Shared} {a : Addr} {L : List (Addr × κ)} {es : Array (Int × Value)} {ep : Nat} {t : SetTable}
theorem rowsG_len : (rowsG kd L).length = L.length := List.length_map _
theorem rowsG_at {es : Array (Int × Value)} (hr : es.toList = rowsG kd L) {i : Nat} (h : i < L.length) : es[i]? = some (kd.hash (L[i]).2, Value.ref (L[i]).1) := by
  rw [← Array.getElem?_toList, hr, rowsG, List.getElem?_map, List.getElem?_eq_getElem h] <;> rfl
/-- the rows taken in another sequence -/
theorem rows_pick {es : Array (Int × Value)} (hr : es.toList = rowsG kd L) : ∀ l : List Nat, (∀ i ∈ l, i < L.length) →
    l.filterMap (fun i => es[i]?) = rowsG kd (l.filterMap fun i => L[i]?) ∧ ((l.filterMap fun i => L[i]?).map fun p => kd.hash p.2) = l.map fun i => (es.map (·.1)).getD i 0
  | [], _ => ⟨rfl, rfl⟩
  | i :: l, h => by
    have hi := h i List.mem_cons_self
    obtain ⟨e1, e2⟩ := rows_pick hr l fun j hj => h j (List.mem_cons_of_mem _ hj)
    have e3 := rowsG_at hr hi
    have e4 : (es.map (·.1)).getD i 0 = kd.hash (L[i]).2 := by
      have z : (es.map (·.1))[i]? = some (kd.hash (L[i]).2) := by rw [Array.getElem?_map, e3] <;> rfl
      simp [Array.getD_eq_getD_getElem?, z]
    constructor
    · rw [List.filterMap_cons_some e3, List.filterMap_cons_some (List.getElem?_eq_getElem hi), e1] <;> rfl
    · rw [List.filterMap_cons_some (List.getElem?_eq_getElem hi), List.map_cons, List.map_cons, e2, e4]
theorem pick_all : ∀ l : List (Addr × κ), (List.range l.length).filterMap (fun i => l[i]?) = l := by
  intro l
  have go : ∀ n, n ≤ l.length → (List.range n).filterMap (fun i => l[i]?) = l.take n := fun n => by
    induction n with
    | zero => exact fun _ => rfl
    | succ n ih =>
      intro hn
      rw [List.range_succ, List.filterMap_append, ih (Nat.le_of_lt hn), List.take_succ, List.getElem?_eq_getElem hn, List.filterMap_cons_some (List.getElem?_eq_getElem hn)] <;> rfl
  rw [go _ (Nat.le_refl _), List.take_length]
/-- the table is laid anew, larger -/
theorem sr_relay {o : Obj} (ho : s.heap.get? a = some o) (hex : o.ExactSet) (hd : o.data = .set es ep t) (hr : es.toList = rowsG kd L) (hps : t.place.size = es.size) (hdm : t.dummies = #[]) (hm : es.size ≤ t.mask) (nd : (L.map (·.2)).Nodup) (mem : ∀ p ∈ L, kd.is s.heap p.2 p.1)
    (pl : t.plain = true) (ld : w.params.followText "set-order" = true ∨ t.led = true) (few : L.length < 64) {wanted M : Nat} (eM : SetTable.sizeAbove wanted - 1 = M) (hM : MaskOk M) (small : SetTable.sizeAbove wanted ≤ 128) (fit : L.length * 5 < M * 3) {Q : Unit → Shared → Prop}
    (q : ∀ h' L' es' ep' t', Heap.SameBut a s.heap h' → SR kd h' a L' es' ep' t' → L'.Perm L → Q () { s with heap := h' }) : wpAny (model P w) A (setRelay a wanted) Q E s := by
  have el : es.size = L.length := by
    have z := congrArg List.length hr
    rwa [rowsG_len, Array.length_toList] at z
  have fits : t.fits es.size = true := by
    unfold SetTable.fits SetTable.fill
    rw [hdm, Bool.and_eq_true, beq_iff_eq, decide_eq_true_eq]
    exact ⟨hps, by show t.place.size + 0 ≤ t.mask; omega⟩
  obtain ⟨t', ord, e, hp, T, em, ell, epl, _⟩ := relaid_ok t (hs := es.map (·.1)) (wanted := wanted) eM hM (by rw [Array.size_map, el]; omega)
  rw [Array.size_map, el] at hp
  obtain ⟨r1, r2⟩ := rows_pick hr ord.toList fun i hi => List.mem_range.mp (hp.mem_iff.mp hi)
  have pm : (ord.toList.filterMap fun i => L[i]?).Perm L := by
    have z := hp.filterMap fun i => L[i]?
    rwa [pick_all L] at z
  rw [← r2] at T
  have rws : (ord.filterMap (es[·]?)).toList = rowsG kd (ord.toList.filterMap fun i => L[i]?) := by
    first | (rw [Array.toList_filterMap]; exact r1) | simpa using r1
  generalize ord.toList.filterMap (fun i => L[i]?) = L2 at pm T rws
  have sz2 : (ord.filterMap (es[·]?)).size = es.size := by
    have z := congrArg List.length rws
    rw [rowsG_len, Array.length_toList, pm.length_eq] at z
    rw [z, el]
  rw [setRelay_eq]
  refine wpAny_bind (wpAny_setState_of ho hd fits ?_)
  dsimp only
  refine wp_if_neg (by rw [sizeLine_eq]; omega) ?_
  try refine wpAny_bind (wpAny_pure ?_)
  rw [e]
  dsimp only
  refine wpAny_bind (wp_if_neg (by rw [sz2]; simp) ?_)
  try refine wpAny_bind (wpAny_pure ?_)
  refine wpAny_pure ?_
  dsimp only
  refine wpAny_storeSet_of ho hd ?_ (by rw [sz2, el, sizeLine_eq]; omega)
  have sb : Heap.SameBut a s.heap (s.heap.update a (Obj.putSet (ord.filterMap (es[·]?)) t')) := Heap.SameBut.update ..
  exact q _ L2 _ (ep + 1) t' sb ⟨⟨_, store_at ho hd, ⟨hex.1, hex.2.1, hex.2.2⟩, rfl⟩, rws, T, (pm.map (·.2)).nodup_iff.mpr nd, fun p hpm => kd_same kd (mem p (pm.mem_iff.mp hpm)) ho hd sb, by rw [epl]; exact pl, by rw [ell]; exact ld,
    by rw [pm.length_eq, em]; exact fit, by rw [pm.length_eq]; exact few⟩ pm
/-- a member more, or no more -/
theorem sr_add (R : SR kd s.heap a L es ep t) {x : Addr} {k : κ} (hx : kd.is s.heap k x) (hu : A.units + 8 < cLine) (few : L.length + 1 < 64) {Q : Bool → Shared → Prop}
    (q : ∀ b h' L' es' ep' t', Heap.SameBut a s.heap h' → SR kd h' a L' es' ep' t' → (k ∈ L.map (·.2) → L' = L) → (k ∉ L.map (·.2) → L'.Perm ((x, k) :: L)) → Q b { s with heap := h' }) :
    wpAny (model P w) A (setAddHashed a (.ref x) (kd.hash k)) Q E s := by
  obtain ⟨o, ho, hex, hd⟩ := R.ob
  have el := R.size
  have hroom := R.room
  unfold setAddHashed
  refine wpAny_holding ?_
  rw [show (100000 : Nat) = 99999 + 1 from rfl, setAddHashedIn_succ]
  refine wpAny_bind (wpAny_setState_of ho hd R.fits ?_)
  dsimp only
  refine wp_if_neg (by simp [byScan, Value.scannable]) ?_
  try refine wpAny_bind (wpAny_pure ?_)
  refine wpAny_bind (sr_find R true hx hu (fun i hm => ?_) fun K hm hK hb => ?_)
  · unfold met
    dsimp only
    exact wpAny_pure (q false s.heap L es ep t (Heap.SameBut.refl a s.heap) R (fun _ => rfl) fun z => absurd hm z)
  · dsimp only
    refine wpAny_bind (wpAny_setState_of ho hd R.fits ?_)
    dsimp only
    obtain ⟨q1, q2, q3, q4, q5, q6, q7, q8, q9⟩ := R.tab.put hK hb
    have pl1 : (t.put (way t.mask (kd.hash k) K)).1.plain = true := by rw [q6]; exact R.plain
    generalize ept : t.put (way t.mask (kd.hash k) K) = pt at q1 q3 q4 q5 q6 q7 q8 q9 pl1 ⊢
    obtain ⟨t1, p⟩ := pt
    dsimp only at q1 q3 q4 q5 q6 q7 q8 q9 pl1 ⊢
    subst q1
    first
      | (refine wpAny_bind ?_; refine wp_if_pos pl1 ?_; refine kd.byV hx ?_)
      | refine wp_if_pos pl1 (wpAny_bind (kd.byV hx ?_))
    simp only [if_true]
    have ein : (SetTable.insertAt es (SetTable.below t.place (way t.mask (kd.hash k) K)) (kd.hash k, Value.ref x)).toList = rowsG kd (L.take (SetTable.below t.place (way t.mask (kd.hash k) K)) ++ (x, k) :: L.drop (SetTable.below t.place (way t.mask (kd.hash k) K))) := by
      rw [SetTable.toList_insertAt, R.rows]
      unfold rowsG
      rw [List.map_append, List.map_cons, List.map_take, List.map_drop]
    generalize SetTable.below t.place (way t.mask (kd.hash k) K) = p at q2 q3 ein ⊢
    have pm : (L.take p ++ (x, k) :: L.drop p).Perm ((x, k) :: L) := put_perm L p (x, k)
    have lh : (L.take p ++ (x, k) :: L.drop p).map (fun p => kd.hash p.2) = (L.map fun p => kd.hash p.2).take p ++ kd.hash k :: (L.map fun p => kd.hash p.2).drop p := by
      rw [List.map_append, List.map_cons, List.map_take, List.map_drop]
    rw [← lh] at q3
    generalize L.take p ++ (x, k) :: L.drop p = L1 at pm q3 ein
    have l1 : L1.length = L.length + 1 := pm.length_eq
    have nd1 : (L1.map (·.2)).Nodup := (pm.map (·.2)).nodup_iff.mpr (List.nodup_cons.mpr ⟨hm, R.nd⟩)
    have es1l : (SetTable.insertAt es p (kd.hash k, Value.ref x)).size = L.length + 1 := by
      have z := congrArg List.length ein
      rwa [rowsG_len, Array.length_toList, l1] at z
    generalize SetTable.insertAt es p (kd.hash k, Value.ref x) = es1 at ein es1l ⊢
    refine wpAny_bind (wpAny_storeSet_of ho hd ?_ (by rw [es1l, sizeLine_eq]; omega))
    have sb : Heap.SameBut a s.heap (s.heap.update a (Obj.putSet es1 t1)) := Heap.SameBut.update ..
    have ho1 := store_at (es' := es1) (t' := t1) ho hd
    generalize s.heap.update a (Obj.putSet es1 t1) = h1 at sb ho1 ⊢
    have mem1 : ∀ p ∈ L1, kd.is h1 p.2 p.1 := fun p hp => by
      rcases List.mem_cons.mp (pm.mem_iff.mp hp) with e | hp
      · rw [e]
        exact kd_same kd hx ho hd sb
      · exact kd_same kd (R.mem p hp) ho hd sb
    have ld1 : w.params.followText "set-order" = true ∨ t1.led = true := by rw [q5]; exact R.led
    have ps1 : t1.place.size = es1.size := by
      have z := q3.sz
      rw [List.length_map, l1] at z
      rw [z, es1l]
    by_cases full : t1.tooFull = true
    · first
        | (refine wpAny_bind ?_; refine wp_if_pos (by simp [full]) ?_)
        | (refine wp_if_pos (by simp [full]) ?_; refine wpAny_bind ?_)
      have five : (L.length + 1) * 5 ≥ t1.mask * 3 := by
        have z := full
        unfold SetTable.tooFull at z
        rwa [decide_eq_true_eq, q9, List.length_map] at z
      rw [el]
      have two : (t.mask = 7 ∧ L.length = 4) ∨ (t.mask = 31 ∧ L.length = 18) := by
        rcases R.tab.mok with e | e | e
        · exact .inl ⟨e, by rw [q4, e] at five; rw [e] at hroom; omega⟩
        · exact .inr ⟨e, by rw [q4, e] at five; rw [e] at hroom; omega⟩
        · exact absurd five (by rw [q4, e]; omega)
      have go : ∀ M, SetTable.sizeAbove (SetTable.grown (L.length + 1)) - 1 = M → MaskOk M → SetTable.sizeAbove (SetTable.grown (L.length + 1)) ≤ 128 → (L.length + 1) * 5 < M * 3 →
          wpAny (model P w) A (setRelay a (SetTable.grown (L.length + 1))) (fun _ s' => wpAny (model P w) A (pure true) Q E s') E { s with heap := h1 } := fun M m1 m2 m3 m4 =>
        sr_relay (s := { s with heap := h1 }) ho1 ⟨hex.1, hex.2.1, hex.2.2⟩ rfl ein ps1 q3.dm (by rw [es1l, q4]; rcases two with ⟨e, e2⟩ | ⟨e, e2⟩ <;> omega) nd1 mem1 pl1 ld1 (by rw [l1]; exact few) m1 m2 m3 (by rw [l1]; exact m4)
          fun h2 L2 es2 ep2 t2 sb2 R2 pm2 => wpAny_pure (q true h2 L2 es2 ep2 t2 (sb.trans sb2) R2 (fun z => absurd z hm) fun _ => pm2.trans pm)
      rcases two with ⟨_, e2⟩ | ⟨_, e2⟩
      · exact go 31 (by rw [e2, size_20]) (.inr (.inl rfl)) (by rw [e2, size_20]; decide) (by omega)
      · exact go 127 (by rw [e2, size_76]) (.inr (.inr rfl)) (by rw [e2, size_76]; decide) (by omega)
    · first
        | refine wp_if_neg (by simp [full]) ?_
        | (refine wpAny_bind ?_; refine wp_if_neg (by simp [full]) ?_; refine wpAny_pure ?_)
      have z := full
      unfold SetTable.tooFull at z
      rw [decide_eq_true_eq, q9, List.length_map] at z
      exact wpAny_pure (q true h1 L1 es1 (ep + 1) t1 sb ⟨⟨_, ho1, ⟨hex.1, hex.2.1, hex.2.2⟩, rfl⟩, ein, q3, nd1, mem1, pl1, ld1, by rw [l1]; omega, by rw [l1]; exact few⟩ (fun y => absurd y hm) fun _ => pm)
theorem sr_fresh {h : Heap} {a : Addr} (ho : h.get? a = some { cls := .type "set", dict := none, data := .set #[] 0 (.fresh 0 0 (!w.params.followText "set-order")) }) : SR kd h a [] #[] 0 (.fresh 0 0 (!w.params.followText "set-order")) where
  ob := ⟨_, ho, ⟨rfl, rfl, rfl⟩, rfl⟩
  rows := rfl
  tab := ⟨List.Pairwise.nil, rfl, rfl, .inl rfl, (fun x hx => (nomatch hx)), (fun i h j hi => by simp at hi)⟩
  nd := List.nodup_nil
  mem := fun p hp => (nomatch hp)
  plain := rfl
  led := by
    show _ ∨ (!w.params.followText "set-order") = true
    cases w.params.followText "set-order"
    · exact .inr rfl
    · exact .inl rfl
  room := by
    show 0 * 5 < 7 * 3
    decide
  few := by
    show 0 < 64
    decide
/-- found.add(x) -/
theorem sr_add_call (R : SR kd s.heap a L es ep t) {x : Addr} {k : κ} (hx : kd.is s.heap k x) (hu : A.units + 9 < cLine) (few : L.length + 1 < 64) {Q : Value → Shared → Prop}
    (q : ∀ h' L' es' ep' t' tk, Heap.SameBut a s.heap h' → SR kd h' a L' es' ep' t' → (k ∈ L.map (·.2) → L' = L) → (k ∉ L.map (·.2) → L'.Perm ((x, k) :: L)) → Q .none { s with heap := h', toks := tk }) :
    wpAny (model P w) A (call (.builtin "set.add") [.ref a, .ref x]) Q E s := by
  have hT : s.TypeIs (.ref a) "set" := by
    obtain ⟨o, ho, hex, _⟩ := R.ob
    exact ⟨o, ho, hex.1⟩
  have hu1 : A.in1.units + 8 < cLine := by
    show A.units + 1 + 8 < cLine
    omega
  refine wpAny_call_entry F.slot_set_add hT F.entry_set_add ?_ (F.args_set_add_2 _ _)
  unfold Builtin.«set.add» Builtin.Frozenset.oneOther
  simp only [List.isEmpty_nil, bind_assoc]
  unfold Builtin.Frozenset.addrOf setAdd
  refine wpAny_bind (wpAny_pure ?_)
  try dsimp only
  refine wpAny_bind (wpAny_pure ?_)
  try dsimp only
  refine wpAny_bind (wpAny_holding ?_)
  refine wpAny_bind (kd.pyH hu1 hx ?_)
  refine sr_add (s := { s with toks := s.toks + kd.draws k }) R hx hu1 few fun b h' L' es' ep' t' sb r e1 e2 => ?_
  show wpAny _ _ (ret Value.none) _ _ _
  exact wpAny_pure ⟨_, rfl, q h' L' es' ep' t' _ sb r e1 e2⟩
end
end SG
namespace SG
open PySem PySem.Spec PyProof.Rows L2 PpSet
/-! ### members (n, .., m): a tuple of ints, the last one apart -/
abbrev Fm := List Int × Int
def emb (k : Fm) : NestedKey := .tup ((k.1 ++ [k.2]).map .num)
theorem num_inj : ∀ {a b : List Int}, a.map NestedKey.num = b.map NestedKey.num → a = b
  | [], [], _ => rfl
  | [], _ :: _, h => by cases h
  | _ :: _, [], h => by cases h
  | x :: a, y :: b, h => by
    injection h with h1 h2
    injection h1 with h1
    rw [h1, num_inj h2]
theorem emb_inj {a b : Fm} (h : emb a = emb b) : a = b := by
  unfold emb at h
  injection h with h
  have e := num_inj h
  obtain ⟨h1, h2⟩ := List.append_inj' e rfl
  injection h2 with h2 _
  exact Prod.ext h1 h2
theorem emb_dec (a b : Fm) : decide (emb a = emb b) = decide (a = b) := by
  by_cases h : a = b
  · rw [h, decide_eq_true rfl, decide_eq_true rfl]
  · rw [decide_eq_false h, decide_eq_false fun z => h (emb_inj z)]
theorem nums_depth : ∀ l : List Int, NestedKey.depthAll (l.map .num) = 0
  | [] => rfl
  | _ :: l => by
    show max 0 (NestedKey.depthAll (l.map .num)) = 0
    rw [nums_depth l]
    rfl
theorem emb_depth (k : Fm) : (emb k).depth = 1 := by
  show NestedKey.depthAll ((k.1 ++ [k.2]).map .num) + 1 = 1
  rw [nums_depth]
section
variable {P : Program} {w : World} {A : Around} {E : Value → Shared → Prop} {s : Shared}
theorem num_val {h : Heap} {i : Int} {v : Value} (x : NestedIs h (.num i) v) : carriedByValue v = true ∧ (∀ n, ofAClassStatement n v = pure false) ∧ ∀ n, hashByValue n v = pure true := by
  cases x with
  | bool e => exact ⟨rfl, fun n => by cases n <;> rfl, fun n => by cases n <;> rfl⟩
  | int _ _ => exact ⟨rfl, fun n => by cases n <;> rfl, fun n => by cases n <;> rfl⟩
theorem nums_val {h : Heap} : ∀ {l : List Int} {vs : List Value}, NestedAll h (l.map .num) vs → ∀ v ∈ vs, (∀ n, ofAClassStatement n v = pure false) ∧ ∀ n, hashByValue n v = pure true
  | [], _, x, v, hv => by cases x; cases hv
  | i :: l, _, x, v, hv => by
    cases x with
    | cons x1 x2 =>
      rcases List.mem_cons.mp hv with e | hv
      · rw [e]
        exact (num_val x1).2
      · exact nums_val x2 v hv
/-- a tuple is of no class statement, if its items are of none -/
theorem cls_tup {a : Addr} {o : Obj} {vs : Array Value} {m d : Nat} {Q : Bool → Shared → Prop} (ho : s.heap.get? a = some o) (hc : o.cls = .type "tuple") (hd : o.data = .seq vs m)
    (hi : ∀ v ∈ vs.toList, ∀ (Q' : Bool → Shared → Prop), Q' false s → wpAny (model P w) A (ofAClassStatement d v) Q' E s) (q : Q false s) : wpAny (model P w) A (ofAClassStatement (d + 1) (.ref a)) Q E s := by
  have hT : s.TypeIs (.ref a) "tuple" := ⟨o, ho, hc⟩
  unfold ofAClassStatement
  refine wpAny_bind (wpAny_typeOf hT ?_)
  dsimp only
  simp only [show (("tuple" : String) == "tuple") = true by decide, if_true, Bool.not_true, Bool.false_eq_true, if_false]
  try refine wpAny_bind (wpAny_pure ?_)
  try simp only [Bool.not_true, Bool.false_eq_true, if_false]
  show wpAny _ _ (seqItems? (.ref a) >>= _) _ _ s
  refine wpAny_bind (wpAny_seqItems ho hd ?_)
  dsimp only
  refine wpAny_bind ?_
  show wpAny _ _ (forIn vs _ _) _ _ s
  rw [← Array.forIn_toList]
  refine wpAny_forIn_list _ (fun left r s2 => r.1 = none ∧ s2 = s ∧ ∀ v ∈ left, v ∈ vs.toList) _ ?_ ?_ _ _ ⟨rfl, rfl, fun _ h => h⟩
  · rintro v left r s2 ⟨er, rfl, al⟩
    refine wpAny_bind (hi v (al v List.mem_cons_self) _ ?_)
    simp only [Bool.false_eq_true, if_false]
    exact wpAny_pure ⟨rfl, rfl, fun u hu => al u (List.mem_cons_of_mem _ hu)⟩
  · rintro ⟨r1, r2⟩ s2 ⟨er, rfl, _⟩
    simp only at er
    subst er
    exact wpAny_pure q
theorem hby_tup {a : Addr} {o : Obj} {vs : Array Value} {m d : Nat} {Q : Bool → Shared → Prop} (ho : s.heap.get? a = some o) (hc : o.cls = .type "tuple") (hd : o.data = .seq vs m)
    (hi : ∀ v ∈ vs.toList, ∀ (Q' : Bool → Shared → Prop), Q' true s → wpAny (model P w) A (hashByValue d v) Q' E s) (q : Q true s) : wpAny (model P w) A (hashByValue (d + 1) (.ref a)) Q E s := by
  have hT : s.TypeIs (.ref a) "tuple" := ⟨o, ho, hc⟩
  unfold hashByValue
  refine wpAny_bind (wpAny_specialOf hT F.slot_tuple_hash.lookup ?_)
  show wpAny _ _ (seqItems? (.ref a) >>= _) _ _ s
  refine wpAny_bind (wpAny_seqItems ho hd ?_)
  refine wpAny_bind ?_
  show wpAny _ _ (forIn vs _ _) _ _ s
  rw [← Array.forIn_toList]
  refine wpAny_forIn_list _ (fun left r s2 => r.1 = none ∧ s2 = s ∧ ∀ v ∈ left, v ∈ vs.toList) _ ?_ ?_ _ _ ⟨rfl, rfl, fun _ h => h⟩
  · rintro v left r s2 ⟨er, rfl, al⟩
    refine wpAny_bind (hi v (al v List.mem_cons_self) _ ?_)
    simp only [Bool.not_true, Bool.false_eq_true, if_false]
    exact wpAny_pure ⟨rfl, rfl, fun u hu => al u (List.mem_cons_of_mem _ hu)⟩
  · rintro ⟨r1, r2⟩ s2 ⟨er, rfl, _⟩
    simp only at er
    subst er
    exact wpAny_pure q
end
def KF (P : Program) (w : World) : Kd P w Fm where
  is := fun h k a => NestedIs h (emb k) (.ref a)
  hash := fun k => (emb k).hash w
  draws := fun k => (emb k).draws
  keep := fun x k => NestedIs.at (fun b o vs n hb hd => k b o hb ⟨vs, n, hd⟩) _ _ x
  eqB := fun {A E s x y a b Q} hu hx hy q => eqAt_key (emb x) (emb y) A s _ _ hx hy (by rw [emb_depth, emb_depth]; omega) _ _ _ _ (by rw [← NestedKey.decide_eq, emb_dec]; exact q)
  pyH := fun {A E s k a Q} hu hk q => pyHash_key _ _ _ _ _ hk (by rw [emb_depth]; omega) q
  quiet := fun {A E s k a Q} hk q => quiet_key (emb k) (.ref a) 8 s hk (by rw [emb_depth]; decide) _ _ _ q
  noCls := fun {A E s k a Q} hk q => by
    cases hk with
    | tup ho hc hd hi => exact cls_tup ho hc hd (fun v hv Q' q' => by rw [(nums_val hi v hv).1]; exact wpAny_pure q') q
  byV := fun {A E s k a Q} hk q => by
    cases hk with
    | tup ho hc hd hi => exact hby_tup ho hc hd (fun v hv Q' q' => by rw [(nums_val hi v hv).2]; exact wpAny_pure q') q
end SG
namespace SG
open PySem PySem.Spec PyProof.Rows L2 PpSet
/-- the set's own object -/
structure S0 (P : Program) (w : World) (h : Heap) (a : Addr) (L : List (Addr × Fm)) (es : Array (Int × Value)) (ep : Nat) (t : SetTable) : Prop where
  ob : ∃ o, h.get? a = some o ∧ o.ExactSet ∧ o.data = .set es ep t
  rows : es.toList = rowsG (KF P w) L
  tab : TabOk t (L.map fun p => (KF P w).hash p.2)
  nd : (L.map (·.2)).Nodup
  plain : t.plain = true
  led : w.params.followText "set-order" = true ∨ t.led = true
  room : L.length * 5 < t.mask * 3
  few : L.length < 64
theorem SR.s0 {P : Program} {w : World} {h : Heap} {a : Addr} {L : List (Addr × Fm)} {es : Array (Int × Value)} {ep : Nat} {t : SetTable} (R : SR (KF P w) h a L es ep t) : S0 P w h a L es ep t := ⟨R.ob, R.rows, R.tab, R.nd, R.plain, R.led, R.room, R.few⟩
theorem S0.sr {P : Program} {w : World} {h : Heap} {a : Addr} {L : List (Addr × Fm)} {es : Array (Int × Value)} {ep : Nat} {t : SetTable} (R : S0 P w h a L es ep t) (m : ∀ p ∈ L, (KF P w).is h p.2 p.1) : SR (KF P w) h a L es ep t := ⟨R.ob, R.rows, R.tab, R.nd, m, R.plain, R.led, R.room, R.few⟩
/-- a set of members at a: which objects, which keys -/
def SetGO (P : Program) (w : World) (a : Addr) (L : List (Addr × Fm)) : HO := .ext fun h => ∃ es ep t, S0 P w h a L es ep t
theorem setGO_ok {P : Program} {w : World} {H : Hp} {h : Heap} {a : Addr} {L : List (Addr × Fm)} {es : Array (Int × Value)} {ep : Nat} {t : SetTable} (R : S0 P w h a L es ep t) : ObjOk P w H h a (SetGO P w a L) := by
  refine ⟨⟨es, ep, t, R⟩, ?_, fun h1 h2 ⟨es, ep, t, q⟩ k => ⟨es, ep, t, ?_⟩⟩
  · obtain ⟨o, ho, _⟩ := R.ob
    exact ⟨o, ho⟩
  · obtain ⟨o, ho, r⟩ := q.ob
    exact ⟨⟨o, k o ho, r⟩, q.rows, q.tab, q.nd, q.plain, q.led, q.room, q.few⟩
/-- the tuple at a is (n, .., m) -/
def VF (K : PySem.W.Frag) (H : Hp) (a : Addr) (k : Fm) : Prop := SqT K H a ((k.1 ++ [k.2]).map V.int)
theorem nums_all {h : Heap} : ∀ {l : List Int} {us : List Value}, Vals (l.map V.int) us → NestedAll h (l.map .num) us
  | [], _, .nil => .nil
  | i :: l, _, .cons r t => by
    obtain ⟨tk, rfl⟩ := r
    exact .cons (.int i tk) (nums_all t)
section
variable {X : Cx} {pins : List (Addr × Obj)} {σ : L2.St} {H : Hp} {s : Shared}
theorem vf_is (I : Inv X pins σ H s) {a : Addr} {k : Fm} (h : VF X.K H a k) : (KF X.prog X.w).is s.heap k a := by
  obtain ⟨us, r, ⟨o, ho, hc, n, hd⟩, _⟩ := I.tuple h
  exact NestedIs.tup ho hc hd (nums_all r)
/-- a member is added -/
theorem addG_ok (hu : X.A.units + 64 < cLine) {E : Value → Shared → Prop} {D x : Addr} {k : Fm} {L : List (Addr × Fm)} {Q : Value → Shared → Prop} (I : Inv X pins σ H s) (hD : H D = some (SetGO X.prog X.w D L)) (hx : VF X.K H x k) (hm : ∀ p ∈ L, VF X.K H p.1 p.2) (few : L.length + 1 < 64)
    (q : ∀ L' s', (k ∈ L.map (·.2) → L' = L) → (k ∉ L.map (·.2) → L'.Perm ((x, k) :: L)) → Inv X pins σ (upd H D (SetGO X.prog X.w D L')) s' → Q .none s') : wpAny (model X.prog X.w) X.A (call (.builtin "set.add") [.ref D, .ref x]) Q E s := by
  obtain ⟨es, ep, t, R⟩ := (show ObjOk X.prog X.w H s.heap D (SetGO X.prog X.w D L) from I.hok D _ hD).1
  refine sr_add_call (R.sr fun p hp => vf_is I (hm p hp)) (vf_is I hx) (by omega) few fun h' L' es' ep' t' tk sb r e1 e2 => q L' _ e1 e2 ?_
  have new := r.s0
  have he : ∃ u, h'.get? D = some u := by
    obtain ⟨o, ho, _⟩ := new.ob
    exact ⟨o, ho⟩
  exact I.write (e := D) (t' := tk) (by rw [hD]; trivial) (.inl rfl) (fun b u hb hu => (sb.2 b hb).trans hu) he (setGO_ok new)
/-- {elt for target in iter if ..}, elt a member: D the new set -/
def tSg (P : Program) (w : World) (K : PySem.W.Frag) (wi : TI) (g : TG) (tt : TT) (te : TE) (vs : List Nat) : TE := fun σ H Q => wi σ H fun J H1 => ∀ D, H1 D = none → ∃ W : Nat → Nat → Hp → Prop, (∃ m, W 0 m (upd H1 D (SetGO P w D []))) ∧ ∀ i m H, W i m H →
  (J.stop i H ∧ Q (.ref D) H) ∨ (J.go i H ∧ ∃ Nx : Hp → Prop, (∀ H', Nx H' → ∃ m', m' < m ∧ W (i + 1) m' H') ∧ ∀ x H', J.yld i H x H' → g x (wipe σ vs) H' fun σ2 H2 => wipe σ2 vs = wipe σ vs ∧ tt σ2 H2 fun b H3 =>
    if b = true then te σ2 H3 fun y H4 => ∃ (x : Addr) (k : Fm) (L : List (Addr × Fm)), y = .ref x ∧ VF K H4 x k ∧ H4 D = some (SetGO P w D L) ∧ (∀ p ∈ L, VF K H4 p.1 p.2) ∧ L.length + 1 < 64 ∧
      (∀ L', (k ∈ L.map (·.2) → L' = L) → (k ∉ L.map (·.2) → L'.Perm ((x, k) :: L)) → Nx (upd H4 D (SetGO P w D L'))) else Nx H3)
theorem pe_sg {Q0 : True} {elt tg iter : Expr} {ifs : List Expr} {scope : Scope} {own : List (PySem.Str × Nat)} {pos : Pos} {wi : TI} {g : TG} {tt : TT} {te : TE} (hc : X.calm = true) (hu : X.A.units + 64 < cLine) (hN : X.N.Nodup) (hi : PI X tg iter wi) (ok : BlkOk X.N X.env.scope scope own)
    (hg : ∀ (s : Shared) (H : Hp) (C : Addr) (cl : List (PySem.Str × Addr)) (fp : List Addr), PG (X.blk s H scope (compEnvC scope cl C X.env) fp) tg g) (ht : ∀ (s : Shared) (H : Hp) (C : Addr) (cl : List (PySem.Str × Addr)) (fp : List Addr), PTs (X.blk s H scope (compEnvC scope cl C X.env) fp) ifs tt)
    (he : ∀ (s : Shared) (H : Hp) (C : Addr) (cl : List (PySem.Str × Addr)) (fp : List Addr), PE (X.blk s H scope (compEnvC scope cl C X.env) fp) elt te) (hs : ∀ x, foldedSetIterable iter X.env x = pure x := by intro _; rfl) :
    PE X (.SetComp elt [⟨tg, iter, ifs, 0⟩] scope pos) (tSg X.prog X.w X.K wi g tt te (own.map (·.2))) := by
  refine ⟨fun pins s σ H Q I h => ?_⟩
  rw [eval_SetComp]
  have hfree : ∀ y ∈ scope.names, y.2 = .free → ∃ c, X.env.cells.lookup y.1 = some c := fun y hy e => I.ok.has _ (ok.free y hy e)
  refine wpAny_comprehension_free (use := none) rfl hs (closure_ok hfree) ok.kind (fun y hy e => by rw [ok.uniq y hy, e]) (thn (hi.run pins s σ H _ I h) fun xv s1 hx => thn hx fun itv s2 h2 => ?_)
  obtain ⟨it, fp, tn, J, H2, e, I2, T, st2, f2, q⟩ := h2
  subst e
  refine newSet_ok (newEnv_comp ?_)
  obtain ⟨D, hD⟩ : ∃ D, s2.heap.objs.size = D := ⟨_, rfl⟩
  rw [hD]
  obtain ⟨W, ⟨m0, w0⟩, turn⟩ := q D (I2.hok.fresh (Nat.le_of_eq hD))
  obtain ⟨s3, hs3⟩ : ∃ s3 : Shared, s3 = { s2 with heap := s2.heap.push { cls := .type "set", dict := none, data := .set #[] 0 (.fresh 0 0 (!X.w.params.followText "set-order")) } } := ⟨_, rfl⟩
  rw [← hs3]
  have h3 : s3.heap = s2.heap.push { cls := .type "set", dict := none, data := .set #[] 0 (.fresh 0 0 (!X.w.params.followText "set-order")) } := by rw [hs3]
  have I3 : Inv X pins σ (upd H2 D (SetGO X.prog X.w D [])) s3 := by
    rw [hs3]
    refine I2.laid (t' := s2.toks) (fun b o e => Heap.get?_push_of_some _ e) (Nat.le_of_eq hD) ?_
    rw [← hD]
    exact setGO_ok (SR.s0 (sr_fresh (Heap.get?_push_size _ rfl)))
  have below : ∀ b ∈ fp, b < s2.heap.objs.size := fun b hb => by
    obtain ⟨o, e, _⟩ := T.obj _ _ st2 b hb
    exact Heap.lt_size e
  have f3 : ∀ b ∈ fp, FpOk X pins (upd H2 D (SetGO X.prog X.w D [])) b ∧ b < s3.heap.objs.size := fun b hb => by
    have hlt := below b hb
    refine ⟨⟨?_, (f2 b hb).2⟩, by rw [h3, Heap.size_push]; exact Nat.lt_succ_of_lt hlt⟩
    rw [upd_ne (by rw [← hD]; exact Nat.ne_of_lt hlt)]
    exact (f2 b hb).1
  have st3 : tn 0 s3.heap := T.keep _ _ _ st2 fun b _ o e => by rw [h3]; exact Heap.get?_push_of_some _ e
  generalize hH3 : upd H2 D (SetGO X.prog X.w D []) = H3 at I3 w0 f3
  have I4 := block_start I3 ok hN f3
  have pg := hg s3 H3 s3.heap.objs.size (cellsFrom (s3.heap.objs.size + 1) scope.names (cloFrom X.env.cells scope.names [])) fp
  have pt := ht s3 H3 s3.heap.objs.size (cellsFrom (s3.heap.objs.size + 1) scope.names (cloFrom X.env.cells scope.names [])) fp
  have pe := he s3 H3 s3.heap.objs.size (cellsFrom (s3.heap.objs.size + 1) scope.names (cloFrom X.env.cells scope.names [])) fp
  have post : ∀ s' m H', Inv X pins σ H' s' → Q (.ref D) H' → s'.heap.Ns s3.heap.objs.size m → FpOk X pins H' s3.heap.objs.size → compPost (model X.prog X.w) X.A X.xe none (EP X pins σ Q) (.ref D) s3.heap.objs.size (.ok .next) s' := fun s' m H' I' q hn f => ⟨m, hn, fun h'' sb => by
    obtain ⟨z0, z1, z2, z3, z4, z5⟩ := f
    exact ⟨.ref D, H', I'.turned (t' := s'.toks) (fun b o hb e => (sb.2 b hb).trans e) z0 z1 z3 z4 z5, rfl, q⟩⟩
  show codeAny _ _ (.compStart (.SetComp elt [⟨tg, iter, ifs, 0⟩] scope pos) 0 (.ref it) (.ref D) (compEnvC scope (cellsFrom (s3.heap.objs.size + 1) scope.names (cloFrom X.env.cells scope.names [])) s3.heap.objs.size X.env)) (compPost (model X.prog X.w) X.A X.xe none (EP X pins σ Q) (.ref D) s3.heap.objs.size) { s3 with heap := pushCells (s3.heap.push { cls := .type "dict", data := .dict #[] }) scope.names }
  have n3 : ∀ b ∈ fp, H3 b = none := fun b hb => (f3 b hb).1.1
  generalize hce : compEnvC scope (cellsFrom (s3.heap.objs.size + 1) scope.names (cloFrom X.env.cells scope.names [])) s3.heap.objs.size X.env = ce at I4 pg pt pe ⊢
  have cL : ce.locals = s3.heap.objs.size := by subst hce; rfl
  generalize hs4 : ({ s3 with heap := pushCells (s3.heap.push { cls := .type "dict", data := .dict #[] }) scope.names } : Shared) = s4 at I4 ⊢
  have st4 : tn 0 s4.heap := T.keep _ _ _ st3 fun b _ o e => by rw [← hs4]; exact pushCells_keeps _ _ _ _ (Heap.get?_push_of_some _ e)
  have stat : ∀ {σ' : L2.St} {H' : Hp} {s' : Shared}, Inv (X.blk s3 H3 scope ce fp) [] σ' H' s' → (∀ b ∈ fp, H' b = none) → ∀ b ∈ fp, FpOk (X.blk s3 H3 scope ce fp) [] H' b := fun {σ' H' s'} I' hn b hb =>
    ⟨hn b hb, (I'.ok.exf b hb).1, I'.ok.exfs b hb, .inl hb, fun x c e => (I'.ok.exf b hb).2 x c e, fun p hp => absurd (show p ∈ ([] : List (Addr × Obj)) ++ [] from hp) (by simp)⟩
  have loop : codeAny (model X.prog X.w) X.A (.compLoop (.SetComp elt [⟨tg, iter, ifs, 0⟩] scope pos) 0 (.ref it) (.ref D) ce) (compPost (model X.prog X.w) X.A X.xe none (EP X pins σ Q) (.ref D) s3.heap.objs.size) s4 := by
    refine compLoopS_any (fun n s' => ∃ i H', Inv (X.blk s3 H3 scope ce fp) [] (wipe σ (own.map (·.2))) H' s' ∧ tn i s'.heap ∧ (∀ b ∈ fp, H' b = none) ∧ W i n H') ?_ m0 ⟨0, H3, I4, st4, n3, w0⟩
    rintro n s5 ⟨i, H5, I5, st5, n5, w5⟩
    rcases turn i n H5 w5 with ⟨stop, qq⟩ | ⟨go, Nx, hNx, step⟩
    · refine thnF (T.done (X.blk s3 H3 scope ce fp) rfl rfl rfl hc i [] s5 _ H5 (fun _ _ => False) I5 (stat I5 n5) st5 stop) fun r s6 ⟨hr, I6⟩ => ?_
      subst hr
      have I7 : Inv X pins σ H5 s6 := I3.call' (ch := fp) I6.os I6.base I6.hok I6.bare fun b hb => ⟨(f3 b hb).1.2.2.2.1, (f3 b hb).1.2.1, (f3 b hb).1.2.2.2.2.1, (f3 b hb).1.2.2.2.2.2⟩
      have nC : H5 s3.heap.objs.size = none := by
        have z : H5 ce.locals = none := I6.free
        rwa [cL] at z
      obtain ⟨m, hn, _⟩ := I6.loc
      have hn2 : s6.heap.Ns ce.locals m := hn
      rw [cL] at hn2
      exact post s6 m H5 I7 qq hn2 (I3.fpOk (Nat.le_refl _) nC)
    · refine thnF (T.item (X.blk s3 H3 scope ce fp) rfl rfl rfl hc i [] s5 _ H5 (fun _ _ => False) I5 (stat I5 n5) st5 go) fun r s6 ⟨u, hr, h6⟩ => ?_
      subst hr
      refine thnF h6 fun _ s7 ⟨x, H7, I7, r7, y7, st7, n7⟩ => ?_
      refine thnF (pg.run _ s7 _ H7 x u _ (I7.pinned (stat I7 n7) (T.obj _ _ st7)) r7 (step x H7 y7)) fun _ s8 ⟨σ8, H8, I8, hw8, q8⟩ => ?_
      refine thnF (pt.run _ s8 σ8 H8 _ I8 q8) fun b s9 ⟨H9, I9, q9⟩ => ?_
      have fin : ∀ {s' : Shared} {H' : Hp}, Inv (X.blk s3 H3 scope ce fp) ([] ++ pinsAt fp s7.heap) σ8 H' s' → Nx H' → ∃ m, m < n ∧ ∃ i H', Inv (X.blk s3 H3 scope ce fp) [] (wipe σ (own.map (·.2))) H' s' ∧ tn i s'.heap ∧ (∀ b ∈ fp, H' b = none) ∧ W i m H' := fun {s' H'} I' nx => by
        obtain ⟨m', hm, w'⟩ := hNx H' nx
        have pin' : ∀ b ∈ fp, ∀ o, s7.heap.get? b = some o → s'.heap.get? b = some o ∧ H' b = none := fun b hb o e =>
          let z := I'.pin (b, o) (List.mem_append_right _ (List.mem_append_right _ (mem_pinsAt hb e)))
          ⟨z.1, z.2.1⟩
        have hl : (wipe σ (own.map (·.2))).length = σ8.length := by rw [← hw8, wipe_length]
        refine ⟨m', hm, i + 1, H', (I'.unpinned (pins := [])).weak hl (fun j v e => ?_), T.keep _ _ _ st7 fun b hb o e => (pin' b hb o e).1, fun b hb => ?_, w'⟩
        · rw [← hw8] at e
          exact (wipe_some e).1
        · obtain ⟨o, e, _⟩ := T.obj _ _ st7 b hb
          exact (pin' b hb o e).2
      cases b with
      | false =>
        simp only [Bool.false_eq_true, if_false] at q9 ⊢
        exact fin I9 q9
      | true =>
        simp only [if_true] at q9 ⊢
        refine thnF (pe.run _ s9 σ8 H9 _ I9 q9) fun z s10 ⟨yv, H10, I10, r10, xa, k, L, ey, vf, hD10, hm, few, nx⟩ => ?_
        subst ey
        cases (show z = Value.ref xa from r10)
        exact addG_ok (X := X.blk s3 H3 scope ce fp) hu I10 hD10 vf hm few fun L' s11 e1 e2 I11 => fin I11 (nx L' e1 e2)
  exact codeAny_compStart_set loop (T.self X.A 0 _ _ _ st4 loop)
end
end SG
namespace SG
open PySem PySem.Spec PyProof.Rows L2 PpSet
section
variable {X : Cx}
/-- len of a set of members -/
theorem len_setG : CallR X (.builtin "len") (fun xs H Q => ∃ (D : Addr) (L : List (Addr × Fm)), xs = [.ref D] ∧ H D = some (SetGO X.prog X.w D L) ∧ Q (.int L.length) H) := by
  intro pins s σ H xs us Q I r h
  obtain ⟨D, L, rfl, hD, q⟩ := h
  cases r with
  | cons r1 r2 =>
    cases r2
    cases r1
    obtain ⟨es, ep, t, R⟩ := (show ObjOk X.prog X.w H s.heap D (SetGO X.prog X.w D L) from I.hok D _ hD).1
    obtain ⟨o, ho, hex, hd⟩ := R.ob
    have el : es.size = L.length := by
      have z := congrArg List.length R.rows
      rwa [rowsG_len, Array.length_toList] at z
    have e2 := R.tab.sz
    rw [List.length_map] at e2
    have hroom := R.room
    have few := R.few
    have fits : t.fits es.size = true := by
      unfold SetTable.fits SetTable.fill
      rw [R.tab.dm, Bool.and_eq_true, beq_iff_eq, decide_eq_true_eq]
      exact ⟨by omega, by show t.place.size + 0 ≤ t.mask; omega⟩
    refine call_len_set ho hex hd fits (by omega) ⟨.int L.length, H, I.tok _, ⟨_, by rw [el]⟩, q⟩
end
/-- over a tuple that the block leaves as it is -/
theorem sg_tup {P : Program} {w : World} {K : PySem.W.Frag} {a : Addr} {xs : List V} {g : TG} {tt : TT} {te : TE} {vs : List Nat} {σ : L2.St} {H1 : Hp} {D : Addr} {Qd : Hp → Prop} (Pv : Nat → Hp → Prop) (h0 : Pv 0 (upd H1 D (SetGO P w D []))) (hl : ∀ i H, i ≤ xs.length → Pv i H → SqT K H a xs)
    (hs : ∀ i x H, xs[i]? = some x → Pv i H → g x (wipe σ vs) H fun σ2 H2 => wipe σ2 vs = wipe σ vs ∧ tt σ2 H2 fun b H3 =>
      if b = true then te σ2 H3 fun y H4 => ∃ (x : Addr) (k : Fm) (L : List (Addr × Fm)), y = .ref x ∧ VF K H4 x k ∧ H4 D = some (SetGO P w D L) ∧ (∀ p ∈ L, VF K H4 p.1 p.2) ∧ L.length + 1 < 64 ∧
        (∀ L', (k ∈ L.map (·.2) → L' = L) → (k ∉ L.map (·.2) → L'.Perm ((x, k) :: L)) → Pv (i + 1) (upd H4 D (SetGO P w D L'))) else Pv (i + 1) H3) (hd : ∀ H, Pv xs.length H → Qd H) :
    ∃ W : Nat → Nat → Hp → Prop, (∃ m, W 0 m (upd H1 D (SetGO P w D []))) ∧ ∀ i m H, W i m H →
      ((Itt K a).stop i H ∧ Qd H) ∨ ((Itt K a).go i H ∧ ∃ Nx : Hp → Prop, (∀ H', Nx H' → ∃ m', m' < m ∧ W (i + 1) m' H') ∧ ∀ x H', (Itt K a).yld i H x H' → g x (wipe σ vs) H' fun σ2 H2 => wipe σ2 vs = wipe σ vs ∧ tt σ2 H2 fun b H3 =>
        if b = true then te σ2 H3 fun y H4 => ∃ (x : Addr) (k : Fm) (L : List (Addr × Fm)), y = .ref x ∧ VF K H4 x k ∧ H4 D = some (SetGO P w D L) ∧ (∀ p ∈ L, VF K H4 p.1 p.2) ∧ L.length + 1 < 64 ∧
          (∀ L', (k ∈ L.map (·.2) → L' = L) → (k ∉ L.map (·.2) → L'.Perm ((x, k) :: L)) → Nx (upd H4 D (SetGO P w D L'))) else Nx H3) := by
  refine ⟨fun i m H => m = xs.length - i ∧ i ≤ xs.length ∧ Pv i H, ⟨xs.length, by simp, Nat.zero_le _, h0⟩, ?_⟩
  rintro i m H ⟨rfl, hi, p⟩
  have q := hl i H hi p
  by_cases hlt : i < xs.length
  · refine .inr ⟨⟨xs, xs[i], q, by simp [hlt]⟩, Pv (i + 1), fun H' p' => ⟨xs.length - (i + 1), by omega, rfl, hlt, p'⟩, fun x H' y => ?_⟩
    obtain ⟨e, y⟩ := y
    subst e
    exact hs i x _ (y xs q) p
  · have e : i = xs.length := by omega
    subst e
    exact .inl ⟨⟨xs, q, Nat.le_refl _⟩, hd H p⟩
end SG
namespace GA
open PySem PySem.Spec PyProof.Rows L2 GenW GxR

/-- the frame of a generator expression runs: around it, its consumer's two units -/
abbrev arG (X : Cx) (cenv : Env) : Around := X.A.in1.in1.deeper cenv
/-- the context of a generator expression's frame -/
abbrev cxG (X : Cx) (s : Shared) (H : Hp) (cenv : Env) (fp : List Addr) : Cx :=
  { X with A := arG X cenv, s_0 := s, H_0 := H, env := cenv, outer := X.stack, stack := cenv :: X.stack, ex := fp, fn := fun _ => false, calm := true, pn := [], xe := fun _ _ => False }
/-- the frame's names, its cells, its object at C -/
abbrev envG (X : Cx) (scope : Scope) (C : Addr) (code : Value) : Env := genEnv scope (cloFrom X.env.cells scope.names []) C code builtinsNs X.env
/-- the expression's own scope: no cells of its own -/
structure GenOk (N : List Str) (sc scope : Scope) (own : List (Str × Nat)) : Prop extends BlkOk N sc scope own where
  co : scope.isCoroutine = false
  cell : ∀ y ∈ scope.names, y.2 ≠ .cell
  dot : scope.names.lookup (".0" : Str) = some NameKind.local

theorem over_gen {A : Around} {elt : Expr} {cls : List Comprehension} {scope : Scope} {pos : Pos} {it acc : Value} {env : Env} : A.over (.compLoop (.GeneratorExp elt cls scope pos) 0 it acc env) [] = A.deeper env := by
  first
    | rfl
    | (obtain ⟨hd, d, fr, gs, u⟩ := A; simp [Around.over, Around.deeper, marksOver, frameCount, unitsOf, envsOf, guardsOf, pushEnvs, pushGuards, Code.envs, Code.env?, Code.isFrame, Code.guards, Code.isGuard, Code.weight, Code.frames, Code.isCreation, Code.isCaller, Code.cUnits])
theorem over_gen0 {A : Around} {elt : Expr} {cls : List Comprehension} {scope : Scope} {pos : Pos} {it acc : Value} {env : Env} : A.over (.compStart (.GeneratorExp elt cls scope pos) 0 it acc env) [] = A.deeper env := by
  first
    | rfl
    | (obtain ⟨hd, d, fr, gs, u⟩ := A; simp [Around.over, Around.deeper, marksOver, frameCount, unitsOf, envsOf, guardsOf, pushEnvs, pushGuards, Code.envs, Code.env?, Code.isFrame, Code.guards, Code.isGuard, Code.weight, Code.frames, Code.isCreation, Code.isCaller, Code.cUnits])

section
variable {X : Cx} {pins : List (Addr × Obj)} {σ : L2.St} {H : Hp} {s : Shared}
theorem gen_start {scope : Scope} {own : List (Str × Nat)} {fp : List Addr} {code : Value} {h' : Heap} {go : Obj} {m0 : Str → Option Value} {c : GenState} {tk : Nat} (hd : X.A.handled = none) (I : L2.Inv X pins σ H s) (ok : GenOk X.N X.env.scope scope own) (hN : X.N.Nodup)
    (hfp : ∀ b ∈ fp, FpOk X pins H b ∧ b < s.heap.objs.size) (hns : h'.Ns s.heap.objs.size m0) (kp : ∀ b o, s.heap.get? b = some o → h'.get? b = some o) (hsz : s.heap.objs.size < h'.objs.size) (hgo : ∀ v, go.data ≠ .cell v) (hpu : ∀ h : Heap, (h.push go).get? h.objs.size = some go) (hc : c.bare = true) :
    L2.Inv (cxG X s H (envG X scope s.heap.objs.size code) fp) [(h'.objs.size, go)] (wipe σ (own.map (·.2))) H { s with gens := s.gens.push c, toks := tk, heap := h'.push go } := by
  have hfree : ∀ y ∈ scope.names, y.2 = .free → ∃ c, X.env.cells.lookup y.1 = some c := fun y hy e => by
    rcases ok.free y hy e with k | k
    · exact I.ok.has _ (.inl k)
    · exact I.ok.has _ (.inr k)
  have kp2 : ∀ b o, s.heap.get? b = some o → (h'.push go).get? b = some o := fun b o e => Heap.get?_push_of_some _ (kp b o e)
  have cm : ∀ {y c}, (y, c) ∈ cloFrom X.env.cells scope.names [] → X.env.cells.lookup y = some c ∧ c < s.heap.objs.size := fun {y c} hm => by
    rcases cloFrom_mem hm with hm | ⟨h1, rfl⟩
    · cases hm
    · obtain ⟨c, hc⟩ := hfree _ h1 rfl
      rw [hc]
      obtain ⟨w, z⟩ := I.cell _ _ hc
      exact ⟨rfl, z.lt⟩
  have mem : ∀ {y c}, (envG X scope s.heap.objs.size code).cells.lookup y = some c → X.env.cells.lookup y = some c ∧ c < s.heap.objs.size := fun {y c} e => cm (PySem.mem_of_lookup e)
  have look : ∀ {y}, scope.names.lookup y = some .free → ∃ c, (envG X scope s.heap.objs.size code).cells.lookup y = some c ∧ X.env.cells.lookup y = some c := fun {y} hl => by
    have hy : (y, NameKind.free) ∈ scope.names := PySem.mem_of_lookup hl
    obtain ⟨c', e'⟩ := mem_lookup (cloFrom_has (cells := X.env.cells) (acc := []) hy)
    exact ⟨c', e', (mem e').1⟩
  have nofs : ∀ b, s.heap.objs.size ≤ b → b ∉ frs X.stack := fun b hb hm => by
    rcases List.mem_cons.mp (I.stkSub b hm) with z | z
    · have := I.lt
      rw [← z] at this
      exact absurd (Nat.lt_of_lt_of_le this hb) (Nat.lt_irrefl _)
    · exact I.nofs hb z
  have okG : (cxG X s H (envG X scope s.heap.objs.size code) fp).Ok := by
    refine ⟨I.ok.mod, ok.kind, I.ok.glob, rfl, Nat.le_refl _, fun y z c e1 e2 => I.ok.inj y z c (mem e1).1 (mem e2).1, fun y hy => ?_, fun y c z e => absurd z (by simp), fun _ => hd, Around.frames_deeper I.ok.frames, .inr ⟨rfl, rfl⟩,
      fun b hb => ⟨Nat.ne_of_lt (hfp b hb).2, fun y c e z => (hfp b hb).1.2.2.2.2.1 y c (mem e).1 z⟩, I.bs, Nat.le_trans I.ok.bsz I.sz, fun b o e hb => ?_, fun b hb z => ?_, I.stack, I.stkFree⟩
    · have hy : scope.names.lookup y = some .cell ∨ scope.names.lookup y = some .free := hy
      rcases hy with hy | hy
      · exact absurd rfl (ok.cell _ (PySem.mem_of_lookup hy))
      · obtain ⟨c, h1, _⟩ := look hy
        exact ⟨c, h1⟩
    · rcases (hfp b hb).1.2.2.2.1 with z | z
      · exact I.ok.noex b o e z
      · exact absurd (Nat.lt_of_lt_of_le (Heap.lt_size e) (Nat.le_trans I.ok.bsz z)) (Nat.lt_irrefl _)
    · rcases List.mem_cons.mp (I.stkSub b z) with z | z
      · exact (hfp b hb).1.2.1 z
      · exact (hfp b hb).1.2.2.1 z
  refine ⟨okG, rfl, AllBare.push I.bare hc, Un.kept kp2, ⟨m0, hns.keeps fun b o e => Heap.get?_push_of_some _ e, fun i y av e1 e2 e3 => ?_⟩, fun y c e => ?_, I.hok.fresh (Nat.le_refl _), fun y c e => I.freeC y c (mem e).1, fun p hp => ?_, I.hok.kept kp2, by rw [wipe_length]; exact I.len⟩
  · obtain ⟨e2, hne⟩ := wipe_some e2
    have hfr : scope.names.lookup y = some .free := by
      have no : ∀ k, scope.names.lookup y = some k → ¬ (k = .local ∨ k = .cell) := fun k hk hh => by
        rcases ok.own _ (PySem.mem_of_lookup hk) hh with e' | e'
        · obtain ⟨p, hp, hpy⟩ := List.mem_map.mp e'
          have e3 := ok.ix p hp
          have : p.1 = y := hpy
          rw [this] at e3
          exact hne (List.mem_map.mpr ⟨p, hp, nodup_ix hN e3 e1⟩)
        · exact e' (List.mem_of_getElem? e1)
      have e3 : Vis scope y := e3
      rcases e3 with e3 | e3 | e3
      · exact absurd (.inl rfl) (no _ e3)
      · exact absurd (.inr rfl) (no _ e3)
      · exact e3
    obtain ⟨m, hn, hl⟩ := I.loc
    have hvis : Vis X.env.scope y := (ok.free _ (PySem.mem_of_lookup hfr) rfl).elim (fun k => .inr (.inl k)) (fun k => .inr (.inr k))
    obtain ⟨w, r, q⟩ := hl i y av e1 e2 hvis
    refine ⟨w, r, .inr ⟨.inr hfr, ?_⟩⟩
    obtain ⟨c, h1, h2⟩ := look hfr
    rcases q with ⟨k, _⟩ | ⟨_, c', e', z⟩
    · have k : X.env.scope.names.lookup y = some .local := k
      rcases ok.free _ (PySem.mem_of_lookup hfr) rfl with k' | k' <;> rw [show X.env.scope.names.lookup y = _ from k'] at k <;> cases k
    · rw [h2] at e'; cases e'
      exact ⟨c, h1, z.keeps kp2⟩
  · obtain ⟨w, z⟩ := I.cell y c (mem e).1
    exact ⟨w, z.keeps kp2⟩
  · have hp : p ∈ [(h'.objs.size, go)] := hp
    rw [List.mem_singleton.mp hp]
    exact ⟨hpu _, I.hok.fresh (Nat.le_of_lt hsz), Nat.ne_of_gt hsz, nofs _ (Nat.le_of_lt hsz), hgo⟩
end
end GA
namespace GA
open PySem PySem.Spec PyProof.Rows L2 GenW GxR

theorem inv_same {X : Cx} {pins : List (Addr × Obj)} {σ : L2.St} {H : Hp} {s s' : Shared} (I : L2.Inv X pins σ H s) (hh : s'.heap = s.heap) (ho : s'.os = s.os) (hb : AllBare s'.gens) : L2.Inv X pins σ H s' := by
  obtain ⟨h', g, d, t, o⟩ := s'
  have e1 : h' = s.heap := hh
  have e2 : o = s.os := ho
  subst e1 e2
  exact ⟨I.ok, I.os, hb, I.base, I.loc, I.cell, I.free, I.freeC, I.pin, I.hok, I.len⟩

/-- the plan of a walk: W by the turn and a measure; QT behind its end, QF behind the first item that is false -/
def Plan (J : It) (g : TG) (tt : TT) (te : TE) (σ0 : L2.St) (vs : List Nat) (QT QF : Hp → Prop) (W : Nat → Nat → Hp → Prop) : Prop :=
  ∀ i m H, W i m H → (J.stop i H ∧ QT H) ∨ (J.go i H ∧ ∃ Nx : Hp → Prop, (∀ H', Nx H' → ∃ m', m' < m ∧ W (i + 1) m' H') ∧ ∀ x H', J.yld i H x H' → g x σ0 H' fun σ2 H2 => wipe σ2 vs = σ0 ∧ tt σ2 H2 fun b H3 =>
    if b = true then te σ2 H3 fun y H4 => ∃ b, y = .bl b ∧ (if b = true then Nx H4 else QF H4) else Nx H3)
def GYp (X : Cx) (pins : List (Addr × Obj)) (QF : Hp → Prop) : Protocol := fun n s₀ v s kap =>
  ∃ b σ' H', v = .bool b ∧ L2.Inv X pins σ' H' s ∧ (b = false → QF H') ∧ (b = true → ∀ s'' : Shared, s''.heap = s.heap → s''.os = s.os → AllBare s''.gens → kap (.send .none) s'')
def GPn (X : Cx) (pins : List (Addr × Obj)) (σ0 : L2.St) (QT : Hp → Prop) : Nat → Shared → Shared → Prop := fun _ _ s₁ => ∃ H', L2.Inv X pins σ0 H' s₁ ∧ QT H'

theorem wipe_wipe (σ : L2.St) (vs : List Nat) (h : wipe σ vs = σ') : σ'.length = σ.length := by rw [← h, wipe_length]

section
variable {X : Cx} {s0 : Shared} {H0 : Hp} {cenv : Env} {fp : List Addr} {elt tg iter : Expr} {ifs : List Expr} {scope : Scope} {pos : Pos} {it a : Addr} {go : Obj} {tn : Nat → Heap → Prop} {J : It} {g : TG} {tt : TT} {te : TE} {σ0 : L2.St} {vs : List Nat} {QT QF : Hp → Prop} {W : Nat → Nat → Hp → Prop}
theorem gen_loop (hd : X.A.handled = none) (hco : cenv.scope.isCoroutine = false) (T : Turn X.prog X.w X.K tg J fp it tn) (ha : a ∉ fp) (pg : PG (cxG X s0 H0 cenv fp) tg g) (pt : PTs (cxG X s0 H0 cenv fp) ifs tt) (pe : PE (cxG X s0 H0 cenv fp) elt te)
    (hW : Plan J g tt te σ0 vs QT QF W) : ∀ (m n i : Nat) (H : Hp) (s₀ s : Shared), m < n → W i m H → L2.Inv (cxG X s0 H0 cenv fp) [(a, go)] σ0 H s → tn i s.heap → (∀ b ∈ fp, H b = none) →
      Seg (model X.prog X.w) X.A.in1.in1 (fun n s₀ r s₁ => r = .ok .next ∧ GPn (cxG X s0 H0 cenv fp) [(a, go)] σ0 QT n s₀ s₁) (GYp (cxG X s0 H0 cenv fp) [(a, go)] QF) n s₀
        (.compLoop (.GeneratorExp elt [⟨tg, iter, ifs, 0⟩] scope pos) 0 (.ref it) .none cenv) ((model X.prog X.w).den (.compLoop (.GeneratorExp elt [⟨tg, iter, ifs, 0⟩] scope pos) 0 (.ref it) .none cenv)) [] s := by
  intro m
  induction m using Nat.strongRecOn with
  | ind m ih =>
    intro n i H s₀ s hmn w I st nf
    have eA : X.A.in1.in1.over (.compLoop (.GeneratorExp elt [⟨tg, iter, ifs, 0⟩] scope pos) 0 (.ref it) .none cenv) [] = (cxG X s0 H0 cenv fp).A := over_gen
    have stat : ∀ {σ' : L2.St} {H' : Hp} {s' : Shared}, L2.Inv (cxG X s0 H0 cenv fp) [(a, go)] σ' H' s' → (∀ b ∈ fp, H' b = none) → ∀ b ∈ fp, FpOk (cxG X s0 H0 cenv fp) [(a, go)] H' b := fun {σ' H' s'} I' hn b hb =>
      ⟨hn b hb, (I'.ok.exf b hb).1, I'.ok.exfs b hb, .inl hb, fun x c e => (I'.ok.exf b hb).2 x c e, fun p hp e => by
        have hp : p ∈ [(a, go)] := hp
        rw [List.mem_singleton.mp hp] at e
        exact ha (by rw [show a = b from e]; exact hb)⟩
    show Seg _ _ _ _ _ s₀ _ ((compTurn (.GeneratorExp elt [⟨tg, iter, ifs, 0⟩] scope pos) 0 (.ref it) .none cenv).onRaise (leaving cenv)) [] s
    rw [compTurn_gen, Sem.onRaise_eq_wrap]
    refine seg_bind_wrap (wpAny_standAt ?_)
    rcases hW i m H w with ⟨stop, qq⟩ | ⟨go', Nx, hNx, step⟩
    · refine seg_bind_wrap ?_
      rw [eA]
      refine thnF (T.done (cxG X s0 H0 cenv fp) rfl rfl rfl rfl i [(a, go)] s _ H (fun _ _ => False) I (stat I nf) st stop) fun r s6 ⟨hr, I6⟩ => ?_
      subst hr
      exact seg_end (.ok .next) ⟨rfl, H, I6, qq⟩
    · refine seg_bind_wrap ?_
      rw [eA]
      refine thnF (T.item (cxG X s0 H0 cenv fp) rfl rfl rfl rfl i [(a, go)] s _ H (fun _ _ => False) I (stat I nf) st go') fun r s6 ⟨u, hr, h6⟩ => ?_
      subst hr
      show Seg _ _ _ _ _ s₀ _ (Sem.wrap _ _ _ _ (letOwnedTupleGo tg (.ref it) u >>= _)) [] s6
      refine seg_bind_wrap ?_
      rw [eA]
      refine thnF h6 fun _ s7 ⟨x, H7, I7, r7, y7, st7, n7⟩ => ?_
      have I7' := I7.pinned (stat I7 n7) (T.obj _ _ st7)
      refine seg_bind_wrap ?_
      rw [eA]
      refine thnF (pg.run _ s7 _ H7 x u _ I7' r7 (step x H7 y7)) fun _ s8 ⟨σ8, H8, I8, hw8, q8⟩ => ?_
      refine seg_bind_wrap ?_
      rw [eA]
      refine thnF (pt.run _ s8 σ8 H8 _ I8 q8) fun b s9 ⟨H9, I9, q9⟩ => ?_
      -- the turn's end
      have fin : ∀ {s' : Shared} {H' : Hp}, L2.Inv (cxG X s0 H0 cenv fp) ([(a, go)] ++ pinsAt fp s7.heap) σ8 H' s' → L2.Inv (cxG X s0 H0 cenv fp) [(a, go)] σ0 H' s' ∧ tn (i + 1) s'.heap ∧ (∀ b ∈ fp, H' b = none) := fun {s' H'} I' => by
        have pin' : ∀ b ∈ fp, ∀ o, s7.heap.get? b = some o → s'.heap.get? b = some o ∧ H' b = none := fun b hb o e =>
          let z := I'.pin (b, o) (List.mem_append_right _ (List.mem_append_right _ (mem_pinsAt hb e)))
          ⟨z.1, z.2.1⟩
        have hl : σ0.length = σ8.length := by rw [← hw8, wipe_length]
        refine ⟨(I'.unpinned (pins := [(a, go)])).weak hl (fun j v e => ?_), T.keep _ _ _ st7 fun b hb o e => (pin' b hb o e).1, fun b hb => ?_⟩
        · rw [← hw8] at e
          exact (wipe_some e).1
        · obtain ⟨o, e, _⟩ := T.obj _ _ st7 b hb
          exact (pin' b hb o e).2
      cases b with
      | false =>
        simp only [Bool.false_eq_true, if_false] at q9 ⊢
        obtain ⟨m', hm, w'⟩ := hNx H9 q9
        obtain ⟨f1, f2, f3⟩ := fin I9
        exact seg_again rfl (ih m' hm n (i + 1) H9 s₀ s9 (by omega) w' f1 f2 f3)
      | true =>
        simp only [if_true] at q9 ⊢
        have hy : ∀ v, yieldOut cenv v = yieldValue v := fun v => by simp only [yieldOut, hco, Bool.false_eq_true, if_false]
        simp only [hy]
        rw [Sem.bind_eq_wrap', Sem.bind_eq_wrap', Sem.wrap_wrap, Sem.wrap_wrap]
        refine seg_wrap ?_
        rw [eA]
        refine thnF (pe.run _ s9 σ8 H9 _ I9 q9) fun z s10 ⟨yv, H10, I10, r10, bb, ey, q10⟩ => ?_
        subst ey
        have ez : z = Value.bool bb := r10
        subst ez
        obtain ⟨f1, f2, f3⟩ := fin I10
        obtain ⟨n', rfl⟩ : ∃ n', n = n' + 1 := ⟨n - 1, by omega⟩
        refine seg_at (seg_yield rfl rfl rfl ⟨bb, σ0, H10, rfl, f1, fun hb => ?_, fun hb s'' e1 e2 e3 => ?_⟩)
        · rw [hb, if_neg Bool.false_ne_true] at q10
          exact q10
        · rw [hb, if_pos rfl] at q10
          obtain ⟨m', hm, w'⟩ := hNx H10 q10
          exact seg_again rfl (ih m' hm n' (i + 1) H10 s'' s'' (by omega) w' (inv_same f1 e1 e2 e3) (T.keep _ _ _ f2 fun b hb o e => by rw [e1]; exact e) f3)

theorem gen_first (hd : X.A.handled = none) (hco : cenv.scope.isCoroutine = false) (T : Turn X.prog X.w X.K tg J fp it tn) (ha : a ∉ fp) (pg : PG (cxG X s0 H0 cenv fp) tg g) (pt : PTs (cxG X s0 H0 cenv fp) ifs tt) (pe : PE (cxG X s0 H0 cenv fp) elt te)
    (hW : Plan J g tt te σ0 vs QT QF W) (m n : Nat) (H : Hp) (s₀ s : Shared) (hmn : m < n) (w : W 0 m H) (I : L2.Inv (cxG X s0 H0 cenv fp) [(a, go)] σ0 H s) (st : tn 0 s.heap) (nf : ∀ b ∈ fp, H b = none) :
      Seg (model X.prog X.w) X.A.in1.in1 (fun n s₀ r s₁ => r = .ok .next ∧ GPn (cxG X s0 H0 cenv fp) [(a, go)] σ0 QT n s₀ s₁) (GYp (cxG X s0 H0 cenv fp) [(a, go)] QF) n s₀
        (.compStart (.GeneratorExp elt [⟨tg, iter, ifs, 0⟩] scope pos) 0 (.ref it) .none cenv) ((model X.prog X.w).den (.compStart (.GeneratorExp elt [⟨tg, iter, ifs, 0⟩] scope pos) 0 (.ref it) .none cenv)) [] s := by
  have loop := gen_loop (elt := elt) (iter := iter) (ifs := ifs) (scope := scope) (pos := pos) (go := go) hd hco T ha pg pt pe hW m n 0 H s₀ s hmn w I st nf
  show Seg _ _ _ _ _ s₀ _ ((compStart (.GeneratorExp elt [⟨tg, iter, ifs, 0⟩] scope pos) 0 (.ref it) .none cenv).onRaise (leaving cenv)) [] s
  unfold compStart
  rw [Sem.onRaise_eq_wrap]
  show Seg _ _ _ _ _ s₀ _ ((ask >>= _).wrap _ _ _ _) [] s
  refine seg_bind_wrap (wpAny_askSetting ?_)
  split
  · exact seg_again rfl loop
  · first
      | exact seg_bind_wrap (wpAny_rule (seg_bind_wrap (wpAny_standAt (seg_bind_wrap (T.self _ 0 s _ _ st (seg_again rfl loop))))))
      | (refine seg_bind_wrap (wpAny_rule ?_); show Seg _ _ _ _ _ s₀ _ ((standAt iter.pos >>= _).wrap _ _ _ _) [] s; exact seg_bind_wrap (wpAny_standAt (seg_bind_wrap (T.self _ 0 s _ _ st (seg_again rfl loop)))))
end
end GA
namespace GA
open PySem PySem.Spec PyProof.Rows L2 GenW GxR

theorem bare_set {s : Shared} {g : Nat} {gs x : GenState} (h : AllBare s.gens) (hg : s.gens[g]? = some gs) (hx : x.bare = true) : AllBare (s.setGen g x).gens :=
  AllBare.moved h (g := g) (.inr ⟨GenOnly.setGen s g x, fun z hz => by rw [setGen_self hg] at hz; cases hz; exact hx⟩)

/-- the generator's own object -/
def GoAt (go : Obj) (g : Nat) : Prop := go.cls = .type "generator" ∧ (∃ nm qn, go.data = .fields #[.int g 0, nm, qn]) ∧ go.slots = #[]

section
variable {X : Cx} {pins : List (Addr × Obj)} {σ : L2.St} {H4 : Hp} {s4 : Shared} {cenv : Env} {fp : List Addr} {a : Addr} {go : Obj} {g : Nat} {σ0 : L2.St} {QT QF : Hp → Prop} {RR : Result → Shared → Prop}
theorem all_loop (hd : X.A.handled = none) (hdp : X.A.depth < recursionLimit) (hgo : GoAt go g) (I4 : L2.Inv X pins σ H4 s4) (f4 : ∀ b ∈ fp, FpOk X pins H4 b)
    (hT : ∀ s' H', L2.Inv X pins σ H' s' → QT H' → RR (.ok (.ret (.bool true))) s') (hF : ∀ s' H', L2.Inv X pins σ H' s' → QF H' → RR (.ok (.ret (.bool false))) s') :
    ∀ (n : Nat) (gs : GenState) (s : Shared) (σ' : L2.St) (H' : Hp), L2.Inv (cxG X s4 H4 cenv fp) [(a, go)] σ' H' s → s.gens[g]? = some gs →
      (∀ s'' : Shared, s''.heap = s.heap → s''.os = s.os → AllBare s''.gens → gs.Goes (model X.prog X.w) X.A.in1.in1 (fun n s₀ r s₁ => r = .ok .next ∧ GPn (cxG X s4 H4 cenv fp) [(a, go)] σ0 QT n s₀ s₁) (GYp (cxG X s4 H4 cenv fp) [(a, go)] QF) n (.send .none) s'') →
      codeAny (model X.prog X.w) X.A (.builtin "all.loop" ⟨[.ref a], []⟩) RR s := by
  have back : ∀ {σ' : L2.St} {H' : Hp} {s1 s' : Shared}, L2.Inv (cxG X s4 H4 cenv fp) [(a, go)] σ' H' s1 → s'.heap = s1.heap → s'.os = s1.os → AllBare s'.gens → L2.Inv X pins σ H' s' := fun {σ' H' s1 s'} I6 e1 e2 e3 => by
    refine I4.call' (ch := fp) (e2.trans I6.os) (by rw [e1]; exact I6.base) (by rw [e1]; exact I6.hok) e3 fun b hb => ⟨(f4 b hb).2.2.2.1, (f4 b hb).2.1, (f4 b hb).2.2.2.2.1, (f4 b hb).2.2.2.2.2⟩
  intro n
  induction n with
  | zero =>
    intro gs s σ' H' I hg hgs
    obtain ⟨gc, ⟨nm, qn, gd⟩, gsl⟩ := hgo
    have isg : s.heap.IsGen a g := ⟨go, nm, qn, (I.pin (a, go) (List.mem_append_right _ (List.mem_singleton.mpr rfl))).1, gc, gd, gsl⟩
    refine codeAny_builtin F.entry_all_loop ?_
    rw [Around.under_plainId F.plain_all_loop _]
    show wpAny _ X.A.in1 (pyNext (.ref a) >>= _) _ _ s
    refine wpAny_bind (wpAny_gsz (Nat.le_refl s.gens.size) ?_)
    refine wpAny_pyNext_genexpQ (A := X.A.in1) (n := 0) (P := GPn (cxG X s4 H4 cenv fp) [(a, go)] σ0 QT) (Y := GYp (cxG X s4 H4 cenv fp) [(a, go)] QF) hd I.nolimit hdp isg hg
      (hgs (s.setGen g .running) rfl rfl (bare_set I.bare hg rfl)) (fun v s₁ gs' hb hv => ?_) (fun s₁ hp h' hk => ?_)
    · intro hsz
      obtain ⟨b, σ2, H2, ev, I2, q1, q2⟩ := hv
      subst ev
      have hlt : g < s.gens.size := by
        rcases Nat.lt_or_ge g s.gens.size with h | h
        · exact h
        · rw [Array.getElem?_eq_none h] at hg; cases hg
      have hsz2 : g < s₁.gens.size := by
        have e := setGen_size s₁ g gs'
        have hsz : s.gens.size ≤ (s₁.setGen g gs').gens.size := hsz
        omega
      have hg1 := Array.getElem?_eq_getElem hsz2
      refine wpAny_bind (wpAny_holding (wpAny_truthy_bool ?_))
      refine wpAny_bind (wpAny_letGo ?_)
      cases b with
      | true => exact False.elim (q2 rfl (s₁.setGen g gs') rfl rfl (bare_set I2.bare hg1 hb))
      | false =>
        simp only [Bool.false_eq_true, if_false]
        refine wpAny_bind (wpAny_rule (wpAny_pure ?_))
        exact hF _ H2 (back I2 rfl rfl (bare_set I2.bare hg1 hb)) (q1 rfl)
    · intro hsz
      obtain ⟨H2, I2, q⟩ := hp
      have hlt : g < s.gens.size := by
        rcases Nat.lt_or_ge g s.gens.size with h | h
        · exact h
        · rw [Array.getElem?_eq_none h] at hg; cases hg
      have hsz2 : g < s₁.gens.size := by
        have e := setGen_size s₁ g .finished
        have hsz : s.gens.size ≤ (s₁.setGen g .finished).gens.size := hsz
        omega
      have hg1 := Array.getElem?_eq_getElem hsz2
      refine wpAny_bind (wpAny_rule (wpAny_pure ?_))
      exact hT _ H2 ((back (s' := s₁.setGen g .finished) I2 rfl rfl (bare_set I2.bare hg1 rfl)).kept (t' := s₁.toks) hk) q
  | succ n ih =>
    intro gs s σ' H' I hg hgs
    obtain ⟨gc, ⟨nm, qn, gd⟩, gsl⟩ := hgo
    have isg : s.heap.IsGen a g := ⟨go, nm, qn, (I.pin (a, go) (List.mem_append_right _ (List.mem_singleton.mpr rfl))).1, gc, gd, gsl⟩
    refine codeAny_builtin F.entry_all_loop ?_
    rw [Around.under_plainId F.plain_all_loop _]
    show wpAny _ X.A.in1 (pyNext (.ref a) >>= _) _ _ s
    refine wpAny_bind (wpAny_gsz (Nat.le_refl s.gens.size) ?_)
    refine wpAny_pyNext_genexpQ (A := X.A.in1) (n := n + 1) (P := GPn (cxG X s4 H4 cenv fp) [(a, go)] σ0 QT) (Y := GYp (cxG X s4 H4 cenv fp) [(a, go)] QF) hd I.nolimit hdp isg hg
      (hgs (s.setGen g .running) rfl rfl (bare_set I.bare hg rfl)) (fun v s₁ gs' hb hv => ?_) (fun s₁ hp h' hk => ?_)
    · intro hsz
      obtain ⟨b, σ2, H2, ev, I2, q1, q2⟩ := hv
      subst ev
      have hlt : g < s.gens.size := by
        rcases Nat.lt_or_ge g s.gens.size with h | h
        · exact h
        · rw [Array.getElem?_eq_none h] at hg; cases hg
      have hsz2 : g < s₁.gens.size := by
        have e := setGen_size s₁ g gs'
        have hsz : s.gens.size ≤ (s₁.setGen g gs').gens.size := hsz
        omega
      have hg1 := Array.getElem?_eq_getElem hsz2
      refine wpAny_bind (wpAny_holding (wpAny_truthy_bool ?_))
      refine wpAny_bind (wpAny_letGo ?_)
      cases b with
      | true =>
        simp only [if_true]
        refine wpAny_pure ⟨plainId_quiet F.plain_all_loop _, ih gs' (s₁.setGen g gs') σ2 H2 (inv_same I2 rfl rfl (bare_set I2.bare hg1 hb)) (setGen_self hg1) fun s'' e1 e2 e3 => q2 rfl s'' e1 e2 e3⟩
      | false =>
        simp only [Bool.false_eq_true, if_false]
        refine wpAny_bind (wpAny_rule (wpAny_pure ?_))
        exact hF _ H2 (back I2 rfl rfl (bare_set I2.bare hg1 hb)) (q1 rfl)
    · intro hsz
      obtain ⟨H2, I2, q⟩ := hp
      have hlt : g < s.gens.size := by
        rcases Nat.lt_or_ge g s.gens.size with h | h
        · exact h
        · rw [Array.getElem?_eq_none h] at hg; cases hg
      have hsz2 : g < s₁.gens.size := by
        have e := setGen_size s₁ g .finished
        have hsz : s.gens.size ≤ (s₁.setGen g .finished).gens.size := hsz
        omega
      have hg1 := Array.getElem?_eq_getElem hsz2
      refine wpAny_bind (wpAny_rule (wpAny_pure ?_))
      exact hT _ H2 ((back (s' := s₁.setGen g .finished) I2 rfl rfl (bare_set I2.bare hg1 rfl)).kept (t' := s₁.toks) hk) q
end

section
variable {X : Cx} {pins : List (Addr × Obj)} {σ : L2.St} {H : Hp} {s : Shared}
/-- a generator expression is made -/
theorem gen_made {c P : Addr} {elt tg iter : Expr} {gpos : Pos} {scope : Scope} {own : List (Str × Nat)} {wi : TI} {k : Nat} {Q' : Value → Shared → Prop} {R : It → Hp → Prop}
    (hr : Room k X.A) (TB : TabB X.base X.mg c P) (hcode : X.env.code = .ref c) (hN : X.N.Nodup) (ok : GenOk X.N X.env.scope scope own) (hi : PI X tg iter wi)
    (hs : ∀ v, genFold iter X.env v = pure v) (I : L2.Inv X pins σ H s) (h : wi σ H fun J H1 => TabG H1 P ∧ R J H1)
    (hQ : ∀ J H1 H2 s4 it fp tn code g a go s5, R J H1 → Tabbed P H1 H2 → L2.Inv X pins σ H2 s4 → Turn X.prog X.w X.K tg J fp it tn → (∀ b ∈ fp, FpOk X pins H2 b) → a ∉ fp → GoAt go g →
      L2.Inv (cxG X s4 H2 (envG X scope s4.heap.objs.size code) fp) [(a, go)] (wipe σ (own.map (·.2))) H2 s5 → tn 0 s5.heap →
      s5.gens[g]? = some (.fresh (.compStart (.GeneratorExp elt [⟨tg, iter, [], 0⟩] scope gpos) 0 (.ref it) .none (envG X scope s4.heap.objs.size code))) → Q' (.ref a) s5) :
    wpAny (model X.prog X.w) X.A (eval (.GeneratorExp elt [⟨tg, iter, [], 0⟩] scope gpos) X.env) Q' X.xe s := by
  have hfree : ∀ y ∈ scope.names, y.2 = .free → ∃ c, X.env.cells.lookup y.1 = some c := fun y hy e => by
    rcases ok.free y hy e with k | k
    · exact I.ok.has _ (.inl k)
    · exact I.ok.has _ (.inr k)
  refine wpAny_GeneratorExp_make ok.co (closure_ok hfree) ok.cell ok.dot ok.kind (by have := hr.dp; omega) (thn (hi.run pins s σ H _ I h) fun xv s1 hx => thn hx fun itv s2 h2 => ?_) hs
  obtain ⟨it, fp, tn, J, H1, e, I1, T, st1, f1, ⟨ps, hP, ht⟩, q1⟩ := h2
  subst e
  have hPs : s2.heap.get? P = some { cls := .none, data := .fields ps } := I1.hok P _ hP
  have cd : PySem.W.CodeHd s2.heap c P := TB.code.keeps fun b u e => I1.bk b u e
  have cont : ∀ (code : Value) (h3 : Heap) (tk : Nat) (ps' : Array Value), Heap.ExtBut P s2.heap h3 → s2.heap.objs.size ≤ h3.objs.size → h3.get? P = some { cls := .none, data := .fields ps' } → (∃ more, ps' = ps ++ more) → TriplesOk ps'.toList →
      wpAny (model X.prog X.w) X.A (builtinsFor X.env.globals X.env.builtins) (fun bi s₄ =>
        ∀ h', h'.Ns s₄.heap.objs.size (fun y => if y = ".0" then some (.ref it) else none) → Heap.SameBut s₄.heap.objs.size (s₄.heap.push { cls := .type "frame", data := .dict #[] }) h' →
          Q' (.ref h'.objs.size) { s₄ with
            gens := s₄.gens.push (.fresh (.compStart (.GeneratorExp elt [⟨tg, iter, [], 0⟩] scope gpos) 0 (.ref it) .none (genEnv scope (cloFrom X.env.cells scope.names []) s₄.heap.objs.size code bi X.env))),
            toks := s₄.toks + 1 + 1 + 1,
            heap := h'.push { cls := .type "generator", data := .fields #[.int s₄.gens.size 0, .str "<genexpr>" (s₄.toks + 1), .str (X.env.qual ++ "<genexpr>") (s₄.toks + 1 + 1)] } }) X.xe { s2 with heap := h3, toks := tk } := by
    intro code h3 tk ps' hx hsz hP3 hmore ht3
    obtain ⟨bm, ob, e1, e2, e3, e4, e5, e6, e7, e8⟩ := TB.bm
    have keep3 : ∀ b u, b ≠ P → s2.heap.get? b = some u → h3.get? b = some u := fun b u hb e => hx b u hb e
    refine wpAny_builtinsFor (m := X.mg) (by rw [I1.ok.glob]; exact (I1.mod.glob.keeps I1.bk).extBut hx TB.gP) e1 e2 (keep3 _ _ e4 (I1.bk _ _ e5)) e6 e7 e8 ?_
    intro h' hns hsb
    obtain ⟨more, em⟩ := hmore
    have I4 := inv_tab (more := more) (h' := h3) (g' := s2.gens) (d' := s2.drawn) (t' := tk) I1 hP keep3 (by rw [← em]; exact hP3) I1.bare
    have nP : ∀ b ∈ fp, b ≠ P := fun b hb e => by
      have := (f1 b hb).1
      rw [e, hP] at this
      cases this
    have f4 : ∀ b ∈ fp, FpOk X pins (upd H1 P (.tbl (ps ++ more))) b := fun b hb => ⟨by rw [upd_ne (nP b hb)]; exact (f1 b hb).1, (f1 b hb).2⟩
    have st4 : tn 0 h3 := T.keep _ _ _ st1 fun b hb o e => keep3 b o (nP b hb) e
    have hszC : h'.objs.size = h3.objs.size + 1 := by
      have e := hsb.1
      rw [Heap.size_push] at e
      exact e
    have kp : ∀ b o, h3.get? b = some o → h'.get? b = some o := fun b o e => hsb.extBut b o (Nat.ne_of_lt (Heap.lt_size e)) (Heap.get?_push_of_some _ e)
    have lt4 : ∀ b ∈ fp, b < h3.objs.size := fun b hb => by
      obtain ⟨o, e, _⟩ := T.obj _ _ st4 b hb
      exact Heap.lt_size e
    have I5 := gen_start (scope := scope) (own := own) (fp := fp) (code := code) (h' := h') (m0 := fun y => if y = ".0" then some (.ref it) else none)
      (go := { cls := .type "generator", data := .fields #[.int s2.gens.size 0, .str "<genexpr>" (tk + 1), .str (X.env.qual ++ "<genexpr>") (tk + 1 + 1)] })
      (c := .fresh (.compStart (.GeneratorExp elt [⟨tg, iter, [], 0⟩] scope gpos) 0 (.ref it) .none (envG X scope h3.objs.size code))) (tk := tk + 1 + 1 + 1) hr.hd I4 ok hN (fun b hb => ⟨f4 b hb, lt4 b hb⟩) hns kp (by rw [hszC]; exact Nat.lt_succ_self _) (fun v q => by cases q) (fun h => Heap.get?_push_size _ rfl) rfl
    refine hQ J H1 (upd H1 P (.tbl (ps ++ more))) _ it fp tn code s2.gens.size h'.objs.size _ _ q1 ⟨⟨ps ++ more, upd_same, by rw [← em]; exact ht3⟩, fun b hb => upd_ne hb⟩ I4 T f4 (fun hm => ?_) ⟨rfl, ⟨_, _, rfl⟩, rfl⟩ I5 ?_ (Array.getElem?_push_size ..)
    · have := lt4 _ hm
      rw [hszC] at this
      exact absurd (Nat.lt_of_succ_lt this) (Nat.lt_irrefl _)
    · exact T.keep _ _ _ st4 fun b hb o e => Heap.get?_push_of_some _ (kp b o e)
  refine ⟨I1.nolimit, ?_⟩
  cases hf : codeAmong gpos ps.toList with
  | none =>
    refine wpAny_genexprCodeX hcode (cd.code hPs ht) (cd.tab hPs) hf fun c' h' tk hx hge hlt hco' _ htab' _ => ?_
    obtain ⟨o1, vs, f1, tf, fl, tg, inF, tx, tt, op, _, _, _, _, _, _, _, _, _, htr, _⟩ := hco'
    exact cont _ h' tk _ hx (Nat.le_trans hge (Nat.le_of_lt hlt)) htab'.2 ⟨_, rfl⟩ htr
  | some cv =>
    refine wpAny_genexprCode_hit hcode (cd.code hPs ht) hf ?_
    exact cont cv s2.heap s2.toks ps (Heap.ExtBut.refl _ _) (Nat.le_refl _) hPs ⟨#[], by simp⟩ ht

/-- all(elt for tg in iter), elt a truth -/
def tAllG (P : Addr) (wi : TI) (g : TG) (te : TE) (vs : List Nat) : TE := fun σ H Q => wi σ H fun J H1 => TabG H1 P ∧ ∀ H2, Tabbed P H1 H2 →
  ∃ W : Nat → Nat → Hp → Prop, (∃ m, W 0 m H2) ∧ Plan J g tYes te (wipe σ vs) vs (fun H' => Q (.bl true) H') (fun H' => Q (.bl false) H') W
theorem pe_allG {c P : Addr} {elt tg iter : Expr} {p pos gpos : Pos} {scope : Scope} {own : List (Str × Nat)} {wi : TI} {g : TG} {te : TE} {k : Nat}
    (hr : Room k X.A) (hg : Gl X "all") (hm : X.mg "all" = none) (hb : bootBuiltins "all" = some (.builtin "all")) (TB : TabB X.base X.mg c P) (hcode : X.env.code = .ref c) (hN : X.N.Nodup) (ok : GenOk X.N X.env.scope scope own) (hi : PI X tg iter wi)
    (hgt : ∀ (s : Shared) (H : Hp) (C : Addr) (code : Value) (fp : List Addr), PG (cxG X s H (envG X scope C code) fp) tg g) (he : ∀ (s : Shared) (H : Hp) (C : Addr) (code : Value) (fp : List Addr), PE (cxG X s H (envG X scope C code) fp) elt te)
    (hs : ∀ v, genFold iter X.env v = pure v := by intro _; rfl)
    (hst : starEach [.GeneratorExp elt [⟨tg, iter, [], 0⟩] scope gpos] X.env = (false, eval (.GeneratorExp elt [⟨tg, iter, [], 0⟩] scope gpos) X.env) :: starEach [] X.env := by rfl) :
    PE X (.Call (.Name "all" p) [.GeneratorExp elt [⟨tg, iter, [], 0⟩] scope gpos] [] pos) (tAllG P wi g te (own.map (·.2))) := by
  refine ⟨fun pins s σ H Q I h => ?_⟩
  refine wpAny_Call_Name_kw (ld_blt I hg hm hb ?_)
  refine PyProof.Rows.callWith_builtin1 ?_ hst (by rfl)
  rw [hst]
  show wpAny _ _ (spliced ((false, eval (.GeneratorExp elt [⟨tg, iter, [], 0⟩] scope gpos) X.env) :: backTo pos (starEach [] X.env))) _ _ s
  refine Calls.spliced_cons (gen_made (R := fun J H1 => ∀ H2, Tabbed P H1 H2 → ∃ W : Nat → Nat → Hp → Prop, (∃ m, W 0 m H2) ∧ Plan J g tYes te (wipe σ (List.map (fun q : Str × Nat => q.2) own)) (List.map (fun q : Str × Nat => q.2) own) (fun H' => Q (.bl true) H') (fun H' => Q (.bl false) H') W)
    hr TB hcode hN ok hi hs I h fun J H1 H2 s4 it fp tn code g' a go s5 hR hT I4 T f4 ha hgo I5 st5 hg5 => ?_)
  refine Calls.spliced_nil ?_
  obtain ⟨W, ⟨m, w0⟩, pl⟩ := hR H2 hT
  have cn : (envG X scope s4.heap.objs.size code).scope.isCoroutine = false := ok.co
  have nf5 : ∀ b ∈ fp, H2 b = none := fun b hb => (f4 b hb).1
  refine call_function_tree F.kind_all F.plain_all F.entry_all (F.args_all1 _) ?_
  unfold Builtin.«all»
  refine wpAny_bind (m := oneArg "all" _) (wpAny_pure ?_)
  have isg : s5.heap.IsGen a g' := by
    obtain ⟨gc, ⟨nm, qn, gd⟩, gsl⟩ := hgo
    exact ⟨go, nm, qn, (I5.pin (a, go) (List.mem_append_right _ (List.mem_singleton.mpr rfl))).1, gc, gd, gsl⟩
  refine wpAny_bind (wpAny_pyIter_gen isg ?_)
  refine wpAny_pure ⟨plainId_quiet F.plain_all_loop _, ?_⟩
  refine all_loop (σ0 := wipe σ (List.map (fun q : Str × Nat => q.2) own)) (QT := fun H' => Q (.bl true) H') (QF := fun H' => Q (.bl false) H') hr.hd (by have := hr.dp; omega) hgo I4 f4 (fun s' H' I' q => ⟨.bl true, H', I', rfl, q⟩) (fun s' H' I' q => ⟨.bl false, H', I', rfl, q⟩)
    (m + 1) _ s5 _ H2 I5 hg5 fun s'' e1 e2 e3 => ⟨rfl, ?_⟩
  exact gen_first (X := X) (go := go) hr.hd cn T ha (hgt _ _ _ _ _) pts_nil (he _ _ _ _ _) pl m (m + 1) H2 s'' s'' (Nat.lt_succ_self _) w0 (inv_same I5 e1 e2 e3) (by rw [e1]; exact st5) nf5
end
end GA
namespace SB
/-! ### numbers in lowest terms -/
def Lo (q : Int × Int) : Prop := 0 < q.2 ∧ Nat.gcd q.1.natAbs q.2.natAbs = 1
/-- the same number as N / D -/
def Eqr (r : Int × Int) (N D : Int) : Prop := r.1 * D = N * r.2
theorem gcd_pos {t b : Int} (h : b ≠ 0) : 0 < Nat.gcd t.natAbs b.natAbs := Nat.gcd_pos_of_pos_right _ (by omega)
theorem gcd_dvd_l (t b : Int) : ((Nat.gcd t.natAbs b.natAbs : Nat) : Int) ∣ t := Int.ofNat_dvd_left.mpr (Nat.gcd_dvd_left _ _)
theorem gcd_dvd_r (t b : Int) : ((Nat.gcd t.natAbs b.natAbs : Nat) : Int) ∣ b := Int.ofNat_dvd_left.mpr (Nat.gcd_dvd_right _ _)
theorem low_split {t b : Int} (h : 0 < b) : ∃ t' b' g : Int, 0 < g ∧ ((Nat.gcd t.natAbs b.natAbs : Nat) : Int) = g ∧ t = g * t' ∧ b = g * b' ∧ t / g = t' ∧ b / g = b' ∧ 0 < b' ∧ Nat.gcd t'.natAbs b'.natAbs = 1 := by
  have hg := gcd_pos (t := t) (b := b) (by omega)
  obtain ⟨t', e1⟩ := gcd_dvd_l t b
  obtain ⟨b', e2⟩ := gcd_dvd_r t b
  generalize hG : Nat.gcd t.natAbs b.natAbs = G at *
  have gp : (0 : Int) < (G : Int) := by omega
  have hb : 0 < b' := by
    rcases Int.lt_trichotomy b' 0 with z | z | z
    · have := Int.mul_neg_of_pos_of_neg gp z
      omega
    · rw [z, Int.mul_zero] at e2; omega
    · exact z
  refine ⟨t', b', G, gp, rfl, e1, e2, by rw [e1]; exact Int.mul_ediv_cancel_left _ (by omega), by rw [e2]; exact Int.mul_ediv_cancel_left _ (by omega), hb, ?_⟩
  have h1 : t.natAbs = G * t'.natAbs := by rw [e1, Int.natAbs_mul]; rfl
  have h2 : b.natAbs = G * b'.natAbs := by rw [e2, Int.natAbs_mul]; rfl
  have h3 : G * Nat.gcd t'.natAbs b'.natAbs = G * 1 := by
    rw [← Nat.gcd_mul_left, ← h1, ← h2, hG, Nat.mul_one]
  exact Nat.eq_of_mul_eq_mul_left hg h3
theorem natAbs_le_mul {g t : Int} (h : 0 < g) : t.natAbs ≤ (g * t).natAbs := by
  rw [Int.natAbs_mul]
  exact Nat.le_mul_of_pos_left _ (by omega)
theorem low_ok {t b : Int} (h : 0 < b) : ∀ g : Int, ((Nat.gcd t.natAbs b.natAbs : Nat) : Int) = g → Lo (t / g, b / g) ∧ Eqr (t / g, b / g) t b ∧ (t / g).natAbs ≤ t.natAbs ∧ (b / g).natAbs ≤ b.natAbs ∧ 0 < g ∧ g.natAbs ≤ b.natAbs := by
  intro g hg
  obtain ⟨t', b', g', gp, eg, e1, e2, e3, e4, hb, hc⟩ := low_split (t := t) h
  have : g' = g := eg.symm.trans hg
  subst this
  refine ⟨⟨by rw [e4]; exact hb, by rw [e3, e4]; exact hc⟩, ?_, ?_, ?_, gp, ?_⟩
  · show t / g' * b = t * (b / g')
    rw [e3, e4]
    conv => lhs; rw [e2]
    conv => rhs; rw [e1]
    rw [Int.mul_left_comm, Int.mul_assoc]
  · rw [e3, e1]; exact natAbs_le_mul gp
  · rw [e4, e2]; exact natAbs_le_mul gp
  · rw [e2, Int.mul_comm]; exact natAbs_le_mul hb
/-- a number has one form in lowest terms -/
theorem lo_uniq {r s : Int × Int} (hr : Lo r) (hs : Lo s) (h : r.1 * s.2 = s.1 * r.2) : r = s := by
  obtain ⟨r1, r2⟩ := hr
  obtain ⟨s1, s2⟩ := hs
  have e : r.1.natAbs * s.2.natAbs = s.1.natAbs * r.2.natAbs := by rw [← Int.natAbs_mul, ← Int.natAbs_mul, h]
  have d1 : r.2.natAbs ∣ s.2.natAbs := by
    have : r.2.natAbs ∣ r.1.natAbs * s.2.natAbs := by rw [e]; exact Nat.dvd_mul_left _ _
    exact (Nat.Coprime.symm r2).dvd_of_dvd_mul_left this
  have d2 : s.2.natAbs ∣ r.2.natAbs := by
    have : s.2.natAbs ∣ s.1.natAbs * r.2.natAbs := by rw [← e]; exact Nat.dvd_mul_left _ _
    exact (Nat.Coprime.symm s2).dvd_of_dvd_mul_left this
  have e2 : r.2 = s.2 := by
    have := Nat.dvd_antisymm d1 d2
    omega
  have e1 : r.1 = s.1 := by
    rw [e2] at h
    exact Int.eq_of_mul_eq_mul_right (by omega) h
  exact Prod.ext e1 e2
/-- unreduced -/
def fPlus (p q : Int × Int) : Int × Int := (p.1 * q.2 + q.1 * p.2, p.2 * q.2)
def fMinus (p q : Int × Int) : Int × Int := (p.1 * q.2 - q.1 * p.2, p.2 * q.2)
def fTimes (p q : Int × Int) : Int × Int := (p.1 * q.1, p.2 * q.2)
/-- both parts below 2 ^ m -/
def Wd (m : Nat) (p : Int × Int) : Prop := p.1.natAbs < 2 ^ m ∧ p.2.natAbs < 2 ^ m
theorem Wd.mono {m n : Nat} {p : Int × Int} (h : Wd m p) (k : m ≤ n) : Wd n p := ⟨Nat.lt_of_lt_of_le h.1 (Nat.pow_le_pow_right (by decide) k), Nat.lt_of_lt_of_le h.2 (Nat.pow_le_pow_right (by decide) k)⟩
theorem mul_lt2 {a b : Int} {m n : Nat} (h : a.natAbs < 2 ^ m) (k : b.natAbs < 2 ^ n) : (a * b).natAbs < 2 ^ (m + n) := by
  rw [Int.natAbs_mul, Nat.pow_add]
  exact Nat.mul_lt_mul'' h k
theorem add_lt2 {a b : Int} {m : Nat} (h : a.natAbs < 2 ^ m) (k : b.natAbs < 2 ^ m) : (a + b).natAbs < 2 ^ (m + 1) := by
  rw [Nat.pow_succ]
  omega
theorem sub_lt2 {a b : Int} {m : Nat} (h : a.natAbs < 2 ^ m) (k : b.natAbs < 2 ^ m) : (a - b).natAbs < 2 ^ (m + 1) := by
  rw [Nat.pow_succ]
  omega
theorem wd_plus {m n : Nat} {p q : Int × Int} (h : Wd m p) (k : Wd n q) : Wd (m + n + 1) (fPlus p q) :=
  ⟨add_lt2 (mul_lt2 h.1 k.2) (by rw [Nat.add_comm m n]; exact mul_lt2 k.1 h.2), Nat.lt_of_lt_of_le (mul_lt2 h.2 k.2) (Nat.pow_le_pow_right (by decide) (by omega))⟩
theorem wd_minus {m n : Nat} {p q : Int × Int} (h : Wd m p) (k : Wd n q) : Wd (m + n + 1) (fMinus p q) :=
  ⟨sub_lt2 (mul_lt2 h.1 k.2) (by rw [Nat.add_comm m n]; exact mul_lt2 k.1 h.2), Nat.lt_of_lt_of_le (mul_lt2 h.2 k.2) (Nat.pow_le_pow_right (by decide) (by omega))⟩
theorem wd_times {m n : Nat} {p q : Int × Int} (h : Wd m p) (k : Wd n q) : Wd (m + n) (fTimes p q) := ⟨mul_lt2 h.1 k.1, mul_lt2 h.2 k.2⟩
/-- a reduced form keeps the sign of its numerator -/
theorem eqr_sign {r : Int × Int} {N D : Int} (h : Eqr r N D) (hr : 0 < r.2) (hD : 0 < D) : (0 < r.1 ↔ 0 < N) ∧ (r.1 = 0 ↔ N = 0) ∧ (r.1 < 0 ↔ N < 0) := by
  have h : r.1 * D = N * r.2 := h
  have key : ∀ {a b c d : Int}, a * b = c * d → 0 < b → 0 < d → (0 < a → 0 < c) ∧ (a < 0 → c < 0) := fun {a b c d} e hb hd => by
    constructor
    · intro ha
      rcases Int.lt_trichotomy c 0 with z | z | z
      · have h1 := Int.mul_pos ha hb
        have h2 := Int.mul_neg_of_neg_of_pos z hd
        omega
      · have h1 := Int.mul_pos ha hb
        rw [z, Int.zero_mul] at e
        omega
      · exact z
    · intro ha
      rcases Int.lt_trichotomy c 0 with z | z | z
      · exact z
      · have h1 := Int.mul_neg_of_neg_of_pos ha hb
        rw [z, Int.zero_mul] at e
        omega
      · have h1 := Int.mul_neg_of_neg_of_pos ha hb
        have h2 := Int.mul_pos z hd
        omega
  obtain ⟨a1, a2⟩ := key h hD hr
  obtain ⟨b1, b2⟩ := key h.symm hr hD
  refine ⟨⟨a1, b1⟩, ⟨fun z => ?_, fun z => ?_⟩, ⟨a2, b2⟩⟩
  · rcases Int.lt_trichotomy N 0 with y | y | y
    · have := b2 y; omega
    · exact y
    · have := b1 y; omega
  · rcases Int.lt_trichotomy r.1 0 with y | y | y
    · have := a2 y; omega
    · exact y
    · have := a1 y; omega
end SB
namespace SB
theorem eqr_plus {r g h : Int × Int} {G Hh : Int × Int} (g2 : 0 < g.2) (h2 : 0 < h.2) (eg : Eqr g G.1 G.2) (eh : Eqr h Hh.1 Hh.2) (er : Eqr r (fPlus g h).1 (fPlus g h).2) : Eqr r (fPlus G Hh).1 (fPlus G Hh).2 := by
  unfold Eqr fPlus at *
  dsimp only at *
  have hne : g.2 * h.2 ≠ 0 := Int.ne_of_gt (Int.mul_pos g2 h2)
  refine Int.eq_of_mul_eq_mul_right hne ?_
  grind
theorem eqr_minus {r g h : Int × Int} {G Hh : Int × Int} (g2 : 0 < g.2) (h2 : 0 < h.2) (eg : Eqr g G.1 G.2) (eh : Eqr h Hh.1 Hh.2) (er : Eqr r (fMinus g h).1 (fMinus g h).2) : Eqr r (fMinus G Hh).1 (fMinus G Hh).2 := by
  unfold Eqr fMinus at *
  dsimp only at *
  have hne : g.2 * h.2 ≠ 0 := Int.ne_of_gt (Int.mul_pos g2 h2)
  refine Int.eq_of_mul_eq_mul_right hne ?_
  grind
theorem eqr_times {r g h : Int × Int} {G Hh : Int × Int} (g2 : 0 < g.2) (h2 : 0 < h.2) (eg : Eqr g G.1 G.2) (eh : Eqr h Hh.1 Hh.2) (er : Eqr r (fTimes g h).1 (fTimes g h).2) : Eqr r (fTimes G Hh).1 (fTimes G Hh).2 := by
  unfold Eqr fTimes at *
  dsimp only at *
  have hne : g.2 * h.2 ≠ 0 := Int.ne_of_gt (Int.mul_pos g2 h2)
  refine Int.eq_of_mul_eq_mul_right hne ?_
  grind
end SB
namespace SB
/-- one step of a sum of sides times numbers -/
def stepU (g : Int × Int) (p : Int × (Int × Int)) : Int × Int := fPlus g (fTimes (p.1, 1) p.2)
def sumU (ns : List Int) (us : List (Int × Int)) (g : Int × Int) : Int × Int := (ns.zip us).foldl stepU g
theorem fold_take {α β : Type} (f : β → α → β) (g : β) {l : List α} {i : Nat} {x : α} (h : l[i]? = some x) : (l.take (i + 1)).foldl f g = f ((l.take i).foldl f g) x := by
  rw [List.take_add_one, h, Option.toList_some, List.foldl_append]
  rfl
theorem zip_at {α β : Type} {xs : List α} {ys : List β} {i : Nat} {x : α} {y : β} (h : xs[i]? = some x) (k : ys[i]? = some y) : (xs.zip ys)[i]? = some (x, y) := by
  rw [List.getElem?_zip_eq_some]
  exact ⟨h, k⟩
theorem stepU_pos {g : Int × Int} {p : Int × (Int × Int)} (h : 0 < g.2) (k : 0 < p.2.2) : 0 < (stepU g p).2 := by
  unfold stepU fPlus fTimes
  dsimp only
  rw [Int.one_mul]
  exact Int.mul_pos h k
theorem sumU_pos : ∀ {l : List (Int × (Int × Int))} {g : Int × Int}, 0 < g.2 → (∀ p, p ∈ l → 0 < p.2.2) → 0 < (l.foldl stepU g).2
  | [], _, h, _ => h
  | p :: r, g, h, k => by
    rw [List.foldl_cons]
    exact sumU_pos (stepU_pos h (k p List.mem_cons_self)) fun q hq => k q (List.mem_cons_of_mem _ hq)
/-- the sum less the wall -/
theorem sumU_less (w : Int) : ∀ (l : List (Int × (Int × Int))) (g g' : Int × Int), g'.2 = g.2 → g'.1 = g.1 - w * g.2 → (l.foldl stepU g').2 = (l.foldl stepU g).2 ∧ (l.foldl stepU g').1 = (l.foldl stepU g).1 - w * (l.foldl stepU g).2
  | [], _, _, h1, h2 => ⟨h1, h2⟩
  | p :: r, g, g', h1, h2 => by
    rw [List.foldl_cons, List.foldl_cons]
    refine sumU_less w r _ _ ?_ ?_
    · unfold stepU fPlus fTimes
      dsimp only
      rw [h1]
    · unfold stepU fPlus fTimes
      dsimp only
      rw [h1, h2]
      grind
/-- the sum of the sides, each times the number, less the wall -/
def worthU (q : List Int × Int) (us : List (Int × Int)) : Int × Int := sumU q.1 us (-q.2, 1)
theorem worth_of (q : List Int × Int) (us : List (Int × Int)) : fMinus (sumU q.1 us (0, 1)) (q.2, 1) = worthU q us := by
  obtain ⟨h1, h2⟩ := sumU_less q.2 (q.1.zip us) (0, 1) (-q.2, 1) rfl (by show -q.2 = 0 - q.2 * 1; omega)
  refine Prod.ext ?_ ?_
  · show (sumU q.1 us (0, 1)).1 * 1 - q.2 * (sumU q.1 us (0, 1)).2 = _
    exact (by rw [Int.mul_one]; exact h2.symm)
  · show (sumU q.1 us (0, 1)).2 * 1 = _
    exact (by rw [Int.mul_one]; exact h1.symm)
end SB
namespace SB
def gcdL (l : List Int) : Nat := l.foldl (fun c z => Nat.gcd c z.natAbs) 0
theorem gcdF_dvd : ∀ (l : List Int) (c : Nat), (l.foldl (fun c z => Nat.gcd c z.natAbs) c) ∣ c ∧ ∀ z, z ∈ l → (l.foldl (fun c z => Nat.gcd c z.natAbs) c) ∣ z.natAbs
  | [], c => ⟨Nat.dvd_refl c, fun z h => by simp at h⟩
  | x :: r, c => by
    obtain ⟨h1, h2⟩ := gcdF_dvd r (Nat.gcd c x.natAbs)
    rw [List.foldl_cons]
    refine ⟨Nat.dvd_trans h1 (Nat.gcd_dvd_left _ _), fun z hz => ?_⟩
    rcases List.mem_cons.mp hz with rfl | hz
    · exact Nat.dvd_trans h1 (Nat.gcd_dvd_right _ _)
    · exact h2 z hz
theorem gcdL_dvd {l : List Int} {z : Int} (h : z ∈ l) : gcdL l ∣ z.natAbs := (gcdF_dvd l 0).2 z h
theorem gcdL_pos {l : List Int} {z : Int} (h : z ∈ l) (n : z ≠ 0) : 0 < gcdL l := by
  have d := gcdL_dvd h
  rcases Nat.eq_zero_or_pos (gcdL l) with e | e
  · rw [e] at d
    have := Nat.eq_zero_of_zero_dvd d
    omega
  · exact e
theorem gcdL_le {l : List Int} {z : Int} (h : z ∈ l) (n : z ≠ 0) : gcdL l ≤ z.natAbs := Nat.le_of_dvd (by omega) (gcdL_dvd h)
theorem div_le {z : Int} {g : Nat} (hg : 0 < g) (h : g ∣ z.natAbs) : (z / (g : Int)).natAbs ≤ z.natAbs ∧ (z ≠ 0 → z / (g : Int) ≠ 0) := by
  obtain ⟨t, e⟩ := Int.ofNat_dvd_left.mpr h
  have gp : (0 : Int) < (g : Int) := by omega
  have e2 : z / (g : Int) = t := by rw [e]; exact Int.mul_ediv_cancel_left _ (by omega)
  rw [e2]
  refine ⟨?_, fun n q => ?_⟩
  · rw [e]
    exact natAbs_le_mul gp
  · rw [q, Int.mul_zero] at e
    exact n e
def NonZ (ns : List Int) : Prop := (ns.any fun z => decide (z ≠ 0)) = true
theorem NonZ.ex {ns : List Int} (h : NonZ ns) : ∃ z, z ∈ ns ∧ z ≠ 0 := by
  obtain ⟨z, h1, h2⟩ := List.any_eq_true.mp h
  exact ⟨z, h1, of_decide_eq_true h2⟩
theorem nonZ_of {ns : List Int} {z : Int} (h : z ∈ ns) (n : z ≠ 0) : NonZ ns := List.any_eq_true.mpr ⟨z, h, decide_eq_true n⟩
def NsOk (ns : List Int) : Prop := ∀ z, z ∈ ns → z.natAbs < 2 ^ 10000
/-- a question's form -/
def divU (q : List Int × Int) : List Int × Int := (q.1.map fun z => z / ((gcdL (q.1 ++ [q.2]) : Nat) : Int), q.2 / ((gcdL (q.1 ++ [q.2]) : Nat) : Int))
def negU (q : List Int × Int) : List Int × Int := (q.1.map fun z => -z, -q.2)
/-- the first place that is not 0, and what stands there -/
def firstNZ (ns : List Int) : Nat := ns.findIdx fun z => decide (z ≠ 0)
def lead (ns : List Int) : Int := ns.getD (firstNZ ns) 0
def nfU (q : List Int × Int) : List Int × Int := if 0 < lead (divU q).1 then divU q else negU (divU q)
theorem firstNZ_at {ns : List Int} (h : NonZ ns) : ns[firstNZ ns]? = some (lead ns) ∧ lead ns ≠ 0 ∧ ∀ j z, j < firstNZ ns → ns[j]? = some z → z = 0 := by
  have hl : firstNZ ns < ns.length := by
    obtain ⟨z, h1, h2⟩ := h.ex
    exact List.findIdx_lt_length_of_exists ⟨z, h1, decide_eq_true h2⟩
  have e : ns[firstNZ ns]? = some ns[firstNZ ns] := List.getElem?_eq_getElem hl
  have e2 : lead ns = ns[firstNZ ns] := by
    unfold lead
    rw [List.getD_eq_getElem?_getD, e] <;> rfl
  refine ⟨by rw [e2]; exact e, ?_, fun j z hj hz => ?_⟩
  · rw [e2]
    have := List.findIdx_getElem (p := fun z : Int => decide (z ≠ 0)) (xs := ns) (w := hl)
    exact of_decide_eq_true this
  · have := List.not_of_lt_findIdx (p := fun z : Int => decide (z ≠ 0)) (xs := ns) hj
    have hjl := (List.getElem?_eq_some_iff.mp hz)
    obtain ⟨hjl, ez⟩ := hjl
    rw [← ez]
    simpa using this
/-- bounds -/
structure QOk (q : List Int × Int) : Prop where
  nz : NonZ q.1
  ns : NsOk q.1
  wl : q.2.natAbs < 2 ^ 10000
theorem QOk.g {q : List Int × Int} (h : QOk q) : 0 < gcdL (q.1 ++ [q.2]) ∧ gcdL (q.1 ++ [q.2]) < 2 ^ 10000 := by
  obtain ⟨z, h1, h2⟩ := h.nz.ex
  have hm : z ∈ q.1 ++ [q.2] := List.mem_append_left _ h1
  exact ⟨gcdL_pos hm h2, Nat.lt_of_le_of_lt (gcdL_le hm h2) (h.ns z h1)⟩
theorem QOk.div {q : List Int × Int} (h : QOk q) : QOk (divU q) := by
  obtain ⟨g0, _⟩ := h.g
  have dv : ∀ z, z ∈ q.1 ++ [q.2] → (z / ((gcdL (q.1 ++ [q.2]) : Nat) : Int)).natAbs ≤ z.natAbs ∧ (z ≠ 0 → z / ((gcdL (q.1 ++ [q.2]) : Nat) : Int) ≠ 0) := fun z hz => div_le g0 (gcdL_dvd hz)
  refine ⟨?_, fun z hz => ?_, ?_⟩
  · obtain ⟨z, h1, h2⟩ := h.nz.ex
    exact nonZ_of (List.mem_map.mpr ⟨z, h1, rfl⟩) ((dv z (List.mem_append_left _ h1)).2 h2)
  · obtain ⟨y, hy, rfl⟩ := List.mem_map.mp hz
    exact Nat.lt_of_le_of_lt (dv y (List.mem_append_left _ hy)).1 (h.ns y hy)
  · exact Nat.lt_of_le_of_lt (dv q.2 (List.mem_append_right _ List.mem_cons_self)).1 h.wl
theorem QOk.neg {q : List Int × Int} (h : QOk q) : QOk (negU q) := by
  refine ⟨?_, fun z hz => ?_, by show (-q.2).natAbs < _; rw [Int.natAbs_neg]; exact h.wl⟩
  · obtain ⟨z, h1, h2⟩ := h.nz.ex
    exact nonZ_of (List.mem_map.mpr ⟨z, h1, rfl⟩) (by omega)
  · obtain ⟨y, hy, rfl⟩ := List.mem_map.mp hz
    rw [Int.natAbs_neg]
    exact h.ns y hy
/-! ### the flat normal form -/
theorem zlead_cons (z : Int) (r : List Int) : lead (z :: r) = if z = 0 then lead r else z := by
  unfold lead firstNZ
  rw [List.findIdx_cons]
  by_cases h : z = 0
  · rw [if_pos h, h]
    simp
  · rw [if_neg h]
    simp [h]
theorem znonZ_tail {z : Int} {r : List Int} (h : NonZ (z :: r)) (e : z = 0) : NonZ r := by
  obtain ⟨y, hy, ny⟩ := h.ex
  rcases List.mem_cons.mp hy with z1 | z1
  · exact absurd (z1.trans e) ny
  · exact nonZ_of z1 ny
theorem zlead_app : ∀ {a : List Int} (b : List Int), NonZ a → lead (a ++ b) = lead a
  | [], _, h => absurd (show false = true from h) Bool.false_ne_true
  | z :: r, b, h => by
    rw [List.cons_append, zlead_cons, zlead_cons]
    by_cases hz : z = 0
    · rw [if_pos hz, if_pos hz]
      exact zlead_app b (znonZ_tail h hz)
    · rw [if_neg hz, if_neg hz]
theorem zlead_map (f : Int → Int) : ∀ {a : List Int}, NonZ a → (∀ z, z ∈ a → (f z = 0 ↔ z = 0)) → lead (a.map f) = f (lead a)
  | [], h, _ => absurd (show false = true from h) Bool.false_ne_true
  | z :: r, h, k => by
    rw [List.map_cons, zlead_cons, zlead_cons]
    have kz := k z List.mem_cons_self
    by_cases hz : z = 0
    · rw [if_pos hz, if_pos (kz.mpr hz)]
      exact zlead_map f (znonZ_tail h hz) fun y hy => k y (List.mem_cons_of_mem _ hy)
    · rw [if_neg hz, if_neg (fun e => hz (kz.mp e))]
/-- exact division -/
theorem zex_div {z : Int} {g : Nat} (hg : 0 < g) (h : g ∣ z.natAbs) : z.fdiv (g : Int) = z / (g : Int) ∧ z.fdiv (-(g : Int)) = -(z / (g : Int)) ∧ (z / (g : Int) = 0 ↔ z = 0) ∧ (0 < z / (g : Int) ↔ 0 < z) := by
  obtain ⟨t, e⟩ := Int.ofNat_dvd_left.mpr h
  have gp : (0 : Int) < (g : Int) := by omega
  have e2 : z / (g : Int) = t := by rw [e]; exact Int.mul_ediv_cancel_left _ (by omega)
  rw [e2]
  refine ⟨by rw [Int.fdiv_eq_ediv_of_nonneg _ (Int.le_of_lt gp), e2], ?_, ?_, ?_⟩
  · have : z = (-(g : Int)) * (-t) := by rw [e, Int.neg_mul_neg]
    rw [this]
    exact Int.mul_fdiv_cancel_left _ (by omega)
  · constructor
    · intro q
      rw [e, q, Int.mul_zero]
    · intro q
      rw [e] at q
      rcases Int.mul_eq_zero.mp q with q | q
      · omega
      · exact q
  · constructor
    · intro q
      rw [e]
      exact Int.mul_pos gp q
    · intro q
      rw [e] at q
      exact Int.pos_of_mul_pos_right q gp
/-- what the integers of a question are divided by -/
def nfC (q : List Int × Int) : Int := if lead (q.1 ++ [q.2]) < 0 then -((gcdL (q.1 ++ [q.2]) : Nat) : Int) else ((gcdL (q.1 ++ [q.2]) : Nat) : Int)
theorem nf_flat {q : List Int × Int} (h : NonZ q.1) : (nfU q).1 ++ [(nfU q).2] = (q.1 ++ [q.2]).map (fun z => z.fdiv (nfC q)) ∧ nfC q ≠ 0 := by
  obtain ⟨y, hy, ny⟩ := h.ex
  have g0 : 0 < gcdL (q.1 ++ [q.2]) := gcdL_pos (List.mem_append_left _ hy) ny
  have dv : ∀ z, z ∈ q.1 ++ [q.2] → gcdL (q.1 ++ [q.2]) ∣ z.natAbs := fun z hz => gcdL_dvd hz
  have el : lead (q.1 ++ [q.2]) = lead q.1 := zlead_app _ h
  obtain ⟨k1, k2, _⟩ := firstNZ_at h
  have lm : lead q.1 ∈ q.1 := List.mem_of_getElem? k1
  have ed : lead (divU q).1 = lead q.1 / ((gcdL (q.1 ++ [q.2]) : Nat) : Int) := zlead_map _ h fun z hz => (zex_div g0 (dv z (List.mem_append_left _ hz))).2.2.1
  have sg := (zex_div g0 (dv _ (List.mem_append_left _ lm))).2.2.2
  rw [← ed] at sg
  by_cases hn : lead q.1 < 0
  · have ec : nfC q = -((gcdL (q.1 ++ [q.2]) : Nat) : Int) := by unfold nfC; rw [el, if_pos hn]
    have en : nfU q = negU (divU q) := if_neg fun z => by have := sg.mp z; omega
    refine ⟨?_, by rw [ec]; omega⟩
    rw [en, ec]
    have e1 : (negU (divU q)).1 ++ [(negU (divU q)).2] = (q.1 ++ [q.2]).map (fun z => -(z / ((gcdL (q.1 ++ [q.2]) : Nat) : Int))) := by
      unfold negU divU
      dsimp only
      rw [List.map_map, List.map_append, List.map_singleton]
      rfl
    rw [e1]
    exact List.map_congr_left fun z hz => ((zex_div g0 (dv z hz)).2.1).symm
  · have ec : nfC q = ((gcdL (q.1 ++ [q.2]) : Nat) : Int) := by unfold nfC; rw [el, if_neg hn]
    have en : nfU q = divU q := if_pos (sg.mpr (by omega))
    refine ⟨?_, by rw [ec]; omega⟩
    rw [en, ec]
    have e1 : (divU q).1 ++ [(divU q).2] = (q.1 ++ [q.2]).map (fun z => z / ((gcdL (q.1 ++ [q.2]) : Nat) : Int)) := by
      unfold divU
      dsimp only
      rw [List.map_append, List.map_singleton]
    rw [e1]
    exact List.map_congr_left fun z hz => ((zex_div g0 (dv z hz)).1).symm
theorem znonZ_app {a : List Int} (b : List Int) (h : NonZ a) : NonZ (a ++ b) := by
  obtain ⟨y, hy, ny⟩ := h.ex
  exact nonZ_of (List.mem_append_left _ hy) ny
end SB
namespace SB
theorem pair_ok {up lo : Int} (h : lo ≠ 0) : ∀ g c : Int, ((Nat.gcd up.natAbs lo.natAbs : Nat) : Int) = g → c = (if lo < 0 then -g else g) →
    Lo (up.fdiv c, lo.fdiv c) ∧ Eqr (up.fdiv c, lo.fdiv c) up lo ∧ (up.fdiv c).natAbs ≤ up.natAbs ∧ (lo.fdiv c).natAbs ≤ lo.natAbs ∧ c ≠ 0 ∧ c.natAbs ≤ lo.natAbs := by
  intro g c hg hc
  have d1 : g ∣ up := by rw [← hg]; exact gcd_dvd_l up lo
  have d2 : g ∣ lo := by rw [← hg]; exact gcd_dvd_r up lo
  by_cases hn : lo < 0
  · rw [if_pos hn] at hc
    subst hc
    have e1 : up.fdiv (-g) = (-up) / g := by
      rw [Int.fdiv_eq_ediv_of_dvd (Int.neg_dvd.mpr d1), Int.ediv_neg, Int.neg_ediv_of_dvd d1]
    have e2 : lo.fdiv (-g) = (-lo) / g := by
      rw [Int.fdiv_eq_ediv_of_dvd (Int.neg_dvd.mpr d2), Int.ediv_neg, Int.neg_ediv_of_dvd d2]
    obtain ⟨a1, a2, a3, a4, a5, a6⟩ := low_ok (t := -up) (b := -lo) (by omega) g (by rw [Int.natAbs_neg, Int.natAbs_neg]; exact hg)
    rw [e1, e2]
    refine ⟨a1, ?_, by rw [Int.natAbs_neg] at a3; exact a3, by rw [Int.natAbs_neg] at a4; exact a4, by omega, by rw [Int.natAbs_neg] at a6; rw [Int.natAbs_neg]; exact a6⟩
    unfold Eqr at *
    dsimp only at *
    rw [Int.mul_neg, Int.neg_mul] at a2
    omega
  · rw [if_neg hn] at hc
    subst hc
    obtain ⟨a1, a2, a3, a4, a5, a6⟩ := low_ok (t := up) (b := lo) (by omega) c hg
    rw [Int.fdiv_eq_ediv_of_nonneg _ (by omega), Int.fdiv_eq_ediv_of_nonneg _ (by omega)]
    exact ⟨a1, a2, a3, a4, by omega, a6⟩
theorem abs_nat (i : Int) : (if i < 0 then -i else i) = ((i.natAbs : Nat) : Int) := by
  by_cases h : i < 0
  · rw [if_pos h]; omega
  · rw [if_neg h]; omega
end SB
namespace SB
theorem lead_cons (z : Int) (r : List Int) : lead (z :: r) = if z = 0 then lead r else z := by
  unfold lead firstNZ
  rw [List.findIdx_cons]
  by_cases h : z = 0
  · rw [if_pos h, show decide (z ≠ 0) = false from decide_eq_false (fun n => n h)]
    rfl
  · rw [if_neg h, show decide (z ≠ 0) = true from decide_eq_true h]
    rfl
theorem lead_nil : lead [] = 0 := rfl
theorem lead_map {f : Int → Int} (h0 : f 0 = 0) : ∀ {ns : List Int}, (∀ z, z ∈ ns → z ≠ 0 → f z ≠ 0) → lead (ns.map f) = f (lead ns)
  | [], _ => by rw [List.map_nil, lead_nil, h0]
  | z :: r, h => by
    rw [List.map_cons, lead_cons, lead_cons]
    by_cases hz : z = 0
    · rw [if_pos hz, hz, h0, if_pos rfl]
      exact lead_map h0 fun y hy => h y (List.mem_cons_of_mem _ hy)
    · rw [if_neg hz, if_neg (h z List.mem_cons_self hz)]
theorem lead_filter : ∀ {ns t : List Int}, NonZ ns → ((ns ++ t).filter fun z => decide (z ≠ 0))[0]? = some (lead ns)
  | [], _, h => absurd (show false = true from h) Bool.false_ne_true
  | z :: r, t, h => by
    rw [lead_cons, List.cons_append]
    by_cases hz : z = 0
    · rw [if_pos hz, List.filter_cons_of_neg (by simp [hz])]
      refine lead_filter ?_
      have h2 : (decide (z ≠ 0) || r.any fun z => decide (z ≠ 0)) = true := h
      rw [show decide (z ≠ 0) = false from decide_eq_false (fun n => n hz), Bool.false_or] at h2
      exact h2
    · rw [if_neg hz, List.filter_cons_of_pos (by simp [hz])]
      rfl
/-- a question's form in one row -/
def grU (q : List Int × Int) : List Int := (nfU q).1 ++ [(nfU q).2]
theorem grU_inj {p q : List Int × Int} (h : grU p = grU q) : nfU p = nfU q := by
  unfold grU at h
  obtain ⟨h1, h2⟩ := List.append_inj' h rfl
  exact Prod.ext h1 (by simpa using h2)
theorem neg_div {x : Int} {g : Nat} (h : g ∣ x.natAbs) : (-x) / (g : Int) = -(x / (g : Int)) := Int.neg_ediv_of_dvd (Int.ofNat_dvd_left.mpr h)
theorem grU_eq {q : List Int × Int} (h : QOk q) : grU q = (q.1 ++ [q.2]).map fun x => if 0 < lead q.1 then x / ((gcdL (q.1 ++ [q.2]) : Nat) : Int) else (-x) / ((gcdL (q.1 ++ [q.2]) : Nat) : Int) := by
  obtain ⟨g0, _⟩ := h.g
  generalize hG : gcdL (q.1 ++ [q.2]) = G at *
  have dv : ∀ z, z ∈ q.1 ++ [q.2] → G ∣ z.natAbs := fun z hz => by rw [← hG]; exact gcdL_dvd hz
  have e1 : divU q = (q.1.map fun z => z / (G : Int), q.2 / (G : Int)) := by unfold divU; rw [hG]
  have gp : (0 : Int) < (G : Int) := by omega
  have el : lead (q.1.map fun z => z / (G : Int)) = lead q.1 / (G : Int) := lead_map (f := fun z => z / (G : Int)) (Int.zero_ediv _) fun z hz n => (div_le g0 (dv z (List.mem_append_left _ hz))).2 n
  have sg : 0 < lead q.1 / (G : Int) ↔ 0 < lead q.1 := by
    have hm : lead q.1 ∈ q.1 := List.mem_of_getElem? (firstNZ_at h.nz).1
    obtain ⟨t, et⟩ := Int.ofNat_dvd_left.mpr (dv _ (List.mem_append_left _ hm))
    rw [et, Int.mul_ediv_cancel_left _ (by omega)]
    constructor
    · exact fun z => Int.mul_pos gp z
    · intro z
      rcases Int.lt_trichotomy t 0 with y | y | y
      · have := Int.mul_neg_of_pos_of_neg gp y
        omega
      · rw [y, Int.mul_zero] at z
        omega
      · exact y
  unfold grU nfU
  rw [e1]
  dsimp only
  rw [el]
  by_cases hc : 0 < lead q.1
  · rw [if_pos (sg.mpr hc)]
    simp only [if_pos hc, List.map_append, List.map_cons, List.map_nil]
  · rw [if_neg (fun z => hc (sg.mp z))]
    simp only [if_neg hc, List.map_append, List.map_cons, List.map_nil, negU, List.map_map]
    rw [neg_div (dv q.2 (List.mem_append_right _ List.mem_cons_self))]
    refine congrArg (· ++ _) (List.map_congr_left fun z hz => ?_)
    exact (neg_div (dv z (List.mem_append_left _ hz))).symm
end SB
namespace SB
theorem gcdF_neg : ∀ (l : List Int) (c : Nat), (l.map fun z => -z).foldl (fun c z => Nat.gcd c z.natAbs) c = l.foldl (fun c z => Nat.gcd c z.natAbs) c
  | [], _ => rfl
  | z :: r, c => by
    rw [List.map_cons, List.foldl_cons, List.foldl_cons, Int.natAbs_neg]
    exact gcdF_neg r _
theorem gcdL_neg (l : List Int) : gcdL (l.map fun z => -z) = gcdL l := gcdF_neg l 0
theorem lead_neg (ns : List Int) : lead (ns.map fun z => -z) = -lead ns := lead_map (f := fun z => -z) rfl fun z _ h => by omega
theorem nfU_neg {q : List Int × Int} (h : QOk q) : nfU (negU q) = nfU q := by
  refine grU_inj ?_
  obtain ⟨_, n0, _⟩ := firstNZ_at h.nz
  rw [grU_eq h, grU_eq h.neg]
  have e : (negU q).1 ++ [(negU q).2] = (q.1 ++ [q.2]).map fun z => -z := by
    rw [List.map_append]
    rfl
  have el : lead (negU q).1 = -lead q.1 := lead_neg q.1
  rw [e, gcdL_neg, List.map_map, el]
  refine List.map_congr_left fun x _ => ?_
  show (if 0 < -lead q.1 then (-x) / _ else (-(-x)) / _) = _
  by_cases c : 0 < lead q.1
  · rw [if_pos c, if_neg (by omega), Int.neg_neg]
  · rw [if_neg c, if_pos (by omega)]
theorem foldU_neg : ∀ (ns : List Int) (us : List (Int × Int)) (g : Int × Int), sumU (ns.map fun z => -z) us (-g.1, g.2) = (-(sumU ns us g).1, (sumU ns us g).2)
  | [], _, _ => rfl
  | _ :: _, [], _ => rfl
  | z :: r, u :: t, g => by
    have h := foldU_neg r t (stepU g (z, u))
    have e : stepU (-g.1, g.2) (-z, u) = (-(stepU g (z, u)).1, (stepU g (z, u)).2) := by
      unfold stepU fPlus fTimes
      dsimp only
      refine Prod.ext ?_ rfl
      dsimp only
      grind
    show sumU (r.map fun z => -z) t (stepU (-g.1, g.2) (-z, u)) = _
    rw [e, h]
    rfl
theorem worth_neg (q : List Int × Int) (us : List (Int × Int)) : (worthU (negU q) us).1 = -(worthU q us).1 := by
  have h := foldU_neg q.1 us (-q.2, 1)
  have : worthU (negU q) us = sumU (q.1.map fun z => -z) us (-(-q.2, (1:Int)).1, (-q.2, (1:Int)).2) := rfl
  rw [this, h]
  rfl
theorem set_take {α : Type} {l : List α} {i : Nat} (a : α) (h : i < l.length) : (l.take i ++ [a]) ++ l.drop (i + 1) = l.set i a := by
  rw [List.set_eq_take_append_cons_drop, if_pos h, List.append_assoc]
  rfl
end SB
namespace SB
/-! ### numbers as fractions -/
def qv (p : Int × Int) : Rat := (p.1 : Rat) / (p.2 : Rat)
theorem rpos {b : Int} (h : 0 < b) : (0 : Rat) < (b : Rat) := Rat.intCast_pos.mpr h
theorem rne {b : Int} (h : 0 < b) : (b : Rat) ≠ 0 := fun e => by
  have := Rat.intCast_eq_zero_iff.mp e
  omega
theorem rne0 {b : Int} (h : b ≠ 0) : (b : Rat) ≠ 0 := fun e => h (Rat.intCast_eq_zero_iff.mp e)
theorem qv_mul {p : Int × Int} (h : 0 < p.2) : qv p * (p.2 : Rat) = (p.1 : Rat) := by
  have := rne h
  unfold qv
  grind
theorem qv_of {p : Int × Int} {x : Rat} (h : 0 < p.2) (e : x * (p.2 : Rat) = (p.1 : Rat)) : qv p = x := by
  have := rne h
  unfold qv
  grind
theorem qv_eqr {r : Int × Int} {N D : Int} (e : Eqr r N D) (h : 0 < r.2) (hD : 0 < D) : qv r = qv (N, D) := by
  refine qv_of h ?_
  have h1 := qv_mul (p := (N, D)) hD
  have e : r.1 * D = N * r.2 := e
  have e2 : (r.1 : Rat) * (D : Rat) = (N : Rat) * (r.2 : Rat) := by rw [← Rat.intCast_mul, e, Rat.intCast_mul]
  have := rne hD
  have h1 : qv (N, D) * (D : Rat) = (N : Rat) := h1
  grind
theorem qv_eqr' {r p : Int × Int} (e : Eqr r p.1 p.2) (h : 0 < r.2) (hD : 0 < p.2) : qv r = qv p := qv_eqr e h hD
theorem qv_inj {p q : Int × Int} (hp : Lo p) (hq : Lo q) (e : qv p = qv q) : p = q := by
  have h1 := qv_mul hp.1
  have h2 := qv_mul hq.1
  have e2 : (p.1 : Rat) * (q.2 : Rat) = (q.1 : Rat) * (p.2 : Rat) := by rw [e] at h1; grind
  rw [← Rat.intCast_mul, ← Rat.intCast_mul] at e2
  exact lo_uniq hp hq (Rat.intCast_inj.mp e2)
theorem qv_plus {p q : Int × Int} (hp : 0 < p.2) (hq : 0 < q.2) : qv (fPlus p q) = qv p + qv q := by
  refine qv_of (Int.mul_pos hp hq) ?_
  have h1 := qv_mul hp
  have h2 := qv_mul hq
  show _ * ((p.2 * q.2 : Int) : Rat) = ((p.1 * q.2 + q.1 * p.2 : Int) : Rat)
  rw [Rat.intCast_add, Rat.intCast_mul, Rat.intCast_mul, Rat.intCast_mul]
  grind
theorem qv_minus {p q : Int × Int} (hp : 0 < p.2) (hq : 0 < q.2) : qv (fMinus p q) = qv p - qv q := by
  refine qv_of (Int.mul_pos hp hq) ?_
  have h1 := qv_mul hp
  have h2 := qv_mul hq
  show _ * ((p.2 * q.2 : Int) : Rat) = ((p.1 * q.2 - q.1 * p.2 : Int) : Rat)
  rw [Rat.intCast_sub, Rat.intCast_mul, Rat.intCast_mul, Rat.intCast_mul]
  grind
theorem qv_times {p q : Int × Int} (hp : 0 < p.2) (hq : 0 < q.2) : qv (fTimes p q) = qv p * qv q := by
  refine qv_of (Int.mul_pos hp hq) ?_
  have h1 := qv_mul hp
  have h2 := qv_mul hq
  show _ * ((p.2 * q.2 : Int) : Rat) = ((p.1 * q.1 : Int) : Rat)
  rw [Rat.intCast_mul, Rat.intCast_mul]
  grind
theorem qv_int (z : Int) : qv (z, 1) = (z : Rat) := qv_of Int.one_pos (by show _ * ((1 : Int) : Rat) = (z : Rat); rw [Rat.intCast_one]; grind)
theorem qv_pos {p : Int × Int} (h : 0 < p.2) : 0 < qv p ↔ 0 < p.1 := by
  have h1 := qv_mul h
  have h2 := rpos h
  rw [← Rat.intCast_pos, ← h1]
  exact (Rat.mul_pos_iff_of_pos_right h2).symm
theorem qv_neg {p : Int × Int} (h : 0 < p.2) : qv p < 0 ↔ p.1 < 0 := by
  have h1 := qv_pos (p := (-p.1, p.2)) h
  have e : qv (-p.1, p.2) = -qv p := qv_of h (by
    have := qv_mul h
    show -qv p * (p.2 : Rat) = ((-p.1 : Int) : Rat)
    rw [Rat.intCast_neg]
    grind)
  rw [e] at h1
  have h1 : 0 < -qv p ↔ 0 < -p.1 := h1
  constructor
  · intro z
    have := h1.mp (by grind)
    omega
  · intro z
    have := h1.mpr (by omega)
    grind
/-- the sign of a fraction -/
def sgQ (x : Rat) : Int := if 0 < x then 1 else if x < 0 then -1 else 0
theorem sgQ_pos {x : Rat} (h : 0 < x) : sgQ x = 1 := if_pos h
theorem sgQ_neg {x : Rat} (h : x < 0) : sgQ x = -1 := by
  unfold sgQ
  rw [if_neg (by grind), if_pos h]
theorem sgQ_zero : sgQ 0 = 0 := by decide +kernel
theorem sgQ_mul {x c : Rat} (h : 0 < c) : sgQ (c * x) = sgQ x := by
  by_cases h1 : 0 < x
  · rw [sgQ_pos h1, sgQ_pos (Rat.mul_pos h h1)]
  · by_cases h2 : x < 0
    · have := Rat.mul_pos h (show 0 < -x by grind)
      rw [sgQ_neg h2, sgQ_neg (by grind)]
    · have : x = 0 := by grind
      rw [this, Rat.mul_zero]
/-- a sum of sides times numbers -/
def dotQ : List Int → List Rat → Rat
  | n :: r, x :: t => (n : Rat) * x + dotQ r t
  | _, _ => 0
theorem sumU_qv : ∀ (ns : List Int) (us : List (Int × Int)) (g : Int × Int), 0 < g.2 → (∀ u, u ∈ us → 0 < u.2) → qv (sumU ns us g) = qv g + dotQ ns (us.map qv)
  | [], us, g, _, _ => by
    show qv g = qv g + dotQ [] _
    cases us <;> (unfold dotQ; grind)
  | _ :: _, [], g, _, _ => by
    show qv g = qv g + 0
    grind
  | n :: r, u :: t, g, hg, hu => by
    have h2 := hu u List.mem_cons_self
    have h := sumU_qv r t (stepU g (n, u)) (stepU_pos hg h2) fun v hv => hu v (List.mem_cons_of_mem _ hv)
    show qv (sumU r t (stepU g (n, u))) = qv g + ((n : Rat) * qv u + dotQ r (t.map qv))
    have e : qv (stepU g (n, u)) = qv g + (n : Rat) * qv u := by
      show qv (fPlus g (fTimes (n, 1) u)) = _
      rw [qv_plus hg (Int.mul_pos Int.one_pos h2), qv_times Int.one_pos h2, qv_int]
    rw [h, e]
    grind
theorem worth_qv {q : List Int × Int} {us : List (Int × Int)} (h : ∀ u, u ∈ us → 0 < u.2) : qv (worthU q us) = dotQ q.1 (us.map qv) - (q.2 : Rat) := by
  unfold worthU
  rw [sumU_qv _ _ _ Int.one_pos h, qv_int, Rat.intCast_neg]
  grind
/-- on the way from xs to ys -/
def mixQ (s : Rat) (xs ys : List Rat) : List Rat := List.zipWith (fun x y => x + s * (y - x)) xs ys
theorem dot_mix (s : Rat) : ∀ (ns : List Int) (xs ys : List Rat), xs.length = ys.length → dotQ ns (mixQ s xs ys) = dotQ ns xs + s * (dotQ ns ys - dotQ ns xs)
  | [], xs, ys, _ => by
    have h : ∀ l : List Rat, dotQ [] l = 0 := fun l => by cases l <;> rfl
    rw [h, h, h]
    grind
  | n :: r, [], [], _ => by
    show (0 : Rat) = 0 + s * (0 - 0)
    grind
  | n :: r, x :: xs, y :: ys, h => by
    have := dot_mix s r xs ys (by simpa using h)
    show (n : Rat) * (x + s * (y - x)) + dotQ r (mixQ s xs ys) = ((n : Rat) * x + dotQ r xs) + s * (((n : Rat) * y + dotQ r ys) - ((n : Rat) * x + dotQ r xs))
    rw [this]
    grind
theorem mix_at {s : Rat} {xs ys : List Rat} {i : Nat} {x y : Rat} (h : xs[i]? = some x) (k : ys[i]? = some y) : (mixQ s xs ys)[i]? = some (x + s * (y - x)) := by
  unfold mixQ
  rw [List.getElem?_zipWith, h, k]
theorem qvs_inj : ∀ {ps qs : List (Int × Int)}, (∀ p, p ∈ ps → Lo p) → (∀ q, q ∈ qs → Lo q) → ps.map qv = qs.map qv → ps = qs
  | [], [], _, _, _ => rfl
  | [], _ :: _, _, _, e => by cases e
  | _ :: _, [], _, _, e => by cases e
  | p :: r, q :: t, hp, hq, e => by
    rw [List.map_cons, List.map_cons] at e
    obtain ⟨e1, e2⟩ := List.cons.inj e
    rw [qv_inj (hp p List.mem_cons_self) (hq q List.mem_cons_self) e1, qvs_inj (fun x h => hp x (List.mem_cons_of_mem _ h)) (fun x h => hq x (List.mem_cons_of_mem _ h)) e2]
/-- the one's answers, where these are 0 the other's -/
def aheadU (zs ws : List Int) : List Int := List.zipWith (fun z w => if z = 0 then w else z) zs ws
theorem ahead_len {zs ws : List Int} (h : zs.length = ws.length) : (aheadU zs ws).length = zs.length := by
  unfold aheadU
  rw [List.length_zipWith]
  omega
theorem ahead_at {zs ws : List Int} {i : Nat} {z w : Int} (h : zs[i]? = some z) (k : ws[i]? = some w) : (aheadU zs ws)[i]? = some (if z = 0 then w else z) := by
  unfold aheadU
  rw [List.getElem?_zipWith, h, k]
/-- near enough to the one point the answer is the one's, or where this is 0 the other's -/
theorem sg_ahead {a b s : Rat} (h0 : 0 < s) (h1 : s < 1) (hp : 0 < a → b < 0 → s * (a - b) < a) (hn : a < 0 → 0 < b → s * (b - a) < -a) : sgQ (a + s * (b - a)) = if sgQ a = 0 then sgQ b else sgQ a := by
  by_cases a1 : 0 < a
  · rw [sgQ_pos a1, if_neg (by decide)]
    refine sgQ_pos ?_
    by_cases b1 : b < 0
    · have := hp a1 b1
      grind
    · have h2 : 0 < (1 - s) * a := Rat.mul_pos (by grind) a1
      have h3 : 0 ≤ s * b := Rat.mul_nonneg (by grind) (by grind)
      grind
  · by_cases a2 : a < 0
    · rw [sgQ_neg a2, if_neg (by decide)]
      refine sgQ_neg ?_
      by_cases b1 : 0 < b
      · have := hn a2 b1
        grind
      · have h2 : 0 < (1 - s) * (-a) := Rat.mul_pos (by grind) (by grind)
        have h3 : 0 ≤ s * (-b) := Rat.mul_nonneg (by grind) (by grind)
        grind
    · have : a = 0 := by grind
      subst this
      rw [sgQ_zero, if_pos rfl]
      have : (0 : Rat) + s * (b - 0) = s * b := by grind
      rw [this, sgQ_mul h0]
end SB
namespace SB
/-! ### questions with the same noughts; a question moved -/
def scU (k : Int) (q : List Int × Int) : List Int × Int := (q.1.map fun z => k * z, k * q.2)
theorem scU_sc (a b : Int) (q : List Int × Int) : scU a (scU b q) = scU (a * b) q := by
  unfold scU
  refine Prod.ext ?_ ?_
  · show (q.1.map _).map _ = _
    rw [List.map_map]
    refine List.map_congr_left fun z _ => ?_
    show a * (b * z) = a * b * z
    rw [Int.mul_assoc]
  · show a * (b * q.2) = a * b * q.2
    rw [Int.mul_assoc]
theorem scU_cells (k : Int) (q : List Int × Int) : (scU k q).1 ++ [(scU k q).2] = (q.1 ++ [q.2]).map fun z => k * z := by
  rw [List.map_append]
  rfl
theorem gcdF_mul (k : Int) : ∀ (l : List Int) (c : Nat), (l.map fun z => k * z).foldl (fun c z => Nat.gcd c z.natAbs) (k.natAbs * c) = k.natAbs * l.foldl (fun c z => Nat.gcd c z.natAbs) c
  | [], _ => rfl
  | z :: r, c => by
    rw [List.map_cons, List.foldl_cons, List.foldl_cons, Int.natAbs_mul, Nat.gcd_mul_left]
    exact gcdF_mul k r _
theorem gcdL_mul (k : Int) (l : List Int) : gcdL (l.map fun z => k * z) = k.natAbs * gcdL l := gcdF_mul k l 0
theorem nonZ_g {q : List Int × Int} (h : NonZ q.1) : 0 < gcdL (q.1 ++ [q.2]) := by
  obtain ⟨z, h1, h2⟩ := h.ex
  exact gcdL_pos (List.mem_append_left _ h1) h2
theorem NonZ.sc {q : List Int × Int} (h : NonZ q.1) {k : Int} (hk : k ≠ 0) : NonZ (scU k q).1 := by
  obtain ⟨z, h1, h2⟩ := h.ex
  exact nonZ_of (List.mem_map.mpr ⟨z, h1, rfl⟩) (Int.mul_ne_zero hk h2)
theorem divU_sc {k : Int} (hk : 0 < k) {q : List Int × Int} (h : NonZ q.1) : divU (scU k q) = divU q := by
  have g0 := nonZ_g h
  have eg : ((gcdL ((scU k q).1 ++ [(scU k q).2]) : Nat) : Int) = k * ((gcdL (q.1 ++ [q.2]) : Nat) : Int) := by
    rw [scU_cells, gcdL_mul, Int.natCast_mul]
    congr 1
    omega
  unfold divU
  rw [eg]
  refine Prod.ext ?_ ?_
  · show (q.1.map _).map _ = _
    rw [List.map_map]
    refine List.map_congr_left fun z _ => ?_
    show (k * z) / (k * _) = z / _
    rw [Int.mul_ediv_mul_of_pos _ _ hk]
  · show (k * q.2) / (k * _) = q.2 / _
    rw [Int.mul_ediv_mul_of_pos _ _ hk]
/-- what the greatest divisor takes out -/
theorem scU_divU (q : List Int × Int) : scU ((gcdL (q.1 ++ [q.2]) : Nat) : Int) (divU q) = q := by
  unfold scU divU
  refine Prod.ext ?_ ?_
  · show (q.1.map _).map _ = q.1
    rw [List.map_map]
    have : ∀ l : List Int, (∀ z, z ∈ l → z ∈ q.1 ++ [q.2]) → l.map ((fun z => ((gcdL (q.1 ++ [q.2]) : Nat) : Int) * z) ∘ fun z => z / ((gcdL (q.1 ++ [q.2]) : Nat) : Int)) = l := fun l => by
      induction l with
      | nil => exact fun _ => rfl
      | cons z r ih =>
        intro h
        rw [List.map_cons, ih fun y hy => h y (List.mem_cons_of_mem _ hy)]
        congr 1
        exact Int.mul_ediv_cancel' (Int.ofNat_dvd_left.mpr (gcdL_dvd (h z List.mem_cons_self)))
    exact this q.1 fun z h => List.mem_append_left _ h
  · exact Int.mul_ediv_cancel' (Int.ofNat_dvd_left.mpr (gcdL_dvd (List.mem_append_right _ List.mem_cons_self)))
theorem divU_same {p q : List Int × Int} {u v : Int} (hu : 0 < u) (hv : 0 < v) (hp : NonZ p.1) (hq : NonZ q.1) (e : scU v p = scU u q) : divU p = divU q := by
  rw [← divU_sc hv hp, e, divU_sc hu hq]
theorem nonZ_div {q : List Int × Int} (h : NonZ q.1) : NonZ (divU q).1 := by
  have g0 := nonZ_g h
  obtain ⟨z, h1, h2⟩ := h.ex
  exact nonZ_of (List.mem_map.mpr ⟨z, h1, rfl⟩) ((div_le g0 (gcdL_dvd (List.mem_append_left _ h1))).2 h2)
theorem negU_sc (q : List Int × Int) : negU q = scU (-1) q := by
  unfold negU scU
  refine Prod.ext (List.map_congr_left fun z _ => ?_) ?_
  · show -z = -1 * z
    omega
  · show -q.2 = -1 * q.2
    omega
/-- the form is a multiple -/
theorem nf_sc {q : List Int × Int} (h : NonZ q.1) : ∃ a : Int, a ≠ 0 ∧ scU a (nfU q) = q := by
  have g0 := nonZ_g h
  unfold nfU
  by_cases c : 0 < lead (divU q).1
  · rw [if_pos c]
    exact ⟨_, by omega, scU_divU q⟩
  · rw [if_neg c, negU_sc]
    refine ⟨-((gcdL (q.1 ++ [q.2]) : Nat) : Int), by omega, ?_⟩
    rw [scU_sc]
    have : -((gcdL (q.1 ++ [q.2]) : Nat) : Int) * -1 = ((gcdL (q.1 ++ [q.2]) : Nat) : Int) := by omega
    rw [this, scU_divU]
theorem nf_of {p q : List Int × Int} (hp : NonZ p.1) (hq : NonZ q.1) (e : nfU p = nfU q) : ∃ u v : Int, u ≠ 0 ∧ v ≠ 0 ∧ scU v p = scU u q := by
  obtain ⟨a, a0, ea⟩ := nf_sc hp
  obtain ⟨b, b0, eb⟩ := nf_sc hq
  refine ⟨a, b, a0, b0, ?_⟩
  rw [← ea, e, scU_sc]
  conv => rhs; rw [← eb, scU_sc]
  rw [Int.mul_comm]
theorem nf_same {p q : List Int × Int} (hp : QOk p) (hq : QOk q) {u v : Int} (u0 : u ≠ 0) (v0 : v ≠ 0) (e : scU v p = scU u q) : nfU p = nfU q := by
  -- both factors above 0, perhaps with a question turned
  have key : ∀ {p q : List Int × Int} {u v : Int}, NonZ p.1 → NonZ q.1 → 0 < u → 0 < v → scU v p = scU u q → nfU p = nfU q := fun {p q u v} hp hq hu hv e => by
    unfold nfU
    rw [divU_same hu hv hp hq e]
  have neg : ∀ {p q : List Int × Int} {u v : Int}, scU v p = scU u q → scU (-v) p = scU (-u) q := fun {p q u v} e => by
    have := congrArg (scU (-1)) e
    rw [scU_sc, scU_sc] at this
    rw [show -v = -1 * v by omega, show -u = -1 * u by omega]
    exact this
  have pos : ∀ {p q : List Int × Int} {u v : Int}, QOk p → QOk q → u ≠ 0 → 0 < v → scU v p = scU u q → nfU p = nfU q := fun {p q u v} hp hq hu hv e => by
    by_cases c : 0 < u
    · exact key hp.nz hq.nz c hv e
    · rw [← nfU_neg hq]
      refine key hp.nz hq.neg.nz (u := -u) (v := v) (by omega) hv ?_
      rw [negU_sc, scU_sc, e]
      congr 1
      omega
  by_cases c : 0 < v
  · exact pos hp hq u0 c e
  · exact pos hp hq (u := -u) (v := -v) (by omega) (by omega) (neg e)
/-- in lowest terms -/
def lowU (p : Int × Int) : Int × Int := (p.1 / ((Nat.gcd p.1.natAbs p.2.natAbs : Nat) : Int), p.2 / ((Nat.gcd p.1.natAbs p.2.natAbs : Nat) : Int))
theorem lowU_ok {p : Int × Int} (h : 0 < p.2) : Lo (lowU p) ∧ Eqr (lowU p) p.1 p.2 := by
  obtain ⟨a, b, _⟩ := low_ok (t := p.1) h _ rfl
  exact ⟨a, b⟩
theorem lowU_is {p r : Int × Int} (h : 0 < p.2) (hr : Lo r) (e : Eqr r p.1 p.2) : r = lowU p := by
  obtain ⟨a, b⟩ := lowU_ok h
  refine qv_inj hr a ?_
  rw [qv_eqr' e hr.1 h, qv_eqr' b a.1 h]
/-- what the sides come to at a point, and the wall -/
def shiftU (q : List Int × Int) (us : List (Int × Int)) : Int × Int := lowU (fPlus (sumU q.1 us (0, 1)) (q.2, 1))
def rawU (q : List Int × Int) (r : Int × Int) : List Int × Int := (q.1.map fun z => z * r.2, r.1)
def movU (q : List Int × Int) (us : List (Int × Int)) : List Int × Int := divU (rawU q (shiftU q us))
theorem shift_pos {q : List Int × Int} {us : List (Int × Int)} (h : ∀ u, u ∈ us → Lo u) : 0 < (fPlus (sumU q.1 us (0, 1)) (q.2, 1)).2 := by
  refine Int.mul_pos (sumU_pos (by show (0 : Int) < 1; decide) fun p hp => ?_) Int.one_pos
  exact (h p.2 (List.of_mem_zip (a := p.1) (b := p.2) hp).2).1
theorem shift_lo {q : List Int × Int} {us : List (Int × Int)} (h : ∀ u, u ∈ us → Lo u) : Lo (shiftU q us) := (lowU_ok (shift_pos h)).1
theorem shift_qv {q : List Int × Int} {us : List (Int × Int)} (h : ∀ u, u ∈ us → Lo u) : qv (shiftU q us) = dotQ q.1 (us.map qv) + (q.2 : Rat) := by
  have p := shift_pos (q := q) h
  obtain ⟨a, b⟩ := lowU_ok p
  have h0 : 0 < (sumU q.1 us (0, 1)).2 := sumU_pos (by show (0 : Int) < 1; decide) fun p hp => (h p.2 (List.of_mem_zip (a := p.1) (b := p.2) hp).2).1
  show qv (lowU _) = _
  rw [qv_eqr' b a.1 p, qv_plus h0 Int.one_pos, sumU_qv _ _ _ Int.one_pos fun u hu => (h u hu).1, qv_int, qv_int, Rat.intCast_zero]
  grind
theorem raw_nz {q : List Int × Int} {r : Int × Int} (h : NonZ q.1) (hr : 0 < r.2) : NonZ (rawU q r).1 := by
  obtain ⟨z, h1, h2⟩ := h.ex
  exact nonZ_of (List.mem_map.mpr ⟨z, h1, rfl⟩) (Int.mul_ne_zero h2 (by omega))
theorem dot_sc (k : Int) : ∀ (ns : List Int) (xs : List Rat), dotQ (ns.map fun z => k * z) xs = (k : Rat) * dotQ ns xs
  | [], _ => by
    show dotQ [] _ = _ * dotQ [] _
    have h : ∀ l : List Rat, dotQ [] l = 0 := fun l => by cases l <;> rfl
    rw [h]
    grind
  | _ :: _, [] => by
    show (0 : Rat) = _ * 0
    grind
  | n :: r, x :: t => by
    show ((k * n : Int) : Rat) * x + dotQ (r.map _) t = (k : Rat) * ((n : Rat) * x + dotQ r t)
    rw [dot_sc k r t, Rat.intCast_mul]
    grind
/-- moved questions with the same noughts come of such -/
theorem mov_nf {p q : List Int × Int} {us : List (Int × Int)} (hp : QOk p) (hq : QOk q) (h : ∀ u, u ∈ us → Lo u) (e : nfU (movU p us) = nfU (movU q us)) : nfU p = nfU q := by
  have lp := shift_lo (q := p) h
  have lq := shift_lo (q := q) h
  have vp := shift_qv (q := p) h
  have vq := shift_qv (q := q) h
  generalize hrp : shiftU p us = rp at *
  generalize hrq : shiftU q us = rq at *
  have np := raw_nz (r := rp) hp.nz lp.1
  have nq := raw_nz (r := rq) hq.nz lq.1
  have ep : movU p us = divU (rawU p rp) := by unfold movU; rw [hrp]
  have eq : movU q us = divU (rawU q rq) := by unfold movU; rw [hrq]
  rw [ep, eq] at e
  obtain ⟨u, v, u0, v0, e2⟩ := nf_of (nonZ_div np) (nonZ_div nq) e
  have gp := nonZ_g np
  have gq := nonZ_g nq
  have sp := scU_divU (rawU p rp)
  have sq := scU_divU (rawU q rq)
  generalize ((gcdL ((rawU p rp).1 ++ [(rawU p rp).2]) : Nat) : Int) = a at sp
  generalize ((gcdL ((rawU q rq).1 ++ [(rawU q rq).2]) : Nat) : Int) = b at sq
  have a0 : a ≠ 0 := fun z => by
    rw [z] at sp
    obtain ⟨y, h1, h2⟩ := np.ex
    rw [← sp] at h1
    obtain ⟨x, _, hx⟩ := List.mem_map.mp h1
    rw [← hx, Int.zero_mul] at h2
    exact h2 rfl
  have b0 : b ≠ 0 := fun z => by
    rw [z] at sq
    obtain ⟨y, h1, h2⟩ := nq.ex
    rw [← sq] at h1
    obtain ⟨x, _, hx⟩ := List.mem_map.mp h1
    rw [← hx, Int.zero_mul] at h2
    exact h2 rfl
  -- the raw ones are multiples of one another
  have e3 : scU (v * b) (rawU p rp) = scU (u * a) (rawU q rq) := by
    rw [← sp, scU_sc]
    conv => rhs; rw [← sq, scU_sc]
    have := congrArg (scU (a * b)) e2
    rw [scU_sc, scU_sc] at this
    rw [show v * b * a = a * b * v by grind, show u * a * b = a * b * u by grind]
    exact this
  have V0 : v * b ≠ 0 := Int.mul_ne_zero v0 b0
  have U0 : u * a ≠ 0 := Int.mul_ne_zero u0 a0
  generalize v * b = V at e3 V0
  generalize u * a = U at e3 U0
  have es : p.1.map (fun z => V * rp.2 * z) = q.1.map fun z => U * rq.2 * z := by
    have h1 : (p.1.map fun z => z * rp.2).map (fun z => V * z) = (q.1.map fun z => z * rq.2).map fun z => U * z := congrArg Prod.fst e3
    rw [List.map_map, List.map_map] at h1
    have c1 : (fun z => V * rp.2 * z) = (fun z => V * z) ∘ fun z => z * rp.2 := funext fun z => by show V * rp.2 * z = V * (z * rp.2); grind
    have c2 : (fun z => U * rq.2 * z) = (fun z => U * z) ∘ fun z => z * rq.2 := funext fun z => by show U * rq.2 * z = U * (z * rq.2); grind
    rw [c1, c2]
    exact h1
  have ew : V * rp.1 = U * rq.1 := congrArg Prod.snd e3
  refine nf_same hp hq (u := U * rq.2) (v := V * rp.2) (Int.mul_ne_zero U0 (by have := lq.1; omega)) (Int.mul_ne_zero V0 (by have := lp.1; omega)) (Prod.ext es ?_)
  show V * rp.2 * p.2 = U * rq.2 * q.2
  have d1 := dot_sc (V * rp.2) p.1 (us.map qv)
  have d2 := dot_sc (U * rq.2) q.1 (us.map qv)
  rw [es, d2] at d1
  have m1 := qv_mul lp.1
  have m2 := qv_mul lq.1
  rw [vp] at m1
  rw [vq] at m2
  have ew2 : (V : Rat) * (rp.1 : Rat) = (U : Rat) * (rq.1 : Rat) := by rw [← Rat.intCast_mul, ew, Rat.intCast_mul]
  rw [Rat.intCast_mul, Rat.intCast_mul] at d1
  refine Rat.intCast_inj.mp ?_
  rw [Rat.intCast_mul, Rat.intCast_mul, Rat.intCast_mul, Rat.intCast_mul]
  grind
end SB
namespace SB
open PySem L2 GxR GA
/-! ### what the built-in names are -/
structure Blt (mg : Str → Option Value) : Prop where
  len : mg "len" = none
  int : mg "int" = none
  isi : mg "isinstance" = none
  tup : mg "tuple" = none
  lst : mg "list" = none
  str : mg "str" = none
  bool : mg "bool" = none
  rng : mg "range" = none
  abs : mg "abs" = none
  max : mg "max" = none
  min : mg "min" = none
  any : mg "any" = none
  all : mg "all" = none
  zip : mg "zip" = none
  gcd : mg "gcd" = some (.builtin "math.gcd")
theorem bootTup : bootBuiltins "tuple" = some (.type "tuple") := by decide +kernel
theorem bootLst : bootBuiltins "list" = some (.type "list") := by decide +kernel
theorem bootStr : bootBuiltins "str" = some (.type "str") := by decide +kernel
theorem bootBool : bootBuiltins "bool" = some (.type "bool") := by decide +kernel
theorem bootAll : bootBuiltins "all" = some (.builtin "all") := by decide +kernel
theorem bootAny : bootBuiltins "any" = some (.builtin "any") := by decide +kernel
theorem kTL {K : PySem.W.Frag} {T : String} {b1 b2 : Bool} (h1 : kitB T "tuple" = some b1) (h2 : kitB T "list" = some b2) : PySem.W.kitAny K (.type T) [.type "tuple", .type "list"] = some (b1 || b2) := by
  cases b1 with
  | true => exact kitAny_cons (kit_ty h1) (fun z => nomatch z) (fun _ => rfl)
  | false =>
    cases b2 with
    | true => exact kitAny_cons (kit_ty h1) (fun _ => kitAny_cons (kit_ty h2) (fun z => nomatch z) (fun _ => rfl)) (fun z => nomatch z)
    | false => exact kitAny_cons (kit_ty h1) (fun _ => kitAny_cons (kit_ty h2) (fun _ => kitAny_nil) (fun z => nomatch z)) (fun z => nomatch z)
theorem clsTL : Paired ClsV [.ty "tuple", .ty "list"] [.type "tuple", .type "list"] := .cons (.ty _) (.cons (.ty _) .nil)
theorem szN {n : Nat} (h : n ≤ 1000000) : n ≤ sizeLine := Nat.le_trans h (by decide)
theorem iteP {p A B : Prop} [Decidable p] (h : p) (a : A) : if decide p = true then A else B := by
  rw [decide_eq_true h]
  exact iteT a
theorem iteN {p A B : Prop} [Decidable p] (h : ¬ p) (b : B) : if decide p = true then A else B := by
  rw [decide_eq_false h]
  exact iteF b
theorem qd {Q : VK} {H : Hp} {x y : V} (e : x = y) (q : Q (.bl true) H) : Q (.bl (decide (x = y))) H := by
  rw [decide_eq_true e]
  exact q
theorem qe {Q : VK} {H : Hp} {b c : Bool} (e : b = c) (q : Q (.bl c) H) : Q (.bl b) H := by
  rw [e]
  exact q
theorem len_rng {n : Nat} (h : n ≤ sizeLine) : -(2 ^ 62) ≤ ((n : Nat) : Int) ∧ ((n : Nat) : Int) < 2 ^ 62 := by
  have e : sizeLine = 16777216 := sizeLine_eq
  omega
/-! ### never reached -/
theorem pe_no {X : Cx} {e : Expr} : PE X e (fun _ _ _ => False) := ⟨fun _ _ _ _ _ _ h => h.elim⟩
theorem ps_no {X : Cx} {st : Stmt} : PS X st (fun _ _ _ => False) := ⟨fun _ _ _ _ _ _ h => h.elim⟩
theorem pss_no {X : Cx} {st : List Stmt} : PSs X st (fun _ _ _ => False) := ⟨fun _ _ _ _ _ _ h => h.elim⟩
/-! ### how the heap grows: all that was tracked is as it was, tables may be longer -/
structure Gr (H H' : Hp) : Prop where
  keep : ∀ b o, (∀ ps, o ≠ .tbl ps) → H b = some o → H' b = some o
  tab : ∀ P, TabG H P → TabG H' P
/-- .. but what stands at d -/
structure GrD (d : Addr) (H H' : Hp) : Prop where
  keep : ∀ b o, b ≠ d → (∀ ps, o ≠ .tbl ps) → H b = some o → H' b = some o
  tab : ∀ P, P ≠ d → TabG H P → TabG H' P
theorem Gr.refl (H : Hp) : Gr H H := ⟨fun _ _ _ e => e, fun _ h => h⟩
theorem Gr.trans {H H1 H2 : Hp} (a : Gr H H1) (b : Gr H1 H2) : Gr H H2 := ⟨fun c o n e => b.keep c o n (a.keep c o n e), fun P h => b.tab P (a.tab P h)⟩
theorem Gr.new {H H1 : Hp} {p : Addr} (a : Gr H H1) (h : H1 p = none) (o : HO) : Gr H (upd H1 p o) := by
  refine ⟨fun b u n e => ?_, fun P t => ?_⟩
  · have e1 := a.keep b u n e
    rw [upd_ne (ne_of_none e1 h)]
    exact e1
  · obtain ⟨ps, e1, t1⟩ := a.tab P t
    exact ⟨ps, by rw [upd_ne (ne_of_none e1 h)]; exact e1, t1⟩
theorem Gr.tabbed {H H1 H2 : Hp} {P : Addr} (a : Gr H H1) (hP : TabG H1 P) (h : Tabbed P H1 H2) : Gr H H2 := by
  refine ⟨fun b u n e => ?_, fun Q t => ?_⟩
  · have e1 := a.keep b u n e
    rw [h.2 b fun z => ?_]
    · exact e1
    · obtain ⟨ps, e2, _⟩ := hP
      rw [z, e2] at e1
      exact n ps (Option.some.inj e1).symm
  · by_cases z : Q = P
    · rw [z]
      exact h.1
    · obtain ⟨ps, e1, t1⟩ := a.tab Q t
      exact ⟨ps, by rw [h.2 Q z]; exact e1, t1⟩
theorem Gr.d {H H' : Hp} (a : Gr H H') (d : Addr) : GrD d H H' := ⟨fun b o _ n e => a.keep b o n e, fun P _ h => a.tab P h⟩
theorem GrD.refl (d : Addr) (H : Hp) : GrD d H H := (Gr.refl H).d d
theorem GrD.trans {d : Addr} {H H1 H2 : Hp} (a : GrD d H H1) (b : GrD d H1 H2) : GrD d H H2 := ⟨fun c o z n e => b.keep c o z n (a.keep c o z n e), fun P z h => b.tab P z (a.tab P z h)⟩
theorem GrD.gr {d : Addr} {H H1 H2 : Hp} (a : GrD d H H1) (b : Gr H1 H2) : GrD d H H2 := a.trans (b.d d)
theorem GrD.set {d : Addr} {H H1 : Hp} (a : GrD d H H1) (o : HO) : GrD d H (upd H1 d o) := ⟨fun c u z n e => by rw [upd_ne z]; exact a.keep c u z n e, fun P z h => by
  obtain ⟨ps, e, t⟩ := a.tab P z h
  exact ⟨ps, by rw [upd_ne z]; exact e, t⟩⟩
theorem Gr.seqT {K : PySem.W.Frag} {H H' : Hp} {a : Addr} {xs : List V} (e : Gr H H') (h : SqT K H a xs) : SqT K H' a xs := by
  rcases h with (h | ⟨o, h⟩) | h
  · exact .inl (.inl (e.keep _ _ (fun _ z => nomatch z) h))
  · exact .inl (.inr ⟨o, e.keep _ _ (fun _ z => nomatch z) h⟩)
  · exact .inr h
theorem Gr.seqL {K : PySem.W.Frag} {H H' : Hp} {a : Addr} {xs : List V} (e : Gr H H') (h : SqL K H a xs) : SqL K H' a xs := by
  rcases h with (h | ⟨o, h⟩) | h
  · exact .inl (.inl (e.keep _ _ (fun _ z => nomatch z) h))
  · exact .inl (.inr ⟨o, e.keep _ _ (fun _ z => nomatch z) h⟩)
  · exact .inr h
/-- the deck is a list: no tuple stands there -/
theorem GrD.seqT {K : PySem.W.Frag} {d : Addr} {H H' : Hp} {a : Addr} {xs ys : List V} (e : GrD d H H') (hd : H d = some (.lst ys)) (h : SqT K H a xs) : SqT K H' a xs := by
  rcases h with (h | ⟨o, h⟩) | h
  · exact .inl (.inl (e.keep _ _ (ne_of h hd (fun z => nomatch z)) (fun _ z => nomatch z) h))
  · exact .inl (.inr ⟨o, e.keep _ _ (ne_of h hd (fun z => nomatch z)) (fun _ z => nomatch z) h⟩)
  · exact .inr h
/-- tables there -/
def Tbs (ts : List Addr) (H : Hp) : Prop := ∀ P ∈ ts, TabG H P
theorem Tbs.gr {ts : List Addr} {H H' : Hp} (t : Tbs ts H) (g : Gr H H') : Tbs ts H' := fun P h => g.tab P (t P h)
/-! ### kinds of values -/
def scB : V → Bool
  | .non => true
  | .bl _ => true
  | .int _ => true
  | .str _ => true
  | _ => false
def isInt : V → Bool
  | .int _ => true
  | _ => false
theorem tyL {K : PySem.W.Frag} {H : Hp} {a : Addr} {xs : List V} (h : SqL K H a xs) : TyX K H (.ref a) (.type "list") := by
  rcases h with (h | ⟨o, h⟩) | ⟨o, its, n, h, c, _⟩
  · exact .base (.lst h)
  · exact .base (.frz h)
  · exact .kList h c
theorem tyT {K : PySem.W.Frag} {H : Hp} {a : Addr} {xs : List V} (h : SqT K H a xs) : TyX K H (.ref a) (.type "tuple") := by
  rcases h with (h | ⟨o, h⟩) | ⟨o, its, n, h, c, _⟩
  · exact .base (.tup h)
  · exact .fTuple h
  · exact .kTuple h c
/-- the types that are looked at, of a known value -/
inductive Kn (K : PySem.W.Frag) (H : Hp) : V → String → Prop where
  | non : Kn K H .non "NoneType"
  | bl (b : Bool) : Kn K H (.bl b) "bool"
  | int (i : Int) : Kn K H (.int i) "int"
  | str (x : Str) : Kn K H (.str x) "str"
  | lst {a : Addr} {xs : List V} (h : SqL K H a xs) : Kn K H (.ref a) "list"
  | tup {a : Addr} {xs : List V} (h : SqT K H a xs) : Kn K H (.ref a) "tuple"
theorem Kn.ty {K : PySem.W.Frag} {H : Hp} {x : V} {t : String} (k : Kn K H x t) : TyX K H x (.type t) := by
  cases k with
  | non => exact .base .non
  | bl b => exact .base (.bl b)
  | int i => exact .base (.int i)
  | str x => exact .base (.str x)
  | lst h => exact tyL h
  | tup h => exact tyT h
/-! ### any(..) of a tuple, a list of ints -/
section
variable {X : Cx}
theorem truth_ints {prog : Program} {w : World} {A : Around} {ns : List Int} {its : List Value} (e : Vals (ns.map V.int) its) :
    PySem.TruthOf prog w A (fun i v => its.toArray[i]? = some v) (fun i => (ns.map fun z => decide (z ≠ 0)).getD i false) := fun i v s Q E hv hq => by
  have hv' : its[i]? = some v := by simpa using hv
  have hl := Vals.length e
  rw [List.length_map] at hl
  have hi : i < ns.length := by
    have := (List.getElem?_eq_some_iff.mp hv').1
    omega
  obtain ⟨u, hu, ru⟩ := Vals.get e (i := i) (x := .int ns[i]) (by rw [List.getElem?_map, List.getElem?_eq_getElem hi] <;> rfl)
  rw [hv'] at hu
  obtain ⟨t, et⟩ := ru
  cases hu
  subst et
  have hg : (ns.map fun z => decide (z ≠ 0)).getD i false = decide (ns[i] ≠ 0) := by
    rw [List.getD_eq_getElem?_getD, List.getElem?_map, List.getElem?_eq_getElem hi] <;> rfl
  have hq : Q ((ns.map fun z => decide (z ≠ 0)).getD i false) s := hq
  rw [hg] at hq
  refine PySem.P.truthy_int ?_
  first
    | exact hq
    | (have e2 : (ns[i] != 0) = decide (ns[i] ≠ 0) := by rw [bne, Bool.eq_iff_iff]; simp
       rw [e2]; exact hq)
theorem any_ints : ∀ ns : List Int, (List.range ns.length).any (fun i => (ns.map fun z => decide (z ≠ 0)).getD i false) = ns.any fun z => decide (z ≠ 0) := fun ns => by
  have h := any_range (ns.map fun z => decide (z ≠ 0))
  rw [List.length_map, List.any_map] at h
  exact h
def rAnyT (K : PySem.W.Frag) : List V → Hp → VK → Prop := fun vs H Q => ∃ (a : Addr) (ns : List Int), vs = [V.ref a] ∧ SqT K H a (ns.map V.int) ∧ Q (.bl (ns.any fun z => decide (z ≠ 0))) H
theorem cr_anyT (hc : X.calm = true) : CallR X (.builtin "any") (rAnyT X.K) := by
  intro pins s σ H vs us Q I r h
  obtain ⟨a, ns, rfl, hs, q⟩ := h
  obtain ⟨its, rv, hl, _⟩ := I.tuple hs
  rw [Vals.ref1 r]
  have hlt : a < s.heap.objs.size := by obtain ⟨_, e, _⟩ := hl; exact Heap.lt_size e
  refine PySem.call_any_walk (PySem.wpAny_pyIter_tuple (show s.heap.IsTuple a its.toArray from hl) ?_)
  refine ⟨_, _, _, _, _, _, _, rfl, PySem.Walks.tuple (A := X.A.in1) (I.ok.hd hc) _ a (Nat.ne_of_lt hlt) its.toArray, ⟨⟨_, Heap.get?_push_size _ rfl, rfl, rfl⟩, (show s.heap.IsTuple a its.toArray from hl).push _⟩, truth_ints rv, fun h' tk hk => ?_⟩
  refine ⟨.bl _, H, I.kept fun b o eo => hk b o (fun hmem => ?_) (Heap.get?_push_of_some _ eo), ?_, q⟩
  · rcases List.mem_cons.mp hmem with e1 | hmem
    · exact absurd (e1 ▸ Heap.lt_size eo) (Nat.lt_irrefl _)
    · cases hmem
  · show Value.bool _ = Value.bool _
    have hl2 := Vals.length rv
    rw [List.length_map] at hl2
    rw [← any_ints, List.size_toArray, hl2]
end
/-! ### a def whose code object is known, with its table -/
structure FunT (K : PySem.W.Frag) (x : Str) (st : Stmt) (f : Addr) (fd : FuncData) (c : Addr) : Prop where
  ex : ∃ (oc : Value) (od : Option Addr) (kV doc pm : Value) (an : Option Addr) (ct : Value) (osl : Array (Option Value)),
    fd = PySem.W.fnOf x x (defArgs st) (defBody st) (defScope st) .none kV doc pm an (.ref c) ct ∧ K.lookup f = some ⟨oc, od, .func fd, osl⟩ ∧ PySem.W.codeIn K (.ref c) x = true
  kp : PySem.W.keepIn K (.ref f) = true
theorem FunT.fn {K : PySem.W.Frag} {x : Str} {st : Stmt} {f : Addr} {fd : FuncData} {c : Addr} (F : FunT K x st f fd c) : Fun K x x st f fd := by
  obtain ⟨oc, od, kV, doc, pm, an, ct, osl, h1, h2, h3⟩ := F.ex
  exact ⟨⟨oc, od, kV, doc, pm, an, _, ct, osl, h1, h2, h3⟩, F.kp⟩
theorem FunT.ok {P : Program} {w : World} {K : PySem.W.Frag} {mg : Str → Option Value} {base : Heap} {x : Str} {st : Stmt} {f : Addr} {fd : FuncData} {c : Addr} {N ps : List Str} {k : Nat} {sp : Sp} (F : FunT K x st f fd c) (S : FnScope N ps (defScope st)) (len : ∀ vs H Q E, sp vs H Q E → vs.length = ps.length)
    (hbody : ∀ (A : Around) (outer : List Env) (s : Shared) (H : Hp) (vs : List V) (Q : VK) (E : XK), Room k (A.deeper (PyProof.Rows.envOfC x (defScope st) s.heap.objs.size f (.ref c))) → sp vs H Q E →
      ∃ t, PSs (cxOf CX0 P w K mg base N x (defScope st) f (.ref c) A outer s H E).nox (defBody st) t ∧ t { nx := fun _ H' => Q .non H', rt := Q } (start N vs) H) : FnOk P w K mg base CX0 (k + 1) f fd ps sp := by
  obtain ⟨oc, od, kV, doc, pm, an, ct, osl, rfl, lk, hcd⟩ := F.ex
  refine fn_of lk hcd S len fun A outer s H vs Q E hr hsp => ?_
  obtain ⟨t, h, q⟩ := hbody A outer s H vs Q E hr hsp
  exact ⟨t, h.nox, q⟩
/-- a look at the names of a generator expression -/
def genC (N : List Str) (sc scope : Scope) (own : List (Str × Nat)) : Bool :=
  blkC N sc scope own && !scope.isCoroutine && scope.names.all (fun y => !decide (y.2 = .cell)) && decide (scope.names.lookup (".0" : Str) = some NameKind.local)
theorem genOk_by {N : List Str} {sc scope : Scope} {own : List (Str × Nat)} (h : genC N sc scope own = true) : GenOk N sc scope own := by
  unfold genC at h
  simp only [Bool.and_eq_true, Bool.not_eq_true', decide_eq_true_eq, List.all_eq_true, decide_eq_false_iff_not] at h
  obtain ⟨⟨⟨h1, h2⟩, h3⟩, h4⟩ := h
  exact { toBlkOk := blkOk_by h1, co := h2, cell := h3, dot := h4 }
theorem Room.gen {k : Nat} {X : Cx} {cenv : Env} (r : Room (k + 1) X.A) : Room k (arG X cenv) :=
  ⟨r.hd, by have := r.dp; show X.A.depth + 1 + 3 * k + 5 < _; omega, by have := r.un; show X.A.units + 1 + 1 + 3 + 16 * k + 200 < _; omega⟩
/-- a walk over a tuple, each item told (p: what is known of an item that was true) -/
theorem plan_tup {K : PySem.W.Frag} {a : Addr} {xs : List V} {g : TG} {te : TE} {σ0 : L2.St} {vs : List Nat} {QT QF : Hp → Prop} {H2 : Hp} (p : Nat → Prop) (hS : SqT K H2 a xs)
    (step : ∀ i x H, xs[i]? = some x → Gr H2 H → g x σ0 H fun σ2 H3 => wipe σ2 vs = σ0 ∧ te σ2 H3 fun y H4 => ∃ b, y = .bl b ∧ (if b = true then Gr H2 H4 ∧ p i else QF H4))
    (fin : ∀ H, Gr H2 H → (∀ i, i < xs.length → p i) → QT H) : ∃ W : Nat → Nat → Hp → Prop, (∃ m, W 0 m H2) ∧ Plan (Itt K a) g tYes te σ0 vs QT QF W := by
  refine ⟨fun i m H => Gr H2 H ∧ i + m = xs.length ∧ ∀ j, j < i → p j, ⟨xs.length, Gr.refl _, Nat.zero_add _, fun j hj => absurd hj (Nat.not_lt_zero _)⟩, fun i m H w => ?_⟩
  obtain ⟨gr, hm, hp⟩ := w
  have hSi := gr.seqT hS
  cases m with
  | zero => exact .inl ⟨⟨xs, hSi, by omega⟩, fin H gr fun j hj => hp j (by omega)⟩
  | succ m =>
    have hi : i < xs.length := by omega
    refine .inr ⟨⟨xs, xs[i], hSi, List.getElem?_eq_getElem hi⟩, fun H' => Gr H2 H' ∧ p i, fun H' h => ⟨m, Nat.lt_succ_self _, h.1, by omega, fun j hj => ?_⟩, fun x H' hy => ?_⟩
    · by_cases e : j = i
      · rw [e]
        exact h.2
      · exact hp j (by omega)
    · obtain ⟨rfl, hx⟩ := hy
      have ex := step i x H' (hx xs hSi) gr
      exact ex
end SB
namespace SB
open PySem L2 GxR GA
/-! ### short rules -/
section
variable {X : Cx} {e e2 : Expr} {te te2 : TE} {p p1 p2 pos : Pos}
def tMo (te : TE) : TE := fun σ H Q => ∃ K2 : VK, te σ H K2 ∧ ∀ x H1, K2 x H1 → Q x H1
theorem pe_mo (he : PE X e te) : PE X e (tMo te) := ⟨fun pins s σ H Q I ⟨K2, w, m⟩ => thn (he.run pins s σ H K2 I w) fun v s1 ⟨x, H1, I1, r1, q1⟩ => ⟨x, H1, I1, r1, m _ _ q1⟩⟩
theorem pe_imp {te' : TE} (he : PE X e te) (i : ∀ σ H Q, te' σ H Q → te σ H Q) : PE X e te' := ⟨fun pins s σ H Q I w => he.run pins s σ H Q I (i _ _ _ w)⟩
/-- isinstance(e, T) -/
def tIsi (K : PySem.W.Frag) (te : TE) (T : String) : TE := fun σ H Q => te σ H fun x H1 => ∃ t b, Kn K H1 x t ∧ kitB t T = some b ∧ Q (.bl b) H1
theorem pe_isi {x : Str} (T : String) (he : PE X e te) (hb : bootBuiltins x = some (.type T)) (hm : X.mg x = none) (hi : X.mg "isinstance" = none) (hg : Gl X "isinstance" := by rfl) (hgx : Gl X x := by rfl) (hn : x ≠ "__name__" := by decide) (hd : (x == ("__debug__" : Str)) = false := by decide)
    (hst : starEach [e, .Name x p1] X.env = (false, eval e X.env) :: starEach [.Name x p1] X.env := by rfl) (hst2 : starEach [.Name x p1] X.env = (false, eval (.Name x p1) X.env) :: starEach [] X.env := by rfl) (hpl : (backTo pos (starEach [.Name x p1] X.env)).any (·.1) = false := by rfl) :
    PE X (.Call (.Name "isinstance" p) [e, .Name x p1] [] pos) (tIsi X.K te T) :=
  pe_imp (pe_callB (X := X) (p := p) (pos := pos) call_isi hg hi PyProof.Rows.boot_isinstance (pa_cons (pe_mo he) (pa_cons (pe_bltn (v := .ty T) (pos := p1) hgx hm hb rfl hn hd) pa_nil hst2) hst) (by decide) (by decide) hst hpl)
    fun σ H Q w => ⟨_, w, fun x H1 ⟨t, b, k, kb, q⟩ => ⟨x, .ty T, .type t, .type T, b, rfl, .ty _, k.ty, kit_ty kb, q⟩⟩
/-- len(e) of a tuple, a list -/
def tLen (K : PySem.W.Frag) (te : TE) : TE := fun σ H Q => te σ H fun x H1 => ∃ a xs, x = .ref a ∧ (SqL K H1 a xs ∨ SqT K H1 a xs) ∧ Q (.int ((xs.length : Nat) : Int)) H1
theorem pe_len (he : PE X e te) (hm : X.mg "len" = none) (hg : Gl X "len" := by rfl) (hst : starEach [e] X.env = (false, eval e X.env) :: starEach [] X.env := by rfl) (hpl : (backTo pos (starEach [] X.env)).any (·.1) = false := by rfl) :
    PE X (.Call (.Name "len" p) [e] [] pos) (tLen X.K te) :=
  pe_imp (pe_callB (X := X) (p := p) (pos := pos) call_len_seq hg hm PySem.boot_len (pa_cons (pe_mo he) pa_nil hst) (by decide) (by decide) hst hpl)
    fun σ H Q w => ⟨_, w, fun x H1 ⟨a, xs, ex, k, q⟩ => ⟨a, xs, by rw [ex], k, q⟩⟩
/-- e[k] of a tuple, k written or known -/
def tAt (K : PySem.W.Frag) (te ti : TE) : TE := fun σ H Q => te σ H fun x H1 => ti σ H1 fun y H2 => ∃ a xs i v, x = .ref a ∧ y = .int i ∧ (SqL K H2 a xs ∨ SqT K H2 a xs) ∧ atI xs i = some v ∧ Q v H2
/-- gcd(a, b) -/
def tGcd (ta tb : TE) : TE := fun σ H Q => ta σ H fun x H1 => tb σ H1 fun y H2 => ∃ i j : Int, x = .int i ∧ y = .int j ∧ Q (.int ((Nat.gcd i.natAbs j.natAbs : Nat) : Int)) H2
def tMo2 (ta tb : TE) : TA := fun σ H Q => ta σ H fun x H1 => tb σ H1 fun y H2 => Q [x, y] H2
end
/-! ### a def that may be called by its name -/
structure Cl (P : Program) (w : World) (K : PySem.W.Frag) (mg : Str → Option Value) (base : Heap) (k : Nat) (x : Str) (ps : List Str) (sp : Sp) : Prop where
  ex : ∃ (f : Addr) (fd : FuncData), FnOk P w K mg base CX0 k f fd ps sp ∧ mg x = some (.ref f) ∧ PySem.W.keepIn K (.ref f) = true ∧ Binds K fd ps []
  lk : ∀ f : Addr, mg x = some (.ref f) → ∃ (fd : FuncData), FnOk P w K mg base CX0 k f fd ps sp ∧ ∃ (oc : Value) (od : Option Addr) (osl : Array (Option Value)), K.lookup f = some ⟨oc, od, .func fd, osl⟩
theorem pe_cl {X : Cx} {k : Nat} {x : Str} {ps : List Str} {sp : Sp} {p pos : Pos} {e : Expr} {es : List Expr} {t : TA} (c : Cl X.prog X.w X.K X.mg X.base k x ps sp) (hr : Room k X.A) (ha : PA X (e :: es) t) (hg : Gl X x := by rfl) (hdb : (x == ("__debug__" : Str)) = false := by decide)
    (he : starEach (e :: es) X.env = (false, eval e X.env) :: starEach es X.env := by rfl) (hpl : (backTo pos (starEach es X.env)).any (·.1) = false := by rfl) :
    PE X (.Call (.Name x p) (e :: es) [] pos) (tCall sp [] E0 t) := by
  obtain ⟨f, fd, F, hm, hk, hb⟩ := c.ex
  exact pe_call F hr hg hm hk hb .nil pass0 ha hdb he hpl
theorem Cl.mono {P : Program} {w : World} {K : PySem.W.Frag} {mg : Str → Option Value} {base : Heap} {j k : Nat} {x : Str} {ps : List Str} {sp : Sp} (c : Cl P w K mg base j x ps sp) (h : j ≤ k) : Cl P w K mg base k x ps sp := by
  obtain ⟨f, fd, F, r⟩ := c.ex
  exact ⟨⟨f, fd, F.mono h, r⟩, fun g hg => let ⟨gd, G, z⟩ := c.lk g hg; ⟨gd, G.mono h, z⟩⟩
theorem fn_imp {P : Program} {w : World} {K : PySem.W.Frag} {mg : Str → Option Value} {base : Heap} {CX : CXT} {k : Nat} {f : Addr} {fd : FuncData} {ps : List Str} {sp sp2 : Sp} (F : FnOk P w K mg base CX k f fd ps sp) (i : ∀ vs H Q E, sp2 vs H Q E → sp vs H Q E) : FnOk P w K mg base CX k f fd ps sp2 :=
  ⟨fun vs H Q E h => F.len vs H Q E (i _ _ _ _ h), fun A outer s H args us vs Q E hr e b r h => F.run A outer s H args us vs Q E hr e b r (i _ _ _ _ h)⟩
/-- a promise that asks more -/
theorem Cl.imp {P : Program} {w : World} {K : PySem.W.Frag} {mg : Str → Option Value} {base : Heap} {k : Nat} {x : Str} {ps : List Str} {sp sp2 : Sp} (c : Cl P w K mg base k x ps sp) (i : ∀ vs H Q E, sp2 vs H Q E → sp vs H Q E) : Cl P w K mg base k x ps sp2 := by
  obtain ⟨f, fd, F, r⟩ := c.ex
  exact ⟨⟨f, fd, fn_imp F i, r⟩, fun g hg => let ⟨gd, G, z⟩ := c.lk g hg; ⟨gd, fn_imp G i, z⟩⟩
/-- a def of the text, under its name -/
structure Df (K : PySem.W.Frag) (mg : Str → Option Value) (x : Str) (st : Stmt) : Prop where
  ex : ∃ (f : Addr) (fd : FuncData), Fun K x x st f fd ∧ mg x = some (.ref f)
/-- .. with its code object at c -/
structure DfT (K : PySem.W.Frag) (mg : Str → Option Value) (x : Str) (st : Stmt) (c : Addr) : Prop where
  ex : ∃ (f : Addr) (fd : FuncData), FunT K x st f fd c ∧ mg x = some (.ref f)
section
variable {P : Program} {w : World} {K : PySem.W.Frag} {mg : Str → Option Value} {base : Heap} {k : Nat} {x : Str} {st : Stmt} {ps : List Str} {sp : Sp} {c : Addr}
theorem Df.cl (D : Df K mg x st) (hb : ∀ (kV doc pm : Value) (an : Option Addr) (cdv ct : Value) (us : List Value), us.length = ps.length → bindArgs (PySem.W.fnOf x x (defArgs st) (defBody st) (defScope st) .none kV doc pm an cdv ct) ⟨us, []⟩ = pure (ps.zip us))
    (h : ∀ f fd, Fun K x x st f fd → FnOk P w K mg base CX0 k f fd ps sp) : Cl P w K mg base k x ps sp := by
  obtain ⟨f, fd, F, m⟩ := D.ex
  obtain ⟨oc, od, kV, doc, pm, an, cdv, ct, osl, e, lk, hcd⟩ := F.ex
  exact ⟨⟨f, fd, h f fd F, m, F.kp, F.binds hb⟩, fun g hg => by
    rw [m] at hg
    cases hg
    exact ⟨fd, h f fd F, oc, od, osl, lk⟩⟩
theorem DfT.cl (D : DfT K mg x st c) (hb : ∀ (kV doc pm : Value) (an : Option Addr) (cdv ct : Value) (us : List Value), us.length = ps.length → bindArgs (PySem.W.fnOf x x (defArgs st) (defBody st) (defScope st) .none kV doc pm an cdv ct) ⟨us, []⟩ = pure (ps.zip us))
    (h : ∀ f fd, FunT K x st f fd c → FnOk P w K mg base CX0 k f fd ps sp) : Cl P w K mg base k x ps sp := by
  obtain ⟨f, fd, F, m⟩ := D.ex
  obtain ⟨oc, od, kV, doc, pm, an, ct, osl, e, lk, hcd⟩ := F.ex
  exact ⟨⟨f, fd, h f fd F, m, F.kp, F.fn.binds hb⟩, fun g hg => by
    rw [m] at hg
    cases hg
    exact ⟨fd, h f fd F, oc, od, osl, lk⟩⟩
end
/-! ### the things -/
/-- a number: its top and bottom -/
def NuV (K : PySem.W.Frag) (H : Hp) (x : V) (q : Int × Int) : Prop := ∃ a, x = .ref a ∧ SqT K H a [.int q.1, .int q.2]
def PtV (K : PySem.W.Frag) (H : Hp) (x : V) (us : List (Int × Int)) : Prop := ∃ a xs, x = .ref a ∧ SqT K H a xs ∧ Paired (NuV K H) xs us
def SiV (K : PySem.W.Frag) (H : Hp) (x : V) (ns : List Int) : Prop := ∃ a, x = .ref a ∧ SqT K H a (ns.map V.int)
/-- a question: its sides, its wall -/
def QuV (K : PySem.W.Frag) (H : Hp) (x : V) (q : List Int × Int) : Prop := ∃ a s, x = .ref a ∧ SqT K H a [s, .int q.2] ∧ SiV K H s q.1
/-- a book -/
def BkV (K : PySem.W.Frag) (H : Hp) (x : V) (d : Nat) (qs : List (List Int × Int)) : Prop := ∃ a b xs, x = .ref a ∧ SqT K H a [.int d, .ref b] ∧ SqT K H b xs ∧ Paired (QuV K H) xs qs
section
variable {K : PySem.W.Frag} {H H' : Hp} {x : V}
theorem NuV.gr {q : Int × Int} (h : NuV K H x q) (g : Gr H H') : NuV K H' x q := let ⟨a, e, s⟩ := h; ⟨a, e, g.seqT s⟩
theorem PtV.gr {q : List (Int × Int)} (h : PtV K H x q) (g : Gr H H') : PtV K H' x q := let ⟨a, xs, e, s, p⟩ := h; ⟨a, xs, e, g.seqT s, Paired.mapP p fun _ _ z => NuV.gr z g⟩
theorem SiV.gr {q : List Int} (h : SiV K H x q) (g : Gr H H') : SiV K H' x q := let ⟨a, e, s⟩ := h; ⟨a, e, g.seqT s⟩
theorem QuV.gr {q : List Int × Int} (h : QuV K H x q) (g : Gr H H') : QuV K H' x q := let ⟨a, t, e, s, z⟩ := h; ⟨a, t, e, g.seqT s, z.gr g⟩
theorem BkV.gr {d : Nat} {q : List (List Int × Int)} (h : BkV K H x d q) (g : Gr H H') : BkV K H' x d q := let ⟨a, b, xs, e, s, t, p⟩ := h; ⟨a, b, xs, e, g.seqT s, g.seqT t, Paired.mapP p fun _ _ z => QuV.gr z g⟩
/-- its items fit the length of a line (what the heap's own facts give) -/
theorem paired_len {α β : Type} {F : α → β → Prop} {xs : List α} {ys : List β} (h : Paired F xs ys) : xs.length = ys.length := Paired.length h
theorem paired_get {α β : Type} {F : α → β → Prop} : ∀ {xs : List α} {ys : List β}, Paired F xs ys → ∀ {i : Nat} {x : α}, xs[i]? = some x → ∃ y, ys[i]? = some y ∧ F x y
  | _, _, .nil, i, x, e => by simp at e
  | _, _, .cons r _, 0, x, e => by simp at e; subst e; exact ⟨_, rfl, r⟩
  | _, _, .cons _ t, i + 1, x, e => by
    obtain ⟨y, h1, h2⟩ := paired_get t (i := i) (x := x) (by simpa using e)
    exact ⟨y, by simpa using h1, h2⟩
end
/-! ### is_whole -/
def spWhole (K : PySem.W.Frag) : Sp := fun vs H Q _ => ∃ x t, vs = [x] ∧ Kn K H x t ∧ Q (.bl (isInt x)) H
section
variable {P : Program} {w : World} {K : PySem.W.Frag} {mg : Str → Option Value} {base : Heap}
theorem sc_whole : FnScope ["told"] ["told"] (defScope s_is_whole) := ⟨rfl, rfl, rfl, by decide +kernel, rfl, by decide +kernel, by decide +kernel⟩
theorem cl_whole (D : Df K mg "is_whole" s_is_whole) (B : Blt mg) : Cl P w K mg base 1 "is_whole" ["told"] (spWhole K) := by
  refine D.cl (fun _ _ _ _ _ _ us hl => match us, hl with | [_], _ => rfl) fun f fd F => F.ok sc_whole (fun vs H Q E h => ?_) (fun cdv A outer s H vs Q E hr h => ?_)
  · obtain ⟨x, t, rfl, _⟩ := h
    rfl
  obtain ⟨x, t, rfl, k, q⟩ := h
  refine ⟨_, pss_one (ps_ret (pe_and (pe_isi "int" (pv 0) PyProof.Rows.boot_int B.int B.isi) (pe_one (pe_not (pe_isi "bool" (pv 0) bootBool B.bool B.isi))))), ?_⟩
  cases k with
  | non => exact ⟨_, rfl, _, false, .non, by decide +kernel, _, rfl, iteF q⟩
  | bl b => exact ⟨_, rfl, _, true, .bl b, by decide +kernel, _, rfl, iteT ⟨_, rfl, _, true, .bl b, by decide +kernel, _, rfl, q⟩⟩
  | int i => exact ⟨_, rfl, _, true, .int i, by decide +kernel, _, rfl, iteT ⟨_, rfl, _, false, .int i, by decide +kernel, _, rfl, q⟩⟩
  | str z => exact ⟨_, rfl, _, false, .str z, by decide +kernel, _, rfl, iteF q⟩
  | lst h => exact ⟨_, rfl, _, false, .lst h, by decide +kernel, _, rfl, iteF q⟩
  | tup h => exact ⟨_, rfl, _, false, .tup h, by decide +kernel, _, rfl, iteF q⟩
end
end SB
namespace SB
open PySem L2 GxR GA
section
variable {P : Program} {w : World} {K : PySem.W.Frag} {mg : Str → Option Value} {base : Heap}
theorem kTT : kitB "tuple" "tuple" = some true := by decide +kernel
def spNumber (K : PySem.W.Frag) : Sp := fun vs H Q _ => ∃ x q, vs = [x] ∧ NuV K H x q ∧ Lo q ∧ Q (.bl true) H
theorem at_ {α : Type} {xs : List α} {i : Nat} (h : i < xs.length) : xs[i]? = some xs[i] := List.getElem?_eq_getElem h
/-! ### are_numbers, is_point -/
def spNumbers (K : PySem.W.Frag) : Sp := fun vs H Q _ => ∃ a xs us, vs = [.ref a] ∧ SqT K H a xs ∧ Paired (NuV K H) xs us ∧ (∀ q, q ∈ us → Lo q) ∧ Q (.bl true) H
def spPoint (K : PySem.W.Frag) : Sp := fun vs H Q _ => ∃ x us, vs = [x] ∧ PtV K H x us ∧ us ≠ [] ∧ (∀ q, q ∈ us → Lo q) ∧ ∀ H', Gr H H' → Q (.bl true) H'
end
end SB
namespace SB
open PySem L2 GxR GA
section
variable {P : Program} {w : World} {K : PySem.W.Frag} {mg : Str → Option Value} {base : Heap}
/-! ### are_wholes, are_sides, is_question -/
def spWholes (K : PySem.W.Frag) : Sp := fun vs H Q _ => ∃ x ns, vs = [x] ∧ SiV K H x ns ∧ Q (.bl true) H
theorem sc_wholes : FnScope ["told", "item"] ["told"] (defScope s_are_wholes) := ⟨rfl, rfl, rfl, by decide +kernel, rfl, by decide +kernel, by decide +kernel⟩
theorem cl_wholes (D : Df K mg "are_wholes" s_are_wholes) (CW : Cl P w K mg base 1 "is_whole" ["told"] (spWhole K)) : Cl P w K mg base 2 "are_wholes" ["told"] (spWholes K) := by
  refine D.cl (fun _ _ _ _ _ _ us hl => match us, hl with | [_], _ => rfl) fun f fd F => F.ok sc_wholes (fun vs H Q E h => ?_) (fun cdv A outer s H vs Q E hr h => ?_)
  · obtain ⟨x, ns, rfl, _⟩ := h
    rfl
  obtain ⟨x, ns, rfl, ⟨a, rfl, hs⟩, hq⟩ := h
  refine ⟨_, pss_cons (ps_for PassesOwn.never rfl (pi_tup (pv 0)) (pg_name (i := 1) sc_wholes.nd rfl (Or.inl rfl))
    (pss_one (ps_if (pt_not (pt_val (pe_cl CW (hr.mono (by decide)) (pa_cons (pv 1) pa_nil)))) pss_no pss_nil))) (pss_one (ps_ret pe_bl)), ?_⟩
  refine ⟨_, rfl, a, rfl, ⟨_, hs⟩, for_tup (xs := ns.map V.int) (fun i σ H1 => ∃ c, σ = [some (.ref a), c] ∧ H1 = H) ⟨_, rfl, rfl⟩ (fun i σ H1 _ h => ?_) (fun i x σ H1 hx h => ?_) (fun σ H1 h => ?_)⟩
  · obtain ⟨c, rfl, rfl⟩ := h
    exact hs
  · obtain ⟨c, rfl, rfl⟩ := h
    rw [List.getElem?_map] at hx
    obtain ⟨z, hz, rfl⟩ := Option.map_eq_some_iff.mp hx
    exact ⟨_, rfl, _, _, rfl, .int z, _, rfl, iteF ⟨some (.int z), rfl, rfl⟩⟩
  · obtain ⟨c, rfl, rfl⟩ := h
    exact hq
def spSides (K : PySem.W.Frag) : Sp := fun vs H Q _ => ∃ x ns, vs = [x] ∧ SiV K H x ns ∧ NonZ ns ∧ ∀ H', Gr H H' → Q (.bl true) H'
theorem sc_sides : FnScope ["told"] ["told"] (defScope s_are_sides) := ⟨rfl, rfl, rfl, by decide +kernel, rfl, by decide +kernel, by decide +kernel⟩
theorem cl_sides (D : Df K mg "are_sides" s_are_sides) (B : Blt mg) (CW : Cl P w K mg base 2 "are_wholes" ["told"] (spWholes K)) : Cl P w K mg base 3 "are_sides" ["told"] (spSides K) := by
  refine D.cl (fun _ _ _ _ _ _ us hl => match us, hl with | [_], _ => rfl) fun f fd F => F.ok sc_sides (fun vs H Q E h => ?_) (fun cdv A outer s H vs Q E hr h => ?_)
  · obtain ⟨x, t, rfl, _⟩ := h
    rfl
  obtain ⟨x, ns, rfl, ⟨a, rfl, hs⟩, hne, hq⟩ := h
  refine ⟨_, pss_one (ps_ret (pe_and (pe_isi "tuple" (pv 0) bootTup B.tup B.isi) (pe_and (pe_cl CW (hr.mono (by decide)) (pa_cons (pv 0) pa_nil)) (pe_one (pe_callB (cr_anyT rfl) rfl B.any bootAny (pa_cons (pv 0) pa_nil)))))), ?_⟩
  refine ⟨_, rfl, _, _, .tup hs, kTT, _, rfl, iteT ⟨_, rfl, _, ns, rfl, ⟨a, rfl, hs⟩, _, rfl, iteT ⟨_, rfl, a, ns, rfl, hs, qe hne (hq H (Gr.refl H))⟩⟩⟩
def spQuest (K : PySem.W.Frag) : Sp := fun vs H Q _ => ∃ x q, vs = [x] ∧ QuV K H x q ∧ NonZ q.1 ∧ ∀ H', Gr H H' → Q (.bl true) H'
theorem sc_quest : FnScope ["told", "sides", "wall"] ["told"] (defScope s_is_question) := ⟨rfl, rfl, rfl, by decide +kernel, rfl, by decide +kernel, by decide +kernel⟩
theorem cl_quest (D : Df K mg "is_question" s_is_question) (B : Blt mg) (CW : Cl P w K mg base 1 "is_whole" ["told"] (spWhole K)) (CS : Cl P w K mg base 3 "are_sides" ["told"] (spSides K)) : Cl P w K mg base 4 "is_question" ["told"] (spQuest K) := by
  refine D.cl (fun _ _ _ _ _ _ us hl => match us, hl with | [_], _ => rfl) fun f fd F => F.ok sc_quest (fun vs H Q E h => ?_) (fun cdv A outer s H vs Q E hr h => ?_)
  · obtain ⟨x, t, rfl, _⟩ := h
    rfl
  obtain ⟨x, q, rfl, ⟨a, t, rfl, hs, hst⟩, hne, hq⟩ := h
  refine ⟨_, pss_cons (ps_if (PW.pt (by exact (pw_or (pt_not (pt_val (pe_isi "tuple" (pv 0) bootTup B.tup B.isi))) (pw_or1 (pt_cmpR op_ne (pe_len (pv 0) B.len) pe_int (nomark _)))))) pss_no pss_nil)
    (pss_cons (ps_asg (pv 0) (pg_tup rfl (pgs_cons (pg_name (i := 1) sc_quest.nd rfl (Or.inl rfl)) (pgs_cons (pg_name (i := 2) sc_quest.nd rfl (Or.inl rfl)) pgs_nil))))
    (pss_one (ps_ret (pe_and (pe_cl CS (hr.mono (by decide)) (pa_cons (pv 1) pa_nil)) (pe_one (pe_cl CW (hr.mono (by decide)) (pa_cons (pv 2) pa_nil))))))), ?_⟩
  refine ⟨_, rfl, _, _, .tup hs, kTT, _, rfl, iteF ⟨_, rfl, a, _, rfl, .inr hs, rfl, _, rfl, iteNS rfl ⟨_, rfl, a, _, rfl, hs, rfl, _, _, rfl, _, _, rfl, rfl, ?_⟩⟩⟩
  exact ⟨_, rfl, _, _, rfl, hst, hne, fun H' g => ⟨_, rfl, iteT ⟨_, rfl, _, _, rfl, .int _, hq H' g⟩⟩⟩
def spQuestOf (K : PySem.W.Frag) : Sp := fun vs H Q _ => ∃ x q, vs = [x, .int ((q.1.length : Nat) : Int)] ∧ QuV K H x q ∧ NonZ q.1 ∧ ∀ H', Gr H H' → Q (.bl true) H'
theorem sc_questOf : FnScope ["told", "d"] ["told", "d"] (defScope s_is_question_of) := ⟨rfl, rfl, rfl, by decide +kernel, rfl, by decide +kernel, by decide +kernel⟩
theorem cl_questOf (D : Df K mg "is_question_of" s_is_question_of) (B : Blt mg) (CQ : Cl P w K mg base 4 "is_question" ["told"] (spQuest K)) : Cl P w K mg base 5 "is_question_of" ["told", "d"] (spQuestOf K) := by
  refine D.cl (fun _ _ _ _ _ _ us hl => match us, hl with | [_, _], _ => rfl) fun f fd F => F.ok sc_questOf (fun vs H Q E h => ?_) (fun cdv A outer s H vs Q E hr h => ?_)
  · obtain ⟨x, t, rfl, _⟩ := h
    rfl
  obtain ⟨x, q, rfl, hx, hne, hq⟩ := h
  refine ⟨_, pss_one (ps_ret (pe_and (pe_cl CQ (hr.mono (by decide)) (pa_cons (pv 0) pa_nil)) (pe_one (pe_cmpR op_eq (pe_len (pe_ix ix_tup (pv 0) pe_int (fun _ _ => rfl)) B.len) (pv 1) (nomark _))))), ?_⟩
  refine ⟨_, rfl, _, _, rfl, hx, hne, fun H' g => ⟨_, rfl, iteT ?_⟩⟩
  obtain ⟨a, t, rfl, hs, b, rfl, hb⟩ := hx.gr g
  refine ⟨_, rfl, a, _, _, _, rfl, rfl, hs, rfl, b, _, rfl, .inr hb, _, rfl, rfl, ?_⟩
  exact qd (by rw [List.length_map]) (hq H' g)
/-! ### is_answer, is_wish_of, is_index -/
def spAnsw (K : PySem.W.Frag) : Sp := fun vs H Q _ => ∃ i : Int, vs = [.int i] ∧ -1 ≤ i ∧ i ≤ 1 ∧ Q (.bl true) H
def spIndex : Sp := fun vs H Q _ => ∃ i n : Int, vs = [.int i, .int n] ∧ 0 ≤ i ∧ i < n ∧ Q (.bl true) H
/-- a wish's item: none, or an answer -/
def Hope (x : V) : Prop := x = .non ∨ ∃ i : Int, x = .int i ∧ -1 ≤ i ∧ i ≤ 1
def spWish (K : PySem.W.Frag) : Sp := fun vs H Q _ => ∃ a xs, vs = [.ref a, .int ((xs.length : Nat) : Int)] ∧ SqT K H a xs ∧ (∀ x, x ∈ xs → Hope x) ∧ ∀ H', Gr H H' → Q (.bl true) H'
end
end SB
namespace SB
open PySem L2 GxR GA
section
variable {P : Program} {w : World} {K : PySem.W.Frag} {mg : Str → Option Value} {base : Heap}
/-! ### check_point, check_index, sign -/
def spChkPt (K : PySem.W.Frag) : Sp := fun vs H Q _ => ∃ x us, vs = [x, .int ((us.length : Nat) : Int)] ∧ PtV K H x us ∧ us ≠ [] ∧ (∀ q, q ∈ us → Lo q) ∧ ∀ H', Gr H H' → Q .non H'
def spChkIx : Sp := fun vs H Q _ => ∃ i n : Int, vs = [.int i, .int n] ∧ 0 ≤ i ∧ i < n ∧ Q .non H
def spChkWish (K : PySem.W.Frag) : Sp := fun vs H Q _ => ∃ a xs, vs = [.ref a, .int ((xs.length : Nat) : Int)] ∧ SqT K H a xs ∧ (∀ x, x ∈ xs → Hope x) ∧ ∀ H', Gr H H' → Q .non H'
def sgn (i : Int) : Int := if 0 < i then 1 else if i < 0 then -1 else 0
def spSign : Sp := fun vs H Q _ => ∃ i : Int, vs = [.int i] ∧ Q (.int (sgn i)) H
/-! ### numbers -/
/-- what comes is the number N / D -/
def spLowest (K : PySem.W.Frag) : Sp := fun vs H Q _ => ∃ t b : Int, vs = [.int t, .int b] ∧ 0 < b ∧ Wd 310000 (t, b) ∧ ∀ v r H', Gr H H' → NuV K H' v r → Lo r → Eqr r t b → r.1.natAbs ≤ t.natAbs → r.2.natAbs ≤ b.natAbs → Q v H'
/-- two numbers put together by f -/
def spBin (K : PySem.W.Frag) (f : Int × Int → Int × Int → Int × Int) : Sp := fun vs H Q _ => ∃ x y p q m n, vs = [x, y] ∧ NuV K H x p ∧ NuV K H y q ∧ 0 < p.2 ∧ 0 < q.2 ∧ Wd m p ∧ Wd n q ∧ m + n ≤ 300000 ∧
  ∀ v r H', Gr H H' → NuV K H' v r → Lo r → Eqr r (f p q).1 (f p q).2 → Wd (m + n + 1) r → Q v H'
theorem wd_le {m : Nat} {r : Int × Int} {t b : Int} (h : Wd m (t, b)) (h1 : r.1.natAbs ≤ t.natAbs) (h2 : r.2.natAbs ≤ b.natAbs) : Wd m r := ⟨Nat.lt_of_le_of_lt h1 h.1, Nat.lt_of_le_of_lt h2 h.2⟩
theorem cmw {i j : Int} {m n : Nat} (h : i.natAbs < 2 ^ m) (k : j.natAbs < 2 ^ n) (z : m + n ≤ 300000) : CMulW i j := by
  refine wide_mul (a := m + 1) (b := n + 1) (Nat.lt_of_lt_of_le h (Nat.pow_le_pow_right (by decide) (Nat.le_succ _))) (Nat.lt_of_lt_of_le k (Nat.pow_le_pow_right (by decide) (Nat.le_succ _))) (Nat.succ_pos _) (Nat.succ_pos _) ?_
  omega
end
end SB
namespace SB
open PySem L2 GxR GA RZ
/-- the numbers of a point: in bounds -/
def UsOk (us : List (Int × Int)) : Prop := us ≠ [] ∧ us.length ≤ 4 ∧ (∀ q, q ∈ us → Lo q) ∧ ∀ q, q ∈ us → Wd 20000 q
theorem wd_one {z : Int} (h : z.natAbs < 2 ^ 10000) : Wd 10000 (z, 1) := ⟨h, by show (1 : Nat) < 2 ^ 10000; exact Nat.one_lt_two_pow (by decide)⟩
section
variable {P : Program} {w : World} {K : PySem.W.Frag} {mg : Str → Option Value} {base : Heap}
def spCome (K : PySem.W.Frag) : Sp := fun vs H Q _ => ∃ x y ns us, vs = [x, y] ∧ SiV K H x ns ∧ PtV K H y us ∧ ns.length = us.length ∧ UsOk us ∧ NsOk ns ∧
  ∀ v r H', Gr H H' → NuV K H' v r → 0 < r.2 → Eqr r (sumU ns us (0, 1)).1 (sumU ns us (0, 1)).2 → Wd 121000 r → Q v H'
/-- .. with sides of width k, numbers of width m -/
def spComeP (K : PySem.W.Frag) : Sp := fun vs H Q _ => ∃ x y ns us k m, vs = [x, y] ∧ SiV K H x ns ∧ PtV K H y us ∧ ns.length = us.length ∧ us.length ≤ 4 ∧ (∀ u, u ∈ us → Lo u) ∧ (∀ u, u ∈ us → Wd m u) ∧ (∀ z, z ∈ ns → z.natAbs < 2 ^ k) ∧ 4 * (m + k + 3) ≤ 290000 ∧
  ∀ v r H', Gr H H' → NuV K H' v r → 0 < r.2 → Eqr r (sumU ns us (0, 1)).1 (sumU ns us (0, 1)).2 → Wd (1 + us.length * (m + k + 3)) r → Q v H'
/-- the sum itself, not divided -/
def spSumAt (K : PySem.W.Frag) : Sp := fun vs H Q _ => ∃ x y ns us k m, vs = [x, y] ∧ SiV K H x ns ∧ PtV K H y us ∧ ns.length = us.length ∧ us.length ≤ 4 ∧ (∀ u, u ∈ us → Wd m u) ∧ (∀ z, z ∈ ns → z.natAbs < 2 ^ k) ∧ 4 * (m + k + 3) ≤ 290000 ∧
  ∀ v H', Gr H H' → NuV K H' v (sumU ns us (0, 1)) → Wd (1 + us.length * (m + k + 3)) (sumU ns us (0, 1)) → Q v H'
theorem stepU_is (g : Int × Int) (z : Int) (u : Int × Int) : stepU g (z, u) = (g.1 * u.2 + z * u.1 * g.2, g.2 * u.2) := by
  unfold stepU fPlus fTimes
  dsimp only
  rw [Int.one_mul]
theorem wd_step {m k n : Nat} {g u : Int × Int} {z : Int} (hg : Wd n g) (hu : Wd m u) (hz : z.natAbs < 2 ^ k) : Wd (n + (m + k + 3)) (stepU g (z, u)) := by
  have wz : Wd (k + 1) (z, 1) := ⟨Nat.lt_of_lt_of_le hz (Nat.pow_le_pow_right (by decide) (Nat.le_succ k)), Nat.one_lt_two_pow (Nat.succ_ne_zero k)⟩
  exact (wd_plus hg (wd_times wz hu)).mono (by omega)
theorem sum_pos {ns : List Int} {us : List (Int × Int)} (h : ∀ u, u ∈ us → Lo u) : 0 < (sumU ns us (0, 1)).2 := by
  refine sumU_pos (by show (0 : Int) < 1; decide) fun p hp => ?_
  exact (h p.2 (List.of_mem_zip (a := p.1) (b := p.2) hp).2).1
end
end SB
namespace SB
open PySem L2 GxR GA RZ
/-! ### tuples stay -/
def Tst (K : PySem.W.Frag) (H H' : Hp) : Prop := ∀ a xs, SqT K H a xs → SqT K H' a xs
section
variable {K : PySem.W.Frag} {H H' H1 : Hp} {x : V} {D : Addr}
theorem Gr.st (g : Gr H H') : Tst K H H' := fun _ _ h => g.seqT h
theorem Tst.trans {H2 : Hp} (a : Tst K H H') (b : Tst K H' H2) : Tst K H H2 := fun c xs h => b c xs (a c xs h)
theorem Tst.put {ys : List V} {o : HO} (hD : H D = some (.lst ys)) : Tst K H (upd H D o) := fun a xs h => by
  rcases h with (h | ⟨u, h⟩) | h
  · exact .inl (.inl (by rw [upd_ne (ne_of h hD (fun z => nomatch z))]; exact h))
  · exact .inl (.inr ⟨u, by rw [upd_ne (ne_of h hD (fun z => nomatch z))]; exact h⟩)
  · exact .inr h
theorem NuV.st {q : Int × Int} (h : NuV K H x q) (g : Tst K H H') : NuV K H' x q := let ⟨a, e, s⟩ := h; ⟨a, e, g _ _ s⟩
theorem SiV.st {q : List Int} (h : SiV K H x q) (g : Tst K H H') : SiV K H' x q := let ⟨a, e, s⟩ := h; ⟨a, e, g _ _ s⟩
theorem QuV.st {q : List Int × Int} (h : QuV K H x q) (g : Tst K H H') : QuV K H' x q := let ⟨a, t, e, s, z⟩ := h; ⟨a, t, e, g _ _ s, z.st g⟩
theorem PtV.st {q : List (Int × Int)} (h : PtV K H x q) (g : Tst K H H') : PtV K H' x q := let ⟨a, xs, e, s, p⟩ := h; ⟨a, xs, e, g _ _ s, Paired.mapP p fun _ _ z => NuV.st z g⟩
theorem BkV.st {d : Nat} {q : List (List Int × Int)} (h : BkV K H x d q) (g : Tst K H H') : BkV K H' x d q := let ⟨a, b, xs, e, s, t, p⟩ := h; ⟨a, b, xs, e, g _ _ s, g _ _ t, Paired.mapP p fun _ _ z => QuV.st z g⟩
theorem GrD.to (g : GrD D H H') (n : H D = none) : Gr H H' := by
  refine ⟨fun b o z e => g.keep b o (ne_of_none e n) z e, fun P h => ?_⟩
  obtain ⟨ps, e, t⟩ := id h
  exact g.tab P (ne_of_none e n) h
end
/-- a list of what comes of each item of a tuple, of a list -/
theorem small1M {n : Nat} (h : n ≤ 1000000) : n < sizeLine := Nat.lt_of_le_of_lt h (by decide)
theorem lc_mapT {K : PySem.W.Frag} {a : Addr} {xs : List V} {g : TG} {te : TE} {vs : List Nat} {σ : L2.St} {H1 : Hp} {D : Addr} {Qd : Hp → Prop} (R : Nat → V → Hp → Prop) (hst : ∀ i y H H', R i y H → Tst K H H' → R i y H') (nD : H1 D = none) (hs : SqT K H1 a xs) (hz : xs.length ≤ 1000000)
    (step : ∀ i x H (Kc : VK), xs[i]? = some x → Gr H1 H → (∀ y H4, Gr H H4 → R i y H4 → Kc y H4) → g x (wipe σ vs) H fun σ2 H2 => wipe σ2 vs = wipe σ vs ∧ te σ2 H2 Kc)
    (fin : ∀ ys H, H D = some (.lst ys) → ys.length = xs.length → Gr H1 H → (∀ i y, ys[i]? = some y → R i y H) → Qd H) :
    ∃ W : Nat → Nat → Hp → Prop, (∃ m, W 0 m (upd H1 D (.lst []))) ∧ ∀ i m H, W i m H →
      ((Itt K a).stop i H ∧ Qd H) ∨ ((Itt K a).go i H ∧ ∃ Nx : Hp → Prop, (∀ H', Nx H' → ∃ m', m' < m ∧ W (i + 1) m' H') ∧ ∀ x H', (Itt K a).yld i H x H' → g x (wipe σ vs) H' fun σ2 H2 => wipe σ2 vs = wipe σ vs ∧ tYes σ2 H2 fun b H3 =>
        if b = true then te σ2 H3 fun y H4 => ∃ acc, H4 D = some (.lst acc) ∧ acc.length < sizeLine ∧ Nx (upd H4 D (.lst (acc ++ [y]))) else Nx H3) := by
  refine ⟨fun i m H => i + m = xs.length ∧ ∃ ys, H D = some (.lst ys) ∧ ys.length = i ∧ GrD D H1 H ∧ ∀ j y, ys[j]? = some y → R j y H, ⟨xs.length, Nat.zero_add _, [], upd_same, rfl, (GrD.refl D H1).set _, fun j y h => by simp at h⟩, fun i m H w => ?_⟩
  obtain ⟨hm, ys, hD, hy, gr, hR⟩ := w
  have g1 := gr.to nD
  have hSi := g1.seqT hs
  cases m with
  | zero => exact .inl ⟨⟨xs, hSi, by omega⟩, fin ys H hD (by omega) g1 hR⟩
  | succ m =>
    have hi : i < xs.length := by omega
    refine .inr ⟨⟨xs, xs[i], hSi, List.getElem?_eq_getElem hi⟩, fun H' => ∃ ys, H' D = some (.lst ys) ∧ ys.length = i + 1 ∧ GrD D H1 H' ∧ ∀ j y, ys[j]? = some y → R j y H', fun H' h => ⟨m, Nat.lt_succ_self _, by omega, h⟩, fun x H' hyl => ?_⟩
    obtain ⟨rfl, hx⟩ := hyl
    have key : ∀ y H4, Gr H' H4 → R i y H4 → ∃ acc, H4 D = some (.lst acc) ∧ acc.length < sizeLine ∧ (∃ ys, (upd H4 D (.lst (acc ++ [y]))) D = some (.lst ys) ∧ ys.length = i + 1 ∧ GrD D H1 (upd H4 D (.lst (acc ++ [y]))) ∧ ∀ j z, ys[j]? = some z → R j z (upd H4 D (.lst (acc ++ [y])))) := fun y H4 g4 r4 => by
      have hD4 : H4 D = some (.lst ys) := g4.keep D _ (fun _ z => nomatch z) hD
      have tp : Tst K H4 (upd H4 D (.lst (ys ++ [y]))) := Tst.put hD4
      refine ⟨ys, hD4, small1M (by omega), ys ++ [y], upd_same, by rw [List.length_append, hy]; rfl, (gr.trans (g4.d D)).set _, fun j z hz2 => ?_⟩
      by_cases hj : j < ys.length
      · rw [List.getElem?_append_left hj] at hz2
        exact hst _ _ _ _ (hR j z hz2) (g4.st.trans tp)
      · have hl := (List.getElem?_eq_some_iff.mp hz2).1
        rw [List.length_append] at hl
        have hl' : j < ys.length + 1 := hl
        have ej : j = ys.length := by omega
        subst ej
        rw [List.getElem?_append_right (Nat.le_refl _), Nat.sub_self] at hz2
        cases hz2
        rw [hy]
        exact hst _ _ _ _ r4 tp
    exact step i x H' _ (hx xs hSi) g1 key

theorem lc_mapL {K : PySem.W.Frag} {a : Addr} {xs : List V} {g : TG} {te : TE} {vs : List Nat} {σ : L2.St} {H1 : Hp} {D : Addr} {Qd : Hp → Prop} (R : Nat → V → Hp → Prop) (hst : ∀ i y H H', R i y H → Tst K H H' → R i y H') (nD : H1 D = none) (hs : SqL K H1 a xs) (hz : xs.length ≤ 1000000)
    (step : ∀ i x H (Kc : VK), xs[i]? = some x → Gr H1 H → (∀ y H4, Gr H H4 → R i y H4 → Kc y H4) → g x (wipe σ vs) H fun σ2 H2 => wipe σ2 vs = wipe σ vs ∧ te σ2 H2 Kc)
    (fin : ∀ ys H, H D = some (.lst ys) → ys.length = xs.length → Gr H1 H → (∀ i y, ys[i]? = some y → R i y H) → Qd H) :
    ∃ W : Nat → Nat → Hp → Prop, (∃ m, W 0 m (upd H1 D (.lst []))) ∧ ∀ i m H, W i m H →
      ((Itl K a).stop i H ∧ Qd H) ∨ ((Itl K a).go i H ∧ ∃ Nx : Hp → Prop, (∀ H', Nx H' → ∃ m', m' < m ∧ W (i + 1) m' H') ∧ ∀ x H', (Itl K a).yld i H x H' → g x (wipe σ vs) H' fun σ2 H2 => wipe σ2 vs = wipe σ vs ∧ tYes σ2 H2 fun b H3 =>
        if b = true then te σ2 H3 fun y H4 => ∃ acc, H4 D = some (.lst acc) ∧ acc.length < sizeLine ∧ Nx (upd H4 D (.lst (acc ++ [y]))) else Nx H3) := by
  refine ⟨fun i m H => i + m = xs.length ∧ ∃ ys, H D = some (.lst ys) ∧ ys.length = i ∧ GrD D H1 H ∧ ∀ j y, ys[j]? = some y → R j y H, ⟨xs.length, Nat.zero_add _, [], upd_same, rfl, (GrD.refl D H1).set _, fun j y h => by simp at h⟩, fun i m H w => ?_⟩
  obtain ⟨hm, ys, hD, hy, gr, hR⟩ := w
  have g1 := gr.to nD
  have hSi := g1.seqL hs
  cases m with
  | zero => exact .inl ⟨⟨xs, hSi, by omega⟩, fin ys H hD (by omega) g1 hR⟩
  | succ m =>
    have hi : i < xs.length := by omega
    refine .inr ⟨⟨xs, xs[i], hSi, List.getElem?_eq_getElem hi⟩, fun H' => ∃ ys, H' D = some (.lst ys) ∧ ys.length = i + 1 ∧ GrD D H1 H' ∧ ∀ j y, ys[j]? = some y → R j y H', fun H' h => ⟨m, Nat.lt_succ_self _, by omega, h⟩, fun x H' hyl => ?_⟩
    obtain ⟨rfl, hx⟩ := hyl
    have key : ∀ y H4, Gr H' H4 → R i y H4 → ∃ acc, H4 D = some (.lst acc) ∧ acc.length < sizeLine ∧ (∃ ys, (upd H4 D (.lst (acc ++ [y]))) D = some (.lst ys) ∧ ys.length = i + 1 ∧ GrD D H1 (upd H4 D (.lst (acc ++ [y]))) ∧ ∀ j z, ys[j]? = some z → R j z (upd H4 D (.lst (acc ++ [y])))) := fun y H4 g4 r4 => by
      have hD4 : H4 D = some (.lst ys) := g4.keep D _ (fun _ z => nomatch z) hD
      have tp : Tst K H4 (upd H4 D (.lst (ys ++ [y]))) := Tst.put hD4
      refine ⟨ys, hD4, small1M (by omega), ys ++ [y], upd_same, by rw [List.length_append, hy]; rfl, (gr.trans (g4.d D)).set _, fun j z hz2 => ?_⟩
      by_cases hj : j < ys.length
      · rw [List.getElem?_append_left hj] at hz2
        exact hst _ _ _ _ (hR j z hz2) (g4.st.trans tp)
      · have hl := (List.getElem?_eq_some_iff.mp hz2).1
        rw [List.length_append] at hl
        have hl' : j < ys.length + 1 := hl
        have ej : j = ys.length := by omega
        subst ej
        rw [List.getElem?_append_right (Nat.le_refl _), Nat.sub_self] at hz2
        cases hz2
        rw [hy]
        exact hst _ _ _ _ r4 tp
    exact step i x H' _ (hx xs hSi) g1 key
/-- a list of ints known item by item -/
theorem ints_at {ys : List V} {zs : List Int} (hl : ys.length = zs.length) (h : ∀ (i : Nat) (y : V), ys[i]? = some y → ∃ z : Int, zs[i]? = some z ∧ y = V.int z) : ys = zs.map V.int := by
  refine List.ext_getElem? fun i => ?_
  rw [List.getElem?_map]
  cases e : ys[i]? with
  | none =>
    have : ys.length ≤ i := List.getElem?_eq_none_iff.mp e
    rw [List.getElem?_eq_none (by omega)]
    rfl
  | some y =>
    obtain ⟨z, hz, rfl⟩ := h i y e
    rw [hz]
    rfl
theorem paired_at2 {α β : Type} {F : α → β → Prop} : ∀ {xs : List α} {ys : List β}, xs.length = ys.length → (∀ (i : Nat) (x : α) (y : β), xs[i]? = some x → ys[i]? = some y → F x y) → Paired F xs ys
  | [], [], _, _ => .nil
  | [], _ :: _, h, _ => by simp at h
  | _ :: _, [], h, _ => by simp at h
  | x :: xs, y :: ys, h, f => .cons (f 0 x y rfl rfl) (paired_at2 (by simpa using h) fun i a b ha hb => f (i + 1) a b (by simpa using ha) (by simpa using hb))
end SB
namespace SB
open PySem L2 GxR GA RZ
section
variable {P : Program} {w : World} {K : PySem.W.Frag} {mg : Str → Option Value} {base : Heap}
def spCommon (K : PySem.W.Frag) : Sp := fun vs H Q _ => ∃ a ns, vs = [.ref a] ∧ SqT K H a (ns.map V.int) ∧ Q (.int ((gcdL ns : Nat) : Int)) H
theorem sc_common : FnScope ["wholes", "common", "whole"] ["wholes"] (defScope s_common_of) := ⟨rfl, rfl, rfl, by decide +kernel, rfl, by decide +kernel, by decide +kernel⟩
theorem cl_common (D : Df K mg "common_of" s_common_of) (B : Blt mg) : Cl P w K mg base 1 "common_of" ["wholes"] (spCommon K) := by
  refine D.cl (fun _ _ _ _ _ _ us hl => match us, hl with | [_], _ => rfl) fun f fd F => F.ok sc_common (fun vs H Q E h => ?_) (fun cdv A outer s H vs Q E hr h => ?_)
  · obtain ⟨a, ns, rfl, _⟩ := h
    rfl
  obtain ⟨a, ns, rfl, ha, q⟩ := h
  refine ⟨_, pss_cons (ps_set (i := 1) sc_common.nd rfl (.inl rfl) pe_int) (pss_cons (ps_for PassesOwn.never rfl (pi_tup (pv 0)) (pg_name (i := 2) sc_common.nd rfl (Or.inl rfl))
    (pss_one (ps_set (i := 1) sc_common.nd rfl (.inl rfl) (pe_callBfun cr_gcd rfl B.gcd (pa_cons (pv 1) (pa_cons (pv 2) pa_nil)))))) (pss_one (ps_ret (pv 1)))), ?_⟩
  refine ⟨_, rfl, a, rfl, ⟨_, ha⟩, for_tup (xs := ns.map V.int) (fun i σ H1 => ∃ c, σ = [some (.ref a), some (.int ((gcdL (ns.take i) : Nat) : Int)), c] ∧ H1 = H) ⟨_, rfl, rfl⟩ (fun i σ H1 _ h => ?_) (fun i x σ H1 hx h => ?_) (fun σ H1 h => ?_)⟩
  · obtain ⟨c, rfl, rfl⟩ := h
    exact ha
  · obtain ⟨c, rfl, rfl⟩ := h
    rw [List.getElem?_map] at hx
    obtain ⟨z, hz, rfl⟩ := Option.map_eq_some_iff.mp hx
    refine ⟨_, rfl, _, rfl, _, _, rfl, some (.int z), ?_, rfl⟩
    have e : gcdL (ns.take (i + 1)) = Nat.gcd (gcdL (ns.take i)) z.natAbs := fold_take (fun c (z : Int) => Nat.gcd c z.natAbs) 0 hz
    rw [e, Int.natAbs_natCast]
    rfl
  · obtain ⟨c, rfl, rfl⟩ := h
    have e : ns.take (ns.map V.int).length = ns := List.take_of_length_le (by rw [List.length_map]; exact Nat.le_refl _)
    rw [e]
    exact ⟨_, rfl, q⟩
def spBegins (K : PySem.W.Frag) : Sp := fun vs H Q _ => ∃ a ns, vs = [.ref a] ∧ SqT K H a (ns.map V.int) ∧ NonZ ns ∧ Q (.int ((firstNZ ns : Nat) : Int)) H
theorem sc_begins : FnScope ["wholes", "at"] ["wholes"] (defScope s_begins_at) := ⟨rfl, rfl, rfl, by decide +kernel, rfl, by decide +kernel, by decide +kernel⟩
theorem cl_begins (D : Df K mg "begins_at" s_begins_at) : Cl P w K mg base 1 "begins_at" ["wholes"] (spBegins K) := by
  refine D.cl (fun _ _ _ _ _ _ us hl => match us, hl with | [_], _ => rfl) fun f fd F => F.ok sc_begins (fun vs H Q E h => ?_) (fun cdv A outer s H vs Q E hr h => ?_)
  · obtain ⟨a, ns, rfl, _⟩ := h
    rfl
  obtain ⟨a, ns, rfl, ha, nz, q⟩ := h
  obtain ⟨k1, k2, k3⟩ := firstNZ_at nz
  refine ⟨_, pss_cons (ps_set (i := 1) sc_begins.nd rfl (.inl rfl) pe_int) (pss_cons (ps_while PassesOwn.never (pt_cmpR op_eq (pe_ix ix_tup (pv 0) (pv 1) (fun _ _ => rfl)) pe_int (nomark _)) (pss_one (ps_aug (i := 1) sc_begins.nd rfl (.inl rfl) pe_int ip_add))) (pss_one (ps_ret (pv 1)))), ?_⟩
  refine ⟨fun m σ H1 => ∃ i : Nat, σ = [some (.ref a), some (.int (i : Int))] ∧ H1 = H ∧ i + m = firstNZ ns, ⟨firstNZ ns, 0, rfl, rfl, Nat.zero_add _⟩, fun m σ H1 hw => ?_⟩
  obtain ⟨i, rfl, rfl, hm⟩ := hw
  have hl := (List.getElem?_eq_some_iff.mp k1).1
  have hi : i < ns.length := by omega
  have ei : ns[i]? = some ns[i] := List.getElem?_eq_getElem hi
  refine ⟨_, rfl, _, rfl, a, _, _, .int ns[i], rfl, rfl, ha, atI_nat (by rw [List.getElem?_map, ei]; rfl), rfl, _, rfl, ?_⟩
  cases m with
  | zero =>
    have e : i = firstNZ ns := by omega
    subst e
    rw [ei] at k1
    have : ns[firstNZ ns] = lead ns := Option.some.inj k1
    exact iteN (fun z => k2 (by rw [← this]; injection z)) ⟨_, rfl, q⟩
  | succ m =>
    have z0 := k3 i _ (by omega) ei
    refine iteP (by rw [z0]) ⟨fun σ H' => ∃ i' : Nat, σ = [some (.ref a), some (.int (i' : Int))] ∧ H' = H1 ∧ i' + m = firstNZ ns, fun σ' H' h => ⟨m, Nat.lt_succ_self _, h⟩, ?_⟩
    refine ⟨_, rfl, _, _, rfl, rfl, i + 1, ?_, rfl, by omega⟩
    simp
def spMany : Sp := fun vs H Q _ => ∃ d : Int, vs = [.int d] ∧ 1 ≤ d ∧ Q (.bl true) H
theorem sc_many : FnScope ["d"] ["d"] (defScope s__is_many) := ⟨rfl, rfl, rfl, by decide +kernel, rfl, by decide +kernel, by decide +kernel⟩
theorem cl_many (D : Df K mg "_is_many" s__is_many) (CW : Cl P w K mg base 1 "is_whole" ["told"] (spWhole K)) : Cl P w K mg base 2 "_is_many" ["d"] spMany := by
  refine D.cl (fun _ _ _ _ _ _ us hl => match us, hl with | [_], _ => rfl) fun f fd F => F.ok sc_many (fun vs H Q E h => ?_) (fun cdv A outer s H vs Q E hr h => ?_)
  · obtain ⟨d, rfl, _⟩ := h
    rfl
  obtain ⟨d, rfl, h1, q⟩ := h
  refine ⟨_, pss_one (ps_ret (pe_and (pe_cl CW (hr.mono (by decide)) (pa_cons (pv 0) pa_nil)) (pe_one (pe_cmpR op_ge (pv 0) pe_int (nomark _))))), ?_⟩
  exact ⟨_, rfl, _, _, rfl, .int d, _, rfl, iteT ⟨_, rfl, _, _, rfl, rfl, qe (decide_eq_true h1) q⟩⟩
end
end SB
namespace SB
open PySem L2 GxR GA RZ SG PpSet
section
variable {P : Program} {w : World} {K : PySem.W.Frag} {mg : Str → Option Value} {base : Heap}
def spDiv (K : PySem.W.Frag) : Sp := fun vs H Q _ => ∃ x q, vs = [x] ∧ QuV K H x q ∧ NonZ q.1 ∧ q.1.length ≤ 900000 ∧ ∀ v H', Gr H H' → QuV K H' v (divU q) → Q v H'
theorem ne_of_nonZ {ns : List Int} (h : NonZ ns) : ns.map V.int ≠ [] := fun e => by
  rw [List.map_eq_nil_iff] at e
  rw [e] at h
  exact absurd (show false = true from h) Bool.false_ne_true
def spTurnQ (K : PySem.W.Frag) : Sp := fun vs H Q _ => ∃ x q, vs = [x] ∧ QuV K H x q ∧ q.1.length ≤ 900000 ∧ ∀ v H', Gr H H' → QuV K H' v (negU q) → Q v H'
/-- the flat normal form -/
def spNorm (K : PySem.W.Frag) : Sp := fun vs H Q _ => ∃ a q, vs = [.ref a] ∧ SqT K H a ((q.1 ++ [q.2]).map V.int) ∧ NonZ q.1 ∧ q.1.length ≤ 900000 ∧ ∀ b H', Gr H H' → VF K H' b (nfU q) → Q (.ref b) H'
theorem sc_norm : FnScope ["wholes", "common", "whole"] ["wholes"] (defScope s_normal_form) := ⟨rfl, rfl, rfl, by decide +kernel, rfl, by decide +kernel, by decide +kernel⟩
theorem cl_norm (D : Df K mg "normal_form" s_normal_form) (B : Blt mg) (NS : NSK P K) (CC : Cl P w K mg base 1 "common_of" ["wholes"] (spCommon K)) (CB : Cl P w K mg base 1 "begins_at" ["wholes"] (spBegins K)) : Cl P w K mg base 34 "normal_form" ["wholes"] (spNorm K) := by
  refine D.cl (fun _ _ _ _ _ _ us hl => match us, hl with | [_], _ => rfl) fun f fd F => F.ok sc_norm (fun vs H Q E h => ?_) (fun cdv A outer s H vs Q E hr h => ?_)
  · obtain ⟨a, q, rfl, _⟩ := h
    rfl
  obtain ⟨a, q, rfl, hs, nz, l8, hq⟩ := h
  refine ⟨_, pss_cons (ps_set (i := 1) sc_norm.nd rfl (.inr rfl) (pe_cl CC (hr.mono (by decide)) (pa_cons (pv 0) pa_nil)))
    (pss_cons (ps_if (pt_cmpR op_lt (pe_ix ix_tup (pv 0) (pe_cl CB (hr.mono (by decide)) (pa_cons (pv 0) pa_nil)) (fun _ _ => rfl)) pe_int (nomark _)) (pss_one (ps_set (i := 1) sc_norm.nd rfl (.inr rfl) (pe_un un_neg (pv 1)))) pss_nil)
    (pss_one (ps_ret (pe_ifExp (pt_cmpR op_eq (pv 1) pe_int (nomark _)) (pe_callTy call_tuple_of rfl B.tup bootTup (pa_cons (pv 0) pa_nil)) (pe_callTy call_tuple_of rfl B.tup bootTup (pa_cons (pe_lc (own := [("whole", 2)]) (g := gName 2) rfl sc_norm.nd (pi_tup (pv 0)) (blkOk_by (N := ["wholes", "common", "whole"]) (sc := defScope s_normal_form) (by decide +kernel)) (fun _ _ _ _ _ => pg_name (i := 2) sc_norm.nd rfl (Or.inl rfl)) (fun _ _ _ _ _ => pts_nil) (fun _ _ _ _ _ => pe_op (op_fdivP NS (Room.far hr) rfl rfl rfl rfl rfl) (pv 2) (pv 1))) pa_nil)))))), ?_⟩
  obtain ⟨nf, nc⟩ := nf_flat nz
  have nl := znonZ_app [q.2] nz
  obtain ⟨k1, k2, _⟩ := firstNZ_at nl
  refine ⟨_, rfl, a, q.1 ++ [q.2], rfl, hs, ?_⟩
  refine ⟨_, rfl, _, rfl, a, q.1 ++ [q.2], rfl, hs, nl, a, _, _, .int (lead (q.1 ++ [q.2])), rfl, rfl, hs, atI_nat (by rw [List.getElem?_map, k1]; rfl), _, _, rfl, rfl, _, rfl, ?_⟩
  by_cases hn : lead (q.1 ++ [q.2]) < 0
  · refine iteP hn ⟨_, rfl, _, rfl, ?_⟩
    have ec : -((gcdL (q.1 ++ [q.2]) : Nat) : Int) = nfC q := by unfold nfC; rw [if_pos hn]
    refine ⟨_, rfl, rfl, _, rfl, ?_⟩
    by_cases h1 : -((gcdL (q.1 ++ [q.2]) : Nat) : Int) = 1
    · refine iteP (show V.int (-((gcdL (q.1 ++ [q.2]) : Nat) : Int)) = V.int 1 by rw [h1]) ⟨_, rfl, a, _, rfl, .inr ⟨hs, hq a H (Gr.refl H) ?_⟩⟩
      show SqT K H a _
      rw [nf, ← ec, h1]
      have e1 : (q.1 ++ [q.2]).map (fun z => z.fdiv 1) = q.1 ++ [q.2] := by
        conv => rhs; rw [← List.map_id (q.1 ++ [q.2])]
        exact List.map_congr_left fun z _ => Int.fdiv_one z
      rw [e1]
      exact hs
    · refine iteN (fun z => h1 (by injection z)) ⟨_, rfl, a, rfl, ⟨_, hs⟩, fun D nD => lc_mapT (xs := (q.1 ++ [q.2]).map V.int) (fun i y _ => ∃ z : Int, (q.1 ++ [q.2])[i]? = some z ∧ y = .int (z.fdiv (-((gcdL (q.1 ++ [q.2]) : Nat) : Int)))) (fun _ _ _ _ h _ => h) nD hs (by rw [List.length_map, List.length_append]; show q.1.length + 1 ≤ 1000000; omega) (fun i x H5 Kc hx g5 kc => ?_) (fun ys H5 hD hl g5 hR => ?_)⟩
      · rw [List.getElem?_map] at hx
        obtain ⟨z, hz, rfl⟩ := Option.map_eq_some_iff.mp hx
        exact ⟨rfl, _, rfl, _, rfl, _, _, rfl, rfl, by rw [ec]; exact nc, kc _ _ (Gr.refl _) ⟨z, hz, rfl⟩⟩
      · have ey : ys = ((nfU q).1 ++ [(nfU q).2]).map V.int := by
          rw [nf]
          refine ints_at (by rw [hl, List.length_map, List.length_map]) fun i y hy => ?_
          obtain ⟨z, hz, rfl⟩ := hR i y hy
          exact ⟨_, by rw [List.getElem?_map, hz]; rfl, by rw [ec]⟩
        subst ey
        exact ⟨D, _, rfl, .inl ⟨SqL.of hD, fun p2 n2 => hq _ _ (g5.new n2 _) (SqT.of upd_same)⟩⟩
  · refine iteN hn ?_
    have ec : ((gcdL (q.1 ++ [q.2]) : Nat) : Int) = nfC q := by unfold nfC; rw [if_neg hn]
    refine ⟨_, rfl, rfl, _, rfl, ?_⟩
    by_cases h1 : ((gcdL (q.1 ++ [q.2]) : Nat) : Int) = 1
    · refine iteP (show V.int ((gcdL (q.1 ++ [q.2]) : Nat) : Int) = V.int 1 by rw [h1]) ⟨_, rfl, a, _, rfl, .inr ⟨hs, hq a H (Gr.refl H) ?_⟩⟩
      show SqT K H a _
      rw [nf, ← ec, h1]
      have e1 : (q.1 ++ [q.2]).map (fun z => z.fdiv 1) = q.1 ++ [q.2] := by
        conv => rhs; rw [← List.map_id (q.1 ++ [q.2])]
        exact List.map_congr_left fun z _ => Int.fdiv_one z
      rw [e1]
      exact hs
    · refine iteN (fun z => h1 (by injection z)) ⟨_, rfl, a, rfl, ⟨_, hs⟩, fun D nD => lc_mapT (xs := (q.1 ++ [q.2]).map V.int) (fun i y _ => ∃ z : Int, (q.1 ++ [q.2])[i]? = some z ∧ y = .int (z.fdiv ((gcdL (q.1 ++ [q.2]) : Nat) : Int))) (fun _ _ _ _ h _ => h) nD hs (by rw [List.length_map, List.length_append]; show q.1.length + 1 ≤ 1000000; omega) (fun i x H5 Kc hx g5 kc => ?_) (fun ys H5 hD hl g5 hR => ?_)⟩
      · rw [List.getElem?_map] at hx
        obtain ⟨z, hz, rfl⟩ := Option.map_eq_some_iff.mp hx
        exact ⟨rfl, _, rfl, _, rfl, _, _, rfl, rfl, by rw [ec]; exact nc, kc _ _ (Gr.refl _) ⟨z, hz, rfl⟩⟩
      · have ey : ys = ((nfU q).1 ++ [(nfU q).2]).map V.int := by
          rw [nf]
          refine ints_at (by rw [hl, List.length_map, List.length_map]) fun i y hy => ?_
          obtain ⟨z, hz, rfl⟩ := hR i y hy
          exact ⟨_, by rw [List.getElem?_map, hz]; rfl, by rw [ec]⟩
        subst ey
        exact ⟨D, _, rfl, .inl ⟨SqL.of hD, fun p2 n2 => hq _ _ (g5.new n2 _) (SqT.of upd_same)⟩⟩
def spNought (K : PySem.W.Frag) : Sp := fun vs H Q _ => ∃ x q, vs = [x] ∧ QuV K H x q ∧ QOk q ∧ q.1.length ≤ 900000 ∧ ∀ b H', Gr H H' → VF K H' b (nfU q) → Q (.ref b) H'
theorem sc_nought : FnScope ["question", "sides", "wall"] ["question"] (defScope s_nought_form) := ⟨rfl, rfl, rfl, by decide +kernel, rfl, by decide +kernel, by decide +kernel⟩
theorem cl_nought (D : Df K mg "nought_form" s_nought_form) (CN : Cl P w K mg base 34 "normal_form" ["wholes"] (spNorm K)) : Cl P w K mg base 35 "nought_form" ["question"] (spNought K) := by
  refine D.cl (fun _ _ _ _ _ _ us hl => match us, hl with | [_], _ => rfl) fun f fd F => F.ok sc_nought (fun vs H Q E h => ?_) (fun cdv A outer s H vs Q E hr h => ?_)
  · obtain ⟨x, q, rfl, _⟩ := h
    rfl
  obtain ⟨x, q, rfl, ⟨a, t, rfl, hs, b, rfl, hb⟩, ok, l8, hq⟩ := h
  refine ⟨_, pss_cons (ps_asg (pv 0) (pg_tup rfl (pgs_cons (pg_name (i := 1) sc_nought.nd rfl (Or.inl rfl)) (pgs_cons (pg_name (i := 2) sc_nought.nd rfl (Or.inl rfl)) pgs_nil))))
    (pss_one (ps_ret (pe_cl CN (hr.mono (by decide)) (pa_cons (pe_op op_catT (pv 1) (pe_tup (pa_cons (pv 2) pa_nil))) pa_nil)))), ?_⟩
  refine ⟨_, rfl, a, _, rfl, hs, rfl, _, _, rfl, _, _, rfl, rfl, ?_⟩
  refine ⟨_, rfl, _, rfl, szN (by show 1 ≤ 1000000; decide), fun p0 n0 => ?_⟩
  have k0 := (Gr.refl H).new n0 (.tup [.int q.2])
  refine ⟨_, _, _, _, rfl, rfl, k0.seqT hb, SqT.of upd_same, ne_of_nonZ ok.nz, ?_, fun z => absurd z (List.cons_ne_nil _ _), fun _ p1 n1 => ?_⟩
  · rw [List.length_map]
    exact szN (by show q.1.length + 1 ≤ 1000000; omega)
  have k1 := k0.new n1 (.tup (q.1.map V.int ++ [.int q.2]))
  exact ⟨p1, q, rfl, SqT.of (by rw [upd_same, List.map_append]; rfl), ok.nz, l8, fun b H' g v => hq b H' (k1.trans g) v⟩
end
end SB
namespace SB
open PySem L2 GxR GA RZ SG PpSet
section
variable {P : Program} {w : World} {K : PySem.W.Frag} {mg : Str → Option Value} {base : Heap}
structure BOk (d : Nat) (qs : List (List Int × Int)) : Prop where
  d1 : 1 ≤ d
  d8 : d ≤ 8
  l8 : qs.length ≤ 8
  ok : ∀ q, q ∈ qs → QOk q ∧ q.1.length = d
  nd : (qs.map nfU).Nodup
theorem Tst.put2 {H : Hp} {D : Addr} {o o0 : HO} (hD : H D = some o0) (n1 : ∀ xs, o0 ≠ .tup xs) (n2 : ∀ u xs, o0 ≠ .frz u (.tup xs)) : Tst K H (upd H D o) := fun a xs h => by
  have ne : ∀ {o1 : HO}, H a = some o1 → o1 ≠ o0 → a ≠ D := fun e z q => by
    rw [q, hD] at e
    exact z (Option.some.inj e).symm
  rcases h with (h | ⟨u, h⟩) | h
  · exact .inl (.inl (by rw [upd_ne (ne h (Ne.symm (n1 xs)))]; exact h))
  · exact .inl (.inr ⟨u, by rw [upd_ne (ne h (Ne.symm (n2 u xs)))]; exact h⟩)
  · exact .inr h
theorem vf_st {H H' : Hp} {a : Addr} {k : Fm} (h : VF K H a k) (g : Tst K H H') : VF K H' a k := g _ _ h
/-- the members' keys of a set that is built -/
theorem nd_at {α β : Type} [DecidableEq β] {f : α → β} {l : List α} {i : Nat} {x : α} (h : (l.map f).Nodup) (e : l[i]? = some x) : f x ∉ (l.take i).map f := fun hm => by
  obtain ⟨hi, ex⟩ := List.getElem?_eq_some_iff.mp e
  obtain ⟨y, hy, ef⟩ := List.mem_map.mp hm
  obtain ⟨j, hj, ey⟩ := List.getElem_of_mem hy
  have hj' : j < i := by
    rw [List.length_take] at hj
    omega
  rw [List.getElem_take] at ey
  have h1 : (l.map f)[j]'(by rw [List.length_map]; omega) = (l.map f)[i]'(by rw [List.length_map]; exact hi) := by
    rw [List.getElem_map, List.getElem_map, ey, ef, ex]
  exact List.pairwise_iff_getElem.mp h j i (by rw [List.length_map]; omega) (by rw [List.length_map]; exact hi) hj' h1
def spBook (K : PySem.W.Frag) : Sp := fun vs H Q _ => ∃ x d qs, vs = [x] ∧ BkV K H x d qs ∧ BOk d qs ∧ ∀ H', Gr H H' → Q (.bl true) H'
theorem sc_book : FnScope ["told", "d", "questions", "question"] ["told"] (defScope s_is_book) := ⟨rfl, rfl, rfl, by decide +kernel, rfl, by decide +kernel, by decide +kernel⟩
theorem cl_book (D : Df K mg "is_book" s_is_book) (B : Blt mg) (CM : Cl P w K mg base 2 "_is_many" ["d"] spMany) (CQ : Cl P w K mg base 5 "is_question_of" ["told", "d"] (spQuestOf K)) (CN : Cl P w K mg base 35 "nought_form" ["question"] (spNought K)) :
    Cl P w K mg base 37 "is_book" ["told"] (spBook K) := by
  refine D.cl (fun _ _ _ _ _ _ us hl => match us, hl with | [_], _ => rfl) fun f fd F => F.ok sc_book (fun vs H Q E h => ?_) (fun cdv A outer s H vs Q E hr h => ?_)
  · obtain ⟨x, d, qs, rfl, _⟩ := h
    rfl
  obtain ⟨x, d, qs, rfl, ⟨a, b, xs, rfl, ha, hb, hp⟩, ok, hq⟩ := h
  refine ⟨_, pss_cons (ps_if (PW.pt (by exact (pw_or (pt_not (pt_val (pe_isi "tuple" (pv 0) bootTup B.tup B.isi))) (pw_or1 (pt_cmpR op_ne (pe_len (pv 0) B.len) pe_int (nomark _)))))) pss_no pss_nil)
    (pss_cons (ps_asg (pv 0) (pg_tup rfl (pgs_cons (pg_name (i := 1) sc_book.nd rfl (Or.inl rfl)) (pgs_cons (pg_name (i := 2) sc_book.nd rfl (Or.inl rfl)) pgs_nil))))
    (pss_cons (ps_if (PW.pt (by exact (pw_or (pt_not (pt_val (pe_cl CM (hr.mono (by decide)) (pa_cons (pv 1) pa_nil)))) (pw_or1 (pt_not (pt_val (pe_isi "tuple" (pv 2) bootTup B.tup B.isi))))))) pss_no pss_nil)
    (pss_cons (ps_for PassesOwn.never rfl (pi_tup (pv 2)) (pg_name (i := 3) sc_book.nd rfl (Or.inl rfl))
      (pss_one (ps_if (pt_not (pt_val (pe_cl CQ (hr.mono (by decide)) (pa_cons (pv 3) (pa_cons (pv 1) pa_nil))))) pss_no pss_nil)))
    (pss_one (ps_ret (pe_cmpR op_eq (pe_callB len_setG rfl B.len PySem.boot_len (pa_cons (pe_sg (Q0 := trivial) (own := [("question", 3)]) (g := gName 3) rfl hr.units sc_book.nd (pi_tup (pv 2)) (blkOk_by (N := ["told", "d", "questions", "question"]) (sc := defScope s_is_book) (by decide +kernel)) (fun _ _ _ _ _ => pg_name (i := 3) sc_book.nd rfl (Or.inl rfl)) (fun _ _ _ _ _ => pts_nil)
      (fun _ _ _ _ _ => pe_cl CN (hr.mono (by decide)) (pa_cons (pv 3) pa_nil))) pa_nil)) (pe_len (pv 2) B.len) (nomark _))))))), ?_⟩
  refine ⟨_, rfl, _, _, .tup ha, kTT, _, rfl, iteF ⟨_, rfl, a, _, rfl, .inr ha, rfl, _, rfl, iteNS rfl ⟨_, rfl, a, _, rfl, ha, rfl, _, _, rfl, _, _, rfl, rfl, ?_⟩⟩⟩
  refine ⟨_, rfl, _, rfl, by have := ok.d1; omega, _, rfl, iteF ⟨_, rfl, _, _, .tup hb, kTT, _, rfl, iteF ?_⟩⟩
  have lx : xs.length = qs.length := paired_len hp
  refine ⟨_, rfl, b, rfl, ⟨_, hb⟩, for_tup (xs := xs) (fun i σ H1 => ∃ c, σ = [some (.ref a), some (.int (d : Int)), some (.ref b), c] ∧ Gr H H1) ⟨_, rfl, Gr.refl H⟩ (fun i σ H1 _ h => ?_) (fun i x σ H1 hx h => ?_) (fun σ H3 h => ?_)⟩
  · obtain ⟨c, rfl, gr⟩ := h
    exact gr.seqT hb
  · obtain ⟨c, rfl, gr⟩ := h
    obtain ⟨q, hq1, hn⟩ := paired_get hp hx
    obtain ⟨qo, ql⟩ := ok.ok q (List.mem_of_getElem? hq1)
    exact ⟨_, rfl, _, rfl, x, q, by rw [ql]; rfl, hn.gr gr, qo.nz, fun H' g4 => ⟨_, rfl, iteF ⟨some x, rfl, gr.trans g4⟩⟩⟩
  obtain ⟨c, rfl, g4⟩ := h
  have hb3 := g4.seqT hb
  refine ⟨_, rfl, b, rfl, ⟨_, hb3⟩, fun D nD => ?_⟩
  refine sg_tup (xs := xs) (fun i H => ∃ L : List (Addr × Fm), H D = some (SetGO P w D L) ∧ L.length = i ∧ GrD D H3 H ∧ (∀ p ∈ L, VF K H p.1 p.2) ∧ ∀ k, k ∈ L.map (·.2) ↔ k ∈ (qs.take i).map nfU)
    ⟨[], upd_same, rfl, (GrD.refl D H3).set _, fun p h => by simp at h, fun k => by simp⟩ (fun i H h1 h => ?_) (fun i x H hx h => ?_) (fun H h => ?_)
  · obtain ⟨L, hD, hl, gr, _⟩ := h
    exact (gr.to nD).seqT hb3
  · obtain ⟨L, hD, hl, gr, hv, hk⟩ := h
    obtain ⟨q, hq1, hn⟩ := paired_get hp hx
    have hi := (List.getElem?_eq_some_iff.mp hq1).1
    have l8 := ok.l8
    obtain ⟨qo, ql⟩ := ok.ok q (List.mem_of_getElem? hq1)
    have d8 := ok.d8
    have g5 := gr.to nD
    refine ⟨rfl, _, rfl, x, q, rfl, hn.gr (g4.trans g5), qo, by omega, fun a4 H4 g6 vf => ?_⟩
    have hD4 : H4 D = some (SetGO P w D L) := g6.keep D _ (fun _ z => by unfold SetGO at z; cases z) hD
    refine ⟨a4, nfU q, L, rfl, vf, hD4, fun p hp' => vf_st (hv p hp') g6.st, by omega, fun L' h1 h2 => ?_⟩
    have nin : nfU q ∉ L.map (·.2) := fun z => nd_at ok.nd hq1 ((hk _).mp z)
    have pm := h2 nin
    have tp : Tst K H4 (upd H4 D (SetGO P w D L')) := Tst.put2 hD4 (fun _ z => by unfold SetGO at z; cases z) (fun _ _ z => by unfold SetGO at z; cases z)
    refine ⟨L', upd_same, by rw [pm.length_eq, List.length_cons, hl], (gr.trans (g6.d D)).set _, fun p hp' => ?_, fun k => ?_⟩
    · rcases List.mem_cons.mp (pm.mem_iff.mp hp') with rfl | hp2
      · exact vf_st vf tp
      · exact vf_st (vf_st (hv p hp2) g6.st) tp
    · have e1 : k ∈ L'.map (·.2) ↔ k = nfU q ∨ k ∈ L.map (·.2) := by
        rw [(pm.map _).mem_iff, List.map_cons, List.mem_cons]
      rw [e1, hk k, List.take_add_one, hq1, Option.toList_some, List.map_append, List.mem_append, List.map_singleton, List.mem_singleton]
      exact Or.comm
  · obtain ⟨L, hD, hl, gr, _⟩ := h
    have g5 := gr.to nD
    refine ⟨D, L, rfl, hD, _, rfl, b, _, rfl, .inr (g5.seqT hb3), rfl, ?_⟩
    exact qd (by rw [hl]) (hq H (g4.trans g5))
end
end SB
namespace SB
open PySem L2 GxR GA RZ
section
variable {P : Program} {w : World} {K : PySem.W.Frag} {mg : Str → Option Value} {base : Heap}
/-- the tables that the program's defs want: how many, which -/
structure Tb5 (T : Nat → Addr) (H : Hp) : Prop where
  t : ∀ i, i < T 0 → TabG H (T (i + 1))
theorem Tb5.gr {T : Nat → Addr} {H H' : Hp} (t : Tb5 T H) (g : Gr H H') : Tb5 T H' := ⟨fun i h => g.tab _ (t.t i h)⟩
def spChkBk (K : PySem.W.Frag) (T : Nat → Addr) : Sp := fun vs H Q _ => ∃ x d qs, vs = [x] ∧ Tb5 T H ∧ BkV K H x d qs ∧ BOk d qs ∧ ∀ H', Gr H H' → Q .non H'
/-- the answer of a question at a point -/
def ansU (q : List Int × Int) (us : List (Int × Int)) : Int := sgn (worthU q us).1
def spAnsAt (K : PySem.W.Frag) : Sp := fun vs H Q _ => ∃ x y q us, vs = [x, y] ∧ QuV K H x q ∧ PtV K H y us ∧ QOk q ∧ UsOk us ∧ q.1.length = us.length ∧ ∀ H', Gr H H' → Q (.int (ansU q us)) H'
theorem worth_pos {q : List Int × Int} {us : List (Int × Int)} (h : ∀ u, u ∈ us → Lo u) : 0 < (worthU q us).2 := by
  refine sumU_pos (by show (0 : Int) < 1; decide) fun p hp => ?_
  exact (h p.2 (List.of_mem_zip (a := p.1) (b := p.2) hp).2).1
theorem sgn_eqr {r : Int × Int} {N D : Int} (h : Eqr r N D) (hr : 0 < r.2) (hD : 0 < D) : sgn r.1 = sgn N := by
  obtain ⟨a, _, b⟩ := eqr_sign h hr hD
  unfold sgn
  by_cases h1 : 0 < r.1
  · rw [if_pos h1, if_pos (a.mp h1)]
  · rw [if_neg h1, if_neg (fun z => h1 (a.mpr z))]
    by_cases h2 : r.1 < 0
    · rw [if_pos h2, if_pos (b.mp h2)]
    · rw [if_neg h2, if_neg (fun z => h2 (b.mpr z))]
def rowU (qs : List (List Int × Int)) (us : List (Int × Int)) : List Int := qs.map fun q => ansU q us
def spRowAt (K : PySem.W.Frag) : Sp := fun vs H Q _ => ∃ x y d qs us, vs = [x, y] ∧ BkV K H x d qs ∧ PtV K H y us ∧ BOk d qs ∧ UsOk us ∧ us.length = d ∧ ∀ v H', Gr H H' → SiV K H' v (rowU qs us) → Q v H'
def spAnswer (K : PySem.W.Frag) (T : Nat → Addr) : Sp := fun vs H Q _ => ∃ x y q us, vs = [x, y] ∧ Tb5 T H ∧ QuV K H x q ∧ PtV K H y us ∧ QOk q ∧ UsOk us ∧ q.1.length = us.length ∧ ∀ H', Gr H H' → Q (.int (ansU q us)) H'
def spRowOf (K : PySem.W.Frag) (T : Nat → Addr) : Sp := fun vs H Q _ => ∃ x y d qs us, vs = [x, y] ∧ Tb5 T H ∧ BkV K H x d qs ∧ PtV K H y us ∧ BOk d qs ∧ UsOk us ∧ us.length = d ∧ ∀ v H', Gr H H' → SiV K H' v (rowU qs us) → Q v H'
end
end SB
namespace SB
open PySem L2 GxR GA RZ
/-- a walk over two tuples side by side -/
theorem plan_zipT {K : PySem.W.Frag} {a b : Addr} {xs ys : List V} {g : TG} {te : TE} {σ0 : L2.St} {vs : List Nat} {QT QF : Hp → Prop} {H2 : Hp} (p : Nat → Prop) (hl : xs.length = ys.length) (hS : SqT K H2 a xs) (hS2 : SqT K H2 b ys)
    (step : ∀ i x y T H, xs[i]? = some x → ys[i]? = some y → Gr H2 H → H T = none → (∀ j, j < i → p j) → g (.ref T) σ0 (upd H T (.tup [x, y])) fun σ2 H3 => wipe σ2 vs = σ0 ∧ te σ2 H3 fun z H4 => ∃ b, z = .bl b ∧ (if b = true then Gr H2 H4 ∧ p i else QF H4))
    (fin : ∀ H, Gr H2 H → (∀ i, i < xs.length → p i) → QT H) : ∃ W : Nat → Nat → Hp → Prop, (∃ m, W 0 m H2) ∧ Plan (ItzT K a b) g tYes te σ0 vs QT QF W := by
  refine ⟨fun i m H => Gr H2 H ∧ i + m = xs.length ∧ ∀ j, j < i → p j, ⟨xs.length, Gr.refl _, Nat.zero_add _, fun j hj => absurd hj (Nat.not_lt_zero _)⟩, fun i m H w => ?_⟩
  obtain ⟨gr, hm, hp⟩ := w
  have hSi := gr.seqT hS
  have hSi2 := gr.seqT hS2
  cases m with
  | zero => exact .inl ⟨⟨xs, ys, hSi, hSi2, .inl (by omega)⟩, fin H gr fun j hj => hp j (by omega)⟩
  | succ m =>
    have hi : i < xs.length := by omega
    have hi2 : i < ys.length := by omega
    refine .inr ⟨⟨xs, ys, xs[i], ys[i], hSi, hSi2, List.getElem?_eq_getElem hi, List.getElem?_eq_getElem hi2⟩, fun H' => Gr H2 H' ∧ p i, fun H' h => ⟨m, Nat.lt_succ_self _, h.1, by omega, fun j hj => ?_⟩, fun v H' hy => ?_⟩
    · by_cases e : j = i
      · rw [e]
        exact h.2
      · exact hp j (by omega)
    · obtain ⟨T, x, y, rfl, nT, rfl, hx, hy2⟩ := hy
      exact step i x y T H (hx xs hSi) (hy2 ys hSi2) gr nT hp
section
variable {P : Program} {w : World} {K : PySem.W.Frag} {mg : Str → Option Value} {base : Heap}
def hopeV : Option Int → V
  | none => .non
  | some i => .int i
def fit1 (h : Option Int) (z : Int) : Bool := match h with
  | none => true
  | some i => decide (i = z)
def fitU (hs : List (Option Int)) (zs : List Int) : Bool := (hs.zip zs).all fun p => fit1 p.1 p.2
def HpOk (hs : List (Option Int)) : Prop := ∀ i, some i ∈ hs → -1 ≤ i ∧ i ≤ 1
def spFits (K : PySem.W.Frag) (T : Nat → Addr) : Sp := fun vs H Q _ => ∃ x a y d qs us hs, vs = [x, .ref a, y] ∧ Tb5 T H ∧ BkV K H x d qs ∧ SqT K H a (hs.map hopeV) ∧ PtV K H y us ∧ BOk d qs ∧ hs.length = qs.length ∧ HpOk hs ∧ UsOk us ∧ us.length = d ∧ ∀ H', Gr H H' → Q (.bl (fitU hs (rowU qs us))) H'
/-- two tuples put together -/
theorem rcat {H : Hp} {a b : Addr} {xs ys : List V} {Kc : VK} (ha : SqT K H a xs) (hb : SqT K H b ys) (hz : xs.length + ys.length ≤ 1000) (k : ∀ c H', Gr H H' → SqT K H' c (xs ++ ys) → Kc (.ref c) H') : L2.rCatA K (.ref a) (.ref b) H Kc := by
  refine ⟨a, b, xs, ys, rfl, rfl, ha, hb, szN (by omega), fun e => ?_, fun _ e => ?_, fun _ _ p np => ?_⟩
  · subst e
    exact k b H (Gr.refl _) hb
  · subst e
    exact k a H (Gr.refl _) (by rw [List.append_nil]; exact ha)
  · exact k p _ ((Gr.refl _).new np _) (SqT.of upd_same)
end
end SB
namespace SB
open PySem L2 GxR GA RZ
section
variable {P : Program} {w : World} {K : PySem.W.Frag} {mg : Str → Option Value} {base : Heap}
theorem cut_to (xs : List V) (i : Nat) (h : i ≤ xs.length) : cutV xs none (some (i : Int)) = xs.take i := by
  unfold cutV
  rw [HT.sIx_none, HT.sIx_nat, List.drop_zero, Nat.sub_zero, Nat.min_eq_left h]
theorem cut_from (xs : List V) (i : Nat) (h : i ≤ xs.length) : cutV xs (some (i : Int)) none = xs.drop i := by
  unfold cutV
  rw [HT.sIx_none, HT.sIx_nat, Nat.min_eq_left h, List.take_of_length_le]
  rw [List.length_drop]
  exact Nat.le_refl _
/-- the book with a question turned -/
def turnU (qs : List (List Int × Int)) (i : Nat) : List (List Int × Int) := match qs[i]? with
  | some q => (qs.take i ++ [negU q]) ++ qs.drop (i + 1)
  | none => qs
theorem paired_app {α β : Type} {F : α → β → Prop} : ∀ {xs xs' : List α} {ys ys' : List β}, Paired F xs ys → Paired F xs' ys' → Paired F (xs ++ xs') (ys ++ ys')
  | _, _, _, _, .nil, h => h
  | _, _, _, _, .cons r t, h => .cons r (paired_app t h)
theorem paired_take {α β : Type} {F : α → β → Prop} : ∀ {xs : List α} {ys : List β} (n : Nat), Paired F xs ys → Paired F (xs.take n) (ys.take n)
  | _, _, 0, _ => by simp only [List.take_zero]; exact .nil
  | _, _, _ + 1, .nil => .nil
  | _, _, n + 1, .cons r t => .cons r (paired_take n t)
theorem paired_drop {α β : Type} {F : α → β → Prop} : ∀ {xs : List α} {ys : List β} (n : Nat), Paired F xs ys → Paired F (xs.drop n) (ys.drop n)
  | _, _, 0, h => h
  | _, _, _ + 1, .nil => .nil
  | _, _, n + 1, .cons r t => paired_drop n t
def spTurned (K : PySem.W.Frag) (T : Nat → Addr) : Sp := fun vs H Q _ => ∃ x d qs i, vs = [x, .int ((i : Nat) : Int)] ∧ Tb5 T H ∧ BkV K H x d qs ∧ BOk d qs ∧ i < qs.length ∧ ∀ v H', Gr H H' → BkV K H' v d (turnU qs i) → Q v H'
end
end SB
namespace SB
open PySem L2 GxR GA
/-- the same data, of nesting n at most -/
def Alike (K : PySem.W.Frag) (H : Hp) : Nat → V → V → Prop
  | 0 => fun _ _ => False
  | n + 1 => fun x y => (x = y ∧ scB x = true) ∨ ∃ (a b : Addr) (xs ys : List V), x = .ref a ∧ y = .ref b ∧ ys.length ≤ sizeLine ∧ ((SqT K H a xs ∧ SqT K H b ys) ∨ (SqL K H a xs ∧ SqL K H b ys)) ∧ Paired (Alike K H n) xs ys
theorem Alike.gr {K : PySem.W.Frag} {H H' : Hp} (e : Gr H H') : ∀ {n : Nat} {x y : V}, Alike K H n x y → Alike K H' n x y
  | 0, _, _, h => h.elim
  | n + 1, x, y, h => by
    rcases h with h | ⟨a, b, xs, ys, rfl, rfl, hz, h, p⟩
    · exact .inl h
    · refine .inr ⟨a, b, xs, ys, rfl, rfl, hz, ?_, Paired.mapP p fun _ _ q => Alike.gr e q⟩
      rcases h with ⟨h1, h2⟩ | ⟨h1, h2⟩
      · exact .inl ⟨Gr.seqT e h1, Gr.seqT e h2⟩
      · exact .inr ⟨e.seqL h1, e.seqL h2⟩
theorem Alike.more {K : PySem.W.Frag} {H : Hp} : ∀ {n : Nat} {x y : V}, Alike K H n x y → Alike K H (n + 1) x y
  | 0, _, _, h => h.elim
  | n + 1, x, y, h => by
    rcases h with h | ⟨a, b, xs, ys, rfl, rfl, hz, h, p⟩
    · exact .inl h
    · exact .inr ⟨a, b, xs, ys, rfl, rfl, hz, h, Paired.mapP p fun _ _ q => Alike.more q⟩
theorem paired_at {α β : Type} {F : α → β → Prop} : ∀ {xs : List α} {ys : List β}, Paired F xs ys → ∀ i, i < ys.length → ∃ x y, xs[i]? = some x ∧ ys[i]? = some y ∧ F x y
  | _, _, .nil, i, h => absurd h (Nat.not_lt_zero i)
  | _, _, .cons r t, 0, _ => ⟨_, _, rfl, rfl, r⟩
  | _, _, .cons r t, i + 1, h => by
    obtain ⟨x, y, e1, e2, q⟩ := paired_at t i (Nat.lt_of_succ_lt_succ h)
    exact ⟨x, y, by simpa using e1, by simpa using e2, q⟩
/-- the two are the same data: the answer is True -/
def spSame (K : PySem.W.Frag) (n : Nat) : Sp := fun vs H Q _ => ∃ x y : V, vs = [x, y] ∧ Alike K H n x y ∧ ∀ H', Gr H H' → Q (.bl true) H'
section
variable {P : Program} {w : World} {K : PySem.W.Frag} {mg : Str → Option Value} {base : Heap}
theorem szL2 : (2 : Nat) ≤ sizeLine := by decide
theorem qt {Q : VK} {H : Hp} {b : Bool} (e : b = true) (q : Q (.bl true) H) : Q (.bl b) H := by
  rw [e]
  exact q
theorem szL0 : (0 : Nat) ≤ sizeLine := by decide
end
end SB
namespace SB
open PySem L2 GxR GA
/-- the deck as it may stand at d -/
def DeckAt (d : Addr) (H : Hp) : Prop := ∃ a b : Int, H d = some (.lst [.int a, .int b]) ∧ 0 ≤ b ∧ b < 2 ^ 64
theorem DeckAt.gr {d : Addr} {H H' : Hp} (h : DeckAt d H) (g : Gr H H') : DeckAt d H' := let ⟨a, b, e, r⟩ := h; ⟨a, b, g.keep _ _ (fun _ z => nomatch z) e, r⟩
theorem GrD.st {K : PySem.W.Frag} {d : Addr} {H H' : Hp} (g : GrD d H H') (h : DeckAt d H) : Tst K H H' := fun a xs q => by
  obtain ⟨u, v, e, _⟩ := h
  exact g.seqT e q
/-- a deck: a new list of two ints -/
def spDeck (K : PySem.W.Frag) : Sp := fun vs H Q _ => ∃ (l : Addr) (ns : List Int) (k : Int), vs = [.ref l, .int k] ∧ SqL K H l (ns.map V.int) ∧ ns.length ≤ 63 ∧ 0 ≤ k ∧ k < 1000 ∧
  ∀ (p : Addr) (a b : Int), H p = none → 0 ≤ b → b < 2305843009213693951 → Q (.ref p) (upd H p (.lst [.int a, .int b]))
def spTake : Sp := fun vs H Q _ => ∃ (d : Addr) (many : Int), vs = [.ref d, .int many] ∧ DeckAt d H ∧ 1 ≤ many ∧ many.natAbs < 2 ^ 8000 ∧
  ∀ (t : Int) H', 0 ≤ t → t < many → GrD d H H' → DeckAt d H' → Q (.int t) H'
section
variable {P : Program} {w : World} {K : PySem.W.Frag} {mg : Str → Option Value} {base : Heap}
theorem modB (x : Int) {m : Int} (h : 0 < m) : 0 ≤ x % m ∧ x % m < m := ⟨Int.emod_nonneg _ (by omega), Int.emod_lt_of_pos _ h⟩
theorem atL {ns : List Int} {k : Int} (h0 : 0 ≤ k) (h : k < (ns.length : Int)) : ∃ z : Int, atI (ns.map V.int) k = some (.int z) := by
  have hk : k.toNat < ns.length := by omega
  have ek : ((k.toNat : Nat) : Int) = k := Int.toNat_of_nonneg h0
  refine ⟨ns[k.toNat], ?_⟩
  have q : atI (ns.map V.int) ((k.toNat : Nat) : Int) = some (.int ns[k.toNat]) := atI_nat (by rw [List.getElem?_map, List.getElem?_eq_getElem hk] <;> rfl)
  rwa [ek] at q
end
section
variable {P : Program} {w : World} {K : PySem.W.Frag} {mg : Str → Option Value} {base : Heap}
end
end SB
namespace SB
open PySem L2 GxR GA
section
variable {P : Program} {w : World} {K : PySem.W.Frag} {mg : Str → Option Value} {base : Heap}
def spGcd : Sp := fun vs H Q _ => ∃ u v : Nat, vs = [.int (u : Int), .int (v : Int)] ∧ Q (.int ((Nat.gcd u v : Nat) : Int)) H
def spPair (K : PySem.W.Frag) : Sp := fun vs H Q _ => ∃ t b : Int, vs = [.int t, .int b] ∧ b ≠ 0 ∧ Wd 310000 (t, b) ∧ ∀ v r H', Gr H H' → NuV K H' v r → Lo r → Eqr r t b → r.1.natAbs ≤ t.natAbs → r.2.natAbs ≤ b.natAbs → Q v H'
def spTenth : Sp := fun vs H Q _ => ∃ k : Nat, vs = [.int (k : Int)] ∧ k ≤ 64 ∧ Q (.int ((10 : Int) ^ k)) H
end
end SB
namespace ZM
open PySem PySem.Spec L2 RZ
/-- what an iterator over a row of items must do: It, the iterator; Sq, the row -/
structure Runs1 (prog : Program) (w : World) (It : Heap → Addr → Addr → Nat → Prop) (Sq : Heap → Addr → Array Value → Prop) : Prop where
  stay : ∀ {h h' : Heap} {i l b : Addr} {k : Nat}, It h i l k → Heap.ExtBut b h h' → i ≠ b → It h' i l k
  sits : ∀ {h h' : Heap} {l b : Addr} {v : Array Value}, Sq h l v → Heap.ExtBut b h h' → l ≠ b → Sq h' l v
  here : ∀ {h : Heap} {i l : Addr} {k : Nat}, It h i l k → ∃ o, h.get? i = some o ∧ ∀ z, o.data ≠ .cell z
  same : ∀ {h h' : Heap} {i l : Addr} {k : Nat}, It h i l k → (∀ o, h.get? i = some o → h'.get? i = some o) → It h' i l k
  more : ∀ {A : Around} {E : Value → Shared → Prop} {s : Shared} {i l : Addr} {k : Nat} {v : Array Value} {x : Value} {Q : Value → Shared → Prop}, It s.heap i l k → Sq s.heap l v → v[k]? = some x →
    (∀ h', It h' i l (k + 1) → Heap.SameBut i s.heap h' → Q x { s with heap := h' }) → wpAny (model prog w) A (Builtin.SmallTypes.nextOf (.ref i)) Q E s
  ends : ∀ {A : Around} {E : Value → Shared → Prop} {s : Shared} {i l : Addr} {k : Nat} {v : Array Value} {Q : Value → Shared → Prop}, A.handled = none → It s.heap i l k → Sq s.heap l v → v[k]? = none →
    (∀ h' e, Heap.ExtBut i s.heap h' → (∃ o, h'.get? e = some o ∧ o.cls = .type "StopIteration") → E (.ref e) { s with heap := h' }) → wpAny (model prog w) A (Builtin.SmallTypes.nextOf (.ref i)) Q E s
theorem runs_list {prog : Program} {w : World} : Runs1 prog w (fun h i l k => h.IsListIter i l k) (fun h l v => h.IsList l v) :=
  ⟨fun x e n => x.extBut e n, fun x e n => x.extBut e n, fun ⟨o, e, _, d⟩ => ⟨o, e, fun z q => by rw [d] at q; cases q⟩, fun x k => x.at k, fun a b c d => wpAny_nextOf_list_item a b c d, fun hh a b c d => wpAny_nextOf_list_end hh a b c d⟩
theorem runs_tup {prog : Program} {w : World} : Runs1 prog w (fun h i l k => h.IsTupleIter i l k) (fun h l v => h.IsTuple l v) :=
  ⟨fun x e n => x.extBut e n, fun x e n => x.extBut e n, fun ⟨o, e, _, d⟩ => ⟨o, e, fun z q => by rw [d] at q; cases q⟩, fun x k => x.at k, fun a b c d => nextOf_tuple_item a b c d, fun hh a b c d => nextOf_tuple_end hh a b c d⟩
/-- nothing but the zip, its own pair and the two iterators has changed -/
abbrev Kept (z TO i1 i2 : Addr) (h h' : Heap) : Prop := ∀ c o, c ≠ z → c ≠ TO → c ≠ i1 → c ≠ i2 → h.get? c = some o → h'.get? c = some o
section
variable {prog : Program} {w : World} {A : Around} {E : Value → Shared → Prop} {s : Shared} {I1 I2 : Heap → Addr → Addr → Nat → Prop} {S1 S2 : Heap → Addr → Array Value → Prop}
  {z TI TO i1 i2 l1 l2 : Addr} {k1 k2 : Nat} {xs ys : Array Value} {x y a b : Value}
theorem zip_more (r1 : Runs1 prog w I1 S1) (r2 : Runs1 prog w I2 S2) {Q : Value → Shared → Prop} (D : ZipApart z TI TO i1 i2 l1 l2) (hz : IsZip s.heap z TI TO .none) (hTI : IsPair s.heap TI (.ref i1) (.ref i2)) (hTO : IsPair s.heap TO a b)
    (h1 : I1 s.heap i1 l1 k1) (h2 : I2 s.heap i2 l2 k2) (hl1 : S1 s.heap l1 xs) (hl2 : S2 s.heap l2 ys) (hx : xs[k1]? = some x) (hy : ys[k2]? = some y)
    (hQ : ∀ h', IsZip h' z TI TO (rawInt s.heap.objs.size) → IsPair h' TO x y → I1 h' i1 l1 (k1 + 1) → I2 h' i2 l2 (k2 + 1) → IsPair h' s.heap.objs.size x y → h'.objs.size = s.heap.objs.size + 1 → Kept z TO i1 i2 s.heap h' → Q (.ref s.heap.objs.size) { s with heap := h' }) :
    wpAny (model prog w) A (Builtin.«zip.__next__» ⟨[.ref z], []⟩) (fun fin s' => ∃ v, fin = .done (.ret v) ∧ Q v s') E s := by
  show wpAny _ _ (field (.ref z) 2 >>= _) _ _ _
  refine wpAny_bind (wpAny_field hz rfl (x := .bool false) rfl ?_)
  show wpAny _ _ (field (.ref z) 3 >>= _) _ _ _
  refine wpAny_bind (wpAny_field hz rfl (x := .ref TI) rfl (wpAny_bind (wpAny_seqItems hTI rfl ?_)))
  show wpAny _ _ (Builtin.SmallTypes.ownedTupleIsFree (.ref z) >>= _) _ _ _
  unfold Builtin.SmallTypes.ownedTupleIsFree
  refine wpAny_bind (wpAny_bind (wpAny_field hz rfl (x := .none) rfl (wpAny_pure ?_)))
  simp only [if_true]
  refine wpAny_bind (wpAny_rule (wpAny_bind (wpAny_field hz rfl (x := .ref TO) rfl (wpAny_bind (wpAny_setField_rec hz (by simp) fun g1 z1 e1 => ?_)))))
  have z1' : IsZip g1 z TI TO .ellipsis := z1
  refine wpAny_bind ?_
  simp only [List.zipIdx_cons, List.zipIdx_nil, List.forIn_cons, List.forIn_nil]
  refine wpAny_bind (wpAny_bind (wpAny_onRaise ?_))
  show wpAny _ _ (Builtin.SmallTypes.nextOf (.ref i1) >>= _) _ _ _
  refine wpAny_bind (r1.more (r1.stay h1 e1.extBut D.i1z) (r1.sits hl1 e1.extBut D.l1z) hx fun g2 n2 e2 => wpAny_pure ?_)
  have o2 : IsPair g2 TO a b := e2.extBut _ _ D.TOi1 (e1.extBut _ _ D.TOz hTO)
  refine wpAny_bind (wpAny_seqItems o2 rfl (wpAny_bind (wpAny_updateSeq_pair o2 fun g3 o3 e3 => wpAny_bind (wpAny_letGo (wpAny_pure ?_)))))
  have o3' : IsPair g3 TO x b := o3
  refine wpAny_bind (wpAny_bind (wpAny_onRaise ?_))
  show wpAny _ _ (Builtin.SmallTypes.nextOf (.ref i2) >>= _) _ _ _
  refine wpAny_bind (r2.more (r2.stay (r2.stay (r2.stay h2 e1.extBut D.i2z) e2.extBut D.i12.symm) e3.extBut D.TOi2.symm) (r2.sits (r2.sits (r2.sits hl2 e1.extBut D.l2z) e2.extBut D.l2i1) e3.extBut D.l2TO) hy fun g4 n4 e4 => wpAny_pure ?_)
  have o4 : IsPair g4 TO x b := e4.extBut _ _ D.TOi2 o3'
  refine wpAny_bind (wpAny_seqItems o4 rfl (wpAny_bind (wpAny_updateSeq_pair o4 fun g5 o5 e5 => wpAny_bind (wpAny_letGo (wpAny_pure (wpAny_pure ?_))))))
  have o5' : IsPair g5 TO x y := o5
  refine wpAny_bind (wpAny_seqItems o5' rfl (wpAny_bind (wpAny_newTuple ?_)))
  have sz : g5.objs.size = s.heap.objs.size := by rw [e5.1, e4.1, e3.1, e2.1, e1.1]
  have z5 : IsZip g5 z TI TO .ellipsis := e5.extBut _ _ D.TOz.symm (e4.extBut _ _ D.i2z.symm (e3.extBut _ _ D.TOz.symm (e2.extBut _ _ D.i1z.symm z1')))
  have kp : Kept z TO i1 i2 s.heap g5 := fun c o c1 c2 c3 c4 e => e5.extBut _ _ c2 (e4.extBut _ _ c4 (e3.extBut _ _ c2 (e2.extBut _ _ c3 (e1.extBut _ _ c1 e))))
  have m1 : I1 g5 i1 l1 (k1 + 1) := r1.stay (r1.stay (r1.stay n2 e3.extBut D.TOi1.symm) e4.extBut D.i12) e5.extBut D.TOi1.symm
  have m2 : I2 g5 i2 l2 (k2 + 1) := r2.stay n4 e5.extBut D.TOi2.symm
  have zl : z < g5.objs.size := Heap.lt_size z5
  show wpAny _ _ (Builtin.SmallTypes.ownedTupleHandOut (.ref z) (.ref g5.objs.size) >>= _) _ _ _
  unfold Builtin.SmallTypes.ownedTupleHandOut
  have z6 : IsZip (g5.push { cls := .type "tuple", data := .seq #[x, y] }) z TI TO .ellipsis := Heap.get?_push_of_some _ z5
  refine wpAny_bind (wpAny_bind (wpAny_setField_rec z6 (by simp) fun g7 z7 e7 => ?_))
  have z7' : IsZip g7 z TI TO (rawInt g5.objs.size) := z7
  refine wpAny_setField_rec z7' (by simp) fun g8 z8 e8 => ?_
  have z8' : IsZip g8 z TI TO (rawInt g5.objs.size) := z8
  have up : ∀ c o, c ≠ z → g5.get? c = some o → g8.get? c = some o := fun c o n e => e8.extBut _ _ n (e7.extBut _ _ n (Heap.get?_push_of_some _ e))
  have pr : IsPair g8 g5.objs.size x y := e8.extBut _ _ (Nat.ne_of_gt zl) (e7.extBut _ _ (Nat.ne_of_gt zl) (Heap.get?_push_size _ rfl))
  have s8 : g8.objs.size = g5.objs.size + 1 := by rw [e8.1, e7.1, Heap.size_push]
  rw [sz] at z8' pr s8
  refine wpAny_pure ⟨_, rfl, ?_⟩
  show Q (.ref g5.objs.size) _
  rw [sz]
  exact hQ g8 z8' (up _ _ D.TOz o5') (r1.same m1 fun o e => up _ o D.i1z e) (r2.same m2 fun o e => up _ o D.i2z e) pr s8 fun c o c1 c2 c3 c4 e => up c o c1 (kp c o c1 c2 c3 c4 e)
theorem zip_ends (r1 : Runs1 prog w I1 S1) (r2 : Runs1 prog w I2 S2) {Q : Fin → Shared → Prop} (hh : A.handled = none) (D : ZipApart z TI TO i1 i2 l1 l2) (hz : IsZip s.heap z TI TO .none) (hTI : IsPair s.heap TI (.ref i1) (.ref i2)) (hTO : IsPair s.heap TO a b)
    (h1 : I1 s.heap i1 l1 k1) (h2 : I2 s.heap i2 l2 k2) (hl1 : S1 s.heap l1 xs) (hl2 : S2 s.heap l2 ys) (hend : xs[k1]? = none ∨ ys[k2]? = none)
    (hE : ∀ h' e, Kept z TO i1 i2 s.heap h' → (∃ o, h'.get? e = some o ∧ o.cls = .type "StopIteration") → E (.ref e) { s with heap := h' }) : wpAny (model prog w) A (Builtin.«zip.__next__» ⟨[.ref z], []⟩) Q E s := by
  show wpAny _ _ (field (.ref z) 2 >>= _) _ _ _
  refine wpAny_bind (wpAny_field hz rfl (x := .bool false) rfl ?_)
  show wpAny _ _ (field (.ref z) 3 >>= _) _ _ _
  refine wpAny_bind (wpAny_field hz rfl (x := .ref TI) rfl (wpAny_bind (wpAny_seqItems hTI rfl ?_)))
  show wpAny _ _ (Builtin.SmallTypes.ownedTupleIsFree (.ref z) >>= _) _ _ _
  unfold Builtin.SmallTypes.ownedTupleIsFree
  refine wpAny_bind (wpAny_bind (wpAny_field hz rfl (x := .none) rfl (wpAny_pure ?_)))
  simp only [if_true]
  refine wpAny_bind (wpAny_rule (wpAny_bind (wpAny_field hz rfl (x := .ref TO) rfl (wpAny_bind (wpAny_setField_rec hz (by simp) fun g1 z1 e1 => ?_)))))
  have z1' : IsZip g1 z TI TO .ellipsis := z1
  have noz : ∀ {g : Heap} {e : Addr} {o : Obj}, IsZip g z TI TO .ellipsis → g.get? e = some o → o.cls = .type "StopIteration" → e ≠ z := fun {g e o} hg ho hc q => by
    rw [q, hg] at ho
    cases ho
    simp at hc
  refine wpAny_bind ?_
  simp only [List.zipIdx_cons, List.zipIdx_nil, List.forIn_cons, List.forIn_nil]
  refine wpAny_bind (wpAny_bind (wpAny_onRaise ?_))
  show wpAny _ _ (Builtin.SmallTypes.nextOf (.ref i1) >>= _) _ _ _
  cases hx : xs[k1]? with
  | none =>
    refine wpAny_bind (r1.ends hh (r1.stay h1 e1.extBut D.i1z) (r1.sits hl1 e1.extBut D.l1z) hx fun g2 e e2 ⟨oe, ho, hc⟩ => ?_)
    have z2 : IsZip g2 z TI TO .ellipsis := e2 _ _ D.i1z.symm z1'
    exact wpAny_setField_rec z2 (by simp) fun g3 _ e3 => hE g3 e (fun c o c1 _ c3 _ q => e3.extBut _ _ c1 (e2 _ _ c3 (e1.extBut _ _ c1 q))) ⟨oe, e3.extBut _ _ (noz z2 ho hc) ho, hc⟩
  | some x =>
    have hy : ys[k2]? = none := hend.elim (fun q => by rw [hx] at q; cases q) id
    refine wpAny_bind (r1.more (r1.stay h1 e1.extBut D.i1z) (r1.sits hl1 e1.extBut D.l1z) hx fun g2 n2 e2 => wpAny_pure ?_)
    have o2 : IsPair g2 TO a b := e2.extBut _ _ D.TOi1 (e1.extBut _ _ D.TOz hTO)
    refine wpAny_bind (wpAny_seqItems o2 rfl (wpAny_bind (wpAny_updateSeq_pair o2 fun g3 o3 e3 => wpAny_bind (wpAny_letGo (wpAny_pure ?_)))))
    refine wpAny_bind (wpAny_bind (wpAny_onRaise ?_))
    show wpAny _ _ (Builtin.SmallTypes.nextOf (.ref i2) >>= _) _ _ _
    refine wpAny_bind (r2.ends hh (r2.stay (r2.stay (r2.stay h2 e1.extBut D.i2z) e2.extBut D.i12.symm) e3.extBut D.TOi2.symm) (r2.sits (r2.sits (r2.sits hl2 e1.extBut D.l2z) e2.extBut D.l2i1) e3.extBut D.l2TO) hy fun g4 e e4 ⟨oe, ho, hc⟩ => ?_)
    have z4 : IsZip g4 z TI TO .ellipsis := e4 _ _ D.i2z.symm (e3.extBut _ _ D.TOz.symm (e2.extBut _ _ D.i1z.symm z1'))
    exact wpAny_setField_rec z4 (by simp) fun g5 _ e5 => hE g5 e (fun c o c1 c2 c3 c4 q => e5.extBut _ _ c1 (e4 _ _ c4 (e3.extBut _ _ c2 (e2.extBut _ _ c3 (e1.extBut _ _ c1 q))))) ⟨oe, e5.extBut _ _ (noz z4 ho hc) ho, hc⟩
end
end ZM
namespace ZM
open PySem PySem.Spec L2 RZ
section
variable {prog : Program} {w : World} {A : Around} {E : Value → Shared → Prop} {s : Shared} {z TI TO i1 i2 l1 l2 : Addr} {k1 k2 : Nat} {xs ys : Array Value} {x y a b : Value}
/-- the zip's next, a tuple beside a list -/
theorem next_more {Q : Option Value → Shared → Prop} (D : ZipApart z TI TO i1 i2 l1 l2) (hz : IsZip s.heap z TI TO .none) (hTI : IsPair s.heap TI (.ref i1) (.ref i2)) (hTO : IsPair s.heap TO a b)
    (h1 : s.heap.IsTupleIter i1 l1 k1) (h2 : s.heap.IsListIter i2 l2 k2) (hl1 : s.heap.IsTuple l1 xs) (hl2 : s.heap.IsList l2 ys) (hx : xs[k1]? = some x) (hy : ys[k2]? = some y)
    (hQ : ∀ h', IsZip h' z TI TO (rawInt s.heap.objs.size) → IsPair h' TO x y → h'.IsTupleIter i1 l1 (k1 + 1) → h'.IsListIter i2 l2 (k2 + 1) → IsPair h' s.heap.objs.size x y → Kept z TO i1 i2 s.heap h' → Q (some (.ref s.heap.objs.size)) { s with heap := h' }) :
    wpAny (model prog w) A (pyNext (.ref z)) Q E s := by
  have hT : s.TypeIs (.ref z) "zip" := ⟨_, hz, rfl⟩
  unfold pyNext
  refine wpAny_bind (wpAny_attempt (wpAny_callSpecial?_slot (name := Str.ofString "__next__") hT F.slot_zip_next (wpAny_call_entry F.slot_zip_next hT F.entry_zip_next ?_ (F.args_zip_next_1 _))))
  exact zip_more runs_tup runs_list D hz hTI hTO h1 h2 hl1 hl2 hx hy fun h' a1 a2 a3 a4 a5 _ a7 => wpAny_pure (hQ h' a1 a2 a3 a4 a5 a7)
theorem next_ends {Q : Option Value → Shared → Prop} (hh : A.handled = none) (D : ZipApart z TI TO i1 i2 l1 l2) (hz : IsZip s.heap z TI TO .none) (hTI : IsPair s.heap TI (.ref i1) (.ref i2)) (hTO : IsPair s.heap TO a b)
    (h1 : s.heap.IsTupleIter i1 l1 k1) (h2 : s.heap.IsListIter i2 l2 k2) (hl1 : s.heap.IsTuple l1 xs) (hl2 : s.heap.IsList l2 ys) (hend : xs[k1]? = none ∨ ys[k2]? = none)
    (hQ : ∀ h', Kept z TO i1 i2 s.heap h' → Q none { s with heap := h' }) : wpAny (model prog w) A (pyNext (.ref z)) Q E s := by
  have hT : s.TypeIs (.ref z) "zip" := ⟨_, hz, rfl⟩
  unfold pyNext
  refine wpAny_bind (wpAny_attempt (wpAny_callSpecial?_slot (name := Str.ofString "__next__") hT F.slot_zip_next (wpAny_call_entry F.slot_zip_next hT F.entry_zip_next ?_ (F.args_zip_next_1 _))))
  refine zip_ends runs_tup runs_list hh D hz hTI hTO h1 h2 hl1 hl2 hend fun h' e hk ⟨o, ho, hc⟩ => ?_
  exact wpAny_bind (wpAny_isInstance (T := "StopIteration") (b := true) ⟨o, ho, hc⟩ isSubtype_stop (wpAny_pure (hQ _ hk)))
end
abbrev mH1 (h : Heap) (a : Addr) : Heap := h.push { cls := .type "tuple_iterator", data := .fields #[.ref a, .int 0 0] }
abbrev mH2 (h : Heap) (a b : Addr) : Heap := (mH1 h a).push { cls := .type "list_iterator", data := .fields #[.ref b, .int 0 0] }
abbrev mH3 (h : Heap) (a b : Addr) : Heap := (mH2 h a b).push { cls := .type "tuple", data := .seq #[.ref h.objs.size, .ref (mH1 h a).objs.size] }
abbrev mH4 (h : Heap) (a b : Addr) : Heap := (mH3 h a b).push { cls := .type "tuple", data := .seq #[.none, .none] }
abbrev mH5 (h : Heap) (a b : Addr) : Heap := (mH4 h a b).push { cls := .type "zip", data := .fields #[.none, .bool false, .bool false, .ref (mH2 h a b).objs.size, .ref (mH3 h a b).objs.size] }
theorem meets_mixed (a b : Addr) (xs ys : Array Value) :
    Meets (Builtin.«zip.__new__» ⟨[.type "zip", .ref a, .ref b], []⟩) (fun _ R s => s.heap.IsTuple a xs ∧ s.heap.IsList b ys ∧ R (.ok (.ret (.ref (mH4 s.heap a b).objs.size))) { s with heap := mH5 s.heap a b }) :=
  .of_wp fun prog w A R s h => by
    obtain ⟨hp, g, d, tk, os⟩ := s
    obtain ⟨q1, q2, h⟩ := h
    have hsub := sub_zip
    have r1 : Heap.IsTuple (Shared.heap ⟨hp, g, d, tk, os⟩) a xs := q1
    have r2 : Heap.IsList (Shared.heap ⟨hp.push { cls := .type "tuple_iterator", data := .fields #[.ref a, .int 0 0] }, g, d, tk, os⟩) b ys := Heap.IsList.push q2 _
    wp_walk using wpAny_pyIter_tuple r1, wpAny_pyIter_list r2
    exact ⟨_, rfl, h⟩
theorem call_mixed {prog : Program} {w : World} {A : Around} {E : Value → Shared → Prop} {s : Shared} {a b : Addr} {xs ys : Array Value} {Q : Value → Shared → Prop} (ha : s.heap.IsTuple a xs) (hb : s.heap.IsList b ys)
    (h : ∀ h', IsZip h' (s.heap.objs.size + 4) (s.heap.objs.size + 2) (s.heap.objs.size + 3) .none → IsPair h' (s.heap.objs.size + 2) (.ref s.heap.objs.size) (.ref (s.heap.objs.size + 1)) → IsPair h' (s.heap.objs.size + 3) .none .none →
      h'.IsTupleIter s.heap.objs.size a 0 → h'.IsListIter (s.heap.objs.size + 1) b 0 → (∀ c o, s.heap.get? c = some o → h'.get? c = some o) → Q (.ref (s.heap.objs.size + 4)) { s with heap := h' }) :
    wpAny (model prog w) A (call (.type "zip") [.ref a, .ref b]) Q E s := by
  refine callType_new F.called_zip (by decide) (F.typeCall_zip_2 _ _) (F.newCall_zip_2 _ _) (fun obj => F.args_object_init_3 obj _ _) F.entry_zip_new (meets_mixed a b xs ys) ⟨ha, hb, ?_⟩
  have n1 : (mH1 s.heap a).objs.size = s.heap.objs.size + 1 := Heap.size_push ..
  have n2 : (mH2 s.heap a b).objs.size = s.heap.objs.size + 2 := by rw [Heap.size_push, n1]
  have n3 : (mH3 s.heap a b).objs.size = s.heap.objs.size + 3 := by rw [Heap.size_push, n2]
  have n4 : (mH4 s.heap a b).objs.size = s.heap.objs.size + 4 := by rw [Heap.size_push, n3]
  have up : ∀ {h : Heap} {c : Addr} {o : Obj} (u : Obj), h.get? c = some o → (h.push u).get? c = some o := fun u e => Heap.get?_push_of_some _ e
  have p5 : (mH5 s.heap a b).get? (mH4 s.heap a b).objs.size = some _ := Heap.get?_push_size _ rfl
  have p4 : (mH5 s.heap a b).get? (mH3 s.heap a b).objs.size = some _ := up _ (Heap.get?_push_size _ rfl)
  have p3 : (mH5 s.heap a b).get? (mH2 s.heap a b).objs.size = some _ := up _ (up _ (Heap.get?_push_size _ rfl))
  have p2 : (mH5 s.heap a b).get? (mH1 s.heap a).objs.size = some _ := up _ (up _ (up _ (Heap.get?_push_size _ rfl)))
  have p1 : (mH5 s.heap a b).get? s.heap.objs.size = some _ := up _ (up _ (up _ (up _ (Heap.get?_push_size _ rfl))))
  show _ ∧ _
  rw [n2, n3, n4] at p5
  rw [n1, n2] at p3
  rw [n3] at p4
  rw [n1] at p2
  rw [n4]
  exact ⟨⟨_, p5, rfl⟩, h _ p5 p3 p4 ⟨_, p1, rfl, rfl⟩ ⟨_, p2, rfl, rfl⟩ fun c o e => up _ (up _ (up _ (up _ (up _ e))))⟩
/-- a tuple and a list, side by side -/
def ItzM (K : PySem.W.Frag) (a b : Addr) : It where
  go := fun i H => ∃ (xs ys : List V) (x y : V), SqT K H a xs ∧ SqL K H b ys ∧ xs[i]? = some x ∧ ys[i]? = some y
  yld := fun i H v H' => ∃ T x y, v = .ref T ∧ H T = none ∧ H' = upd H T (.tup [x, y]) ∧ (∀ xs, SqT K H a xs → xs[i]? = some x) ∧ ∀ ys, SqL K H b ys → ys[i]? = some y
  stop := fun i H => ∃ xs ys : List V, SqT K H a xs ∧ SqL K H b ys ∧ (xs.length ≤ i ∨ ys.length ≤ i)
theorem five {c z TI TO i1 i2 : Addr} (h : c ∈ [z, TI, TO, i1, i2]) : c = z ∨ c = TI ∨ c = TO ∨ c = i1 ∨ c = i2 := by simpa using h
theorem turn_mixed {P : Program} {w : World} {K : PySem.W.Frag} {elts : List Expr} {kk : Nat} {tpos : Pos} {a b z TI TO i1 i2 : Addr} (D : ZipApart z TI TO i1 i2 a b) :
    Turn P w K (.Tuple elts kk tpos) (ItzM K a b) [z, TI, TO, i1, i2] z (fun i h => IsZip h z TI TO .none ∧ IsPair h TI (.ref i1) (.ref i2) ∧ (∃ x y, IsPair h TO x y) ∧ h.IsTupleIter i1 a i ∧ h.IsListIter i2 b i) := by
  refine ⟨by simp, fun i h st c hc => ?_, fun i h h' st k => ?_, fun X hP hw hK hc i pins s σ H E I hf st hg => ?_, fun X hP hw hK hc i pins s σ H E I hf st hg => ?_, fun A i s Q E st h => wpAny_pyIter_zip st.1 h⟩
  · obtain ⟨q1, q2, ⟨x, y, q3⟩, ⟨o1, e1, _, d1⟩, ⟨o2, e2, _, d2⟩⟩ := st
    rcases five hc with q | q | q | q | q <;> subst q
    · exact ⟨_, q1, fun v r => nomatch r⟩
    · exact ⟨_, q2, fun v r => nomatch r⟩
    · exact ⟨_, q3, fun v r => nomatch r⟩
    · exact ⟨o1, e1, fun v r => by rw [d1] at r; cases r⟩
    · exact ⟨o2, e2, fun v r => by rw [d2] at r; cases r⟩
  · obtain ⟨q1, q2, ⟨x, y, q3⟩, q4, q5⟩ := st
    exact ⟨k z (by simp) _ q1, k TI (by simp) _ q2, ⟨x, y, k TO (by simp) _ q3⟩, q4.at fun o q => k i1 (by simp) o q, q5.at fun o q => k i2 (by simp) o q⟩
  · subst hP hw hK
    obtain ⟨q1, q2, ⟨x0, y0, q3⟩, q4, q5⟩ := st
    obtain ⟨xs, ys, x, y, sx, sy, hx, hy⟩ := hg
    obtain ⟨its, rv, p, _⟩ := I.tuple sx
    obtain ⟨its2, rv2, p2, _⟩ := I.list sy
    obtain ⟨u, hu, ru⟩ := rv.get hx
    obtain ⟨u2, hu2, ru2⟩ := rv2.get hy
    have zl : z < s.heap.objs.size := Heap.lt_size q1
    have tp : s.heap.IsTuple a its.toArray := p
    refine next_more D q1 q2 q3 q4 q5 tp p2.isList (x := u) (y := u2) (by simpa using hu) (by simpa using hu2) fun h' z' TO' n1 n2 pr kp => ?_
    refine ⟨_, rfl, wpAny_letOwnedTupleGo_zip (s := { s with heap := h' }) z' fun h'' z'' sb => ?_⟩
    have pr2 : h''.get? s.heap.objs.size = some { cls := .type "tuple", data := .seq #[u, u2] } := (sb.2 _ (Nat.ne_of_gt zl)).trans pr
    have new : ObjOk X.prog X.w (upd H s.heap.objs.size (.tup [x, y])) h'' s.heap.objs.size (.tup [x, y]) := ⟨by show 2 ≤ sizeLine; decide, [u, u2], .cons ru (.cons ru2 .nil), ⟨_, pr2, rfl, _, rfl⟩⟩
    have J := I.turnedNew (t' := s.toks) (ch := [z, TI, TO, i1, i2]) (h' := h'') (fun c o hb q => by
      have hb : ¬ (c = z ∨ c = TI ∨ c = TO ∨ c = i1 ∨ c = i2) := fun r => hb (by simpa using r)
      exact (sb.2 c fun r => hb (.inl r)).trans (kp c o (fun r => hb (.inl r)) (fun r => hb (.inr (.inr (.inl r)))) (fun r => hb (.inr (.inr (.inr (.inl r))))) (fun r => hb (.inr (.inr (.inr (.inr r))))) q)) hf (Nat.le_refl _) new
    refine ⟨.ref s.heap.objs.size, _, J, rfl, ⟨_, x, y, rfl, I.hok.fresh (Nat.le_refl _), rfl, fun l hl => by rw [I.tuple_inj hl sx]; exact hx, fun l hl => by rw [I.list_inj hl sy]; exact hy⟩, ⟨z'', (sb.2 _ D.TIz).trans (kp _ _ D.TIz D.TITO D.TIi1 D.TIi2 q2), ⟨u, u2, (sb.2 _ D.TOz).trans TO'⟩,
      n1.at fun o q => (sb.2 _ D.i1z).trans q, n2.at fun o q => (sb.2 _ D.i2z).trans q⟩, fun c hcm => ?_⟩
    have hlt : c < s.heap.objs.size := by
      obtain ⟨_, e1, _⟩ := q4
      obtain ⟨_, e2, _⟩ := q5
      rcases five hcm with q | q | q | q | q <;> subst q
      · exact zl
      · exact Heap.lt_size q2
      · exact Heap.lt_size q3
      · exact Heap.lt_size e1
      · exact Heap.lt_size e2
    rw [upd_ne (Nat.ne_of_lt hlt)]
    exact (hf c hcm).1
  · subst hP hw hK
    obtain ⟨q1, q2, ⟨x0, y0, q3⟩, q4, q5⟩ := st
    obtain ⟨xs, ys, sx, sy, he⟩ := hg
    obtain ⟨its, rv, p, _⟩ := I.tuple sx
    obtain ⟨its2, rv2, p2, _⟩ := I.list sy
    have m1 := rv.length
    have m2 := rv2.length
    have tp : s.heap.IsTuple a its.toArray := p
    have he' : its.toArray[i]? = none ∨ its2.toArray[i]? = none := he.imp (fun q => by simp; omega) fun q => by simp; omega
    refine next_ends (I.ok.hd hc) D q1 q2 q3 q4 q5 tp p2.isList he' fun h' kp => ⟨rfl, I.turnedL (t' := s.toks) (ch := [z, TI, TO, i1, i2]) (fun c o hb q => ?_) hf⟩
    have hb : ¬ (c = z ∨ c = TI ∨ c = TO ∨ c = i1 ∨ c = i2) := fun r => hb (by simpa using r)
    exact kp c o (fun r => hb (.inl r)) (fun r => hb (.inr (.inr (.inl r)))) (fun r => hb (.inr (.inr (.inr (.inl r))))) (fun r => hb (.inr (.inr (.inr (.inr r))))) q
/-- zip of a tuple and a tuple, or of a tuple and a list -/
def iZipM (K : PySem.W.Frag) (ta : TA) : TI := fun σ H R => ta σ H fun vs H1 => ∃ a b xs ys, vs = [.ref a, .ref b] ∧ SqT K H1 a xs ∧ ((SqT K H1 b ys ∧ R (ItzT K a b) H1) ∨ (SqL K H1 b ys ∧ R (ItzM K a b) H1))
theorem pi_zipM {X : Cx} {e e2 : Expr} {ta : TA} {p pos tpos : Pos} {elts : List Expr} {kk : Nat} (hg : Gl X "zip") (hm : X.mg "zip" = none) (ha : PA X [e, e2] ta)
    (hs : starEach [e, e2] X.env = (false, eval e X.env) :: starEach [e2] X.env := by rfl) (hpl : (backTo pos (starEach [e2] X.env)).any (·.1) = false := by rfl) : PI X (.Tuple elts kk tpos) (.Call (.Name "zip" p) [e, e2] [] pos) (iZipM X.K ta) := by
  refine ⟨fun pins s σ H R I h => PyProof.Rows.Call_ (ld_blt I hg hm PyProof.Rows.boot_zip (PyProof.Rows.callWith_type1 (thn (ha.run pos pins s σ H _ I h) fun us s1 ⟨vs, H1, I1, r1, a, b, xs, ys, ex, sx, q1⟩ => ?_) hs hpl))⟩
  subst ex
  obtain ⟨u1, u2, rfl, e1, e2⟩ := vals2 r1
  cases e1
  cases e2
  obtain ⟨its, rv, p1, _⟩ := I1.tuple sx
  have t1 : s1.heap.IsTuple a its.toArray := p1
  have la : a < s1.heap.objs.size := by obtain ⟨_, e, _⟩ := t1; exact Heap.lt_size e
  have fr : ∀ c, c ∈ [s1.heap.objs.size + 4, s1.heap.objs.size + 2, s1.heap.objs.size + 3, s1.heap.objs.size, s1.heap.objs.size + 1] → FpOk X pins H1 c := fun c hc => by
    have hle : s1.heap.objs.size ≤ c := by
      rcases five hc with q | q | q | q | q <;> rw [q]
      · exact Nat.le_add_right _ _
      · exact Nat.le_add_right _ _
      · exact Nat.le_add_right _ _
      · exact Nat.le_refl _
      · exact Nat.le_add_right _ _
    exact I1.fpOk hle (I1.hok.fresh hle)
  rcases q1 with ⟨sy, q⟩ | ⟨sy, q⟩
  · obtain ⟨its2, rv2, p2, _⟩ := I1.tuple sy
    have t2 : s1.heap.IsTuple b its2.toArray := p2
    have lb : b < s1.heap.objs.size := by obtain ⟨_, e, _⟩ := t2; exact Heap.lt_size e
    exact call_zipT t1 t2 fun h' hz hTI hTO h1 h2 hsz hk => wpAny_pyIter_zip hz ⟨_, _, _, _, H1, rfl, I1.kept (t' := s1.toks) hk, turn_zipT (PySem.W.ktu_apart s1.heap.objs.size a b la lb), ⟨hz, hTI, ⟨_, _, hTO⟩, h1, h2⟩, fr, q⟩
  · obtain ⟨its2, rv2, p2, _⟩ := I1.list sy
    have lb : b < s1.heap.objs.size := by obtain ⟨_, _, e, _⟩ := p2; exact Heap.lt_size e
    exact call_mixed t1 p2.isList fun h' hz hTI hTO h1 h2 hk => wpAny_pyIter_zip hz ⟨_, _, _, _, H1, rfl, I1.kept (t' := s1.toks) hk, turn_mixed (PySem.W.ktu_apart s1.heap.objs.size a b la lb), ⟨hz, hTI, ⟨_, _, hTO⟩, h1, h2⟩, fr, q⟩
/-- a loop over them -/
theorem for_zipM {K : PySem.W.Frag} {a b : Addr} {xs ys : List V} {g : TG} {tb : TS} {D : Ends} {σ : L2.St} {H : Hp} (hl : xs.length = ys.length) (Pv : Nat → L2.St → Hp → Prop) (h0 : Pv 0 σ H) (hq : ∀ i σ H, Pv i σ H → SqT K H a xs ∧ SqL K H b ys)
    (hs : ∀ (i : Nat) (x y : V) (T : Addr) (σ : L2.St) (H : Hp), xs[i]? = some x → ys[i]? = some y → Pv i σ H → H T = none → g (.ref T) σ (upd H T (.tup [x, y])) fun σ2 H2 => tb { D with nx := Pv (i + 1), ct := Pv (i + 1), bk := D.nx } σ2 H2) (hd : ∀ σ H, Pv xs.length σ H → D.nx σ H) :
    ∃ W : Nat → Nat → L2.St → Hp → Prop, (∃ m, W 0 m σ H) ∧ ∀ i m σ H, W i m σ H → ((ItzM K a b).stop i H ∧ D.nx σ H) ∨
      ((ItzM K a b).go i H ∧ ∃ N : L2.St → Hp → Prop, (∀ σ' H', N σ' H' → ∃ m', m' < m ∧ W (i + 1) m' σ' H') ∧ ∀ v H', (ItzM K a b).yld i H v H' → g v σ H' fun σ2 H2 => tb { D with nx := N, ct := N, bk := D.nx } σ2 H2) := by
  refine ⟨fun i m σ H => i + m = xs.length ∧ Pv i σ H, ⟨xs.length, Nat.zero_add _, h0⟩, fun i m σ H ⟨hm, p⟩ => ?_⟩
  obtain ⟨sx, sy⟩ := hq i σ H p
  cases m with
  | zero =>
    have e : i = xs.length := by omega
    subst e
    exact .inl ⟨⟨xs, ys, sx, sy, .inl (Nat.le_refl _)⟩, hd σ H p⟩
  | succ m =>
    have i1 : i < xs.length := by omega
    have i2 : i < ys.length := by omega
    refine .inr ⟨⟨xs, ys, xs[i], ys[i], sx, sy, List.getElem?_eq_getElem i1, List.getElem?_eq_getElem i2⟩, Pv (i + 1), fun σ' H' q => ⟨m, Nat.lt_succ_self _, by omega, q⟩, fun v H' ⟨T, x, y, ev, nT, eH, hx, hy⟩ => ?_⟩
    subst ev eH
    exact hs i x y T σ H (hx xs sx) (hy ys sy) p nT
end ZM
namespace SB
open PySem L2 GxR GA RZ
/-- numbers in a tuple or a list -/
def SpV (K : PySem.W.Frag) (H : Hp) (x : V) (us : List (Int × Int)) : Prop := ∃ a xs, x = .ref a ∧ (SqT K H a xs ∨ SqL K H a xs) ∧ Paired (NuV K H) xs us
theorem SpV.gr {K : PySem.W.Frag} {H H' : Hp} {x : V} {us : List (Int × Int)} (h : SpV K H x us) (g : Gr H H') : SpV K H' x us := let ⟨a, xs, e, s, p⟩ := h; ⟨a, xs, e, s.imp (fun q => g.seqT q) (fun q => g.seqL q), Paired.mapP p fun _ _ z => NuV.gr z g⟩
theorem PtV.sp {K : PySem.W.Frag} {H : Hp} {x : V} {us : List (Int × Int)} (h : PtV K H x us) : SpV K H x us := let ⟨a, xs, e, s, p⟩ := h; ⟨a, xs, e, .inl s, p⟩
/-- a drawn question: small -/
structure Q9 (q : List Int × Int) : Prop where
  nz : NonZ q.1
  ns : ∀ z, z ∈ q.1 → z.natAbs < 2 ^ 4
  wl : q.2.natAbs < 2 ^ 4
theorem Q9.g {q : List Int × Int} (h : Q9 q) : gcdL (q.1 ++ [q.2]) < 2 ^ 64 := by
  obtain ⟨z, h1, h2⟩ := h.nz.ex
  exact Nat.lt_of_le_of_lt (gcdL_le (List.mem_append_left _ h1) h2) (Nat.lt_of_lt_of_le (h.ns z h1) (by decide))
theorem two_le {a b : Nat} (h : a ≤ b) : 2 ^ a ≤ 2 ^ b := Nat.pow_le_pow_right (by decide) h
theorem Q9.ok {q : List Int × Int} (h : Q9 q) : QOk q := ⟨h.nz, fun z hz => Nat.lt_of_lt_of_le (h.ns z hz) (two_le (by decide)), Nat.lt_of_lt_of_le h.wl (two_le (by decide))⟩
section
variable {P : Program} {w : World} {K : PySem.W.Frag} {mg : Str → Option Value} {base : Heap}
def spWorth (K : PySem.W.Frag) : Sp := fun vs H Q _ => ∃ x y q us m, vs = [x, y] ∧ QuV K H x q ∧ SpV K H y us ∧ Q9 q ∧ q.1.length = us.length ∧ us.length ≤ 4 ∧ (∀ u, u ∈ us → Lo u) ∧ (∀ u, u ∈ us → Wd m u) ∧ m ≤ 20000 ∧
  ∀ v r H', Gr H H' → NuV K H' v r → 0 < r.2 → Eqr r (worthU q us).1 (worthU q us).2 → Wd (5 + us.length * (m + 6)) r → Q v H'
end
end SB
namespace SB
open PySem L2 GxR GA RZ
section
variable {P : Program} {w : World} {K : PySem.W.Frag} {mg : Str → Option Value} {base : Heap}
/-! ### the law's own row of a point -/
def spLRow (K : PySem.W.Frag) : Sp := fun vs H Q _ => ∃ x y d qs us m, vs = [x, y] ∧ BkV K H x d qs ∧ SpV K H y us ∧ qs.length ≤ 8 ∧ (∀ q, q ∈ qs → Q9 q ∧ q.1.length = us.length) ∧ us.length ≤ 4 ∧ (∀ u, u ∈ us → Lo u) ∧ (∀ u, u ∈ us → Wd m u) ∧ m ≤ 20000 ∧
  ∀ v H', Gr H H' → SiV K H' v (rowU qs us) → Q v H'
theorem sgn_two (i : Int) : (if decide (i > 0) = true then (1 : Int) else 0) - (if decide (i < 0) = true then (1 : Int) else 0) = sgn i := by
  unfold sgn
  by_cases h1 : 0 < i
  · rw [if_pos (decide_eq_true h1), if_neg (by simp; omega), if_pos h1]
    rfl
  · rw [if_neg (by simp; omega), if_neg h1]
    by_cases h2 : i < 0
    · rw [if_pos (decide_eq_true h2), if_pos h2]
      rfl
    · rw [if_neg (by simp; omega), if_neg h2]
      rfl
/-! ### whether a row fits -/
def spDoesFit (K : PySem.W.Frag) : Sp := fun vs H Q _ => ∃ a b zs hs, vs = [.ref a, .ref b] ∧ SqT K H a (zs.map V.int) ∧ SqT K H b (hs.map hopeV) ∧ hs.length = zs.length ∧ zs.length ≤ 8 ∧ ∀ H', Gr H H' → Q (.bl (fitU hs zs)) H'
end
end SB
namespace SB
open PySem L2 GxR GA RZ
section
variable {P : Program} {w : World} {K : PySem.W.Frag} {mg : Str → Option Value} {base : Heap}
theorem DeckAt.ne {d p : Addr} {H : Hp} (h : DeckAt d H) (n : H p = none) : p ≠ d := by
  obtain ⟨a, b, e, _⟩ := h
  exact Ne.symm (ne_of_none e n)
def spLNum (K : PySem.W.Frag) : Sp := fun vs H Q _ => ∃ d, vs = [.ref d] ∧ DeckAt d H ∧ ∀ v r H', GrD d H H' → DeckAt d H' → NuV K H' v r → Lo r → Wd 134 r → Q v H'
theorem lnum_wd {F L t u : Int} (hF : 0 ≤ F) (hF2 : F ≤ 10 ^ 40) (hL2 : L ≤ 10 ^ 40) (t0 : 0 ≤ t) (t1 : t < 2 * F + 1) (u0 : 0 ≤ u) (u1 : u < L) : (1 + u) ≠ 0 ∧ Wd 134 (t - F, 1 + u) := by
  have e : (10 : Int) ^ 40 < 2 ^ 133 := by decide
  have e2 : (2 : Nat) ^ 134 = 2 * 2 ^ 133 := by decide
  have e3 : ((2 ^ 133 : Nat) : Int) = (2 : Int) ^ 133 := by decide
  refine ⟨by omega, ?_, ?_⟩
  · show (t - F).natAbs < 2 ^ 134
    omega
  · show (1 + u).natAbs < 2 ^ 134
    omega
end
end SB
namespace SB
open PySem L2 GxR GA RZ
theorem dp_ints {K : PySem.W.Frag} {H : Hp} : ∀ js : List Int, DpAll K H (js.map V.int) (js.map PyData.int)
  | [] => .nil
  | j :: r => .cons (.int j) (dp_ints r)
theorem lay_ints : ∀ js : List Int, PyData.canLayAll0 (js.map PyData.int) = true
  | [] => rfl
  | j :: r => by
    show (PyData.canLay0 (.int j) && PyData.canLayAll0 (r.map PyData.int)) = true
    rw [lay_ints r]
    rfl
theorem dep_ints : ∀ js : List Int, PyData.depthAll (js.map PyData.int) = 0
  | [] => rfl
  | j :: r => by
    have h := dep_ints r
    rw [List.map_cons]
    simp [PyData.depthAll, PyData.depth, h]
theorem shp_ints (js : List Int) : SeqAt.shaped (.list (js.map PyData.int)) = true := by
  unfold SeqAt.shaped
  rw [Bool.and_eq_true]
  refine ⟨lay_ints js, decide_eq_true ?_⟩
  have h := dep_ints js
  simp [PyData.depth, h]
theorem eqv_nil (js : List Int) : PyData.eqv (.list (js.map PyData.int)) (.list []) = js.isEmpty := by
  cases js with
  | nil => decide
  | cons j r => rfl
section
variable {P : Program} {w : World} {K : PySem.W.Frag} {mg : Str → Option Value} {base : Heap}
theorem fit_all {hs : List (Option Int)} {zs : List Int} (hl : hs.length = zs.length) (h : ∀ (i : Nat) (h : Option Int) (z : Int), hs[i]? = some h → zs[i]? = some z → fit1 h z = true) : fitU hs zs = true := by
  refine List.all_eq_true.mpr fun p hp => ?_
  obtain ⟨i, hi⟩ := List.getElem?_of_mem hp
  have hz := List.getElem?_zip_eq_some.mp hi
  exact h i p.1 p.2 hz.1 hz.2
theorem fit_not {hs : List (Option Int)} {zs : List Int} {i : Nat} {h : Option Int} {z : Int} (e1 : hs[i]? = some h) (e2 : zs[i]? = some z) (n : fit1 h z = false) : fitU hs zs = false := by
  rw [Bool.eq_false_iff]
  intro q
  have := List.all_eq_true.mp q (h, z) (List.mem_of_getElem? (zip_at e1 e2))
  rw [n] at this
  cases this
end
end SB
namespace SB
open PySem L2 GxR GA RZ
section
variable {P : Program} {w : World} {K : PySem.W.Frag} {mg : Str → Option Value} {base : Heap}
def spGround (K : PySem.W.Frag) : Sp := fun vs H Q _ => ∃ x q, vs = [x] ∧ QuV K H x q ∧ Q9 q ∧ q.1.length ≤ 8 ∧ ∀ b H', Gr H H' → H' b = some (.tup ((grU q).map V.int)) → Q (.ref b) H'
end
end SB
namespace SB
open PySem L2 GxR GA RZ
theorem GrD.put {d D : Addr} {H1 H : Hp} (g : GrD d H1 H) (nD : H1 D = none) (o : HO) : GrD d H1 (upd H D o) := ⟨fun b u n z e => by
  rw [upd_ne (ne_of_none e nD)]
  exact g.keep b u n z e, fun P n t => by
  obtain ⟨ps, e, tr⟩ := id t
  obtain ⟨qs, e2, t2⟩ := g.tab P n t
  exact ⟨qs, by rw [upd_ne (ne_of_none e nD)]; exact e2, t2⟩⟩
theorem DeckAt.put {d D : Addr} {H : Hp} (h : DeckAt d H) (n : D ≠ d) (o : HO) : DeckAt d (upd H D o) := let ⟨a, b, e, r⟩ := h; ⟨a, b, by rw [upd_ne (Ne.symm n)]; exact e, r⟩
/-- one item more -/
theorem deck_more {K : PySem.W.Frag} {d D : Addr} {H1 H H4 : Hp} {ys : List V} {y : V} {i : Nat} (R : Nat → V → Hp → Prop) (hst : ∀ i y H H', R i y H → Tst K H H' → R i y H') (nD : H1 D = none) (nd : D ≠ d) (hD : H D = some (.lst ys)) (hy : ys.length = i) (hi : i < 1000)
    (gr : GrD d H1 H) (dk : DeckAt d H) (hR : ∀ j z, ys[j]? = some z → R j z H) (g4 : GrD d H H4) (dk4 : DeckAt d H4) (r4 : R i y H4) :
    ∃ acc, H4 D = some (.lst acc) ∧ acc.length < sizeLine ∧ ∃ zs, (upd H4 D (.lst (acc ++ [y]))) D = some (.lst zs) ∧ zs.length = i + 1 ∧ GrD d H1 (upd H4 D (.lst (acc ++ [y]))) ∧ DeckAt d (upd H4 D (.lst (acc ++ [y]))) ∧ ∀ j z, zs[j]? = some z → R j z (upd H4 D (.lst (acc ++ [y]))) := by
  have hD4 : H4 D = some (.lst ys) := g4.keep D _ nd (fun _ z => nomatch z) hD
  have tp : Tst K H4 (upd H4 D (.lst (ys ++ [y]))) := Tst.put hD4
  refine ⟨ys, hD4, small1000 (by omega), ys ++ [y], upd_same, by rw [List.length_append, hy]; rfl, (gr.trans g4).put nD _, dk4.put nd _, fun j z hz => ?_⟩
  by_cases hj : j < ys.length
  · rw [List.getElem?_append_left hj] at hz
    exact hst _ _ _ _ (hR j z hz) ((g4.st dk).trans tp)
  · have hl := (List.getElem?_eq_some_iff.mp hz).1
    rw [List.length_append] at hl
    have hl : j < ys.length + 1 := hl
    have ej : j = ys.length := by omega
    subst ej
    rw [List.getElem?_append_right (Nat.le_refl _), Nat.sub_self] at hz
    cases hz
    rw [hy]
    exact hst _ _ _ _ r4 tp
/-- a list of n things drawn -/
theorem lc_deckR {K : PySem.W.Frag} {d : Addr} {lo : Int} {n : Nat} {g : TG} {te : TE} {vs : List Nat} {σ : L2.St} {H1 : Hp} {D : Addr} {Qd : Hp → Prop} (R : Nat → V → Hp → Prop) (hst : ∀ i y H H', R i y H → Tst K H H' → R i y H') (nD : H1 D = none) (dk : DeckAt d H1) (hz : n ≤ 1000)
    (step : ∀ (i : Nat) H (Kc : VK), i < n → GrD d H1 H → DeckAt d H → (∀ y H4, GrD d H H4 → DeckAt d H4 → R i y H4 → Kc y H4) → g (.int (lo + i)) (wipe σ vs) H fun σ2 H2 => wipe σ2 vs = wipe σ vs ∧ te σ2 H2 Kc)
    (fin : ∀ ys H, H D = some (.lst ys) → ys.length = n → GrD d H1 H → DeckAt d H → (∀ i y, ys[i]? = some y → R i y H) → Qd H) :
    ∃ W : Nat → Nat → Hp → Prop, (∃ m, W 0 m (upd H1 D (.lst []))) ∧ ∀ i m H, W i m H → ((Itr lo n).stop i H ∧ Qd H) ∨
      ((Itr lo n).go i H ∧ ∃ Nx : Hp → Prop, (∀ H', Nx H' → ∃ m', m' < m ∧ W (i + 1) m' H') ∧ ∀ x H', (Itr lo n).yld i H x H' → g x (wipe σ vs) H' fun σ2 H2 => wipe σ2 vs = wipe σ vs ∧ tYes σ2 H2 fun b H3 =>
        if b = true then te σ2 H3 fun y H4 => ∃ acc, H4 D = some (.lst acc) ∧ acc.length < sizeLine ∧ Nx (upd H4 D (.lst (acc ++ [y]))) else Nx H3) := by
  have nd := dk.ne nD
  refine ⟨fun i m H => i + m = n ∧ ∃ ys, H D = some (.lst ys) ∧ ys.length = i ∧ GrD d H1 H ∧ DeckAt d H ∧ ∀ j y, ys[j]? = some y → R j y H, ⟨n, Nat.zero_add _, [], upd_same, rfl, (GrD.refl d H1).put nD _, dk.put nd _, fun j y h => by simp at h⟩, fun i m H ⟨hm, ys, hD, hy, gr, dk', hR⟩ => ?_⟩
  cases m with
  | zero => exact .inl ⟨(by show n ≤ i; omega), fin ys H hD (by omega) gr dk' hR⟩
  | succ m =>
    refine .inr ⟨(by show i < n; omega), fun H' => ∃ ys, H' D = some (.lst ys) ∧ ys.length = i + 1 ∧ GrD d H1 H' ∧ DeckAt d H' ∧ ∀ j y, ys[j]? = some y → R j y H', fun H' h => ⟨m, Nat.lt_succ_self _, by omega, h⟩, fun x H' hyl => ?_⟩
    obtain ⟨rfl, rfl⟩ := hyl
    exact step i H' _ (by omega) gr dk' fun y H4 g4 dk4 r4 => deck_more R hst nD nd hD hy (by omega) gr dk' hR g4 dk4 r4
/-- one for each of a tuple's items -/
theorem lc_deckT {K : PySem.W.Frag} {d a : Addr} {xs : List V} {g : TG} {te : TE} {vs : List Nat} {σ : L2.St} {H1 : Hp} {D : Addr} {Qd : Hp → Prop} (R : Nat → V → Hp → Prop) (hst : ∀ i y H H', R i y H → Tst K H H' → R i y H') (nD : H1 D = none) (dk : DeckAt d H1) (hs : SqT K H1 a xs) (hz : xs.length ≤ 1000)
    (step : ∀ (i : Nat) x H (Kc : VK), xs[i]? = some x → GrD d H1 H → DeckAt d H → (∀ y H4, GrD d H H4 → DeckAt d H4 → R i y H4 → Kc y H4) → g x (wipe σ vs) H fun σ2 H2 => wipe σ2 vs = wipe σ vs ∧ te σ2 H2 Kc)
    (fin : ∀ ys H, H D = some (.lst ys) → ys.length = xs.length → GrD d H1 H → DeckAt d H → (∀ i y, ys[i]? = some y → R i y H) → Qd H) :
    ∃ W : Nat → Nat → Hp → Prop, (∃ m, W 0 m (upd H1 D (.lst []))) ∧ ∀ i m H, W i m H → ((Itt K a).stop i H ∧ Qd H) ∨
      ((Itt K a).go i H ∧ ∃ Nx : Hp → Prop, (∀ H', Nx H' → ∃ m', m' < m ∧ W (i + 1) m' H') ∧ ∀ x H', (Itt K a).yld i H x H' → g x (wipe σ vs) H' fun σ2 H2 => wipe σ2 vs = wipe σ vs ∧ tYes σ2 H2 fun b H3 =>
        if b = true then te σ2 H3 fun y H4 => ∃ acc, H4 D = some (.lst acc) ∧ acc.length < sizeLine ∧ Nx (upd H4 D (.lst (acc ++ [y]))) else Nx H3) := by
  have nd := dk.ne nD
  refine ⟨fun i m H => i + m = xs.length ∧ ∃ ys, H D = some (.lst ys) ∧ ys.length = i ∧ GrD d H1 H ∧ DeckAt d H ∧ ∀ j y, ys[j]? = some y → R j y H, ⟨xs.length, Nat.zero_add _, [], upd_same, rfl, (GrD.refl d H1).put nD _, dk.put nd _, fun j y h => by simp at h⟩, fun i m H ⟨hm, ys, hD, hy, gr, dk', hR⟩ => ?_⟩
  have sx := gr.st dk a xs hs
  cases m with
  | zero => exact .inl ⟨⟨xs, sx, by omega⟩, fin ys H hD (by omega) gr dk' hR⟩
  | succ m =>
    have hi : i < xs.length := by omega
    refine .inr ⟨⟨xs, xs[i], sx, List.getElem?_eq_getElem hi⟩, fun H' => ∃ ys, H' D = some (.lst ys) ∧ ys.length = i + 1 ∧ GrD d H1 H' ∧ DeckAt d H' ∧ ∀ j y, ys[j]? = some y → R j y H', fun H' h => ⟨m, Nat.lt_succ_self _, by omega, h⟩, fun x H' hyl => ?_⟩
    obtain ⟨rfl, hx⟩ := hyl
    exact step i x H' _ (hx xs sx) gr dk' fun y H4 g4 dk4 r4 => deck_more R hst nD nd hD hy (by omega) gr dk' hR g4 dk4 r4
end SB
namespace SB
open PySem L2 GxR GA RZ
def hopeP : Option Int → PyData
  | none => .none
  | some i => .int i
theorem dp_hopes {K : PySem.W.Frag} {H : Hp} : ∀ hs : List (Option Int), DpAll K H (hs.map hopeV) (hs.map hopeP)
  | [] => .nil
  | none :: r => .cons .non (dp_hopes r)
  | some i :: r => .cons (.int i) (dp_hopes r)
theorem shp_hopes (hs : List (Option Int)) : SeqAt.shaped (.list (hs.map hopeP)) = true := by
  have l : ∀ hs : List (Option Int), PyData.canLayAll0 (hs.map hopeP) = true := fun hs => by
    induction hs with
    | nil => rfl
    | cons h r ih =>
      rw [List.map_cons]
      cases h <;> simp [PyData.canLayAll0, hopeP, PyData.canLay0, ih]
  have d : ∀ hs : List (Option Int), PyData.depthAll (hs.map hopeP) = 0 := fun hs => by
    induction hs with
    | nil => rfl
    | cons h r ih =>
      rw [List.map_cons]
      cases h <;> simp [PyData.depthAll, PyData.depth, hopeP, ih]
  unfold SeqAt.shaped
  rw [Bool.and_eq_true]
  refine ⟨l hs, decide_eq_true ?_⟩
  have h := d hs
  simp [PyData.depth, h]
theorem eqv_nilP (hs : List (Option Int)) : PyData.eqv (.list (hs.map hopeP)) (.list []) = hs.isEmpty := by
  cases hs with
  | nil => decide
  | cons j r => rfl
theorem hopes_of {Pr : Option Int → Prop} : ∀ {ys : List V}, (∀ (i : Nat) (y : V), ys[i]? = some y → ∃ h, y = hopeV h ∧ Pr h) → ∃ hs : List (Option Int), ys = hs.map hopeV ∧ ∀ h, h ∈ hs → Pr h
  | [], _ => ⟨[], rfl, fun h hm => by simp at hm⟩
  | y :: r, f => by
    obtain ⟨h, rfl, ph⟩ := f 0 y rfl
    obtain ⟨hs, rfl, pr⟩ := hopes_of (ys := r) fun i z e => f (i + 1) z (by simpa using e)
    refine ⟨h :: hs, rfl, fun k hk => ?_⟩
    rcases List.mem_cons.mp hk with rfl | hk
    · exact ph
    · exact pr k hk
theorem ixN_nat {n j : Nat} (h : j < n) : ixN n (j : Int) = some j := by
  unfold ixN
  rw [if_pos (by omega), if_pos (by omega)]
  rfl
theorem big_take {n : Nat} (h : n ≤ 64) : ((n : Nat) : Int).natAbs < 2 ^ 8000 := Nat.lt_of_le_of_lt (by omega) (show 64 < 2 ^ 8000 by decide +kernel)
theorem three_less {c : Int} (h0 : -1 ≤ c) (h1 : c ≤ 1) : (([-1, 0, 1] : List Int).filter fun z => decide (z ≠ c)).length = 2 := by
  have : c = -1 ∨ c = 0 ∨ c = 1 := by omega
  rcases this with rfl | rfl | rfl <;> decide
section
variable {P : Program} {w : World} {K : PySem.W.Frag} {mg : Str → Option Value} {base : Heap}
/-- a row's cells: each -1, 0 or 1 -/
def CeOk (zs : List Int) : Prop := ∀ z, z ∈ zs → -1 ≤ z ∧ z ≤ 1
def spLWish (K : PySem.W.Frag) : Sp := fun vs H Q _ => ∃ d a zs, vs = [.ref d, .ref a] ∧ DeckAt d H ∧ SqT K H a (zs.map V.int) ∧ CeOk zs ∧ zs.length ≤ 8 ∧ ∀ p hs H', GrD d H H' → DeckAt d H' → SqT K H' p (hs.map hopeV) → hs.length = zs.length → HpOk hs → Q (.ref p) H'
end
end SB
namespace SB
open PySem L2 GxR GA RZ
/-- a question as data -/
def quP (q : List Int × Int) : PyData := .tuple [.tuple (q.1.map PyData.int), .int q.2]
theorem dp_qus {K : PySem.W.Frag} {H : Hp} : ∀ {xs : List V} {qs : List (List Int × Int)}, Paired (QuV K H) xs qs → DpAll K H xs (qs.map quP)
  | _, _, .nil => .nil
  | _, _, .cons ⟨a, t, ea, hs, b, et, hb⟩ r => by
    subst ea et
    exact .cons (.tup hs (.cons (.tup hb (dp_ints _)) (.cons (.int _) .nil))) (dp_qus r)
theorem shp_qus (qs : List (List Int × Int)) : SeqAt.shaped (.tuple (qs.map quP)) = true := by
  have l : ∀ qs : List (List Int × Int), PyData.canLayAll0 (qs.map quP) = true := fun qs => by
    induction qs with
    | nil => rfl
    | cons q r ih =>
      rw [List.map_cons]
      have h := lay_ints q.1
      simp [PyData.canLayAll0, quP, PyData.canLay0, ih, h]
  have d : ∀ qs : List (List Int × Int), PyData.depthAll (qs.map quP) ≤ 2 := fun qs => by
    induction qs with
    | nil => decide
    | cons q r ih =>
      rw [List.map_cons]
      have h := dep_ints q.1
      simp [PyData.depthAll, PyData.depth, quP, h]
      omega
  unfold SeqAt.shaped
  rw [Bool.and_eq_true]
  refine ⟨l qs, decide_eq_true ?_⟩
  have h := d qs
  simp [PyData.depth]
  omega
theorem eqv_nilT (ds : List PyData) : PyData.eqv (.tuple ds) (.tuple []) = ds.isEmpty := by
  cases ds with
  | nil => decide
  | cons j r => rfl
theorem nums_of {K : PySem.W.Frag} {H : Hp} {Pr : Int × Int → Prop} : ∀ {ys : List V}, (∀ (i : Nat) (y : V), ys[i]? = some y → ∃ u, NuV K H y u ∧ Pr u) → ∃ us : List (Int × Int), Paired (NuV K H) ys us ∧ ∀ u, u ∈ us → Pr u
  | [], _ => ⟨[], .nil, fun h hm => by simp at hm⟩
  | y :: r, f => by
    obtain ⟨u, nu, pu⟩ := f 0 y rfl
    obtain ⟨us, pa, pr⟩ := nums_of (ys := r) fun i z e => f (i + 1) z (by simpa using e)
    refine ⟨u :: us, .cons nu pa, fun k hk => ?_⟩
    rcases List.mem_cons.mp hk with rfl | hk
    · exact pu
    · exact pr k hk
theorem paired_set {α β : Type} {F : α → β → Prop} {x : α} {y : β} : ∀ {xs : List α} {ys : List β}, Paired F xs ys → F x y → ∀ i : Nat, Paired F (xs.set i x) (ys.set i y)
  | _, _, .nil, _, _ => .nil
  | _, _, .cons _ t, h, 0 => .cons h t
  | _, _, .cons r t, h, i + 1 => .cons r (paired_set t h i)
section
variable {P : Program} {w : World} {K : PySem.W.Frag} {mg : Str → Option Value} {base : Heap}
/-- a drawn page: its questions small, of one length -/
structure Pg9 (n : Nat) (qs : List (List Int × Int)) : Prop where
  n1 : 1 ≤ n
  n4 : n ≤ 4
  l8 : qs.length ≤ 8
  q9 : ∀ q, q ∈ qs → Q9 q ∧ q.1.length = n
def spSpot (K : PySem.W.Frag) : Sp := fun vs H Q _ => ∃ d x n qs, vs = [.ref d, x] ∧ DeckAt d H ∧ BkV K H x n qs ∧ Pg9 n qs ∧
  ∀ v us H', GrD d H H' → DeckAt d H' → PtV K H' v us → us.length = n → (∀ u, u ∈ us → Lo u) → (∀ u, u ∈ us → Wd 1000 u) → Q v H'
end
end SB
namespace SB
open PySem L2
theorem eqv_intsA : ∀ a b : List Int, PyData.eqvAll (a.map PyData.int) (b.map PyData.int) = decide (a = b)
  | [], [] => by decide
  | [], _ :: _ => by simp [PyData.eqvAll]
  | _ :: _, [] => by simp [PyData.eqvAll]
  | x :: r, y :: t => by
    have h := eqv_intsA r t
    simp only [List.map_cons, PyData.eqvAll, h, PyData.eqv]
    by_cases e : x = y <;> by_cases e2 : r = t <;> simp [e, e2]
theorem eqv_ints (a b : List Int) : PyData.eqv (.list (a.map PyData.int)) (.list (b.map PyData.int)) = decide (a = b) := by
  have h := eqv_intsA a b
  simp only [PyData.eqv, h]
theorem nonZ_or (zs : List Int) : NonZ zs ∨ zs = List.replicate zs.length 0 := by
  by_cases h : ∃ z, z ∈ zs ∧ z ≠ 0
  · obtain ⟨z, h1, h2⟩ := h
    exact .inl (nonZ_of h1 h2)
  · refine .inr (List.eq_replicate_iff.mpr ⟨rfl, fun z hz => ?_⟩)
    by_cases e : z = 0
    · exact e
    · exact absurd ⟨z, hz, e⟩ h
end SB
namespace SB
open PySem L2 GxR GA RZ
theorem shp_qusL (qs : List (List Int × Int)) : SeqAt.shaped (.list (qs.map quP)) = true := by
  have h := shp_qus qs
  unfold SeqAt.shaped at h ⊢
  rw [Bool.and_eq_true] at h ⊢
  refine ⟨h.1, decide_eq_true ?_⟩
  have h2 := of_decide_eq_true h.2
  simp [PyData.depth] at h2 ⊢
  omega
theorem eqv_nilL (ds : List PyData) : PyData.eqv (.list ds) (.list []) = ds.isEmpty := by
  cases ds with
  | nil => decide
  | cons j r => rfl
theorem ints_of {b : Nat} : ∀ {l : List V}, (∀ (i : Nat) (y : V), l[i]? = some y → ∃ z : Int, y = .int z ∧ z.natAbs ≤ b) → ∃ zs : List Int, l = zs.map V.int ∧ ∀ z, z ∈ zs → z.natAbs ≤ b
  | [], _ => ⟨[], rfl, fun z h => by simp at h⟩
  | y :: r, f => by
    obtain ⟨z, rfl, hz⟩ := f 0 y rfl
    obtain ⟨zs, rfl, hr⟩ := ints_of (l := r) fun i y e => f (i + 1) y (by simpa using e)
    refine ⟨z :: zs, rfl, fun k hk => ?_⟩
    rcases List.mem_cons.mp hk with rfl | hk
    · exact hz
    · exact hr k hk
/-- a list of what comes of two tuples side by side -/
theorem lc_mapZ {K : PySem.W.Frag} {a b : Addr} {xs zs : List V} {g : TG} {te : TE} {vs : List Nat} {σ : L2.St} {H1 : Hp} {D : Addr} {Qd : Hp → Prop} (R : Nat → V → Prop) (nD : H1 D = none) (hl : xs.length = zs.length) (hs : SqT K H1 a xs) (hs2 : SqT K H1 b zs) (hz : xs.length ≤ 1000)
    (step : ∀ (i : Nat) x y (T : Addr) H (Kc : VK), xs[i]? = some x → zs[i]? = some y → Gr H1 H → H T = none → (∀ v H4, Gr (upd H T (.tup [x, y])) H4 → R i v → Kc v H4) → g (.ref T) (wipe σ vs) (upd H T (.tup [x, y])) fun σ2 H2 => wipe σ2 vs = wipe σ vs ∧ te σ2 H2 Kc)
    (fin : ∀ ys H, H D = some (.lst ys) → ys.length = xs.length → Gr H1 H → (∀ i y, ys[i]? = some y → R i y) → Qd H) :
    ∃ W : Nat → Nat → Hp → Prop, (∃ m, W 0 m (upd H1 D (.lst []))) ∧ ∀ i m H, W i m H → ((ItzT K a b).stop i H ∧ Qd H) ∨
      ((ItzT K a b).go i H ∧ ∃ Nx : Hp → Prop, (∀ H', Nx H' → ∃ m', m' < m ∧ W (i + 1) m' H') ∧ ∀ x H', (ItzT K a b).yld i H x H' → g x (wipe σ vs) H' fun σ2 H2 => wipe σ2 vs = wipe σ vs ∧ tYes σ2 H2 fun b H3 =>
        if b = true then te σ2 H3 fun y H4 => ∃ acc, H4 D = some (.lst acc) ∧ acc.length < sizeLine ∧ Nx (upd H4 D (.lst (acc ++ [y]))) else Nx H3) := by
  refine ⟨fun i m H => i + m = xs.length ∧ ∃ ys, H D = some (.lst ys) ∧ ys.length = i ∧ GrD D H1 H ∧ ∀ j y, ys[j]? = some y → R j y, ⟨xs.length, Nat.zero_add _, [], upd_same, rfl, (GrD.refl D H1).set _, fun j y h => by simp at h⟩, fun i m H ⟨hm, ys, hD, hy, gr, hR⟩ => ?_⟩
  have g1 := gr.to nD
  have q1 := g1.seqT hs
  have q2 := g1.seqT hs2
  cases m with
  | zero => exact .inl ⟨⟨xs, zs, q1, q2, .inl (by omega)⟩, fin ys H hD (by omega) g1 hR⟩
  | succ m =>
    have i1 : i < xs.length := by omega
    have i2 : i < zs.length := by omega
    refine .inr ⟨⟨xs, zs, xs[i], zs[i], q1, q2, List.getElem?_eq_getElem i1, List.getElem?_eq_getElem i2⟩, fun H' => ∃ ys, H' D = some (.lst ys) ∧ ys.length = i + 1 ∧ GrD D H1 H' ∧ ∀ j y, ys[j]? = some y → R j y, fun H' h => ⟨m, Nat.lt_succ_self _, by omega, h⟩, fun v H' hyl => ?_⟩
    obtain ⟨T, x, y, rfl, nT, rfl, hx, hy2⟩ := hyl
    refine step i x y T H _ (hx xs q1) (hy2 zs q2) g1 nT fun v H4 g4 rv => ?_
    have gT : Gr H (upd H T (.tup [x, y])) := (Gr.refl H).new nT _
    have hD4 : H4 D = some (.lst ys) := (gT.trans g4).keep D _ (fun _ z => nomatch z) hD
    refine ⟨ys, hD4, small1000 (by omega), ys ++ [v], upd_same, by rw [List.length_append, hy]; rfl, (gr.trans ((gT.trans g4).d D)).set _, fun j z hz2 => ?_⟩
    by_cases hj : j < ys.length
    · rw [List.getElem?_append_left hj] at hz2
      exact hR j z hz2
    · have hl2 := (List.getElem?_eq_some_iff.mp hz2).1
      rw [List.length_append] at hl2
      have hl2 : j < ys.length + 1 := hl2
      have ej : j = ys.length := by omega
      subst ej
      rw [List.getElem?_append_right (Nat.le_refl _), Nat.sub_self] at hz2
      cases hz2
      rw [hy]
      exact rv
theorem flat_zero : ∀ n : Nat, (List.replicate n [V.int 0]).flatten = (List.replicate n (0 : Int)).map V.int
  | 0 => rfl
  | n + 1 => by
    rw [List.replicate_succ, List.flatten_cons, flat_zero n, List.replicate_succ, List.map_cons]
    rfl
/-- ways that come together again: Pst, what holds where they meet -/
theorem seq_join {t u : TS} {D : Ends} {σ : L2.St} {H : Hp} (Pst : L2.St → Hp → Prop) (h2 : ∀ σ' H', Pst σ' H' → u D σ' H') (h1 : ∀ Kn : L2.St → Hp → Prop, (∀ σ' H', Pst σ' H' → Kn σ' H') → t { D with nx := Kn } σ H) : tSeq t u D σ H := h1 (fun σ' H' => u D σ' H') h2
section
variable {P : Program} {w : World} {K : PySem.W.Frag} {mg : Str → Option Value} {base : Heap}
/-- questions in a list -/
def QlV (K : PySem.W.Frag) (H : Hp) (a : Addr) (n : Nat) (qs : List (List Int × Int)) : Prop := ∃ xs, H a = some (.lst xs) ∧ Paired (QuV K H) xs qs ∧ qs.length ≤ 8 ∧ ∀ q, q ∈ qs → Q9 q ∧ q.1.length = n
def spLine (K : PySem.W.Frag) : Sp := fun vs H Q _ => ∃ d a n qs, vs = [.ref d, .int ((n : Nat) : Int), .ref a] ∧ DeckAt d H ∧ a ≠ d ∧ 1 ≤ n ∧ n ≤ 4 ∧ QlV K H a n qs ∧ ∀ v q H', GrD d H H' → DeckAt d H' → QuV K H' v q → Q9 q → q.1.length = n → Q v H'
end
end SB
namespace SB
open PySem L2 GxR GA RZ
/-- a ground as a dict's key -/
def grK (q : List Int × Int) : List Key := (grU q).map Sum.inl
theorem grK_kV (q : List Int × Int) : (grK q).map kV = (grU q).map V.int := by
  unfold grK
  rw [List.map_map]
  rfl
theorem nfU_gr {p q : List Int × Int} (h : nfU p = nfU q) : grK p = grK q := by
  unfold grK grU
  rw [h]
theorem new_none {H : Hp} {a b : Addr} {o : HO} (h : (upd H a o) b = none) : b ≠ a ∧ H b = none := by
  have n : b ≠ a := fun e => by
    rw [e, upd_same] at h
    cases h
  rw [upd_ne n] at h
  exact ⟨n, h⟩
section
variable {P : Program} {w : World} {K : PySem.W.Frag} {mg : Str → Option Value} {base : Heap}
def spPage (K : PySem.W.Frag) : Sp := fun vs H Q _ => ∃ (d : Addr) (m : Nat), vs = [.ref d, .int ((m : Nat) : Int)] ∧ DeckAt d H ∧ m ≤ 7 ∧ ∀ v n qs H', GrD d H H' → DeckAt d H' → BkV K H' v n qs → BOk n qs → Pg9 n qs → Q v H'
end
end SB
namespace SB
open PySem L2 GxR GA RZ
/-- a list of what comes of two tuples side by side, with what stands in the heap -/
theorem lc_mapZH {K : PySem.W.Frag} {a b : Addr} {xs zs : List V} {g : TG} {te : TE} {vs : List Nat} {σ : L2.St} {H1 : Hp} {D : Addr} {Qd : Hp → Prop} (R : Nat → V → Hp → Prop) (hst : ∀ i y H H', R i y H → Tst K H H' → R i y H') (nD : H1 D = none) (hl : xs.length = zs.length) (hs : SqT K H1 a xs) (hs2 : SqT K H1 b zs) (hz : xs.length ≤ 1000)
    (step : ∀ (i : Nat) x y (T : Addr) H (Kc : VK), xs[i]? = some x → zs[i]? = some y → Gr H1 H → H T = none → (∀ v H4, Gr (upd H T (.tup [x, y])) H4 → R i v H4 → Kc v H4) → g (.ref T) (wipe σ vs) (upd H T (.tup [x, y])) fun σ2 H2 => wipe σ2 vs = wipe σ vs ∧ te σ2 H2 Kc)
    (fin : ∀ ys H, H D = some (.lst ys) → ys.length = xs.length → Gr H1 H → (∀ i y, ys[i]? = some y → R i y H) → Qd H) :
    ∃ W : Nat → Nat → Hp → Prop, (∃ m, W 0 m (upd H1 D (.lst []))) ∧ ∀ i m H, W i m H → ((ItzT K a b).stop i H ∧ Qd H) ∨
      ((ItzT K a b).go i H ∧ ∃ Nx : Hp → Prop, (∀ H', Nx H' → ∃ m', m' < m ∧ W (i + 1) m' H') ∧ ∀ x H', (ItzT K a b).yld i H x H' → g x (wipe σ vs) H' fun σ2 H2 => wipe σ2 vs = wipe σ vs ∧ tYes σ2 H2 fun b H3 =>
        if b = true then te σ2 H3 fun y H4 => ∃ acc, H4 D = some (.lst acc) ∧ acc.length < sizeLine ∧ Nx (upd H4 D (.lst (acc ++ [y]))) else Nx H3) := by
  refine ⟨fun i m H => i + m = xs.length ∧ ∃ ys, H D = some (.lst ys) ∧ ys.length = i ∧ GrD D H1 H ∧ ∀ j y, ys[j]? = some y → R j y H, ⟨xs.length, Nat.zero_add _, [], upd_same, rfl, (GrD.refl D H1).set _, fun j y h => by simp at h⟩, fun i m H ⟨hm, ys, hD, hy, gr, hR⟩ => ?_⟩
  have g1 := gr.to nD
  have q1 := g1.seqT hs
  have q2 := g1.seqT hs2
  cases m with
  | zero => exact .inl ⟨⟨xs, zs, q1, q2, .inl (by omega)⟩, fin ys H hD (by omega) g1 hR⟩
  | succ m =>
    have i1 : i < xs.length := by omega
    have i2 : i < zs.length := by omega
    refine .inr ⟨⟨xs, zs, xs[i], zs[i], q1, q2, List.getElem?_eq_getElem i1, List.getElem?_eq_getElem i2⟩, fun H' => ∃ ys, H' D = some (.lst ys) ∧ ys.length = i + 1 ∧ GrD D H1 H' ∧ ∀ j y, ys[j]? = some y → R j y H', fun H' h => ⟨m, Nat.lt_succ_self _, by omega, h⟩, fun v H' hyl => ?_⟩
    obtain ⟨T, x, y, rfl, nT, rfl, hx, hy2⟩ := hyl
    refine step i x y T H _ (hx xs q1) (hy2 zs q2) g1 nT fun v H4 g4 rv => ?_
    have gT : Gr H (upd H T (.tup [x, y])) := (Gr.refl H).new nT _
    have hD4 : H4 D = some (.lst ys) := (gT.trans g4).keep D _ (fun _ z => nomatch z) hD
    have t4 : Tst K H4 (upd H4 D (.lst (ys ++ [v]))) := Tst.put hD4
    refine ⟨ys, hD4, small1000 (by omega), ys ++ [v], upd_same, by rw [List.length_append, hy]; rfl, (gr.trans ((gT.trans g4).d D)).set _, fun j z hz2 => ?_⟩
    by_cases hj : j < ys.length
    · rw [List.getElem?_append_left hj] at hz2
      exact hst _ _ _ _ (hR j z hz2) ((gT.trans g4).st.trans t4)
    · have hl2 := (List.getElem?_eq_some_iff.mp hz2).1
      rw [List.length_append] at hl2
      have hl2 : j < ys.length + 1 := hl2
      have ej : j = ys.length := by omega
      subst ej
      rw [List.getElem?_append_right (Nat.le_refl _), Nat.sub_self] at hz2
      cases hz2
      rw [hy]
      exact hst _ _ _ _ rv t4
/-- numbers in a row, told place by place -/
theorem nums_at {K : PySem.W.Frag} {H : Hp} : ∀ {ys : List V} {Pr : Nat → Int × Int → Prop}, (∀ (i : Nat) (y : V), ys[i]? = some y → ∃ u, NuV K H y u ∧ Pr i u) → ∃ us : List (Int × Int), Paired (NuV K H) ys us ∧ ∀ i u, us[i]? = some u → Pr i u
  | [], _, _ => ⟨[], .nil, fun i u h => by simp at h⟩
  | y :: r, Pr, f => by
    obtain ⟨u, nu, pu⟩ := f 0 y rfl
    obtain ⟨us, pa, pr⟩ := nums_at (ys := r) (Pr := fun i => Pr (i + 1)) fun i z e => f (i + 1) z (by simpa using e)
    refine ⟨u :: us, .cons nu pa, fun i k hk => ?_⟩
    cases i with
    | zero =>
      have : u = k := by simpa using hk
      rw [← this]
      exact pu
    | succ i => exact pr i k (by simpa using hk)
/-- a number on the way from u to w -/
def OnWay (s u w : Int × Int) (m : Nat) (r : Int × Int) : Prop := Lo r ∧ Wd m r ∧ qv r = qv u + qv s * (qv w - qv u)
theorem mix_of {s : Int × Int} {us ws rs : List (Int × Int)} {m : Nat} (hl : us.length = ws.length) (lr : rs.length = us.length) (h : ∀ (i : Nat) (r : Int × Int), rs[i]? = some r → ∃ u w, us[i]? = some u ∧ ws[i]? = some w ∧ OnWay s u w m r) :
    (∀ r, r ∈ rs → Lo r) ∧ (∀ r, r ∈ rs → Wd m r) ∧ rs.map qv = mixQ (qv s) (us.map qv) (ws.map qv) := by
  refine ⟨fun r hr => ?_, fun r hr => ?_, List.ext_getElem? fun i => ?_⟩
  · obtain ⟨i, e⟩ := List.getElem?_of_mem hr
    obtain ⟨u, w, _, _, o⟩ := h i r e
    exact o.1
  · obtain ⟨i, e⟩ := List.getElem?_of_mem hr
    obtain ⟨u, w, _, _, o⟩ := h i r e
    exact o.2.1
  · rw [List.getElem?_map]
    cases e : rs[i]? with
    | none =>
      have : rs.length ≤ i := List.getElem?_eq_none_iff.mp e
      rw [Option.map_none]
      refine (List.getElem?_eq_none ?_).symm
      unfold mixQ
      rw [List.length_zipWith, List.length_map, List.length_map]
      omega
    | some r =>
      obtain ⟨u, w, eu, ew, o⟩ := h i r e
      rw [Option.map_some, mix_at (by rw [List.getElem?_map, eu]; rfl) (by rw [List.getElem?_map, ew]; rfl), o.2.2]
section
variable {P : Program} {w : World} {K : PySem.W.Frag} {mg : Str → Option Value} {base : Heap}
def spPutA (K : PySem.W.Frag) : Sp := fun vs H Q _ => ∃ a b zs ws, vs = [.ref a, .ref b] ∧ SqT K H a (zs.map V.int) ∧ SqT K H b (ws.map V.int) ∧ zs.length = ws.length ∧ zs.length ≤ 8 ∧ ∀ v H', Gr H H' → SiV K H' v (aheadU zs ws) → Q v H'
def spRowB (K : PySem.W.Frag) (T : Nat → Addr) : Sp := fun vs H Q _ => ∃ x y z d qs us ws, vs = [x, y, z] ∧ Tb5 T H ∧ BkV K H x d qs ∧ PtV K H y us ∧ PtV K H z ws ∧ BOk d qs ∧ UsOk us ∧ UsOk ws ∧ us.length = d ∧ ws.length = d ∧ ∀ v H', Gr H H' → SiV K H' v (aheadU (rowU qs us) (rowU qs ws)) → Q v H'
def spBetween (K : PySem.W.Frag) : Sp := fun vs H Q _ => ∃ x y z us ws s m n k, vs = [x, y, z] ∧ PtV K H x us ∧ PtV K H y ws ∧ NuV K H z s ∧ us ≠ [] ∧ us.length = ws.length ∧ us.length ≤ 8 ∧ (∀ u, u ∈ us → Lo u) ∧ (∀ u, u ∈ ws → Lo u) ∧ Lo s ∧ (∀ u, u ∈ us → Wd m u) ∧ (∀ u, u ∈ ws → Wd n u) ∧ Wd k s ∧ 2 * m + n + k ≤ 200000 ∧
  ∀ v rs H', Gr H H' → PtV K H' v rs → rs.length = us.length → (∀ r, r ∈ rs → Lo r) → (∀ r, r ∈ rs → Wd (2 * m + n + k + 4) r) → rs.map qv = mixQ (qv s) (us.map qv) (ws.map qv) → Q v H'
end
end SB
namespace SB
open PySem L2 GxR GA RZ
theorem paired_of {α β : Type} {F : α → β → Prop} : ∀ {ys : List α} {zs : List β}, ys.length = zs.length → (∀ (i : Nat) (y : α) (z : β), ys[i]? = some y → zs[i]? = some z → F y z) → Paired F ys zs
  | [], [], _, _ => .nil
  | [], _ :: _, h, _ => by cases h
  | _ :: _, [], h, _ => by cases h
  | y :: r, z :: t, h, f => .cons (f 0 y z rfl rfl) (paired_of (by simpa using h) fun i a b e1 e2 => f (i + 1) a b (by simpa using e1) (by simpa using e2))
/-- sides and wall of width k -/
def QW (k : Nat) (q : List Int × Int) : Prop := (∀ z, z ∈ q.1 → z.natAbs < 2 ^ k) ∧ q.2.natAbs < 2 ^ k
section
variable {P : Program} {w : World} {K : PySem.W.Frag} {mg : Str → Option Value} {base : Heap}
def spWithout (K : PySem.W.Frag) (T : Nat → Addr) : Sp := fun vs H Q _ => ∃ x d qs i, vs = [x, .int ((i : Nat) : Int)] ∧ Tb5 T H ∧ BkV K H x d qs ∧ BOk d qs ∧ i < qs.length ∧ ∀ v H', Gr H H' → BkV K H' v d (qs.take i ++ qs.drop (i + 1)) → Q v H'
/-! ### moved -/
def spMovQ (K : PySem.W.Frag) : Sp := fun vs H Q _ => ∃ x y q us k m, vs = [x, y] ∧ QuV K H x q ∧ PtV K H y us ∧ NonZ q.1 ∧ q.1.length = us.length ∧ us.length ≤ 4 ∧ (∀ u, u ∈ us → Lo u) ∧ (∀ u, u ∈ us → Wd m u) ∧ QW k q ∧ 4 * (m + k + 3) + 2 * k ≤ 200000 ∧
  ∀ v H', Gr H H' → QuV K H' v (movU q us) → Wd (3 + us.length * (m + k + 3) + k) (shiftU q us) → Q v H'
def spMoved (K : PySem.W.Frag) (T : Nat → Addr) : Sp := fun vs H Q _ => ∃ x y d qs us k m, vs = [x, y] ∧ Tb5 T H ∧ BkV K H x d qs ∧ PtV K H y us ∧ BOk d qs ∧ us.length = d ∧ us ≠ [] ∧ us.length ≤ 4 ∧ (∀ u, u ∈ us → Lo u) ∧ (∀ u, u ∈ us → Wd m u) ∧ (∀ q, q ∈ qs → QW k q) ∧ 4 * (m + k + 3) + 2 * k ≤ 200000 ∧
  ∀ v H', Gr H H' → BkV K H' v d (qs.map fun q => movU q us) → (∀ q, q ∈ qs → Wd (3 + us.length * (m + k + 3) + k) (shiftU q us)) → Q v H'
end
end SB
namespace RP
open PySem PySem.Spec PyProof.Rows L2
theorem mulOne (l : Addr) (items : Array Value) (n : Nat) (dd : Option Addr) (sl : Array (Option Value)) (u : Tok) :
    Meets (Builtin.«tuple.__mul__» ⟨[.ref l, .int 1 u], []⟩) (fun _ R s => s.heap.get? l = some { cls := .type "tuple", dict := dd, data := .seq items n, slots := sl } ∧ R (.ok (.ret (Value.ref l))) s) :=
  .of_wp fun prog w A R s h => by
    obtain ⟨hp, g, d, tk, os⟩ := s
    obtain ⟨hl, h⟩ := h
    have f1 := AutoSeq1.idx_int
    wp_walk using wpAny_loadPart' hl
    repeat (first
      | (refine wpAny_ite_false (decide_eq_false (by decide)) ?_; wp_walk using wpAny_loadPart' hl)
      | (refine wpAny_ite_true (decide_eq_true (by simp)) ?_; wp_walk using wpAny_loadPart' hl))
    exact ⟨_, rfl, h⟩
theorem mulNone (l : Addr) (items : Array Value) (n : Nat) (dd : Option Addr) (sl : Array (Option Value)) (u : Tok) (hi : items.isEmpty = false) :
    Meets (Builtin.«tuple.__mul__» ⟨[.ref l, .int 0 u], []⟩) (fun _ R s => s.heap.get? l = some { cls := .type "tuple", dict := dd, data := .seq items n, slots := sl } ∧
      R (.ok (.ret (Value.ref s.heap.objs.size))) { s with heap := s.heap.push { cls := Value.type "tuple", data := Data.seq #[] }, toks := s.toks }) :=
  .of_wp fun prog w A R s h => by
    obtain ⟨hp, g, d, tk, os⟩ := s
    obtain ⟨hl, h⟩ := h
    have f1 := AutoSeq1.idx_int
    wp_walk using wpAny_loadPart' hl
    repeat (first
      | (refine wpAny_ite_false (decide_eq_false (by decide)) ?_; wp_walk using wpAny_loadPart' hl)
      | (refine wpAny_ite_false (decide_eq_false (by rw [hi]; decide)) ?_; wp_walk using wpAny_loadPart' hl)
      | (refine wpAny_ite_true (decide_eq_true (by simp)) ?_; wp_walk using wpAny_loadPart' hl))
    exact ⟨_, rfl, h⟩
/-- tuple * k, k from 0 on -/
def rRepA (K : PySem.W.Frag) : R2 := fun x y H Q => ∃ l k xs, x = .ref l ∧ y = .int k ∧ SqT K H l xs ∧ xs ≠ [] ∧ 0 ≤ k ∧ k ≤ 1000 ∧ xs.length ≤ 1000 ∧ (k = 1 → Q (.ref l) H) ∧ (k ≠ 1 → ∀ p, H p = none → Q (.ref p) (upd H p (.tup (List.replicate k.toNat xs).flatten)))
theorem op_repA {X : Cx} : OpR X (binaryOp .Mult) (rRepA X.K) := by
  intro pins s σ H x y v u Q I rx ry h
  obtain ⟨l, k, xs, rfl, rfl, hT, hne, h1, h2, hz, qa, qb⟩ := h
  by_cases c : 2 ≤ k
  · exact op_repT pins s σ H _ _ v u Q I rx ry ⟨l, k, xs, rfl, rfl, hT, hne, c, h2, hz, qb (by omega)⟩
  cases rx
  obtain ⟨t, rfl⟩ := ry
  obtain ⟨its, r, ⟨⟨cls, dd, data, sl⟩, ho, hc, n, hd⟩, hs⟩ := I.tuple hT
  simp only at hc hd
  subst hc hd
  have hle : its.length = xs.length := r.length.symm
  have hn : its ≠ [] := fun e => hne (by
    rw [e] at hle
    exact List.eq_nil_of_length_eq_zero hle.symm)
  have hi : its.toArray.isEmpty = false := by
    cases its with
    | nil => exact absurd rfl hn
    | cons a b => rfl
  have c2 : k = 0 ∨ k = 1 := by omega
  rcases c2 with rfl | rfl
  · refine wpAny_binaryOp_repeat_ref (T := "tuple") (U := "int") (by decide) ⟨_, ho, rfl⟩ (fun s' => typeIs_int s' 0 t) noFill_tuple_mul F.fills_int_mul F.slot_int_rmul repeat_tuple F.slot_int_index.lookup
      (call_meets F.slot_int_rmul (typeIs_int s 0 t) F.entry_int_rmul (F.args_int_rmul_2 _ _) (int_rmul_tuple 0 t l its.toArray n dd sl)
        ⟨ho, rfl, ⟨_, ho, rfl⟩, call_meets F.slot_tuple_mul ⟨_, ho, rfl⟩ F.entry_tuple_mul (F.args_tuple_mul_2 _ _) (mulNone l its.toArray n dd sl t hi) ⟨ho, ?_⟩⟩)
    refine ⟨.ref s.heap.objs.size, _, I.laid (t' := s.toks) (o := .tup []) (fun b ob q => Heap.get?_push_of_some _ q) (Nat.le_refl _) ?_, rfl, qb (by decide) _ (I.hok.fresh (Nat.le_refl _))⟩
    exact ⟨by decide, _, .nil, IsTup.new _ _⟩
  · refine wpAny_binaryOp_repeat_ref (T := "tuple") (U := "int") (by decide) ⟨_, ho, rfl⟩ (fun s' => typeIs_int s' 1 t) noFill_tuple_mul F.fills_int_mul F.slot_int_rmul repeat_tuple F.slot_int_index.lookup
      (call_meets F.slot_int_rmul (typeIs_int s 1 t) F.entry_int_rmul (F.args_int_rmul_2 _ _) (int_rmul_tuple 1 t l its.toArray n dd sl)
        ⟨ho, rfl, ⟨_, ho, rfl⟩, call_meets F.slot_tuple_mul ⟨_, ho, rfl⟩ F.entry_tuple_mul (F.args_tuple_mul_2 _ _) (mulOne l its.toArray n dd sl t) ⟨ho, ?_⟩⟩)
    exact ⟨.ref l, H, I, rfl, qa rfl⟩
end RP
namespace SB
open PySem L2 GxR GA RZ
/-! ### a call by names alone -/
structure ClK (P : Program) (w : World) (K : PySem.W.Frag) (mg : Str → Option Value) (base : Heap) (k : Nat) (x : Str) (ps ks : List Str) (g : List Value → List Value → List Value) (gV : List V → List V → List V) (sp : Sp) : Prop where
  ex : ∃ (f : Addr) (fd : FuncData), FnOk P w K mg base CX0 k f fd ps sp ∧ mg x = some (.ref f) ∧ PySem.W.keepIn K (.ref f) = true ∧ KBinds K fd ps ks g gV
theorem ClK.mono {P : Program} {w : World} {K : PySem.W.Frag} {mg : Str → Option Value} {base : Heap} {j k : Nat} {x : Str} {ps ks : List Str} {g : List Value → List Value → List Value} {gV : List V → List V → List V} {sp : Sp} (c : ClK P w K mg base j x ps ks g gV sp) (h : j ≤ k) : ClK P w K mg base k x ps ks g gV sp := by
  obtain ⟨f, fd, F, r⟩ := c.ex
  exact ⟨f, fd, F.mono h, r⟩
def tCallK0 (sp : Sp) (gV : List V → List V → List V) (tk : TA) : TE := fun σ H Q => tk σ H fun zs H2 => sp (gV [] zs) H2 Q E0
theorem pe_clK {X : Cx} {k : Nat} {x : Str} {ps ks : List Str} {g : List Value → List Value → List Value} {gV : List V → List V → List V} {sp : Sp} {p pos : Pos} {kws : List Keyword} {tk : TA} (c : ClK X.prog X.w X.K X.mg X.base k x ps ks g gV sp) (hr : Room k X.A) (hkw : PK X kws tk) (hg : Gl X x := by rfl)
    (hall : (backToKw pos (keywordEach kws X.env)).all (·.1.isSome) = true := by rfl) (hks : (backToKw pos (keywordEach kws X.env)).filterMap (·.1) = ks := by rfl) (hdb : (x == ("__debug__" : Str)) = false := by decide)
    (hpl : ((backTo pos (starEach [] X.env)).any (·.1) || (backToKw pos (keywordEach kws X.env)).any (·.1.isNone)) = false := by rfl) : PE X (.Call (.Name x p) [] kws pos) (tCallK0 sp gV tk) := by
  obtain ⟨f, fd, F, hm, hk, hb⟩ := c.ex
  refine ⟨fun pins s σ H Q I h => ?_⟩
  refine wpAny_Call_Name_kw (ld_glob I hg hm ?_ hdb)
  refine PySem.W.callWith_KW0 (h₀ := X.base) I.ok.mod.kin hk hall (thn (hkw.run pos pins s σ H _ I h) fun ws s2 ⟨zs, H2, I2, rz, q2⟩ => ⟨I2.kIn, ?_⟩) hpl
  rw [hks]
  exact run_fnk (us := []) (vs := []) F hr hb pass0 I2 .nil rz q2
/-- two, three, four names the other way round -/
def gR2 {α : Type} : List α → List α → List α
  | [], [a, b] => [b, a]
  | _, _ => []
def gR3 {α : Type} : List α → List α → List α
  | [], [a, b, c] => [c, b, a]
  | _, _ => []
theorem gR2_rel {vs : List V} {us : List Value} {zs : List V} {ws : List Value} (r : Vals vs us) (q : Vals zs ws) : Vals (gR2 vs zs) (gR2 us ws) := by
  cases r with
  | cons _ _ => exact .nil
  | nil =>
    cases q with
    | nil => exact .nil
    | cons h1 q =>
      cases q with
      | nil => exact .nil
      | cons h2 q =>
        cases q with
        | nil => exact .cons h2 (.cons h1 .nil)
        | cons h3 q => exact .nil
theorem gR3_rel {vs : List V} {us : List Value} {zs : List V} {ws : List Value} (r : Vals vs us) (q : Vals zs ws) : Vals (gR3 vs zs) (gR3 us ws) := by
  cases r with
  | cons _ _ => exact .nil
  | nil =>
    cases q with
    | nil => exact .nil
    | cons h1 q =>
      cases q with
      | nil => exact .nil
      | cons h2 q =>
        cases q with
        | nil => exact .nil
        | cons h3 q =>
          cases q with
          | nil => exact .cons h3 (.cons h2 (.cons h1 .nil))
          | cons h4 q => exact .nil
theorem gR2_len {us ws : List Value} (h : (gR2 us ws).length = 2) : ∃ a b, us = [] ∧ ws = [a, b] := by
  match us, ws, h with
  | [], [a, b], _ => exact ⟨a, b, rfl, rfl⟩
theorem gR3_len {us ws : List Value} (h : (gR3 us ws).length = 3) : ∃ a b c, us = [] ∧ ws = [a, b, c] := by
  match us, ws, h with
  | [], [a, b, c], _ => exact ⟨a, b, c, rfl, rfl⟩
section
variable {P : Program} {w : World} {K : PySem.W.Frag} {mg : Str → Option Value} {base : Heap} {k : Nat} {x : Str} {st : Stmt} {sp : Sp} {c : Addr}
/-- from a call by places, where the def is known -/
theorem clK_of {ps ks : List Str} {g : List Value → List Value → List Value} {gV : List V → List V → List V} (C : Cl P w K mg base k x ps sp) (D : Df K mg x st)
    (hb : ∀ (kV doc pm : Value) (an : Option Addr) (cdv ct : Value), KBinds K (PySem.W.fnOf x x (defArgs st) (defBody st) (defScope st) .none kV doc pm an cdv ct) ps ks g gV) : ClK P w K mg base k x ps ks g gV sp := by
  obtain ⟨f, fd, F, m⟩ := D.ex
  obtain ⟨oc, od, kV, doc, pm, an, cdv, ct, osl, rfl, lk, hcd⟩ := F.ex
  obtain ⟨fd2, G, oc2, od2, osl2, lk2⟩ := C.lk f m
  rw [lk] at lk2
  cases lk2
  exact ⟨f, _, G, m, F.kp, hb kV doc pm an cdv ct⟩
theorem DfT.df (D : DfT K mg x st c) : Df K mg x st := by
  obtain ⟨f, fd, F, m⟩ := D.ex
  exact ⟨f, fd, F.fn, m⟩
theorem clK2 {a b : Str} (C : Cl P w K mg base k x [a, b] sp) (D : Df K mg x st)
    (hb : ∀ (kV doc pm : Value) (an : Option Addr) (cdv ct : Value) (u v : Value), bindArgs (PySem.W.fnOf x x (defArgs st) (defBody st) (defScope st) .none kV doc pm an cdv ct) ⟨[], [(b, v), (a, u)]⟩ = pure [(a, u), (b, v)]) : ClK P w K mg base k x [a, b] [b, a] gR2 gR2 sp :=
  clK_of C D fun kV doc pm an cdv ct => ⟨fun s us ws _ hl => by
    obtain ⟨u, v, rfl, rfl⟩ := gR2_len hl
    exact .of_eq (hb kV doc pm an cdv ct v u), fun r q => gR2_rel r q⟩
theorem clK3 {a b d : Str} (C : Cl P w K mg base k x [a, b, d] sp) (D : Df K mg x st)
    (hb : ∀ (kV doc pm : Value) (an : Option Addr) (cdv ct : Value) (u v z : Value), bindArgs (PySem.W.fnOf x x (defArgs st) (defBody st) (defScope st) .none kV doc pm an cdv ct) ⟨[], [(d, z), (b, v), (a, u)]⟩ = pure [(a, u), (b, v), (d, z)]) : ClK P w K mg base k x [a, b, d] [d, b, a] gR3 gR3 sp :=
  clK_of C D fun kV doc pm an cdv ct => ⟨fun s us ws _ hl => by
    obtain ⟨u, v, z, rfl, rfl⟩ := gR3_len hl
    exact .of_eq (hb kV doc pm an cdv ct z v u), fun r q => gR3_rel r q⟩
end
def gR1 {α : Type} : List α → List α → List α
  | [], [a] => [a]
  | _, _ => []
theorem gR1_rel {vs : List V} {us : List Value} {zs : List V} {ws : List Value} (r : Vals vs us) (q : Vals zs ws) : Vals (gR1 vs zs) (gR1 us ws) := by
  cases r with
  | cons _ _ => exact .nil
  | nil =>
    cases q with
    | nil => exact .nil
    | cons h1 q =>
      cases q with
      | nil => exact .cons h1 .nil
      | cons h2 q => exact .nil
theorem gR1_len {us ws : List Value} (h : (gR1 us ws).length = 1) : ∃ a, us = [] ∧ ws = [a] := by
  match us, ws, h with
  | [], [a], _ => exact ⟨a, rfl, rfl⟩
section
variable {P : Program} {w : World} {K : PySem.W.Frag} {mg : Str → Option Value} {base : Heap} {k : Nat} {x : Str} {st : Stmt} {sp : Sp} {c : Addr}
theorem clK1 {a : Str} (C : Cl P w K mg base k x [a] sp) (D : Df K mg x st)
    (hb : ∀ (kV doc pm : Value) (an : Option Addr) (cdv ct : Value) (u : Value), bindArgs (PySem.W.fnOf x x (defArgs st) (defBody st) (defScope st) .none kV doc pm an cdv ct) ⟨[], [(a, u)]⟩ = pure [(a, u)]) : ClK P w K mg base k x [a] [a] gR1 gR1 sp :=
  clK_of C D fun kV doc pm an cdv ct => ⟨fun s us ws _ hl => by
    obtain ⟨u, rfl, rfl⟩ := gR1_len hl
    exact .of_eq (hb kV doc pm an cdv ct u), fun r q => gR1_rel r q⟩
end
end SB
namespace SB
open PySem L2 GxR GA RZ
theorem sgn_neg (i : Int) : sgn (-i) = -sgn i := by
  unfold sgn
  by_cases h1 : 0 < i
  · rw [if_pos h1, if_neg (by omega), if_pos (by omega)]
  · rw [if_neg h1]
    by_cases h2 : i < 0
    · rw [if_pos h2, if_pos (by omega)]
      rfl
    · rw [if_neg h2, if_neg (by omega), if_neg (by omega)]
      rfl
theorem sgn_in (i : Int) : -1 ≤ sgn i ∧ sgn i ≤ 1 := by
  unfold sgn
  by_cases h1 : 0 < i
  · rw [if_pos h1]; decide
  · rw [if_neg h1]
    by_cases h2 : i < 0
    · rw [if_pos h2]; decide
    · rw [if_neg h2]; decide
theorem ans_neg (q : List Int × Int) (us : List (Int × Int)) : ansU (negU q) us = -ansU q us := by
  unfold ansU
  rw [worth_neg, sgn_neg]
theorem row_len (qs : List (List Int × Int)) (us : List (Int × Int)) : (rowU qs us).length = qs.length := List.length_map _
theorem row_at {qs : List (List Int × Int)} {us : List (Int × Int)} {i : Nat} {q : List Int × Int} (e : qs[i]? = some q) : (rowU qs us)[i]? = some (ansU q us) := by
  unfold rowU
  rw [List.getElem?_map, e]
  rfl
theorem row_ce (qs : List (List Int × Int)) (us : List (Int × Int)) : CeOk (rowU qs us) := fun z hz => by
  obtain ⟨q, _, rfl⟩ := List.mem_map.mp hz
  exact sgn_in _
theorem turn_set {qs : List (List Int × Int)} {i : Nat} {q : List Int × Int} (e : qs[i]? = some q) : turnU qs i = qs.set i (negU q) := by
  unfold turnU
  rw [e]
  exact set_take _ (List.getElem?_eq_some_iff.mp e).1
theorem row_turn {qs : List (List Int × Int)} {i : Nat} {q : List Int × Int} (us : List (Int × Int)) (e : qs[i]? = some q) : rowU (turnU qs i) us = (rowU qs us).set i (-ansU q us) := by
  rw [turn_set e]
  unfold rowU
  rw [List.map_set, ans_neg]
theorem BOk.turn {d : Nat} {qs : List (List Int × Int)} {i : Nat} (ok : BOk d qs) (hi : i < qs.length) : BOk d (turnU qs i) := by
  have e : qs[i]? = some qs[i] := List.getElem?_eq_getElem hi
  obtain ⟨qo, ql⟩ := ok.ok qs[i] (List.getElem_mem hi)
  rw [turn_set e]
  refine ⟨ok.d1, ok.d8, by rw [List.length_set]; exact ok.l8, fun q hq => ?_, ?_⟩
  · rcases List.mem_or_eq_of_mem_set hq with h | h
    · exact ok.ok q h
    · rw [h]
      exact ⟨qo.neg, by show (List.map _ _).length = _; rw [List.length_map]; exact ql⟩
  · rw [List.map_set, nfU_neg qo]
    have : (qs.map nfU).set i (nfU qs[i]) = qs.map nfU := by
      refine List.ext_getElem? fun j => ?_
      rw [List.getElem?_set]
      by_cases h : i = j
      · subst h
        rw [if_pos rfl, if_pos (by rw [List.length_map]; exact hi), List.getElem?_map, e]
        rfl
      · rw [if_neg h]
    rw [this]
    exact ok.nd
theorem fit_none (n : Nat) (zs : List Int) : fitU (List.replicate n none) zs = true := by
  unfold fitU
  refine List.all_eq_true.mpr fun p hp => ?_
  have := (List.of_mem_zip (a := p.1) (b := p.2) hp).1
  rw [(List.mem_replicate.mp this).2]
  rfl
theorem Tb5.grd {T : Nat → Addr} {d : Addr} {H H' : Hp} (t : Tb5 T H) (dk : DeckAt d H) (g : GrD d H H') : Tb5 T H' := ⟨fun i h => by
  have z := t.t i h
  refine g.tab _ (fun e => ?_) z
  obtain ⟨ps, e1, _⟩ := z
  obtain ⟨a, b, e2, _⟩ := dk
  rw [e, e2] at e1
  cases e1⟩
/-! ### the same data -/
section
variable {K : PySem.W.Frag} {H : Hp}
theorem al_int (n : Nat) (i : Int) : Alike K H (n + 1) (.int i) (.int i) := .inl ⟨rfl, rfl⟩
theorem al_bl (n : Nat) (b : Bool) : Alike K H (n + 1) (.bl b) (.bl b) := .inl ⟨rfl, rfl⟩
theorem al_ints (n : Nat) : ∀ zs : List Int, Paired (Alike K H (n + 1)) (zs.map V.int) (zs.map V.int)
  | [] => .nil
  | z :: r => .cons (al_int n z) (al_ints n r)
theorem al_si (n : Nat) {x y : V} {zs : List Int} (hx : SiV K H x zs) (hy : SiV K H y zs) (hl : zs.length ≤ 1000) : Alike K H (n + 2) x y := by
  obtain ⟨a, rfl, ha⟩ := hx
  obtain ⟨b, rfl, hb⟩ := hy
  exact .inr ⟨a, b, _, _, rfl, rfl, szN (by rw [List.length_map]; omega), .inl ⟨ha, hb⟩, al_ints n zs⟩
theorem al_l2 {n : Nat} {p q : Addr} {x1 x2 y1 y2 : V} (hp : SqL K H p [x1, x2]) (hq : SqL K H q [y1, y2]) (h1 : Alike K H n x1 y1) (h2 : Alike K H n x2 y2) : Alike K H (n + 1) (.ref p) (.ref q) :=
  .inr ⟨p, q, _, _, rfl, rfl, szN (by show 2 ≤ 1000000; decide), .inr ⟨hp, hq⟩, .cons h1 (.cons h2 .nil)⟩
end
/-- what stands while the law looks at one point -/
structure RSt (K : PySem.W.Frag) (T : Nat → Addr) (d : Addr) (n : Nat) (qs : List (List Int × Int)) (us : List (Int × Int)) (x y : V) (r : Addr) (H0 H : Hp) : Prop where
  g : GrD d H0 H
  dk : DeckAt d H
  tb : Tb5 T H
  hx : BkV K H x n qs
  hy : PtV K H y us
  hr : SqT K H r ((rowU qs us).map V.int)
theorem RSt.grd {K : PySem.W.Frag} {T : Nat → Addr} {d : Addr} {n : Nat} {qs : List (List Int × Int)} {us : List (Int × Int)} {x y : V} {r : Addr} {H0 H H' : Hp} (s : RSt K T d n qs us x y r H0 H) (g : GrD d H H') (dk : DeckAt d H') : RSt K T d n qs us x y r H0 H' :=
  ⟨s.g.trans g, dk, s.tb.grd s.dk g, s.hx.st (g.st s.dk), s.hy.st (g.st s.dk), g.st s.dk _ _ s.hr⟩
theorem RSt.gr {K : PySem.W.Frag} {T : Nat → Addr} {d : Addr} {n : Nat} {qs : List (List Int × Int)} {us : List (Int × Int)} {x y : V} {r : Addr} {H0 H H' : Hp} (s : RSt K T d n qs us x y r H0 H) (g : Gr H H') : RSt K T d n qs us x y r H0 H' := s.grd (g.d d) (s.dk.gr g)
end SB
/-! t[::-1] of a tuple -/
namespace HT
open PySem PySem.Spec PyProof.Rows L2
section
variable {prog : Program} {w : World} {A : Around} {E : Value → Shared → Prop} {s : Shared}
theorem rev_places (n : Nat) : Builtin.Slice.slicePlaces ((n : Int) - 1) (-1) (-1) = n := by
  unfold Builtin.Slice.slicePlaces
  rw [if_neg (by decide)]
  by_cases h : (n : Int) - 1 > -1
  · rw [if_pos h]
    have e : ((n : Int) - 1 - -1 - 1) / (- -1) + 1 = (n : Int) := by
      rw [show (- -1 : Int) = 1 by decide, Int.ediv_one]
      omega
    rw [e, Int.toNat_natCast]
  · rw [if_neg h]
    have : n = 0 := by omega
    rw [this]
    rfl
theorem rev_applied {c : Addr} {m : Tok} {n : Nat} {Q : Int × Int × Nat → Shared → Prop} (so : s.heap.IsSliceOf c .none .none (.int (-1) m)) (q : Q ((n : Int) - 1, -1, n) s) :
    wpAny (model prog w) A (Builtin.Slice.sliceApplied (.ref c) (pure (n : Int))) Q E s := by
  obtain ⟨o, hget, hcls, hfl⟩ := so
  unfold Builtin.Slice.sliceApplied Builtin.Slice.sliceFields
  refine wpAny_bind (wpAny_bind ?_)
  refine wpAny_field hget hfl (x := Value.none) rfl (wpAny_bind ?_)
  refine wpAny_field hget hfl (x := Value.none) rfl (wpAny_bind ?_)
  refine wpAny_field hget hfl (x := Value.int (-1) m) rfl (wpAny_pure ?_)
  refine wpAny_bind (slicePart_int (i := -1) (u := m) ?_)
  show wpAny _ _ (if ((-1 : Int) == 0) = true then _ else _) _ _ s
  rw [if_neg (by decide)]
  refine wpAny_bind (slicePart_none (wpAny_bind (slicePart_none (wpAny_bind (wpAny_pure ?_)))))
  show wpAny _ _ (pure ((n : Int) - 1, (-1 : Int), Builtin.Slice.slicePlaces ((n : Int) - 1) (-1) (-1))) _ _ s
  rw [rev_places]
  exact wpAny_pure q
theorem fm_congr {α β : Type} {f g : α → Option β} : ∀ {l : List α}, (∀ x, x ∈ l → f x = g x) → l.filterMap f = l.filterMap g
  | [], _ => rfl
  | x :: r, h => by rw [List.filterMap_cons, List.filterMap_cons, h x List.mem_cons_self, fm_congr (l := r) fun y hy => h y (List.mem_cons_of_mem _ hy)]
theorem rev_pick (xs : Array Value) : ((List.range xs.size).filterMap fun (k : Nat) => xs[(((xs.size : Nat) : Int) - 1 + (k : Int) * -1).toNat]?).toArray = xs.toList.reverse.toArray := by
  have h := PySem.W.krv_pick xs
  unfold slicePick at h
  rw [PySem.W.krv_bounds] at h
  have h : ((sliceRange ((xs.size : Int) - 1) (-1) (-1)).filterMap (xs[·]?)).toArray = xs.toList.reverse.toArray := h
  rw [PySem.W.krv_sliceRange, List.filterMap_map] at h
  rw [← h]
  congr 1
  refine fm_congr fun k hk => ?_
  have hk := List.mem_range.mp hk
  have e : (((xs.size : Nat) : Int) - 1 + (k : Int) * -1).toNat = xs.size - 1 - k := by omega
  show _ = xs[xs.size - 1 - k]?
  rw [e]
theorem rev_getItem {t c : Addr} {xs : Array Value} {m : Tok} {Q : Value → Shared → Prop} (it : IsTup s.heap t xs) (so : s.heap.IsSliceOf c .none .none (.int (-1) m)) (small : xs.size ≤ sizeLine)
    (q : Q (.ref s.heap.objs.size) { s with heap := s.heap.push { cls := .type "tuple", data := .seq xs.toList.reverse.toArray } }) : wpAny (model prog w) A (getItem (.ref t) (.ref c)) Q E s := by
  obtain ⟨o, hget, hcls, hfl⟩ := id so
  unfold getItem
  try with_reducible refine wpAny_holding ?_
  first | refine wpAny_bind (wpAny_pure ?_) | skip
  refine wpAny_bind (wpAny_sequenceKey it.typeIs (by decide) (wpAny_bind (wpAny_callSpecial?_slot (name := Str.ofString "__getitem__") it.typeIs slot_tuple_getitem
    (wpAny_call_entry slot_tuple_getitem it.typeIs entry_tuple_getitem ?_ (args_tuple_getitem _ _)))))
  show wpAny _ _ (Builtin.Tuple.tupleItemsOf (.ref t) >>= _) _ _ s
  refine wpAny_bind (tupleItemsOf_ it (wpAny_bind (wpAny_typeOf (T := "slice") ⟨o, hget, hcls⟩ ?_)))
  rw [if_pos (by decide)]
  refine wpAny_bind (rev_applied so ?_)
  have no : ¬ (((((xs.size : Nat) : Int) - 1) == 0 && (-1 : Int) == 1 && xs.size == xs.size) = true) := by
    intro z
    rw [Bool.and_eq_true, Bool.and_eq_true] at z
    exact absurd z.1.2 (by decide)
  show wpAny _ _ (if ((((xs.size : Nat) : Int) - 1) == 0 && (-1 : Int) == 1 && xs.size == xs.size) = true then _ else _) _ _ s
  rw [if_neg no, rev_pick]
  have sz : sizeOk (.seq xs.toList.reverse.toArray) := by
    show xs.toList.reverse.toArray.size ≤ sizeLine
    rw [List.size_toArray, List.length_reverse, Array.length_toList]
    exact small
  first
    | exact wpAny_bind (m := Builtin.Tuple.tupleExact _) (wpAny_newObj_type (wpAny_pure ⟨_, rfl, wpAny_pure q⟩) sz)
    | exact wpAny_bind (wpAny_bind (m := Builtin.Tuple.tupleExact _) (wpAny_newObj_type (wpAny_pure (wpAny_pure ⟨_, rfl, wpAny_pure q⟩)) sz))
end
end HT
namespace L2
open PySem PySem.Spec PyProof.Rows
section
variable {X : Cx}
def tRevT (K : PySem.W.Frag) (te : TE) : TE := fun σ H Q => te σ H fun x H1 => ∃ a xs, x = .ref a ∧ SqT K H1 a xs ∧ ∀ p, H1 p = none → Q (.ref p) (upd H1 p (.tup xs.reverse))
theorem pe_revT {e : Expr} {te : TE} {k : Nat} {p1 p2 p3 pos : Pos} (he : PE X e te) : PE X (.Subscript e (.Slice none none (some (.UnaryOp .USub (.Constant (.int 1) k p1) p2)) p3) pos) (tRevT X.K te) := by
  refine ⟨fun pins s0 σ H0 Q I0 z => Subscript_ (thn (he.run pins s0 σ H0 _ I0 z) fun v s1 y => ?_)⟩
  obtain ⟨x, H1, I1, rv, a, xs, rfl, sq, q⟩ := y
  cases rv
  have neg1 : PO X (some (.UnaryOp .USub (.Constant (.int 1) k p1) p2)) (tPart (tUn (rU fun i => .int (-i)) (tC (.int 1)))) := po_some (pe_un un_neg pe_int)
  refine wpAny_Slice (thn (po_none.run pins s1 σ H1 (fun o J => o = none ∧ J = H1) I1 ⟨rfl, rfl⟩) fun v1 s2 ⟨o1, J1, K1, b1, c1, d1⟩ => ?_)
  subst c1 d1
  refine thn (po_none.run pins s2 σ J1 (fun o J => o = none ∧ J = J1) K1 ⟨rfl, rfl⟩) fun v2 s3 ⟨o2, J2, K2, b2, c2, d2⟩ => ?_
  subst c2 d2
  refine thn (neg1.run pins s3 σ J2 (fun o J => o = some (-1) ∧ J = J2) K2 ⟨1, rfl, -1, rfl, rfl, rfl⟩) fun v3 s4 ⟨o3, J3, K3, b3, c3, d3⟩ => ?_
  subst c3 d3
  cases b1
  cases b2
  cases b3 with
  | int i m =>
    have K4 : Inv X pins σ J3 { s4 with heap := s4.heap.push { cls := .type "slice", data := .fields #[.none, .none, .int (-1) m] } } := K3.kept (t' := s4.toks) fun b ob q => Heap.get?_push_of_some _ q
    obtain ⟨its, r, it, few⟩ := K4.tuple sq
    have len := r.length
    show wpAny (model X.prog X.w) X.A (subscriptTail e (.Slice none none (some (.UnaryOp .USub (.Constant (.int 1) k p1) p2)) p3) (.ref a) (.ref s4.heap.objs.size)) (EP X pins σ Q) X.xe { s4 with heap := s4.heap.push { cls := .type "slice", data := .fields #[.none, .none, .int (-1) m] } }
    refine tail_any (ops := [.ref a, .ref s4.heap.objs.size]) it.typeIs (PyProof.Rows.slot_tuple_getitem.lookup) (HT.rev_getItem it (Heap.IsSliceOf.new _ _ _ _) (by rw [List.size_toArray]; omega) ?_) (by with_unfolding_all rfl)
    refine ⟨.ref _, _, K4.laid (t' := s4.toks) (o := .tup xs.reverse) (fun b ob q => Heap.get?_push_of_some _ q) (Nat.le_refl _) ?_, rfl, q _ (K4.hok.fresh (Nat.le_refl _))⟩
    exact ⟨by rw [List.length_reverse]; exact few, _, r.reverse, IsTup.new _ _⟩
end
end L2
namespace GA
open PySem PySem.Spec PyProof.Rows L2 GenW GxR
/-- the plan of a walk: W by the turn and a measure; QT behind its end, QF behind the first item that is true -/
def PlanN (J : It) (g : TG) (tt : TT) (te : TE) (σ0 : L2.St) (vs : List Nat) (QT QF : Hp → Prop) (W : Nat → Nat → Hp → Prop) : Prop :=
  ∀ i m H, W i m H → (J.stop i H ∧ QT H) ∨ (J.go i H ∧ ∃ Nx : Hp → Prop, (∀ H', Nx H' → ∃ m', m' < m ∧ W (i + 1) m' H') ∧ ∀ x H', J.yld i H x H' → g x σ0 H' fun σ2 H2 => wipe σ2 vs = σ0 ∧ tt σ2 H2 fun b H3 =>
    if b = true then te σ2 H3 fun y H4 => ∃ b, y = .bl b ∧ (if b = true then QF H4 else Nx H4) else Nx H3)
def GYn (X : Cx) (pins : List (Addr × Obj)) (QF : Hp → Prop) : Protocol := fun n s₀ v s kap =>
  ∃ b σ' H', v = .bool b ∧ L2.Inv X pins σ' H' s ∧ (b = true → QF H') ∧ (b = false → ∀ s'' : Shared, s''.heap = s.heap → s''.os = s.os → AllBare s''.gens → kap (.send .none) s'')
section
variable {X : Cx} {s0 : Shared} {H0 : Hp} {cenv : Env} {fp : List Addr} {elt tg iter : Expr} {ifs : List Expr} {scope : Scope} {pos : Pos} {it a : Addr} {go : Obj} {tn : Nat → Heap → Prop} {J : It} {g : TG} {tt : TT} {te : TE} {σ0 : L2.St} {vs : List Nat} {QT QF : Hp → Prop} {W : Nat → Nat → Hp → Prop}
theorem genN_loop (hd : X.A.handled = none) (hco : cenv.scope.isCoroutine = false) (T : Turn X.prog X.w X.K tg J fp it tn) (ha : a ∉ fp) (pg : PG (cxG X s0 H0 cenv fp) tg g) (pt : PTs (cxG X s0 H0 cenv fp) ifs tt) (pe : PE (cxG X s0 H0 cenv fp) elt te)
    (hW : PlanN J g tt te σ0 vs QT QF W) : ∀ (m n i : Nat) (H : Hp) (s₀ s : Shared), m < n → W i m H → L2.Inv (cxG X s0 H0 cenv fp) [(a, go)] σ0 H s → tn i s.heap → (∀ b ∈ fp, H b = none) →
      Seg (model X.prog X.w) X.A.in1.in1 (fun n s₀ r s₁ => r = .ok .next ∧ GPn (cxG X s0 H0 cenv fp) [(a, go)] σ0 QT n s₀ s₁) (GYn (cxG X s0 H0 cenv fp) [(a, go)] QF) n s₀
        (.compLoop (.GeneratorExp elt [⟨tg, iter, ifs, 0⟩] scope pos) 0 (.ref it) .none cenv) ((model X.prog X.w).den (.compLoop (.GeneratorExp elt [⟨tg, iter, ifs, 0⟩] scope pos) 0 (.ref it) .none cenv)) [] s := by
  intro m
  induction m using Nat.strongRecOn with
  | ind m ih =>
    intro n i H s₀ s hmn w I st nf
    have eA : X.A.in1.in1.over (.compLoop (.GeneratorExp elt [⟨tg, iter, ifs, 0⟩] scope pos) 0 (.ref it) .none cenv) [] = (cxG X s0 H0 cenv fp).A := over_gen
    have stat : ∀ {σ' : L2.St} {H' : Hp} {s' : Shared}, L2.Inv (cxG X s0 H0 cenv fp) [(a, go)] σ' H' s' → (∀ b ∈ fp, H' b = none) → ∀ b ∈ fp, FpOk (cxG X s0 H0 cenv fp) [(a, go)] H' b := fun {σ' H' s'} I' hn b hb =>
      ⟨hn b hb, (I'.ok.exf b hb).1, I'.ok.exfs b hb, .inl hb, fun x c e => (I'.ok.exf b hb).2 x c e, fun p hp e => by
        have hp : p ∈ [(a, go)] := hp
        rw [List.mem_singleton.mp hp] at e
        exact ha (by rw [show a = b from e]; exact hb)⟩
    show Seg _ _ _ _ _ s₀ _ ((compTurn (.GeneratorExp elt [⟨tg, iter, ifs, 0⟩] scope pos) 0 (.ref it) .none cenv).onRaise (leaving cenv)) [] s
    rw [compTurn_gen, Sem.onRaise_eq_wrap]
    refine seg_bind_wrap (wpAny_standAt ?_)
    rcases hW i m H w with ⟨stop, qq⟩ | ⟨go', Nx, hNx, step⟩
    · refine seg_bind_wrap ?_
      rw [eA]
      refine thnF (T.done (cxG X s0 H0 cenv fp) rfl rfl rfl rfl i [(a, go)] s _ H (fun _ _ => False) I (stat I nf) st stop) fun r s6 ⟨hr, I6⟩ => ?_
      subst hr
      exact seg_end (.ok .next) ⟨rfl, H, I6, qq⟩
    · refine seg_bind_wrap ?_
      rw [eA]
      refine thnF (T.item (cxG X s0 H0 cenv fp) rfl rfl rfl rfl i [(a, go)] s _ H (fun _ _ => False) I (stat I nf) st go') fun r s6 ⟨u, hr, h6⟩ => ?_
      subst hr
      show Seg _ _ _ _ _ s₀ _ (Sem.wrap _ _ _ _ (letOwnedTupleGo tg (.ref it) u >>= _)) [] s6
      refine seg_bind_wrap ?_
      rw [eA]
      refine thnF h6 fun _ s7 ⟨x, H7, I7, r7, y7, st7, n7⟩ => ?_
      have I7' := I7.pinned (stat I7 n7) (T.obj _ _ st7)
      refine seg_bind_wrap ?_
      rw [eA]
      refine thnF (pg.run _ s7 _ H7 x u _ I7' r7 (step x H7 y7)) fun _ s8 ⟨σ8, H8, I8, hw8, q8⟩ => ?_
      refine seg_bind_wrap ?_
      rw [eA]
      refine thnF (pt.run _ s8 σ8 H8 _ I8 q8) fun b s9 ⟨H9, I9, q9⟩ => ?_
      -- the turn's end
      have fin : ∀ {s' : Shared} {H' : Hp}, L2.Inv (cxG X s0 H0 cenv fp) ([(a, go)] ++ pinsAt fp s7.heap) σ8 H' s' → L2.Inv (cxG X s0 H0 cenv fp) [(a, go)] σ0 H' s' ∧ tn (i + 1) s'.heap ∧ (∀ b ∈ fp, H' b = none) := fun {s' H'} I' => by
        have pin' : ∀ b ∈ fp, ∀ o, s7.heap.get? b = some o → s'.heap.get? b = some o ∧ H' b = none := fun b hb o e =>
          let z := I'.pin (b, o) (List.mem_append_right _ (List.mem_append_right _ (mem_pinsAt hb e)))
          ⟨z.1, z.2.1⟩
        have hl : σ0.length = σ8.length := by rw [← hw8, wipe_length]
        refine ⟨(I'.unpinned (pins := [(a, go)])).weak hl (fun j v e => ?_), T.keep _ _ _ st7 fun b hb o e => (pin' b hb o e).1, fun b hb => ?_⟩
        · rw [← hw8] at e
          exact (wipe_some e).1
        · obtain ⟨o, e, _⟩ := T.obj _ _ st7 b hb
          exact (pin' b hb o e).2
      cases b with
      | false =>
        simp only [Bool.false_eq_true, if_false] at q9 ⊢
        obtain ⟨m', hm, w'⟩ := hNx H9 q9
        obtain ⟨f1, f2, f3⟩ := fin I9
        exact seg_again rfl (ih m' hm n (i + 1) H9 s₀ s9 (by omega) w' f1 f2 f3)
      | true =>
        simp only [if_true] at q9 ⊢
        have hy : ∀ v, yieldOut cenv v = yieldValue v := fun v => by simp only [yieldOut, hco, Bool.false_eq_true, if_false]
        simp only [hy]
        rw [Sem.bind_eq_wrap', Sem.bind_eq_wrap', Sem.wrap_wrap, Sem.wrap_wrap]
        refine seg_wrap ?_
        rw [eA]
        refine thnF (pe.run _ s9 σ8 H9 _ I9 q9) fun z s10 ⟨yv, H10, I10, r10, bb, ey, q10⟩ => ?_
        subst ey
        have ez : z = Value.bool bb := r10
        subst ez
        obtain ⟨f1, f2, f3⟩ := fin I10
        obtain ⟨n', rfl⟩ : ∃ n', n = n' + 1 := ⟨n - 1, by omega⟩
        refine seg_at (seg_yield rfl rfl rfl ⟨bb, σ0, H10, rfl, f1, fun hb => ?_, fun hb s'' e1 e2 e3 => ?_⟩)
        · rw [hb, if_pos rfl] at q10
          exact q10
        · rw [hb, if_neg Bool.false_ne_true] at q10
          obtain ⟨m', hm, w'⟩ := hNx H10 q10
          exact seg_again rfl (ih m' hm n' (i + 1) H10 s'' s'' (by omega) w' (inv_same f1 e1 e2 e3) (T.keep _ _ _ f2 fun b hb o e => by rw [e1]; exact e) f3)

theorem genN_first (hd : X.A.handled = none) (hco : cenv.scope.isCoroutine = false) (T : Turn X.prog X.w X.K tg J fp it tn) (ha : a ∉ fp) (pg : PG (cxG X s0 H0 cenv fp) tg g) (pt : PTs (cxG X s0 H0 cenv fp) ifs tt) (pe : PE (cxG X s0 H0 cenv fp) elt te)
    (hW : PlanN J g tt te σ0 vs QT QF W) (m n : Nat) (H : Hp) (s₀ s : Shared) (hmn : m < n) (w : W 0 m H) (I : L2.Inv (cxG X s0 H0 cenv fp) [(a, go)] σ0 H s) (st : tn 0 s.heap) (nf : ∀ b ∈ fp, H b = none) :
      Seg (model X.prog X.w) X.A.in1.in1 (fun n s₀ r s₁ => r = .ok .next ∧ GPn (cxG X s0 H0 cenv fp) [(a, go)] σ0 QT n s₀ s₁) (GYn (cxG X s0 H0 cenv fp) [(a, go)] QF) n s₀
        (.compStart (.GeneratorExp elt [⟨tg, iter, ifs, 0⟩] scope pos) 0 (.ref it) .none cenv) ((model X.prog X.w).den (.compStart (.GeneratorExp elt [⟨tg, iter, ifs, 0⟩] scope pos) 0 (.ref it) .none cenv)) [] s := by
  have loop := genN_loop (elt := elt) (iter := iter) (ifs := ifs) (scope := scope) (pos := pos) (go := go) hd hco T ha pg pt pe hW m n 0 H s₀ s hmn w I st nf
  show Seg _ _ _ _ _ s₀ _ ((compStart (.GeneratorExp elt [⟨tg, iter, ifs, 0⟩] scope pos) 0 (.ref it) .none cenv).onRaise (leaving cenv)) [] s
  unfold compStart
  rw [Sem.onRaise_eq_wrap]
  show Seg _ _ _ _ _ s₀ _ ((ask >>= _).wrap _ _ _ _) [] s
  refine seg_bind_wrap (wpAny_askSetting ?_)
  split
  · exact seg_again rfl loop
  · first
      | exact seg_bind_wrap (wpAny_rule (seg_bind_wrap (wpAny_standAt (seg_bind_wrap (T.self _ 0 s _ _ st (seg_again rfl loop))))))
      | (refine seg_bind_wrap (wpAny_rule ?_); show Seg _ _ _ _ _ s₀ _ ((standAt iter.pos >>= _).wrap _ _ _ _) [] s; exact seg_bind_wrap (wpAny_standAt (seg_bind_wrap (T.self _ 0 s _ _ st (seg_again rfl loop)))))
end
section
variable {X : Cx} {pins : List (Addr × Obj)} {σ : L2.St} {H4 : Hp} {s4 : Shared} {cenv : Env} {fp : List Addr} {a : Addr} {go : Obj} {g : Nat} {σ0 : L2.St} {QT QF : Hp → Prop} {RR : Result → Shared → Prop}
theorem any_loop (hd : X.A.handled = none) (hdp : X.A.depth < recursionLimit) (hgo : GoAt go g) (I4 : L2.Inv X pins σ H4 s4) (f4 : ∀ b ∈ fp, FpOk X pins H4 b)
    (hT : ∀ s' H', L2.Inv X pins σ H' s' → QT H' → RR (.ok (.ret (.bool false))) s') (hF : ∀ s' H', L2.Inv X pins σ H' s' → QF H' → RR (.ok (.ret (.bool true))) s') :
    ∀ (n : Nat) (gs : GenState) (s : Shared) (σ' : L2.St) (H' : Hp), L2.Inv (cxG X s4 H4 cenv fp) [(a, go)] σ' H' s → s.gens[g]? = some gs →
      (∀ s'' : Shared, s''.heap = s.heap → s''.os = s.os → AllBare s''.gens → gs.Goes (model X.prog X.w) X.A.in1.in1 (fun n s₀ r s₁ => r = .ok .next ∧ GPn (cxG X s4 H4 cenv fp) [(a, go)] σ0 QT n s₀ s₁) (GYn (cxG X s4 H4 cenv fp) [(a, go)] QF) n (.send .none) s'') →
      codeAny (model X.prog X.w) X.A (.builtin "any.loop" ⟨[.ref a], []⟩) RR s := by
  have back : ∀ {σ' : L2.St} {H' : Hp} {s1 s' : Shared}, L2.Inv (cxG X s4 H4 cenv fp) [(a, go)] σ' H' s1 → s'.heap = s1.heap → s'.os = s1.os → AllBare s'.gens → L2.Inv X pins σ H' s' := fun {σ' H' s1 s'} I6 e1 e2 e3 => by
    refine I4.call' (ch := fp) (e2.trans I6.os) (by rw [e1]; exact I6.base) (by rw [e1]; exact I6.hok) e3 fun b hb => ⟨(f4 b hb).2.2.2.1, (f4 b hb).2.1, (f4 b hb).2.2.2.2.1, (f4 b hb).2.2.2.2.2⟩
  intro n
  induction n with
  | zero =>
    intro gs s σ' H' I hg hgs
    obtain ⟨gc, ⟨nm, qn, gd⟩, gsl⟩ := hgo
    have isg : s.heap.IsGen a g := ⟨go, nm, qn, (I.pin (a, go) (List.mem_append_right _ (List.mem_singleton.mpr rfl))).1, gc, gd, gsl⟩
    refine codeAny_builtin F.entry_any_loop ?_
    rw [Around.under_plainId F.plain_any_loop _]
    show wpAny _ X.A.in1 (pyNext (.ref a) >>= _) _ _ s
    refine wpAny_bind (wpAny_gsz (Nat.le_refl s.gens.size) ?_)
    refine wpAny_pyNext_genexpQ (A := X.A.in1) (n := 0) (P := GPn (cxG X s4 H4 cenv fp) [(a, go)] σ0 QT) (Y := GYn (cxG X s4 H4 cenv fp) [(a, go)] QF) hd I.nolimit hdp isg hg
      (hgs (s.setGen g .running) rfl rfl (bare_set I.bare hg rfl)) (fun v s₁ gs' hb hv => ?_) (fun s₁ hp h' hk => ?_)
    · intro hsz
      obtain ⟨b, σ2, H2, ev, I2, q1, q2⟩ := hv
      subst ev
      have hlt : g < s.gens.size := by
        rcases Nat.lt_or_ge g s.gens.size with h | h
        · exact h
        · rw [Array.getElem?_eq_none h] at hg; cases hg
      have hsz2 : g < s₁.gens.size := by
        have e := setGen_size s₁ g gs'
        have hsz : s.gens.size ≤ (s₁.setGen g gs').gens.size := hsz
        omega
      have hg1 := Array.getElem?_eq_getElem hsz2
      refine wpAny_bind (wpAny_holding (wpAny_truthy_bool ?_))
      refine wpAny_bind (wpAny_letGo ?_)
      cases b with
      | false => exact False.elim (q2 rfl (s₁.setGen g gs') rfl rfl (bare_set I2.bare hg1 hb))
      | true =>
        simp only [if_true]
        refine wpAny_bind (wpAny_rule (wpAny_pure ?_))
        exact hF _ H2 (back I2 rfl rfl (bare_set I2.bare hg1 hb)) (q1 rfl)
    · intro hsz
      obtain ⟨H2, I2, q⟩ := hp
      have hlt : g < s.gens.size := by
        rcases Nat.lt_or_ge g s.gens.size with h | h
        · exact h
        · rw [Array.getElem?_eq_none h] at hg; cases hg
      have hsz2 : g < s₁.gens.size := by
        have e := setGen_size s₁ g .finished
        have hsz : s.gens.size ≤ (s₁.setGen g .finished).gens.size := hsz
        omega
      have hg1 := Array.getElem?_eq_getElem hsz2
      refine wpAny_bind (wpAny_rule (wpAny_pure ?_))
      exact hT _ H2 ((back (s' := s₁.setGen g .finished) I2 rfl rfl (bare_set I2.bare hg1 rfl)).kept (t' := s₁.toks) hk) q
  | succ n ih =>
    intro gs s σ' H' I hg hgs
    obtain ⟨gc, ⟨nm, qn, gd⟩, gsl⟩ := hgo
    have isg : s.heap.IsGen a g := ⟨go, nm, qn, (I.pin (a, go) (List.mem_append_right _ (List.mem_singleton.mpr rfl))).1, gc, gd, gsl⟩
    refine codeAny_builtin F.entry_any_loop ?_
    rw [Around.under_plainId F.plain_any_loop _]
    show wpAny _ X.A.in1 (pyNext (.ref a) >>= _) _ _ s
    refine wpAny_bind (wpAny_gsz (Nat.le_refl s.gens.size) ?_)
    refine wpAny_pyNext_genexpQ (A := X.A.in1) (n := n + 1) (P := GPn (cxG X s4 H4 cenv fp) [(a, go)] σ0 QT) (Y := GYn (cxG X s4 H4 cenv fp) [(a, go)] QF) hd I.nolimit hdp isg hg
      (hgs (s.setGen g .running) rfl rfl (bare_set I.bare hg rfl)) (fun v s₁ gs' hb hv => ?_) (fun s₁ hp h' hk => ?_)
    · intro hsz
      obtain ⟨b, σ2, H2, ev, I2, q1, q2⟩ := hv
      subst ev
      have hlt : g < s.gens.size := by
        rcases Nat.lt_or_ge g s.gens.size with h | h
        · exact h
        · rw [Array.getElem?_eq_none h] at hg; cases hg
      have hsz2 : g < s₁.gens.size := by
        have e := setGen_size s₁ g gs'
        have hsz : s.gens.size ≤ (s₁.setGen g gs').gens.size := hsz
        omega
      have hg1 := Array.getElem?_eq_getElem hsz2
      refine wpAny_bind (wpAny_holding (wpAny_truthy_bool ?_))
      refine wpAny_bind (wpAny_letGo ?_)
      cases b with
      | false =>
        simp only [Bool.false_eq_true, if_false]
        refine wpAny_pure ⟨plainId_quiet F.plain_any_loop _, ih gs' (s₁.setGen g gs') σ2 H2 (inv_same I2 rfl rfl (bare_set I2.bare hg1 hb)) (setGen_self hg1) fun s'' e1 e2 e3 => q2 rfl s'' e1 e2 e3⟩
      | true =>
        simp only [if_true]
        refine wpAny_bind (wpAny_rule (wpAny_pure ?_))
        exact hF _ H2 (back I2 rfl rfl (bare_set I2.bare hg1 hb)) (q1 rfl)
    · intro hsz
      obtain ⟨H2, I2, q⟩ := hp
      have hlt : g < s.gens.size := by
        rcases Nat.lt_or_ge g s.gens.size with h | h
        · exact h
        · rw [Array.getElem?_eq_none h] at hg; cases hg
      have hsz2 : g < s₁.gens.size := by
        have e := setGen_size s₁ g .finished
        have hsz : s.gens.size ≤ (s₁.setGen g .finished).gens.size := hsz
        omega
      have hg1 := Array.getElem?_eq_getElem hsz2
      refine wpAny_bind (wpAny_rule (wpAny_pure ?_))
      exact hT _ H2 ((back (s' := s₁.setGen g .finished) I2 rfl rfl (bare_set I2.bare hg1 rfl)).kept (t' := s₁.toks) hk) q
end

section
variable {X : Cx} {pins : List (Addr × Obj)} {σ : L2.St} {H : Hp} {s : Shared}
/-- any(elt for tg in iter), elt a truth -/
def tAnyG (P : Addr) (wi : TI) (g : TG) (te : TE) (vs : List Nat) : TE := fun σ H Q => wi σ H fun J H1 => TabG H1 P ∧ ∀ H2, Tabbed P H1 H2 →
  ∃ W : Nat → Nat → Hp → Prop, (∃ m, W 0 m H2) ∧ PlanN J g tYes te (wipe σ vs) vs (fun H' => Q (.bl false) H') (fun H' => Q (.bl true) H') W
theorem pe_anyG {c P : Addr} {elt tg iter : Expr} {p pos gpos : Pos} {scope : Scope} {own : List (Str × Nat)} {wi : TI} {g : TG} {te : TE} {k : Nat}
    (hr : Room k X.A) (hg : Gl X "any") (hm : X.mg "any" = none) (hb : bootBuiltins "any" = some (.builtin "any")) (TB : TabB X.base X.mg c P) (hcode : X.env.code = .ref c) (hN : X.N.Nodup) (ok : GenOk X.N X.env.scope scope own) (hi : PI X tg iter wi)
    (hgt : ∀ (s : Shared) (H : Hp) (C : Addr) (code : Value) (fp : List Addr), PG (cxG X s H (envG X scope C code) fp) tg g) (he : ∀ (s : Shared) (H : Hp) (C : Addr) (code : Value) (fp : List Addr), PE (cxG X s H (envG X scope C code) fp) elt te)
    (hs : ∀ v, genFold iter X.env v = pure v := by intro _; rfl)
    (hst : starEach [.GeneratorExp elt [⟨tg, iter, [], 0⟩] scope gpos] X.env = (false, eval (.GeneratorExp elt [⟨tg, iter, [], 0⟩] scope gpos) X.env) :: starEach [] X.env := by rfl) :
    PE X (.Call (.Name "any" p) [.GeneratorExp elt [⟨tg, iter, [], 0⟩] scope gpos] [] pos) (tAnyG P wi g te (own.map (·.2))) := by
  refine ⟨fun pins s σ H Q I h => ?_⟩
  refine wpAny_Call_Name_kw (ld_blt I hg hm hb ?_)
  refine PyProof.Rows.callWith_builtin1 ?_ hst (by rfl)
  rw [hst]
  show wpAny _ _ (spliced ((false, eval (.GeneratorExp elt [⟨tg, iter, [], 0⟩] scope gpos) X.env) :: backTo pos (starEach [] X.env))) _ _ s
  refine Calls.spliced_cons (gen_made (R := fun J H1 => ∀ H2, Tabbed P H1 H2 → ∃ W : Nat → Nat → Hp → Prop, (∃ m, W 0 m H2) ∧ PlanN J g tYes te (wipe σ (List.map (fun q : Str × Nat => q.2) own)) (List.map (fun q : Str × Nat => q.2) own) (fun H' => Q (.bl false) H') (fun H' => Q (.bl true) H') W)
    hr TB hcode hN ok hi hs I h fun J H1 H2 s4 it fp tn code g' a go s5 hR hT I4 T f4 ha hgo I5 st5 hg5 => ?_)
  refine Calls.spliced_nil ?_
  obtain ⟨W, ⟨m, w0⟩, pl⟩ := hR H2 hT
  have cn : (envG X scope s4.heap.objs.size code).scope.isCoroutine = false := ok.co
  have nf5 : ∀ b ∈ fp, H2 b = none := fun b hb => (f4 b hb).1
  refine call_function_tree F.kind_any F.plain_any F.entry_any (F.args_any1 _) ?_
  unfold Builtin.«any»
  refine wpAny_bind (m := oneArg "any" _) (wpAny_pure ?_)
  have isg : s5.heap.IsGen a g' := by
    obtain ⟨gc, ⟨nm, qn, gd⟩, gsl⟩ := hgo
    exact ⟨go, nm, qn, (I5.pin (a, go) (List.mem_append_right _ (List.mem_singleton.mpr rfl))).1, gc, gd, gsl⟩
  refine wpAny_bind (wpAny_pyIter_gen isg ?_)
  refine wpAny_pure ⟨plainId_quiet F.plain_any_loop _, ?_⟩
  refine any_loop (σ0 := wipe σ (List.map (fun q : Str × Nat => q.2) own)) (QT := fun H' => Q (.bl false) H') (QF := fun H' => Q (.bl true) H') hr.hd (by have := hr.dp; omega) hgo I4 f4 (fun s' H' I' q => ⟨.bl false, H', I', rfl, q⟩) (fun s' H' I' q => ⟨.bl true, H', I', rfl, q⟩)
    (m + 1) _ s5 _ H2 I5 hg5 fun s'' e1 e2 e3 => ⟨rfl, ?_⟩
  exact genN_first (X := X) (go := go) hr.hd cn T ha (hgt _ _ _ _ _) pts_nil (he _ _ _ _ _) pl m (m + 1) H2 s'' s'' (Nat.lt_succ_self _) w0 (inv_same I5 e1 e2 e3) (by rw [e1]; exact st5) nf5
end
end GA
namespace SB
open PySem L2 GxR GA RZ
/-! ### the program's judgements of any data -/
mutual
theorem dp_gr {K : PySem.W.Frag} {H H' : Hp} (g : Gr H H') : ∀ {v : V} {d : PyData}, Dp K H v d → Dp K H' v d
  | _, _, .non => .non
  | _, _, .bl b => .bl b
  | _, _, .int i => .int i
  | _, _, .str x => .str x
  | _, _, .lst h p => .lst (g.seqL h) (dpa_gr g p)
  | _, _, .tup h p => .tup (g.seqT h) (dpa_gr g p)
theorem dpa_gr {K : PySem.W.Frag} {H H' : Hp} (g : Gr H H') : ∀ {vs : List V} {ds : List PyData}, DpAll K H vs ds → DpAll K H' vs ds
  | _, _, .nil => .nil
  | _, _, .cons h t => .cons (dp_gr g h) (dpa_gr g t)
end
theorem dpa_len {K : PySem.W.Frag} {H : Hp} : ∀ {vs : List V} {ds : List PyData}, DpAll K H vs ds → vs.length = ds.length
  | _, _, .nil => rfl
  | _, _, .cons _ t => congrArg (· + 1) (dpa_len t)
theorem dpa_get {K : PySem.W.Frag} {H : Hp} : ∀ {vs : List V} {ds : List PyData} {i : Nat} {v : V}, DpAll K H vs ds → vs[i]? = some v → ∃ d, ds[i]? = some d ∧ Dp K H v d
  | _, _, _, _, .nil, h => by simp at h
  | _, _, 0, _, .cons h _, e => by
    have e := Option.some.inj e
    subst e
    exact ⟨_, rfl, h⟩
  | _, _, i + 1, _, .cons _ t, e => dpa_get (i := i) t e
def isIntD : PyData → Bool
  | .int _ => true
  | _ => false
def isTupD : PyData → Bool
  | .tuple _ => true
  | _ => false
theorem dp_kn {K : PySem.W.Frag} {H : Hp} {v : V} {d : PyData} (h : Dp K H v d) : ∃ t, Kn K H v t ∧ isInt v = isIntD d ∧ kitB t "tuple" = some (isTupD d) := by
  cases h with
  | non => exact ⟨_, .non, rfl, by show kitB _ "tuple" = some false; decide +kernel⟩
  | bl b => exact ⟨_, .bl b, rfl, by show kitB _ "tuple" = some false; decide +kernel⟩
  | int i => exact ⟨_, .int i, rfl, by show kitB _ "tuple" = some false; decide +kernel⟩
  | str x => exact ⟨_, .str x, rfl, by show kitB _ "tuple" = some false; decide +kernel⟩
  | lst h _ => exact ⟨_, .lst h, rfl, by show kitB _ "tuple" = some false; decide +kernel⟩
  | tup h _ => exact ⟨_, .tup h, rfl, by show kitB _ "tuple" = some true; decide +kernel⟩
theorem dp_ofInt {K : PySem.W.Frag} {H : Hp} {v : V} {d : PyData} (h : Dp K H v d) (i : isIntD d = true) : ∃ z : Int, v = .int z ∧ d = .int z := by
  cases h with
  | int z => exact ⟨z, rfl, rfl⟩
  | non => cases i
  | bl b => cases i
  | str x => cases i
  | lst h _ => cases i
  | tup h _ => cases i
theorem dp_ofTup {K : PySem.W.Frag} {H : Hp} {v : V} {d : PyData} (h : Dp K H v d) (i : isTupD d = true) : ∃ a xs ds, v = .ref a ∧ d = .tuple ds ∧ SqT K H a xs ∧ DpAll K H xs ds := by
  cases h with
  | tup h p => exact ⟨_, _, _, rfl, rfl, h, p⟩
  | non => cases i
  | bl b => cases i
  | str x => cases i
  | int h => cases i
  | lst h _ => cases i
def intD : PyData → Int
  | .int z => z
  | _ => 0
theorem dpa_ints {K : PySem.W.Frag} {H : Hp} : ∀ {vs : List V} {ds : List PyData}, DpAll K H vs ds → (∀ (i : Nat) (d : PyData), ds[i]? = some d → isIntD d = true) → vs = (ds.map intD).map V.int ∧ ds = (ds.map intD).map PyData.int
  | _, _, .nil, _ => ⟨rfl, rfl⟩
  | _, _, .cons h t, f => by
    obtain ⟨z, rfl, rfl⟩ := dp_ofInt h (f 0 _ rfl)
    obtain ⟨e1, e2⟩ := dpa_ints t fun i d e => f (i + 1) d e
    exact ⟨by rw [List.map_cons, List.map_cons, ← e1]; rfl, by rw [List.map_cons, List.map_cons, ← e2]; rfl⟩
def sidesD : PyData → Bool
  | .tuple ds => ds.all isIntD && (ds.map intD).any fun z => decide (z ≠ 0)
  | _ => false
def questD : PyData → Bool
  | .tuple [s, w] => sidesD s && isIntD w
  | _ => false
def lenD : PyData → Int
  | .tuple (.tuple ss :: _) => ss.length
  | _ => 0
def manyD : PyData → Bool
  | .int i => decide (1 ≤ i)
  | _ => false
section
variable {P : Program} {w : World} {K : PySem.W.Frag} {mg : Str → Option Value} {base : Heap}
def spWholesD (K : PySem.W.Frag) : Sp := fun vs H Q _ => ∃ a xs ds, vs = [.ref a] ∧ SqT K H a xs ∧ DpAll K H xs ds ∧ Q (.bl (ds.all isIntD)) H
theorem all_not {ds : List PyData} {p : PyData → Bool} {d : PyData} (h : d ∈ ds) (n : p d = false) : ds.all p = false := by
  rw [Bool.eq_false_iff]
  intro z
  have := List.all_eq_true.mp z d h
  rw [n] at this
  cases this
theorem cl_wholesD (D : Df K mg "are_wholes" s_are_wholes) (CW : Cl P w K mg base 1 "is_whole" ["told"] (spWhole K)) : Cl P w K mg base 2 "are_wholes" ["told"] (spWholesD K) := by
  refine D.cl (fun _ _ _ _ _ _ us hl => match us, hl with | [_], _ => rfl) fun f fd F => F.ok sc_wholes (fun vs H Q E h => ?_) (fun cdv A outer s H vs Q E hr h => ?_)
  · obtain ⟨a, xs, ds, rfl, _⟩ := h
    rfl
  obtain ⟨a, xs, ds, rfl, hs, hp, hq⟩ := h
  refine ⟨_, pss_cons (ps_for PassesOwn.never rfl (pi_tup (pv 0)) (pg_name (i := 1) sc_wholes.nd rfl (Or.inl rfl))
    (pss_one (ps_if (pt_not (pt_val (pe_cl CW (hr.mono (by decide)) (pa_cons (pv 1) pa_nil)))) (pss_one (ps_ret pe_bl)) pss_nil))) (pss_one (ps_ret pe_bl)), ?_⟩
  refine ⟨_, rfl, a, rfl, ⟨_, hs⟩, for_tup (xs := xs) (fun i σ H1 => ∃ c, σ = [some (.ref a), c] ∧ H1 = H ∧ ∀ j d, j < i → ds[j]? = some d → isIntD d = true) ⟨_, rfl, rfl, fun j d h => absurd h (Nat.not_lt_zero _)⟩ (fun i σ H1 _ h => ?_) (fun i x σ H1 hx h => ?_) (fun σ H1 h => ?_)⟩
  · obtain ⟨c, rfl, rfl, _⟩ := h
    exact hs
  · obtain ⟨c, rfl, rfl, hall⟩ := h
    obtain ⟨d, ed, hdx⟩ := dpa_get hp hx
    obtain ⟨t, kn, ki, _⟩ := dp_kn hdx
    refine ⟨_, rfl, _, t, rfl, kn, _, rfl, ?_⟩
    rw [ki]
    cases hi : isIntD d with
    | true =>
      refine iteF ⟨some x, rfl, rfl, fun j d' hj e' => ?_⟩
      by_cases e : j = i
      · rw [e, ed] at e'
        cases e'
        exact hi
      · exact hall j d' (by omega) e'
    | false =>
      rw [all_not (List.mem_of_getElem? ed) hi] at hq
      exact iteT hq
  · obtain ⟨c, rfl, rfl, hall⟩ := h
    have : ds.all isIntD = true := List.all_eq_true.mpr fun d hd => by
      obtain ⟨i, e⟩ := List.getElem?_of_mem hd
      exact hall i d (by rw [dpa_len hp]; exact (List.getElem?_eq_some_iff.mp e).1) e
    rw [this] at hq
    exact hq
def spSidesD (K : PySem.W.Frag) : Sp := fun vs H Q _ => ∃ x d, vs = [x] ∧ Dp K H x d ∧ ∀ H', Gr H H' → Q (.bl (sidesD d)) H'
theorem cl_sidesD (D : Df K mg "are_sides" s_are_sides) (B : Blt mg) (CW : Cl P w K mg base 2 "are_wholes" ["told"] (spWholesD K)) : Cl P w K mg base 3 "are_sides" ["told"] (spSidesD K) := by
  refine D.cl (fun _ _ _ _ _ _ us hl => match us, hl with | [_], _ => rfl) fun f fd F => F.ok sc_sides (fun vs H Q E h => ?_) (fun cdv A outer s H vs Q E hr h => ?_)
  · obtain ⟨x, d, rfl, _⟩ := h
    rfl
  obtain ⟨x, d, rfl, hd, hq⟩ := h
  have hq := hq H (Gr.refl H)
  refine ⟨_, pss_one (ps_ret (pe_and (pe_isi "tuple" (pv 0) bootTup B.tup B.isi) (pe_and (pe_cl CW (hr.mono (by decide)) (pa_cons (pv 0) pa_nil)) (pe_one (pe_callB (cr_anyT rfl) rfl B.any bootAny (pa_cons (pv 0) pa_nil)))))), ?_⟩
  obtain ⟨t, kn, _, kt⟩ := dp_kn hd
  refine ⟨_, rfl, _, _, kn, kt, _, rfl, ?_⟩
  cases ht : isTupD d with
  | false =>
    have : sidesD d = false := by
      cases d <;> first | rfl | cases ht
    rw [this] at hq
    exact iteF hq
  | true =>
    obtain ⟨a, xs, ds, rfl, rfl, hs, hp⟩ := dp_ofTup hd ht
    refine iteT ⟨_, rfl, a, xs, ds, rfl, hs, hp, _, rfl, ?_⟩
    have e0 : sidesD (.tuple ds) = (ds.all isIntD && (ds.map intD).any fun z => decide (z ≠ 0)) := rfl
    rw [e0] at hq
    cases ha : ds.all isIntD with
    | false =>
      rw [ha] at hq
      exact iteF hq
    | true =>
      rw [ha] at hq
      obtain ⟨e1, e2⟩ := dpa_ints hp fun i d e => List.all_eq_true.mp ha d (List.mem_of_getElem? e)
      rw [e1] at hs
      exact iteT ⟨_, rfl, a, _, rfl, hs, hq⟩
end
end SB
namespace SB
open PySem L2 GxR GA RZ
def questOfD (n : Int) (d : PyData) : Bool := questD d && decide (lenD d = n)
theorem isTup_ex {d : PyData} (h : isTupD d = true) : ∃ ds, d = .tuple ds := by
  cases d <;> first | exact ⟨_, rfl⟩ | cases h
theorem dpa_two {K : PySem.W.Frag} {H : Hp} {xs : List V} {ds : List PyData} (h : DpAll K H xs ds) (l : xs.length = 2) : ∃ x1 x2 d1 d2, xs = [x1, x2] ∧ ds = [d1, d2] ∧ Dp K H x1 d1 ∧ Dp K H x2 d2 := by
  cases h with
  | nil => cases l
  | cons h1 p =>
    cases p with
    | nil => cases l
    | cons h2 p =>
      cases p with
      | nil => exact ⟨_, _, _, _, rfl, rfl, h1, h2⟩
      | cons h3 p => simp at l
theorem questD_two {ds : List PyData} (l : ds.length ≠ 2) : questD (.tuple ds) = false := by
  match ds, l with
  | [], _ => rfl
  | [_], _ => rfl
  | [_, _], l => exact absurd rfl l
  | _ :: _ :: _ :: _, _ => rfl
theorem questD_not {d : PyData} (h : isTupD d = false) : questD d = false := by
  cases d <;> first | rfl | cases h
theorem questD_at (d1 d2 : PyData) : questD (.tuple [d1, d2]) = (sidesD d1 && isIntD d2) := rfl
section
variable {P : Program} {w : World} {K : PySem.W.Frag} {mg : Str → Option Value} {base : Heap}
def spQuestD (K : PySem.W.Frag) : Sp := fun vs H Q _ => ∃ x d, vs = [x] ∧ Dp K H x d ∧ ∀ H', Gr H H' → Q (.bl (questD d)) H'
theorem cl_questD (D : Df K mg "is_question" s_is_question) (B : Blt mg) (CW : Cl P w K mg base 1 "is_whole" ["told"] (spWhole K)) (CS : Cl P w K mg base 3 "are_sides" ["told"] (spSidesD K)) : Cl P w K mg base 4 "is_question" ["told"] (spQuestD K) := by
  refine D.cl (fun _ _ _ _ _ _ us hl => match us, hl with | [_], _ => rfl) fun f fd F => F.ok sc_quest (fun vs H Q E h => ?_) (fun cdv A outer s H vs Q E hr h => ?_)
  · obtain ⟨x, d, rfl, _⟩ := h
    rfl
  obtain ⟨x, d, rfl, hd, hq⟩ := h
  refine ⟨_, pss_cons (ps_if (PW.pt (by exact (pw_or (pt_not (pt_val (pe_isi "tuple" (pv 0) bootTup B.tup B.isi))) (pw_or1 (pt_cmpR op_ne (pe_len (pv 0) B.len) pe_int (nomark _)))))) (pss_one (ps_ret pe_bl)) pss_nil)
    (pss_cons (ps_asg (pv 0) (pg_tup rfl (pgs_cons (pg_name (i := 1) sc_quest.nd rfl (Or.inl rfl)) (pgs_cons (pg_name (i := 2) sc_quest.nd rfl (Or.inl rfl)) pgs_nil))))
    (pss_one (ps_ret (pe_and (pe_cl CS (hr.mono (by decide)) (pa_cons (pv 1) pa_nil)) (pe_one (pe_cl CW (hr.mono (by decide)) (pa_cons (pv 2) pa_nil))))))), ?_⟩
  obtain ⟨t, kn, _, kt⟩ := dp_kn hd
  refine ⟨_, rfl, _, _, kn, kt, _, rfl, ?_⟩
  have q0 := hq H (Gr.refl H)
  cases ht : isTupD d with
  | false =>
    rw [questD_not ht] at q0
    exact iteT (iteT q0)
  | true =>
    obtain ⟨a, xs, ds, rfl, rfl, hs, hp⟩ := dp_ofTup hd ht
    have lx := dpa_len hp
    refine iteF ⟨_, rfl, a, xs, rfl, .inr hs, rfl, _, rfl, ?_⟩
    by_cases l2 : xs.length = 2
    · refine iteNS (by rw [l2]; rfl) ?_
      obtain ⟨x1, x2, d1, d2, rfl, rfl, h1, h2⟩ := dpa_two hp l2
      refine ⟨_, rfl, a, _, rfl, hs, rfl, _, _, rfl, _, _, rfl, rfl, ?_⟩
      refine ⟨_, rfl, _, _, rfl, h1, fun H' g => ⟨_, rfl, ?_⟩⟩
      obtain ⟨t2, kn2, ki2, _⟩ := dp_kn (dp_gr g h2)
      have q1 := hq H' g
      rw [questD_at] at q1
      cases hs1 : sidesD d1 with
      | false =>
        rw [hs1] at q1
        exact iteF q1
      | true =>
        rw [hs1] at q1
        refine iteT ⟨_, rfl, _, t2, rfl, kn2, ?_⟩
        rw [ki2]
        exact q1
    · rw [questD_two (by omega)] at q0
      rw [decide_eq_false (show ¬ V.int ((xs.length : Nat) : Int) = V.int 2 from fun z => l2 (by injection z with z; omega))]
      exact iteT q0
end
end SB
namespace SB
open PySem L2 GxR GA RZ
theorem questOfD_not {n : Int} {d : PyData} (h : questD d = false) : questOfD n d = false := by
  unfold questOfD
  rw [h]
  rfl
theorem questD_yes {K : PySem.W.Frag} {H : Hp} {x : V} {d : PyData} (h : Dp K H x d) (q : questD d = true) : ∃ a b ys ss w x2, x = .ref a ∧ d = .tuple [.tuple ss, w] ∧ SqT K H a [.ref b, x2] ∧ SqT K H b ys ∧ ys.length = ss.length ∧ ∀ n : Int, questOfD n d = decide (((ss.length : Nat) : Int) = n) := by
  cases ht : isTupD d with
  | false =>
    rw [questD_not ht] at q
    cases q
  | true =>
    obtain ⟨a, xs, ds, rfl, rfl, hs, hp⟩ := dp_ofTup h ht
    by_cases l : ds.length = 2
    · obtain ⟨x1, x2, d1, d2, rfl, rfl, h1, h2⟩ := dpa_two hp (by rw [dpa_len hp, l])
      rw [questD_at] at q
      have q1 : sidesD d1 = true := by
        cases e : sidesD d1 with
        | true => rfl
        | false => rw [e] at q; cases q
      have t1 : isTupD d1 = true := by
        cases d1 <;> first | rfl | cases q1
      obtain ⟨b, ys, ss, rfl, rfl, hb, hbp⟩ := dp_ofTup h1 t1
      refine ⟨a, b, ys, ss, d2, x2, rfl, rfl, hs, hb, dpa_len hbp, fun n => ?_⟩
      show (questD (.tuple [.tuple ss, d2]) && _) = _
      rw [questD_at, q]
      rfl
    · rw [questD_two l] at q
      cases q
section
variable {P : Program} {w : World} {K : PySem.W.Frag} {mg : Str → Option Value} {base : Heap}
def spQuestOfD (K : PySem.W.Frag) : Sp := fun vs H Q _ => ∃ x d n, vs = [x, .int n] ∧ Dp K H x d ∧ ∀ H', Gr H H' → Q (.bl (questOfD n d)) H'
theorem cl_questOfD (D : Df K mg "is_question_of" s_is_question_of) (B : Blt mg) (CQ : Cl P w K mg base 4 "is_question" ["told"] (spQuestD K)) : Cl P w K mg base 5 "is_question_of" ["told", "d"] (spQuestOfD K) := by
  refine D.cl (fun _ _ _ _ _ _ us hl => match us, hl with | [_, _], _ => rfl) fun f fd F => F.ok sc_questOf (fun vs H Q E h => ?_) (fun cdv A outer s H vs Q E hr h => ?_)
  · obtain ⟨x, d, n, rfl, _⟩ := h
    rfl
  obtain ⟨x, d, n, rfl, hd, hq⟩ := h
  refine ⟨_, pss_one (ps_ret (pe_and (pe_cl CQ (hr.mono (by decide)) (pa_cons (pv 0) pa_nil)) (pe_one (pe_cmpR op_eq (pe_len (pe_ix ix_tup (pv 0) pe_int (fun _ _ => rfl)) B.len) (pv 1) (nomark _))))), ?_⟩
  refine ⟨_, rfl, _, d, rfl, hd, fun H' g => ⟨_, rfl, ?_⟩⟩
  have q1 := hq H' g
  cases hQ : questD d with
  | false =>
    rw [questOfD_not hQ] at q1
    exact iteF q1
  | true =>
    obtain ⟨a, b, ys, ss, w1, x2, rfl, ed, hs, hb, ly, hn⟩ := questD_yes (dp_gr g hd) hQ
    rw [hn] at q1
    refine iteT ⟨_, rfl, a, _, _, _, rfl, rfl, hs, rfl, b, _, rfl, .inr hb, _, rfl, rfl, ?_⟩
    rw [ly]
    have e2 : decide (V.int ((ss.length : Nat) : Int) = V.int n) = decide (((ss.length : Nat) : Int) = n) := by
      by_cases c : ((ss.length : Nat) : Int) = n
      · rw [c, decide_eq_true rfl, decide_eq_true rfl]
      · rw [decide_eq_false c, decide_eq_false fun z => c (by injection z)]
    rw [e2]
    exact q1
def spManyD (K : PySem.W.Frag) : Sp := fun vs H Q _ => ∃ x d, vs = [x] ∧ Dp K H x d ∧ Q (.bl (manyD d)) H
theorem cl_manyD (D : Df K mg "_is_many" s__is_many) (CW : Cl P w K mg base 1 "is_whole" ["told"] (spWhole K)) : Cl P w K mg base 2 "_is_many" ["d"] (spManyD K) := by
  refine D.cl (fun _ _ _ _ _ _ us hl => match us, hl with | [_], _ => rfl) fun f fd F => F.ok sc_many (fun vs H Q E h => ?_) (fun cdv A outer s H vs Q E hr h => ?_)
  · obtain ⟨x, d, rfl, _⟩ := h
    rfl
  obtain ⟨x, d, rfl, hd, q⟩ := h
  refine ⟨_, pss_one (ps_ret (pe_and (pe_cl CW (hr.mono (by decide)) (pa_cons (pv 0) pa_nil)) (pe_one (pe_cmpR op_ge (pv 0) pe_int (nomark _))))), ?_⟩
  obtain ⟨t, kn, ki, _⟩ := dp_kn hd
  refine ⟨_, rfl, _, t, rfl, kn, _, rfl, ?_⟩
  rw [ki]
  cases hi : isIntD d with
  | false =>
    have : manyD d = false := by
      cases d <;> first | rfl | cases hi
    rw [this] at q
    exact iteF q
  | true =>
    obtain ⟨z, rfl, rfl⟩ := dp_ofInt hd hi
    exact iteT ⟨_, rfl, _, _, rfl, rfl, q⟩
end
end SB
namespace SB
open PySem L2 GxR GA RZ SG PpSet
def quD : PyData → List Int × Int
  | .tuple [.tuple ss, w] => (ss.map intD, intD w)
  | _ => ([], 0)
def partD : PyData → List PyData
  | .tuple ds => ds
  | _ => []
def bookD : PyData → Bool
  | .tuple [n, qs] => manyD n && (isTupD qs && ((partD qs).all (questOfD (intD n)) && decide ((((partD qs).map quD).map nfU).Nodup)))
  | _ => false
/-- not too great to be looked at -/
def SmallD : PyData → Prop
  | .tuple [_, qs] => (partD qs).length ≤ 60 ∧ ∀ q, q ∈ partD qs → questD q = true → (quD q).1.length ≤ 900000 ∧ (∀ z, z ∈ (quD q).1 → z.natAbs < 2 ^ 10000) ∧ (quD q).2.natAbs < 2 ^ 10000
  | _ => True
theorem questD_qu {K : PySem.W.Frag} {H : Hp} {x : V} {d : PyData} (h : Dp K H x d) (q : questD d = true) : QuV K H x (quD d) ∧ NonZ (quD d).1 := by
  cases ht : isTupD d with
  | false =>
    rw [questD_not ht] at q
    cases q
  | true =>
    obtain ⟨a, xs, ds, rfl, rfl, hs, hp⟩ := dp_ofTup h ht
    by_cases l : ds.length = 2
    · obtain ⟨x1, x2, d1, d2, rfl, rfl, h1, h2⟩ := dpa_two hp (by rw [dpa_len hp, l])
      rw [questD_at] at q
      have q1 : sidesD d1 = true := by
        cases e : sidesD d1 with
        | true => rfl
        | false => rw [e] at q; cases q
      rw [q1] at q
      have q2 : isIntD d2 = true := q
      have t1 : isTupD d1 = true := by
        cases d1 <;> first | rfl | cases q1
      obtain ⟨b, ys, ss, rfl, rfl, hb, hbp⟩ := dp_ofTup h1 t1
      obtain ⟨z, rfl, rfl⟩ := dp_ofInt h2 q2
      have q3 : (ss.all isIntD && (ss.map intD).any fun z => decide (z ≠ 0)) = true := q1
      have q4 : ss.all isIntD = true := by
        cases e : ss.all isIntD with
        | true => rfl
        | false => rw [e] at q3; cases q3
      rw [q4] at q3
      obtain ⟨e1, e2⟩ := dpa_ints hbp fun i d e => List.all_eq_true.mp q4 d (List.mem_of_getElem? e)
      rw [e1] at hb
      exact ⟨⟨a, _, rfl, hs, b, rfl, hb⟩, q3⟩
    · rw [questD_two l] at q
      cases q
theorem bookD_two {ds : List PyData} (l : ds.length ≠ 2) : bookD (.tuple ds) = false := by
  match ds, l with
  | [], _ => rfl
  | [_], _ => rfl
  | [_, _], l => exact absurd rfl l
  | _ :: _ :: _ :: _, _ => rfl
theorem bookD_not {d : PyData} (h : isTupD d = false) : bookD d = false := by
  cases d <;> first | rfl | cases h
theorem bookD_at (d1 d2 : PyData) : bookD (.tuple [d1, d2]) = (manyD d1 && (isTupD d2 && ((partD d2).all (questOfD (intD d1)) && decide ((((partD d2).map quD).map nfU).Nodup)))) := rfl
theorem nodup_snoc {α : Type} {l : List α} {a : α} : (l ++ [a]).Nodup ↔ l.Nodup ∧ a ∉ l := by
  rw [List.nodup_append]
  constructor
  · rintro ⟨h1, _, h3⟩
    exact ⟨h1, fun z => h3 a z a (List.mem_singleton.mpr rfl) rfl⟩
  · rintro ⟨h1, h2⟩
    refine ⟨h1, by simp, fun b hb c hc e => ?_⟩
    rw [List.mem_singleton.mp hc] at e
    rw [e] at hb
    exact h2 hb
section
variable {P : Program} {w : World} {K : PySem.W.Frag} {mg : Str → Option Value} {base : Heap}
def spBookD (K : PySem.W.Frag) : Sp := fun vs H Q _ => ∃ x d, vs = [x] ∧ Dp K H x d ∧ SmallD d ∧ ∀ H', Gr H H' → Q (.bl (bookD d)) H'
theorem cl_bookD (D : Df K mg "is_book" s_is_book) (B : Blt mg) (CM : Cl P w K mg base 2 "_is_many" ["d"] (spManyD K)) (CQ : Cl P w K mg base 5 "is_question_of" ["told", "d"] (spQuestOfD K)) (CN : Cl P w K mg base 35 "nought_form" ["question"] (spNought K)) :
    Cl P w K mg base 37 "is_book" ["told"] (spBookD K) := by
  refine D.cl (fun _ _ _ _ _ _ us hl => match us, hl with | [_], _ => rfl) fun f fd F => F.ok sc_book (fun vs H Q E h => ?_) (fun cdv A outer s H vs Q E hr h => ?_)
  · obtain ⟨x, d, rfl, _⟩ := h
    rfl
  obtain ⟨x, d, rfl, hd, sm, hq⟩ := h
  refine ⟨_, pss_cons (ps_if (PW.pt (by exact (pw_or (pt_not (pt_val (pe_isi "tuple" (pv 0) bootTup B.tup B.isi))) (pw_or1 (pt_cmpR op_ne (pe_len (pv 0) B.len) pe_int (nomark _)))))) (pss_one (ps_ret pe_bl)) pss_nil)
    (pss_cons (ps_asg (pv 0) (pg_tup rfl (pgs_cons (pg_name (i := 1) sc_book.nd rfl (Or.inl rfl)) (pgs_cons (pg_name (i := 2) sc_book.nd rfl (Or.inl rfl)) pgs_nil))))
    (pss_cons (ps_if (PW.pt (by exact (pw_or (pt_not (pt_val (pe_cl CM (hr.mono (by decide)) (pa_cons (pv 1) pa_nil)))) (pw_or1 (pt_not (pt_val (pe_isi "tuple" (pv 2) bootTup B.tup B.isi))))))) (pss_one (ps_ret pe_bl)) pss_nil)
    (pss_cons (ps_for PassesOwn.never rfl (pi_tup (pv 2)) (pg_name (i := 3) sc_book.nd rfl (Or.inl rfl))
      (pss_one (ps_if (pt_not (pt_val (pe_cl CQ (hr.mono (by decide)) (pa_cons (pv 3) (pa_cons (pv 1) pa_nil))))) (pss_one (ps_ret pe_bl)) pss_nil)))
    (pss_one (ps_ret (pe_cmpR op_eq (pe_callB len_setG rfl B.len PySem.boot_len (pa_cons (pe_sg (Q0 := trivial) (own := [("question", 3)]) (g := gName 3) rfl hr.units sc_book.nd (pi_tup (pv 2)) (blkOk_by (N := ["told", "d", "questions", "question"]) (sc := defScope s_is_book) (by decide +kernel)) (fun _ _ _ _ _ => pg_name (i := 3) sc_book.nd rfl (Or.inl rfl)) (fun _ _ _ _ _ => pts_nil)
      (fun _ _ _ _ _ => pe_cl CN (hr.mono (by decide)) (pa_cons (pv 3) pa_nil))) pa_nil)) (pe_len (pv 2) B.len) (nomark _))))))), ?_⟩
  obtain ⟨t, kn, _, kt⟩ := dp_kn hd
  refine ⟨_, rfl, _, _, kn, kt, _, rfl, ?_⟩
  have q0 := hq H (Gr.refl H)
  cases ht : isTupD d with
  | false =>
    rw [bookD_not ht] at q0
    exact iteT (iteT q0)
  | true =>
  obtain ⟨a, xs0, ds, rfl, rfl, ha, hp⟩ := dp_ofTup hd ht
  have lx := dpa_len hp
  refine iteF ⟨_, rfl, a, xs0, rfl, .inr ha, rfl, _, rfl, ?_⟩
  by_cases l2 : xs0.length = 2
  case neg =>
    rw [bookD_two (by omega)] at q0
    rw [decide_eq_false (show ¬ V.int ((xs0.length : Nat) : Int) = V.int 2 from fun z => l2 (by injection z with z; omega))]
    exact iteT q0
  refine iteNS (by rw [l2]; rfl) ?_
  obtain ⟨x1, x2, d1, d2, rfl, rfl, h1, h2⟩ := dpa_two hp l2
  rw [bookD_at] at q0
  refine ⟨_, rfl, a, _, rfl, ha, rfl, _, _, rfl, _, _, rfl, rfl, ?_⟩
  refine ⟨_, rfl, _, d1, rfl, h1, _, rfl, ?_⟩
  cases hm : manyD d1 with
  | false =>
    rw [hm] at q0
    exact iteT (iteT q0)
  | true =>
  rw [hm] at q0
  obtain ⟨t2', kn2, _, kt2⟩ := dp_kn h2
  refine iteF ⟨_, rfl, _, _, kn2, kt2, _, rfl, ?_⟩
  cases ht2 : isTupD d2 with
  | false =>
    rw [ht2] at q0
    exact iteT q0
  | true =>
  refine iteF ?_
  clear q0
  obtain ⟨b, xs, qd, rfl, rfl, hb, hbp⟩ := dp_ofTup h2 ht2
  have im : isIntD d1 = true := by
    cases d1 <;> first | rfl | cases hm
  obtain ⟨n, rfl, rfl⟩ := dp_ofInt h1 im
  have hq : ∀ H', Gr H H' → Q (.bl (qd.all (questOfD n) && decide (((qd.map quD).map nfU).Nodup))) H' := fun H' g => by
    have q := hq H' g
    rw [bookD_at, hm, ht2] at q
    exact q
  obtain ⟨s60, sall⟩ := sm
  have s60 : qd.length ≤ 60 := s60
  have lxq : xs.length = qd.length := dpa_len hbp
  refine ⟨_, rfl, b, rfl, ⟨_, hb⟩, for_tup (xs := xs) (fun i σ H1 => ∃ c, σ = [some (.ref a), some (.int n), some (.ref b), c] ∧ Gr H H1 ∧ ∀ j q, j < i → qd[j]? = some q → questOfD n q = true) ⟨_, rfl, Gr.refl H, fun j q h => absurd h (Nat.not_lt_zero _)⟩ (fun i σ H1 _ h => ?_) (fun i x σ H1 hx h => ?_) (fun σ H3 h => ?_)⟩
  · obtain ⟨c, rfl, gr, _⟩ := h
    exact gr.seqT hb
  · obtain ⟨c, rfl, gr, hall⟩ := h
    obtain ⟨q, eq, hdx⟩ := dpa_get hbp hx
    refine ⟨_, rfl, _, rfl, x, q, n, rfl, dp_gr gr hdx, fun H' g4 => ⟨_, rfl, ?_⟩⟩
    cases hQ : questOfD n q with
    | true =>
      refine iteF ⟨some x, rfl, gr.trans g4, fun j q' hj e' => ?_⟩
      by_cases e : j = i
      · rw [e, eq] at e'
        cases e'
        exact hQ
      · exact hall j q' (by omega) e'
    | false =>
      refine iteT ?_
      have q1 := hq H' (gr.trans g4)
      rw [all_not (List.mem_of_getElem? eq) hQ] at q1
      exact q1
  obtain ⟨c, rfl, g4, hall⟩ := h
  have hb3 := g4.seqT hb
  have hA : ∀ q, q ∈ qd → questOfD n q = true := fun q hq' => by
    obtain ⟨i, e⟩ := List.getElem?_of_mem hq'
    exact hall i q (by rw [lxq]; exact (List.getElem?_eq_some_iff.mp e).1) e
  have hQ1 : ∀ q, q ∈ qd → questD q = true := fun q hq' => by
    have h := hA q hq'
    unfold questOfD at h
    cases e : questD q with
    | true => rfl
    | false => rw [e] at h; cases h
  have all1 : qd.all (questOfD n) = true := List.all_eq_true.mpr hA
  refine ⟨_, rfl, b, rfl, ⟨_, hb3⟩, fun D nD => ?_⟩
  refine sg_tup (xs := xs) (fun i H => ∃ L : List (Addr × Fm), H D = some (SetGO P w D L) ∧ L.length ≤ i ∧ (L.length = i ↔ (((qd.take i).map quD).map nfU).Nodup) ∧ GrD D H3 H ∧ (∀ p ∈ L, VF K H p.1 p.2) ∧ ∀ k, k ∈ L.map (·.2) ↔ k ∈ ((qd.take i).map quD).map nfU)
    ⟨[], upd_same, Nat.le_refl _, by simp, (GrD.refl D H3).set _, fun p h => by simp at h, fun k => by simp⟩ (fun i H h1 h => ?_) (fun i x H hx h => ?_) (fun H h => ?_)
  · obtain ⟨L, hD, hl, hn, gr, _⟩ := h
    exact (gr.to nD).seqT hb3
  · obtain ⟨L, hD, hl, hn, gr, hv, hk⟩ := h
    obtain ⟨qx, hq1, hdx⟩ := dpa_get hbp hx
    have hi := (List.getElem?_eq_some_iff.mp hq1).1
    have mem := List.mem_of_getElem? hq1
    obtain ⟨b1, b2, b3⟩ := sall qx mem (hQ1 qx mem)
    have g5 := gr.to nD
    obtain ⟨hqu, nzq⟩ := questD_qu (dp_gr (g4.trans g5) hdx) (hQ1 qx mem)
    refine ⟨rfl, _, rfl, x, quD qx, rfl, hqu, ⟨nzq, b2, b3⟩, b1, fun a4 H4 g6 vf => ?_⟩
    have hD4 : H4 D = some (SetGO P w D L) := g6.keep D _ (fun _ z => by unfold SetGO at z; cases z) hD
    have tk : ((qd.take (i + 1)).map quD).map nfU = ((qd.take i).map quD).map nfU ++ [nfU (quD qx)] := by
      rw [List.take_add_one, hq1, Option.toList_some, List.map_append, List.map_append]
      rfl
    refine ⟨a4, nfU (quD qx), L, rfl, vf, hD4, fun p hp' => vf_st (hv p hp') g6.st, by omega, fun L' e1 e2 => ?_⟩
    have tp : Tst K H4 (upd H4 D (SetGO P w D L')) := Tst.put2 hD4 (fun _ z => by unfold SetGO at z; cases z) (fun _ _ z => by unfold SetGO at z; cases z)
    by_cases nin : nfU (quD qx) ∈ L.map (·.2)
    · have := e1 nin
      subst this
      refine ⟨L', upd_same, by omega, ?_, (gr.trans (g6.d D)).set _, fun p hp' => vf_st (vf_st (hv p hp') g6.st) tp, fun k => ?_⟩
      · rw [tk, nodup_snoc]
        constructor
        · intro z
          omega
        · rintro ⟨_, z⟩
          exact absurd ((hk _).mp nin) z
      · rw [tk, List.mem_append, List.mem_singleton, hk k]
        constructor
        · exact .inl
        · rintro (z | rfl)
          · exact z
          · exact (hk _).mp nin
    · have pm := e2 nin
      refine ⟨L', upd_same, by rw [pm.length_eq, List.length_cons]; omega, ?_, (gr.trans (g6.d D)).set _, fun p hp' => ?_, fun k => ?_⟩
      · rw [tk, nodup_snoc, pm.length_eq, List.length_cons, ← hn]
        constructor
        · intro z
          exact ⟨by omega, fun y => nin ((hk _).mpr y)⟩
        · rintro ⟨z, _⟩
          omega
      · rcases List.mem_cons.mp (pm.mem_iff.mp hp') with rfl | hp2
        · exact vf_st vf tp
        · exact vf_st (vf_st (hv p hp2) g6.st) tp
      · have e1 : k ∈ L'.map (·.2) ↔ k = nfU (quD qx) ∨ k ∈ L.map (·.2) := by
          rw [(pm.map _).mem_iff, List.map_cons, List.mem_cons]
        rw [e1, hk k, tk, List.mem_append, List.mem_singleton]
        exact Or.comm
  · obtain ⟨L, hD, hl, hn, gr, _⟩ := h
    have g5 := gr.to nD
    refine ⟨D, L, rfl, hD, _, rfl, b, _, rfl, .inr (g5.seqT hb3), rfl, ?_⟩
    have q1 := hq H (g4.trans g5)
    rw [all1] at q1
    rw [lxq, List.take_length] at hn
    rw [lxq]
    have e2 : decide (V.int ((L.length : Nat) : Int) = V.int ((qd.length : Nat) : Int)) = decide (((qd.map quD).map nfU).Nodup) := by
      by_cases c : L.length = qd.length
      · rw [decide_eq_true (hn.mp c), c, decide_eq_true rfl]
      · rw [decide_eq_false (fun z => c (hn.mpr z)), decide_eq_false fun z => c (by injection z with z; omega)]
    rw [e2]
    exact q1
end
end SB
namespace SG
open PySem PySem.Spec PyProof.Rows L2 PpSet
section
variable {P : Program} {w : World} {κ : Type} [DecidableEq κ] {kd : Kd P w κ} {A : Around} {E : Value → Shared → Prop} {s : Shared} {a : Addr} {L : List (Addr × κ)} {es : Array (Int × Value)} {ep : Nat} {t : SetTable}
theorem sr_lookup (R : SR kd s.heap a L es ep t) {x : Addr} {k : κ} (hx : kd.is s.heap k x) (hu : A.units + 8 < cLine) {Q : Option Nat → Shared → Prop} (q : ∀ r : Option Nat, (r.isSome = true ↔ k ∈ L.map (·.2)) → Q r s) :
    wpAny (model P w) A (setFind a (.ref x) (kd.hash k)) Q E s := by
  obtain ⟨o, ho, hex, hd⟩ := R.ob
  unfold setFind
  rw [show (100000 : Nat) = 99999 + 1 from rfl, setFindIn]
  refine wpAny_bind (wpAny_setState_of ho hd R.fits ?_)
  dsimp only
  refine wp_if_neg (by simp [byScan, Value.scannable]) ?_
  try refine wpAny_bind (wpAny_pure ?_)
  refine wpAny_bind (sr_find R false hx hu (fun i hm => ?_) fun K hm hK hb => ?_)
  · unfold met
    dsimp only
    exact wpAny_pure (q _ ⟨fun _ => hm, fun _ => rfl⟩)
  · dsimp only
    exact wpAny_pure (q none ⟨fun z => (by cases z), fun z => absurd z hm⟩)
theorem sr_notin (R : SR kd s.heap a L es ep t) {x : Addr} {k : κ} (hx : kd.is s.heap k x) (hu : A.units + 16 < cLine) {Q : Value → Shared → Prop}
    (h : Q (.bool (!decide (k ∈ L.map (·.2)))) { s with toks := s.toks + kd.draws k }) : wpAny (model P w) A (compareOp .NotIn (.ref x) (.ref a)) Q E s := by
  have hT : s.TypeIs (.ref a) "set" := by
    obtain ⟨o, ho, hex, _⟩ := R.ob
    exact ⟨o, ho, hex.1⟩
  show wpAny _ _ (do return .bool (!(← contains (.ref a) (.ref x)))) Q E s
  refine wpAny_bind ?_
  unfold contains
  try with_reducible refine wpAny_holding ?_
  refine wpAny_bind (wpAny_specialOf hT F.slot_set_contains.lookup ?_)
  show wpAny _ _ (if (some (Value.builtin "set.__contains__") == some Value.none) = true then _ else _) _ E s
  rw [if_neg (by rw [beq_builtin_none]; exact Bool.false_ne_true)]
  refine wpAny_bind (wpAny_callSpecialUnlessNone?_slot (name := Str.ofString "__contains__") hT F.slot_set_contains
    (wpAny_call_entry F.slot_set_contains hT entry_set_contains ?_ (F.args_set_contains_2 _ _)))
  unfold Builtin.«frozenset.__contains__» Builtin.Frozenset.oneOther
  simp only [List.isEmpty_nil, bind_assoc]
  unfold Builtin.Frozenset.addrOf Builtin.Frozenset.withSetAsKey setContains
  refine wpAny_bind (wpAny_pure ?_)
  try dsimp only
  refine wpAny_bind (wpAny_pure ?_)
  try dsimp only
  refine wpAny_bind (wpAny_tryCatch ?_)
  refine wpAny_holding ?_
  have hu1 : ∀ n, n ≤ 4 → A.units + n + 8 < cLine := fun n hn => by omega
  refine wpAny_bind (kd.pyH (by first | exact hu1 0 (by decide) | exact hu1 1 (by decide) | exact hu1 2 (by decide) | (show A.units + 1 + 8 < cLine; omega) | (show A.units + 1 + 1 + 8 < cLine; omega)) hx ?_)
  refine wpAny_bind (sr_lookup (s := { s with toks := s.toks + kd.draws k }) R hx (by first | exact hu1 0 (by decide) | exact hu1 1 (by decide) | exact hu1 2 (by decide) | (show A.units + 1 + 8 < cLine; omega) | (show A.units + 1 + 1 + 8 < cLine; omega)) fun r hr => ?_)
  refine wpAny_pure ?_
  show wpAny _ _ (ret (Value.bool r.isSome)) _ _ _
  have e : r.isSome = decide (k ∈ L.map (·.2)) := by
    by_cases c : k ∈ L.map (·.2)
    · rw [hr.mpr c, decide_eq_true c]
    · rw [decide_eq_false c, Bool.eq_false_iff]
      exact fun z => c (hr.mp z)
  rw [e]
  exact wpAny_pure ⟨_, rfl, wpAny_truthy_bool (wpAny_pure h)⟩
end
end SG
namespace SG
open PySem PySem.Spec PyProof.Rows L2 PpSet
section
variable {X : Cx}
theorem dec_iff {p : Prop} {i : Decidable p} : (@decide p i) = true ↔ p := @decide_eq_true_iff p i
/-- form not in seen -/
def rSNotG (P : Program) (w : World) (K : PySem.W.Frag) : V → V → Hp → VK → Prop := fun x y H Q => ∃ (b D : Addr) (k : Fm) (L : List (Addr × Fm)), x = V.ref b ∧ y = V.ref D ∧ VF K H b k ∧ H D = some (SetGO P w D L) ∧ (∀ p ∈ L, VF K H p.1 p.2) ∧ (k ∈ L.map (·.2) → Q (.bl false) H) ∧ (k ∉ L.map (·.2) → Q (.bl true) H)
theorem or_notinG (hu : X.A.units + 64 < cLine) : OpR X (compareOp .NotIn) (rSNotG X.prog X.w X.K) := by
  intro pins s σ H x y v u Q I rx ry h
  obtain ⟨b, D, k, L, rfl, rfl, hb, hD, hm, q1, q2⟩ := h
  cases rx
  cases ry
  obtain ⟨es, ep, t, R⟩ := (show ObjOk X.prog X.w H s.heap D (SetGO X.prog X.w D L) from I.hok D _ hD).1
  have f : ∀ bb : Bool, (bb = true ↔ k ∈ L.map (·.2)) → Q (.bl (!bb)) H := fun bb e => by
    cases bb with
    | true => exact q1 (e.mp rfl)
    | false =>
      exact q2 fun z => by
        have := e.mpr z
        cases this
  exact sr_notin (R.sr fun p hp => vf_is I (hm p hp)) (vf_is I hb) (by omega) ⟨.bl _, H, I.tok _, rfl, f _ dec_iff⟩
/-- set() -/
def rSet0G (P : Program) (w : World) : List V → Hp → VK → Prop := fun xs H Q => xs = [] ∧ ∀ p, H p = none → Q (.ref p) (upd H p (SetGO P w p []))
theorem cr_set0G : CallR X (.type "set") (rSet0G X.prog X.w) := by
  intro pins s σ H xs us Q I r h
  obtain ⟨rfl, q⟩ := h
  cases r
  refine setR_new fun _ => ?_
  have new : S0 X.prog X.w (s.heap.push { cls := .type "set", dict := none, data := .set #[] 0 (.fresh 0 0 (!X.w.params.followText "set-order")) }) s.heap.objs.size [] #[] 0 (.fresh 0 0 (!X.w.params.followText "set-order")) :=
    (sr_fresh (kd := KF X.prog X.w) (Heap.get?_push_size _ rfl)).s0
  exact ⟨.ref _, upd H s.heap.objs.size (SetGO X.prog X.w s.heap.objs.size []), I.laid (t' := s.toks) (fun b u e => Heap.get?_push_of_some _ e) (Nat.le_refl _) (setGO_ok new), rfl, q _ (I.hok.fresh (Nat.le_refl _))⟩
/-- seen.add(form) -/
def rSAddG (P : Program) (w : World) (K : PySem.W.Frag) : V → List V → Hp → VK → Prop := fun x xs H Q => ∃ (b D : Addr) (k : Fm) (L : List (Addr × Fm)), x = V.ref D ∧ xs = [.ref b] ∧ VF K H b k ∧ H D = some (SetGO P w D L) ∧ (∀ p ∈ L, VF K H p.1 p.2) ∧ L.length + 1 < 64 ∧
  ∀ L', (k ∈ L.map (·.2) → L' = L) → (k ∉ L.map (·.2) → L'.Perm ((b, k) :: L)) → Q .non (upd H D (SetGO P w D L'))
theorem mt_saddG (hu : X.A.units + 64 < cLine) : MtR X "set.add" (rSAddG X.prog X.w X.K) := by
  intro pins s σ H x xs v us Q I rx rxs h
  obtain ⟨b, D, k, L, rfl, rfl, hb, hD, hm, few, q⟩ := h
  cases rx
  cases rxs with
  | cons ry rt =>
    cases rt
    cases ry
    exact addG_ok hu I hD hb hm few fun L' s' e1 e2 I' => ⟨.non, _, I', rfl, q L' e1 e2⟩
end
end SG
namespace SG
open PySem PySem.Spec PyProof.Rows L2 PpSet
section
variable {X : Cx}
def tSAddG (P : Program) (w : World) (K : PySem.W.Frag) (to : TE) (t : TA) : TE := fun σ H Q => to σ H fun x H1 => (∃ a L, x = V.ref a ∧ H1 a = some (SetGO P w a L)) ∧ t σ H1 fun xs H2 => rSAddG P w K x xs H2 Q
variable {o e : Expr} {es : List Expr} {to : TE} {t : TA} {apos cpos : Pos}
theorem pe_saddG (hu : X.A.units + 64 < cLine) (ho : PE X o to) (ha : PA X (e :: es) t)
    (hbase : attributeBase o "add" X.env (eval o X.env) = eval o X.env := by rfl)
    (hfew : ((backTo cpos (starEach (e :: es) X.env)).all (fun x => !x.1) && (backToKw cpos (keywordEach [] X.env)).all (fun x => x.1.isSome)
      && decide ((e :: es).length + ([] : List Keyword).length + (if ([] : List Keyword).isEmpty then 0 else 1) < 30)) = true := by rfl)
    (hline : (apos.endLine == cpos.line) = true := by rfl) (hs : starEach (e :: es) X.env = (false, eval e X.env) :: starEach es X.env := by rfl) (hplain : (backTo cpos (starEach es X.env)).any (·.1) = false := by rfl) :
    PE X (.Call (.Attribute o "add" apos) (e :: es) [] cpos) (tSAddG X.prog X.w X.K to t) := by
  refine ⟨fun pins s σ H Q I h => ?_⟩
  refine wpAny_Call_method_late hbase hfew hline rfl (thn (ho.run pins s σ H _ I h) fun v s1 ⟨x, H1, I1, r1, ty, q1⟩ => ?_)
  obtain ⟨a, L, rfl, hka⟩ := ty
  obtain ⟨es', ep, t', R⟩ := (show ObjOk X.prog X.w H1 s1.heap a (SetGO X.prog X.w a L) from I1.hok a _ hka).1
  obtain ⟨ob, hob, hex, _⟩ := R.ob
  cases r1
  refine ⟨"set", "set.add", F.plainAttrs_set, F.slot_set_add, F.type_set_add, ⟨ob, hob, hex.1⟩, (fun b eb => by cases eb; exact ⟨ob, hob, hex.2.1⟩), ?_⟩
  have hA := ha.run cpos pins s1 σ H1 _ I1 q1
  rw [hs] at hA ⊢
  refine Calls.callWith_builtin (by show (false || (backTo cpos (starEach es X.env)).any (·.1)) = false; rw [hplain] <;> rfl) (Calls.evalArgs_plain ?_)
  exact thn hA fun us s2 ⟨vs, H2, I2, r2, q2⟩ => mt_saddG hu pins s2 σ H2 (.ref a) vs (.ref a) us Q I2 rfl r2 q2
end
end SG
namespace L2
open PySem PySem.Spec PyProof.Rows
section
variable {X : Cx} {tg : Expr}
/-- a list or a tuple -/
def iSeq (K : PySem.W.Frag) (tl : TE) : TI := fun σ H R => tl σ H fun x H1 => ∃ a, x = .ref a ∧ (((∃ xs, SqL K H1 a xs) ∧ R (Itl K a) H1) ∨ ((∃ xs, SqT K H1 a xs) ∧ R (Itt K a) H1))
theorem pi_seq {l : Expr} {tl : TE} (hl : PE X l tl) : PI X tg l (iSeq X.K tl) := by
  refine ⟨fun pins s σ H R I h => ?_⟩
  refine thn (hl.run pins s σ H _ I h) fun v s1 ⟨x, H1, I1, r1, q1⟩ => ?_
  obtain ⟨a, e, q1⟩ := q1
  subst e
  cases r1
  rcases q1 with ⟨⟨xs, hq⟩, q⟩ | ⟨⟨xs, hq⟩, q⟩
  · obtain ⟨its, rv, p, hz⟩ := I1.list hq
    refine wpAny_pyIter_list p.isList ?_
    refine ⟨s1.heap.objs.size, [s1.heap.objs.size], _, _, H1, rfl, I1.kept (t' := s1.toks) fun b o e => Heap.get?_push_of_some _ e, turn_list a _, ⟨_, Heap.get?_push_size _ rfl, rfl, rfl⟩, fun b hb => ?_, q⟩
    have e : b = s1.heap.objs.size := by simpa using hb
    subst e
    exact I1.fpOk (Nat.le_refl _) (I1.hok.fresh (Nat.le_refl _))
  · obtain ⟨its, rv, p, hz⟩ := I1.tuple hq
    refine wpAny_pyIter_tuple (show s1.heap.IsTuple a its.toArray from p) ?_
    refine ⟨s1.heap.objs.size, [s1.heap.objs.size], _, _, H1, rfl, I1.kept (t' := s1.toks) fun b o e => Heap.get?_push_of_some _ e, turn_tuple a _, ⟨_, Heap.get?_push_size _ rfl, rfl, rfl⟩, fun b hb => ?_, q⟩
    have e : b = s1.heap.objs.size := by simpa using hb
    subst e
    exact I1.fpOk (Nat.le_refl _) (I1.hok.fresh (Nat.le_refl _))
end
end L2
namespace SB
open PySem L2 GxR GA RZ SG PpSet
theorem bootSetB : bootBuiltins "set" = some (.type "set") := by decide +kernel
theorem paired_join {α β : Type} {F : α → β → Prop} : ∀ {a c : List α} {b d : List β}, Paired F a b → Paired F c d → Paired F (a ++ c) (b ++ d)
  | _, _, _, _, .nil, q => q
  | _, _, _, _, .cons h t, q => .cons h (paired_join t q)
/-- those left that are new -/
def keptU (qs : List (List Int × Int)) : List (List Int × Int) := qs.foldl (fun acc q => if nfU q ∈ acc.map nfU then acc else acc ++ [q]) []
theorem kept_snoc (qs : List (List Int × Int)) (q : List Int × Int) : keptU (qs ++ [q]) = if nfU q ∈ (keptU qs).map nfU then keptU qs else keptU qs ++ [q] := by
  unfold keptU
  rw [List.foldl_append]
  rfl
section
variable {P : Program} {w : World} {K : PySem.W.Frag} {mg : Str → Option Value} {base : Heap}
def spMade (K : PySem.W.Frag) : Sp := fun vs H Q _ => ∃ n a xs qs, vs = [.int ((n : Nat) : Int), .ref a] ∧ (SqL K H a xs ∨ SqT K H a xs) ∧ Paired (QuV K H) xs qs ∧ (∀ q, q ∈ qs → QOk q ∧ q.1.length ≤ 8) ∧ qs.length ≤ 60 ∧ ∀ v H', Gr H H' → BkV K H' v n ((keptU qs).map divU) → Q v H'
end
end SB
namespace SB
open PySem L2 GxR GA RZ
theorem nf_div {q : List Int × Int} (h : QOk q) : nfU (divU q) = nfU q := by
  have g0 := nonZ_g h.nz
  refine nf_same h.div h (u := 1) (v := ((gcdL (q.1 ++ [q.2]) : Nat) : Int)) (by decide) (by omega) ?_
  rw [scU_divU]
  unfold scU
  refine Prod.ext ?_ (Int.one_mul _).symm
  show q.1 = q.1.map fun z => 1 * z
  have : (fun z : Int => 1 * z) = id := funext fun z => Int.one_mul z
  rw [this, List.map_id]
theorem kept_sub : ∀ (qs : List (List Int × Int)) (q : List Int × Int), q ∈ keptU qs → q ∈ qs := fun qs => by
  have : ∀ (rs acc : List (List Int × Int)) (q : List Int × Int), q ∈ rs.foldl (fun acc q => if nfU q ∈ acc.map nfU then acc else acc ++ [q]) acc → q ∈ acc ∨ q ∈ rs := fun rs => by
    induction rs with
    | nil => exact fun acc q h => .inl h
    | cons r t ih =>
      intro acc q h
      rw [List.foldl_cons] at h
      rcases ih _ q h with z | z
      · split at z
        · exact .inl z
        · rcases List.mem_append.mp z with y | y
          · exact .inl y
          · rw [List.mem_singleton.mp y]
            exact .inr List.mem_cons_self
      · exact .inr (List.mem_cons_of_mem _ z)
  intro q h
  rcases this qs [] q h with z | z
  · simp at z
  · exact z
theorem kept_nd (qs : List (List Int × Int)) : ((keptU qs).map nfU).Nodup := by
  have : ∀ (rs acc : List (List Int × Int)), (acc.map nfU).Nodup → ((rs.foldl (fun acc q => if nfU q ∈ acc.map nfU then acc else acc ++ [q]) acc).map nfU).Nodup := fun rs => by
    induction rs with
    | nil => exact fun acc h => h
    | cons r t ih =>
      intro acc h
      rw [List.foldl_cons]
      refine ih _ ?_
      split
      · exact h
      · rename_i nin
        rw [List.map_append]
        exact nodup_snoc.mpr ⟨h, nin⟩
  exact this qs [] List.nodup_nil
theorem kept_len (qs : List (List Int × Int)) : (keptU qs).length ≤ qs.length := by
  have : ∀ (rs acc : List (List Int × Int)), (rs.foldl (fun acc q => if nfU q ∈ acc.map nfU then acc else acc ++ [q]) acc).length ≤ acc.length + rs.length := fun rs => by
    induction rs with
    | nil => exact fun acc => Nat.le_refl _
    | cons r t ih =>
      intro acc
      rw [List.foldl_cons]
      refine Nat.le_trans (ih _) ?_
      split
      · rw [List.length_cons]; omega
      · rw [List.length_append, List.length_cons, List.length_cons]; show acc.length + 1 + _ ≤ _; omega
  have := this qs []
  simpa [keptU] using this
/-- what is told is a book -/
theorem made_ok {n : Nat} {qs : List (List Int × Int)} (n1 : 1 ≤ n) (n8 : n ≤ 8) (h : ∀ q, q ∈ qs → QOk q ∧ q.1.length = n) (l8 : qs.length ≤ 8) : BOk n ((keptU qs).map divU) := by
  refine ⟨n1, n8, by rw [List.length_map]; exact Nat.le_trans (kept_len qs) l8, fun q hq => ?_, ?_⟩
  · obtain ⟨p, hp, rfl⟩ := List.mem_map.mp hq
    obtain ⟨po, pl⟩ := h p (kept_sub qs p hp)
    exact ⟨po.div, by show (List.map _ p.1).length = n; rw [List.length_map]; exact pl⟩
  · have : ((keptU qs).map divU).map nfU = (keptU qs).map nfU := by
      rw [List.map_map]
      exact List.map_congr_left fun q hq => nf_div (h q (kept_sub qs q hq)).1
    rw [this]
    exact kept_nd qs
/-- of a book made before it is the same -/
theorem kept_book {qs : List (List Int × Int)} (h : (qs.map nfU).Nodup) : keptU qs = qs := by
  have : ∀ (rs acc : List (List Int × Int)), ((acc ++ rs).map nfU).Nodup → rs.foldl (fun acc q => if nfU q ∈ acc.map nfU then acc else acc ++ [q]) acc = acc ++ rs := fun rs => by
    induction rs with
    | nil => intro acc _; simp
    | cons r t ih =>
      intro acc hn
      rw [List.foldl_cons, if_neg ?_, ih (acc ++ [r]) (by rw [List.append_assoc]; exact hn), List.append_assoc]
      · rfl
      · rw [List.map_append, List.nodup_append] at hn
        exact fun z => hn.2.2 _ z _ (List.mem_map.mpr ⟨r, List.mem_cons_self, rfl⟩) rfl
  exact this qs [] h
end SB
namespace SB
open PySem L2 GxR GA RZ
/-! ### powers of wide ints -/
def CPowW (i j : Int) : Prop := 0 ≤ j ∧ j ≤ 100 ∧ i.natAbs.log2 < 10000
theorem op_powW {X : Cx} : OpR X (binaryOp .Pow) (rI CPowW fun i j => .int (i ^ j.toNat)) := opI fun i j _ _ _ _ _ hc q => PyProof.Rows.pow_int hc.1 (by
  have b : (Builtin.Int.intBits i : Nat) ≤ i.natAbs.log2 + 1 := by
    unfold Builtin.Int.intBits
    split <;> omega
  have l := hc.2.2
  have h0 := hc.1
  have h1 := hc.2.1
  have h2 : ((Builtin.Int.intBits i : Nat) : Int) ≤ 10000 := by omega
  calc ((Builtin.Int.intBits i : Nat) : Int) * j ≤ 10000 * j := Int.mul_le_mul_of_nonneg_right h2 h0
    _ ≤ 10000 * 100 := Int.mul_le_mul_of_nonneg_left h1 (by decide)
    _ ≤ 2 ^ 27 := by decide) q
theorem wide_pow {i : Int} {a : Nat} {j : Int} (ha : i.natAbs < 2 ^ a) (h0 : 0 < a) (h : a ≤ 9000) (j0 : 0 ≤ j) (j1 : j ≤ 100) : CPowW i j := ⟨j0, j1, Nat.lt_of_lt_of_le (PySem.Flt.log2_lt_of h0 ha) (by omega)⟩
/-! ### the stock: what draws come from -/
def Stk (d : Addr) (m : Nat) (H : Hp) : Prop := ∃ a b c : Int, H d = some (.lst [.int a, .int b, .int c]) ∧ 0 ≤ b ∧ b < 2 ^ 94 ∧ 0 ≤ c ∧ c ≤ m
theorem Stk.more {d : Addr} {m k : Nat} {H : Hp} (h : Stk d m H) (l : m ≤ k) : Stk d k H := let ⟨a, b, c, e, h0, h1, h2, h3⟩ := h; ⟨a, b, c, e, h0, h1, h2, by omega⟩
theorem Stk.gr {d : Addr} {m : Nat} {H H' : Hp} (h : Stk d m H) (g : Gr H H') : Stk d m H' := let ⟨a, b, c, e, r⟩ := h; ⟨a, b, c, g.keep _ _ (fun _ z => nomatch z) e, r⟩
theorem Stk.ne {d p : Addr} {m : Nat} {H : Hp} (h : Stk d m H) (n : H p = none) : p ≠ d := fun e => by
  obtain ⟨a, b, c, z, _⟩ := h
  rw [← e, n] at z
  cases z
theorem Stk.off {d p : Addr} {m : Nat} {H : Hp} {o : HO} (h : Stk d m H) (n : p ≠ d) : Stk d m (upd H p o) := let ⟨a, b, c, e, r⟩ := h; ⟨a, b, c, by rw [upd_ne (Ne.symm n)]; exact e, r⟩
theorem GrD.sk {K : PySem.W.Frag} {d : Addr} {m : Nat} {H H' : Hp} (g : GrD d H H') (h : Stk d m H) : Tst K H H' := fun a xs q => by
  obtain ⟨u, v, c, e, _⟩ := h
  exact g.seqT e q
def spPick : Sp := fun vs H Q _ => ∃ (d : Addr) (many : Int) (m : Nat), vs = [.ref d, .int many] ∧ Stk d m H ∧ m ≤ 1000000 ∧ 1 ≤ many ∧ many.natAbs < 2 ^ 8000 ∧
  ∀ (t : Int) H', 0 ≤ t → t < many → GrD d H H' → Stk d (m + 1) H' → Q (.int t) H'

theorem GrDL.lst {d : Addr} {H H' : Hp} (g : GrD d H H') {a : Addr} {xs : List V} (n : a ≠ d) (h : H a = some (.lst xs)) : H' a = some (.lst xs) := g.keep a _ n (fun _ z => nomatch z) h
theorem Gr.lstK {H H' : Hp} (g : Gr H H') {a : Addr} {xs : List V} (h : H a = some (.lst xs)) : H' a = some (.lst xs) := g.keep a _ (fun _ z => nomatch z) h
theorem op_isB {X : Cx} : OpR X (compareOp .Is) (fun x y H Q => ∃ c d, x = .bl c ∧ y = .bl d ∧ Q (.bl (decide (c = d))) H) := by
  intro pins s σ H x y v u Q I rx ry h
  obtain ⟨c, d, rfl, rfl, q⟩ := h
  cases rx
  cases ry
  refine PyProof.Rows.is_bool ?_
  have e : (c == d) = decide (c = d) := by cases c <;> cases d <;> rfl
  rw [e]
  exact ⟨.bl _, H, I, rfl, q⟩
theorem all_true : ∀ {ys : List V}, (∀ (i : Nat) (y : V), ys[i]? = some y → y = .bl true) → ys = (List.replicate ys.length true).map V.bl
  | [], _ => rfl
  | y :: r, h => by
    have e := h 0 y rfl
    have t := all_true (ys := r) fun i y e => h (i + 1) y (by simpa using e)
    rw [List.length_cons, List.replicate_succ, List.map_cons, ← t, e]
theorem rep_all (n : Nat) : (List.replicate n true).all id = true := by
  rw [List.all_eq_true]
  intro x hx
  exact (List.mem_replicate.mp hx).2
end SB
namespace SB
open PySem L2 GxR GA RZ
/-! ### the well: what draws come from -/
def spWell (K : PySem.W.Frag) : Sp := fun vs H Q _ => ∃ (l : Addr) (ns : List Int) (k : Int), vs = [.ref l, .int k] ∧ SqL K H l (ns.map V.int) ∧ ns.length ≤ 63 ∧ 0 ≤ k ∧ k < 1000 ∧
  ∀ (p : Addr) (a b : Int), H p = none → 0 ≤ b → b < 2 ^ 94 → Q (.ref p) (upd H p (.lst [.int a, .int b, .int 0]))
section
variable {P : Program} {w : World} {K : PySem.W.Frag} {mg : Str → Option Value} {base : Heap}
theorem sc_well : FnScope ["script", "place", "cell"] ["script", "place"] (defScope s__law_well) := ⟨rfl, rfl, rfl, by decide +kernel, rfl, by decide +kernel, by decide +kernel⟩
theorem cl_well (D : Df K mg "_law_well" s__law_well) (B : Blt mg) : Cl P w K mg base 1 "_law_well" ["script", "place"] (spWell K) := by
  refine D.cl (fun _ _ _ _ _ _ us hl => match us, hl with | [_, _], _ => rfl) fun f fd F => F.ok sc_well (fun vs H Q E h => ?_) (fun cdv A outer s H vs Q E hr h => ?_)
  · obtain ⟨l, ns, k, rfl, _⟩ := h
    rfl
  obtain ⟨l, ns, k, rfl, hS, h63, h0, h1, q⟩ := h
  refine ⟨_, (pss_cons (ps_set (i := 2) sc_well.nd rfl (.inl rfl) (pe_ifExp (pt_cmpR op_lt (pv 1) (pe_len (pv 0) B.len) (nomark _)) (pe_callTy call_int1 rfl B.int PyProof.Rows.boot_int (pa_cons (pe_ix ix_list (pv 0) (pv 1) (fun _ _ => rfl)) pa_nil)) (pe_op op_add (pe_op op_mul (pv 1) pe_int) (pe_op op_mul (pe_len (pv 0) B.len) pe_int))))
    (pss_one (ps_ret (pe_lst (pa_cons (pe_callB (call_max2 rfl) rfl B.max PyProof.Rows.boot_max (pa_cons pe_int (pa_cons (pe_op op_sub (pe_callB call_abs rfl B.abs PyProof.Rows.boot_abs (pa_cons (pv 2) pa_nil)) (pe_op op_pow pe_int pe_int)) pa_nil))) (pa_cons (pe_op op_mod (pe_callTy call_int1 rfl B.int PyProof.Rows.boot_int (pa_cons (pe_op op_add (pe_op op_add (pe_op op_mul (pv 2) pe_int) (pe_op op_mul (pv 1) pe_int)) pe_int) pa_nil)) (pe_op op_add (pe_op op_pow pe_int pe_int) pe_int)) (pa_cons pe_int pa_nil))))))), ?_⟩
  have hl : (ns.map V.int).length = ns.length := List.length_map _
  have fin : ∀ z m : Int, ∀ p, H p = none → Q (.ref p) (upd H p (.lst [.int m, .int ((z * 86028157 + k * 179424691 + 7919) % (10 ^ (25 : Int).toNat + 13)), .int 0])) := fun z m p hp => q p _ _ hp (modB _ (by decide)).1 (Int.lt_trans (modB _ (by decide)).2 (by decide))
  refine ⟨_, rfl, _, rfl, l, _, rfl, .inl hS, _, _, rfl, rfl, _, rfl, ?_⟩
  refine ite2 (fun c => ?_) (fun c => ?_)
  · have c' : k < (((ns.map V.int).length : Nat) : Int) := of_decide_eq_true c
    rw [hl] at c'
    obtain ⟨z, hz⟩ := atL h0 c'
    refine ⟨_, rfl, _, rfl, l, _, _, _, rfl, rfl, hS, hz, .inl ⟨_, rfl, ?_⟩⟩
    refine ⟨_, rfl, _, rfl, _, _, rfl, rfl, ⟨by decide, by decide, by decide⟩, _, _, rfl, rfl, _, _, rfl, ?_⟩
    refine ⟨_, rfl, _, _, rfl, rfl, .inr ⟨by decide, by decide⟩, _, rfl, _, _, rfl, rfl, .inr ⟨by decide, by decide⟩, _, _, rfl, rfl, _, _, rfl, rfl, .inl ⟨_, rfl, _, _, rfl, rfl, ⟨by decide, by decide, by decide⟩, _, _, rfl, rfl, _, _, rfl, rfl, (by show (0 : Int) < _; decide), (by show 3 ≤ sizeLine; decide), fun p hp => fin z _ p hp⟩⟩
  · refine ⟨_, rfl, _, _, rfl, rfl, .inr (by decide), _, rfl, l, _, rfl, .inl hS, _, _, rfl, rfl, .inr (by decide), _, _, rfl, rfl, ?_⟩
    refine ⟨_, rfl, _, rfl, _, _, rfl, rfl, ⟨by decide, by decide, by decide⟩, _, _, rfl, rfl, _, _, rfl, ?_⟩
    refine ⟨_, rfl, _, _, rfl, rfl, .inr ⟨by decide, by decide⟩, _, rfl, _, _, rfl, rfl, .inr ⟨by decide, by decide⟩, _, _, rfl, rfl, _, _, rfl, rfl, .inl ⟨_, rfl, _, _, rfl, rfl, ⟨by decide, by decide, by decide⟩, _, _, rfl, rfl, _, _, rfl, rfl, (by show (0 : Int) < _; decide), (by show 3 ≤ sizeLine; decide), fun p hp => fin _ _ p hp⟩⟩
theorem sc_draw : FnScope ["well", "many", "found", "mixed"] ["well", "many"] (defScope s__law_draw) := ⟨rfl, rfl, rfl, by decide +kernel, rfl, by decide +kernel, by decide +kernel⟩
theorem cl_draw (D : Df K mg "_law_draw" s__law_draw) (B : Blt mg) : Cl P w K mg base 1 "_law_draw" ["well", "many"] spPick := by
  refine D.cl (fun _ _ _ _ _ _ us hl => match us, hl with | [_, _], _ => rfl) fun f fd F => F.ok sc_draw (fun vs H Q E h => ?_) (fun cdv A outer s H vs Q E hr h => ?_)
  · obtain ⟨d, many, m, rfl, _⟩ := h
    rfl
  obtain ⟨d, many, m, rfl, ⟨a, b, c, hd, hb0, hb1, hc0, hc1⟩, mm, m1, mb, q2⟩ := h
  have q : ∀ t a' c' : Int, 0 ≤ t → t < many → 0 ≤ c' → c' ≤ c + 1 → Q (.int t) (upd H d (.lst [.int a', .int b, .int c'])) := fun t a' c' t0 t1 h0 h1 => q2 t _ t0 t1 ((GrD.refl d H).set _) ⟨a', b, c', upd_same, hb0, hb1, h0, by omega⟩
  have hdL : SqL K H d [.int a, .int b, .int c] := SqL.of hd
  refine ⟨_, (pss_cons (ps_if (pt_cmpR op_gt (pe_ix ix_list (pv 0) pe_int (fun _ _ => rfl)) pe_int (nomark _)) (pss_cons (ps_set (i := 2) sc_draw.nd rfl (.inl rfl) (pe_op op_mod (pe_callTy call_int1 rfl B.int PyProof.Rows.boot_int (pa_cons (pe_ix ix_list (pv 0) pe_int (fun _ _ => rfl)) pa_nil)) (pv 1)))
      (pss_cons (ps_asg (pe_op op_fdivW (pe_ix ix_list (pv 0) pe_int (fun _ _ => rfl)) (pv 1)) (pg_sub (pv 0) pe_int set_list))
      (pss_one (ps_ret (pv 2))))) pss_nil)
    (pss_cons (ps_asg (pe_op op_add (pe_ix ix_list (pv 0) pe_int (fun _ _ => rfl)) pe_int) (pg_sub (pv 0) pe_int set_list))
    (pss_cons (ps_set (i := 3) sc_draw.nd rfl (.inl rfl) (pe_op op_mod (pe_callTy call_int1 rfl B.int PyProof.Rows.boot_int (pa_cons (pe_op op_powW (pe_op op_add (pe_ix ix_list (pv 0) pe_int (fun _ _ => rfl)) (pe_op op_mul pe_int (pe_ix ix_list (pv 0) pe_int (fun _ _ => rfl)))) pe_int) pa_nil)) (pe_op op_add (pe_op op_pow pe_int pe_int) pe_int)))
    (pss_cons (ps_set (i := 3) sc_draw.nd rfl (.inl rfl) (pe_op op_mod (pe_callTy call_int1 rfl B.int PyProof.Rows.boot_int (pa_cons (pe_op op_powW (pe_op op_add (pv 3) pe_int) pe_int) pa_nil)) (pe_op op_add (pe_op op_pow pe_int pe_int) pe_int)))
    (pss_one (ps_ret (pe_op op_mod (pe_callTy call_int1 rfl B.int PyProof.Rows.boot_int (pa_cons (pe_op op_fdivW (pv 3) (pe_op op_pow pe_int pe_int)) pa_nil)) (pv 1)))))))), ?_⟩
  have mw : CDivW 0 many := wide_div (b := 8000) (by omega) mb (by decide) (by decide)
  refine ⟨_, rfl, d, _, _, _, rfl, rfl, hdL, rfl, _, _, rfl, rfl, _, rfl, ?_⟩
  refine ite2 (fun c0 => ?_) (fun c0 => ?_)
  · refine ⟨_, rfl, d, _, _, _, rfl, rfl, hdL, rfl, .inl ⟨_, rfl, _, rfl, _, _, rfl, rfl, (by show (0 : Int) < many; omega), ?_⟩⟩
    refine ⟨_, rfl, d, _, _, _, rfl, rfl, hdL, rfl, _, rfl, _, _, rfl, rfl, mw, ?_⟩
    refine ⟨_, rfl, d, _, _, _, rfl, rfl, hd, rfl, _, rfl, ?_⟩
    obtain ⟨t0, t1⟩ := modB a (m := many) (by omega)
    exact q _ _ _ t0 t1 hc0 (by omega)
  · refine ⟨_, rfl, d, _, _, _, rfl, rfl, hdL, rfl, _, _, rfl, rfl, ?_⟩
    refine ⟨_, rfl, d, _, _, _, rfl, rfl, hd, rfl, ?_⟩
    refine ⟨_, rfl, d, _, _, _, rfl, rfl, SqL.of upd_same, rfl, _, rfl, d, _, _, _, rfl, rfl, SqL.of upd_same, rfl, _, _, rfl, rfl, .inl (by decide), _, _, rfl, rfl, _, _, rfl, rfl, wide_pow (a := 100) ?_ (by decide) (by decide) (by decide) (by decide), .inl ⟨_, rfl, _, _, rfl, rfl, ⟨by decide, by decide, by decide⟩, _, _, rfl, rfl, _, _, rfl, rfl, (by show (0 : Int) < _; decide), ?_⟩⟩
    · omega
    have u0 := (modB ((b + 49979693 * (c + 1)) ^ (3 : Int).toNat) (m := 10 ^ (29 : Int).toNat + 319) (by decide)).1
    have u1 := (modB ((b + 49979693 * (c + 1)) ^ (3 : Int).toNat) (m := 10 ^ (29 : Int).toNat + 319) (by decide)).2
    have u2 : (10 ^ (29 : Int).toNat + 319 : Int) < 2 ^ 98 := by decide
    refine ⟨_, rfl, _, _, rfl, rfl, _, _, rfl, rfl, wide_pow (a := 100) ?_ (by decide) (by decide) (by decide) (by decide), .inl ⟨_, rfl, _, _, rfl, rfl, ⟨by decide, by decide, by decide⟩, _, _, rfl, rfl, _, _, rfl, rfl, (by show (0 : Int) < _; decide), ?_⟩⟩
    · generalize (b + 49979693 * (c + 1)) ^ (3 : Int).toNat % (10 ^ (29 : Int).toNat + 319) = y at u0 u1
      omega
    refine ⟨_, rfl, _, _, rfl, rfl, ⟨by decide, by decide, by decide⟩, _, _, rfl, rfl, wide_div (b := 34) (by decide) (by decide) (by decide) (by decide), .inl ⟨_, rfl, _, rfl, _, _, rfl, rfl, (by show (0 : Int) < many; omega), ?_⟩⟩
    exact q _ _ _ (modB _ (by omega)).1 (modB _ (by omega)).2 (by omega) (by omega)
end
end SB
namespace SB
open PySem L2 GxR GA RZ
/-- a list of n things told one by one -/
theorem lc_rng {K : PySem.W.Frag} {lo : Int} {n : Nat} {g : TG} {te : TE} {vs : List Nat} {σ : L2.St} {H1 : Hp} {D : Addr} {Qd : Hp → Prop} (R : Nat → V → Hp → Prop) (hst : ∀ i y H H', R i y H → Tst K H H' → R i y H') (nD : H1 D = none) (hz : n ≤ 1000)
    (step : ∀ (i : Nat) H (Kc : VK), i < n → Gr H1 H → (∀ y H4, Gr H H4 → R i y H4 → Kc y H4) → g (.int (lo + i)) (wipe σ vs) H fun σ2 H2 => wipe σ2 vs = wipe σ vs ∧ te σ2 H2 Kc)
    (fin : ∀ ys H, H D = some (.lst ys) → ys.length = n → Gr H1 H → (∀ i y, ys[i]? = some y → R i y H) → Qd H) :
    ∃ W : Nat → Nat → Hp → Prop, (∃ m, W 0 m (upd H1 D (.lst []))) ∧ ∀ i m H, W i m H → ((Itr lo n).stop i H ∧ Qd H) ∨
      ((Itr lo n).go i H ∧ ∃ Nx : Hp → Prop, (∀ H', Nx H' → ∃ m', m' < m ∧ W (i + 1) m' H') ∧ ∀ x H', (Itr lo n).yld i H x H' → g x (wipe σ vs) H' fun σ2 H2 => wipe σ2 vs = wipe σ vs ∧ tYes σ2 H2 fun b H3 =>
        if b = true then te σ2 H3 fun y H4 => ∃ acc, H4 D = some (.lst acc) ∧ acc.length < sizeLine ∧ Nx (upd H4 D (.lst (acc ++ [y]))) else Nx H3) := by
  refine ⟨fun i m H => i + m = n ∧ ∃ ys, H D = some (.lst ys) ∧ ys.length = i ∧ GrD D H1 H ∧ ∀ j y, ys[j]? = some y → R j y H, ⟨n, Nat.zero_add _, [], upd_same, rfl, (GrD.refl D H1).set _, fun j y h => by simp at h⟩, fun i m H ⟨hm, ys, hD, hy, gr, hR⟩ => ?_⟩
  cases m with
  | zero => exact .inl ⟨(by show n ≤ i; omega), fin ys H hD (by omega) (gr.to nD) hR⟩
  | succ m =>
    refine .inr ⟨(by show i < n; omega), fun H' => ∃ ys, H' D = some (.lst ys) ∧ ys.length = i + 1 ∧ GrD D H1 H' ∧ ∀ j y, ys[j]? = some y → R j y H', fun H' h => ⟨m, Nat.lt_succ_self _, by omega, h⟩, fun x H' hyl => ?_⟩
    obtain ⟨rfl, rfl⟩ := hyl
    refine step i H' _ (by omega) (gr.to nD) fun y H4 g4 r4 => ?_
    have hD4 : H4 D = some (.lst ys) := g4.keep D _ (fun _ z => nomatch z) hD
    have tp : Tst K H4 (upd H4 D (.lst (ys ++ [y]))) := Tst.put hD4
    refine ⟨ys, hD4, small1000 (by omega), ys ++ [y], upd_same, by rw [List.length_append, hy]; rfl, (gr.trans (g4.d D)).set _, fun j z hz => ?_⟩
    by_cases hj : j < ys.length
    · rw [List.getElem?_append_left hj] at hz
      exact hst _ _ _ _ (hR j z hz) ((Gr.st g4).trans tp)
    · have hl := (List.getElem?_eq_some_iff.mp hz).1
      rw [List.length_append] at hl
      have hl : j < ys.length + 1 := hl
      have ej : j = ys.length := by omega
      subst ej
      rw [List.getElem?_append_right (Nat.le_refl _), Nat.sub_self] at hz
      cases hz
      rw [hy]
      exact hst _ _ _ _ r4 tp
/-- a list of n things drawn, c draws each -/
theorem lc_stkR {K : PySem.W.Frag} {d : Addr} {k c : Nat} {lo : Int} {n : Nat} {g : TG} {te : TE} {vs : List Nat} {σ : L2.St} {H1 : Hp} {D : Addr} {Qd : Hp → Prop} (R : Nat → V → Hp → Prop) (hst : ∀ i y H H', R i y H → Tst K H H' → R i y H') (nD : H1 D = none) (dk : Stk d k H1) (hz : n ≤ 1000)
    (step : ∀ (i : Nat) H (Kc : VK), i < n → GrD d H1 H → Stk d (k + c * i) H → (∀ y H4, GrD d H H4 → Stk d (k + c * i + c) H4 → R i y H4 → Kc y H4) → g (.int (lo + i)) (wipe σ vs) H fun σ2 H2 => wipe σ2 vs = wipe σ vs ∧ te σ2 H2 Kc)
    (fin : ∀ ys H, H D = some (.lst ys) → ys.length = n → GrD d H1 H → Stk d (k + c * n) H → (∀ i y, ys[i]? = some y → R i y H) → Qd H) :
    ∃ W : Nat → Nat → Hp → Prop, (∃ m, W 0 m (upd H1 D (.lst []))) ∧ ∀ i m H, W i m H → ((Itr lo n).stop i H ∧ Qd H) ∨
      ((Itr lo n).go i H ∧ ∃ Nx : Hp → Prop, (∀ H', Nx H' → ∃ m', m' < m ∧ W (i + 1) m' H') ∧ ∀ x H', (Itr lo n).yld i H x H' → g x (wipe σ vs) H' fun σ2 H2 => wipe σ2 vs = wipe σ vs ∧ tYes σ2 H2 fun b H3 =>
        if b = true then te σ2 H3 fun y H4 => ∃ acc, H4 D = some (.lst acc) ∧ acc.length < sizeLine ∧ Nx (upd H4 D (.lst (acc ++ [y]))) else Nx H3) := by
  have nd := dk.ne nD
  refine ⟨fun i m H => i + m = n ∧ ∃ ys, H D = some (.lst ys) ∧ ys.length = i ∧ GrD d H1 H ∧ Stk d (k + c * i) H ∧ ∀ j y, ys[j]? = some y → R j y H, ⟨n, Nat.zero_add _, [], upd_same, rfl, (GrD.refl d H1).put nD _, dk.off nd, fun j y h => by simp at h⟩, fun i m H ⟨hm, ys, hD, hy, gr, dk', hR⟩ => ?_⟩
  cases m with
  | zero =>
    have e : i = n := by omega
    subst e
    exact .inl ⟨(by show i ≤ i; omega), fin ys H hD (by omega) gr dk' hR⟩
  | succ m =>
    refine .inr ⟨(by show i < n; omega), fun H' => ∃ ys, H' D = some (.lst ys) ∧ ys.length = i + 1 ∧ GrD d H1 H' ∧ Stk d (k + c * (i + 1)) H' ∧ ∀ j y, ys[j]? = some y → R j y H', fun H' h => ⟨m, Nat.lt_succ_self _, by omega, h⟩, fun x H' hyl => ?_⟩
    obtain ⟨rfl, rfl⟩ := hyl
    refine step i H' _ (by omega) gr dk' fun y H4 g4 dk4 r4 => ?_
    have hD4 : H4 D = some (.lst ys) := g4.keep D _ nd (fun _ z => nomatch z) hD
    have tp : Tst K H4 (upd H4 D (.lst (ys ++ [y]))) := Tst.put hD4
    refine ⟨ys, hD4, small1000 (by omega), ys ++ [y], upd_same, by rw [List.length_append, hy]; rfl, (gr.trans g4).put nD _, (dk4.off nd).more (by rw [Nat.mul_succ]; omega), fun j z hz => ?_⟩
    by_cases hj : j < ys.length
    · rw [List.getElem?_append_left hj] at hz
      exact hst _ _ _ _ (hR j z hz) ((g4.sk dk').trans tp)
    · have hl := (List.getElem?_eq_some_iff.mp hz).1
      rw [List.length_append] at hl
      have hl : j < ys.length + 1 := hl
      have ej : j = ys.length := by omega
      subst ej
      rw [List.getElem?_append_right (Nat.le_refl _), Nat.sub_self] at hz
      cases hz
      rw [hy]
      exact hst _ _ _ _ r4 tp
/-- a list of n truths, each True -/
theorem lc_rngB {K : PySem.W.Frag} {lo : Int} {n : Nat} {g : TG} {te : TE} {vs : List Nat} {σ : L2.St} {H1 : Hp} {D : Addr} {Qd : Hp → Prop} (nD : H1 D = none) (hz : n ≤ sizeLine)
    (step : ∀ (i : Nat) H (Kc : VK), i < n → Gr H1 H → (∀ H4, Gr H H4 → Kc (.bl true) H4) → g (.int (lo + i)) (wipe σ vs) H fun σ2 H2 => wipe σ2 vs = wipe σ vs ∧ te σ2 H2 Kc)
    (fin : ∀ H, H D = some (.lst ((List.replicate n true).map V.bl)) → Gr H1 H → Qd H) :
    ∃ W : Nat → Nat → Hp → Prop, (∃ m, W 0 m (upd H1 D (.lst []))) ∧ ∀ i m H, W i m H → ((Itr lo n).stop i H ∧ Qd H) ∨
      ((Itr lo n).go i H ∧ ∃ Nx : Hp → Prop, (∀ H', Nx H' → ∃ m', m' < m ∧ W (i + 1) m' H') ∧ ∀ x H', (Itr lo n).yld i H x H' → g x (wipe σ vs) H' fun σ2 H2 => wipe σ2 vs = wipe σ vs ∧ tYes σ2 H2 fun b H3 =>
        if b = true then te σ2 H3 fun y H4 => ∃ acc, H4 D = some (.lst acc) ∧ acc.length < sizeLine ∧ Nx (upd H4 D (.lst (acc ++ [y]))) else Nx H3) := by
  refine ⟨fun i m H => i + m = n ∧ H D = some (.lst ((List.replicate i true).map V.bl)) ∧ GrD D H1 H, ⟨n, Nat.zero_add _, upd_same, (GrD.refl D H1).set _⟩, fun i m H ⟨hm, hD, gr⟩ => ?_⟩
  cases m with
  | zero =>
    have e : i = n := by omega
    subst e
    exact .inl ⟨(by show i ≤ i; omega), fin H hD (gr.to nD)⟩
  | succ m =>
    refine .inr ⟨(by show i < n; omega), fun H' => H' D = some (.lst ((List.replicate (i + 1) true).map V.bl)) ∧ GrD D H1 H', fun H' h => ⟨m, Nat.lt_succ_self _, by omega, h⟩, fun x H' hyl => ?_⟩
    obtain ⟨rfl, rfl⟩ := hyl
    refine step i H' _ (by omega) (gr.to nD) fun H4 g4 => ?_
    have hD4 : H4 D = some (.lst ((List.replicate i true).map V.bl)) := g4.keep D _ (fun _ z => nomatch z) hD
    refine ⟨_, hD4, by rw [List.length_map, List.length_replicate]; omega, ?_, (gr.trans (g4.d D)).set _⟩
    rw [upd_same, List.replicate_succ', List.map_append]
    rfl
section
variable {P : Program} {w : World} {K : PySem.W.Frag} {mg : Str → Option Value} {base : Heap}
theorem sc_wsame : FnScope ["told", "due", "k"] ["told", "due"] (defScope s__law_same) := ⟨rfl, rfl, rfl, by decide +kernel, rfl, by decide +kernel, by decide +kernel⟩
theorem len_rngZ {n : Nat} (h : n ≤ 1000) : -(2 ^ 62) ≤ ((n : Nat) : Int) ∧ ((n : Nat) : Int) < 2 ^ 62 := len_rng (szN (by omega))
theorem ok_wsame {n : Nat} {f g : Addr} {fd gd : FuncData} (F : Fun K "_law_same" "_law_same" s__law_same f fd) (B : Blt mg) (G : FnOk P w K mg base CX0 n g gd ["told", "due"] (spSame K n)) (bG : Binds K gd ["told", "due"] []) (kG : PySem.W.keepIn K (.ref g) = true) (mG : mg "_law_same" = some (.ref g)) :
    FnOk P w K mg base CX0 (n + 1) f fd ["told", "due"] (spSame K (n + 1)) := by
  refine F.ok sc_wsame (fun vs H Q E h => ?_) (fun cdv A outer s H vs Q E hr h => ?_)
  · obtain ⟨x, y, rfl, _⟩ := h
    rfl
  obtain ⟨x, y, rfl, ha, q⟩ := h
  refine ⟨_, (pss_cons (ps_if (pt_cmp (pc_isN (pv 1))) (pss_one (ps_ret (pe_cmp (pc_isN (pv 0))))) pss_nil)
    (pss_cons (ps_if (pt_val (pe_callB call_isi rfl B.isi PyProof.Rows.boot_isinstance (pa_cons (pv 1) (pa_cons (pe_bltn (v := .ty "bool") rfl B.bool bootBool rfl) pa_nil)))) (pss_one (ps_ret (pe_ifExp (pt_val (pv 1)) (pe_cmpR op_isB (pv 0) pe_bl (nomark _)) (pe_cmpR op_isB (pv 0) pe_bl (nomark _))))) pss_nil)
    (pss_cons (ps_if (pt_val (pe_callB call_isi rfl B.isi PyProof.Rows.boot_isinstance (pa_cons (pv 1) (pa_cons (pe_bltn (v := .ty "int") rfl B.int PyProof.Rows.boot_int rfl) pa_nil)))) (pss_one (ps_ret (pe_and (pe_callB call_isi rfl B.isi PyProof.Rows.boot_isinstance (pa_cons (pv 0) (pa_cons (pe_bltn (v := .ty "int") rfl B.int PyProof.Rows.boot_int rfl) pa_nil))) (pe_and (pe_not (pe_callB call_isi rfl B.isi PyProof.Rows.boot_isinstance (pa_cons (pv 0) (pa_cons (pe_bltn (v := .ty "bool") rfl B.bool bootBool rfl) pa_nil)))) (pe_one (pe_cmpR op_eq (pv 0) (pv 1) (nomark _))))))) pss_nil)
    (pss_cons (ps_if (pt_val (pe_callB call_isi rfl B.isi PyProof.Rows.boot_isinstance (pa_cons (pv 1) (pa_cons (pe_bltn (v := .ty "str") rfl B.str bootStr rfl) pa_nil)))) (pss_one (ps_ret (pe_and (pe_callB call_isi rfl B.isi PyProof.Rows.boot_isinstance (pa_cons (pv 0) (pa_cons (pe_bltn (v := .ty "str") rfl B.str bootStr rfl) pa_nil))) (pe_one (pe_cmpR op_eq (pv 0) (pv 1) (nomark _)))))) pss_nil)
    (pss_cons (ps_if (PW.pt (by exact (pw_or (pt_cmpR op_ne (pe_callB call_isi rfl B.isi PyProof.Rows.boot_isinstance (pa_cons (pv 1) (pa_cons (pe_bltn (v := .ty "tuple") rfl B.tup bootTup rfl) pa_nil))) (pe_callB call_isi rfl B.isi PyProof.Rows.boot_isinstance (pa_cons (pv 0) (pa_cons (pe_bltn (v := .ty "tuple") rfl B.tup bootTup rfl) pa_nil))) (nomark _)) (pw_or1 (pt_cmpR op_ne (pe_callB call_isi rfl B.isi PyProof.Rows.boot_isinstance (pa_cons (pv 1) (pa_cons (pe_bltn (v := .ty "list") rfl B.lst bootLst rfl) pa_nil))) (pe_callB call_isi rfl B.isi PyProof.Rows.boot_isinstance (pa_cons (pv 0) (pa_cons (pe_bltn (v := .ty "list") rfl B.lst bootLst rfl) pa_nil))) (nomark _)))))) (pss_one (ps_ret pe_bl)) pss_nil)
    (pss_one (ps_ret (pe_and (pe_cmpR op_eq (pe_len (pv 0) B.len) (pe_len (pv 1) B.len) (nomark _)) (pe_one (pe_callB (cr_all rfl) rfl B.all PyProof.Rows.boot_all (pa_cons (pe_lc (own := [("k", 2)]) (g := gName 2) rfl sc_wsame.nd (pi_range1 rfl B.rng (pa_cons (pe_len (pv 1) B.len) pa_nil)) (blkOk_by (N := ["told", "due", "k"]) (sc := defScope s__law_same) (by decide +kernel)) (fun _ _ _ _ _ => (pg_name (i := 2) sc_wsame.nd rfl (Or.inl rfl))) (fun _ _ _ _ _ => pts_nil) (fun _ _ _ _ _ => (pe_call G hr rfl mG kG bG .nil pass0 (pa_cons (pe_ix (r := rIx K) ix_seq (pv 0) (pv 2) (fun _ _ => rfl)) (pa_cons (pe_ix (r := rIx K) ix_seq (pv 1) (pv 2) (fun _ _ => rfl)) pa_nil))))) pa_nil))))))))))), ?_⟩
  rcases ha with ⟨rfl, hs⟩ | ⟨a, b, xs, ys, rfl, rfl, hsz, hsq, hp⟩
  · cases x with
    | non => exact ⟨_, rfl, _, rfl, iteP rfl ⟨_, rfl, qd rfl (q _ (Gr.refl _))⟩⟩
    | bl c =>
      refine ⟨_, rfl, _, rfl, iteN (fun z => nomatch z) ?_⟩
      refine ⟨_, rfl, _, _, _, _, _, rfl, .ty _, .base (.bl c), kit_ty (r := true) (by decide +kernel), _, rfl, iteT ?_⟩
      refine ⟨_, rfl, _, rfl, ?_⟩
      cases c with
      | true => exact iteT ⟨_, rfl, _, _, rfl, rfl, qe (by decide +kernel) (q _ (Gr.refl _))⟩
      | false => exact iteF ⟨_, rfl, _, _, rfl, rfl, qe (by decide +kernel) (q _ (Gr.refl _))⟩
    | int i =>
      refine ⟨_, rfl, _, rfl, iteN (fun z => nomatch z) ?_⟩
      refine ⟨_, rfl, _, _, _, _, _, rfl, .ty _, .base (.int i), kit_ty (r := false) (by decide +kernel), _, rfl, iteF ?_⟩
      refine ⟨_, rfl, _, _, _, _, _, rfl, .ty _, .base (.int i), kit_ty (r := true) (by decide +kernel), _, rfl, iteT ?_⟩
      refine ⟨_, rfl, _, _, _, _, _, rfl, .ty _, .base (.int i), kit_ty (r := true) (by decide +kernel), _, rfl, iteT ?_⟩
      refine ⟨_, rfl, _, _, _, _, _, rfl, .ty _, .base (.int i), kit_ty (r := false) (by decide +kernel), _, rfl, _, rfl, iteT ⟨_, rfl, _, rfl, rfl, qd rfl (q _ (Gr.refl _))⟩⟩
    | str z =>
      refine ⟨_, rfl, _, rfl, iteN (fun z => nomatch z) ?_⟩
      refine ⟨_, rfl, _, _, _, _, _, rfl, .ty _, .base (.str z), kit_ty (r := false) (by decide +kernel), _, rfl, iteF ?_⟩
      refine ⟨_, rfl, _, _, _, _, _, rfl, .ty _, .base (.str z), kit_ty (r := false) (by decide +kernel), _, rfl, iteF ?_⟩
      refine ⟨_, rfl, _, _, _, _, _, rfl, .ty _, .base (.str z), kit_ty (r := true) (by decide +kernel), _, rfl, iteT ?_⟩
      exact ⟨_, rfl, _, _, _, _, _, rfl, .ty _, .base (.str z), kit_ty (r := true) (by decide +kernel), _, rfl, iteT ⟨_, rfl, _, rfl, rfl, qd rfl (q _ (Gr.refl _))⟩⟩
    | byt _ => cases hs
    | flt _ => cases hs
    | ref _ => cases hs
    | ty _ => cases hs
  have hl : xs.length = ys.length := Paired.length hp
  rcases hsq with ⟨h1, h2⟩ | ⟨h1, h2⟩
  · refine ⟨_, rfl, _, rfl, iteN (fun z => nomatch z) ?_⟩
    refine ⟨_, rfl, _, _, _, _, _, rfl, .ty _, tyT h2, kit_ty (r := false) (by decide +kernel), _, rfl, iteF ?_⟩
    refine ⟨_, rfl, _, _, _, _, _, rfl, .ty _, tyT h2, kit_ty (r := false) (by decide +kernel), _, rfl, iteF ?_⟩
    refine ⟨_, rfl, _, _, _, _, _, rfl, .ty _, tyT h2, kit_ty (r := false) (by decide +kernel), _, rfl, iteF ?_⟩
    refine ⟨_, rfl, _, _, _, _, _, rfl, .ty _, tyT h2, kit_ty (r := true) (by decide +kernel), _, rfl, _, _, _, _, _, rfl, .ty _, tyT h1, kit_ty (r := true) (by decide +kernel), rfl, _, rfl, iteNS rfl ?_⟩
    refine ⟨_, rfl, _, _, _, _, _, rfl, .ty _, tyT h2, kit_ty (r := false) (by decide +kernel), _, rfl, _, _, _, _, _, rfl, .ty _, tyT h1, kit_ty (r := false) (by decide +kernel), rfl, _, rfl, iteNS rfl ?_⟩
    refine ⟨_, rfl, _, _, rfl, .inr h1, _, rfl, _, _, rfl, .inr h2, rfl, _, rfl, iteP (congrArg (fun n : Nat => V.int n) hl) ?_⟩
    refine ⟨_, rfl, _, _, rfl, .inr h2, _, rfl, (len_rng hsz).1, (len_rng hsz).2, fun D nD => ?_⟩
    rw [Int.toNat_natCast]
    refine lc_rngB (K := K) (lo := 0) nD hsz (fun i H5 Kc hi g5 kc => ?_) (fun H5 hD g5 => ?_)
    · obtain ⟨v, u, e1, e2, al⟩ := paired_at hp i hi
      have e0 : (0 : Int) + (i : Int) = ((i : Nat) : Int) := Int.zero_add _
      refine ⟨rfl, _, rfl, _, rfl, .inr (.inl ⟨_, _, _, _, rfl, rfl, g5.seqT h1, at_of e0 e1, ?_⟩)⟩
      refine ⟨_, rfl, _, rfl, .inr (.inl ⟨_, _, _, _, rfl, rfl, g5.seqT h2, at_of e0 e2, ?_⟩)⟩
      exact ⟨_, _, rfl, al.gr g5, fun H6 g6 => kc H6 g6⟩
    · exact ⟨D, _, rfl, SqL.of hD, by rw [rep_all]; exact q _ g5⟩
  · refine ⟨_, rfl, _, rfl, iteN (fun z => nomatch z) ?_⟩
    refine ⟨_, rfl, _, _, _, _, _, rfl, .ty _, tyL h2, kit_ty (r := false) (by decide +kernel), _, rfl, iteF ?_⟩
    refine ⟨_, rfl, _, _, _, _, _, rfl, .ty _, tyL h2, kit_ty (r := false) (by decide +kernel), _, rfl, iteF ?_⟩
    refine ⟨_, rfl, _, _, _, _, _, rfl, .ty _, tyL h2, kit_ty (r := false) (by decide +kernel), _, rfl, iteF ?_⟩
    refine ⟨_, rfl, _, _, _, _, _, rfl, .ty _, tyL h2, kit_ty (r := false) (by decide +kernel), _, rfl, _, _, _, _, _, rfl, .ty _, tyL h1, kit_ty (r := false) (by decide +kernel), rfl, _, rfl, iteNS rfl ?_⟩
    refine ⟨_, rfl, _, _, _, _, _, rfl, .ty _, tyL h2, kit_ty (r := true) (by decide +kernel), _, rfl, _, _, _, _, _, rfl, .ty _, tyL h1, kit_ty (r := true) (by decide +kernel), rfl, _, rfl, iteNS rfl ?_⟩
    refine ⟨_, rfl, _, _, rfl, .inl h1, _, rfl, _, _, rfl, .inl h2, rfl, _, rfl, iteP (congrArg (fun n : Nat => V.int n) hl) ?_⟩
    refine ⟨_, rfl, _, _, rfl, .inl h2, _, rfl, (len_rng hsz).1, (len_rng hsz).2, fun D nD => ?_⟩
    rw [Int.toNat_natCast]
    refine lc_rngB (K := K) (lo := 0) nD hsz (fun i H5 Kc hi g5 kc => ?_) (fun H5 hD g5 => ?_)
    · obtain ⟨v, u, e1, e2, al⟩ := paired_at hp i hi
      have e0 : (0 : Int) + (i : Int) = ((i : Nat) : Int) := Int.zero_add _
      refine ⟨rfl, _, rfl, _, rfl, .inl ⟨_, _, _, _, rfl, rfl, g5.seqL h1, at_of e0 e1, ?_⟩⟩
      refine ⟨_, rfl, _, rfl, .inl ⟨_, _, _, _, rfl, rfl, g5.seqL h2, at_of e0 e2, ?_⟩⟩
      exact ⟨_, _, rfl, al.gr g5, fun H6 g6 => kc H6 g6⟩
    · exact ⟨D, _, rfl, SqL.of hD, by rw [rep_all]; exact q _ g5⟩
theorem wsame_all {f : Addr} {fd : FuncData} (F : Fun K "_law_same" "_law_same" s__law_same f fd) (B : Blt mg) (bF : Binds K fd ["told", "due"] []) (mF : mg "_law_same" = some (.ref f)) : ∀ n : Nat, FnOk P w K mg base CX0 n f fd ["told", "due"] (spSame K n)
  | 0 => by
    have no : ∀ vs H Q E, ¬ spSame K 0 vs H Q E := fun vs H Q E h => by
      obtain ⟨x, y, _, h, _⟩ := h
      exact h
    exact ⟨fun vs H Q E h => absurd h (no vs H Q E), fun A outer s H args us vs Q E _ _ _ _ h => absurd h (no vs H Q E)⟩
  | n + 1 => ok_wsame F B (wsame_all F B bF mF n) bF F.kp mF
theorem cl_wsame (D : Df K mg "_law_same" s__law_same) (B : Blt mg) (n : Nat) : Cl P w K mg base n "_law_same" ["told", "due"] (spSame K n) := by
  obtain ⟨f, fd, F, m⟩ := D.ex
  have bF : Binds K fd ["told", "due"] [] := F.binds fun _ _ _ _ _ _ us hl => match us, hl with | [_, _], _ => rfl
  obtain ⟨oc, od, kV, doc, pm, an, cdv, ct, osl, e, lk, hcd⟩ := F.ex
  exact ⟨⟨f, fd, wsame_all F B bF m n, m, F.kp, bF⟩, fun g hg => by
    rw [m] at hg
    cases hg
    exact ⟨fd, wsame_all F B bF m n, oc, od, osl, lk⟩⟩
end
end SB
namespace SB
open PySem L2 GxR GA RZ
section
variable {P : Program} {w : World} {K : PySem.W.Frag} {mg : Str → Option Value} {base : Heap}
/-- sides, a wall, a point as the law's own sums take them -/
def Val (K : PySem.W.Frag) (H : Hp) (vs : List V) (ns : List Int) (wl : Int) (us : List (Int × Int)) (m : Nat) : Prop := ∃ x y, vs = [x, .int wl, y] ∧ SiV K H x ns ∧ PtV K H y us ∧ (∀ z, z ∈ ns → z.natAbs < 2 ^ 4) ∧ wl.natAbs < 2 ^ 4 ∧ ns.length = us.length ∧ us.length ≤ 4 ∧ (∀ u, u ∈ us → Lo u) ∧ (∀ u, u ∈ us → Wd m u) ∧ m ≤ 20000
def spValue (K : PySem.W.Frag) : Sp := fun vs H Q _ => ∃ ns wl us m, Val K H vs ns wl us m ∧
  ∀ v r H', Gr H H' → NuV K H' v r → 0 < r.2 → Eqr r (worthU (ns, wl) us).1 (worthU (ns, wl) us).2 → Wd (5 + us.length * (m + 6)) r → Q v H'
def spLAns (K : PySem.W.Frag) : Sp := fun vs H Q _ => ∃ ns wl us m, Val K H vs ns wl us m ∧ ∀ H', Gr H H' → Q (.int (ansU (ns, wl) us)) H'
end
end SB
namespace SB
open PySem L2 GxR GA RZ
theorem gcdF_acc : ∀ (l : List Int) (c : Nat), l.foldl (fun c z => Nat.gcd c z.natAbs) c = Nat.gcd c (l.foldl (fun c z => Nat.gcd c z.natAbs) 0)
  | [], c => by simp
  | z :: r, c => by
    rw [List.foldl_cons, List.foldl_cons, gcdF_acc r (Nat.gcd c z.natAbs), gcdF_acc r (Nat.gcd 0 z.natAbs), Nat.gcd_zero_left, Nat.gcd_assoc]
theorem gcdL_last (ns : List Int) (w : Int) : ns.foldl (fun c z => Nat.gcd c z.natAbs) w.natAbs = gcdL (ns ++ [w]) := by
  unfold gcdL
  rw [List.foldl_append, gcdF_acc ns w.natAbs, Nat.gcd_comm]
  rfl
theorem iteNZ {z : Int} {A B : Prop} (h1 : z ≠ 0 → A) (h2 : z = 0 → B) : if (!decide (V.int z = V.int 0)) = true then A else B := by
  by_cases h : z = 0
  · rw [decide_eq_true (show V.int z = V.int 0 by rw [h])]
    exact h2 h
  · rw [decide_eq_false (show ¬ V.int z = V.int 0 from fun y => h (by injection y))]
    exact iteT (h1 h)
/-- the numbers that are not 0, of a tuple of ints -/
theorem lc_nz {K : PySem.W.Frag} {a : Addr} {ns : List Int} {g : TG} {tt : TT} {te : TE} {vs : List Nat} {σ : L2.St} {H1 : Hp} {D : Addr} {Qd : Hp → Prop} (nD : H1 D = none) (hs : SqT K H1 a (ns.map V.int)) (hz : ns.length ≤ 1000000)
    (step : ∀ (z : Int) H (Ky : VK) (Nx : Hp → Prop), (z ≠ 0 → Ky (.int z) H) → (z = 0 → Nx H) → g (.int z) (wipe σ vs) H fun σ2 H2 => wipe σ2 vs = wipe σ vs ∧ tt σ2 H2 fun b H3 => if b = true then te σ2 H3 Ky else Nx H3)
    (fin : ∀ H, H D = some (.lst ((ns.filter fun z => decide (z ≠ 0)).map V.int)) → Gr H1 H → Qd H) :
    ∃ W : Nat → Nat → Hp → Prop, (∃ m, W 0 m (upd H1 D (.lst []))) ∧ ∀ i m H, W i m H →
      ((Itt K a).stop i H ∧ Qd H) ∨ ((Itt K a).go i H ∧ ∃ Nx : Hp → Prop, (∀ H', Nx H' → ∃ m', m' < m ∧ W (i + 1) m' H') ∧ ∀ x H', (Itt K a).yld i H x H' → g x (wipe σ vs) H' fun σ2 H2 => wipe σ2 vs = wipe σ vs ∧ tt σ2 H2 fun b H3 =>
        if b = true then te σ2 H3 fun y H4 => ∃ acc, H4 D = some (.lst acc) ∧ acc.length < sizeLine ∧ Nx (upd H4 D (.lst (acc ++ [y]))) else Nx H3) := by
  refine ⟨fun i m H => i + m = ns.length ∧ H D = some (.lst (((ns.take i).filter fun z => decide (z ≠ 0)).map V.int)) ∧ GrD D H1 H, ⟨ns.length, Nat.zero_add _, upd_same, (GrD.refl D H1).set _⟩, fun i m H ⟨hm, hD, gr⟩ => ?_⟩
  have g1 := gr.to nD
  have hSi := g1.seqT hs
  cases m with
  | zero =>
    have e : i = ns.length := by omega
    subst e
    rw [List.take_length] at hD
    exact .inl ⟨⟨_, hSi, by rw [List.length_map]; exact Nat.le_refl _⟩, fin H hD g1⟩
  | succ m =>
    have hi : i < ns.length := by omega
    have ez : ns[i]? = some ns[i] := List.getElem?_eq_getElem hi
    refine .inr ⟨⟨_, .int ns[i], hSi, by rw [List.getElem?_map, ez]; rfl⟩, fun H' => H' D = some (.lst (((ns.take (i + 1)).filter fun z => decide (z ≠ 0)).map V.int)) ∧ GrD D H1 H', fun H' h => ⟨m, Nat.lt_succ_self _, by omega, h⟩, fun x H' hyl => ?_⟩
    obtain ⟨rfl, hx⟩ := hyl
    have hx2 := hx _ hSi
    rw [List.getElem?_map, ez] at hx2
    cases hx2
    refine step _ _ _ _ (fun n0 => ⟨_, hD, ?_, ?_, gr.set _⟩) fun z0 => ⟨?_, gr⟩
    · rw [List.length_map]
      have := List.length_filter_le (fun z : Int => decide (z ≠ 0)) (ns.take i)
      rw [List.length_take] at this
      exact small1M (by omega)
    · rw [upd_same, List.take_add_one, ez, Option.toList_some, List.filter_append, List.filter_cons_of_pos (by simp [n0]), List.filter_nil, List.map_append]
      rfl
    · rw [hD, List.take_add_one, ez, Option.toList_some, List.filter_append, List.filter_cons_of_neg (by simp [z0]), List.filter_nil, List.append_nil]
theorem small2000 {n : Nat} (h : n ≤ 1000) : n < 2 ^ 2000 := Nat.lt_of_lt_of_le (Nat.lt_of_le_of_lt h (by decide : 1000 < 2 ^ 10)) (two_le (by decide))
/-- small sides and a wall -/
def Q16 (ns : List Int) (wl : Int) : Prop := (∀ z, z ∈ ns → z.natAbs < 2 ^ 2000) ∧ wl.natAbs < 2 ^ 2000 ∧ ns.length ≤ 900000
theorem Q16.ok {ns : List Int} {wl : Int} (h : Q16 ns wl) (nz : NonZ ns) : QOk (ns, wl) := ⟨nz, fun z hz => Nat.lt_of_lt_of_le (h.1 z hz) (two_le (by decide)), Nat.lt_of_lt_of_le h.2.1 (two_le (by decide))⟩
theorem Q16.g {ns : List Int} {wl : Int} (h : Q16 ns wl) (nz : NonZ ns) : 0 < gcdL (ns ++ [wl]) ∧ gcdL (ns ++ [wl]) < 2 ^ 2000 := by
  obtain ⟨z, h1, h2⟩ := nz.ex
  exact ⟨nonZ_g (q := (ns, wl)) nz, Nat.lt_of_le_of_lt (gcdL_le (List.mem_append_left _ h1) h2) (h.1 z h1)⟩
section
variable {P : Program} {w : World} {K : PySem.W.Frag} {mg : Str → Option Value} {base : Heap}
def spWDiv (K : PySem.W.Frag) (f : List Int × Int → List Int × Int) : Sp := fun vs H Q _ => ∃ x ns wl, vs = [x, .int wl] ∧ SiV K H x ns ∧ NonZ ns ∧ Q16 ns wl ∧ ∀ v H', Gr H H' → QuV K H' v (f (ns, wl)) → Q v H'
theorem sc_wdiv : FnScope ["sides", "wall", "one", "side", "two"] ["sides", "wall"] (defScope s__law_divided) := ⟨rfl, rfl, rfl, by decide +kernel, rfl, by decide +kernel, by decide +kernel⟩
theorem cl_wdiv (D : Df K mg "_law_divided" s__law_divided) (B : Blt mg) : Cl P w K mg base 1 "_law_divided" ["sides", "wall"] (spWDiv K divU) := by
  refine D.cl (fun _ _ _ _ _ _ us hl => match us, hl with | [_, _], _ => rfl) fun f fd F => F.ok sc_wdiv (fun vs H Q E h => ?_) (fun cdv A outer s H vs Q E hr h => ?_)
  · obtain ⟨x, ns, wl, rfl, _⟩ := h
    rfl
  obtain ⟨x, ns, wl, rfl, ⟨a, rfl, hS⟩, nz, q16, hQ⟩ := h
  refine ⟨_, (pss_cons (ps_set (i := 2) sc_wdiv.nd rfl (.inr rfl) (pe_callB call_abs rfl B.abs PyProof.Rows.boot_abs (pa_cons (pv 1) pa_nil)))
    (pss_cons (ps_for PassesOwn.never rfl (pi_tup (pv 0)) (pg_name (i := 3) sc_wdiv.nd rfl (Or.inl rfl))
      (pss_cons (ps_set (i := 4) sc_wdiv.nd rfl (.inl rfl) (pe_callB call_abs rfl B.abs PyProof.Rows.boot_abs (pa_cons (pv 3) pa_nil)))
      (pss_one (ps_while PassesOwn.never (pt_cmpR op_ne (pv 4) pe_int (nomark _)) (pss_one (ps_asg (pe_tup (pa_cons (pv 4) (pa_cons (pe_op op_mod (pe_callTy call_int1 rfl B.int PyProof.Rows.boot_int (pa_cons (pv 2) pa_nil)) (pv 4)) pa_nil))) (pg_tup rfl (pgs_cons (pg_name (i := 2) sc_wdiv.nd rfl (Or.inr rfl)) (pgs_cons (pg_name (i := 4) sc_wdiv.nd rfl (Or.inl rfl)) pgs_nil)))))))))
    (pss_one (ps_ret (pe_tup (pa_cons (pe_callTy call_tuple_of rfl B.tup bootTup (pa_cons (pe_lc (own := [("side", 3)]) (g := gName 3) rfl sc_wdiv.nd (pi_tup (pv 0)) (blkOk_by (N := ["sides", "wall", "one", "side", "two"]) (sc := defScope s__law_divided) (by decide +kernel)) (fun _ _ _ _ _ => (pg_name (i := 3) sc_wdiv.nd rfl (Or.inl rfl))) (fun _ _ _ _ _ => pts_nil) (fun _ _ _ _ _ => (pe_op op_fdivW (pv 3) (pv 2)))) pa_nil)) (pa_cons (pe_op op_fdivW (pv 1) (pv 2)) pa_nil))))))), ?_⟩
  refine ⟨_, rfl, _, rfl, ?_⟩
  have ini : (V.int (if wl < 0 then -wl else wl)) = V.int ((wl.natAbs : Nat) : Int) := by rw [abs_nat]
  refine ⟨_, rfl, a, rfl, ⟨_, hS⟩, for_tup (xs := ns.map V.int) (fun i σ H' => ∃ c3 c4 : Option V, σ = [some (.ref a), some (.int wl), some (.int (((ns.take i).foldl (fun c z => Nat.gcd c z.natAbs) wl.natAbs : Nat) : Int)), c3, c4] ∧ Gr H H') ⟨_, _, congrArg (fun z => [some (V.ref a), some (V.int wl), some z, none, none]) ini, Gr.refl _⟩ (fun i σ H' _ h => ?_) (fun i x σ H' hx h => ?_) (fun σ H' h => ?_)⟩
  · obtain ⟨c3, c4, rfl, g⟩ := h
    exact g.seqT hS
  · obtain ⟨c3, c4, rfl, g⟩ := h
    rw [List.getElem?_map] at hx
    obtain ⟨z, hz, rfl⟩ := Option.map_eq_some_iff.mp hx
    have e : (ns.take (i + 1)).foldl (fun c (z : Int) => Nat.gcd c z.natAbs) wl.natAbs = Nat.gcd ((ns.take i).foldl (fun c (z : Int) => Nat.gcd c z.natAbs) wl.natAbs) z.natAbs := fold_take (fun c (z : Int) => Nat.gcd c z.natAbs) wl.natAbs hz
    refine ⟨_, rfl, z, rfl, ?_⟩
    refine ⟨fun m σ H1 => ∃ x y : Nat, σ = [some (.ref a), some (.int wl), some (.int (x : Int)), some (.int z), some (.int (y : Int))] ∧ Gr H H1 ∧ m = y ∧ Nat.gcd x y = (ns.take (i + 1)).foldl (fun c (z : Int) => Nat.gcd c z.natAbs) wl.natAbs, ⟨z.natAbs, (ns.take i).foldl (fun c z => Nat.gcd c z.natAbs) wl.natAbs, z.natAbs, ?_, g, rfl, by rw [e]⟩, fun m σ H1 hw => ?_⟩
    · exact congrArg (fun v => [some (V.ref a), some (V.int wl), some (V.int (((ns.take i).foldl (fun c z => Nat.gcd c z.natAbs) wl.natAbs : Nat) : Int)), some (V.int z), some (V.int v)]) (abs_nat z)
    obtain ⟨x, y, rfl, g1, rfl, hg⟩ := hw
    refine ⟨_, rfl, rfl, _, rfl, ?_⟩
    by_cases hy : m = 0
    · subst hy
      rw [Nat.gcd_zero_right] at hg
      subst hg
      exact iteNS rfl ⟨_, _, rfl, g1⟩
    · have hne : V.int ((m : Nat) : Int) ≠ V.int 0 := fun z => hy (by injection z with z; omega)
      rw [decide_eq_false hne]
      refine iteT ⟨fun σ H' => ∃ m', m' < m ∧ ∃ x y : Nat, σ = [some (.ref a), some (.int wl), some (.int (x : Int)), some (.int z), some (.int (y : Int))] ∧ Gr H H' ∧ m' = y ∧ Nat.gcd x y = (ns.take (i + 1)).foldl (fun c (z : Int) => Nat.gcd c z.natAbs) wl.natAbs, fun σ' H' h => h, ?_⟩
      refine ⟨_, rfl, _, rfl, .inl ⟨_, rfl, _, rfl, _, _, rfl, rfl, by omega, szN (by show 2 ≤ 1000000; decide), fun p np => ?_⟩⟩
      refine ⟨p, _, rfl, SqT.of upd_same, rfl, _, _, rfl, _, _, rfl, rfl, x % m, Nat.mod_lt _ (by omega), m, x % m, ?_, g1.new np _, rfl, ?_⟩
      · simp
      · rw [← hg, Nat.gcd_comm x m, Nat.gcd_rec m x, Nat.gcd_comm]
  · obtain ⟨c3, c4, rfl, g⟩ := h
    rw [List.length_map, List.take_length, gcdL_last]
    obtain ⟨g0, g64⟩ := q16.g nz
    have cd : ∀ i : Int, CDivW i ((gcdL (ns ++ [wl]) : Nat) : Int) := fun i => wide_div (b := 2000) (by omega) (by rw [Int.natAbs_natCast]; exact g64) (by decide) (by decide)
    have hS1 := g.seqT hS
    refine ⟨_, rfl, a, rfl, ⟨_, hS1⟩, fun D nD => lc_mapT (xs := ns.map V.int) (fun i y _ => ∃ z : Int, ns[i]? = some z ∧ y = .int (z / ((gcdL (ns ++ [wl]) : Nat) : Int))) (fun _ _ _ _ h _ => h) nD hS1 (by rw [List.length_map]; have := q16.2.2; omega) (fun i x H5 Kc hx g5 kc => ?_) (fun ys H5 hD hl5 g5 hR => ?_)⟩
    · rw [List.getElem?_map] at hx
      obtain ⟨z, hz, rfl⟩ := Option.map_eq_some_iff.mp hx
      exact ⟨rfl, _, rfl, _, rfl, _, _, rfl, rfl, cd _, kc _ _ (Gr.refl _) ⟨z, hz, rfl⟩⟩
    · have ey : ys = (divU (ns, wl)).1.map V.int := by
        refine ints_at (by rw [hl5, List.length_map]; show _ = (List.map _ ns).length; rw [List.length_map]) fun i y hy => ?_
        obtain ⟨z, hz, rfl⟩ := hR i y hy
        refine ⟨_, ?_, rfl⟩
        show (List.map _ ns)[i]? = _
        rw [List.getElem?_map, hz]
        rfl
      subst ey
      refine ⟨D, _, rfl, .inl ⟨SqL.of hD, fun p np => ?_⟩⟩
      refine ⟨_, rfl, _, rfl, _, _, rfl, rfl, cd _, szN (by show 2 ≤ 1000000; decide), fun p2 np2 => ?_⟩
      have k1 := (g.trans g5).new np (.tup ((divU (ns, wl)).1.map V.int))
      exact hQ _ _ (k1.new np2 _) ⟨p2, .ref p, rfl, SqT.of upd_same, p, rfl, ((Gr.refl _).new np2 _).seqT (SqT.of upd_same)⟩
theorem sc_wgr : FnScope ["sides", "wall", "side", "first"] ["sides", "wall"] (defScope s__law_ground) := ⟨rfl, rfl, rfl, by decide +kernel, rfl, by decide +kernel, by decide +kernel⟩
theorem cl_wgr (D : Df K mg "_law_ground" s__law_ground) (B : Blt mg) (CLD : Cl P w K mg base 1 "_law_divided" ["sides", "wall"] (spWDiv K divU)) : Cl P w K mg base 2 "_law_ground" ["sides", "wall"] (spWDiv K nfU) := by
  refine D.cl (fun _ _ _ _ _ _ us hl => match us, hl with | [_, _], _ => rfl) fun f fd F => F.ok sc_wgr (fun vs H Q E h => ?_) (fun cdv A outer s H vs Q E hr h => ?_)
  · obtain ⟨x, ns, wl, rfl, _⟩ := h
    rfl
  obtain ⟨x, ns, wl, rfl, hx, nz, q16, hQ⟩ := h
  refine ⟨_, (pss_cons (ps_asg (pe_cl CLD (hr.mono (by decide)) (pa_cons (pv 0) (pa_cons (pv 1) pa_nil))) (pg_tup rfl (pgs_cons (pg_name (i := 0) sc_wgr.nd rfl (Or.inl rfl)) (pgs_cons (pg_name (i := 1) sc_wgr.nd rfl (Or.inl rfl)) pgs_nil))))
    (pss_cons (ps_set (i := 3) sc_wgr.nd rfl (.inl rfl) (pe_ix ix_list (pe_lc (own := [("side", 2)]) (g := gName 2) rfl sc_wgr.nd (pi_tup (pv 0)) (blkOk_by (N := ["sides", "wall", "side", "first"]) (sc := defScope s__law_ground) (by decide +kernel)) (fun _ _ _ _ _ => (pg_name (i := 2) sc_wgr.nd rfl (Or.inl rfl))) (fun _ _ _ _ _ => pts_one (pt_cmpR op_ne (pv 2) pe_int (nomark _))) (fun _ _ _ _ _ => (pv 2))) pe_int (fun _ _ => rfl)))
    (pss_one (ps_ret (pe_ifExp (pt_cmpR op_gt (pv 3) pe_int (nomark _)) (pe_tup (pa_cons (pv 0) (pa_cons (pv 1) pa_nil))) (pe_tup (pa_cons (pe_callTy call_tuple_of rfl B.tup bootTup (pa_cons (pe_lc (own := [("side", 2)]) (g := gName 2) rfl sc_wgr.nd (pi_tup (pv 0)) (blkOk_by (N := ["sides", "wall", "side", "first"]) (sc := defScope s__law_ground) (by decide +kernel)) (fun _ _ _ _ _ => (pg_name (i := 2) sc_wgr.nd rfl (Or.inl rfl))) (fun _ _ _ _ _ => pts_nil) (fun _ _ _ _ _ => (pe_op op_sub pe_int (pv 2)))) pa_nil)) (pa_cons (pe_op op_sub pe_int (pv 1)) pa_nil)))))))), ?_⟩
  have qo := q16.ok nz
  have l8 : ns.length ≤ 900000 := q16.2.2
  refine ⟨_, rfl, _, rfl, x, ns, wl, rfl, hx, nz, q16, fun v H1 g1 hv => ?_⟩
  obtain ⟨p, t, rfl, hp, a, rfl, ha⟩ := hv
  refine ⟨p, _, rfl, hp, rfl, _, _, rfl, _, _, rfl, rfl, ?_⟩
  have ld : (divU (ns, wl)).1.length = ns.length := by show (List.map _ ns).length = _; rw [List.length_map]
  refine ⟨_, rfl, a, rfl, ⟨_, ha⟩, fun D nD => lc_nz (ns := (divU (ns, wl)).1) nD ha (by omega) (fun z H5 Ky Nx h1 h2 => ?_) (fun H5 hD g5 => ?_)⟩
  · exact ⟨rfl, _, rfl, rfl, _, rfl, iteNZ (fun n0 => ⟨_, rfl, h1 n0⟩) h2⟩
  have lf := lead_filter (t := []) (nonZ_div (q := (ns, wl)) nz)
  rw [List.append_nil] at lf
  refine ⟨D, _, _, .int (lead (divU (ns, wl)).1), rfl, rfl, SqL.of hD, atI_nat (j := 0) (by rw [List.getElem?_map, lf]; rfl), ?_⟩
  refine ⟨_, rfl, _, _, rfl, rfl, _, rfl, ?_⟩
  have g15 := g1.trans g5
  by_cases c : 0 < lead (divU (ns, wl)).1
  · refine iteP c ⟨_, rfl, _, rfl, szN (by show 2 ≤ 1000000; decide), fun p2 np2 => ?_⟩
    refine hQ _ _ (g15.new np2 _) ?_
    have e : nfU (ns, wl) = divU (ns, wl) := if_pos c
    rw [e]
    exact ⟨p2, _, rfl, SqT.of upd_same, a, rfl, (g5.new np2 _).seqT ha⟩
  · refine iteN c ?_
    have ha5 := g5.seqT ha
    refine ⟨_, rfl, a, rfl, ⟨_, ha5⟩, fun D2 nD2 => lc_mapT (xs := (divU (ns, wl)).1.map V.int) (fun i y _ => ∃ z : Int, (divU (ns, wl)).1[i]? = some z ∧ y = .int (0 - z)) (fun _ _ _ _ h _ => h) nD2 ha5 (by rw [List.length_map]; omega) (fun i x H6 Kc hx g6 kc => ?_) (fun ys H6 hD6 hl6 g6 hR => ?_)⟩
    · rw [List.getElem?_map] at hx
      obtain ⟨z, hz, rfl⟩ := Option.map_eq_some_iff.mp hx
      exact ⟨rfl, _, rfl, _, _, rfl, rfl, kc _ _ (Gr.refl _) ⟨z, hz, rfl⟩⟩
    · have e : nfU (ns, wl) = negU (divU (ns, wl)) := if_neg c
      have ey : ys = (negU (divU (ns, wl))).1.map V.int := by
        refine ints_at (by rw [hl6, List.length_map]; show _ = (List.map _ _).length; rw [List.length_map]) fun i y hy => ?_
        obtain ⟨z, hz, rfl⟩ := hR i y hy
        refine ⟨_, ?_, rfl⟩
        show (List.map _ _)[i]? = _
        rw [List.getElem?_map, hz, Int.zero_sub]
        rfl
      subst ey
      refine ⟨D2, _, rfl, .inl ⟨SqL.of hD6, fun p1 np1 => ?_⟩⟩
      have k1 := (g15.trans g6).new np1 (.tup ((negU (divU (ns, wl))).1.map V.int))
      have cont : ∀ r : Int, r = (negU (divU (ns, wl))).2 → ∀ p2, (upd H6 p1 (.tup ((negU (divU (ns, wl))).1.map V.int))) p2 = none → Q (.ref p2) (upd (upd H6 p1 (.tup ((negU (divU (ns, wl))).1.map V.int))) p2 (.tup [.ref p1, .int r])) := fun r hr p2 np2 => by
        subst hr
        refine hQ _ _ (k1.new np2 _) ?_
        rw [e]
        exact ⟨p2, .ref p1, rfl, SqT.of upd_same, p1, rfl, ((Gr.refl _).new np2 _).seqT (SqT.of upd_same)⟩
      exact ⟨_, rfl, _, _, rfl, rfl, szN (by show 2 ≤ 1000000; decide), fun p2 np2 => cont _ (Int.zero_sub _) p2 np2⟩
end
end SB
namespace SB
open PySem L2 GxR GA RZ
theorem yunits {k : Nat} {A : Around} (r : Room k A) : A.units + 65 < cLine := by have := r.un; omega
theorem ynzf_take {ms : List (List Int × Int)} {u : Nat} {q : List Int × Int} (h : ms[u]? = some q) : (ms.take (u + 1)).filter (fun q => q.1.any fun z => decide (z ≠ 0)) = (ms.take u).filter (fun q => q.1.any fun z => decide (z ≠ 0)) ++ (if (q.1.any fun z => decide (z ≠ 0)) = true then [q] else []) := by
  rw [List.take_add_one, h, Option.toList_some, List.filter_append]
  cases e : (q.1.any fun z => decide (z ≠ 0)) with
  | true => simp only [List.filter_cons, e, if_true, List.filter_nil]
  | false =>
    simp only [List.filter_cons, e, List.filter_nil]
theorem yfilt_nz {l : List Int} : (l.filter fun z => decide (z ≠ 0)).isEmpty = true ↔ ¬ NonZ l := by
  unfold NonZ
  rw [List.isEmpty_iff, List.filter_eq_nil_iff, List.any_eq_true]
  constructor
  · rintro h ⟨z, hz, e⟩
    exact h z hz e
  · intro h z hz e
    exact h ⟨z, hz, e⟩
theorem eqvT_intsY (a b : List Int) : PyData.eqv (.tuple (a.map PyData.int)) (.tuple (b.map PyData.int)) = decide (a = b) := by
  have h := eqv_intsA a b
  simp only [PyData.eqv, h]
theorem eqv_qu (p q : List Int × Int) : PyData.eqv (quP p) (quP q) = decide (p = q) := by
  have h := eqvT_intsY p.1 q.1
  unfold quP
  simp only [PyData.eqv, PyData.eqvAll]
  simp only [PyData.eqv] at h
  rw [h]
  by_cases e1 : p.1 = q.1
  · by_cases e2 : p.2 = q.2
    · simp [e1, e2, Prod.ext_iff]
    · simp [e1, e2, Prod.ext_iff]
  · simp [e1, Prod.ext_iff]
theorem any_qu (gs : List (List Int × Int)) (z : List Int × Int) : ((gs.map quP).any fun y => PyData.eqv y (quP z)) = decide (z ∈ gs) := by
  induction gs with
  | nil => simp
  | cons g r ih =>
    rw [List.map_cons, List.any_cons, ih, eqv_qu]
    by_cases e : g = z
    · simp [e]
    · by_cases m : z ∈ r
      · simp [e, m]
      · simp [e, m, Ne.symm e]
theorem shp_qu (q : List Int × Int) : SeqAt.shaped (quP q) = true := by
  have h := lay_ints q.1
  have d := dep_ints q.1
  unfold SeqAt.shaped
  rw [Bool.and_eq_true]
  refine ⟨by simp [PyData.canLayAll0, quP, PyData.canLay0, h], decide_eq_true ?_⟩
  simp [PyData.depthAll, PyData.depth, quP, d]
theorem dp_qu {K : PySem.W.Frag} {H : Hp} {x : V} {q : List Int × Int} (h : QuV K H x q) : Dp K H x (quP q) := by
  obtain ⟨a, t, rfl, hs, b, rfl, hb⟩ := h
  exact .tup hs (.cons (.tup hb (dp_ints _)) (.cons (.int _) .nil))
/-- those with sides -/
def nzU (qs : List (List Int × Int)) : List (List Int × Int) := qs.filter fun q => q.1.any fun z => decide (z ≠ 0)
def unlikeU (qs : List (List Int × Int)) : List (List Int × Int) := keptU (nzU qs)
theorem nzU_mem {qs : List (List Int × Int)} {q : List Int × Int} (h : q ∈ nzU qs) : q ∈ qs ∧ NonZ q.1 := ⟨(List.mem_filter.mp h).1, (List.mem_filter.mp h).2⟩
theorem unlike_mem {qs : List (List Int × Int)} {q : List Int × Int} (h : q ∈ unlikeU qs) : q ∈ qs ∧ NonZ q.1 := nzU_mem (kept_sub _ _ h)
theorem unlike_len (qs : List (List Int × Int)) : (unlikeU qs).length ≤ qs.length := Nat.le_trans (kept_len _) (List.length_filter_le _ _)
section
variable {P : Program} {w : World} {K : PySem.W.Frag} {mg : Str → Option Value} {base : Heap}
def spUnl (K : PySem.W.Frag) : Sp := fun vs H Q _ => ∃ a xs qs, vs = [.ref a] ∧ SqL K H a xs ∧ Paired (QuV K H) xs qs ∧ (∀ q, q ∈ qs → Q16 q.1 q.2) ∧ qs.length ≤ 60 ∧
  ∀ F zs H', Gr H H' → H F = none → H' F = some (.lst zs) → Paired (QuV K H') zs (unlikeU qs) → Q (.ref F) H'
theorem sc_wunl : FnScope ["questions", "found", "grounds", "sides", "wall", "side"] ["questions"] (defScope s__law_unlike) := ⟨rfl, rfl, rfl, by decide +kernel, rfl, by decide +kernel, by decide +kernel⟩
theorem cl_wunl (D : Df K mg "_law_unlike" s__law_unlike) (B : Blt mg) (CG : Cl P w K mg base 2 "_law_ground" ["sides", "wall"] (spWDiv K nfU)) : Cl P w K mg base 3 "_law_unlike" ["questions"] (spUnl K) := by
  refine D.cl (fun _ _ _ _ _ _ us hl => match us, hl with | [_], _ => rfl) fun f fd F => F.ok sc_wunl (fun vs H Q E h => ?_) (fun cdv A outer s H vs Q E hr h => ?_)
  · obtain ⟨a, xs, qs, rfl, _⟩ := h
    rfl
  obtain ⟨a, xs, qs, rfl, hS, hp, hq, l60, hQ⟩ := h
  refine ⟨_, (pss_cons (ps_par (i := 1) (j := 2) rfl sc_wunl.nd rfl rfl (by decide) rfl rfl (pa_cons (pe_lst pa_nil) (pa_cons (pe_lst pa_nil) pa_nil)) rfl)
    (pss_cons (ps_for PassesOwn.never rfl (pi_list (pv 0)) (pg_tup rfl (pgs_cons (pg_name (i := 3) sc_wunl.nd rfl (Or.inl rfl)) (pgs_cons (pg_name (i := 4) sc_wunl.nd rfl (Or.inl rfl)) pgs_nil)))
      (pss_one (ps_if (pt_cmpR (op_neD hr.units) (pe_lc (own := [("side", 5)]) (g := gName 5) rfl sc_wunl.nd (pi_tup (pv 3)) (blkOk_by (N := ["questions", "found", "grounds", "sides", "wall", "side"]) (sc := defScope s__law_unlike) (by decide +kernel)) (fun _ _ _ _ _ => (pg_name (i := 5) sc_wunl.nd rfl (Or.inl rfl))) (fun _ _ _ _ _ => pts_one (pt_cmpR op_ne (pv 5) pe_int (nomark _))) (fun _ _ _ _ _ => (pv 5))) (pe_lst pa_nil) (nomark _)) (pss_one (ps_if (pt_cmpR (op_notInD (yunits hr)) (pe_cl CG (hr.mono (by decide)) (pa_cons (pv 3) (pa_cons (pv 4) pa_nil))) (pv 2) rfl) (pss_cons (ps_expr (pe_bm PySem.F.plainAttrs_list PySem.F.slot_list_append PySem.F.type_list_append mt_append (pv 2) (pa_cons (pe_cl CG (hr.mono (by decide)) (pa_cons (pv 3) (pa_cons (pv 4) pa_nil))) pa_nil)))
          (pss_one (ps_expr (pe_bm PySem.F.plainAttrs_list PySem.F.slot_list_append PySem.F.type_list_append mt_append (pv 1) (pa_cons (pe_tup (pa_cons (pv 3) (pa_cons (pv 4) pa_nil))) pa_nil))))) pss_nil)) pss_nil)))
    (pss_one (ps_ret (pv 1))))), ?_⟩
  have lx : xs.length = qs.length := paired_len hp
  refine ⟨szL0, fun F nF => ⟨szL0, fun G nG => ⟨_, _, rfl, ?_⟩⟩⟩
  have neFG : F ≠ G := fun e => by rw [← e, upd_same] at nG; cases nG
  have nG0 : H G = none := by rw [upd_ne (Ne.symm neFG)] at nG; exact nG
  have g0 : Gr H (upd (upd H F (.lst [])) G (.lst [])) := ((Gr.refl H).new nF _).new nG _
  have eF : (upd (upd H F (.lst [])) G (.lst [])) F = some (.lst []) := by rw [upd_ne neFG]; exact upd_same
  have eG : (upd (upd H F (.lst [])) G (.lst [])) G = some (.lst []) := upd_same
  let Pv : Nat → L2.St → Hp → Prop := fun i σ H1 => ∃ (zs gs : List V) (c3 c4 c5 : Option V), σ = [some (.ref a), some (.ref F), some (.ref G), c3, c4, c5] ∧ Gr H H1 ∧ H1 F = some (.lst zs) ∧ H1 G = some (.lst gs) ∧ Paired (QuV K H1) zs (unlikeU (qs.take i)) ∧ Paired (QuV K H1) gs ((unlikeU (qs.take i)).map nfU)
  refine ⟨_, rfl, a, rfl, ⟨xs, g0.seqL hS⟩, for_list (xs := xs) Pv ⟨[], [], _, _, _, rfl, g0, eF, eG, .nil, .nil⟩ (fun i σ H1 _ h => ?_) (fun i x σ H1 hx h => ?_) (fun σ H1 h => ?_)⟩
  · obtain ⟨zs, gs, c3, c4, c5, rfl, g, _⟩ := h
    exact g.seqL hS
  · obtain ⟨zs, gs, c3, c4, c5, rfl, g, hF, hG, pz, pg⟩ := h
    obtain ⟨q, eq, hn⟩ := paired_get hp hx
    have iq := (List.getElem?_eq_some_iff.mp eq).1
    have q16 := hq q (List.mem_of_getElem? eq)
    obtain ⟨p, t, rfl, ht, b, rfl, hb⟩ := hn.gr g
    have e3 : nzU (qs.take (i + 1)) = nzU (qs.take i) ++ (if (q.1.any fun z => decide (z ≠ 0)) = true then [q] else []) := ynzf_take eq
    refine ⟨p, _, rfl, ht, rfl, _, _, rfl, _, _, rfl, rfl, ?_⟩
    refine ⟨_, rfl, b, rfl, ⟨_, hb⟩, fun D nD => lc_nz (ns := q.1) nD hb (by have := q16.2.2; omega) (fun z H5 Ky Nx h1 h2 => ⟨rfl, _, rfl, rfl, _, rfl, iteNZ (fun n0 => ⟨_, rfl, h1 n0⟩) h2⟩) (fun H5 hD g5 => ?_)⟩
    refine ⟨szL0, fun N nN => ?_⟩
    have k5 := (Gr.refl H5).new nN (.lst [])
    have kall := g5.trans k5
    refine ⟨_, _, .lst (k5.seqL (SqL.of hD)) (dp_ints _), .lst (SqL.of upd_same) .nil, shp_ints _, by decide, _, rfl, ?_⟩
    rw [eqv_nil]
    have hF5 := kall.lstK hF
    have hG5 := kall.lstK hG
    have g6 := g.trans kall
    have hb6 : SiV K (upd H5 N (.lst [])) (.ref b) q.1 := ⟨b, rfl, kall.seqT hb⟩
    have pz6 : Paired (QuV K (upd H5 N (.lst []))) zs (unlikeU (qs.take i)) := Paired.mapP pz fun _ _ z => QuV.gr z kall
    have pg6 : Paired (QuV K (upd H5 N (.lst []))) gs ((unlikeU (qs.take i)).map nfU) := Paired.mapP pg fun _ _ z => QuV.gr z kall
    generalize upd H5 N (.lst []) = H6 at hF5 hG5 g6 hb6 pz6 pg6 ⊢
    by_cases nz : NonZ q.1
    · have ef : (q.1.filter fun z => decide (z ≠ 0)).isEmpty = false := by
        cases e : (q.1.filter fun z => decide (z ≠ 0)).isEmpty with
        | false => rfl
        | true => exact absurd nz (yfilt_nz.mp e)
      rw [ef]
      refine iteT ?_
      rw [if_pos (show (q.1.any fun z => decide (z ≠ 0)) = true from nz)] at e3
      have tk : unlikeU (qs.take (i + 1)) = if nfU q ∈ (unlikeU (qs.take i)).map nfU then unlikeU (qs.take i) else unlikeU (qs.take i) ++ [q] := by
        unfold unlikeU
        rw [e3, kept_snoc]
      refine ⟨_, rfl, _, rfl, .ref b, q.1, q.2, rfl, hb6, nz, q16, fun v H7 g7 hv => ?_⟩
      have hF7 := g7.lstK hF5
      have hG7 := g7.lstK hG5
      have pg7 : Paired (QuV K H7) gs ((unlikeU (qs.take i)).map nfU) := Paired.mapP pg6 fun _ _ z => QuV.gr z g7
      have pz7 : Paired (QuV K H7) zs (unlikeU (qs.take i)) := Paired.mapP pz6 fun _ _ z => QuV.gr z g7
      refine ⟨_, rfl, _, _, dp_qu hv, .lst (SqL.of hG7) (dp_qus pg7), shp_qu _, shp_qusL _, _, rfl, ?_⟩
      rw [any_qu]
      by_cases hin : nfU q ∈ (unlikeU (qs.take i)).map nfU
      · rw [if_pos hin] at tk
        rw [show (nfU (q.1, q.2)) = nfU q from rfl, decide_eq_true hin]
        exact iteF ⟨zs, gs, _, _, _, rfl, g6.trans g7, hF7, hG7, by rw [tk]; exact pz7, by rw [tk]; exact pg7⟩
      · rw [if_neg hin] at tk
        rw [show (nfU (q.1, q.2)) = nfU q from rfl, decide_eq_false hin]
        refine iteT ⟨_, rfl, .inl ⟨rfl, _, SqL.of hG7⟩, _, rfl, _, rfl, .ref b, q.1, q.2, rfl, (show SiV K H6 (.ref b) q.1 from hb6).gr g7, nz, q16, fun v2 H8 g8 hv2 => ?_⟩
        have hF8 := g8.lstK hF7
        have hG8 := g8.lstK hG7
        have lz : zs.length = (unlikeU (qs.take i)).length := paired_len pz
        have lg : gs.length = (unlikeU (qs.take i)).length := by rw [paired_len pg, List.length_map]
        have lu : (unlikeU (qs.take i)).length ≤ i := Nat.le_trans (unlike_len _) (by rw [List.length_take]; omega)
        refine ⟨G, _, _, rfl, rfl, hG8, small1000 (by omega), ?_⟩
        have t9 : Tst K H8 (upd H8 G (.lst (gs ++ [v2]))) := Tst.put hG8
        have g9 : Gr H (upd H8 G (.lst (gs ++ [v2]))) := ((((g6.trans g7).trans g8).d G).set _).to nG0
        have hF9 : (upd H8 G (.lst (gs ++ [v2]))) F = some (.lst zs) := by rw [upd_ne neFG]; exact hF8
        have hG9 : (upd H8 G (.lst (gs ++ [v2]))) G = some (.lst (gs ++ [v2])) := upd_same
        have t79 := g8.st.trans t9
        have hb9 : SqT K (upd H8 G (.lst (gs ++ [v2]))) b (q.1.map V.int) := t79 _ _ ((g7.seqT (by obtain ⟨b', e, h⟩ := hb6; cases e; exact h)))
        have pz9 : Paired (QuV K (upd H8 G (.lst (gs ++ [v2])))) zs (unlikeU (qs.take i)) := Paired.mapP pz7 fun _ _ z => QuV.st z t79
        have pg9 : Paired (QuV K (upd H8 G (.lst (gs ++ [v2])))) (gs ++ [v2]) ((unlikeU (qs.take i)).map nfU ++ [nfU q]) := paired_app (Paired.mapP pg7 fun _ _ z => QuV.st z t79) (.cons (QuV.st hv2 t9) .nil)
        generalize upd H8 G (.lst (gs ++ [v2])) = H9 at g9 hF9 hG9 hb9 pz9 pg9 ⊢
        refine ⟨_, rfl, .inl ⟨rfl, _, SqL.of hF9⟩, _, rfl, _, rfl, szN (by show 2 ≤ 1000000; decide), fun T nT => ?_⟩
        have kT := (Gr.refl H9).new nT (.tup [.ref b, .int q.2])
        have hF10 := kT.lstK hF9
        have hG10 := kT.lstK hG9
        refine ⟨F, _, _, rfl, rfl, hF10, small1000 (by omega), ?_⟩
        have t11 : Tst K (upd H9 T (.tup [.ref b, .int q.2])) (upd (upd H9 T (.tup [.ref b, .int q.2])) F (.lst (zs ++ [.ref T]))) := Tst.put hF10
        have t9b := kT.st.trans t11
        refine ⟨zs ++ [.ref T], gs ++ [v2], _, _, _, rfl, (((g9.trans kT).d F).set _).to nF, upd_same, by rw [upd_ne (Ne.symm neFG)]; exact hG10, ?_, ?_⟩
        · rw [tk]
          exact paired_app (Paired.mapP pz9 fun _ _ z => QuV.st z t9b) (.cons ⟨T, .ref b, rfl, t11 _ _ (SqT.of upd_same), b, rfl, t9b _ _ hb9⟩ .nil)
        · rw [tk, List.map_append]
          exact Paired.mapP pg9 fun _ _ z => QuV.st z t9b
    · have ef : (q.1.filter fun z => decide (z ≠ 0)).isEmpty = true := yfilt_nz.mpr nz
      rw [ef]
      rw [if_neg (show ¬ (q.1.any fun z => decide (z ≠ 0)) = true from nz), List.append_nil] at e3
      have tk : unlikeU (qs.take (i + 1)) = unlikeU (qs.take i) := by
        unfold unlikeU
        rw [e3]
      exact iteF ⟨zs, gs, _, _, _, rfl, g6, hF5, hG5, by rw [tk]; exact pz6, by rw [tk]; exact pg6⟩
  · obtain ⟨zs, gs, c3, c4, c5, rfl, g, hF, hG, pz, pg⟩ := h
    rw [lx, List.take_length] at pz
    exact ⟨_, rfl, hQ F zs H1 g nF hF pz⟩
end
end SB
namespace SB
open PySem L2 GxR GA RZ
/-! ### sayings -/
inductive Say where
  | q (a : Int) (ns : List Int) (wl : Int)
  | nt (s : Say)
  | bo (s t : Say)
  | ei (s t : Say)
def wordA (a : Int) : Str := if a = -1 then "less" else if a = 0 then "is" else "more"
def wordS : Say → Str
  | .q a _ _ => wordA a
  | .nt _ => "not"
  | .bo _ _ => "both"
  | .ei _ _ => "either"
def partsS : Say → List Say
  | .q _ _ _ => []
  | .nt s => [s]
  | .bo s t => [s, t]
  | .ei s t => [s, t]
def isQ : Say → Bool
  | .q _ _ _ => true
  | _ => false
def SayV (K : PySem.W.Frag) (H : Hp) : Say → V → Prop
  | .q a ns wl => fun x => ∃ p s, x = .ref p ∧ SqT K H p [.str (wordA a), s, .int wl] ∧ SiV K H s ns
  | .nt s => fun x => ∃ p y, x = .ref p ∧ SqT K H p [.str "not", y] ∧ SayV K H s y
  | .bo s t => fun x => ∃ p y z, x = .ref p ∧ SqT K H p [.str "both", y, z] ∧ SayV K H s y ∧ SayV K H t z
  | .ei s t => fun x => ∃ p y z, x = .ref p ∧ SqT K H p [.str "either", y, z] ∧ SayV K H s y ∧ SayV K H t z
theorem SayV.st {K : PySem.W.Frag} {H H' : Hp} (t : Tst K H H') : ∀ {s : Say} {x : V}, SayV K H s x → SayV K H' s x
  | .q a ns wl, x, h => let ⟨p, s, e, h1, h2⟩ := h; ⟨p, s, e, t _ _ h1, h2.st t⟩
  | .nt s, x, h => let ⟨p, y, e, h1, h2⟩ := h; ⟨p, y, e, t _ _ h1, SayV.st t h2⟩
  | .bo s u, x, h => let ⟨p, y, z, e, h1, h2, h3⟩ := h; ⟨p, y, z, e, t _ _ h1, SayV.st t h2, SayV.st t h3⟩
  | .ei s u, x, h => let ⟨p, y, z, e, h1, h2, h3⟩ := h; ⟨p, y, z, e, t _ _ h1, SayV.st t h2, SayV.st t h3⟩
theorem SayV.gr {K : PySem.W.Frag} {H H' : Hp} (g : Gr H H') {s : Say} {x : V} (h : SayV K H s x) : SayV K H' s x := SayV.st g.st h
theorem SayV.parts {K : PySem.W.Frag} {H : Hp} : ∀ {s : Say} {x : V}, SayV K H s x → isQ s = false → ∃ p ys, x = .ref p ∧ SqT K H p (.str (wordS s) :: ys) ∧ Paired (fun y t => SayV K H t y) ys (partsS s)
  | .q _ _ _, _, _, e => by cases e
  | .nt s, x, h, _ => let ⟨p, y, e, h1, h2⟩ := h; ⟨p, [y], e, h1, .cons h2 .nil⟩
  | .bo s u, x, h, _ => let ⟨p, y, z, e, h1, h2, h3⟩ := h; ⟨p, [y, z], e, h1, .cons h2 (.cons h3 .nil)⟩
  | .ei s u, x, h, _ => let ⟨p, y, z, e, h1, h2, h3⟩ := h; ⟨p, [y, z], e, h1, .cons h2 (.cons h3 .nil)⟩
def SayB (N d : Nat) : Say → Prop
  | .q a ns wl => -1 ≤ a ∧ a ≤ 1 ∧ ns.length = d ∧ (∀ z, z ∈ ns → z.natAbs < N) ∧ wl.natAbs < N
  | .nt s => SayB N d s
  | .bo s t => SayB N d s ∧ SayB N d t
  | .ei s t => SayB N d s ∧ SayB N d t
abbrev SayOk (d : Nat) : Say → Prop := SayB (2 ^ 4) d
def depS : Say → Nat
  | .q _ _ _ => 1
  | .nt s => depS s + 1
  | .bo s t => max (depS s) (depS t) + 1
  | .ei s t => max (depS s) (depS t) + 1
/-- how many words stand in a saying -/
def szS : Say → Nat
  | .q _ _ _ => 1
  | .nt s => szS s + 1
  | .bo s t => szS s + szS t + 1
  | .ei s t => szS s + szS t + 1
def askU : Say → List (List Int × Int)
  | .q _ ns wl => [(ns, wl)]
  | .nt s => askU s
  | .bo s t => askU s ++ askU t
  | .ei s t => askU s ++ askU t
def holdU (us : List (Int × Int)) : Say → Bool
  | .q a ns wl => decide (ansU (ns, wl) us = a)
  | .nt s => !holdU us s
  | .bo s t => holdU us s && holdU us t
  | .ei s t => holdU us s || holdU us t
theorem askU_parts : ∀ {s : Say}, isQ s = false → askU s = (partsS s).flatMap askU
  | .q _ _ _, e => by cases e
  | .nt s, _ => by simp [askU, partsS]
  | .bo s t, _ => by simp [askU, partsS]
  | .ei s t, _ => by simp [askU, partsS]
theorem part_dep : ∀ {s t : Say}, t ∈ partsS s → depS t < depS s
  | .q _ _ _, t, h => by cases h
  | .nt s, t, h => by
    rw [List.mem_singleton.mp h]
    exact Nat.lt_succ_self _
  | .bo s u, t, h => by
    simp only [partsS, List.mem_cons, List.not_mem_nil, or_false] at h
    show depS t < max (depS s) (depS u) + 1
    rcases h with rfl | rfl <;> omega
  | .ei s u, t, h => by
    simp only [partsS, List.mem_cons, List.not_mem_nil, or_false] at h
    show depS t < max (depS s) (depS u) + 1
    rcases h with rfl | rfl <;> omega
theorem part_ok {N d : Nat} : ∀ {s t : Say}, SayB N d s → t ∈ partsS s → SayB N d t
  | .q _ _ _, t, _, h => by cases h
  | .nt s, t, k, h => by
    rw [List.mem_singleton.mp h]
    exact k
  | .bo s u, t, k, h => by
    simp only [partsS, List.mem_cons, List.not_mem_nil, or_false] at h
    rcases h with rfl | rfl
    · exact k.1
    · exact k.2
  | .ei s u, t, k, h => by
    simp only [partsS, List.mem_cons, List.not_mem_nil, or_false] at h
    rcases h with rfl | rfl
    · exact k.1
    · exact k.2
theorem part_len {s t : Say} (h : t ∈ partsS s) : (askU t).length ≤ (askU s).length := by
  cases s with
  | q => cases h
  | nt s =>
    rw [List.mem_singleton.mp h]
    exact Nat.le_refl _
  | bo s u =>
    simp only [partsS, List.mem_cons, List.not_mem_nil, or_false] at h
    simp only [askU, List.length_append]
    rcases h with rfl | rfl <;> omega
  | ei s u =>
    simp only [partsS, List.mem_cons, List.not_mem_nil, or_false] at h
    simp only [askU, List.length_append]
    rcases h with rfl | rfl <;> omega
theorem dep_pos : ∀ s : Say, 1 ≤ depS s
  | .q _ _ _ => Nat.le_refl _
  | .nt s => Nat.succ_le_succ (Nat.zero_le _)
  | .bo s t => Nat.succ_le_succ (Nat.zero_le _)
  | .ei s t => Nat.succ_le_succ (Nat.zero_le _)
theorem ask_ok {N d : Nat} : ∀ {s : Say}, SayB N d s → ∀ q, q ∈ askU s → q.1.length = d ∧ (∀ z, z ∈ q.1 → z.natAbs < N) ∧ q.2.natAbs < N
  | .q a ns wl, h, q, hq => by
    rw [List.mem_singleton.mp hq]
    exact ⟨h.2.2.1, h.2.2.2.1, h.2.2.2.2⟩
  | .nt s, h, q, hq => ask_ok (s := s) h q hq
  | .bo s t, h, q, hq => (List.mem_append.mp hq).elim (ask_ok (s := s) h.1 q) (ask_ok (s := t) h.2 q)
  | .ei s t, h, q, hq => (List.mem_append.mp hq).elim (ask_ok (s := s) h.1 q) (ask_ok (s := t) h.2 q)
theorem wordA_ne (a : Int) : wordA a ≠ ("not" : Str) ∧ wordA a ≠ ("both" : Str) ∧ wordA a ≠ ("either" : Str) := by
  unfold wordA
  split
  · decide
  · split <;> decide
theorem str_ne {a b : Str} (h : a ≠ b) : ¬ V.str a = V.str b := fun e => h (by injection e)
theorem in_word (s : Say) : inV (.str (wordS s)) [.str "less", .str "is", .str "more"] = isQ s := by
  cases s with
  | q a ns wl =>
    show inV (.str (wordA a)) _ = true
    unfold wordA
    split
    · decide +kernel
    · split <;> decide +kernel
  | nt s => exact (by decide +kernel : inV (.str ("not" : Str)) [.str "less", .str "is", .str "more"] = false)
  | bo s t => exact (by decide +kernel : inV (.str ("both" : Str)) [.str "less", .str "is", .str "more"] = false)
  | ei s t => exact (by decide +kernel : inV (.str ("either" : Str)) [.str "less", .str "is", .str "more"] = false)
theorem cut_tail (x : V) (ys : List V) : cutV (x :: ys) (some 1) none = ys := by
  have := cut_from (x :: ys) 1 (by rw [List.length_cons]; omega)
  exact this
theorem yrsl {K : PySem.W.Frag} {H : Hp} {a : Addr} {xs : List V} {lo hi : Option Int} {Kc : VK} (ha : SqT K H a xs) (cont : ∀ c H', Gr H H' → SqT K H' c (cutV xs lo hi) → Kc (.ref c) H') : L2.rSlA K (.ref a) lo hi H Kc :=
  ⟨a, xs, rfl, ha, fun e => cont a H (Gr.refl H) (by
    have : cutV xs lo hi = xs := by
      unfold cutV
      rw [e.1, e.2]
      simp
    rw [this]
    exact ha), fun _ p np => cont p _ ((Gr.refl H).new np _) (SqT.of upd_same)⟩
theorem yrslF {K : PySem.W.Frag} {σ : L2.St} {H : Hp} {a : Addr} {xs : List V} {lo : Option Int} {Kc : VK} (ha : SqT K H a xs) (cont : ∀ c H', Gr H H' → SqT K H' c (cutV xs lo none) → Kc (.ref c) H') : L2.tNoPart σ H (fun u H3 => L2.rSlA K (.ref a) lo u H3 Kc) := yrsl (lo := lo) (hi := none) ha cont
/-- the script, apart from what changes -/
def LsV (K : PySem.W.Frag) (N : Addr → Prop) (H : Hp) (l : Addr) (xs : List V) : Prop := ((H l = some (.lst xs) ∨ ∃ o, H l = some (.frz o (.lst xs))) ∧ N l) ∨ ∀ H', SqL K H' l xs
theorem LsV.of {K : PySem.W.Frag} {H : Hp} {l p : Addr} {xs : List V} (h : SqL K H l xs) (n : H p = none) : LsV K (fun b => b ≠ p) H l xs := by
  rcases h with (h | ⟨o, h⟩) | h
  · exact .inl ⟨.inl h, ne_of_none h n⟩
  · exact .inl ⟨.inr ⟨o, h⟩, ne_of_none h n⟩
  · exact .inr fun H' => .inr h
theorem LsV.sq {K : PySem.W.Frag} {N : Addr → Prop} {H : Hp} {l : Addr} {xs : List V} (h : LsV K N H l xs) : SqL K H l xs := by
  rcases h with ⟨h | h, _⟩ | h
  · exact .inl (.inl h)
  · exact .inl (.inr h)
  · exact h H
theorem LsV.grd {K : PySem.W.Frag} {N : Addr → Prop} {e : Addr} {H H' : Hp} {l : Addr} {xs : List V} (h : LsV K N H l xs) (g : GrD e H H') (n : ∀ b, N b → b ≠ e) : LsV K N H' l xs := by
  rcases h with ⟨h | ⟨o, h⟩, c⟩ | h
  · exact .inl ⟨.inl (g.keep l _ (n _ c) (fun _ z => nomatch z) h), c⟩
  · exact .inl ⟨.inr ⟨o, g.keep l _ (n _ c) (fun _ z => nomatch z) h⟩, c⟩
  · exact .inr h
theorem LsV.gr {K : PySem.W.Frag} {N : Addr → Prop} {H H' : Hp} {l : Addr} {xs : List V} (h : LsV K N H l xs) (g : Gr H H') : LsV K N H' l xs := by
  rcases h with ⟨h | ⟨o, h⟩, c⟩ | h
  · exact .inl ⟨.inl (g.lstK h), c⟩
  · exact .inl ⟨.inr ⟨o, g.keep l _ (fun _ z => nomatch z) h⟩, c⟩
  · exact .inr h
theorem LsV.avoid {K : PySem.W.Frag} {N : Addr → Prop} {H : Hp} {l p : Addr} {xs : List V} (h : LsV K N H l xs) (n : H p = none) : LsV K (fun b => N b ∧ b ≠ p) H l xs := by
  rcases h with ⟨h | ⟨o, h⟩, c⟩ | h
  · exact .inl ⟨.inl h, c, ne_of_none h n⟩
  · exact .inl ⟨.inr ⟨o, h⟩, c, ne_of_none h n⟩
  · exact .inr h
theorem LsV.less {K : PySem.W.Frag} {N M : Addr → Prop} {H : Hp} {l : Addr} {xs : List V} (h : LsV K N H l xs) (n : ∀ b, N b → M b) : LsV K M H l xs := by
  rcases h with ⟨h, c⟩ | h
  · exact .inl ⟨h, n _ c⟩
  · exact .inr h
theorem Tb5.lgr {T : Nat → Addr} {d : Addr} {H H' : Hp} {ys : List V} (t : Tb5 T H) (hd : H d = some (.lst ys)) (g : GrD d H H') : Tb5 T H' := ⟨fun i h => by
  obtain ⟨ps, e, r⟩ := id (t.t i h)
  exact g.tab _ (ne_of e hd (fun z => nomatch z)) (t.t i h)⟩
end SB
namespace SB
open PySem L2 GxR GA RZ TL
/-! ### {k: v, ..}[e], None may be a key -/
def nkV : Option Key → V
  | none => .non
  | some k => kV k
theorem nkV_is {P : Program} {w : World} {k : Option Key} {u : Value} (r : RelV (nkV k) u) : (noneKind P w).is k u = true := by
  cases k with
  | none =>
    obtain rfl : u = Value.none := r
    rfl
  | some k => exact kV_is (P := P) (w := w) r
def mergeN (kvs more : List (Option Key × V)) : List (Option Key × V) := more.foldl (fun acc kv => putK acc kv.1 kv.2) kvs
theorem KVN.merge : ∀ {more : List (Option Key × V)} {rs : List (Option Key × Value)} {kvs : List (Option Key × V)} {vs : List (Option Key × Value)}, KV more rs → KV kvs vs → KV (mergeN kvs more) (merged vs rs) := by
  intro more rs kvs vs r
  unfold KV at r
  induction r generalizing kvs vs with
  | nil => intro q; exact q
  | @cons p q ps qs h t ih =>
    intro r0
    have e : KV (putK kvs p.1 p.2) (stored vs q.1 q.2) := by
      have := r0.put p.1 h.2
      rw [← h.1]; exact this
    exact ih e
theorem carriesN_of {P : Program} {w : World} : ∀ {kvs : List (Option Key × V)} {ws : List (Value × Value)}, VV (kvs.map fun kv => (nkV kv.1, kv.2)) ws → ∃ rs, Carries (noneKind P w) ws rs ∧ KV kvs rs
  | [], _, r => by rw [List.map_nil] at r; cases r; exact ⟨[], True.intro, .nil⟩
  | p :: kvs, _, r => by
    rw [List.map_cons] at r
    cases r with
    | @cons a b as bs h t =>
      obtain ⟨rs, c, q⟩ := carriesN_of (P := P) (w := w) t
      obtain ⟨b1, b2⟩ := b
      exact ⟨(p.1, b2) :: rs, ⟨nkV_is h.1, rfl, c⟩, .cons ⟨rfl, h.2⟩ q⟩
def tSigns (trs : List (TE × TE)) (ti : TE) : TE := fun σ H Q => tPairs trs σ H fun ps H1 => ∃ kvs : List (Option Key × V), ps = kvs.map (fun kv => (nkV kv.1, kv.2)) ∧
  ti σ H1 fun y H2 => ∃ k v, y = nkV k ∧ valV (mergeN [] kvs) k = some v ∧ Q v H2
theorem pe_signs {X : Cx} {pos dpos : Pos} {keys : List (Option Expr)} {values : List Expr} {i : Expr} {trs : List (TE × TE)} {ti : TE} (h : PPs X dpos keys values trs) (hi : PE X i ti) (hall : keys.all (·.isSome) = true) (hl : keys.length = values.length) (h0 : keys ≠ [])
    (h15 : keys.length ≤ 15) (hs : NoSl i) : PE X (.Subscript (.Dict keys values dpos) i pos) (tSigns trs ti) := by
  refine ⟨fun pins s σ H Q I q => ?_⟩
  refine subD_of PySem.F.slot_dict_getitem.lookup hs (PySem.wpAny_Dict_walk (knd := noneKind X.prog X.w) hall hl h0 h15 ?_)
  have hn : H s.heap.objs.size = none := I.fresh
  have f0 := I.fpOk (Nat.le_refl s.heap.objs.size) hn
  have I0 : Inv X pins σ H { s with heap := s.heap.push { cls := .type "dict", data := .dict #[] } } := I.kept (t' := s.toks) (fun _ _ q => Heap.get?_push_of_some _ q)
  have g0 : (s.heap.push { cls := .type "dict", data := .dict #[] }).get? s.heap.objs.size = some { cls := .type "dict", data := .dict #[] } := Heap.get?_push_size _ rfl
  have I1 := I0.pinned (fp := [s.heap.objs.size]) (fun b hb => by rw [List.mem_singleton.mp hb]; exact f0) (fun b hb => by rw [List.mem_singleton.mp hb]; exact ⟨_, g0, fun v z => nomatch z⟩)
  refine thn (h.run _ _ σ H _ I1 q) fun ws s1 ⟨ps, H1, I2, rel, kvs, ep, q1⟩ => ?_
  subst ep
  obtain ⟨rs, c, rk⟩ := carriesN_of (P := X.prog) (w := X.w) rel
  have p2 := I2.pin (s.heap.objs.size, { cls := .type "dict", data := .dict #[] }) (List.mem_append_right _ (List.mem_append_right _ (mem_pinsAt (by simp) g0)))
  have I3 := I2.unpinned
  refine ⟨rs, c, ⟨_, #[], _, p2.1, ?_, rfl, ?_, .nil, List.nodup_nil⟩, fun h' dd' hsb => ?_⟩
  · exact ⟨rfl, rfl, rfl⟩
  · intro e he
    simp at he
  have f1 : FpOk X pins H1 s.heap.objs.size := ⟨p2.2.1, f0.2⟩
  have I4 : Inv X pins σ H1 { s1 with heap := h', toks := s1.toks + ws.length } := I3.turned (fun b o hb e => by rw [hsb.2 b hb]; exact e) f1.1 f1.2.1 f1.2.2.2.1 f1.2.2.2.2.1 f1.2.2.2.2.2
  obtain ⟨o, es, ep, ho, hx, hdt, hk, hp, hnd⟩ := dd'
  have I5 := I4.pinned (fp := [s.heap.objs.size]) (fun b hb => by rw [List.mem_singleton.mp hb]; exact f1) (fun b hb => by rw [List.mem_singleton.mp hb]; exact ⟨o, ho, fun v z => by rw [hdt] at z; exact nomatch z⟩)
  refine thn (hi.run _ _ σ H1 _ I5 q1) fun iv s2 ⟨y, H2, I6, ry, k, v, ey, hv, q2⟩ => ?_
  subst ey
  have p6 := I6.pin (s.heap.objs.size, o) (List.mem_append_right _ (List.mem_append_right _ (mem_pinsAt (by simp) ho)))
  have dd2 : s2.heap.DictOf (noneKind X.prog X.w) s.heap.objs.size (merged [] rs) := ⟨o, es, ep, p6.1, hx, hdt, hk, hp, hnd⟩
  have kv := KVN.merge rk (kvs := []) (vs := []) .nil
  obtain ⟨w', hw, rw'⟩ := RelO.some_of (v := v) (o := valueAt (merged [] rs) k) (by rw [← hv]; exact kv.val k)
  exact ⟨dd2.typeIs, PySem.wpAny_getItem_of (nkV_is ry) dd2.mapOf hw ⟨v, H2, (I6.unpinned).tok _, rw', q2⟩⟩
theorem ten_lt {k : Nat} (h : k ≤ 300) : (10 : Nat) ^ k < 2 ^ 1201 := by
  have h1 : (10 : Nat) ^ k ≤ 16 ^ k := Nat.pow_le_pow_left (by decide) k
  have h2 : (16 : Nat) ^ k = 2 ^ (4 * k) := by rw [Nat.pow_mul]
  have h3 : (2 : Nat) ^ (4 * k) ≤ 2 ^ 1200 := Nat.pow_le_pow_right (by decide) (by omega)
  exact Nat.lt_of_le_of_lt (Nat.le_trans h1 (by rw [h2]; exact h3)) (Nat.pow_lt_pow_right (by decide) (by decide))
theorem dg_big {z : Int} {k : Nat} (h : z.natAbs < 10 ^ k) (k3 : k ≤ 300) : z.natAbs < 2 ^ 1201 := Nat.lt_trans h (ten_lt k3)
/-! ### texts -/
def iT (n : Int) : Str := Str.ofString (toString n)
theorem emp_app (x : Str) : Str.empty ++ x = x := ext_tl (by rw [tl_append]; rfl)
theorem len_app (x y : Str) : (x ++ y).length = x.length + y.length := by rw [len_tl, len_tl, len_tl, tl_append, List.length_append]
theorem joinL_len (S : List Nat) : ∀ L : List (List Nat), (joinL S L).length ≤ (L.map List.length).sum + L.length * S.length
  | [] => Nat.zero_le _
  | [p] => by
    show p.length ≤ p.length + 0 + 1 * S.length
    omega
  | p :: q :: r => by
    have h := joinL_len S (q :: r)
    have e : (joinL S (p :: q :: r)).length = p.length + (S.length + (joinL S (q :: r)).length) := by
      show (p ++ (S ++ joinL S (q :: r))).length = _
      rw [List.length_append, List.length_append]
    rw [e, List.map_cons, List.sum_cons, List.length_cons, Nat.add_mul]
    omega
theorem sum_le {b : Nat} : ∀ {ys : List Str}, (∀ y, y ∈ ys → y.length ≤ b) → (ys.map (·.length)).sum ≤ ys.length * b
  | [], _ => Nat.zero_le _
  | y :: r, h => by
    have h1 := h y List.mem_cons_self
    have h2 := sum_le (ys := r) fun z hz => h z (List.mem_cons_of_mem _ hz)
    rw [List.map_cons, List.sum_cons, List.length_cons, Nat.add_mul]
    omega
theorem join_sum {a : Str} {ys : List Str} {b : Nat} (h : ∀ y, y ∈ ys → y.length ≤ b) : (ys.map (·.length)).sum + ys.length * a.length ≤ ys.length * (b + a.length) := by
  have := sum_le h
  rw [Nat.mul_add]
  omega
theorem join_len0 (a : Str) (ys : List Str) : (Txt.join a ys).length ≤ (ys.map (·.length)).sum + ys.length * a.length := by
  have h := joinL_len (tl a) (ys.map tl)
  rw [join_eq, len_tl, tl_join]
  have e : ((ys.map tl).map List.length) = ys.map (·.length) := by
    rw [List.map_map]
    exact List.map_congr_left fun y _ => (len_tl y).symm
  rw [e, List.length_map, ← len_tl] at h
  exact h
theorem join_len {a : Str} {ys : List Str} {b : Nat} (h : ∀ y, y ∈ ys → y.length ≤ b) : (Txt.join a ys).length ≤ ys.length * (b + a.length) := Nat.le_trans (join_len0 a ys) (join_sum h)
theorem iT_len {z : Int} {k : Nat} (hk : 1 ≤ k) (h : z.natAbs < 10 ^ k) : (iT z).length ≤ k + 1 := by
  unfold iT
  rw [ofString_length]
  exact int_text_length_le10 hk h
theorem iT_log {z : Int} {k : Nat} (h : z.natAbs < 10 ^ k) (k3 : k ≤ 300) : z.natAbs.log2 < 1920 := Nat.lt_of_lt_of_le (PySem.Flt.log2_lt_of (by decide) (dg_big h k3)) (by decide)
def numT (r : Int × Int) : Str := if r.2 = 1 then iT r.1 else iT r.1 ++ "/" ++ iT r.2
def sidesT (ns : List Int) : Str := Txt.join " " (ns.map iT)
def quT (q : List Int × Int) : Str := sidesT q.1 ++ " : " ++ iT q.2
def bookT (d : Int) (qs : List (List Int × Int)) : Str := Txt.join "\n" (("book " ++ iT d) :: qs.map quT)
def pointT (rs : List (Int × Int)) : Str := Txt.join " " (rs.map numT)
def sgnT : Option Int → Str
  | none => "?"
  | some a => if a = -1 then ("-" : Str) else if a = 0 then ("0" : Str) else ("+" : Str)
def wishT (hs : List (Option Int)) : Str := if hs = [] then "." else Txt.join "" (hs.map sgnT)
def sayT : Say → Str
  | .q a ns wl => "(" ++ wordA a ++ " [" ++ sidesT ns ++ "] " ++ iT wl ++ ")"
  | .nt s => "(" ++ Txt.join " " (("not" : Str) :: [sayT s]) ++ ")"
  | .bo s t => "(" ++ Txt.join " " (("both" : Str) :: [sayT s, sayT t]) ++ ")"
  | .ei s t => "(" ++ Txt.join " " (("either" : Str) :: [sayT s, sayT t]) ++ ")"
def HopeOk (h : Option Int) : Prop := h = none ∨ h = some (-1) ∨ h = some 0 ∨ h = some 1
theorem numT_len {r : Int × Int} {k : Nat} (hk : 1 ≤ k) (h1 : r.1.natAbs < 10 ^ k) (h2 : r.2.natAbs < 10 ^ k) : (numT r).length ≤ 2 * k + 3 := by
  have a := iT_len hk h1
  have b := iT_len hk h2
  unfold numT
  split
  · omega
  · rw [len_app, len_app]
    have : ("/" : Str).length = 1 := rfl
    omega
theorem sidesT_len {ns : List Int} {k : Nat} (hk : 1 ≤ k) (h : ∀ z, z ∈ ns → z.natAbs < 10 ^ k) : (sidesT ns).length ≤ ns.length * (k + 1 + 1) := by
  have := join_len (a := " ") (ys := ns.map iT) (b := k + 1) fun y hy => by
    obtain ⟨z, hz, rfl⟩ := List.mem_map.mp hy
    exact iT_len hk (h z hz)
  rw [List.length_map] at this
  exact this
theorem quT_len {q : List Int × Int} {k : Nat} (hk : 1 ≤ k) (h : ∀ z, z ∈ q.1 → z.natAbs < 10 ^ k) (hw : q.2.natAbs < 10 ^ k) : (quT q).length ≤ q.1.length * (k + 1 + 1) + k + 4 := by
  have a := sidesT_len hk h
  have b := iT_len hk hw
  unfold quT
  rw [len_app, len_app]
  have : (" : " : Str).length = 3 := rfl
  omega
theorem sgnT_len (h : Option Int) : (sgnT h).length = 1 := by
  cases h with
  | none => rfl
  | some a =>
    rw [show sgnT (some a) = if a = -1 then ("-" : Str) else if a = 0 then ("0" : Str) else ("+" : Str) from rfl]
    split
    · decide +kernel
    · split <;> decide +kernel
theorem wordA_len (a : Int) : (wordA a).length ≤ 4 := by
  unfold wordA
  split
  · decide
  · split <;> decide
theorem sz_pos : ∀ s : Say, 1 ≤ szS s
  | .q _ _ _ => Nat.le_refl _
  | .nt s => Nat.succ_le_succ (Nat.zero_le _)
  | .bo s t => Nat.succ_le_succ (Nat.zero_le _)
  | .ei s t => Nat.succ_le_succ (Nat.zero_le _)
theorem sayT_len {k d : Nat} (hk : 1 ≤ k) (k6 : k ≤ 60) (d12 : d ≤ 12) : ∀ {s : Say}, SayB (10 ^ k) d s → (sayT s).length ≤ 1000 * szS s
  | .q a ns wl, h => by
    obtain ⟨_, _, l, z, w⟩ := h
    have x1 := sidesT_len hk z
    have x2 := iT_len hk w
    have x3 := wordA_len a
    have x4 : ns.length * (k + 1 + 1) ≤ 12 * 62 := Nat.mul_le_mul (by omega) (by omega)
    have e1 : ("(" : Str).length = 1 := rfl
    have e2 : (" [" : Str).length = 2 := rfl
    have e3 : ("] " : Str).length = 2 := rfl
    have e4 : (")" : Str).length = 1 := rfl
    simp only [sayT, szS, len_app]
    omega
  | .nt s, h => by
    have x := sayT_len hk k6 d12 (s := s) h
    have j := join_len0 " " (("not" : Str) :: [sayT s])
    have e : ((("not" : Str) :: [sayT s]).map (·.length)).sum = 3 + ((sayT s).length + 0) := rfl
    have e0 : (("not" : Str) :: [sayT s]).length * (" " : Str).length = 2 := rfl
    have e1 : ("(" : Str).length = 1 := rfl
    have e4 : (")" : Str).length = 1 := rfl
    rw [e, e0] at j
    simp only [sayT, szS, len_app]
    omega
  | .bo s t, h => by
    have x := sayT_len hk k6 d12 (s := s) h.1
    have y := sayT_len hk k6 d12 (s := t) h.2
    have j := join_len0 " " (("both" : Str) :: [sayT s, sayT t])
    have e : ((("both" : Str) :: [sayT s, sayT t]).map (·.length)).sum = 4 + ((sayT s).length + ((sayT t).length + 0)) := rfl
    have e0 : (("both" : Str) :: [sayT s, sayT t]).length * (" " : Str).length = 3 := rfl
    have e1 : ("(" : Str).length = 1 := rfl
    have e4 : (")" : Str).length = 1 := rfl
    rw [e, e0] at j
    simp only [sayT, szS, len_app]
    omega
  | .ei s t, h => by
    have x := sayT_len hk k6 d12 (s := s) h.1
    have y := sayT_len hk k6 d12 (s := t) h.2
    have j := join_len0 " " (("either" : Str) :: [sayT s, sayT t])
    have e : ((("either" : Str) :: [sayT s, sayT t]).map (·.length)).sum = 6 + ((sayT s).length + ((sayT t).length + 0)) := rfl
    have e0 : (("either" : Str) :: [sayT s, sayT t]).length * (" " : Str).length = 3 := rfl
    have e1 : ("(" : Str).length = 1 := rfl
    have e4 : (")" : Str).length = 1 := rfl
    rw [e, e0] at j
    simp only [sayT, szS, len_app]
    omega
theorem sayT_parts : ∀ {s : Say}, isQ s = false → sayT s = "(" ++ Txt.join " " (wordS s :: (partsS s).map sayT) ++ ")"
  | .q _ _ _, e => by cases e
  | .nt s, _ => rfl
  | .bo s t, _ => rfl
  | .ei s t, _ => rfl
theorem sayT_q (a : Int) (ns : List Int) (wl : Int) : sayT (.q a ns wl) = "(" ++ Txt.join " " (wordA a :: [Str.empty ++ "[" ++ sidesT ns ++ "]", iT wl]) ++ ")" := by
  refine ext_tl ?_
  show tl ("(" ++ wordA a ++ " [" ++ sidesT ns ++ "] " ++ iT wl ++ ")") = tl ("(" ++ Txt.join " " (wordA a :: [Str.empty ++ "[" ++ sidesT ns ++ "]", iT wl]) ++ ")")
  rw [join_eq]
  simp only [tl_append, tl_join, List.map_cons, List.map_nil, List.cons_append, List.nil_append, joinL]
  have e1 : tl (" [" : Str) = [32, 91] := by decide +kernel
  have e2 : tl ("] " : Str) = [93, 32] := by decide +kernel
  have e3 : tl (" " : Str) = [32] := by decide +kernel
  have e4 : tl ("[" : Str) = [91] := by decide +kernel
  have e5 : tl ("]" : Str) = [93] := by decide +kernel
  have e6 : tl Str.empty = [] := rfl
  rw [e1, e2, e3, e4, e5, e6]
  simp
/-- a list of texts -/
theorem lc_txts {K : PySem.W.Frag} {a : Addr} {xs : List V} {g : TG} {te : TE} {vs : List Nat} {σ : L2.St} {H1 : Hp} {D : Addr} {Qd : Hp → Prop} (zs : List Str) (hl : zs.length = xs.length) (nD : H1 D = none) (hs : SqT K H1 a xs) (hz : xs.length ≤ 1000)
    (step : ∀ (i : Nat) (x : V) (z : Str) (H : Hp) (Kc : VK), xs[i]? = some x → zs[i]? = some z → Gr H1 H → (∀ H4, Gr H H4 → Kc (.str z) H4) → g x (wipe σ vs) H fun σ2 H2 => wipe σ2 vs = wipe σ vs ∧ te σ2 H2 Kc)
    (fin : ∀ H, H D = some (.lst (zs.map V.str)) → Gr H1 H → Qd H) :
    ∃ W : Nat → Nat → Hp → Prop, (∃ m, W 0 m (upd H1 D (.lst []))) ∧ ∀ i m H, W i m H →
      ((Itt K a).stop i H ∧ Qd H) ∨ ((Itt K a).go i H ∧ ∃ Nx : Hp → Prop, (∀ H', Nx H' → ∃ m', m' < m ∧ W (i + 1) m' H') ∧ ∀ x H', (Itt K a).yld i H x H' → g x (wipe σ vs) H' fun σ2 H2 => wipe σ2 vs = wipe σ vs ∧ tYes σ2 H2 fun b H3 =>
        if b = true then te σ2 H3 fun y H4 => ∃ acc, H4 D = some (.lst acc) ∧ acc.length < sizeLine ∧ Nx (upd H4 D (.lst (acc ++ [y]))) else Nx H3) := by
  refine lc_mapT (fun i y _ => ∃ z, zs[i]? = some z ∧ y = .str z) (fun _ _ _ _ h _ => h) nD hs (by omega) (fun i x H Kc hx g1 kc => ?_) (fun ys H hD hy g1 hR => ?_)
  · have hi : i < zs.length := by
      have := (List.getElem?_eq_some_iff.mp hx).1
      omega
    have ez := List.getElem?_eq_getElem hi
    exact step i x _ H Kc hx ez g1 fun H4 g4 => kc _ H4 g4 ⟨_, ez, rfl⟩
  · have e : ys = zs.map V.str := by
      refine List.ext_getElem? fun i => ?_
      by_cases hi : i < ys.length
      · obtain ⟨z, e1, e2⟩ := hR i ys[i] (List.getElem?_eq_getElem hi)
        rw [List.getElem?_eq_getElem hi, List.getElem?_map, e1, e2]
        rfl
      · rw [List.getElem?_eq_none (by omega), List.getElem?_eq_none (by rw [List.length_map]; omega)]
    rw [e] at hD
    exact fin H hD g1
end SB
namespace SB
open PySem L2 GxR GA RZ RP
theorem ten_abs (k : Nat) : ((10 : Int) ^ k).natAbs = 10 ^ k := by rw [Int.natAbs_pow]; rfl
theorem ten_cast (k : Nat) : ((10 : Int) ^ k) = (((10 : Nat) ^ k : Nat) : Int) := by rw [Int.natCast_pow]; rfl
theorem znonZ_orY (zs : List Int) : NonZ zs ∨ zs = List.replicate zs.length 0 := by
  induction zs with
  | nil => exact .inr rfl
  | cons z r ih =>
    by_cases h : z = 0
    · rcases ih with k | k
      · exact .inl (by unfold NonZ; rw [List.any_cons, Bool.or_eq_true]; exact .inr k)
      · refine .inr ?_
        rw [List.length_cons, List.replicate_succ, ← k, h]
    · exact .inl (nonZ_of List.mem_cons_self h)
theorem ints_lt {b : Nat} : ∀ {l : List V}, (∀ (i : Nat) (y : V), l[i]? = some y → ∃ z : Int, y = .int z ∧ z.natAbs < b) → ∃ zs : List Int, l = zs.map V.int ∧ ∀ z, z ∈ zs → z.natAbs < b
  | [], _ => ⟨[], rfl, fun z h => by simp at h⟩
  | y :: r, f => by
    obtain ⟨z, e, hz⟩ := f 0 y rfl
    obtain ⟨zs, e2, h2⟩ := ints_lt (l := r) fun i y h => f (i + 1) y (by simpa using h)
    refine ⟨z :: zs, by rw [e, e2, List.map_cons], fun x hx => ?_⟩
    rcases List.mem_cons.mp hx with rfl | hx
    · exact hz
    · exact h2 x hx
section
variable {P : Program} {w : World} {K : PySem.W.Frag} {mg : Str → Option Value} {base : Heap}
def spPow10 : Sp := fun vs H Q _ => ∃ k : Nat, vs = [.int (k : Int)] ∧ k ≤ 300 ∧ Q (.int ((10 : Int) ^ k)) H
theorem sc_power : FnScope ["many", "found", "turn"] ["many"] (defScope s__law_power) := ⟨rfl, rfl, rfl, by decide +kernel, rfl, by decide +kernel, by decide +kernel⟩
theorem cl_power (D : Df K mg "_law_power" s__law_power) (B : Blt mg) : Cl P w K mg base 1 "_law_power" ["many"] spPow10 := by
  refine D.cl (fun _ _ _ _ _ _ us hl => match us, hl with | [_], _ => rfl) fun f fd F => F.ok sc_power (fun vs H Q E h => ?_) (fun cdv A outer s H vs Q E hr h => ?_)
  · obtain ⟨k, rfl, _⟩ := h
    rfl
  obtain ⟨k, rfl, k3, q⟩ := h
  refine ⟨_, (pss_cons (ps_set (i := 1) sc_power.nd rfl (.inl rfl) pe_int)
    (pss_cons (ps_for PassesOwn.never rfl (pi_range1 rfl B.rng (pa_cons (pv 0) pa_nil)) (pg_name (i := 2) sc_power.nd rfl (Or.inl rfl))
      (pss_one (ps_set (i := 1) sc_power.nd rfl (.inl rfl) (pe_op op_mul (pv 1) pe_int))))
    (pss_one (ps_ret (pv 1))))), ?_⟩
  refine ⟨_, rfl, _, rfl, by omega, by omega, for_range (lo := 0) (fun i σ H' => ∃ c2 : Option V, σ = [some (.int (k : Int)), some (.int ((10 : Int) ^ i)), c2] ∧ H' = H) ⟨_, rfl, rfl⟩ (fun i σ H' hi h => ?_) (fun σ H' h => ?_)⟩
  · obtain ⟨c2, rfl, rfl⟩ := h
    refine ⟨_, rfl, _, _, rfl, rfl, .inr ⟨by decide, by decide⟩, some (.int (0 + (i : Int))), ?_, rfl⟩
    rw [Int.pow_succ]
    rfl
  · obtain ⟨c2, rfl, rfl⟩ := h
    rw [Int.toNat_natCast]
    exact ⟨_, rfl, q⟩
def spInt : Sp := fun vs H Q _ => ∃ (dk : Addr) (k most : Nat), vs = [.ref dk, .int (most : Int)] ∧ Stk dk k H ∧ k ≤ 900000 ∧ 1 ≤ most ∧ most ≤ 300 ∧
  ∀ (z : Int) H', GrD dk H H' → Stk dk (k + 4) H' → z.natAbs < 10 ^ most → Q (.int z) H'
theorem sc_integer : FnScope ["well", "most", "kind", "side"] ["well", "most"] (defScope s__law_integer) := ⟨rfl, rfl, rfl, by decide +kernel, rfl, by decide +kernel, by decide +kernel⟩
theorem cl_integer (D : Df K mg "_law_integer" s__law_integer) (CDR : Cl P w K mg base 1 "_law_draw" ["well", "many"] spPick) (CPO : Cl P w K mg base 1 "_law_power" ["many"] spPow10) : Cl P w K mg base 2 "_law_integer" ["well", "most"] spInt := by
  refine D.cl (fun _ _ _ _ _ _ us hl => match us, hl with | [_, _], _ => rfl) fun f fd F => F.ok sc_integer (fun vs H Q E h => ?_) (fun cdv A outer s H vs Q E hr h => ?_)
  · obtain ⟨dk, k, most, rfl, _⟩ := h
    rfl
  obtain ⟨dk, k, most, rfl, sk, k9, m1, m3, hQ⟩ := h
  refine ⟨_, (pss_cons (ps_par (i := 2) (j := 3) rfl sc_integer.nd rfl rfl (by decide) rfl rfl (pa_cons (pe_cl CDR (hr.mono (by decide)) (pa_cons (pv 0) (pa_cons pe_int pa_nil))) (pa_cons (pe_op op_sub pe_int (pe_op op_mul pe_int (pe_cl CDR (hr.mono (by decide)) (pa_cons (pv 0) (pa_cons pe_int pa_nil))))) pa_nil)) rfl)
    (pss_cons (ps_if (pt_cmpR op_lt (pv 2) pe_int (nomark _)) (pss_one (ps_ret (pe_op op_mul (pv 3) (pe_cl CDR (hr.mono (by decide)) (pa_cons (pv 0) (pa_cons pe_int pa_nil)))))) pss_nil)
    (pss_cons (ps_if (pt_cmpR op_eq (pv 2) pe_int (nomark _)) (pss_one (ps_ret (pe_op op_mul (pv 3) (pe_op op_sub (pe_op op_sub (pe_cl CPO (hr.mono (by decide)) (pa_cons (pv 1) pa_nil)) pe_int) (pe_cl CDR (hr.mono (by decide)) (pa_cons (pv 0) (pa_cons pe_int pa_nil))))))) pss_nil)
    (pss_cons (ps_if (pt_cmpR op_eq (pv 2) pe_int (nomark _)) (pss_one (ps_ret (pe_op op_mul (pv 3) (pe_cl CDR (hr.mono (by decide)) (pa_cons (pv 0) (pa_cons (pe_cl CPO (hr.mono (by decide)) (pa_cons (pv 1) pa_nil)) pa_nil)))))) pss_nil)
    (pss_one (ps_ret (pe_op op_mul (pv 3) (pe_op op_add (pe_cl CPO (hr.mono (by decide)) (pa_cons (pe_cl CDR (hr.mono (by decide)) (pa_cons (pv 0) (pa_cons (pv 1) pa_nil))) pa_nil)) (pe_cl CDR (hr.mono (by decide)) (pa_cons (pv 0) (pa_cons pe_int pa_nil))))))))))), ?_⟩
  have big : ∀ z : Int, z.natAbs < 2 ^ 1201 → z.natAbs < 2 ^ 8000 := fun z h => Nat.lt_of_lt_of_le h (two_le (by decide))
  have big10 : ∀ z : Int, z.natAbs ≤ 1000 → z.natAbs < 2 ^ 8000 := fun z h => Nat.lt_of_lt_of_le (small2000 h) (two_le (by decide))
  have ten1 : 10 ≤ 10 ^ most := by
    have := Nat.pow_le_pow_right (show 0 < 10 by decide) m1
    omega
  have pos10 : ∀ n : Nat, (1 : Int) ≤ (10 : Int) ^ n := fun n => by
    rw [ten_cast]
    have := Nat.pow_pos (n := n) (show 0 < 10 by decide)
    omega
  refine ⟨_, rfl, dk, 6, _, rfl, sk, by omega, by decide, big10 6 (by decide), fun kd H1 _ _ g1 s1 => ?_⟩
  refine ⟨_, rfl, dk, 2, _, rfl, s1, by omega, by decide, big10 2 (by decide), fun sg H2 sg0 sg1 g2 s2 => ⟨_, _, rfl, rfl, .inl ⟨by decide, by decide⟩, _, _, rfl, rfl, _, _, rfl, ?_⟩⟩
  have sn : ((1 : Int) - 2 * sg).natAbs = 1 := by omega
  have sb : -(2 ^ 64) < (1 : Int) - 2 * sg ∧ (1 : Int) - 2 * sg < 2 ^ 64 := by omega
  have mulS : ∀ z : Int, ((1 - 2 * sg) * z).natAbs = z.natAbs := fun z => by rw [Int.natAbs_mul, sn, Nat.one_mul]
  have g12 := g1.trans g2
  have fin : ∀ (z : Int) (m : Nat) H', GrD dk H2 H' → Stk dk m H' → m ≤ k + 4 → z.natAbs < 10 ^ most → Q (.int ((1 - 2 * sg) * z)) H' := fun z m H' g s hm hz => hQ _ H' (g12.trans g) (s.more hm) (by rw [mulS]; exact hz)
  refine ⟨_, rfl, _, _, rfl, rfl, _, rfl, ?_⟩
  by_cases c1 : kd < 3
  · refine iteP c1 ⟨_, rfl, _, rfl, dk, 10, _, rfl, s2, by omega, by decide, big10 10 (by decide), fun t H3 t0 t1 g3 s3 => ⟨_, _, rfl, rfl, .inl sb, fin t _ H3 g3 s3 (by omega) (by omega)⟩⟩
  refine iteN c1 ⟨_, rfl, rfl, _, rfl, ?_⟩
  by_cases c2 : kd = 3
  · refine iteP (by rw [c2]) ⟨_, rfl, _, rfl, most, rfl, m3, _, _, rfl, rfl, _, rfl, dk, 9, _, rfl, s2, by omega, by decide, big10 9 (by decide), fun t H3 t0 t1 g3 s3 => ⟨_, _, rfl, rfl, _, _, rfl, rfl, .inl sb, fin _ _ H3 g3 s3 (by omega) ?_⟩⟩
    rw [ten_cast]
    omega
  refine iteN (fun z => c2 (by injection z)) ⟨_, rfl, rfl, _, rfl, ?_⟩
  by_cases c3 : kd = 4
  · refine iteP (by rw [c3]) ⟨_, rfl, _, rfl, _, rfl, most, rfl, m3, dk, _, _, rfl, s2, by omega, pos10 _, big _ (by rw [ten_abs]; exact ten_lt m3), fun t H3 t0 t1 g3 s3 => ⟨_, _, rfl, rfl, .inl sb, fin t _ H3 g3 s3 (by omega) ?_⟩⟩
    rw [ten_cast] at t1
    omega
  refine iteN (fun z => c3 (by injection z)) ⟨_, rfl, _, rfl, _, rfl, dk, _, _, rfl, s2, by omega, by omega, big10 _ (by omega), fun t H3 t0 t1 g3 s3 => ?_⟩
  obtain ⟨kt, rfl⟩ : ∃ j : Nat, t = (j : Int) := ⟨t.toNat, by omega⟩
  refine ⟨kt, rfl, by omega, _, rfl, dk, 2, _, rfl, s3, by omega, by decide, big10 2 (by decide), fun u H4 u0 u1 g4 s4 => ⟨_, _, rfl, rfl, _, _, rfl, rfl, .inl sb, fin _ _ H4 (g3.trans g4) s4 (by omega) ?_⟩⟩
  rw [ten_cast]
  have h1 : 10 ^ (kt + 1) ≤ 10 ^ most := Nat.pow_le_pow_right (by decide) (by omega)
  rw [Nat.pow_succ] at h1
  have h2 := Nat.pow_pos (n := kt) (show 0 < 10 by decide)
  omega
def spNumB (K : PySem.W.Frag) : Sp := fun vs H Q _ => ∃ (dk : Addr) (k most : Nat), vs = [.ref dk, .int (most : Int)] ∧ Stk dk k H ∧ k ≤ 800000 ∧ 1 ≤ most ∧ most ≤ 300 ∧
  ∀ v r H', GrD dk H H' → Stk dk (k + 10) H' → NuV K H' v r → Lo r → r.1.natAbs < 10 ^ most → r.2.natAbs < 10 ^ most → Q v H'
def spSided (K : PySem.W.Frag) : Sp := fun vs H Q _ => ∃ (dk : Addr) (k d most : Nat), vs = [.ref dk, .int (d : Int), .int (most : Int)] ∧ Stk dk k H ∧ k ≤ 800000 ∧ 1 ≤ d ∧ d ≤ 12 ∧ 1 ≤ most ∧ most ≤ 300 ∧
  ∀ v q H', GrD dk H H' → Stk dk (k + 60) H' → QuV K H' v q → NonZ q.1 → q.1.length = d → (∀ z, z ∈ q.1 → z.natAbs < 10 ^ most) → q.2.natAbs < 10 ^ most → Q v H'
theorem sc_sided : FnScope ["well", "d", "most", "side", "sides"] ["well", "d", "most"] (defScope s__law_sided) := ⟨rfl, rfl, rfl, by decide +kernel, rfl, by decide +kernel, by decide +kernel⟩
theorem cl_sided (D : Df K mg "_law_sided" s__law_sided) (B : Blt mg) (CDR : Cl P w K mg base 1 "_law_draw" ["well", "many"] spPick) (CIN : Cl P w K mg base 2 "_law_integer" ["well", "most"] spInt) : Cl P w K mg base 3 "_law_sided" ["well", "d", "most"] (spSided K) := by
  refine D.cl (fun _ _ _ _ _ _ us hl => match us, hl with | [_, _, _], _ => rfl) fun f fd F => F.ok sc_sided (fun vs H Q E h => ?_) (fun cdv A outer s H vs Q E hr h => ?_)
  · obtain ⟨dk, k, d, most, rfl, _⟩ := h
    rfl
  obtain ⟨dk, k, d, most, rfl, sk, k8, d1, d12, m1, m3, hQ⟩ := h
  refine ⟨_, (pss_cons (ps_setLc (i := 4) (own := [("side", 3)]) (g := gName 3) rfl sc_sided.nd rfl rfl rfl (pi_range1 rfl B.rng (pa_cons (pv 1) pa_nil)) (blkOk_by (N := ["well", "d", "most", "side", "sides"]) (sc := defScope s__law_sided) (by decide +kernel)) (fun _ _ _ _ _ => (pg_name (i := 3) sc_sided.nd rfl (Or.inl rfl))) (fun _ _ _ _ _ => pts_nil) (fun _ _ _ _ _ => (pe_cl CIN (hr.mono (by decide)) (pa_cons (pv 0) (pa_cons (pv 2) pa_nil)))))
    (pss_cons (ps_if (pt_cmpR (op_eqD hr.units) (pv 4) (pe_op op_rep (pe_lst (pa_cons pe_int pa_nil)) (pv 1)) (nomark _)) (pss_one (ps_asg pe_int (pg_sub (pv 4) (pe_cl CDR (hr.mono (by decide)) (pa_cons (pv 0) (pa_cons (pv 1) pa_nil))) set_list))) pss_nil)
    (pss_one (ps_ret (pe_tup (pa_cons (pe_callTy call_tuple_of rfl B.tup bootTup (pa_cons (pv 4) pa_nil)) (pa_cons (pe_cl CIN (hr.mono (by decide)) (pa_cons (pv 0) (pa_cons (pv 2) pa_nil))) pa_nil))))))), ?_⟩
  have ten1 : 1 < 10 ^ most := by
    have := Nat.pow_le_pow_right (show 0 < 10 by decide) m1
    omega
  refine ⟨_, rfl, _, rfl, by omega, by omega, fun D nD => ?_⟩
  rw [Int.toNat_natCast]
  have nDd := sk.ne nD
  refine lc_stkR (K := K) (c := 4) (fun _ y _ => ∃ z : Int, y = .int z ∧ z.natAbs < 10 ^ most) (fun _ _ _ _ h _ => h) nD sk (by omega) (fun j H3 Kc hj g3 s3 kc => ?_) (fun ys H3 hD hl g3 s3 hR => ?_)
  · exact ⟨rfl, _, rfl, _, rfl, dk, _, most, rfl, s3, by omega, m1, m3, fun z H4 g4 s4 hz => kc _ _ g4 s4 ⟨z, rfl, hz⟩⟩
  obtain ⟨zs, rfl, z9⟩ := ints_lt (b := 10 ^ most) fun j y e => hR j y e
  rw [List.length_map] at hl
  clear hR
  let Pst : (List Int → Prop) → Nat → L2.St → Hp → Prop := fun C u σ' H' => ∃ (ws : List Int) (c3 : Option V), σ' = [some (.ref dk), some (.int (d : Int)), some (.int (most : Int)), c3, some (.ref D)] ∧ H' D = some (.lst (ws.map V.int)) ∧ ws.length = d ∧ (∀ z, z ∈ ws → z.natAbs < 10 ^ most) ∧ GrD dk H H' ∧ Stk dk (k + u) H' ∧ C ws
  refine seq_join (Pst (fun _ => True) 48) (fun σ' H3 h => ?_) (fun Kn hK => hK _ _ ⟨zs, _, rfl, hD, hl, z9, g3, s3.more (by omega), trivial⟩)
  clear hl hD g3 s3 z9
  obtain ⟨zs, c3, rfl, hD, hl, z9, g3, s3, _⟩ := h
  refine seq_join (Pst NonZ 50) (fun σ' H4 h => ?_) (fun Kn hK => ?_)
  · obtain ⟨ws, c3, rfl, hD4, lw, w4, g4, s4, nz⟩ := h
    refine ⟨_, rfl, D, _, rfl, .inl ⟨SqL.of hD4, fun p1 n1 => ?_⟩⟩
    have r1 := (Gr.refl H4).new n1 (.tup (ws.map V.int))
    have e1 : SqT K (upd H4 p1 (.tup (ws.map V.int))) p1 (ws.map V.int) := SqT.of upd_same
    have s5 := s4.gr r1
    have g5 := g4.gr r1
    generalize upd H4 p1 (.tup (ws.map V.int)) = H5 at e1 s5 g5 ⊢
    refine ⟨_, rfl, _, rfl, dk, _, most, rfl, s5, by omega, m1, m3, fun z H6 g6 s6 hz => ⟨szN (by show 2 ≤ 1000000; decide), fun p2 n2 => ?_⟩⟩
    have r2 := (Gr.refl H6).new n2 (.tup [.ref p1, .int z])
    exact hQ _ (ws, z) _ ((g5.trans g6).gr r2) ((s6.gr r2).more (by omega)) ⟨p2, .ref p1, rfl, SqT.of upd_same, p1, rfl, r2.seqT ((g6.sk s5) _ _ e1)⟩ nz lw w4 hz
  · refine ⟨_, rfl, szN (by show 1 ≤ 1000000; decide), fun o0 w0 => ?_⟩
    have f0 := (Gr.refl H3).new w0 (.lst [.int 0])
    refine ⟨_, rfl, o0, _, _, rfl, rfl, upd_same, by omega, by omega, by rw [Int.toNat_natCast]; exact szN (by show 1 * d ≤ 1000000; omega), fun o1 w1 => ?_⟩
    have ez : (List.replicate ((d : Nat) : Int).toNat [V.int 0]).flatten = (List.replicate d (0 : Int)).map V.int := by rw [Int.toNat_natCast, flat_zero]
    rw [ez]
    have f1 := f0.new w1 (.lst ((List.replicate d (0 : Int)).map V.int))
    have e1 : (upd (upd H3 o0 (.lst [.int 0])) o1 (.lst ((List.replicate d (0 : Int)).map V.int))) o1 = some (.lst ((List.replicate d (0 : Int)).map V.int)) := upd_same
    have hDw := f1.lstK hD
    have sw := s3.gr f1
    have gw := g3.gr f1
    generalize upd (upd H3 o0 (.lst [.int 0])) o1 (.lst ((List.replicate d (0 : Int)).map V.int)) = W0 at e1 hDw sw gw ⊢
    clear f1 f0 ez
    refine ⟨.list (zs.map PyData.int), .list ((List.replicate d (0 : Int)).map PyData.int), .lst (SqL.of hDw) (dp_ints zs), .lst (SqL.of e1) (dp_ints _), shp_ints zs, shp_ints _, _, rfl, ?_⟩
    rw [eqv_ints]
    by_cases cz : zs = List.replicate d 0
    · refine iteP cz ?_
      refine ⟨_, rfl, _, rfl, _, rfl, dk, _, _, rfl, sw, by omega, by omega, big_take (n := d) (by omega), fun u H5 u0 u1 g5 s5 => ?_⟩
      obtain ⟨ku, rfl⟩ : ∃ j : Nat, u = (j : Int) := ⟨u.toNat, by omega⟩
      have hD5 := GrDL.lst g5 nDd hDw
      refine ⟨D, _, _, ku, rfl, rfl, hD5, ixN_nat (by rw [List.length_map, hl]; omega), ?_⟩
      refine hK _ _ ⟨zs.set ku 1, c3, rfl, by rw [upd_same, List.map_set], by rw [List.length_set, hl], fun z hz => ?_, (gw.trans g5).put nD _, (s5.off nDd).more (by omega), nonZ_of (List.mem_set (by omega) 1) (by decide)⟩
      rcases List.mem_or_eq_of_mem_set hz with h | h
      · exact z9 z h
      · rw [h]
        exact ten1
    · refine iteN cz (hK _ _ ⟨zs, c3, rfl, hDw, hl, z9, gw, sw.more (by omega), ?_⟩)
      rcases znonZ_orY zs with h | h
      · exact h
      · rw [hl] at h
        exact absurd h cz
end
end SB
namespace SB
open PySem L2 GxR GA RZ RP
/-- draws for a saying -/
def cE : Nat → Nat
  | 0 => 70
  | n + 1 => 2 * cE n + 2
theorem cE_pos : ∀ n, 70 ≤ cE n
  | 0 => Nat.le_refl _
  | n + 1 => by have := cE_pos n; show 70 ≤ 2 * cE n + 2; omega
/-- len(e), the things told outright -/
theorem pe_lenK {X : Cx} {e : Expr} {te : TE} {p pos : Pos} (K : PySem.W.Frag) (hK : X.K = K) (he : PE X e te) (hm : X.mg "len" = none) (hg : Gl X "len" := by rfl) (hst : starEach [e] X.env = (false, eval e X.env) :: starEach [] X.env := by rfl) (hpl : (backTo pos (starEach [] X.env)).any (·.1) = false := by rfl) :
    PE X (.Call (.Name "len" p) [e] [] pos) (tLen K te) := by
  subst hK
  exact pe_len he hm hg hst hpl
/-- (0,) * d -/
theorem rep0Y {K : PySem.W.Frag} {H : Hp} {p : Addr} {d : Nat} {Kc : VK} (hp : SqT K H p [.int 0]) (hd : d ≤ 1000) (cont : ∀ c H', Gr H H' → SqT K H' c ((List.replicate d (0 : Int)).map V.int) → Kc (.ref c) H') : rRepA K (.ref p) (.int ((d : Nat) : Int)) H Kc := by
  refine ⟨p, _, _, rfl, rfl, hp, List.cons_ne_nil _ _, by omega, by omega, by show 1 ≤ 1000; decide, fun e => ?_, fun _ c nc => ?_⟩
  · have : d = 1 := by omega
    subst this
    exact cont p H (Gr.refl _) hp
  · have ez : (List.replicate ((d : Nat) : Int).toNat [V.int 0]).flatten = (List.replicate d (0 : Int)).map V.int := by rw [Int.toNat_natCast, flat_zero]
    rw [ez]
    exact cont c _ ((Gr.refl _).new nc _) (SqT.of upd_same)
section
variable {P : Program} {w : World} {K : PySem.W.Frag} {mg : Str → Option Value} {base : Heap}
def spBookB (K : PySem.W.Frag) : Sp := fun vs H Q _ => ∃ (dk : Addr) (k d many most : Nat), vs = [.ref dk, .int (d : Int), .int (many : Int), .int (most : Int)] ∧ Stk dk k H ∧ k ≤ 700000 ∧ 1 ≤ d ∧ d ≤ 12 ∧ many ≤ 20 ∧ 1 ≤ most ∧ most ≤ 300 ∧
  ∀ v qs H', GrD dk H H' → Stk dk (k + 1300) H' → BkV K H' v d qs → qs.length ≤ 20 → (qs.map nfU).Nodup → (∀ q, q ∈ qs → NonZ q.1 ∧ q.1.length = d ∧ (∀ z, z ∈ q.1 → z.natAbs < 10 ^ most) ∧ q.2.natAbs < 10 ^ most) → Q v H'
theorem sc_bookB : FnScope ["well", "d", "many", "most", "turn"] ["well", "d", "many", "most"] (defScope s__law_book) := ⟨rfl, rfl, rfl, by decide +kernel, rfl, by decide +kernel, by decide +kernel⟩
theorem cl_bookB (D : Df K mg "_law_book" s__law_book) (B : Blt mg) (CDR : Cl P w K mg base 1 "_law_draw" ["well", "many"] spPick) (CSD : Cl P w K mg base 3 "_law_sided" ["well", "d", "most"] (spSided K)) (CLU : Cl P w K mg base 3 "_law_unlike" ["questions"] (spUnl K)) : Cl P w K mg base 4 "_law_book" ["well", "d", "many", "most"] (spBookB K) := by
  refine D.cl (fun _ _ _ _ _ _ us hl => match us, hl with | [_, _, _, _], _ => rfl) fun f fd F => F.ok sc_bookB (fun vs H Q E h => ?_) (fun cdv A outer s H vs Q E hr h => ?_)
  · obtain ⟨dk, k, d, many, most, rfl, _⟩ := h
    rfl
  obtain ⟨dk, k, d, many, most, rfl, sk, k7, d1, d12, m20, m1, m3, hQ⟩ := h
  refine ⟨_, (pss_one (ps_ret (pe_tup (pa_cons (pv 1) (pa_cons (pe_callTy call_tuple_of rfl B.tup bootTup (pa_cons (pe_cl CLU (hr.mono (by decide)) (pa_cons (pe_lc (own := [("turn", 4)]) (g := gName 4) rfl sc_bookB.nd (pi_range1 rfl B.rng (pa_cons (pe_cl CDR (hr.mono (by decide)) (pa_cons (pv 0) (pa_cons (pe_op op_add (pv 2) pe_int) pa_nil))) pa_nil)) (blkOk_by (N := ["well", "d", "many", "most", "turn"]) (sc := defScope s__law_book) (by decide +kernel)) (fun _ _ _ _ _ => (pg_name (i := 4) sc_bookB.nd rfl (Or.inl rfl))) (fun _ _ _ _ _ => pts_nil) (fun _ _ _ _ _ => (pe_cl CSD (hr.mono (by decide)) (pa_cons (pv 0) (pa_cons (pv 1) (pa_cons (pv 3) pa_nil)))))) pa_nil)) pa_nil)) pa_nil))))), ?_⟩
  refine ⟨_, rfl, _, rfl, _, rfl, _, _, rfl, rfl, dk, _, _, rfl, sk, by omega, by omega, big_take (n := many + 1) (by omega), fun t H1 t0 t1 g1 s1 => ?_⟩
  obtain ⟨n, rfl⟩ : ∃ j : Nat, t = (j : Int) := ⟨t.toNat, by omega⟩
  refine ⟨_, rfl, by omega, by omega, fun D nD => ?_⟩
  rw [Int.toNat_natCast]
  have nDd := s1.ne nD
  refine lc_stkR (K := K) (c := 60) (fun _ y H => ∃ q, QuV K H y q ∧ NonZ q.1 ∧ q.1.length = d ∧ (∀ z, z ∈ q.1 → z.natAbs < 10 ^ most) ∧ q.2.natAbs < 10 ^ most) (fun _ _ _ _ ⟨q, h, r⟩ t => ⟨q, QuV.st h t, r⟩) nD s1 (by omega) (fun j H3 Kc hj g3 s3 kc => ?_) (fun ys H3 hD hl g3 s3 hR => ?_)
  · exact ⟨rfl, _, rfl, _, rfl, _, rfl, dk, _, d, most, rfl, s3, by omega, d1, d12, m1, m3, fun v q H4 g4 s4 hv a1 a2 a3 a4 => kc v H4 g4 s4 ⟨q, hv, a1, a2, a3, a4⟩⟩
  obtain ⟨qs, pq, hq⟩ : ∃ qs : List (List Int × Int), Paired (QuV K H3) ys qs ∧ ∀ q, q ∈ qs → NonZ q.1 ∧ q.1.length = d ∧ (∀ z, z ∈ q.1 → z.natAbs < 10 ^ most) ∧ q.2.natAbs < 10 ^ most := by
    have : ∀ l : List V, (∀ (i : Nat) (y : V), l[i]? = some y → ∃ q, QuV K H3 y q ∧ NonZ q.1 ∧ q.1.length = d ∧ (∀ z, z ∈ q.1 → z.natAbs < 10 ^ most) ∧ q.2.natAbs < 10 ^ most) → ∃ qs : List (List Int × Int), Paired (QuV K H3) l qs ∧ ∀ q, q ∈ qs → NonZ q.1 ∧ q.1.length = d ∧ (∀ z, z ∈ q.1 → z.natAbs < 10 ^ most) ∧ q.2.natAbs < 10 ^ most := fun l => by
      induction l with
      | nil => exact fun _ => ⟨[], .nil, fun q h => (by cases h)⟩
      | cons y r ih =>
        intro f
        obtain ⟨q, h1, h2⟩ := f 0 y rfl
        obtain ⟨qs, h3, h4⟩ := ih fun i z e => f (i + 1) z (by simpa using e)
        refine ⟨q :: qs, .cons h1 h3, fun p hp => ?_⟩
        rcases List.mem_cons.mp hp with rfl | hp
        · exact h2
        · exact h4 p hp
    exact this ys hR
  have lq := paired_len pq
  refine ⟨D, ys, qs, rfl, SqL.of hD, pq, fun q h => ?_, by omega, fun F zs H4 g4 _ hF pz => ?_⟩
  · obtain ⟨_, a2, a3, a4⟩ := hq q h
    exact ⟨fun z hz => Nat.lt_of_lt_of_le (dg_big (a3 z hz) m3) (two_le (by decide)), Nat.lt_of_lt_of_le (dg_big a4 m3) (two_le (by decide)), by omega⟩
  refine ⟨F, _, rfl, .inl ⟨SqL.of hF, fun p1 n1 => ⟨szN (by show 2 ≤ 1000000; decide), fun p2 n2 => ?_⟩⟩⟩
  have r1 := (Gr.refl H4).new n1 (.tup zs)
  have r2 := r1.new n2 (.tup [.int (d : Int), .ref p1])
  refine hQ _ _ _ ((g1.trans g3).gr (g4.trans r2)) ((s3.gr (g4.trans r2)).more (by omega)) ⟨p2, p1, zs, rfl, SqT.of upd_same, ((Gr.refl _).new n2 _).seqT (SqT.of upd_same), Paired.mapP pz fun _ _ z => QuV.gr z r2⟩ (Nat.le_trans (unlike_len qs) (by omega)) (kept_nd _) fun q h => hq q (unlike_mem h).1
/-! ### wishes -/
def spWishB (K : PySem.W.Frag) : Sp := fun vs H Q _ => ∃ (dk A : Addr) (k many : Nat) (as : List (Option Int)), vs = [.ref dk, .int (many : Int), .ref A] ∧ Stk dk k H ∧ k ≤ 800000 ∧ SqT K H A (as.map hopeV) ∧ 1 ≤ as.length ∧ as.length ≤ 4 ∧ many ≤ 20 ∧
  ∀ p (hs : List (Option Int)) H', GrD dk H H' → Stk dk (k + 20) H' → SqT K H' p (hs.map hopeV) → hs.length = many → (∀ h, h ∈ hs → h ∈ as) → Q (.ref p) H'
/-! ### sayings -/
def spDeep (K : PySem.W.Frag) (n : Nat) : Sp := fun vs H Q _ => ∃ (dk : Addr) (k d m most : Nat), vs = [.ref dk, .int (d : Int), .int (m : Int), .int (most : Int)] ∧ Stk dk k H ∧ k + cE n ≤ 800000 ∧ 1 ≤ d ∧ d ≤ 12 ∧ 1 ≤ m ∧ m ≤ n ∧ 1 ≤ most ∧ most ≤ 300 ∧
  ∀ v s H', GrD dk H H' → Stk dk (k + cE n) H' → SayV K H' s v → SayB (10 ^ most) d s → depS s ≤ n → szS s + 1 ≤ 2 ^ n → Q v H'
end
end SB
namespace SB
open PySem L2 GxR GA RZ RP TL
section
variable {P : Program} {w : World} {K : PySem.W.Frag} {mg : Str → Option Value} {base : Heap}
/-! ### the texts of the program -/
def spSignOf : Sp := fun vs H Q _ => ∃ h, vs = [hopeV h] ∧ HopeOk h ∧ Q (.str (sgnT h)) H
def spShSides (K : PySem.W.Frag) : Sp := fun vs H Q _ => ∃ x ns k, vs = [x] ∧ SiV K H x ns ∧ ns.length ≤ 12 ∧ 1 ≤ k ∧ k ≤ 300 ∧ (∀ z, z ∈ ns → z.natAbs < 10 ^ k) ∧ ∀ H', Gr H H' → Q (.str (sidesT ns)) H'
theorem sides_small {ns : List Int} {k : Nat} (l : ns.length ≤ 12) (k1 : 1 ≤ k) (k3 : k ≤ 300) (hz : ∀ z, z ∈ ns → z.natAbs < 10 ^ k) : ((ns.map iT).map (·.length)).sum + (ns.map iT).length * (" " : Str).length ≤ 16777216 := by
  have := join_sum (a := " ") (ys := ns.map iT) (b := k + 1) fun y hy => by
    obtain ⟨z, hz', rfl⟩ := List.mem_map.mp hy
    exact iT_len k1 (hz z hz')
  rw [List.length_map] at this ⊢
  have e : (" " : Str).length = 1 := rfl
  have m : ns.length * (k + 1 + (" " : Str).length) ≤ 12 * 302 := Nat.mul_le_mul l (by omega)
  omega
def spShNum (K : PySem.W.Frag) : Sp := fun vs H Q _ => ∃ x r k, vs = [x] ∧ NuV K H x r ∧ 1 ≤ k ∧ k ≤ 300 ∧ r.1.natAbs < 10 ^ k ∧ r.2.natAbs < 10 ^ k ∧ Q (.str (numT r)) H
def spShPoint (K : PySem.W.Frag) : Sp := fun vs H Q _ => ∃ x rs k, vs = [x] ∧ PtV K H x rs ∧ rs.length ≤ 12 ∧ 1 ≤ k ∧ k ≤ 300 ∧ (∀ r, r ∈ rs → r.1.natAbs < 10 ^ k ∧ r.2.natAbs < 10 ^ k) ∧ ∀ H', Gr H H' → Q (.str (pointT rs)) H'
theorem point_small {rs : List (Int × Int)} {k : Nat} (l : rs.length ≤ 12) (k1 : 1 ≤ k) (k3 : k ≤ 300) (hz : ∀ r, r ∈ rs → r.1.natAbs < 10 ^ k ∧ r.2.natAbs < 10 ^ k) : ((rs.map numT).map (·.length)).sum + (rs.map numT).length * (" " : Str).length ≤ 16777216 := by
  have := join_sum (a := " ") (ys := rs.map numT) (b := 2 * k + 3) fun y hy => by
    obtain ⟨z, hz', rfl⟩ := List.mem_map.mp hy
    exact numT_len k1 (hz z hz').1 (hz z hz').2
  rw [List.length_map] at this ⊢
  have e : (" " : Str).length = 1 := rfl
  have m : rs.length * (2 * k + 3 + (" " : Str).length) ≤ 12 * 604 := Nat.mul_le_mul l (by omega)
  omega
def spShWish (K : PySem.W.Frag) : Sp := fun vs H Q _ => ∃ (a : Addr) (hs : List (Option Int)), vs = [.ref a] ∧ SqT K H a (hs.map hopeV) ∧ hs.length ≤ 1000 ∧ (∀ h, h ∈ hs → HopeOk h) ∧ ∀ H', Gr H H' → Q (.str (wishT hs)) H'
theorem wish_small {hs : List (Option Int)} (l : hs.length ≤ 1000) : ((hs.map sgnT).map (·.length)).sum + (hs.map sgnT).length * ("" : Str).length ≤ 16777216 := by
  have := join_sum (a := "") (ys := hs.map sgnT) (b := 1) fun y hy => by
    obtain ⟨z, _, rfl⟩ := List.mem_map.mp hy
    rw [sgnT_len]
    exact Nat.le_refl _
  rw [List.length_map] at this ⊢
  have e : ("" : Str).length = 0 := rfl
  rw [e] at this ⊢
  omega
def spShQu (K : PySem.W.Frag) : Sp := fun vs H Q _ => ∃ x q0 k, vs = [x] ∧ QuV K H x q0 ∧ q0.1.length ≤ 12 ∧ 1 ≤ k ∧ k ≤ 300 ∧ (∀ z, z ∈ q0.1 → z.natAbs < 10 ^ k) ∧ q0.2.natAbs < 10 ^ k ∧ ∀ H', Gr H H' → Q (.str (quT q0)) H'
def spShBook (K : PySem.W.Frag) : Sp := fun vs H Q _ => ∃ x d qs k, vs = [x] ∧ BkV K H x d qs ∧ d ≤ 12 ∧ qs.length ≤ 100 ∧ 1 ≤ k ∧ k ≤ 300 ∧ (∀ q, q ∈ qs → q.1.length ≤ 12 ∧ (∀ z, z ∈ q.1 → z.natAbs < 10 ^ k) ∧ q.2.natAbs < 10 ^ k) ∧ ∀ H', Gr H H' → Q (.str (bookT (d : Int) qs)) H'
theorem d_small {d : Nat} (h : d ≤ 12) : ((d : Nat) : Int).natAbs < 10 ^ 2 := by
  rw [Int.natAbs_natCast]
  exact Nat.lt_of_le_of_lt h (by decide)
theorem book_small {d : Nat} {qs : List (List Int × Int)} {k : Nat} (hd : d ≤ 12) (l : qs.length ≤ 100) (k1 : 1 ≤ k) (k3 : k ≤ 300) (hz : ∀ q, q ∈ qs → q.1.length ≤ 12 ∧ (∀ z, z ∈ q.1 → z.natAbs < 10 ^ k) ∧ q.2.natAbs < 10 ^ k) : (((("book " : Str) ++ iT (d : Int)) :: qs.map quT).map (·.length)).sum + ((("book " : Str) ++ iT (d : Int)) :: qs.map quT).length * ("\n" : Str).length ≤ 16777216 := by
  have := join_sum (a := "\n") (ys := (("book " : Str) ++ iT (d : Int)) :: qs.map quT) (b := 5000) fun y hy => by
    rcases List.mem_cons.mp hy with rfl | hy
    · rw [len_app]
      have := iT_len (by decide) (d_small hd)
      have e : ("book " : Str).length = 5 := rfl
      omega
    · obtain ⟨z, hz', rfl⟩ := List.mem_map.mp hy
      obtain ⟨a, b, c⟩ := hz z hz'
      have h1 := quT_len k1 b c
      have h2 : z.1.length * (k + 1 + 1) ≤ 12 * 302 := Nat.mul_le_mul a (by omega)
      omega
  have e : ("\n" : Str).length = 1 := rfl
  have e2 : ((("book " : Str) ++ iT (d : Int)) :: qs.map quT).length = qs.length + 1 := by rw [List.length_cons, List.length_map]
  rw [e2, e] at this ⊢
  omega
/-! ### sayings -/
def spShSay (K : PySem.W.Frag) (n : Nat) : Sp := fun vs H Q _ => ∃ x s d k, vs = [x] ∧ SayV K H s x ∧ SayB (10 ^ k) d s ∧ d ≤ 12 ∧ 1 ≤ k ∧ k ≤ 60 ∧ depS s ≤ n ∧ szS s ≤ 5000 ∧ ∀ H', Gr H H' → Q (.str (sayT s)) H'
theorem in_wordC (s : Say) : inV (.str (wordS s)) [.str "not", .str "both", .str "either"] = !isQ s := by
  cases s with
  | q a ns wl =>
    show inV (.str (wordA a)) _ = false
    unfold wordA
    split
    · decide +kernel
    · split <;> decide +kernel
  | nt s => exact (by decide +kernel : inV (.str ("not" : Str)) [.str "not", .str "both", .str "either"] = true)
  | bo s t => exact (by decide +kernel : inV (.str ("both" : Str)) [.str "not", .str "both", .str "either"] = true)
  | ei s t => exact (by decide +kernel : inV (.str ("either" : Str)) [.str "not", .str "both", .str "either"] = true)
theorem part_sz {s t : Say} (h : t ∈ partsS s) : szS t ≤ szS s := by
  cases s with
  | q => cases h
  | nt s =>
    rw [List.mem_singleton.mp h]
    exact Nat.le_succ _
  | bo s u =>
    simp only [partsS, List.mem_cons, List.not_mem_nil, or_false] at h
    simp only [szS]
    rcases h with rfl | rfl <;> omega
  | ei s u =>
    simp only [partsS, List.mem_cons, List.not_mem_nil, or_false] at h
    simp only [szS]
    rcases h with rfl | rfl <;> omega
theorem parts_n (s : Say) : (partsS s).length ≤ 2 := by cases s <;> simp [partsS]
theorem wordS_len (s : Say) : (wordS s).length ≤ 6 := by
  cases s with
  | q a ns wl => exact Nat.le_trans (wordA_len a) (by decide)
  | nt s => exact (by decide : ("not" : Str).length ≤ 6)
  | bo s t => exact (by decide : ("both" : Str).length ≤ 6)
  | ei s t => exact (by decide : ("either" : Str).length ≤ 6)
theorem say_small {s : Say} {k d : Nat} (k1 : 1 ≤ k) (k6 : k ≤ 60) (hd : d ≤ 12) (ok : SayB (10 ^ k) d s) (sz : szS s ≤ 5000) : ((wordS s :: (partsS s).map sayT).map (·.length)).sum + (wordS s :: (partsS s).map sayT).length * (" " : Str).length ≤ 15003000 := by
  have := join_sum (a := " ") (ys := wordS s :: (partsS s).map sayT) (b := 5000000) fun y hy => by
    rcases List.mem_cons.mp hy with rfl | hy
    · have := wordS_len s
      omega
    · obtain ⟨t, ht, rfl⟩ := List.mem_map.mp hy
      have h1 := sayT_len k1 k6 hd (part_ok ok ht)
      have h2 := part_sz ht
      omega
  have e : (" " : Str).length = 1 := rfl
  have e2 : (wordS s :: (partsS s).map sayT).length = (partsS s).length + 1 := by rw [List.length_cons, List.length_map]
  have e3 := parts_n s
  rw [e2, e] at this ⊢
  omega
theorem qsay_small {a : Int} {ns : List Int} {wl : Int} {k d : Nat} (k1 : 1 ≤ k) (k6 : k ≤ 60) (hd : d ≤ 12) (ok : SayB (10 ^ k) d (.q a ns wl)) : ((wordA a :: [Str.empty ++ "[" ++ sidesT ns ++ "]", iT wl]).map (·.length)).sum + (wordA a :: [Str.empty ++ "[" ++ sidesT ns ++ "]", iT wl]).length * (" " : Str).length ≤ 15003000 := by
  obtain ⟨_, _, l, z, w⟩ := ok
  have x1 := sidesT_len k1 z
  have x2 := iT_len k1 w
  have x3 := wordA_len a
  have x4 : ns.length * (k + 1 + 1) ≤ 12 * 62 := Nat.mul_le_mul (by omega) (by omega)
  have e : ((wordA a :: [Str.empty ++ "[" ++ sidesT ns ++ "]", iT wl]).map (·.length)).sum = (wordA a).length + ((Str.empty ++ "[" ++ sidesT ns ++ "]").length + ((iT wl).length + 0)) := rfl
  have e0 : (wordA a :: [Str.empty ++ "[" ++ sidesT ns ++ "]", iT wl]).length * (" " : Str).length = 3 := rfl
  have e1 : ("[" : Str).length = 1 := rfl
  have e2 : ("]" : Str).length = 1 := rfl
  rw [e, e0, emp_app, len_app, len_app]
  omega
theorem sz15 {n : Nat} (h : n ≤ 15003010) : n ≤ sizeLine := by
  rw [sizeLine_eq]
  omega
end
end SB
namespace SB
open PySem L2 GxR GA RZ RP TL
def kvsS : List (Option Key × V) := [(some (Sum.inl (-1)), .str "-"), (some (Sum.inl 0), .str "0"), (some (Sum.inl 1), .str "+"), (none, .str "?")]
theorem val_sign {h : Option Int} (ho : HopeOk h) : ∃ k, hopeV h = nkV k ∧ valV (mergeN [] kvsS) k = some (.str (sgnT h)) := by
  rcases ho with rfl | rfl | rfl | rfl
  · exact ⟨none, rfl, rfl⟩
  · exact ⟨some (Sum.inl (-1)), rfl, rfl⟩
  · exact ⟨some (Sum.inl 0), rfl, rfl⟩
  · exact ⟨some (Sum.inl 1), rfl, rfl⟩
section
variable {P : Program} {w : World} {K : PySem.W.Frag} {mg : Str → Option Value} {base : Heap}
/-! ### the law's own texts -/
theorem sc_lsQu : FnScope ["question", "side"] ["question"] (defScope s__law_said_question) := ⟨rfl, rfl, rfl, by decide +kernel, rfl, by decide +kernel, by decide +kernel⟩
theorem cl_lsQu (D : Df K mg "_law_said_question" s__law_said_question) (B : Blt mg) : Cl P w K mg base 1 "_law_said_question" ["question"] (spShQu K) := by
  refine D.cl (fun _ _ _ _ _ _ us hl => match us, hl with | [_], _ => rfl) fun f fd F => F.ok sc_lsQu (fun vs H Q E h => ?_) (fun cdv A outer s H vs Q E hr h => ?_)
  · obtain ⟨x, q0, k, rfl, _⟩ := h
    rfl
  obtain ⟨x, q0, k, rfl, ⟨a, sv, rfl, hs, b, rfl, hb⟩, l, k1, k3, hz, hw, q⟩ := h
  refine ⟨_, (pss_one (ps_ret (pe_op op_add_str (pe_op op_add_str (pe_join pe_str (pe_lc (own := [("side", 1)]) (g := gName 1) rfl sc_lsQu.nd (pi_tup (pe_ix ix_tup (pv 0) pe_int (fun _ _ => rfl))) (blkOk_by (N := ["question", "side"]) (sc := defScope s__law_said_question) (by decide +kernel)) (fun _ _ _ _ _ => (pg_name (i := 1) sc_lsQu.nd rfl (Or.inl rfl))) (fun _ _ _ _ _ => pts_nil) (fun _ _ _ _ _ => (pe_callTy call_str_int rfl B.str bootStr (pa_cons (pv 1) pa_nil))))) pe_str) (pe_callTy call_str_int rfl B.str bootStr (pa_cons (pe_ix ix_tup (pv 0) pe_int (fun _ _ => rfl)) pa_nil))))), ?_⟩
  have l1 := sidesT_len k1 hz
  have l2 := iT_len k1 hw
  have l3 : q0.1.length * (k + 1 + 1) ≤ 12 * 302 := Nat.mul_le_mul l (by omega)
  have e : (" : " : Str).length = 3 := rfl
  refine ⟨⟨_, rfl⟩, _, rfl, a, _, _, _, rfl, rfl, hs, rfl, b, rfl, ⟨_, hb⟩, fun D nD => ?_⟩
  refine lc_txts (K := K) (q0.1.map iT) (by rw [List.length_map, List.length_map]) nD hb (by rw [List.length_map]; omega) (fun i x z H1 Kc hx hz' g1 kc => ?_) (fun H1 hD g1 => ?_)
  · rw [List.getElem?_map] at hx hz'
    cases e : q0.1[i]? with
    | none => rw [e] at hx; cases hx
    | some n =>
      rw [e] at hx hz'
      cases hx
      cases hz'
      exact ⟨rfl, _, rfl, n, rfl, iT_log (hz n (List.mem_of_getElem? e)) k3, kc H1 (Gr.refl _)⟩
  · refine ⟨_, D, q0.1.map iT, rfl, rfl, .inl (SqL.of hD), sides_small l k1 k3 hz, ?_⟩
    refine ⟨sidesT q0.1, " : ", rfl, rfl, sz15 (by omega), _, rfl, a, _, _, _, rfl, rfl, g1.seqT hs, rfl, q0.2, rfl, iT_log hw k3, sidesT q0.1 ++ " : ", iT q0.2, rfl, rfl, sz15 ?_, q H1 g1⟩
    rw [len_app]
    omega
theorem sc_lsBook : FnScope ["book", "question"] ["book"] (defScope s__law_said_book) := ⟨rfl, rfl, rfl, by decide +kernel, rfl, by decide +kernel, by decide +kernel⟩
theorem cl_lsBook (D : Df K mg "_law_said_book" s__law_said_book) (B : Blt mg) (CQ : Cl P w K mg base 1 "_law_said_question" ["question"] (spShQu K)) : Cl P w K mg base 2 "_law_said_book" ["book"] (spShBook K) := by
  refine D.cl (fun _ _ _ _ _ _ us hl => match us, hl with | [_], _ => rfl) fun f fd F => F.ok sc_lsBook (fun vs H Q E h => ?_) (fun cdv A outer s H vs Q E hr h => ?_)
  · obtain ⟨x, d, qs, k, rfl, _⟩ := h
    rfl
  obtain ⟨x, d, qs, k, rfl, ⟨a, b, xs, rfl, hs, hb, hp⟩, hd, l, k1, k3, hz, q⟩ := h
  have lx := paired_len hp
  refine ⟨_, (pss_one (ps_ret (pe_join pe_str (pe_op op_cat (pe_lst (pa_cons (pe_op op_add_str pe_str (pe_callTy call_str_int rfl B.str bootStr (pa_cons (pe_ix ix_tup (pv 0) pe_int (fun _ _ => rfl)) pa_nil))) pa_nil)) (pe_lc (own := [("question", 1)]) (g := gName 1) rfl sc_lsBook.nd (pi_tup (pe_ix ix_tup (pv 0) pe_int (fun _ _ => rfl))) (blkOk_by (N := ["book", "question"]) (sc := defScope s__law_said_book) (by decide +kernel)) (fun _ _ _ _ _ => (pg_name (i := 1) sc_lsBook.nd rfl (Or.inl rfl))) (fun _ _ _ _ _ => pts_nil) (fun _ _ _ _ _ => (pe_cl CQ (hr.mono (by decide)) (pa_cons (pv 1) pa_nil)))))))), ?_⟩
  have e5 : ("book " : Str).length = 5 := rfl
  have li := iT_len (by decide) (d_small hd)
  refine ⟨⟨_, rfl⟩, _, rfl, a, _, _, _, rfl, rfl, hs, rfl, (d : Int), rfl, iT_log (d_small hd) (by decide), "book ", iT (d : Int), rfl, rfl, sz15 (by omega), ?_⟩
  refine ⟨szN (by show 1 ≤ 1000000; decide), fun L nL => ?_⟩
  have rL := (Gr.refl H).new nL (.lst [.str ("book " ++ iT (d : Int))])
  refine ⟨_, rfl, a, _, _, _, rfl, rfl, rL.seqT hs, rfl, b, rfl, ⟨_, rL.seqT hb⟩, fun D nD => ?_⟩
  have eL : (upd H L (.lst [.str ("book " ++ iT (d : Int))])) L = some (.lst [.str ("book " ++ iT (d : Int))]) := upd_same
  have hbL := rL.seqT hb
  generalize upd H L (.lst [.str ("book " ++ iT (d : Int))]) = H0 at rL eL nD hbL ⊢
  refine lc_txts (K := K) (qs.map quT) (by rw [List.length_map, lx]) nD hbL (by omega) (fun i x z H1 Kc hx hz' g1 kc => ?_) (fun H1 hD g1 => ?_)
  · obtain ⟨r, er, hr'⟩ := paired_get hp hx
    rw [List.getElem?_map, er] at hz'
    cases hz'
    obtain ⟨b1, b2, b3⟩ := hz r (List.mem_of_getElem? er)
    exact ⟨rfl, _, rfl, x, r, k, rfl, hr'.gr (rL.trans g1), b1, k1, k3, b2, b3, kc⟩
  · refine ⟨L, D, _, _, rfl, rfl, g1.lstK eL, hD, szN (by rw [List.length_map, List.length_map]; show 1 + _ ≤ _; omega), fun p np => ?_⟩
    have rp := (Gr.refl H1).new np (.lst ([V.str ("book " ++ iT (d : Int))] ++ (qs.map quT).map V.str))
    exact ⟨_, p, (("book " ++ iT (d : Int)) :: qs.map quT), rfl, rfl, .inl (SqL.of upd_same), book_small hd l k1 k3 hz, q _ ((rL.trans g1).trans rp)⟩
end
end SB
namespace SB
open PySem L2 GxR GA RZ RP TL
/-! ### right things of the doors, and their texts -/
inductive Th where
  | num (r : Int × Int)
  | pt (rs : List (Int × Int))
  | row (hs : List (Option Int))
  | wish (hs : List (Option Int))
  | book (d : Nat) (qs : List (List Int × Int))
  | say (d : Nat) (s : Say)
  | qu (q : List Int × Int)
def ThD : Th → Nat
  | .num _ => 0
  | .pt _ => 1
  | .row _ => 2
  | .wish _ => 3
  | .book _ _ => 4
  | .say _ _ => 5
  | .qu _ => 6
def ThT : Th → Str
  | .num r => numT r
  | .pt rs => pointT rs
  | .row hs => wishT hs
  | .wish hs => wishT hs
  | .book d qs => bookT (d : Int) qs
  | .say _ s => sayT s
  | .qu q => quT q
def ThVal (K : PySem.W.Frag) (H : Hp) : Th → V → Prop
  | .num r => fun x => NuV K H x r
  | .pt rs => fun x => PtV K H x rs
  | .row hs => fun x => ∃ a, x = .ref a ∧ SqT K H a (hs.map hopeV)
  | .wish hs => fun x => ∃ a, x = .ref a ∧ SqT K H a (hs.map hopeV)
  | .book d qs => fun x => BkV K H x d qs
  | .say _ s => fun x => SayV K H s x
  | .qu q => fun x => QuV K H x q
def QuOk (k d : Nat) (q : List Int × Int) : Prop := NonZ q.1 ∧ q.1.length = d ∧ (∀ z, z ∈ q.1 → z.natAbs < 10 ^ k) ∧ q.2.natAbs < 10 ^ k
def ThOk (k : Nat) : Th → Prop
  | .num r => Lo r ∧ r.1.natAbs < 10 ^ k ∧ r.2.natAbs < 10 ^ k
  | .pt rs => 1 ≤ rs.length ∧ rs.length ≤ 12 ∧ ∀ r, r ∈ rs → Lo r ∧ r.1.natAbs < 10 ^ k ∧ r.2.natAbs < 10 ^ k
  | .row hs => hs.length ≤ 20 ∧ ∀ h, h ∈ hs → HopeOk h ∧ h ≠ none
  | .wish hs => hs.length ≤ 20 ∧ ∀ h, h ∈ hs → HopeOk h
  | .book d qs => 1 ≤ d ∧ d ≤ 12 ∧ qs.length ≤ 20 ∧ (qs.map nfU).Nodup ∧ ∀ q, q ∈ qs → QuOk k d q
  | .say d s => 1 ≤ d ∧ d ≤ 12 ∧ k ≤ 60 ∧ SayB (10 ^ k) d s ∧ depS s ≤ 12 ∧ szS s + 1 ≤ 2 ^ 12
  | .qu q => 1 ≤ q.1.length ∧ q.1.length ≤ 12 ∧ QuOk k q.1.length q
theorem ThVal.st {K : PySem.W.Frag} {H H' : Hp} (t : Tst K H H') : ∀ {th : Th} {x : V}, ThVal K H th x → ThVal K H' th x
  | .num _, _, ⟨a, e, h⟩ => ⟨a, e, t _ _ h⟩
  | .pt _, _, h => PtV.st h t
  | .row _, _, ⟨a, e, h⟩ => ⟨a, e, t _ _ h⟩
  | .wish _, _, ⟨a, e, h⟩ => ⟨a, e, t _ _ h⟩
  | .book _ _, _, ⟨a, b, xs, e, h1, h2, p⟩ => ⟨a, b, xs, e, t _ _ h1, t _ _ h2, Paired.mapP p fun _ _ z => QuV.st z t⟩
  | .say _ _, _, h => SayV.st t h
  | .qu _, _, h => QuV.st h t
theorem ThVal.gr {K : PySem.W.Frag} {H H' : Hp} (g : Gr H H') {th : Th} {x : V} (h : ThVal K H th x) : ThVal K H' th x := ThVal.st g.st h
def costT (door : Nat) : Nat := if door = 5 then 296000 else 2000
section
variable {P : Program} {w : World} {K : PySem.W.Frag} {mg : Str → Option Value} {base : Heap}
def spThing (K : PySem.W.Frag) : Sp := fun vs H Q _ => ∃ (dk : Addr) (k door most : Nat), vs = [.ref dk, .int (door : Int), .int (most : Int), .int 12] ∧ Stk dk k H ∧ k ≤ 400000 ∧ door ≤ 5 ∧ 1 ≤ most ∧ most ≤ 300 ∧ (2 ≤ door → most ≤ 60) ∧
  ∀ T x t H', GrD dk H H' → Stk dk (k + costT door) H' → SqT K H' T [x, .str (ThT t)] → ThVal K H' t x → ThOk most t → ThD t = door → Q (.ref T) H'
end
theorem neI {i j : Int} (h : i ≠ j) : ¬ V.int i = V.int j := fun e => h (by injection e)
theorem thT_len {k : Nat} (k1 : 1 ≤ k) (k3 : k ≤ 300) : ∀ {t : Th}, ThOk k t → (ThT t).length ≤ 16777216
  | .num r, h => by
    have := numT_len k1 h.2.1 h.2.2
    show (numT r).length ≤ _
    omega
  | .pt rs, h => Nat.le_trans (join_len0 _ _) (point_small h.2.1 k1 k3 fun r hr => (h.2.2 r hr).2)
  | .row hs, h => by
    show (wishT hs).length ≤ _
    unfold wishT
    split
    · decide
    · have l := h.1
      exact Nat.le_trans (join_len0 _ _) (wish_small (by omega))
  | .wish hs, h => by
    show (wishT hs).length ≤ _
    unfold wishT
    split
    · decide
    · have l := h.1
      exact Nat.le_trans (join_len0 _ _) (wish_small (by omega))
  | .book d qs, h => by
    have l := h.2.2.1
    have d12 := h.2.1
    exact Nat.le_trans (join_len0 _ _) (book_small d12 (by omega) k1 k3 fun q hq => by
      obtain ⟨_, a, b, c⟩ := h.2.2.2.2 q hq
      exact ⟨by omega, b, c⟩)
  | .say d s, h => by
    have := sayT_len k1 h.2.2.1 h.2.1 h.2.2.2.1
    have := h.2.2.2.2.2
    have : 2 ^ 12 = 4096 := by decide
    show (sayT s).length ≤ _
    omega
  | .qu q, h => by
    have h1 := quT_len k1 h.2.2.2.2.1 h.2.2.2.2.2
    have h2 : q.1.length * (k + 1 + 1) ≤ 12 * 302 := Nat.mul_le_mul h.2.1 (by omega)
    show (quT q).length ≤ _
    omega
/-- a row of what was asked: a door, a thing, its text -/
def RowT (K : PySem.W.Frag) (H : Hp) (v : V) : Prop := ∃ T x t m, v = .ref T ∧ SqT K H T [.int ((ThD t : Nat) : Int), x, .str (ThT t)] ∧ ThVal K H t x ∧ ThOk m t ∧ 1 ≤ m ∧ m ≤ 300
theorem RowT.st {K : PySem.W.Frag} {H H' : Hp} {v : V} (t : Tst K H H') (h : RowT K H v) : RowT K H' v :=
  let ⟨T, x, th, m, e, a, b, c⟩ := h; ⟨T, x, th, m, e, t _ _ a, ThVal.st t b, c⟩
def mW (t : Nat) : Nat := if t ≤ 5 then 100 + 2010 * t else 400000
theorem mW_le {t : Nat} (h : t ≤ 5) : mW t = 100 + 2010 * t := by
  unfold mW
  rw [if_pos h]
theorem mW_top (t : Nat) : mW t ≤ 400000 := by
  unfold mW
  split <;> omega
theorem mW_next {t : Nat} (h : t ≤ 5) : mW t + 1 + costT t + 1 ≤ mW (t + 1) := by
  rw [mW_le h]
  unfold mW costT
  split <;> split <;> omega
end SB
namespace SB
open PySem L2 GxR GA RZ TL
/-! ### signs of numbers -/
theorem tl_iT (z : Int) : tl (iT z) = if z < 0 then 45 :: numL z.natAbs else numL z.natAbs := by
  unfold iT
  cases z with
  | ofNat n =>
    rw [if_neg (show ¬ (Int.ofNat n < 0) from by simp)]
    exact tl_num n
  | negSucc m =>
    rw [if_pos (Int.negSucc_lt_zero m), tl_ofString]
    have e : toString (Int.negSucc m) = "-" ++ Nat.repr (m + 1) := rfl
    rw [e, String.toList_append, List.map_append, Nat.toList_repr]
    rfl
theorem tl_iTn {z : Int} (h : z < 0) : tl (iT z) = 45 :: numL z.natAbs := by rw [tl_iT, if_pos h]
theorem tl_iTp {z : Int} (h : ¬ z < 0) : tl (iT z) = numL z.natAbs := by rw [tl_iT, if_neg h]
theorem iT_free {s : Nat} (h : s < 45 ∨ (45 < s ∧ s < 48) ∨ 57 < s) (z : Int) : s ∉ tl (iT z) := by
  rw [tl_iT]
  have := numL_free (n := z.natAbs) (s := s) (by omega)
  split
  · intro hm
    rcases List.mem_cons.mp hm with e | e
    · omega
    · exact this e
  · exact this
theorem int_iT {z : Int} (h : z.natAbs < 10 ^ 9) : intText? (iT z) = some z := by
  have hl : (numL z.natAbs).length ≤ 9 := numL_len (by decide) h
  by_cases c : z < 0
  · have e := intText_neg (x := iT z) (cs := numL z.natAbs) (tl_iTn c) (numL_digits _) (numL_ne _) (by rw [len_tl, tl_iTn c, List.length_cons]; omega)
    rw [e, numL_val]
    congr 1
    omega
  · have e := intText_digits (x := iT z) (by rw [show (iT z).cps.toList = numL z.natAbs from tl_iTp c]; exact numL_digits _) (by rw [show (iT z).cps.toList = numL z.natAbs from tl_iTp c]; exact numL_ne _) (by rw [len_tl, tl_iTp c]; omega)
    rw [e, show (iT z).cps.toList = numL z.natAbs from tl_iTp c, numL_val]
    congr 1
    omega
theorem sw_pre {x y : Str} (hy : tl y ≠ []) : Txt.startswith x y = pre (tl y) (tl x) := by
  have h := at_iff (x := x) hy 0
  rw [List.drop_zero] at h
  have e : (Txt.startswith x y = true) ↔ StrLaws.At x y x.length 0 := by
    unfold Txt.startswith StrLaws.At
    rw [Bool.and_eq_true, decide_eq_true_iff]
  have k := e.trans h
  cases a : Txt.startswith x y <;> cases b : pre (tl y) (tl x) <;> simp_all
theorem pre1 (s c : Nat) (r : List Nat) : pre [s] (c :: r) = decide (c = s) := by
  unfold pre
  by_cases h : c = s
  · subst h
    simp
  · simp [h]
theorem pre1_nil (s : Nat) : pre [s] [] = false := rfl
theorem tl_minus : tl ("-" : Str) = [45] := by decide +kernel
theorem tl_zero : tl ("0" : Str) = [48] := by decide +kernel
theorem num_zero : ∀ n : Nat, pre [48] (numL n) = decide (n = 0) := by
  intro n
  induction n using Nat.strongRecOn with
  | _ n ih =>
    by_cases h : n < 10
    · rw [numL_lt h, pre1]
      by_cases e : n = 0
      · subst e
        rfl
      · rw [decide_eq_false e, decide_eq_false (by omega)]
    · rw [numL_step (by omega)]
      have k := ih (n / 10) (by omega)
      rw [decide_eq_false (by omega)] at k
      rw [decide_eq_false (by omega)]
      cases q : numL (n / 10) with
      | nil => exact absurd q (numL_ne _)
      | cons c r =>
        rw [q, pre1] at k
        rw [List.cons_append, pre1]
        exact k
theorem cut1 (z : Str) : tl (cutS z (some 1) none) = (tl z).drop 1 := by
  unfold cutS
  rw [tl_mk]
  have hl := len_tl z
  have e1 : HT.sIx z.length z.length none = z.length := rfl
  have e2 : HT.sIx z.length 0 (some 1) = min 1 z.length := by
    show (if (1 : Int) < 0 then ((1 : Int) + (z.length : Int)).toNat else min (1 : Int).toNat z.length) = _
    rw [if_neg (by decide)]
    rfl
  rw [e1, e2]
  show ((tl z).drop (min 1 z.length)).take (z.length - min 1 z.length) = _
  by_cases h : 1 ≤ z.length
  · rw [Nat.min_eq_left h]
    exact List.take_of_length_le (by rw [List.length_drop]; omega)
  · have : tl z = [] := List.length_eq_zero_iff.mp (by omega)
    rw [this]
    simp
/-- the digits of an integer's text -/
def digS (z : Int) : Str := ⟨(numL z.natAbs).toArray⟩
theorem tl_digS (z : Int) : tl (digS z) = numL z.natAbs := rfl
theorem digS_pos {z : Int} (h : ¬ z < 0) : iT z = digS z := ext_tl (tl_iTp h)
theorem digS_neg {z : Int} (h : z < 0) : cutS (iT z) (some 1) none = digS z := ext_tl (by rw [cut1, tl_iTn h]; rfl)
theorem sw_iT (z : Int) : Txt.startswith (iT z) "-" = decide (z < 0) := by
  rw [sw_pre (by rw [tl_minus]; simp), tl_minus]
  by_cases c : z < 0
  · rw [tl_iTn c, pre1, decide_eq_true c]
    rfl
  · rw [tl_iTp c, decide_eq_false c]
    cases q : numL z.natAbs with
    | nil => exact absurd q (numL_ne _)
    | cons d r =>
      rw [pre1]
      have := numL_digits z.natAbs d (by rw [q]; exact List.mem_cons_self)
      exact decide_eq_false (by omega)
theorem sw_dig (z : Int) : Txt.startswith (digS z) "0" = decide (z = 0) := by
  rw [sw_pre (by rw [tl_zero]; simp), tl_zero, tl_digS, num_zero]
  by_cases c : z = 0
  · subst c
    rfl
  · rw [decide_eq_false c, decide_eq_false (by omega)]
theorem all_tl (x : Str) (p : Nat → Bool) : x.cps.all p = (tl x).all p := by simp [tl]
theorem asc_dig (z : Int) : Txt.isascii (digS z) = true := by
  unfold Txt.isascii
  rw [all_tl, tl_digS, List.all_eq_true]
  intro c hc
  have := numL_digits _ c hc
  exact decide_eq_true (by omega)
theorem dig58 : ∀ c, c < 58 → 48 ≤ c → Unicode.isDigit c = true := by decide +kernel
theorem isd_dig (z : Int) : Txt.isdigit (digS z) = true := by
  unfold Txt.isdigit
  rw [all_tl, tl_digS, Bool.and_eq_true]
  refine ⟨decide_eq_true ?_, ?_⟩
  · rw [len_tl, tl_digS]
    exact List.length_pos_iff.mpr (numL_ne _)
  · rw [List.all_eq_true]
    intro c hc
    have := numL_digits _ c hc
    exact dig58 c (by omega) (by omega)
theorem len_dig {z : Int} (h : z.natAbs < 10 ^ 9) : (digS z).length ≤ 9 := by
  rw [len_tl, tl_digS]
  exact numL_len (by decide) h
theorem len_dig0 (z : Int) {k : Nat} (hk : 0 < k) (h : z.natAbs < 10 ^ k) : (digS z).length ≤ k := by
  rw [len_tl, tl_digS]
  exact numL_len hk h
theorem iT_zero : iT 0 = ("0" : Str) := rfl
end SB
namespace SB
open PySem L2 GxR GA RZ RP TL
/-- how many signs an integer may have -/
structure MostD (mg : Str → Option Value) : Prop where
  ex : ∃ t : Tok, mg "MOST_DIGITS" = some (.int 9 t)
theorem tru_str {K : PySem.W.Frag} {H : Hp} {z : Str} (h : z.length ≤ sizeLine) : TruV K (.str z) H ((z.length : Int) != 0) := ⟨h, rfl⟩
theorem tru_s1 {K : PySem.W.Frag} {H : Hp} {z : Str} (h : z.length ≤ sizeLine) (n : 1 ≤ z.length) : TruV K (.str z) H true := by
  have e : ((z.length : Int) != 0) = true := by
    rw [bne_iff_ne]
    omega
  exact ⟨h, e.symm⟩
theorem tru_s0 {K : PySem.W.Frag} {H : Hp} : TruV K (.str Str.empty) H false := ⟨Nat.zero_le _, rfl⟩
section
variable {P : Program} {w : World} {K : PySem.W.Frag} {mg : Str → Option Value} {base : Heap}
def spIntIn : Sp := fun vs H Q _ => ∃ z : Int, vs = [.str (iT z)] ∧ z.natAbs < 10 ^ 9 ∧ Q (.int z) H
theorem sc_intIn : FnScope ["word", "digits"] ["word"] (defScope s_integer_in) := ⟨rfl, rfl, rfl, by decide +kernel, rfl, by decide +kernel, by decide +kernel⟩
theorem cl_intIn (D : Df K mg "integer_in" s_integer_in) (B : Blt mg) (MD : MostD mg) : Cl P w K mg base 1 "integer_in" ["word"] spIntIn := by
  refine D.cl (fun _ _ _ _ _ _ us hl => match us, hl with | [_], _ => rfl) fun f fd F => F.ok sc_intIn (fun vs H Q E h => ?_) (fun cdv A outer s H vs Q E hr h => ?_)
  · obtain ⟨z, rfl, _⟩ := h
    rfl
  obtain ⟨z, rfl, hz, q⟩ := h
  obtain ⟨t9, m9⟩ := MD.ex
  refine ⟨_, (pss_cons (ps_set (i := 1) sc_intIn.nd rfl (.inl rfl) (pe_ifExp (pt_val (pe_m1 PySem.F.slot_str_startswith PySem.F.type_str_startswith mt_startswith (pv 0) pe_str)) (pe_slice sl_str (pv 0) (po_some pe_int) po_none) (pv 0)))
    (pss_cons (ps_if (PW.pt (by exact (pw_or (pt_not (pt_val (pe_m0 PySem.F.slot_str_isascii PySem.F.type_str_isascii mt_isascii (pv 1)))) (pw_or (pt_not (pt_val (pe_m0 PySem.F.slot_str_isdigit PySem.F.type_str_isdigit mt_isdigit (pv 1)))) (pw_or1 (pt_cmpR op_gt (pe_callB call_len_str rfl B.len PySem.boot_len (pa_cons (pv 1) pa_nil)) (pe_glob (v := .int 9) rfl m9 ⟨_, rfl⟩) (nomark _))))))) pss_no pss_nil)
    (pss_cons (ps_if (PW.pt (by exact (pw_and (pt_val (pe_m1 PySem.F.slot_str_startswith PySem.F.type_str_startswith mt_startswith (pv 1) pe_str)) (pw_and1 (pt_cmpR op_ne (pv 0) pe_str (nomark _)))))) pss_no pss_nil)
    (pss_one (ps_ret (pe_callTy call_int_str rfl B.int PyProof.Rows.boot_int (pa_cons (pv 0) pa_nil))))))), ?_⟩
  have l10 := iT_len (by decide) hz
  have l9 := len_dig hz
  refine seq_join (fun σ' H' => σ' = [some (.str (iT z)), some (.str (digS z))] ∧ H' = H) (fun σ' H1 h => ?_) (fun Kn hK => ?_)
  rotate_left
  · refine ⟨_, rfl, ⟨_, rfl⟩, _, _, rfl, rfl, _, rfl, ?_⟩
    rw [sw_iT]
    by_cases c : z < 0
    · refine iteP c ⟨_, rfl, _, rfl, iT z, rfl, sz15 (by omega), ?_⟩
      rw [digS_neg c]
      exact hK _ _ ⟨rfl, rfl⟩
    · refine iteN c ⟨_, rfl, ?_⟩
      exact hK _ _ ⟨by rw [← digS_pos c]; rfl, rfl⟩
  obtain ⟨rfl, rfl⟩ := h
  refine ⟨_, rfl, ⟨_, rfl⟩, _, rfl, rfl, trivial, _, rfl, ?_⟩
  rw [asc_dig]
  refine iteF ⟨_, rfl, ⟨_, rfl⟩, _, rfl, rfl, trivial, _, rfl, ?_⟩
  rw [isd_dig]
  refine iteF ⟨_, rfl, _, rfl, sz15 (by omega), _, _, rfl, rfl, _, rfl, iteN (by omega) ?_⟩
  refine ⟨_, rfl, ⟨_, rfl⟩, _, _, rfl, rfl, _, rfl, ?_⟩
  rw [sw_dig]
  have fin : ∀ X : Prop, (X → X) := fun _ h => h
  by_cases c : z = 0
  · subst c
    refine iteP rfl ⟨_, rfl, rfl, _, rfl, iteNS rfl ?_⟩
    exact ⟨_, rfl, _, 0, rfl, int_iT hz, by omega, q⟩
  · refine iteN c ?_
    exact ⟨_, rfl, _, z, rfl, int_iT hz, by omega, q⟩
def spAllIn (K : PySem.W.Frag) : Sp := fun vs H Q _ => ∃ (a : Addr) (xs : List V) (ds : List PyData), vs = [.ref a] ∧ SqL K H a xs ∧ DpAll K H xs ds ∧ SeqAt.shaped (.list ds) = true ∧ (ds.any fun z => PyData.eqv z .none) = false ∧ ∀ p H', Gr H H' → SqT K H' p xs → Q (.ref p) H'
theorem sc_allIn : FnScope ["found"] ["found"] (defScope s__all_or_none) := ⟨rfl, rfl, rfl, by decide +kernel, rfl, by decide +kernel, by decide +kernel⟩
theorem cl_allIn (D : Df K mg "_all_or_none" s__all_or_none) (B : Blt mg) : Cl P w K mg base 1 "_all_or_none" ["found"] (spAllIn K) := by
  refine D.cl (fun _ _ _ _ _ _ us hl => match us, hl with | [_], _ => rfl) fun f fd F => F.ok sc_allIn (fun vs H Q E h => ?_) (fun cdv A outer s H vs Q E hr h => ?_)
  · obtain ⟨a, xs, ds, rfl, _⟩ := h
    rfl
  obtain ⟨a, xs, ds, rfl, hs, hd, sh, no, q⟩ := h
  refine ⟨_, (pss_one (ps_ret (pe_ifExp (pt_cmpR (op_inD (yunits hr)) pe_non (pv 0) rfl) pe_non (pe_callTy call_tuple_of rfl B.tup bootTup (pa_cons (pv 0) pa_nil))))), ?_⟩
  refine ⟨_, rfl, _, ds, .non, .lst hs hd, by decide, sh, _, rfl, ?_⟩
  rw [no]
  refine iteF ⟨_, rfl, a, xs, rfl, .inl ⟨hs, fun p np => ?_⟩⟩
  exact q p _ ((Gr.refl H).new np _) (SqT.of upd_same)
def spLines (K : PySem.W.Frag) : Sp := fun vs H Q _ => ∃ z : Str, vs = [.str z] ∧ z.length ≤ 16777000 ∧ ∀ p H', Gr H H' → H' p = some (.lst ((Txt.split z "\n").map V.str)) → Q (.ref p) H'
theorem sc_lines : FnScope ["text"] ["text"] (defScope s__lines_of) := ⟨rfl, rfl, rfl, by decide +kernel, rfl, by decide +kernel, by decide +kernel⟩
theorem cl_lines (D : Df K mg "_lines_of" s__lines_of) (B : Blt mg) : Cl P w K mg base 1 "_lines_of" ["text"] (spLines K) := by
  refine D.cl (fun _ _ _ _ _ _ us hl => match us, hl with | [_], _ => rfl) fun f fd F => F.ok sc_lines (fun vs H Q E h => ?_) (fun cdv A outer s H vs Q E hr h => ?_)
  · obtain ⟨z, rfl, _⟩ := h
    rfl
  obtain ⟨z, rfl, hz, q⟩ := h
  refine ⟨_, (pss_cons (ps_if (pt_not (pt_val (pe_callB call_isi rfl B.isi PyProof.Rows.boot_isinstance (pa_cons (pv 0) (pa_cons (pe_bltn (v := .ty "str") rfl B.str bootStr rfl) pa_nil))))) pss_no pss_nil)
    (pss_one (ps_ret (pe_split (pv 0) pe_str)))), ?_⟩
  refine ⟨_, rfl, _, _, _, _, _, rfl, .ty _, .base (.str z), kit_ty (r := true) (by decide +kernel), _, rfl, iteF ?_⟩
  refine ⟨_, rfl, ⟨_, rfl⟩, _, _, rfl, rfl, rfl, by rw [sizeLine_eq]; omega, fun p np => ?_⟩
  exact q p _ ((Gr.refl H).new np _) upd_same
def spNumIn (K : PySem.W.Frag) : Sp := fun vs H Q _ => ∃ r : Int × Int, vs = [.str (numT r)] ∧ Lo r ∧ r.1.natAbs < 10 ^ 9 ∧ r.2.natAbs < 10 ^ 9 ∧ ∀ v H', Gr H H' → NuV K H' v r → Q v H'
theorem sc_numIn : FnScope ["word", "shown", "slash", "below", "top", "bottom"] ["word"] (defScope s_number_in) := ⟨rfl, rfl, rfl, by decide +kernel, rfl, by decide +kernel, by decide +kernel⟩
theorem tl_slash : tl ("/" : Str) = 47 :: [] := by decide +kernel
theorem cl_numIn (D : Df K mg "number_in" s_number_in) (B : Blt mg) (CI : Cl P w K mg base 1 "integer_in" ["word"] spIntIn) : Cl P w K mg base 2 "number_in" ["word"] (spNumIn K) := by
  refine D.cl (fun _ _ _ _ _ _ us hl => match us, hl with | [_], _ => rfl) fun f fd F => F.ok sc_numIn (fun vs H Q E h => ?_) (fun cdv A outer s H vs Q E hr h => ?_)
  · obtain ⟨r, rfl, _⟩ := h
    rfl
  obtain ⟨r, rfl, lo, h1, h2, q⟩ := h
  refine ⟨_, (pss_cons (ps_asg (pe_partition (pv 0) pe_str) (pg_tup rfl (pgs_cons (pg_name (i := 1) sc_numIn.nd rfl (Or.inl rfl)) (pgs_cons (pg_name (i := 2) sc_numIn.nd rfl (Or.inl rfl)) (pgs_cons (pg_name (i := 3) sc_numIn.nd rfl (Or.inl rfl)) pgs_nil)))))
    (pss_cons (ps_set (i := 4) sc_numIn.nd rfl (.inl rfl) (pe_cl CI (hr.mono (by decide)) (pa_cons (pv 1) pa_nil)))
    (pss_cons (ps_set (i := 5) sc_numIn.nd rfl (.inl rfl) (pe_ifExp (pt_truth (pv 2) (by intro _; rfl)) (pe_cl CI (hr.mono (by decide)) (pa_cons (pv 3) pa_nil)) pe_int))
    (pss_cons (ps_if (PW.pt (by exact (pw_or (pt_cmp (pc_isN (pv 4))) (pw_or (pt_cmp (pc_isN (pv 5))) (pw_or (pt_cmpR op_lt (pv 5) pe_int (nomark _)) (pw_or1 (pt_cmpR op_gt (pe_callBfun cr_gcd rfl B.gcd (pa_cons (pv 4) (pa_cons (pv 5) pa_nil))) pe_int (nomark _)))))))) pss_no pss_nil)
    (pss_one (ps_ret (pe_ifExp (PW.pt (by exact (pw_and (pt_truth (pv 2) (by intro _; rfl)) (pw_and1 (pt_cmpR op_eq (pv 5) pe_int (nomark _)))))) pe_non (pe_tup (pa_cons (pv 4) (pa_cons (pv 5) pa_nil)))))))))), ?_⟩
  have l1 := iT_len (by decide) h1
  have l2 := iT_len (by decide) h2
  have ls : ("/" : Str).length = 1 := rfl
  obtain ⟨b0, gg⟩ := lo
  have gi : ((Nat.gcd r.1.natAbs r.2.natAbs : Nat) : Int) = 1 := by rw [gg]; rfl
  by_cases c : r.2 = 1
  · have e : numT r = iT r.1 := by
      unfold numT
      rw [if_pos c]
    rw [e]
    refine ⟨_, rfl, ⟨_, rfl⟩, _, _, rfl, rfl, rfl, sz15 (by omega), fun p np => ?_⟩
    rw [partition_none tl_slash (iT_free (by omega) _)]
    refine ⟨p, _, rfl, SqT.of upd_same, rfl, _, _, rfl, _, _, rfl, _, _, rfl, rfl, ?_⟩
    have rp := (Gr.refl H).new np (.tup [.str (iT r.1), .str Str.empty, .str Str.empty])
    generalize upd H p (.tup [.str (iT r.1), .str Str.empty, .str Str.empty]) = H1 at rp ⊢
    refine ⟨_, rfl, r.1, rfl, h1, ?_⟩
    refine ⟨_, rfl, false, tru_s0, iteF ?_⟩
    refine ⟨_, rfl, _, rfl, iteN (fun z => nomatch z) ⟨_, rfl, _, rfl, iteN (fun z => nomatch z) ⟨_, rfl, _, _, rfl, rfl, _, rfl, iteN (by decide) ⟨_, rfl, _, rfl, _, _, rfl, _, _, rfl, rfl, _, rfl, iteN ?_ ?_⟩⟩⟩⟩
    · rw [c] at gi
      omega
    refine ⟨_, rfl, false, tru_s0, iteF ⟨_, rfl, _, rfl, szN (by show 2 ≤ 1000000; decide), fun T nT => ?_⟩⟩
    refine q _ _ (rp.new nT _) ⟨T, rfl, ?_⟩
    rw [c]
    exact SqT.of upd_same
  · have e : numT r = iT r.1 ++ "/" ++ iT r.2 := by
      unfold numT
      rw [if_neg c]
    rw [e]
    refine ⟨_, rfl, ⟨_, rfl⟩, _, _, rfl, rfl, rfl, sz15 (by rw [len_app, len_app]; omega), fun p np => ?_⟩
    rw [partition_app tl_slash (iT_free (by omega) _)]
    refine ⟨p, _, rfl, SqT.of upd_same, rfl, _, _, rfl, _, _, rfl, _, _, rfl, rfl, ?_⟩
    have rp := (Gr.refl H).new np (.tup [.str (iT r.1), .str "/", .str (iT r.2)])
    generalize upd H p (.tup [.str (iT r.1), .str "/", .str (iT r.2)]) = H1 at rp ⊢
    refine ⟨_, rfl, r.1, rfl, h1, ?_⟩
    refine ⟨_, rfl, true, tru_s1 (z := "/") (by decide) (by decide), iteT ⟨_, rfl, r.2, rfl, h2, ?_⟩⟩
    refine ⟨_, rfl, _, rfl, iteN (fun z => nomatch z) ⟨_, rfl, _, rfl, iteN (fun z => nomatch z) ⟨_, rfl, _, _, rfl, rfl, _, rfl, iteN (by omega) ⟨_, rfl, _, rfl, _, _, rfl, _, _, rfl, rfl, _, rfl, iteN ?_ ?_⟩⟩⟩⟩
    · omega
    refine ⟨_, rfl, true, tru_s1 (z := "/") (by decide) (by decide), iteT ⟨_, rfl, rfl, _, rfl, iteN (fun z => c (by injection z)) ⟨_, rfl, _, rfl, szN (by show 2 ≤ 1000000; decide), fun T nT => ?_⟩⟩⟩
    exact q _ _ (rp.new nT _) ⟨T, rfl, SqT.of upd_same⟩
end
end SB
namespace SB
open PySem L2 GxR GA RZ RP TL
theorem iteNN {x : V} {A B : Prop} (h : ¬ x = V.non) (a : A) : if (!decide (x = V.non)) = true then A else B := by
  rw [decide_eq_false h]
  exact iteT a
theorem tl_blank : tl (" " : Str) = 32 :: [] := by decide +kernel
theorem tl_colon : tl (" : " : Str) = [32, 58, 32] := by decide +kernel
theorem tl_nl : tl ("\n" : Str) = 10 :: [] := by decide +kernel
theorem joinL_mem {S : List Nat} {c : Nat} : ∀ {L : List (List Nat)}, c ∈ joinL S L → c ∈ S ∨ ∃ p, p ∈ L ∧ c ∈ p
  | [], h => by cases h
  | [p], h => .inr ⟨p, List.mem_cons_self, h⟩
  | p :: q :: r, h => by
    have h : c ∈ p ++ (S ++ joinL S (q :: r)) := h
    rcases List.mem_append.mp h with h | h
    · exact .inr ⟨p, List.mem_cons_self, h⟩
    · rcases List.mem_append.mp h with h | h
      · exact .inl h
      · rcases joinL_mem h with h | ⟨z, hz, hc⟩
        · exact .inl h
        · exact .inr ⟨z, List.mem_cons_of_mem _ hz, hc⟩
theorem join_free {y : Str} {s : Nat} {ps : List Str} (hy : s ∉ tl y) (hp : ∀ p, p ∈ ps → s ∉ tl p) : s ∉ tl (Txt.join y ps) := by
  rw [join_eq, tl_join]
  intro h
  rcases joinL_mem h with h | ⟨p, hm, hc⟩
  · exact hy h
  · obtain ⟨q, hq, rfl⟩ := List.mem_map.mp hm
    exact hp q hq hc
theorem app_free {x y : Str} {s : Nat} (hx : s ∉ tl x) (hy : s ∉ tl y) : s ∉ tl (x ++ y) := by
  rw [tl_append]
  intro h
  rcases List.mem_append.mp h with h | h
  · exact hx h
  · exact hy h
theorem sidesT_free {s : Nat} (h : s < 45 ∨ (45 < s ∧ s < 48) ∨ 57 < s) (h2 : s ≠ 32) (ns : List Int) : s ∉ tl (sidesT ns) := by
  refine join_free (by rw [tl_blank]; simp; omega) fun p hp => ?_
  obtain ⟨z, _, rfl⟩ := List.mem_map.mp hp
  exact iT_free h z
theorem numT_free {s : Nat} (h : s < 45 ∨ 57 < s) (r : Int × Int) : s ∉ tl (numT r) := by
  unfold numT
  split
  · exact iT_free (by omega) _
  · exact app_free (app_free (iT_free (by omega) _) (by rw [tl_slash]; simp; omega)) (iT_free (by omega) _)
theorem colon_free {p rest : List Nat} (h : 58 ∉ p) : ∀ i, i < p.length → pre [32, 58, 32] ((p ++ ([32, 58, 32] ++ rest)).drop i) = false := by
  intro i hi
  cases q : pre [32, 58, 32] ((p ++ ([32, 58, 32] ++ rest)).drop i) with
  | false => rfl
  | true =>
    exfalso
    have e : ((p ++ ([32, 58, 32] ++ rest)).drop i).take 3 = [32, 58, 32] := eq_of_beq q
    have e1 : (((p ++ ([32, 58, 32] ++ rest)).drop i).take 3)[1]? = some 58 := by rw [e]; rfl
    rw [List.getElem?_take_of_lt (by decide), List.getElem?_drop] at e1
    by_cases c : i + 1 < p.length
    · rw [List.getElem?_append_left c] at e1
      exact h (List.mem_of_getElem? e1)
    · rw [List.getElem?_append_right (by omega), show i + 1 - p.length = 0 from by omega] at e1
      cases e1
theorem part_colon {a b : Str} (h : 58 ∉ tl a) : Txt.partition (a ++ " : " ++ b) " : " = (a, (" : " : Str), b) := by
  rw [partition_par _ _ (by rw [tl_colon]; simp), tl_append, tl_append, List.append_assoc, tl_colon, par_part (by simp) (colon_free h)]
  show ((⟨([] ++ tl a).toArray⟩ : Str), (" : " : Str), (⟨(tl b).toArray⟩ : Str)) = _
  rw [List.nil_append, mk_tl, mk_tl]
theorem anyP_ints (ns : List Int) : ((ns.map PyData.int).any fun z => PyData.eqv z .none) = false := by
  induction ns with
  | nil => rfl
  | cons n r ih =>
    rw [List.map_cons, List.any_cons, ih]
    rfl
def numP (r : Int × Int) : PyData := .tuple [.int r.1, .int r.2]
theorem any_nums (rs : List (Int × Int)) : ((rs.map numP).any fun z => PyData.eqv z .none) = false := by
  induction rs with
  | nil => rfl
  | cons n r ih =>
    rw [List.map_cons, List.any_cons, ih]
    rfl
theorem lay_nums : ∀ rs : List (Int × Int), PyData.canLayAll0 (rs.map numP) = true
  | [] => rfl
  | j :: r => by
    show (PyData.canLay0 (numP j) && PyData.canLayAll0 (r.map numP)) = true
    rw [lay_nums r]
    rfl
theorem dep_nums : ∀ rs : List (Int × Int), PyData.depthAll (rs.map numP) ≤ 1
  | [] => Nat.zero_le _
  | j :: r => by
    have h := dep_nums r
    rw [List.map_cons]
    simp [PyData.depthAll, PyData.depth, numP]
    omega
theorem shp_nums (rs : List (Int × Int)) : SeqAt.shaped (.list (rs.map numP)) = true := by
  unfold SeqAt.shaped
  rw [Bool.and_eq_true]
  refine ⟨lay_nums rs, decide_eq_true ?_⟩
  have h := dep_nums rs
  simp [PyData.depth]
  omega
theorem dp_nums {K : PySem.W.Frag} {H : Hp} : ∀ {xs : List V} {rs : List (Int × Int)}, Paired (NuV K H) xs rs → DpAll K H xs (rs.map numP)
  | _, _, .nil => .nil
  | _, _, .cons ⟨a, e, h⟩ t => by
    subst e
    exact .cons (.tup h (.cons (.int _) (.cons (.int _) .nil))) (dp_nums t)
section
variable {P : Program} {w : World} {K : PySem.W.Frag} {mg : Str → Option Value} {base : Heap}
def spSdsIn (K : PySem.W.Frag) : Sp := fun vs H Q _ => ∃ ns : List Int, vs = [.str (sidesT ns)] ∧ 1 ≤ ns.length ∧ ns.length ≤ 12 ∧ (∀ z, z ∈ ns → z.natAbs < 10 ^ 9) ∧ ∀ v H', Gr H H' → SiV K H' v ns → Q v H'
theorem sc_sdsIn : FnScope ["words", "word"] ["words"] (defScope s__sides_in) := ⟨rfl, rfl, rfl, by decide +kernel, rfl, by decide +kernel, by decide +kernel⟩
theorem cl_sdsIn (D : Df K mg "_sides_in" s__sides_in) (CI : Cl P w K mg base 1 "integer_in" ["word"] spIntIn) (CA : Cl P w K mg base 1 "_all_or_none" ["found"] (spAllIn K)) : Cl P w K mg base 2 "_sides_in" ["words"] (spSdsIn K) := by
  refine D.cl (fun _ _ _ _ _ _ us hl => match us, hl with | [_], _ => rfl) fun f fd F => F.ok sc_sdsIn (fun vs H Q E h => ?_) (fun cdv A outer s H vs Q E hr h => ?_)
  · obtain ⟨ns, rfl, _⟩ := h
    rfl
  obtain ⟨ns, rfl, n1, n12, hz, q⟩ := h
  refine ⟨_, (pss_one (ps_ret (pe_cl CA (hr.mono (by decide)) (pa_cons (pe_lc (own := [("word", 1)]) (g := gName 1) rfl sc_sdsIn.nd (pi_list (pe_split (pv 0) pe_str)) (blkOk_by (N := ["words", "word"]) (sc := defScope s__sides_in) (by decide +kernel)) (fun _ _ _ _ _ => (pg_name (i := 1) sc_sdsIn.nd rfl (Or.inl rfl))) (fun _ _ _ _ _ => pts_nil) (fun _ _ _ _ _ => (pe_cl CI (hr.mono (by decide)) (pa_cons (pv 1) pa_nil)))) pa_nil)))), ?_⟩
  have sl := sidesT_len (k := 9) (by decide) hz
  have m : ns.length * (9 + 1 + 1) ≤ 12 * 11 := Nat.mul_le_mul n12 (by decide)
  refine ⟨_, rfl, ⟨_, rfl⟩, _, _, rfl, rfl, rfl, sz15 (by omega), fun L nL => ?_⟩
  have es : Txt.split (sidesT ns) " " = ns.map iT := split_join tl_blank (by decide +kernel) (by
    intro e
    have := congrArg List.length e
    rw [List.length_map, List.length_nil] at this
    omega) fun p hp => by
      obtain ⟨z, _, rfl⟩ := List.mem_map.mp hp
      exact iT_free (by omega) z
  rw [es]
  have rL := (Gr.refl H).new nL (.lst ((ns.map iT).map V.str))
  have hL : SqL K (upd H L (.lst ((ns.map iT).map V.str))) L ((ns.map iT).map V.str) := SqL.of upd_same
  generalize upd H L (.lst ((ns.map iT).map V.str)) = H1 at rL hL ⊢
  refine ⟨L, rfl, ⟨_, hL⟩, fun D nD => ?_⟩
  refine lc_mapL (K := K) (fun i y _ => ∃ z, ns[i]? = some z ∧ y = .int z) (fun _ _ _ _ h _ => h) nD hL (by rw [List.length_map, List.length_map]; omega) (fun i x H3 Kc hx g3 kc => ?_) (fun ys H3 hD hy g3 hR => ?_)
  · rw [List.getElem?_map, List.getElem?_map] at hx
    cases e : ns[i]? with
    | none => rw [e] at hx; cases hx
    | some n =>
      rw [e] at hx
      cases hx
      exact ⟨rfl, _, rfl, n, rfl, hz n (List.mem_of_getElem? e), kc _ _ (Gr.refl _) ⟨n, e, rfl⟩⟩
  · have e : ys = ns.map V.int := by
      rw [List.length_map, List.length_map] at hy
      refine List.ext_getElem? fun i => ?_
      by_cases hi : i < ys.length
      · obtain ⟨z, e1, e2⟩ := hR i ys[i] (List.getElem?_eq_getElem hi)
        rw [List.getElem?_eq_getElem hi, List.getElem?_map, e1, e2]
        rfl
      · rw [List.getElem?_eq_none (by omega), List.getElem?_eq_none (by rw [List.length_map]; omega)]
    rw [e] at hD
    exact ⟨D, _, _, rfl, SqL.of hD, dp_ints ns, shp_ints ns, anyP_ints ns, fun p H4 g4 hp => q _ _ ((rL.trans g3).trans g4) ⟨p, rfl, hp⟩⟩
def spPtIn (K : PySem.W.Frag) : Sp := fun vs H Q _ => ∃ rs : List (Int × Int), vs = [.str (pointT rs)] ∧ 1 ≤ rs.length ∧ rs.length ≤ 12 ∧ (∀ r, r ∈ rs → Lo r ∧ r.1.natAbs < 10 ^ 9 ∧ r.2.natAbs < 10 ^ 9) ∧ ∀ v H', Gr H H' → PtV K H' v rs → Q v H'
theorem sc_ptIn : FnScope ["line", "word"] ["line"] (defScope s_point_in) := ⟨rfl, rfl, rfl, by decide +kernel, rfl, by decide +kernel, by decide +kernel⟩
theorem cl_ptIn (D : Df K mg "point_in" s_point_in) (CN : Cl P w K mg base 2 "number_in" ["word"] (spNumIn K)) (CA : Cl P w K mg base 1 "_all_or_none" ["found"] (spAllIn K)) : Cl P w K mg base 3 "point_in" ["line"] (spPtIn K) := by
  refine D.cl (fun _ _ _ _ _ _ us hl => match us, hl with | [_], _ => rfl) fun f fd F => F.ok sc_ptIn (fun vs H Q E h => ?_) (fun cdv A outer s H vs Q E hr h => ?_)
  · obtain ⟨rs, rfl, _⟩ := h
    rfl
  obtain ⟨rs, rfl, n1, n12, hz, q⟩ := h
  refine ⟨_, (pss_one (ps_ret (pe_cl CA (hr.mono (by decide)) (pa_cons (pe_lc (own := [("word", 1)]) (g := gName 1) rfl sc_ptIn.nd (pi_list (pe_split (pv 0) pe_str)) (blkOk_by (N := ["line", "word"]) (sc := defScope s_point_in) (by decide +kernel)) (fun _ _ _ _ _ => (pg_name (i := 1) sc_ptIn.nd rfl (Or.inl rfl))) (fun _ _ _ _ _ => pts_nil) (fun _ _ _ _ _ => (pe_cl CN (hr.mono (by decide)) (pa_cons (pv 1) pa_nil)))) pa_nil)))), ?_⟩
  have jl := join_len (a := " ") (ys := rs.map numT) (b := 21) fun y hy => by
    obtain ⟨r, hr', rfl⟩ := List.mem_map.mp hy
    exact numT_len (k := 9) (by decide) (hz r hr').2.1 (hz r hr').2.2
  rw [List.length_map] at jl
  have m : rs.length * (21 + (" " : Str).length) ≤ 12 * 22 := Nat.mul_le_mul n12 (by decide)
  have pl : (pointT rs).length ≤ 1000 := by
    show (Txt.join " " (rs.map numT)).length ≤ 1000
    omega
  refine ⟨_, rfl, ⟨_, rfl⟩, _, _, rfl, rfl, rfl, sz15 (by omega), fun L nL => ?_⟩
  have es : Txt.split (pointT rs) " " = rs.map numT := split_join tl_blank (by decide +kernel) (by
    intro e
    have := congrArg List.length e
    rw [List.length_map, List.length_nil] at this
    omega) fun p hp => by
      obtain ⟨z, _, rfl⟩ := List.mem_map.mp hp
      exact numT_free (by omega) z
  rw [es]
  have rL := (Gr.refl H).new nL (.lst ((rs.map numT).map V.str))
  have hL : SqL K (upd H L (.lst ((rs.map numT).map V.str))) L ((rs.map numT).map V.str) := SqL.of upd_same
  generalize upd H L (.lst ((rs.map numT).map V.str)) = H1 at rL hL ⊢
  refine ⟨L, rfl, ⟨_, hL⟩, fun D nD => ?_⟩
  refine lc_mapL (K := K) (fun i y H => ∃ z, rs[i]? = some z ∧ NuV K H y z) (fun _ _ _ _ ⟨z, e, a, e2, h⟩ t => ⟨z, e, a, e2, t _ _ h⟩) nD hL (by rw [List.length_map, List.length_map]; omega) (fun i x H3 Kc hx g3 kc => ?_) (fun ys H3 hD hy g3 hR => ?_)
  · rw [List.getElem?_map, List.getElem?_map] at hx
    cases e : rs[i]? with
    | none => rw [e] at hx; cases hx
    | some n =>
      rw [e] at hx
      cases hx
      obtain ⟨b1, b2, b3⟩ := hz n (List.mem_of_getElem? e)
      exact ⟨rfl, _, rfl, n, rfl, b1, b2, b3, fun v H4 g4 hv => kc _ _ g4 ⟨n, e, hv⟩⟩
  · rw [List.length_map, List.length_map] at hy
    have pd : Paired (NuV K H3) ys rs := paired_of hy fun i y z hy hz => by
      obtain ⟨r, er, hr'⟩ := hR i y hy
      rw [er] at hz
      cases hz
      exact hr'
    exact ⟨D, _, _, rfl, SqL.of hD, dp_nums pd, shp_nums rs, any_nums rs, fun p H4 g4 hp => q _ _ ((rL.trans g3).trans g4) ⟨p, ys, rfl, hp, Paired.mapP pd fun _ _ z => NuV.gr z g4⟩⟩
def spQuIn (K : PySem.W.Frag) : Sp := fun vs H Q _ => ∃ q0 : List Int × Int, vs = [.str (quT q0)] ∧ 1 ≤ q0.1.length ∧ q0.1.length ≤ 12 ∧ (∀ z, z ∈ q0.1 → z.natAbs < 10 ^ 9) ∧ q0.2.natAbs < 10 ^ 9 ∧ ∀ v H', Gr H H' → QuV K H' v q0 → Q v H'
theorem sc_quIn : FnScope ["line", "shown", "colon", "behind", "sides", "wall"] ["line"] (defScope s__question_in) := ⟨rfl, rfl, rfl, by decide +kernel, rfl, by decide +kernel, by decide +kernel⟩
theorem cl_quIn (D : Df K mg "_question_in" s__question_in) (CI : Cl P w K mg base 1 "integer_in" ["word"] spIntIn) (CS : Cl P w K mg base 2 "_sides_in" ["words"] (spSdsIn K)) : Cl P w K mg base 3 "_question_in" ["line"] (spQuIn K) := by
  refine D.cl (fun _ _ _ _ _ _ us hl => match us, hl with | [_], _ => rfl) fun f fd F => F.ok sc_quIn (fun vs H Q E h => ?_) (fun cdv A outer s H vs Q E hr h => ?_)
  · obtain ⟨q0, rfl, _⟩ := h
    rfl
  obtain ⟨q0, rfl, n1, n12, hz, hw, q⟩ := h
  refine ⟨_, (pss_cons (ps_asg (pe_partition (pv 0) pe_str) (pg_tup rfl (pgs_cons (pg_name (i := 1) sc_quIn.nd rfl (Or.inl rfl)) (pgs_cons (pg_name (i := 2) sc_quIn.nd rfl (Or.inl rfl)) (pgs_cons (pg_name (i := 3) sc_quIn.nd rfl (Or.inl rfl)) pgs_nil)))))
    (pss_cons (ps_par (i := 4) (j := 5) rfl sc_quIn.nd rfl rfl (by decide) rfl rfl (pa_cons (pe_cl CS (hr.mono (by decide)) (pa_cons (pv 1) pa_nil)) (pa_cons (pe_cl CI (hr.mono (by decide)) (pa_cons (pv 3) pa_nil)) pa_nil)) rfl)
    (pss_one (ps_ret (pe_ifExp (PW.pt (by exact (pw_and (pt_truth (pv 2) (by intro _; rfl)) (pw_and (pt_cmp (pc_notN (pv 4))) (pw_and1 (pt_cmp (pc_notN (pv 5)))))))) (pe_tup (pa_cons (pv 4) (pa_cons (pv 5) pa_nil))) pe_non))))), ?_⟩
  have l1 := quT_len (k := 9) (by decide) hz hw
  have m : q0.1.length * (9 + 1 + 1) ≤ 12 * 11 := Nat.mul_le_mul n12 (by decide)
  refine ⟨_, rfl, ⟨_, rfl⟩, _, _, rfl, rfl, rfl, sz15 (by omega), fun p np => ?_⟩
  have e : Txt.partition (quT q0) " : " = (sidesT q0.1, (" : " : Str), iT q0.2) := part_colon (sidesT_free (by omega) (by decide) _)
  rw [e]
  refine ⟨p, _, rfl, SqT.of upd_same, rfl, _, _, rfl, _, _, rfl, _, _, rfl, rfl, ?_⟩
  have rp := (Gr.refl H).new np (.tup [.str (sidesT q0.1), .str " : ", .str (iT q0.2)])
  generalize upd H p (.tup [.str (sidesT q0.1), .str " : ", .str (iT q0.2)]) = H1 at rp ⊢
  refine ⟨_, rfl, q0.1, rfl, n1, n12, hz, fun v H2 g2 hv => ⟨_, rfl, q0.2, rfl, hw, _, _, rfl, ?_⟩⟩
  refine ⟨_, rfl, true, tru_s1 (z := " : ") (by decide) (by decide), iteT ?_⟩
  obtain ⟨a, rfl, ha⟩ := hv
  refine ⟨_, rfl, _, rfl, iteNN (fun z => nomatch z) ⟨_, rfl, _, rfl, iteNN (fun z => nomatch z) ⟨_, rfl, _, rfl, szN (by show 2 ≤ 1000000; decide), fun T nT => ?_⟩⟩⟩
  have rT := (Gr.refl H2).new nT (.tup [.ref a, .int q0.2])
  exact q _ _ ((rp.trans g2).trans rT) ⟨T, .ref a, rfl, SqT.of upd_same, a, rfl, rT.seqT ha⟩
end
end SB
namespace SB
open PySem L2 GxR GA RZ RP TL
/-- the module's dict of the signs of answers -/
structure SignD (K : PySem.W.Frag) (w : World) (mg : Str → Option Value) : Prop where
  ex : ∃ (d : Addr) (es : Array DictEntry) (n : Nat) (t1 t2 t3 : Tok), mg "SIGNS" = some (.ref d) ∧ KDict K w d es n ∧ PySem.W.nsIn K d "-" = some (some (.int (-1) t1)) ∧ PySem.W.nsIn K d "0" = some (some (.int 0 t2)) ∧ PySem.W.nsIn K d "+" = some (some (.int 1 t3)) ∧ PySem.W.nsIn K d "?" = some (some .none)
def sgnC : Option Int → Nat
  | none => 63
  | some a => if a = -1 then 45 else if a = 0 then 48 else 43
theorem sgnT_c {h : Option Int} (ho : HopeOk h) : sgnT h = (⟨#[sgnC h]⟩ : Str) := by
  rcases ho with rfl | rfl | rfl | rfl <;> exact ext_tl (by decide +kernel)
theorem SignD.use {K : PySem.W.Frag} {w : World} {mg : Str → Option Value} (h : SignD K w mg) : ∃ (d : Addr) (es : Array DictEntry) (n : Nat), mg "SIGNS" = some (.ref d) ∧ KDict K w d es n ∧ ∀ h : Option Int, HopeOk h → ∃ u, PySem.W.nsIn K d ⟨#[sgnC h]⟩ = some (some u) ∧ RelV (hopeV h) u := by
  obtain ⟨d, es, n, t1, t2, t3, h1, h2, a1, a2, a3, a4⟩ := h.ex
  refine ⟨d, es, n, h1, h2, fun h ho => ?_⟩
  rw [← sgnT_c ho]
  rcases ho with rfl | rfl | rfl | rfl
  · exact ⟨_, a4, rfl⟩
  · exact ⟨_, a1, ⟨_, rfl⟩⟩
  · exact ⟨_, a2, ⟨_, rfl⟩⟩
  · exact ⟨_, a3, ⟨_, rfl⟩⟩
theorem tl_empty : tl ("" : Str) = [] := by decide +kernel
theorem joinL_nil : ∀ cs : List Nat, joinL [] (cs.map fun c => [c]) = cs
  | [] => rfl
  | [c] => rfl
  | c :: d :: r => by
    show [c] ++ ([] ++ joinL [] ((d :: r).map fun c => [c])) = c :: d :: r
    rw [joinL_nil (d :: r)]
    rfl
theorem tl_wishT {hs : List (Option Int)} (n : hs ≠ []) (ho : ∀ h, h ∈ hs → HopeOk h) : tl (wishT hs) = hs.map sgnC := by
  unfold wishT
  rw [if_neg n, join_eq, tl_join, tl_empty, List.map_map]
  have e : hs.map (tl ∘ sgnT) = (hs.map sgnC).map fun c => [c] := by
    rw [List.map_map]
    refine List.map_congr_left fun h hh => ?_
    show tl (sgnT h) = [sgnC h]
    rw [sgnT_c (ho h hh)]
  rw [e, joinL_nil]
theorem sgnC_dot {h : Option Int} (ho : HopeOk h) : sgnC h ≠ 46 := by
  rcases ho with rfl | rfl | rfl | rfl <;> decide
theorem wishT_dot {hs : List (Option Int)} (n : hs ≠ []) (ho : ∀ h, h ∈ hs → HopeOk h) : wishT hs ≠ "." := fun e => by
  have t := congrArg tl e
  rw [tl_wishT n ho] at t
  cases hs with
  | nil => exact n rfl
  | cons h r =>
    rw [show tl ("." : Str) = [46] from by decide +kernel, List.map_cons] at t
    exact sgnC_dot (ho h List.mem_cons_self) (List.cons.inj t).1
/-- y not in a dict of the module, the things told outright -/
def rNKd (K : PySem.W.Frag) (d : Addr) : R2 := fun x y H Q => ∃ (z : Str) (r : Option Value), x = .str z ∧ y = .ref d ∧ PySem.W.nsIn K d z = some r ∧ Q (.bl (!r.isSome)) H
theorem op_nkd {X : Cx} {d : Addr} {es : Array DictEntry} {n : Nat} (K : PySem.W.Frag) (w : World) (hK : X.K = K) (hw : X.w = w) (D : KDict K w d es n) : OpR X (compareOp .NotIn) (rNKd K d) := by
  subst hK hw
  exact op_notIn_kd D
theorem cps_at (z : Str) (i : Nat) : z.cps[i]? = (tl z)[i]? := by simp [tl]
/-- a list of what comes of each sign of a text -/
theorem lc_sgn {z : Str} {hs : List V} {g : TG} {te : TE} {vs : List Nat} {σ : L2.St} {H1 : Hp} {D : Addr} {Qd : Hp → Prop} (hl : hs.length = (tl z).length) (nD : H1 D = none) (hz : hs.length ≤ 1000000)
    (step : ∀ (i : Nat) (c : Nat) (v : V) (H : Hp) (Kc : VK), (tl z)[i]? = some c → hs[i]? = some v → Gr H1 H → (∀ H4, Gr H H4 → Kc v H4) → g (.str ⟨#[c]⟩) (wipe σ vs) H fun σ2 H2 => wipe σ2 vs = wipe σ vs ∧ te σ2 H2 Kc)
    (fin : ∀ H, H D = some (.lst hs) → Gr H1 H → Qd H) :
    ∃ W : Nat → Nat → Hp → Prop, (∃ m, W 0 m (upd H1 D (.lst []))) ∧ ∀ i m H, W i m H →
      ((Its z).stop i H ∧ Qd H) ∨ ((Its z).go i H ∧ ∃ Nx : Hp → Prop, (∀ H', Nx H' → ∃ m', m' < m ∧ W (i + 1) m' H') ∧ ∀ x H', (Its z).yld i H x H' → g x (wipe σ vs) H' fun σ2 H2 => wipe σ2 vs = wipe σ vs ∧ tYes σ2 H2 fun b H3 =>
        if b = true then te σ2 H3 fun y H4 => ∃ acc, H4 D = some (.lst acc) ∧ acc.length < sizeLine ∧ Nx (upd H4 D (.lst (acc ++ [y]))) else Nx H3) := by
  have hsz : z.cps.size = (tl z).length := by simp [tl]
  refine ⟨fun i m H => i + m = hs.length ∧ H D = some (.lst (hs.take i)) ∧ GrD D H1 H, ⟨hs.length, Nat.zero_add _, upd_same, (GrD.refl D H1).set _⟩, fun i m H w => ?_⟩
  obtain ⟨hm, hD, gr⟩ := w
  have g1 := gr.to nD
  cases m with
  | zero =>
    rw [List.take_of_length_le (by omega)] at hD
    exact .inl ⟨by show z.cps.size ≤ i; omega, fin H hD g1⟩
  | succ m =>
    have hi : i < hs.length := by omega
    refine .inr ⟨by show i < z.cps.size; omega, fun H' => H' D = some (.lst (hs.take (i + 1))) ∧ GrD D H1 H', fun H' h => ⟨m, Nat.lt_succ_self _, by omega, h⟩, fun x H' hyl => ?_⟩
    obtain ⟨rfl, c, hc, rfl⟩ := hyl
    rw [cps_at] at hc
    refine step i c hs[i] H' _ hc (List.getElem?_eq_getElem hi) g1 fun H4 g4 => ?_
    have hD4 : H4 D = some (.lst (hs.take i)) := g4.keep D _ (fun _ z => nomatch z) hD
    refine ⟨_, hD4, small1M (by rw [List.length_take]; omega), ?_, (gr.trans (g4.d D)).set _⟩
    rw [upd_same, List.take_add_one, List.getElem?_eq_getElem hi]
    rfl
/-- no sign of a text is one of these -/
theorem plan_sgnN {z : Str} {g : TG} {te : TE} {σ0 : L2.St} {vs : List Nat} {QT QF : Hp → Prop} {H2 : Hp}
    (step : ∀ (i : Nat) (c : Nat) (H : Hp) (Kc : VK), (tl z)[i]? = some c → Gr H2 H → (∀ H4, Gr H H4 → Kc (.bl false) H4) → g (.str ⟨#[c]⟩) σ0 H fun σ2 H3 => wipe σ2 vs = σ0 ∧ te σ2 H3 Kc)
    (fin : ∀ H, Gr H2 H → QT H) : ∃ W : Nat → Nat → Hp → Prop, (∃ m, W 0 m H2) ∧ PlanN (Its z) g tYes te σ0 vs QT QF W := by
  have hsz : z.cps.size = (tl z).length := by simp [tl]
  refine ⟨fun i m H => Gr H2 H ∧ i + m = z.cps.size, ⟨z.cps.size, Gr.refl _, Nat.zero_add _⟩, fun i m H w => ?_⟩
  obtain ⟨gr, hm⟩ := w
  cases m with
  | zero => exact .inl ⟨by show z.cps.size ≤ i; omega, fin H gr⟩
  | succ m =>
    refine .inr ⟨by show i < z.cps.size; omega, fun H' => Gr H2 H', fun H' h => ⟨m, Nat.lt_succ_self _, h, by omega⟩, fun x H' hyl => ?_⟩
    obtain ⟨rfl, c, hc, rfl⟩ := hyl
    rw [cps_at] at hc
    exact step i c H' _ hc gr fun H4 g4 => ⟨false, rfl, iteF (gr.trans g4)⟩
section
variable {P : Program} {w : World} {K : PySem.W.Frag} {mg : Str → Option Value} {base : Heap}
def spWishIn (K : PySem.W.Frag) (T : Nat → Addr) : Sp := fun vs H Q _ => ∃ hs : List (Option Int), vs = [.str (wishT hs)] ∧ Tb5 T H ∧ hs.length ≤ 1000 ∧ (∀ h, h ∈ hs → HopeOk h) ∧ ∀ p H', Gr H H' → SqT K H' p (hs.map hopeV) → Q (.ref p) H'
theorem sc_wishIn : FnScope ["word", "sign"] ["word"] (defScope s_wish_in) := ⟨rfl, rfl, rfl, by decide +kernel, rfl, by decide +kernel, by decide +kernel⟩
theorem cl_wishIn {c : Addr} {T : Nat → Addr} (t1 : 0 < T 0) (D : DfT K mg "wish_in" s_wish_in c) (TB : TabB base mg c (T 1)) (B : Blt mg) (SD : SignD K w mg) : Cl P w K mg base 2 "wish_in" ["word"] (spWishIn K T) := by
  refine D.cl (fun _ _ _ _ _ _ us hl => match us, hl with | [_], _ => rfl) fun f fd F => F.ok sc_wishIn (fun vs H Q E h => ?_) (fun A outer s H vs Q E hr h => ?_)
  · obtain ⟨hs, rfl, _⟩ := h
    rfl
  obtain ⟨hs, rfl, tb, l1, ho, q⟩ := h
  obtain ⟨dS, esS, nS, mS, KS, wS⟩ := SD.use
  refine ⟨_, (pss_cons (ps_if (pt_cmpR op_eq (pv 0) pe_str (nomark _)) (pss_one (ps_ret (pe_tup pa_nil))) pss_nil)
    (pss_cons (ps_if (PW.pt (by exact (pw_or (pt_not (pt_truth (pv 0) (by intro _; rfl))) (pw_or1 (pt_val (pe_anyG (own := [("sign", 1)]) (g := gName 1) hr rfl B.any PyProof.Rows.boot_any TB rfl sc_wishIn.nd (genOk_by (N := ["word", "sign"]) (sc := defScope s_wish_in) (by decide +kernel)) (pi_str (pv 0))
        (fun _ _ _ _ _ => pg_name (i := 1) sc_wishIn.nd rfl (Or.inl rfl))
        (fun _ _ _ _ _ => pe_cmpR (op_nkd K w rfl rfl KS) (pv 1) (pe_glob (v := .ref dS) rfl mS rfl) rfl))))))) pss_no pss_nil)
    (pss_one (ps_ret (pe_callTy call_tuple_of rfl B.tup bootTup (pa_cons (pe_lc (own := [("sign", 1)]) (g := gName 1) rfl sc_wishIn.nd (pi_str (pv 0)) (blkOk_by (N := ["word", "sign"]) (sc := defScope s_wish_in) (by decide +kernel)) (fun _ _ _ _ _ => (pg_name (i := 1) sc_wishIn.nd rfl (Or.inl rfl))) (fun _ _ _ _ _ => pts_nil) (fun _ _ _ _ _ => (pe_ix (r := rIxD K w) ix_kdict (pe_glob (v := .ref dS) rfl mS rfl) (pv 1) (fun _ _ => rfl)))) pa_nil)))))), ?_⟩
  refine ⟨_, rfl, rfl, _, rfl, ?_⟩
  cases hs with
  | nil =>
    refine iteP rfl ⟨szL0, fun p np => ?_⟩
    exact q p _ ((Gr.refl H).new np _) (SqT.of upd_same)
  | cons h0 r0 =>
    have ne : h0 :: r0 ≠ [] := List.cons_ne_nil _ _
    have tw := tl_wishT ne ho
    have ll : (wishT (h0 :: r0)).length = (h0 :: r0).length := by rw [len_tl, tw, List.length_map]
    refine iteN (fun z => wishT_dot ne ho (by injection z)) ?_
    refine ⟨_, rfl, true, tru_s1 (sz15 (by omega)) (by rw [ll, List.length_cons]; omega), iteF ?_⟩
    refine ⟨_, rfl, _, rfl, tb.t 0 t1, fun H2 hT => ?_⟩
    have g2 : Gr H H2 := (Gr.refl H).tabbed (tb.t 0 t1) hT
    have at_ : ∀ (i c : Nat), (tl (wishT (h0 :: r0)))[i]? = some c → ∃ h, (h0 :: r0)[i]? = some h ∧ c = sgnC h ∧ HopeOk h := fun i c e => by
      rw [tw, List.getElem?_map] at e
      cases q : (h0 :: r0)[i]? with
      | none => rw [q] at e; cases e
      | some h =>
        rw [q] at e
        cases e
        exact ⟨h, rfl, rfl, ho h (List.mem_of_getElem? q)⟩
    refine plan_sgnN (fun i c H3 Kc hc g3 kc => ?_) (fun H3 g3 => ?_)
    · obtain ⟨h, _, rfl, hk⟩ := at_ i c hc
      obtain ⟨u, eu, _⟩ := wS h hk
      exact ⟨rfl, _, rfl, _, _, rfl, rfl, eu, kc H3 (Gr.refl _)⟩
    · refine ⟨_, rfl, iteF ?_⟩
      refine ⟨_, rfl, _, rfl, fun D nD => ?_⟩
      refine lc_sgn (hs := (h0 :: r0).map hopeV) (by rw [tw, List.length_map, List.length_map]) nD (by rw [List.length_map]; omega) (fun i c v H5 Kc hc hv g5 kc => ?_) (fun H5 hD g5 => ?_)
      · obtain ⟨h, eh, rfl, hk⟩ := at_ i c hc
        obtain ⟨u, eu, ru⟩ := wS h hk
        rw [List.getElem?_map, eh] at hv
        cases hv
        exact ⟨rfl, _, rfl, dS, _, hopeV h, rfl, rfl, ⟨esS, nS, u, KS.at_, KS.lit, eu, ru⟩, kc H5 (Gr.refl _)⟩
      · exact ⟨D, _, rfl, .inl ⟨SqL.of hD, fun p np => q p _ (((g2.trans g3).trans g5).new np _) (SqT.of upd_same)⟩⟩
end
end SB
namespace SB
open PySem L2 GxR GA RZ RP TL
theorem for_enum {K : PySem.W.Frag} {a : Addr} {xs : List V} {g : TG} {tb : TS} {D : Ends} {σ : L2.St} {H : Hp} (Pv : Nat → L2.St → Hp → Prop) (h0 : Pv 0 σ H) (hl : ∀ i σ H, i ≤ xs.length → Pv i σ H → SqL K H a xs)
    (hs : ∀ i x σ H T, xs[i]? = some x → Pv i σ H → H T = none → g (.ref T) σ (upd H T (.tup [.int ((i : Nat) : Int), x])) fun σ2 H2 => tb { D with nx := Pv (i + 1), ct := Pv (i + 1), bk := D.nx } σ2 H2) (hd : ∀ σ H, Pv xs.length σ H → D.nx σ H) :
    ∃ W : Nat → Nat → L2.St → Hp → Prop, (∃ m, W 0 m σ H) ∧ ∀ i m σ H, W i m σ H →
      ((Ite K a).stop i H ∧ D.nx σ H) ∨ ((Ite K a).go i H ∧ ∃ N : L2.St → Hp → Prop, (∀ σ' H', N σ' H' → ∃ m', m' < m ∧ W (i + 1) m' σ' H') ∧ ∀ x H', (Ite K a).yld i H x H' → g x σ H' fun σ2 H2 => tb { D with nx := N, ct := N, bk := D.nx } σ2 H2) := by
  refine ⟨fun i m σ H => m = xs.length - i ∧ i ≤ xs.length ∧ Pv i σ H, ⟨xs.length, by simp, Nat.zero_le _, h0⟩, ?_⟩
  rintro i m σ H ⟨rfl, hi, p⟩
  have q := hl i σ H hi p
  by_cases hlt : i < xs.length
  · refine .inr ⟨⟨xs, xs[i], q, by simp [hlt]⟩, Pv (i + 1), fun σ' H' p' => ⟨xs.length - (i + 1), by omega, rfl, hlt, p'⟩, fun x H' y => ?_⟩
    obtain ⟨T, z, rfl, nT, rfl, y⟩ := y
    exact hs i z σ _ T (y xs q) p nT
  · have e : i = xs.length := by omega
    subst e
    exact .inl ⟨⟨xs, q, Nat.le_refl _⟩, hd σ H p⟩
theorem uD_ints (ns : List Int) : (ns.map PyData.int).map intD = ns := by
  rw [List.map_map]
  conv => rhs; rw [← List.map_id ns]
  exact List.map_congr_left fun _ _ => rfl
theorem uD_qu (q : List Int × Int) : quD (quP q) = q := by
  show ((q.1.map PyData.int).map intD, q.2) = q
  rw [uD_ints]
theorem uD_quest {d : Nat} {q : List Int × Int} (n : NonZ q.1) (l : q.1.length = d) : questOfD ((d : Nat) : Int) (quP q) = true := by
  unfold questOfD
  have e : questD (quP q) = true := by
    show (sidesD (.tuple (q.1.map PyData.int)) && true) = true
    rw [Bool.and_true]
    show ((q.1.map PyData.int).all isIntD && ((q.1.map PyData.int).map intD).any fun z => decide (z ≠ 0)) = true
    rw [uD_ints, Bool.and_eq_true]
    refine ⟨List.all_eq_true.mpr fun z hz => ?_, n⟩
    obtain ⟨i, _, rfl⟩ := List.mem_map.mp hz
    rfl
  rw [e]
  show (true && decide ((((q.1.map PyData.int).length : Nat) : Int) = ((d : Nat) : Int))) = true
  rw [List.length_map, l, decide_eq_true rfl]
  rfl
theorem bookD_ok {d : Nat} {qs : List (List Int × Int)} (d1 : 1 ≤ d) (h : ∀ q, q ∈ qs → NonZ q.1 ∧ q.1.length = d) (nd : (qs.map nfU).Nodup) : bookD (.tuple [.int ((d : Nat) : Int), .tuple (qs.map quP)]) = true := by
  rw [bookD_at]
  have e1 : manyD (.int ((d : Nat) : Int)) = true := decide_eq_true (by omega)
  have e2 : (partD (.tuple (qs.map quP))).all (questOfD (intD (.int ((d : Nat) : Int)))) = true := by
    show (qs.map quP).all (questOfD ((d : Nat) : Int)) = true
    rw [List.all_eq_true]
    intro z hz
    obtain ⟨q, hq, rfl⟩ := List.mem_map.mp hz
    exact uD_quest (h q hq).1 (h q hq).2
  have e3 : ((partD (.tuple (qs.map quP))).map quD) = qs := by
    show (qs.map quP).map quD = qs
    rw [List.map_map]
    conv => rhs; rw [← List.map_id qs]
    exact List.map_congr_left fun q _ => uD_qu q
  rw [e1, e2, e3, decide_eq_true nd]
  rfl
theorem small_ok {d : Nat} {qs : List (List Int × Int)} (l : qs.length ≤ 20) (h : ∀ q, q ∈ qs → q.1.length ≤ 12 ∧ (∀ z, z ∈ q.1 → z.natAbs < 10 ^ 9) ∧ q.2.natAbs < 10 ^ 9) : SmallD (.tuple [.int ((d : Nat) : Int), .tuple (qs.map quP)]) := by
  have t : ∀ z : Int, z.natAbs < 10 ^ 9 → z.natAbs < 2 ^ 10000 := fun z hz => Nat.lt_trans (dg_big hz (by decide)) (Nat.pow_lt_pow_right (by decide) (by decide))
  refine ⟨by show (qs.map quP).length ≤ 60; rw [List.length_map]; omega, fun z hz _ => ?_⟩
  obtain ⟨q, hq, rfl⟩ := List.mem_map.mp (show z ∈ qs.map quP from hz)
  rw [uD_qu]
  obtain ⟨a, b, c⟩ := h q hq
  exact ⟨by omega, fun z hz => t z (b z hz), t _ c⟩
theorem bookT_free {d : Int} {qs : List (List Int × Int)} : ∀ p, p ∈ (("book " : Str) ++ iT d) :: qs.map quT → 10 ∉ tl p := fun p hp => by
  rcases List.mem_cons.mp hp with rfl | hp
  · exact app_free (by decide +kernel) (iT_free (by omega) _)
  · obtain ⟨q, _, rfl⟩ := List.mem_map.mp hp
    exact app_free (app_free (sidesT_free (by omega) (by decide) _) (by decide +kernel)) (iT_free (by omega) _)
theorem head_split (d : Int) : Txt.split (("book " : Str) ++ iT d) " " = [("book" : Str), iT d] := by
  have e : ("book " : Str) ++ iT d = Txt.join " " [("book" : Str), iT d] := by
    refine ext_tl ?_
    rw [join_eq, tl_join, tl_append]
    show tl ("book " : Str) ++ tl (iT d) = tl ("book" : Str) ++ (tl (" " : Str) ++ tl (iT d))
    rw [show tl ("book " : Str) = [98, 111, 111, 107, 32] from by decide +kernel, show tl ("book" : Str) = [98, 111, 111, 107] from by decide +kernel, tl_blank]
    rfl
  rw [e]
  refine split_join tl_blank (by decide +kernel) (by simp) fun p hp => ?_
  rcases List.mem_cons.mp hp with rfl | hp
  · decide +kernel
  · rw [List.mem_singleton.mp hp]
    exact iT_free (by omega) _
theorem split_one {z : Str} (h : 10 ∉ tl z) : Txt.split z "\n" = [z] := by
  have := split_join (y := "\n") tl_nl (by decide +kernel) (parts := [z]) (by simp) fun p hp => by
    rw [List.mem_singleton.mp hp]
    exact h
  exact this
section
variable {P : Program} {w : World} {K : PySem.W.Frag} {mg : Str → Option Value} {base : Heap}
def spRowIn (K : PySem.W.Frag) (T : Nat → Addr) : Sp := fun vs H Q _ => ∃ hs : List (Option Int), vs = [.str (wishT hs)] ∧ Tb5 T H ∧ hs.length ≤ 1000 ∧ (∀ h, h ∈ hs → HopeOk h ∧ h ≠ none) ∧ ∀ p H', Gr H H' → SqT K H' p (hs.map hopeV) → Q (.ref p) H'
theorem sc_rowIn : FnScope ["word", "found"] ["word"] (defScope s_row_in) := ⟨rfl, rfl, rfl, by decide +kernel, rfl, by decide +kernel, by decide +kernel⟩
theorem in_nohopes : ∀ {hs : List (Option Int)}, (∀ h, h ∈ hs → h ≠ none) → inV .non (hs.map hopeV) = false
  | [], _ => rfl
  | none :: r, h => absurd rfl (h none List.mem_cons_self)
  | some i :: r, h => by
    have ih := in_nohopes (hs := r) fun x hx => h x (List.mem_cons_of_mem _ hx)
    show (false || inV .non (r.map hopeV)) = false
    rw [ih]
    rfl
theorem flat_hopes : ∀ hs : List (Option Int), (hs.map hopeV).all flatV = true
  | [] => rfl
  | none :: r => by
    show (true && (r.map hopeV).all flatV) = true
    rw [flat_hopes r]
    rfl
  | some i :: r => by
    show (true && (r.map hopeV).all flatV) = true
    rw [flat_hopes r]
    rfl
theorem cl_rowIn {T : Nat → Addr} (D : Df K mg "row_in" s_row_in) (CW : Cl P w K mg base 2 "wish_in" ["word"] (spWishIn K T)) : Cl P w K mg base 3 "row_in" ["word"] (spRowIn K T) := by
  refine D.cl (fun _ _ _ _ _ _ us hl => match us, hl with | [_], _ => rfl) fun f fd F => F.ok sc_rowIn (fun vs H Q E h => ?_) (fun cdv A outer s H vs Q E hr h => ?_)
  · obtain ⟨hs, rfl, _⟩ := h
    rfl
  obtain ⟨hs, rfl, tb, l, ho, q⟩ := h
  refine ⟨_, (pss_cons (ps_set (i := 1) sc_rowIn.nd rfl (.inl rfl) (pe_cl CW (hr.mono (by decide)) (pa_cons (pv 0) pa_nil)))
    (pss_one (ps_ret (pe_ifExp (PW.pt (by exact (pw_or (pt_cmp (pc_isN (pv 1))) (pw_or1 (pt_cmpR op_in_seq pe_non (pv 1) rfl))))) pe_non (pv 1))))), ?_⟩
  refine ⟨_, rfl, hs, rfl, tb, l, fun h hh => (ho h hh).1, fun p H1 g1 hp => ?_⟩
  refine ⟨_, rfl, _, rfl, iteN (fun z => nomatch z) ⟨_, rfl, p, _, rfl, .inr hp, rfl, flat_hopes hs, _, rfl, ?_⟩⟩
  rw [show (if false = true then !inV .non (hs.map hopeV) else inV .non (hs.map hopeV)) = false from in_nohopes fun h hh => (ho h hh).2]
  exact iteF ⟨_, rfl, q p H1 g1 hp⟩
/-! ### one line -/
def spAlone (K : PySem.W.Frag) (f : Addr) (sp : Sp) : Sp := fun vs H Q _ => ∃ z : Str, vs = [.str z, .ref f] ∧ 10 ∉ tl z ∧ z.length ≤ 16777000 ∧ ∀ H1 (Kc : VK), Gr H H1 → (∀ v H2, Gr H1 H2 → v ≠ .non → Q v H2 → Kc v H2) → sp [.str z] H1 Kc E0
theorem sc_alone : FnScope ["text", "shown_in", "lines", "found"] ["text", "shown_in"] (defScope s__read_alone) := ⟨rfl, rfl, rfl, by decide +kernel, rfl, by decide +kernel, by decide +kernel⟩
theorem cl_alone {k : Nat} {x y : Str} {sp : Sp} (h1 : 1 ≤ k) (D : Df K mg "_read_alone" s__read_alone) (B : Blt mg) (CL : Cl P w K mg base 1 "_lines_of" ["text"] (spLines K)) (C : Cl P w K mg base k x [y] sp) : ∃ f, mg x = some (.ref f) ∧ Cl P w K mg base (k + 1) "_read_alone" ["text", "shown_in"] (spAlone K f sp) := by
  obtain ⟨f, fd, FO, hm, hk, hb⟩ := C.ex
  refine ⟨f, hm, ?_⟩
  refine D.cl (fun _ _ _ _ _ _ us hl => match us, hl with | [_, _], _ => rfl) fun f' fd' F => F.ok sc_alone (fun vs H Q E h => ?_) (fun cdv A outer s H vs Q E hr h => ?_)
  · obtain ⟨z, rfl, _⟩ := h
    rfl
  obtain ⟨z, rfl, nl, lz, q⟩ := h
  refine ⟨_, (pss_cons (ps_set (i := 2) sc_alone.nd rfl (.inl rfl) (pe_cl CL (hr.mono h1) (pa_cons (pv 0) pa_nil)))
    (pss_cons (ps_set (i := 3) sc_alone.nd rfl (.inl rfl) (pe_callL (i := 1) (f := f) (E := E0) FO hr rfl (Or.inl rfl) hk hb .nil pass0 (pa_cons (pe_ix ix_list (pv 2) pe_int (fun _ _ => rfl)) pa_nil)))
    (pss_cons (ps_if (pt_cmp (pc_isN (pv 3))) pss_no pss_nil)
    (pss_cons (ps_if (pt_cmpR op_gt (pe_len (pv 2) B.len) pe_int (nomark _)) pss_no pss_nil)
    (pss_one (ps_ret (pv 3))))))), ?_⟩
  refine ⟨_, rfl, z, rfl, lz, fun L H1 g1 hL => ?_⟩
  rw [split_one nl] at hL
  refine ⟨rfl, _, rfl, L, _, _, _, rfl, rfl, SqL.of hL, rfl, ?_⟩
  refine q H1 _ g1 fun v H2 g2 nv qv => ?_
  refine ⟨_, rfl, _, rfl, iteN nv ?_⟩
  refine ⟨_, rfl, L, _, rfl, .inl (SqL.of (g2.lstK hL)), _, _, rfl, rfl, _, rfl, iteN (by show ¬ (1 : Int) < ((1 : Nat) : Int); decide) ?_⟩
  exact ⟨_, rfl, qv⟩
/-! ### readers of one line -/
def spRd (K : PySem.W.Frag) (T : Nat → Addr) (door : Nat) : Sp := fun vs H Q _ => ∃ t m, vs = [.str (ThT t)] ∧ Tb5 T H ∧ ThOk m t ∧ 1 ≤ m ∧ m ≤ 9 ∧ ThD t = door ∧ ∀ v H', Gr H H' → ThVal K H' t v → Q v H'
theorem ten9 {n m : Nat} (h : n < 10 ^ m) (l : m ≤ 9) : n < 10 ^ 9 := Nat.lt_of_lt_of_le h (Nat.pow_le_pow_right (by decide) l)
theorem wishT_free {hs : List (Option Int)} (ho : ∀ h, h ∈ hs → HopeOk h) : 10 ∉ tl (wishT hs) := by
  by_cases n : hs = []
  · subst n
    decide +kernel
  · rw [tl_wishT n ho]
    intro h
    obtain ⟨x, hx, e⟩ := List.mem_map.mp h
    have := ho x hx
    rcases this with rfl | rfl | rfl | rfl <;> cases e
theorem wishT_len {hs : List (Option Int)} (ho : ∀ h, h ∈ hs → HopeOk h) (l : hs.length ≤ 20 := by assumption) : (wishT hs).length ≤ 16777000 := by
  by_cases n : hs = []
  · subst n
    decide +kernel
  · rw [len_tl, tl_wishT n ho, List.length_map]
    omega
theorem sc_rdNum : FnScope ["text"] ["text"] (defScope s_read_number) := ⟨rfl, rfl, rfl, by decide +kernel, rfl, by decide +kernel, by decide +kernel⟩
theorem cl_rdNum {T : Nat → Addr} (D : Df K mg "read_number" s_read_number) (DA : Df K mg "_read_alone" s__read_alone) (B : Blt mg) (CL : Cl P w K mg base 1 "_lines_of" ["text"] (spLines K)) (C : Cl P w K mg base 2 "number_in" ["word"] (spNumIn K)) : Cl P w K mg base 4 "read_number" ["text"] (spRd K T 0) := by
  obtain ⟨fa, ma, CA⟩ := cl_alone (by decide) DA B CL C
  refine D.cl (fun _ _ _ _ _ _ us hl => match us, hl with | [_], _ => rfl) fun f fd F => F.ok sc_rdNum (fun vs H Q E h => ?_) (fun cdv A outer s H vs Q E hr h => ?_)
  · obtain ⟨t, m, rfl, _⟩ := h
    rfl
  obtain ⟨t, m, rfl, tb, ok, m1, m9, td, q⟩ := h
  refine ⟨_, (pss_one (ps_ret (pe_cl CA (hr.mono (by decide)) (pa_cons (pv 0) (pa_cons (pe_glob (v := .ref fa) rfl ma rfl) pa_nil))))), ?_⟩
  cases t with
  | num r =>
    refine ⟨_, rfl, numT r, rfl, numT_free (by omega) r, ?_, fun H1 Kc g1 kc => ⟨r, rfl, ok.1, ten9 ok.2.1 m9, ten9 ok.2.2 m9, fun v H2 g2 hv => kc v H2 g2 (by obtain ⟨a, rfl, _⟩ := hv; exact fun z => nomatch z) (q v H2 (g1.trans g2) hv)⟩⟩
    have := numT_len (k := 9) (by decide) (ten9 ok.2.1 m9) (ten9 ok.2.2 m9)
    omega
  | _ => cases td
theorem sc_rdPt : FnScope ["text"] ["text"] (defScope s_read_point) := ⟨rfl, rfl, rfl, by decide +kernel, rfl, by decide +kernel, by decide +kernel⟩
theorem cl_rdPt {T : Nat → Addr} (D : Df K mg "read_point" s_read_point) (DA : Df K mg "_read_alone" s__read_alone) (B : Blt mg) (CL : Cl P w K mg base 1 "_lines_of" ["text"] (spLines K)) (C : Cl P w K mg base 3 "point_in" ["line"] (spPtIn K)) : Cl P w K mg base 5 "read_point" ["text"] (spRd K T 1) := by
  obtain ⟨fa, ma, CA⟩ := cl_alone (by decide) DA B CL C
  refine D.cl (fun _ _ _ _ _ _ us hl => match us, hl with | [_], _ => rfl) fun f fd F => F.ok sc_rdPt (fun vs H Q E h => ?_) (fun cdv A outer s H vs Q E hr h => ?_)
  · obtain ⟨t, m, rfl, _⟩ := h
    rfl
  obtain ⟨t, m, rfl, tb, ok, m1, m9, td, q⟩ := h
  refine ⟨_, (pss_one (ps_ret (pe_cl CA (hr.mono (by decide)) (pa_cons (pv 0) (pa_cons (pe_glob (v := .ref fa) rfl ma rfl) pa_nil))))), ?_⟩
  cases t with
  | pt rs =>
    refine ⟨_, rfl, pointT rs, rfl, join_free (by rw [tl_blank]; decide) (fun p hp => by
      obtain ⟨r, _, rfl⟩ := List.mem_map.mp hp
      exact numT_free (by omega) r), ?_, fun H1 Kc g1 kc => ⟨rs, rfl, ok.1, ok.2.1, fun r hr' => ⟨(ok.2.2 r hr').1, ten9 (ok.2.2 r hr').2.1 m9, ten9 (ok.2.2 r hr').2.2 m9⟩, fun v H2 g2 hv => kc v H2 g2 (by obtain ⟨a, xs, rfl, _⟩ := hv; exact fun z => nomatch z) (q v H2 (g1.trans g2) hv)⟩⟩
    have := join_len (a := " ") (ys := rs.map numT) (b := 21) fun y hy => by
      obtain ⟨r, hr', rfl⟩ := List.mem_map.mp hy
      exact numT_len (k := 9) (by decide) (ten9 (ok.2.2 r hr').2.1 m9) (ten9 (ok.2.2 r hr').2.2 m9)
    rw [List.length_map] at this
    have m : rs.length * (21 + (" " : Str).length) ≤ 12 * 22 := Nat.mul_le_mul ok.2.1 (by decide)
    show (Txt.join " " (rs.map numT)).length ≤ _
    omega
  | _ => cases td
theorem sc_rdRow : FnScope ["text"] ["text"] (defScope s_read_row) := ⟨rfl, rfl, rfl, by decide +kernel, rfl, by decide +kernel, by decide +kernel⟩
theorem cl_rdRow {T : Nat → Addr} (D : Df K mg "read_row" s_read_row) (DA : Df K mg "_read_alone" s__read_alone) (B : Blt mg) (CL : Cl P w K mg base 1 "_lines_of" ["text"] (spLines K)) (C : Cl P w K mg base 3 "row_in" ["word"] (spRowIn K T)) : Cl P w K mg base 5 "read_row" ["text"] (spRd K T 2) := by
  obtain ⟨fa, ma, CA⟩ := cl_alone (by decide) DA B CL C
  refine D.cl (fun _ _ _ _ _ _ us hl => match us, hl with | [_], _ => rfl) fun f fd F => F.ok sc_rdRow (fun vs H Q E h => ?_) (fun cdv A outer s H vs Q E hr h => ?_)
  · obtain ⟨t, m, rfl, _⟩ := h
    rfl
  obtain ⟨t, m, rfl, tb, ok, m1, m9, td, q⟩ := h
  refine ⟨_, (pss_one (ps_ret (pe_cl CA (hr.mono (by decide)) (pa_cons (pv 0) (pa_cons (pe_glob (v := .ref fa) rfl ma rfl) pa_nil))))), ?_⟩
  cases t with
  | row hs =>
    have l := ok.1
    refine ⟨_, rfl, wishT hs, rfl, wishT_free fun h hh => (ok.2 h hh).1, wishT_len fun h hh => (ok.2 h hh).1, fun H1 Kc g1 kc => ⟨hs, rfl, tb.gr g1, by omega, ok.2, fun p H2 g2 hp => kc _ H2 g2 (fun z => nomatch z) (q _ H2 (g1.trans g2) ⟨p, rfl, hp⟩)⟩⟩
  | _ => cases td
theorem sc_rdWish : FnScope ["text"] ["text"] (defScope s_read_wish) := ⟨rfl, rfl, rfl, by decide +kernel, rfl, by decide +kernel, by decide +kernel⟩
theorem cl_rdWish {T : Nat → Addr} (D : Df K mg "read_wish" s_read_wish) (DA : Df K mg "_read_alone" s__read_alone) (B : Blt mg) (CL : Cl P w K mg base 1 "_lines_of" ["text"] (spLines K)) (C : Cl P w K mg base 2 "wish_in" ["word"] (spWishIn K T)) : Cl P w K mg base 4 "read_wish" ["text"] (spRd K T 3) := by
  obtain ⟨fa, ma, CA⟩ := cl_alone (by decide) DA B CL C
  refine D.cl (fun _ _ _ _ _ _ us hl => match us, hl with | [_], _ => rfl) fun f fd F => F.ok sc_rdWish (fun vs H Q E h => ?_) (fun cdv A outer s H vs Q E hr h => ?_)
  · obtain ⟨t, m, rfl, _⟩ := h
    rfl
  obtain ⟨t, m, rfl, tb, ok, m1, m9, td, q⟩ := h
  refine ⟨_, (pss_one (ps_ret (pe_cl CA (hr.mono (by decide)) (pa_cons (pv 0) (pa_cons (pe_glob (v := .ref fa) rfl ma rfl) pa_nil))))), ?_⟩
  cases t with
  | wish hs =>
    have l := ok.1
    refine ⟨_, rfl, wishT hs, rfl, wishT_free ok.2, wishT_len ok.2, fun H1 Kc g1 kc => ⟨hs, rfl, tb.gr g1, by omega, ok.2, fun p H2 g2 hp => kc _ H2 g2 (fun z => nomatch z) (q _ H2 (g1.trans g2) ⟨p, rfl, hp⟩)⟩⟩
  | _ => cases td
theorem sc_rdBook : FnScope ["text", "lines", "words", "d", "questions", "place", "line", "question", "told"] ["text"] (defScope s_read_book) := ⟨rfl, rfl, rfl, by decide +kernel, rfl, by decide +kernel, by decide +kernel⟩
theorem cl_rdBook {T : Nat → Addr} (D : Df K mg "read_book" s_read_book) (B : Blt mg) (ben : mg "enumerate" = none) (CL : Cl P w K mg base 1 "_lines_of" ["text"] (spLines K)) (CI : Cl P w K mg base 1 "integer_in" ["word"] spIntIn) (CQ : Cl P w K mg base 3 "_question_in" ["line"] (spQuIn K)) (CB : Cl P w K mg base 37 "is_book" ["told"] (spBookD K)) : Cl P w K mg base 38 "read_book" ["text"] (spRd K T 4) := by
  refine D.cl (fun _ _ _ _ _ _ us hl => match us, hl with | [_], _ => rfl) fun f fd F => F.ok sc_rdBook (fun vs H Q E h => ?_) (fun cdv A outer s H vs Q E hr h => ?_)
  · obtain ⟨t, m, rfl, _⟩ := h
    rfl
  obtain ⟨t, m, rfl, tb, ok, m1, m9, td, q⟩ := h
  refine ⟨_, (pss_cons (ps_set (i := 1) sc_rdBook.nd rfl (.inl rfl) (pe_cl CL (hr.mono (by decide)) (pa_cons (pv 0) pa_nil)))
    (pss_cons (ps_set (i := 2) sc_rdBook.nd rfl (.inl rfl) (pe_split (pe_ix ix_list (pv 1) pe_int (fun _ _ => rfl)) pe_str))
    (pss_cons (ps_set (i := 3) sc_rdBook.nd rfl (.inl rfl) (pe_ifExp (PW.pt (by exact (pw_and (pt_cmpR op_eq (pe_len (pv 2) B.len) pe_int (nomark _)) (pw_and1 (pt_cmpR op_eq (pe_ix ix_list (pv 2) pe_int (fun _ _ => rfl)) pe_str (nomark _)))))) (pe_cl CI (hr.mono (by decide)) (pa_cons (pe_ix ix_list (pv 2) pe_int (fun _ _ => rfl)) pa_nil)) pe_non))
    (pss_cons (ps_if (pt_cmp (pc_isN (pv 3))) pss_no pss_nil)
    (pss_cons (ps_set (i := 4) sc_rdBook.nd rfl (.inl rfl) (pe_lst pa_nil))
    (pss_cons (ps_for PassesOwn.never rfl (pi_enum rfl ben (pa_cons (pe_slice sl_list (pv 1) (po_some pe_int) po_none) pa_nil)) (pg_tup rfl (pgs_cons (pg_name (i := 5) sc_rdBook.nd rfl (Or.inl rfl)) (pgs_cons (pg_name (i := 6) sc_rdBook.nd rfl (Or.inl rfl)) pgs_nil)))
      (pss_cons (ps_set (i := 7) sc_rdBook.nd rfl (.inl rfl) (pe_cl CQ (hr.mono (by decide)) (pa_cons (pv 6) pa_nil)))
      (pss_cons (ps_if (pt_cmp (pc_isN (pv 7))) pss_no pss_nil)
      (pss_one (ps_expr (pe_bm PySem.F.plainAttrs_list PySem.F.slot_list_append PySem.F.type_list_append mt_append (pv 4) (pa_cons (pv 7) pa_nil)))))))
    (pss_cons (ps_set (i := 8) sc_rdBook.nd rfl (.inl rfl) (pe_tup (pa_cons (pv 3) (pa_cons (pe_callTy call_tuple_of rfl B.tup bootTup (pa_cons (pv 4) pa_nil)) pa_nil))))
    (pss_cons (ps_if (pt_not (pt_val (pe_cl CB (hr.mono (by decide)) (pa_cons (pv 8) pa_nil)))) pss_no pss_nil)
    (pss_one (ps_ret (pv 8))))))))))), ?_⟩
  cases t with
  | book d qs =>
    obtain ⟨d1, d12, l20, nd, hq⟩ := ok
    have qb : ∀ q, q ∈ qs → q.1.length ≤ 12 ∧ (∀ z, z ∈ q.1 → z.natAbs < 10 ^ 9) ∧ q.2.natAbs < 10 ^ 9 := fun q h => by
      obtain ⟨_, a, b, c⟩ := hq q h
      exact ⟨by omega, fun z hz => ten9 (b z hz) m9, ten9 c m9⟩
    have bl := Nat.le_trans (join_len0 _ _) (book_small d12 (by omega) (k := 9) (by decide) (by decide) qb)
    have bl2 : (bookT (d : Int) qs).length ≤ 110000 := by
      have := join_len (a := "\n") (ys := (("book " : Str) ++ iT (d : Int)) :: qs.map quT) (b := 5000) fun y hy => by
        rcases List.mem_cons.mp hy with rfl | hy
        · rw [len_app]
          have := iT_len (by decide) (d_small d12)
          have e : ("book " : Str).length = 5 := rfl
          omega
        · obtain ⟨z, hz', rfl⟩ := List.mem_map.mp hy
          obtain ⟨a, b, c⟩ := qb z hz'
          have h1 := quT_len (k := 9) (by decide) b c
          have h2 : z.1.length * (9 + 1 + 1) ≤ 12 * 302 := Nat.mul_le_mul a (by omega)
          omega
      have e : ("\n" : Str).length = 1 := rfl
      have e2 : ((("book " : Str) ++ iT (d : Int)) :: qs.map quT).length = qs.length + 1 := by rw [List.length_cons, List.length_map]
      rw [e2, e] at this
      show (Txt.join _ _).length ≤ _
      omega
    refine ⟨_, rfl, bookT (d : Int) qs, rfl, by omega, fun L H1 g1 hL => ?_⟩
    have es : Txt.split (bookT (d : Int) qs) "\n" = (("book " : Str) ++ iT (d : Int)) :: qs.map quT := split_join tl_nl (by decide +kernel) (List.cons_ne_nil _ _) bookT_free
    rw [es] at hL
    refine ⟨_, rfl, L, _, _, .str ("book " ++ iT (d : Int)), rfl, rfl, SqL.of hL, atI_nat (j := 0) rfl, ⟨_, rfl⟩, _, _, rfl, rfl, rfl, ?_, fun W nW => ?_⟩
    · rw [len_app]
      have := iT_len (by decide) (d_small d12)
      have e : ("book " : Str).length = 5 := rfl
      exact sz15 (by omega)
    rw [head_split]
    have rW := (Gr.refl H1).new nW (.lst ([("book" : Str), iT (d : Int)].map V.str))
    have hW : SqL K (upd H1 W (.lst ([("book" : Str), iT (d : Int)].map V.str))) W [.str "book", .str (iT (d : Int))] := SqL.of upd_same
    have g2 := g1.trans rW
    have hL2 := rW.lstK hL
    generalize upd H1 W (.lst ([("book" : Str), iT (d : Int)].map V.str)) = H2 at rW hW g2 hL2 ⊢
    refine ⟨_, rfl, W, _, rfl, .inl hW, rfl, _, rfl, iteP rfl ⟨_, rfl, W, _, _, _, rfl, rfl, hW, rfl, rfl, _, rfl, iteP rfl ⟨_, rfl, W, _, _, _, rfl, rfl, hW, rfl, (d : Int), rfl, ?_, ?_⟩⟩⟩
    · rw [Int.natAbs_natCast]
      exact Nat.lt_of_le_of_lt d12 (by decide)
    refine ⟨_, rfl, _, rfl, iteN (fun z => nomatch z) ?_⟩
    refine ⟨szL0, fun F0 nF => ?_⟩
    have rF := (Gr.refl H2).new nF (.lst [])
    have hF : (upd H2 F0 (.lst [])) F0 = some (.lst []) := upd_same
    have g3 := g2.trans rF
    have hL3 := rF.lstK hL2
    generalize upd H2 F0 (.lst []) = H3 at rF hF g3 hL3 ⊢
    refine ⟨_, rfl, _, rfl, L, _, rfl, SqL.of hL3, fun C nC => ⟨C, _, rfl, SqL.of upd_same, ?_⟩⟩
    have rC := (Gr.refl H3).new nC (.lst (cutV (((("book " : Str) ++ iT (d : Int)) :: qs.map quT).map V.str) (some 1) none))
    have ec : cutV (((("book " : Str) ++ iT (d : Int)) :: qs.map quT).map V.str) (some 1) none = (qs.map quT).map V.str := cut_tail _ _
    rw [ec] at rC ⊢
    have hC : (upd H3 C (.lst ((qs.map quT).map V.str))) C = some (.lst ((qs.map quT).map V.str)) := upd_same
    have g4 := g3.trans rC
    have hF4 := rC.lstK hF
    have nCF : C ≠ F0 := (ne_of_none hF nC).symm
    generalize upd H3 C (.lst ((qs.map quT).map V.str)) = H4 at rC hC g4 hF4 ⊢
    refine for_enum (xs := (qs.map quT).map V.str) (fun i σ H' => ∃ (c5 c6 c7 c8 : Option V) (ys : List V), σ = [some (.str (bookT (d : Int) qs)), some (.ref L), some (.ref W), some (.int (d : Int)), some (.ref F0), c5, c6, c7, c8] ∧ GrD F0 H4 H' ∧ H' F0 = some (.lst ys) ∧ Paired (QuV K H') ys (qs.take i)) ⟨_, _, _, _, [], rfl, GrD.refl _ _, hF4, .nil⟩ (fun i σ H' _ h => ?_) (fun i x σ H' Tp hx h nT => ?_) (fun σ H' h => ?_)
    · obtain ⟨c5, c6, c7, c8, ys, rfl, g, _⟩ := h
      exact SqL.of (GrDL.lst g nCF hC)
    · obtain ⟨c5, c6, c7, c8, ys, rfl, g, hy, pp⟩ := h
      rw [List.getElem?_map, List.getElem?_map] at hx
      cases e : qs[i]? with
      | none => rw [e] at hx; cases hx
      | some q0 =>
        rw [e] at hx
        cases hx
        have qm := List.mem_of_getElem? e
        obtain ⟨b1, b2, b3⟩ := qb q0 qm
        have hi := (List.getElem?_eq_some_iff.mp e).1
        have rT := (Gr.refl H').new nT (.tup [.int ((i : Nat) : Int), .str (quT q0)])
        refine ⟨Tp, _, rfl, SqT.of upd_same, rfl, _, _, rfl, _, _, rfl, rfl, ?_⟩
        refine ⟨_, rfl, q0, rfl, by rw [(hq q0 qm).2.1]; exact d1, b1, b2, b3, fun v H5 g5 hv => ?_⟩
        have gg := rT.trans g5
        refine ⟨_, rfl, _, rfl, iteN (by obtain ⟨a, s, rfl, _⟩ := hv; exact fun z => nomatch z) ?_⟩
        have hy5 := gg.lstK hy
        have ly := paired_len pp
        rw [List.length_take] at ly
        refine ⟨_, rfl, .inl ⟨rfl, _, SqL.of hy5⟩, _, rfl, F0, ys, v, rfl, rfl, hy5, small1000 (by omega), ?_⟩
        have tp : Tst K H5 (upd H5 F0 (.lst (ys ++ [v]))) := Tst.put hy5
        refine ⟨_, _, _, _, ys ++ [v], rfl, (g.trans (gg.d F0)).set _, upd_same, ?_⟩
        rw [List.take_add_one, e]
        exact paired_app (Paired.mapP pp fun _ _ z => QuV.st (QuV.gr z gg) tp) (.cons (QuV.st hv tp) .nil)
    · obtain ⟨c5, c6, c7, c8, ys, rfl, g, hy, pp⟩ := h
      rw [List.length_map, List.length_map, List.take_length] at pp
      refine ⟨_, rfl, _, rfl, F0, ys, rfl, .inl ⟨SqL.of hy, fun A nA => ⟨szN (by show 2 ≤ 1000000; decide), fun Tt nTt => ?_⟩⟩⟩
      have rA := (Gr.refl H').new nA (.tup ys)
      have rT := rA.new nTt (.tup [.int ((d : Nat) : Int), .ref A])
      have hb : BkV K (upd (upd H' A (.tup ys)) Tt (.tup [.int ((d : Nat) : Int), .ref A])) (.ref Tt) d qs := ⟨Tt, A, ys, rfl, SqT.of upd_same, ((Gr.refl _).new nTt _).seqT (SqT.of upd_same), Paired.mapP pp fun _ _ z => QuV.gr z rT⟩
      generalize upd (upd H' A (.tup ys)) Tt (.tup [.int ((d : Nat) : Int), .ref A]) = H6 at rT hb ⊢
      obtain ⟨a0, b0, xs0, e0, hs0, hb0, hp0⟩ := id hb
      refine ⟨_, rfl, .ref Tt, _, rfl, (by rw [e0]; exact .tup hs0 (.cons (.int _) (.cons (.tup hb0 (dp_qus hp0)) .nil))), small_ok l20 qb, fun H7 g7 => ?_⟩
      rw [bookD_ok d1 (fun q h => ⟨(hq q h).1, (hq q h).2.1⟩) nd]
      exact ⟨_, rfl, iteF ⟨_, rfl, q _ H7 (((g2.trans ((((rF.trans rC).d F0).trans g).to nF)).trans rT).trans g7) (hb.gr g7)⟩⟩
  | _ => cases td
end
end SB
namespace SB
open PySem L2 GxR GA RZ RP TL
/-! ### sayings by their signs -/
def tS (s : Say) : List Nat := tl (sayT s)
def fl (ps : List Say) : List Nat := ps.flatMap fun p => 32 :: tS p
theorem joinL_cons (S : List Nat) : ∀ (p : List Nat) (L : List (List Nat)), joinL S (p :: L) = p ++ L.flatMap fun q => S ++ q
  | p, [] => (List.append_nil p).symm
  | p, q :: r => by
    show p ++ (S ++ joinL S (q :: r)) = _
    rw [joinL_cons S q r, List.flatMap_cons, List.append_assoc]
theorem tl_op : tl ("(" : Str) = [40] := by decide +kernel
theorem tl_cl : tl (")" : Str) = [41] := by decide +kernel
theorem tl_bo : tl (" [" : Str) = [32, 91] := by decide +kernel
theorem tl_bc : tl ("] " : Str) = [93, 32] := by decide +kernel
theorem tS_q (a : Int) (ns : List Int) (wl : Int) : tS (.q a ns wl) = 40 :: (tl (wordA a) ++ 32 :: 91 :: (tl (sidesT ns) ++ 93 :: 32 :: (tl (iT wl) ++ [41]))) := by
  show tl ("(" ++ wordA a ++ " [" ++ sidesT ns ++ "] " ++ iT wl ++ ")") = _
  simp only [tl_append, tl_op, tl_cl, tl_bo, tl_bc]
  simp
theorem tS_c {s : Say} (h : isQ s = false) : tS s = 40 :: (tl (wordS s) ++ (fl (partsS s) ++ [41])) := by
  unfold tS
  rw [sayT_parts h, tl_append, tl_append, tl_op, tl_cl, join_eq, tl_join, List.map_cons, joinL_cons, tl_blank, List.map_map, List.flatMap_map]
  show [40] ++ (tl (wordS s) ++ fl (partsS s)) ++ [41] = _
  simp
theorem fl_split {ps : List Say} {k : Nat} {t : Say} (h : ps[k]? = some t) : fl ps = fl (ps.take k) ++ (32 :: tS t ++ fl (ps.drop (k + 1))) := by
  have e : ps = ps.take k ++ t :: ps.drop (k + 1) := by
    obtain ⟨hl, e⟩ := List.getElem?_eq_some_iff.mp h
    rw [← e, ← List.drop_eq_getElem_cons hl, List.take_append_drop]
  conv => lhs; rw [e]
  unfold fl
  rw [List.flatMap_append, List.flatMap_cons]
/-- what stands ahead of, behind the saying in hand; the path to it, the nearest first -/
def preT : List (Say × Nat) → List Nat
  | [] => []
  | (s, k) :: fs => preT fs ++ (40 :: (tl (wordS s) ++ (fl ((partsS s).take k) ++ [32])))
def postT : List (Say × Nat) → List Nat
  | [] => []
  | (s, k) :: fs => fl ((partsS s).drop (k + 1)) ++ 41 :: postT fs
def Ch (s0 : Say) : List (Say × Nat) → Say → Prop
  | [], t => t = s0
  | (s, k) :: fs, t => isQ s = false ∧ (partsS s)[k]? = some t ∧ Ch s0 fs s
theorem Ch.txt {s0 : Say} : ∀ {fs : List (Say × Nat)} {t : Say}, Ch s0 fs t → tS s0 = preT fs ++ (tS t ++ postT fs)
  | [], t, h => by
    rw [show t = s0 from h]
    simp [preT, postT]
  | (s, k) :: fs, t, ⟨hq, hp, hc⟩ => by
    rw [hc.txt, tS_c hq, fl_split hp]
    simp [preT, postT]
theorem Ch.ok {N d : Nat} {s0 : Say} : ∀ {fs : List (Say × Nat)} {t : Say}, Ch s0 fs t → SayB N d s0 → SayB N d t
  | [], t, h, k => by rw [show t = s0 from h]; exact k
  | (s, k) :: fs, t, ⟨hq, hp, hc⟩, o => part_ok (hc.ok o) (List.mem_of_getElem? hp)
theorem Ch.dep {s0 : Say} : ∀ {fs : List (Say × Nat)} {t : Say}, Ch s0 fs t → depS t + fs.length ≤ depS s0
  | [], t, h => by rw [show t = s0 from h]; exact Nat.le_refl _
  | (s, k) :: fs, t, ⟨hq, hp, hc⟩ => by
    have a := part_dep (List.mem_of_getElem? hp)
    have b := hc.dep
    rw [List.length_cons]
    omega
/-- how many sayings are still to come -/
def remZ : List (Say × Nat) → Nat
  | [] => 0
  | (s, k) :: fs => (((partsS s).drop (k + 1)).map szS).sum + remZ fs
theorem sz_c {s : Say} (h : isQ s = false) : szS s = 1 + ((partsS s).map szS).sum := by
  cases s with
  | q => cases h
  | nt s => simp [szS, partsS]; omega
  | bo s t => simp [szS, partsS]; omega
  | ei s t => simp [szS, partsS]; omega
theorem parts_ne {s : Say} (h : isQ s = false) : ∃ p, (partsS s)[0]? = some p := by
  cases s with
  | q => cases h
  | nt s => exact ⟨_, rfl⟩
  | bo s t => exact ⟨_, rfl⟩
  | ei s t => exact ⟨_, rfl⟩
theorem rem_open {s p : Say} (h : isQ s = false) (hp : (partsS s)[0]? = some p) (fs : List (Say × Nat)) : szS p + remZ ((s, 0) :: fs) + 1 = szS s + remZ fs := by
  rw [sz_c h]
  show szS p + ((((partsS s).drop 1).map szS).sum + remZ fs) + 1 = _
  cases e : partsS s with
  | nil => rw [e] at hp; cases hp
  | cons q r =>
    rw [e] at hp
    cases hp
    rw [List.map_cons, List.sum_cons, List.drop_one]
    show szS p + ((r.map szS).sum + remZ fs) + 1 = 1 + (szS p + (r.map szS).sum) + remZ fs
    omega
theorem rem_next {s r : Say} {k : Nat} (hr : (partsS s)[k + 1]? = some r) (fs : List (Say × Nat)) : szS r + remZ ((s, k + 1) :: fs) = remZ ((s, k) :: fs) := by
  show szS r + ((((partsS s).drop (k + 1 + 1)).map szS).sum + remZ fs) = (((partsS s).drop (k + 1)).map szS).sum + remZ fs
  obtain ⟨hl, e⟩ := List.getElem?_eq_some_iff.mp hr
  rw [List.drop_eq_getElem_cons hl, List.map_cons, List.sum_cons, e]
  omega
theorem rem_up (s : Say) (k : Nat) (fs : List (Say × Nat)) : remZ fs ≤ remZ ((s, k) :: fs) := by
  show _ ≤ _ + remZ fs
  omega
/-! ### looking for a sign -/
theorem getD_tl (z : Str) (i : Nat) : z.cps.getD i 0 = (tl z).getD i 0 := by simp [tl]
theorem find_at {z : Str} {c : Nat} {i p : Nat} (hi : i ≤ p) (hp : (tl z)[p]? = some c) (hn : ∀ v, i ≤ v → v < p → (tl z)[v]? ≠ some c) : Txt.find3 z ⟨#[c]⟩ (i : Int) = (p : Int) := by
  have hl : p < (tl z).length := (List.getElem?_eq_some_iff.mp hp).1
  have el := len_tl z
  have ef : fromIndex z.length (i : Int) = i := by
    unfold fromIndex
    rw [if_neg (by omega)]
    omega
  have gd : ∀ v x, v < z.length → (z.cps.getD v 0 = x ↔ (tl z)[v]? = some x) := fun v x hv => by
    rw [getD_tl, List.getD_eq_getElem?_getD, List.getElem?_eq_getElem (by omega)]
    simp
  rcases StrLaws.find3_spec z c (i : Int) with ⟨_, h⟩ | ⟨k, h1, h2, h3, h4, h5⟩
  · rw [ef] at h
    exact absurd ((gd p c (by omega)).mpr hp) (h p hi (by omega))
  · rw [ef] at h2 h5
    rw [h1]
    have : k = p := by
      rcases Nat.lt_trichotomy k p with g | g | g
      · exact absurd ((gd k c h3).mp h4) (hn k h2 g)
      · exact g
      · exact absurd ((gd p c (by omega)).mpr hp) (h5 p hi g)
    rw [this]
theorem cut_nn (z : Str) (i j : Nat) : tl (cutS z (some (i : Int)) (some (j : Int))) = ((tl z).drop i).take (j - i) := by
  unfold cutS
  rw [tl_mk, HT.sIx_nat, HT.sIx_nat]
  have el := len_tl z
  show ((tl z).drop (min i z.length)).take (min j z.length - min i z.length) = _
  by_cases h : i ≤ z.length
  · rw [Nat.min_eq_left h]
    by_cases k : j ≤ z.length
    · rw [Nat.min_eq_left k]
    · have h1 : ((tl z).drop i).take (z.length - i) = (tl z).drop i := List.take_of_length_le (by rw [List.length_drop]; omega)
      have h2 : ((tl z).drop i).take (j - i) = (tl z).drop i := List.take_of_length_le (by rw [List.length_drop]; omega)
      rw [Nat.min_eq_right (by omega), h1, h2]
  · have h1 : (tl z).drop (min i z.length) = [] := List.drop_of_length_le (by omega)
    have h2 : (tl z).drop i = [] := List.drop_of_length_le (by omega)
    rw [h1, h2]
    simp
/-- a part of a text, told by what stands ahead of and behind it -/
theorem cut_mid {z x : Str} {A C : List Nat} (h : tl z = A ++ (tl x ++ C)) : cutS z (some ((A.length : Nat) : Int)) (some ((A.length + (tl x).length : Nat) : Int)) = x := by
  refine ext_tl ?_
  rw [cut_nn, h, List.drop_left, Nat.add_sub_cancel_left, List.take_left]
theorem at_mid {A C : List Nat} {c : Nat} {L : List Nat} (h : L = A ++ c :: C) : L[A.length]? = some c := by
  rw [h, List.getElem?_append_right (Nat.le_refl _), Nat.sub_self]
  rfl
theorem no_mid {A B C : List Nat} {c : Nat} {L : List Nat} (h : L = A ++ (B ++ C)) (n : c ∉ B) : ∀ v, A.length ≤ v → v < A.length + B.length → L[v]? ≠ some c := fun v h1 h2 e => by
  rw [h, List.getElem?_append_right h1, List.getElem?_append_left (by omega)] at e
  exact n (List.mem_of_getElem? e)
theorem find_mid {z : Str} {A B C : List Nat} {c : Nat} (h : tl z = A ++ (B ++ c :: C)) (n : c ∉ B) : Txt.find3 z ⟨#[c]⟩ ((A.length : Nat) : Int) = ((A.length + B.length : Nat) : Int) := by
  refine find_at (Nat.le_add_right _ _) ?_ (no_mid h n)
  rw [← List.length_append]
  exact at_mid (by rw [h, List.append_assoc])
theorem s32 : (" " : Str) = ⟨#[32]⟩ := ext_tl (by decide +kernel)
theorem s93 : ("]" : Str) = ⟨#[93]⟩ := ext_tl (by decide +kernel)
theorem s41 : (")" : Str) = ⟨#[41]⟩ := ext_tl (by decide +kernel)
theorem s40 : ("(" : Str) = ⟨#[40]⟩ := ext_tl (by decide +kernel)
theorem s91 : ("[" : Str) = ⟨#[91]⟩ := ext_tl (by decide +kernel)
theorem wordA_free {c : Nat} (h : c < 97) (a : Int) : c ∉ tl (wordA a) := by
  have e1 : tl ("less" : Str) = [108, 101, 115, 115] := by decide +kernel
  have e2 : tl ("is" : Str) = [105, 115] := by decide +kernel
  have e3 : tl ("more" : Str) = [109, 111, 114, 101] := by decide +kernel
  unfold wordA
  split
  · rw [e1]; simp; omega
  · split
    · rw [e2]; simp; omega
    · rw [e3]; simp; omega
theorem wordS_free {c : Nat} (h : c < 97) (s : Say) : c ∉ tl (wordS s) := by
  have e1 : tl ("not" : Str) = [110, 111, 116] := by decide +kernel
  have e2 : tl ("both" : Str) = [98, 111, 116, 104] := by decide +kernel
  have e3 : tl ("either" : Str) = [101, 105, 116, 104, 101, 114] := by decide +kernel
  cases s with
  | q a ns wl => exact wordA_free h a
  | nt s => show c ∉ tl ("not" : Str); rw [e1]; simp; omega
  | bo s t => show c ∉ tl ("both" : Str); rw [e2]; simp; omega
  | ei s t => show c ∉ tl ("either" : Str); rw [e3]; simp; omega
end SB
namespace SB
open PySem PySem.W PySem.Calls PyProof.Rows PySem.HandSPX
section
variable {M : Model} {A : Around} {E : Value → Shared → Prop} {hp : Heap} {gs : Array GenState} {dr : Drawn} {tk : Nat} {os : OsState}
variable {cn qn : Str} {C N : Addr} {bs bm bB : List Value} {hd : Bool} {sn : List Str} {sb : List Value} {ab : Bool} {cl : Option Bool} {dd : Option Addr} {k0 k1 k2 k3 k5 : Option Value} {B nI iI : String} {kw : List (Str × Value)}
theorem kwCheckCall {rest : List Value} {v : Value} {Q : Unit → Shared → Prop} (hC : hp.get? C = some (excClassObj cn qn C N bs bm hd sn sb ab cl dd k0 k1 k2 k3 k5 nI)) (hq : Q () ⟨hp, gs, dr, tk, os⟩) :
    wpAny M A (checkBuiltinCall "type.__call__" ⟨.ref C :: rest, [("value", v)]⟩) Q E ⟨hp, gs, dr, tk, os⟩ := by
  have sub3 := tc_sub
  have isTy : (⟨hp, gs, dr, tk, os⟩ : Shared).TypeIs (.ref C) "type" := ⟨_, hC, rfl⟩
  simp only [tc_kind, tc_split, checkBuiltinCall]
  repeat (any_goals (first | assumption | with_reducible refine wpAny_onRaise ?_ | with_reducible refine wpAny_loadPart_at hC ?_ | with_reducible refine wpAny_map ?_ | wp_step))
theorem kwCheckNew (F : ExcBaseFacts B nI iI bB) (hT : ∀ X : String, bm.contains (.type X) = bB.contains (.type X)) {rest : List Value} {v : Value} {Q : Unit → Shared → Prop}
    (hC : hp.get? C = some (excClassObj cn qn C N bs bm hd sn sb ab cl dd k0 k1 k2 k3 k5 nI)) (hq : Q () ⟨hp, gs, dr, tk, os⟩) : wpAny M A (checkBuiltinCall nI ⟨.ref C :: rest, [("value", v)]⟩) Q E ⟨hp, gs, dr, tk, os⟩ := by
  have isB : (Value.ref C :: bm).contains (.type B) = true := by rw [List.contains_cons, hT, F.hasB, Bool.or_true]
  have ns := F.noStar
  simp only [F.newKind, F.newSplit, F.newRow, checkBuiltinCall]
  repeat (first | refine wpAny_loadPart_at hC ?_ | (refine wpAny_isSubtype_exc hC ?_; rw [isB]) | refine wpAny_madeBy_exc hC ?_ | refine wpAny_staticBase_exc hC ?_ | simp only [bne_self_eq_false, Bool.false_eq_true, if_false] | wp_step)
  exact hq
end
section
variable {prog : Program} {w : World} {A : Around} {E : Value → Shared → Prop} {R : Result → Shared → Prop} {hp : Heap} {gs : Array GenState} {dr : Drawn} {tk : Nat} {os : OsState}
variable {cn qn : Str} {C N : Addr} {bs bm bB : List Value} {hd : Bool} {sn : List Str} {sb : List Value} {ab : Bool} {cl : Option Bool} {dd : Option Addr} {k0 k1 k2 k3 k5 : Option Value} {B nI iI : String}
theorem kwNew (F : ExcBaseFacts B nI iI bB) (hT : ∀ X : String, bm.contains (.type X) = bB.contains (.type X)) {rest : List Value} {v : Value}
    (hC : hp.get? C = some (excClassObj cn qn C N bs bm hd sn sb ab cl dd k0 k1 k2 k3 k5 nI))
    (hq : R (.ok (.ret (.ref (hp.objs.size + 1)))) ⟨(hp.push (kdv_tup rest)).push (excO C hp.objs.size), gs, dr, tk, os⟩) (hz : rest.length ≤ sizeLine) :
    codeAny (model prog w) A (.builtin nI ⟨.ref C :: rest, [("value", v)]⟩) R ⟨hp, gs, dr, tk, os⟩ := by
  have e1 := F.ends
  have isB : (Value.ref C :: bm).contains (.type B) = true := by rw [List.contains_cons, hT, F.hasB, Bool.or_true]
  have isA : (Value.ref C :: bm).contains (.type "AttributeError") = false := by rw [List.contains_cons, hT, F.noAttr] <;> rfl
  have isN : (Value.ref C :: bm).contains (.type "NameError") = false := by rw [List.contains_cons, hT, F.noName] <;> rfl
  refine codeAny_builtinAt F.entry ?_
  unfold Builtin.«BaseException.__new__»
  refine PySem.wpAt_bind ?_
  show PySem.wpAt _ _ _ (stack >>= _) _ _ _
  refine PySem.wpAt_bind (PySem.wpAt_stack fun p below => PySem.wpAt_of_wpAny ?_)
  wp_walk
  refine PySem.wpAt_of_wpAny ?_
  rw [F.owner]
  repeat (first | with_reducible refine wpAny_madeHere_exc F.canon hC ?_ | with_reducible refine wpAny_loadPart_at hC ?_ | (with_reducible refine wpAny_isSubtype_exc hC ?_; first | rw [isB] | rw [isN] | rw [isA]) | wp_step)
  show R _ _
  rw [Heap.size_push]
  exact hq
theorem kwTypeCall (F : ExcBaseFacts B nI iI bB) (hT : ∀ X : String, bm.contains (.type X) = bB.contains (.type X)) {v : Value} {fI : Addr} {Q : PySem.Fin → Shared → Prop}
    (hC : hp.get? C = some (excClassObj cn qn C N bs bm hd sn sb ab cl dd k0 k1 k2 k3 k5 nI))
    (hi : W.Looks (model prog w) hp (typeLookup (.ref C) "__init__") (some (.ref fI))) (hb : ∀ self, W.Looks (model prog w) hp (bindSpecial (.ref fI) self) (.ref fI, [self]))
    (hq : codeAny (model prog w) A (.call (.ref fI) ⟨[.ref (hp.objs.size + 1)], [("value", v)]⟩)
      (fun r s' => match r with | .ok (.ret y) => y = .none ∧ Q (.done (.ret (.ref (hp.objs.size + 1)))) s' | .ok _ => False | .error e => E e s')
      ⟨(hp.push (kdv_tup [])).push (excO C hp.objs.size), gs, dr, tk, os⟩) :
    wpAny (model prog w) A (Builtin.«type.__call__» ⟨[.ref C], [("value", v)]⟩) Q E ⟨hp, gs, dr, tk, os⟩ := by
  repeat (first | with_reducible refine wpAny_madeBy_exc hC ?_ | with_reducible refine wpAny_loadPart_at hC ?_ | wp_step)
  refine codeAny_call_builtin_code (Code.quiet_builtin _ F.quiet) (kwCheckNew F hT hC ?_)
  refine kwNew F hT hC ?_ (Nat.zero_le _)
  show wpAny _ _ _ _ _ _
  have kp : ∀ b o, hp.get? b = some o → ((hp.push (kdv_tup [])).push (excO C hp.objs.size)).get? b = some o := fun b o e => Heap.get?_push_of_some _ (Heap.get?_push_of_some _ e)
  have hC1 := kp _ _ hC
  have hg1 : ((hp.push (kdv_tup [])).push (excO C hp.objs.size)).get? (hp.objs.size + 1) = some (excO C hp.objs.size) := by heap_get
  have isC : (Value.ref C :: bm).contains (.ref C) = true := by simp
  have i1 := hi.keeps kp
  have b1 := (hb (.ref (hp.objs.size + 1))).keeps kp
  unfold isInstance
  repeat (first | with_reducible refine wpAny_loadPart_at hg1 ?_ | (with_reducible refine wpAny_isSubtype_exc hC1 ?_; rw [isC]) | wp_step)
  show wpAny _ _ (typeLookup (.ref C) _) _ _ _
  refine i1.at ?_
  refine wpAny_holding (wpAny_bind (b1.at ?_))
  refine wpAny_bind (wpAny_call (codeAny_mono hq fun r s' z => ?_))
  rcases r with e | (y | _ | _ | _) <;> first | exact z | exact z.elim | skip
  obtain ⟨rfl, z⟩ := z
  first
    | exact wpAny_pure (wpAny_pure z)
    | (wp_walk; exact z)
theorem kwCall (F : ExcBaseFacts B nI iI bB) (hT : ∀ X : String, bm.contains (.type X) = bB.contains (.type X)) {v : Value} {fI : Addr}
    (hC : hp.get? C = some (excClassObj cn qn C N bs bm hd sn sb ab cl dd k0 k1 k2 k3 k5 nI))
    (hi : W.Looks (model prog w) hp (typeLookup (.ref C) "__init__") (some (.ref fI))) (hb : ∀ self, W.Looks (model prog w) hp (bindSpecial (.ref fI) self) (.ref fI, [self]))
    (hq : codeAny (model prog w) (A.under (.builtin "type.__call__" ⟨[.ref C], [("value", v)]⟩)) (.call (.ref fI) ⟨[.ref (hp.objs.size + 1)], [("value", v)]⟩) (W.InitBack (hp.objs.size + 1) R)
      ⟨(hp.push (kdv_tup [])).push (excO C hp.objs.size), gs, dr, tk, os⟩) :
    codeAny (model prog w) A (.call (.ref C) ⟨[], [("value", v)]⟩) R ⟨hp, gs, dr, tk, os⟩ := by
  have l1 := tc_lookup
  have l2 := tc_bind (.ref C)
  have isTy : (⟨hp, gs, dr, tk, os⟩ : Shared).TypeIs (.ref C) "type" := ⟨_, hC, rfl⟩
  refine codeAny_of_tree ?_
  show wpAny _ _ (callAny (.ref C) _) _ _ _
  repeat (any_goals (first | assumption | with_reducible refine wpAny_loadPart_at hC ?_ | wp_step))
  refine ⟨rfl, ?_⟩
  refine codeAny_call_builtin_at (Code.quiet_builtin _ (by decide +kernel)) entry_typeCall (kwCheckCall hC (kwTypeCall F hT hC hi hb ?_))
  refine codeAny_mono hq fun r s' z => ?_
  rcases r with e | (y | _ | _ | _) <;> exact z
end
end SB
namespace SB
open PySem PySem.W PySem.Calls PyProof.Rows PySem.HandSPX
/-! ### the text of BookError.__init__ -/
def iA (p1 p2 : Pos) : Arguments := { posonlyargs := [], args := [{ arg := "self", annotation := none, pos := p1 }, { arg := "value", annotation := none, pos := p2 }], vararg := none, kwonlyargs := [], kw_defaults := [], kwarg := none, defaults := [] }
def iB (q1 q2 q3 q4 : Pos) : List Stmt := [.Assign [.Attribute (.Name "self" q1) "value" q2] (.Name "value" q3) q4]
def iS : Scope := { kind := .function, names := [(PySem.Str.ofString "self", .local), (PySem.Str.ofString "value", .local)], isGenerator := false, isCoroutine := false, more := [] }
/-- what can be asked of an error class by reckoning -/
def errB (K : Frag) (C fI : Addr) : Bool :=
  decide (findIn K (.ref C) "__setattr__" = some (some (.builtin "object.__setattr__"))) && decide (findIn K (.ref C) "__getattribute__" = some (some (.builtin "BaseException.__getattribute__"))) &&
  decide (findIn K (.ref C) "__getattr__" = some none) && decide (findIn K (.ref C) "value" = some none) && decide (findIn K (.ref C) "__init__" = some (some (.ref fI))) && keepIn K (.ref C) &&
  decide (subIn K (.ref C) (.type "BaseException") = some true) && decide (typeIn K (.ref C) = some (.type "type")) && hasDictIn K C && decide (findIn K (.ref C) "__class__" = some (some (.builtin "object.__class__"))) &&
  decide (mroIn K C (.type "object") = some true)
structure ErrTxt (K : Frag) (C fI : Addr) : Prop where
  cls : ∃ nm q N bs bm sn sub ab col dd k0 k1 k2 k3 k5, K.lookup C = some (excClassObj nm q C N bs bm true sn sub ab col dd k0 k1 k2 k3 k5 "ValueError.__new__") ∧ refsVE bm = true
  sa : findIn K (.ref C) "__setattr__" = some (some (.builtin "object.__setattr__"))
  ga : findIn K (.ref C) "__getattribute__" = some (some (.builtin "BaseException.__getattribute__"))
  gg : findIn K (.ref C) "__getattr__" = some none
  noN : findIn K (.ref C) "value" = some none
  iC : findIn K (.ref C) "__init__" = some (some (.ref fI))
  kC : keepIn K (.ref C) = true
  exC : subIn K (.ref C) (.type "BaseException") = some true
  tyC : typeIn K (.ref C) = some (.type "type")
  hdC : hasDictIn K C = true
  ca : findIn K (.ref C) "__class__" = some (some (.builtin "object.__class__"))
  mo : mroIn K C (.type "object") = some true
theorem errTxt_of {K : Frag} {C fI : Addr} (h : errB K C fI = true) (c : ∃ nm q N bs bm sn sub ab col dd k0 k1 k2 k3 k5, K.lookup C = some (excClassObj nm q C N bs bm true sn sub ab col dd k0 k1 k2 k3 k5 "ValueError.__new__") ∧ refsVE bm = true) : ErrTxt K C fI := by
  unfold errB at h
  simp only [Bool.and_eq_true, decide_eq_true_eq] at h
  obtain ⟨⟨⟨⟨⟨⟨⟨⟨⟨⟨h1, h2⟩, h3⟩, h4⟩, h5⟩, h6⟩, h7⟩, h8⟩, h9⟩, h10⟩, h11⟩ := h
  exact ⟨c, h1, h2, h3, h4, h5, h6, h7, h8, h9, h10, h11⟩
/-- what all of them share -/
structure ErrAll (K : Frag) (fI : Addr) : Prop where
  tC : typeIn K (.ref fI) = some (.type "function")
  hn : specialIn K (.builtin "object.__class__") "__get__" = some (some (.builtin "getset_descriptor.__get__"))
  ht : takesIn K (.builtin "object.__class__") = some true
  fn : ∃ (oc : Value) (od : Option Addr) (doc pm : Value) (an : Option Addr) (cdv ct : Value) (osl : Array (Option Value)) (p1 p2 q1 q2 q3 q4 : Pos),
    K.lookup fI = some ⟨oc, od, .func (fnOf "__init__" "BookError.__init__" (iA p1 p2) (iB q1 q2 q3 q4) iS .none .none doc pm an cdv ct), osl⟩ ∧ codeIn K cdv "BookError.__init__" = true
theorem oneSize (v : Value) : [v].length ≤ sizeLine := by
  rw [sizeLine_eq]
  exact (by decide : 1 ≤ 16777216)
theorem ldV {M : Model} {s : Shared} {name : Str} {scope : Scope} {L a : Addr} {cd : Value} {m : Str → Option Value} {x : Str} {pos : Pos} {v : Value} {Q : Value → Shared → Prop} {A : Around} {E : Value → Shared → Prop} (hn : s.heap.Ns L m) (hv : m x = some v) (h : Q v s)
    (hk : scope.kind = .function := by rfl) (hl : (envOfC name scope L a cd).kindOf x = some .local := by rfl) (hd : (x == ("__debug__" : Str)) = false := by decide) :
    wpAny M A (eval (.Name x pos) (envOfC name scope L a cd)) Q E s := wpAny_Name (wpAny_loadName_local hk hl hn hv h) hd
/-- what __init__ leaves of a fresh exception at x -/
structure InitEnd (h h' : Heap) (x C dx t1 : Addr) (v : Value) : Prop where
  keep : ∀ b o, b ≠ x → h.get? b = some o → h'.get? b = some o
  obj : h'.get? x = some { cls := .ref C, dict := some dx, data := .fields #[.ref t1, .none, .none, .none, .bool false, .none] }
  dbig : h.objs.size ≤ dx
  dne : dx ≠ x
  ns : h'.Ns1 dx (fun y => if y = "value" then some v else none)
/-- a made error -/
structure OwnMade (h h' : Heap) (e C d : Addr) (v : Value) : Prop where
  keep : ∀ b o, h.get? b = some o → h'.get? b = some o
  new : h.objs.size ≤ e
  obj : ∃ oe vs, h'.get? e = some oe ∧ oe.cls = .ref C ∧ oe.dict = some d ∧ oe.data = .fields vs ∧ vs[1]? = some .none ∧ vs[2]? = some .none
  dbig : h.objs.size ≤ d
  dne : d ≠ e
  ns : h'.Ns1 d (fun y => if y = "value" then some v else none)
section
variable {prog : Program} {w : World} {A : Around} {E : Value → Shared → Prop} {R : Result → Shared → Prop} {s : Shared} {K : Frag} {C fI : Addr}
theorem err_init (T : ErrTxt K C fI) (U : ErrAll K fI) {x t0 : Addr} {v : Value} {args : Args} (ha : args = ⟨[.ref x, v], []⟩ ∨ args = ⟨[.ref x], [("value", v)]⟩) (X : K.In s.heap) (hlim : s.heap.NoLimit) (hx : s.heap.get? x = some (excO C t0)) (hnx : K.lookup x = none) (hroom : A.depth < recursionLimit)
    (hq : ∀ h' tk dx, InitEnd s.heap h' x C dx t0 v → R (.ok (.ret .none)) { s with heap := h', toks := tk }) :
    codeAny (model prog w) A (.call (.ref fI) args) R s := by
  obtain ⟨oc, od, doc, pm, an, cdv, ct, osl, p1, p2, q1, q2, q3, q4, ho, hcd⟩ := U.fn
  obtain ⟨nm, q, N, bs, bm, sn, sub, ab, col, dd, k0, k1, k2, k3, k5, hC, hbm⟩ := T.cls
  have hcl : clsIn K C = some { name := nm, bases := bs, mro := .ref C :: bm, ns := N, qualname := q, hasDict := true, slotNames := sn, subclasses := sub, abstract := ab, collection := col, hasDel := false } := by unfold clsIn; rw [hC] <;> rfl
  have hbt : BindsTo s (fnOf "__init__" "BookError.__init__" (iA p1 p2) (iB q1 q2 q3 q4) iS .none .none doc pm an cdv ct) args [("self", .ref x), ("value", v)] := by
    rcases ha with rfl | rfl
    · exact BindsTo.of_eq (by first | rfl | with_unfolding_all rfl)
    · exact BindsTo.of_eq (by first | rfl | with_unfolding_all rfl)
  refine Att.call_fn (binds := [("self", .ref x), ("value", v)]) X hlim ho hcd hroom hbt (by first | rfl | decide | with_unfolding_all rfl) (fun s₁ IC => ?_) rfl rfl rfl
  obtain ⟨h₁, tk₁, rfl⟩ := IC.toInCall.same
  have k : ∀ b o, s.heap.get? b = some o → h₁.get? b = some o := IC.toInCall.keep
  have hn := IC.toInCall.ns
  have hxL : s.heap.objs.size ≠ x := Nat.ne_of_gt (Heap.lt_size hx)
  have X₁ : K.In h₁ := X.keeps k
  have hx₁ := k _ _ hx
  show wpAny _ _ (execs _ _) _ _ _
  refine wpAny_execs_cons (plainObj_wpAny_Assign_Attribute ?_)
  refine ldV (v := v) hn (by first | rfl | with_unfolding_all rfl | kernel_rfl) (ldV (v := .ref x) hn (by first | rfl | with_unfolding_all rfl | kernel_rfl) ?_)
  refine set_plain X₁ (ox := excO C t0) (od := none) ⟨hx₁, rfl, rfl, trivial⟩ T.sa ?_
  refine exc_osa X₁ hx₁ hcl (show refsVE (.ref C :: bm) = true from hbm) rfl T.noN (fun h₃ tk₃ dx k₃ dn dne hx₃ hn₃ => ?_)
  show wpAny _ _ (execs _ _) _ _ _
  have z : s.heap.objs.size < h₁.objs.size := hn.lt
  exact wpAny_execs_nil (hq h₃ tk₃ dx ⟨fun b o hb e => k₃ b o hb (k b o e), hx₃, Nat.le_of_lt (Nat.lt_of_lt_of_le z dn), dne, hn₃⟩)
theorem err_made (T : ErrTxt K C fI) (U : ErrAll K fI) {v : Value} {args : Args} (ha : args = ⟨[v], []⟩ ∨ args = ⟨[], [("value", v)]⟩) (X : K.In s.heap) (hlim : s.heap.NoLimit) (hroom : A.depth + 1 < recursionLimit)
    (hq : ∀ h' tk e d, OwnMade s.heap h' e C d v → R (.ok (.ret (.ref e))) { s with heap := h', toks := tk }) :
    codeAny (model prog w) A (.call (.ref C) args) R s := by
  obtain ⟨nm, q, N, bs, bm, sn, sub, ab, col, dd, k0, k1, k2, k3, k5, hC, hbm⟩ := T.cls
  obtain ⟨hp, g, dr, tk, os⟩ := s
  have core : ∀ (rest : List Value) (A' : Around) (ar : Args), A'.depth = A.depth + 1 → (ar = ⟨[.ref (hp.objs.size + 1), v], []⟩ ∨ ar = ⟨[.ref (hp.objs.size + 1)], [("value", v)]⟩) →
      codeAny (model prog w) A' (.call (.ref fI) ar) (W.InitBack (hp.objs.size + 1) R) ⟨(hp.push (kdv_tup rest)).push (excO C hp.objs.size), g, dr, tk, os⟩ := by
    intro rest A' ar hA har
    have k : ∀ b o, hp.get? b = some o → ((hp.push (kdv_tup rest)).push (excO C hp.objs.size)).get? b = some o := fun b o e => Heap.get?_push_of_some _ (Heap.get?_push_of_some _ e)
    have hget : ((hp.push (kdv_tup rest)).push (excO C hp.objs.size)).get? (hp.objs.size + 1) = some (excO C hp.objs.size) := by heap_get
    have hnx : K.lookup (hp.objs.size + 1) = none := by
      cases e : K.lookup (hp.objs.size + 1) with
      | none => rfl
      | some o =>
        have z : hp.get? (hp.objs.size + 1) = some o := X _ _ e
        exact absurd (Nat.lt_of_succ_lt (Heap.lt_size z)) (Nat.lt_irrefl _)
    refine err_init (s := ⟨(hp.push (kdv_tup rest)).push (excO C hp.objs.size), g, dr, tk, os⟩) T U har (X.keeps k) (hlim.keeps k) hget hnx (by rw [hA]; exact hroom) fun h' tk' dx ⟨k', hx, dn, dne, hns⟩ => ?_
    have old : ∀ b o, hp.get? b = some o → h'.get? b = some o := fun b o e => k' b o (Nat.ne_of_lt (Nat.lt_succ_of_lt (Heap.lt_size e))) (k b o e)
    have z : hp.objs.size + 1 + 1 ≤ dx := by
      first
        | (simpa only [Heap.size_push] using dn)
        | exact dn
        | (have q := dn; rw [Heap.size_push, Heap.size_push] at q; exact q)
    exact ⟨rfl, hq h' tk' (hp.objs.size + 1) dx ⟨old, Nat.le_succ _, ⟨_, _, hx, rfl, rfl, rfl, rfl, rfl⟩, Nat.le_trans (Nat.le_trans (Nat.le_succ _) (Nat.le_succ _)) z, dne, hns⟩⟩
  rcases ha with rfl | rfl
  · exact call_own F.excBase_ValueError (fun X => refsVE_contains X bm hbm) (X _ _ hC) (looks_findIn X T.iC) (fun self => bind_fn X self U.tC) (oneSize v) (core _ _ _ rfl (.inl rfl))
  · exact kwCall F.excBase_ValueError (fun X => refsVE_contains X bm hbm) (X _ _ hC) (looks_findIn X T.iC) (fun self => bind_fn X self U.tC) (core _ _ _ rfl (.inr rfl))
end
end SB
namespace SB
open PySem PySem.Spec PyProof.Rows L2
theorem relO_val {v : V} {v' : Value} (r : RelV v v') (f : Str) : RelO (List.lookup f [(("value" : Str), v)]) (if f = "value" then some v' else none) := by
  by_cases hw : f = "value"
  · subst hw
    rw [if_pos rfl]
    have q : List.lookup ("value" : Str) [(("value" : Str), v)] = some v := by simp [List.lookup]
    rw [q]
    exact r
  · rw [if_neg hw]
    have qw : (f == ("value" : Str)) = false := by simpa using hw
    have q2 : List.lookup f [(("value" : Str), v)] = none := by simp [List.lookup, qw]
    rw [q2]
    trivial
/-- an error's dict -/
abbrev valD (v : V) : HO := .xd [(("value" : Str), v)]
section
variable {X : Cx} {pins : List (Addr × Obj)} {σ : L2.St} {H : Hp} {s : Shared} {C fI : Addr}
/-- C(e), C(value=e) -/
def tMkErr (C : Addr) (te : TE) : L2.St → Hp → XK → Prop := fun σ H Q => te σ H fun v H1 => ∀ d, H1 d = none → Q (.ref C) (some d) (upd H1 d (valD v))
theorem mk_err {k : Nat} (T : ErrTxt X.K C fI) (U : ErrAll X.K fI) (hr : Room k X.A) {v : V} {v' : Value} {args : Args} (ha : args = ⟨[v'], []⟩ ∨ args = ⟨[], [("value", v')]⟩) (I1 : Inv X pins σ H s) (rv : RelV v v') {Q : XK}
    (q1 : ∀ d, H d = none → Q (.ref C) (some d) (upd H d (valD v))) : wpAny (model X.prog X.w) X.A (call (.ref C) args.pos args.kw) (MkP X pins σ Q) X.xe s := by
  have hlim := I1.nolimit
  obtain ⟨hp, g, dr, tk, os⟩ := s
  refine wpAny_call (err_made T U (by rcases ha with rfl | rfl; exact .inl rfl; exact .inr rfl) I1.kIn hlim (by have := hr.dp; omega) fun h' tk' e d M => ?_)
  show MkP X pins σ Q (.ref e) ⟨h', g, dr, tk', os⟩
  obtain ⟨oe, fv, hoe, hc, hd, hdat, h1, _⟩ := M.obj
  have hns := M.ns
  obtain ⟨G', g1, g2⟩ := restrict h' fun b => decide (b ≠ e)
  have gk : ∀ b, b ≠ e → G'.get? b = h'.get? b := fun b hb => g1 b (decide_eq_true hb)
  have ge : G'.get? e = none := g2 e (by simp)
  have old : ∀ b o, hp.get? b = some o → G'.get? b = some o := fun b o q => (gk b (Nat.ne_of_lt (Nat.lt_of_lt_of_le (Heap.lt_size q) M.new))).trans (M.keep b o q)
  have ob : ObjOk X.prog X.w (upd H d (valD v)) G' d (valD v) :=
    ⟨_, hns.at (fun o q => (gk d M.dne).trans q), fun f => relO_val rv f⟩
  have J : Inv X pins σ (upd H d (valD v)) ⟨G', g, dr, tk', os⟩ := I1.laid (t' := tk') old M.dbig ob
  refine ⟨e, oe, fv, ⟨G', g, dr, tk', os⟩, _, .ref C, some d, rfl, J, fun b o q => ?_, ge, hoe, ⟨hc, hd⟩, hdat, h1, ?_, rfl, I1.bare, raises_own T.exC T.tyC, q1 d (I1.hok.fresh M.dbig)⟩
  · by_cases hb : b = e
    · have q' : G'.get? b = some o := q
      rw [hb, ge] at q'; cases q'
    · exact (gk b hb).symm.trans q
  · rw [upd_ne (Ne.symm M.dne)]
    exact I1.hok.fresh M.new
theorem pmk_err {a : Expr} {te : TE} {x : Str} {p pos : Pos} {k : Nat} (T : ErrTxt X.K C fI) (U : ErrAll X.K fI) (gC : X.mg x = some (.ref C)) (hr : Room k X.A) (ha : PE X a te) (hg : Gl X x := by rfl) (hdb : (x == ("__debug__" : Str)) = false := by decide)
    (he : starEach (a :: []) X.env = (false, eval a X.env) :: starEach [] X.env := by rfl) (hpl : (backTo pos (starEach [] X.env)).any (·.1) = false := by rfl) :
    PMk X (.Call (.Name x p) [a] [] pos) (tMkErr C te) := by
  intro pins s σ H Q I h
  refine wpAny_Call_Name_kw (ld_glob I hg gC ?_ hdb)
  refine PySem.W.callWith_K (h₀ := X.base) I.ok.mod.kin T.kC (thn ((pa_cons ha pa_nil he).run pos pins s σ H (fun vs H1 => ∃ v, vs = [v] ∧ ∀ d, H1 d = none → Q (.ref C) (some d) (upd H1 d (valD v))) I ?_) fun us s1 hh => ?_) he hpl
  · show te σ H _
    exact (show te σ H fun v H1 => ∃ w, [v] = [w] ∧ ∀ d, H1 d = none → Q (.ref C) (some d) (upd H1 d (valD w)) from by
      have e : (fun (v : V) (H1 : Hp) => ∃ w, [v] = [w] ∧ ∀ d, H1 d = none → Q (.ref C) (some d) (upd H1 d (valD w))) = fun v H1 => ∀ d, H1 d = none → Q (.ref C) (some d) (upd H1 d (valD v)) := by
        funext v H1
        apply propext
        constructor
        · rintro ⟨w, e, h⟩
          cases e
          exact h
        · intro h
          exact ⟨v, rfl, h⟩
      rw [e]
      exact h)
  obtain ⟨vs, H1, I1, r1, v, ev, q1⟩ := hh
  subst ev
  refine ⟨I1.kIn, ?_⟩
  cases r1 with
  | cons rv rn =>
    rename_i v' us'
    cases rn
    exact mk_err (args := ⟨[v'], []⟩) T U hr (.inl rfl) I1 rv q1
end
end SB
namespace SB
open PySem PySem.Spec PyProof.Rows L2
/-! ### an error made, whose context is none -/
section
variable {X : Cx} {pins : List (Addr × Obj)} {σ : L2.St} {H : Hp} {s : Shared} {C fI : Addr}
theorem mk_errN {k : Nat} (T : ErrTxt X.K C fI) (U : ErrAll X.K fI) (hr : Room k X.A) {v : V} {v' : Value} {args : Args} (ha : args = ⟨[v'], []⟩ ∨ args = ⟨[], [("value", v')]⟩) (I1 : Inv X pins σ H s) (rv : RelV v v') {Q : XK}
    (q1 : ∀ d, H d = none → Q (.ref C) (some d) (upd H d (valD v))) : wpAny (model X.prog X.w) X.A (call (.ref C) args.pos args.kw) (L2N.MkP X pins σ Q) X.xe s := by
  have hlim := I1.nolimit
  obtain ⟨hp, g, dr, tk, os⟩ := s
  refine wpAny_call (err_made T U (by rcases ha with rfl | rfl; exact .inl rfl; exact .inr rfl) I1.kIn hlim (by have := hr.dp; omega) fun h' tk' e d M => ?_)
  show L2N.MkP X pins σ Q (.ref e) ⟨h', g, dr, tk', os⟩
  obtain ⟨oe, fv, hoe, hc, hd, hdat, h1, h2⟩ := M.obj
  have hns := M.ns
  obtain ⟨G', g1, g2⟩ := restrict h' fun b => decide (b ≠ e)
  have gk : ∀ b, b ≠ e → G'.get? b = h'.get? b := fun b hb => g1 b (decide_eq_true hb)
  have ge : G'.get? e = none := g2 e (by simp)
  have old : ∀ b o, hp.get? b = some o → G'.get? b = some o := fun b o q => (gk b (Nat.ne_of_lt (Nat.lt_of_lt_of_le (Heap.lt_size q) M.new))).trans (M.keep b o q)
  have ob : ObjOk X.prog X.w (upd H d (valD v)) G' d (valD v) :=
    ⟨_, hns.at (fun o q => (gk d M.dne).trans q), fun f => relO_val rv f⟩
  have J : Inv X pins σ (upd H d (valD v)) ⟨G', g, dr, tk', os⟩ := I1.laid (t' := tk') old M.dbig ob
  refine ⟨e, oe, fv, ⟨G', g, dr, tk', os⟩, _, .ref C, some d, rfl, J, fun b o q => ?_, ge, hoe, ⟨hc, hd, fun vs e => by rw [hdat] at e; cases e; exact h2⟩, hdat, h1, ?_, rfl, I1.bare, raises_own T.exC T.tyC, q1 d (I1.hok.fresh M.dbig)⟩
  · by_cases hb : b = e
    · have q' : G'.get? b = some o := q
      rw [hb, ge] at q'; cases q'
    · exact (gk b hb).symm.trans q
  · rw [upd_ne (Ne.symm M.dne)]
    exact I1.hok.fresh M.new
theorem pmk_errN {a : Expr} {te : TE} {x : Str} {p pos : Pos} {k : Nat} (T : ErrTxt X.K C fI) (U : ErrAll X.K fI) (gC : X.mg x = some (.ref C)) (hr : Room k X.A) (ha : PE X a te) (hg : Gl X x := by rfl) (hdb : (x == ("__debug__" : Str)) = false := by decide)
    (he : starEach (a :: []) X.env = (false, eval a X.env) :: starEach [] X.env := by rfl) (hpl : (backTo pos (starEach [] X.env)).any (·.1) = false := by rfl) :
    L2N.PMk X (.Call (.Name x p) [a] [] pos) (tMkErr C te) := by
  intro pins s σ H Q I h
  refine wpAny_Call_Name_kw (ld_glob I hg gC ?_ hdb)
  refine PySem.W.callWith_K (h₀ := X.base) I.ok.mod.kin T.kC (thn ((pa_cons ha pa_nil he).run pos pins s σ H (fun vs H1 => ∃ v, vs = [v] ∧ ∀ d, H1 d = none → Q (.ref C) (some d) (upd H1 d (valD v))) I ?_) fun us s1 hh => ?_) he hpl
  · show te σ H _
    exact (show te σ H fun v H1 => ∃ w, [v] = [w] ∧ ∀ d, H1 d = none → Q (.ref C) (some d) (upd H1 d (valD w)) from by
      have e : (fun (v : V) (H1 : Hp) => ∃ w, [v] = [w] ∧ ∀ d, H1 d = none → Q (.ref C) (some d) (upd H1 d (valD w))) = fun v H1 => ∀ d, H1 d = none → Q (.ref C) (some d) (upd H1 d (valD v)) := by
        funext v H1
        apply propext
        constructor
        · rintro ⟨w, e, h⟩
          cases e
          exact h
        · intro h
          exact ⟨v, rfl, h⟩
      rw [e]
      exact h)
  obtain ⟨vs, H1, I1, r1, v, ev, q1⟩ := hh
  subst ev
  refine ⟨I1.kIn, ?_⟩
  cases r1 with
  | cons rv rn =>
    rename_i v' us'
    cases rn
    exact mk_errN (args := ⟨[v'], []⟩) T U hr (.inl rfl) I1 rv q1
end
end SB
namespace SB
open PySem PySem.W PyProof.Rows
/-! ### what is known of K is known of what holds more -/
section
variable {K K2 : Frag} (up : ∀ b o, K.lookup b = some o → K2.lookup b = some o)
include up
theorem up_ns {a : Addr} {x : Str} {r : Option Value} (e : nsIn K a x = some r) : nsIn K2 a x = some r := by
  unfold nsIn at e ⊢
  cases ho : K.lookup a with
  | none =>
    rw [ho] at e
    cases e
  | some o =>
    rw [ho] at e
    rw [up _ _ ho]
    exact e
theorem up_cls {C : Addr} {cd : ClassData} (e : clsIn K C = some cd) : clsIn K2 C = some cd := by
  unfold clsIn at e ⊢
  cases ho : K.lookup C with
  | none =>
    rw [ho] at e
    cases e
  | some o =>
    rw [ho] at e
    rw [up _ _ ho]
    exact e
theorem up_own {x : Str} {v : Value} {r : Option Value} (e : ownIn K x v = some r) : ownIn K2 x v = some r := by
  cases v with
  | ref a =>
    unfold ownIn at e ⊢
    dsimp only at e ⊢
    cases ho : K.lookup a with
    | none =>
      rw [ho] at e
      cases e
    | some o =>
      rw [ho] at e
      rw [up _ _ ho]
      obtain ⟨c, d, dt, sl⟩ := o
      cases dt <;> first | exact up_ns up e | exact e
  | _ => exact e
theorem up_along {x : Str} : ∀ {vs : List Value} {r : Option Value}, alongIn K x vs = some r → alongIn K2 x vs = some r
  | [], _, e => e
  | c :: l, r, e => by
    unfold alongIn at e ⊢
    cases ho : ownIn K x c with
    | none =>
      rw [ho] at e
      cases e
    | some o =>
      rw [ho] at e
      rw [up_own up ho]
      cases o with
      | none => exact up_along e
      | some v => exact e
theorem up_find {x : Str} {v : Value} {r : Option Value} (e : findIn K v x = some r) : findIn K2 v x = some r := by
  cases v with
  | ref a =>
    unfold findIn at e ⊢
    dsimp only at e ⊢
    cases ho : K.lookup a with
    | none =>
      rw [ho] at e
      cases e
    | some o =>
      rw [ho] at e
      rw [up _ _ ho]
      obtain ⟨c, d, dt, sl⟩ := o
      cases dt <;> first | exact up_along up e | exact e
  | _ => exact e
theorem up_type {v t : Value} (e : typeIn K v = some t) : typeIn K2 v = some t := by
  cases v with
  | ref a =>
    unfold typeIn at e ⊢
    dsimp only at e ⊢
    cases ho : K.lookup a with
    | none =>
      rw [ho] at e
      cases e
    | some o =>
      rw [ho] at e
      rw [up _ _ ho]
      exact e
  | _ => exact e
theorem up_special {v : Value} {x : Str} {r : Option Value} (e : specialIn K v x = some r) : specialIn K2 v x = some r := by
  obtain ⟨t, a, b⟩ := Option.bind_eq_some_iff.mp e
  exact Option.bind_eq_some_iff.mpr ⟨t, up_type up a, up_find up b⟩
theorem up_takes {v : Value} {r : Bool} (e : takesIn K v = some r) : takesIn K2 v = some r := by
  unfold takesIn at e ⊢
  cases ho : specialIn K v "__set__" with
  | none =>
    rw [ho] at e
    cases e
  | some o =>
    rw [ho] at e
    rw [up_special up ho]
    cases o with
    | some v => exact e
    | none =>
      obtain ⟨y, hy, q⟩ := Option.map_eq_some_iff.mp e
      exact Option.map_eq_some_iff.mpr ⟨y, up_special up hy, q⟩
theorem up_mro {C : Addr} {v : Value} {r : Bool} (e : mroIn K C v = some r) : mroIn K2 C v = some r := by
  obtain ⟨t, a, b⟩ := Option.bind_eq_some_iff.mp e
  exact Option.bind_eq_some_iff.mpr ⟨t, up_cls up a, b⟩
theorem up_sub {t v : Value} {r : Bool} (e : subIn K t v = some r) : subIn K2 t v = some r := by
  cases t with
  | ref a => exact up_mro up e
  | _ => exact e
theorem up_dict {C : Addr} (e : hasDictIn K C = true) : hasDictIn K2 C = true := by
  unfold hasDictIn at e ⊢
  cases ho : clsIn K C with
  | none =>
    rw [ho] at e
    cases e
  | some o =>
    rw [ho] at e
    rw [up_cls up ho]
    exact e
theorem up_kit {t c : Value} {r : Bool} (e : kitCls K t c = some r) : kitCls K2 t c = some r := by
  cases c with
  | ref C =>
    unfold kitCls at e ⊢
    dsimp only at e ⊢
    split at e
    · rename_i z
      rw [Bool.and_eq_true] at z
      obtain ⟨z1, z2⟩ := z
      obtain ⟨cd, hc⟩ := Option.isSome_iff_exists.mp z1
      rw [if_pos (by rw [up_cls up hc, up_type up (beq_iff_eq.mp z2)]; exact (by decide +kernel : (true && (some (Value.type "type") == some (Value.type "type"))) = true))]
      exact up_sub up e
    · cases e
  | type T =>
    unfold kitCls at e ⊢
    dsimp only at e ⊢
    split at e
    · rename_i z
      rw [if_pos z]
      exact up_sub up e
    · cases e
  | _ => exact e
theorem up_exm {t c : Value} {r : Bool} (e : exmOne K t c = some r) : exmOne K2 t c = some r := by
  unfold exmOne at e ⊢
  split at e
  · rename_i z
    rw [if_pos (by rw [up_sub up (beq_iff_eq.mp z)]; decide +kernel)]
    exact up_kit up e
  · cases e
theorem up_keepC {C : Addr} {nm q : Str} {N : Addr} {bs bm : List Value} {hd : Bool} {sn : List Str} {sb : List Value} {ab : Bool} {cl : Option Bool} {dd : Option Addr} {k0 k1 k2 k3 k5 : Option Value} {nI : String} (l : K.lookup C = some (excClassObj nm q C N bs bm hd sn sb ab cl dd k0 k1 k2 k3 k5 nI)) (e : keepIn K (.ref C) = true) : keepIn K2 (.ref C) = true := by
  unfold keepIn at e ⊢
  dsimp only at e ⊢
  rw [l] at e
  rw [up _ _ l]
  exact beq_iff_eq.mpr (up_special up (beq_iff_eq.mp e))
theorem ErrTxt.more {C fI : Addr} (T : ErrTxt K C fI) : ErrTxt K2 C fI := by
  obtain ⟨nm, q, N, bs, bm, sn, sub, ab, col, dd, k0, k1, k2, k3, k5, l, r⟩ := T.cls
  exact ⟨⟨nm, q, N, bs, bm, sn, sub, ab, col, dd, k0, k1, k2, k3, k5, up _ _ l, r⟩, up_find up T.sa, up_find up T.ga, up_find up T.gg, up_find up T.noN, up_find up T.iC, up_keepC up l T.kC, up_sub up T.exC, up_type up T.tyC, up_dict up T.hdC, up_find up T.ca, up_mro up T.mo⟩
theorem up_code {cd : Value} {q : Str} (c : codeIn K cd q = true) : codeIn K2 cd q = true := by
  unfold codeIn at c ⊢
  split at c
  · rename_i a
    cases ho : K.lookup a with
    | none =>
      rw [ho] at c
      cases c
    | some o =>
      rw [ho] at c
      simp only [up _ _ ho]
      exact c
  · cases c
theorem ErrAll.more {fI : Addr} (T : ErrAll K fI) : ErrAll K2 fI := by
  obtain ⟨oc, od, doc, pm, an, cdv, ct, osl, p1, p2, q1, q2, q3, q4, l, c⟩ := T.fn
  exact ⟨up_type up T.tC, up_special up T.hn, up_takes up T.ht, ⟨oc, od, doc, pm, an, cdv, ct, osl, p1, p2, q1, q2, q3, q4, up _ _ l, up_code up c⟩⟩
end
def ClsAt (K : Frag) (C : Addr) (bm : List Value) : Prop := ∃ nm q N bs sn sub ab col dd k0 k1 k2 k3 k5, K.lookup C = some (excClassObj nm q C N bs bm true sn sub ab col dd k0 k1 k2 k3 k5 "ValueError.__new__")
theorem cls_mk {K : Frag} {C : Addr} {bm : List Value} {nm q : Str} {N : Addr} {bs : List Value} {sn : List Str} {sub : List Value} {ab : Bool} {col : Option Bool} {dd : Option Addr} {m0 m1 m2 m3 m5 : Option Value}
    (l : K.lookup C = some (excClassObj nm q C N bs bm true sn sub ab col dd m0 m1 m2 m3 m5 "ValueError.__new__")) : ClsAt K C bm := ⟨nm, q, N, bs, sn, sub, ab, col, dd, m0, m1, m2, m3, m5, l⟩
theorem err_at {K : Frag} {C fI : Addr} {bm : List Value} (h : errB K C fI = true) (c : ClsAt K C bm) (r : PySem.HandSPX.refsVE bm = true) : ErrTxt K C fI := by
  obtain ⟨nm, q, N, bs, sn, sub, ab, col, dd, k0, k1, k2, k3, k5, l⟩ := c
  exact errTxt_of h ⟨nm, q, N, bs, bm, sn, sub, ab, col, dd, k0, k1, k2, k3, k5, l, r⟩
def exB (K : Frag) (B C : Addr) : Bool := decide (exmOne K (.ref C) (.ref B) = some true)
abbrev veT : List Value := [.type "ValueError", .type "Exception", .type "BaseException", .type "object"]
end SB
namespace SB
open PySem L2 GxR GA RZ
/-! ### defs that may raise -/
structure ClX (P : Program) (w : World) (K : PySem.W.Frag) (mg : Str → Option Value) (base : Heap) (k : Nat) (x : Str) (ps : List Str) (sp : Sp) : Prop where
  ex : ∃ (f : Addr) (fd : FuncData), FnOk P w K mg base (L2.CX P w) k f fd ps sp ∧ mg x = some (.ref f) ∧ PySem.W.keepIn K (.ref f) = true ∧ Binds K fd ps [] ∧ ∃ (oc : Value) (od : Option Addr) (osl : Array (Option Value)), K.lookup f = some ⟨oc, od, .func fd, osl⟩
theorem pe_clX {X : Cx} {W : WX} {k : Nat} {x : Str} {ps : List Str} {sp : Sp} {p pos : Pos} {e : Expr} {es : List Expr} {t : TA} (c : ClX X.prog X.w X.K X.mg X.base k x ps sp) (tk : Takes X W) (hr : Room k X.A) (ha : PA X (e :: es) t) (hg : Gl X x := by rfl) (hdb : (x == ("__debug__" : Str)) = false := by decide)
    (he : starEach (e :: es) X.env = (false, eval e X.env) :: starEach es X.env := by rfl) (hpl : (backTo pos (starEach es X.env)).any (·.1) = false := by rfl) :
    PE X (.Call (.Name x p) (e :: es) [] pos) (tCallS sp (WE W) t) := by
  obtain ⟨f, fd, F, hm, hk, hb, _⟩ := c.ex
  exact pe_callS F hr hg hm hk hb (fun σ => passAt tk σ) ha hdb he hpl
theorem Df.clX {P : Program} {w : World} {K : PySem.W.Frag} {mg : Str → Option Value} {base : Heap} {k : Nat} {x : Str} {st : Stmt} {ps : List Str} {sp : Sp} (D : Df K mg x st)
    (hb : ∀ (kV doc pm : Value) (an : Option Addr) (cdv ct : Value) (us : List Value), us.length = ps.length → bindArgs (PySem.W.fnOf x x (defArgs st) (defBody st) (defScope st) .none kV doc pm an cdv ct) ⟨us, []⟩ = pure (ps.zip us))
    (h : ∀ f fd, Fun K x x st f fd → FnOk P w K mg base (L2.CX P w) k f fd ps sp) : ClX P w K mg base k x ps sp := by
  obtain ⟨f, fd, F, m⟩ := D.ex
  obtain ⟨oc, od, kV, doc, pm, an, cdv, ct, osl, e, lk, hcd⟩ := F.ex
  exact ⟨f, fd, h f fd F, m, F.kp, F.binds hb, oc, od, osl, lk⟩
theorem DfT.clX {P : Program} {w : World} {K : PySem.W.Frag} {mg : Str → Option Value} {base : Heap} {k : Nat} {x : Str} {st : Stmt} {ps : List Str} {sp : Sp} {c : Addr} (D : DfT K mg x st c)
    (hb : ∀ (kV doc pm : Value) (an : Option Addr) (cdv ct : Value) (us : List Value), us.length = ps.length → bindArgs (PySem.W.fnOf x x (defArgs st) (defBody st) (defScope st) .none kV doc pm an cdv ct) ⟨us, []⟩ = pure (ps.zip us))
    (h : ∀ f fd, FunT K x st f fd c → FnOk P w K mg base (L2.CX P w) k f fd ps sp) : ClX P w K mg base k x ps sp := by
  obtain ⟨f, fd, F, m⟩ := D.ex
  obtain ⟨oc, od, kV, doc, pm, an, ct, osl, e, lk, hcd⟩ := F.ex
  exact ⟨f, fd, h f fd F, m, F.kp, F.fn.binds hb, oc, od, osl, lk⟩
/-- the error class x of the program, at C -/
structure ErC (K : PySem.W.Frag) (mg : Str → Option Value) (fI : Addr) (x : Str) (C : Addr) : Prop where
  txt : ErrTxt K C fI
  at' : mg x = some (.ref C)
/-- that class is raised, with that value -/
def RsE (C : Addr) (x : V) (H : Hp) (E : XK) : Prop := ∀ (d : Addr) (H' : Hp), Gr H H' → H' d = some (valD x) → E (.ref C) (some d) H'
theorem RsE.gr {C : Addr} {x : V} {H H' : Hp} {E : XK} (b : RsE C x H E) (g : Gr H H') : RsE C x H' E := fun d H2 g2 e => b d H2 (g.trans g2) e
theorem RsE.new {C : Addr} {x : V} {H : Hp} {E : XK} (b : RsE C x H E) : ∀ d, H d = none → E (.ref C) (some d) (upd H d (valD x)) := fun d hd => b d _ ((Gr.refl H).new hd _) upd_same
/-- a def that raises nothing -/
theorem fn_lift {P : Program} {w : World} {K : PySem.W.Frag} {mg : Str → Option Value} {base : Heap} {CX : CXT} {k : Nat} {f : Addr} {fd : FuncData} {ps : List Str} {sp : Sp} (F : FnOk P w K mg base CX0 k f fd ps sp) : FnOk P w K mg base CX k f fd ps sp :=
  ⟨F.len, fun A outer s H args us vs Q E hr e b r h => codeAny_mono (F.run A outer s H args us vs Q E hr e b r h) fun r s' z => by
    match r, z with
    | .error e, z => exact (show False from z).elim
    | .ok (.ret _), z => exact z
    | .ok .next, z => exact z
    | .ok .brk, z => exact z
    | .ok .cont, z => exact z⟩
theorem fn_orX {P : Program} {w : World} {K : PySem.W.Frag} {mg : Str → Option Value} {base : Heap} {CX : CXT} {k : Nat} {f : Addr} {fd : FuncData} {ps : List Str} {sp sp2 : Sp} (F : FnOk P w K mg base CX k f fd ps sp) (G : FnOk P w K mg base CX k f fd ps sp2) : FnOk P w K mg base CX k f fd ps (fun vs H Q E => sp vs H Q E ∨ sp2 vs H Q E) :=
  ⟨fun vs H Q E h => h.elim (F.len vs H Q E) (G.len vs H Q E), fun A outer s H args us vs Q E hr e b r h => h.elim (F.run A outer s H args us vs Q E hr e b r) (G.run A outer s H args us vs Q E hr e b r)⟩
/-- raising and not -/
theorem ClX.or {P : Program} {w : World} {K : PySem.W.Frag} {mg : Str → Option Value} {base : Heap} {j k n : Nat} {x : Str} {ps : List Str} {sp sp2 : Sp} (c : ClX P w K mg base j x ps sp) (c2 : Cl P w K mg base k x ps sp2) (hj : j ≤ n) (hk : k ≤ n) : ClX P w K mg base n x ps (fun vs H Q E => sp vs H Q E ∨ sp2 vs H Q E) := by
  obtain ⟨f, fd, F, m, kp, b, oc, od, osl, lk⟩ := c.ex
  obtain ⟨fd2, G, oc2, od2, osl2, lk2⟩ := c2.lk f m
  rw [lk] at lk2
  cases lk2
  exact ⟨f, fd, fn_orX (F.mono hj) (fn_lift (G.mono hk)), m, kp, b, oc, od, osl, lk⟩
theorem ClX.or2 {P : Program} {w : World} {K : PySem.W.Frag} {mg : Str → Option Value} {base : Heap} {j k n : Nat} {x : Str} {ps : List Str} {sp sp2 : Sp} (c : ClX P w K mg base j x ps sp) (c2 : ClX P w K mg base k x ps sp2) (hj : j ≤ n) (hk : k ≤ n) : ClX P w K mg base n x ps (fun vs H Q E => sp vs H Q E ∨ sp2 vs H Q E) := by
  obtain ⟨f, fd, F, m, kp, b, oc, od, osl, lk⟩ := c.ex
  obtain ⟨f2, fd2, G, m2, kp2, b2, oc2, od2, osl2, lk2⟩ := c2.ex
  rw [m] at m2
  cases m2
  rw [lk] at lk2
  cases lk2
  exact ⟨f, fd, fn_orX (F.mono hj) (G.mono hk), m, kp, b, oc, od, osl, lk⟩
theorem ClX.imp {P : Program} {w : World} {K : PySem.W.Frag} {mg : Str → Option Value} {base : Heap} {k : Nat} {x : Str} {ps : List Str} {sp sp2 : Sp} (c : ClX P w K mg base k x ps sp) (i : ∀ vs H Q E, sp2 vs H Q E → sp vs H Q E) : ClX P w K mg base k x ps sp2 := by
  obtain ⟨f, fd, F, r⟩ := c.ex
  exact ⟨f, fd, fn_imp F i, r⟩
theorem ClX.mono {P : Program} {w : World} {K : PySem.W.Frag} {mg : Str → Option Value} {base : Heap} {j k : Nat} {x : Str} {ps : List Str} {sp : Sp} (c : ClX P w K mg base j x ps sp) (h : j ≤ k) : ClX P w K mg base k x ps sp := by
  obtain ⟨f, fd, F, r⟩ := c.ex
  exact ⟨f, fd, F.mono h, r⟩
/-- a call by names alone -/
structure ClKX (P : Program) (w : World) (K : PySem.W.Frag) (mg : Str → Option Value) (base : Heap) (k : Nat) (x : Str) (ps ks : List Str) (g : List Value → List Value → List Value) (gV : List V → List V → List V) (sp : Sp) : Prop where
  ex : ∃ (f : Addr) (fd : FuncData), FnOk P w K mg base (L2.CX P w) k f fd ps sp ∧ mg x = some (.ref f) ∧ PySem.W.keepIn K (.ref f) = true ∧ KBinds K fd ps ks g gV
theorem clKX_of {P : Program} {w : World} {K : PySem.W.Frag} {mg : Str → Option Value} {base : Heap} {k : Nat} {x : Str} {st : Stmt} {sp : Sp} {ps ks : List Str} {g : List Value → List Value → List Value} {gV : List V → List V → List V} (C : ClX P w K mg base k x ps sp) (D : Df K mg x st)
    (hb : ∀ (kV doc pm : Value) (an : Option Addr) (cdv ct : Value), KBinds K (PySem.W.fnOf x x (defArgs st) (defBody st) (defScope st) .none kV doc pm an cdv ct) ps ks g gV) : ClKX P w K mg base k x ps ks g gV sp := by
  obtain ⟨f, fd, F, m⟩ := D.ex
  obtain ⟨oc, od, kV, doc, pm, an, cdv, ct, osl, rfl, lk, hcd⟩ := F.ex
  obtain ⟨f2, fd2, G, m2, kp, b, oc2, od2, osl2, lk2⟩ := C.ex
  rw [m] at m2
  cases m2
  rw [lk] at lk2
  cases lk2
  exact ⟨f, _, G, m, F.kp, hb kV doc pm an cdv ct⟩
def tCallKX (sp : Sp) (E : L2.St → XK) (gV : List V → List V → List V) (tk : TA) : TE := fun σ H Q => tk σ H fun zs H2 => sp (gV [] zs) H2 Q (E σ)
theorem pe_clKX {X : Cx} {W : WX} {k : Nat} {x : Str} {ps ks : List Str} {g : List Value → List Value → List Value} {gV : List V → List V → List V} {sp : Sp} {p pos : Pos} {kws : List Keyword} {tk : TA} (c : ClKX X.prog X.w X.K X.mg X.base k x ps ks g gV sp) (tw : Takes X W) (hr : Room k X.A) (hkw : PK X kws tk) (hg : Gl X x := by rfl)
    (hall : (backToKw pos (keywordEach kws X.env)).all (·.1.isSome) = true := by rfl) (hks : (backToKw pos (keywordEach kws X.env)).filterMap (·.1) = ks := by rfl) (hdb : (x == ("__debug__" : Str)) = false := by decide)
    (hpl : ((backTo pos (starEach [] X.env)).any (·.1) || (backToKw pos (keywordEach kws X.env)).any (·.1.isNone)) = false := by rfl) : PE X (.Call (.Name x p) [] kws pos) (tCallKX sp (WE W) gV tk) := by
  obtain ⟨f, fd, F, hm, hk, hb⟩ := c.ex
  refine ⟨fun pins s σ H Q I h => ?_⟩
  refine wpAny_Call_Name_kw (ld_glob I hg hm ?_ hdb)
  refine PySem.W.callWith_KW0 (h₀ := X.base) I.ok.mod.kin hk hall (thn (hkw.run pos pins s σ H _ I h) fun ws s2 ⟨zs, H2, I2, rz, q2⟩ => ⟨I2.kIn, ?_⟩) hpl
  rw [hks]
  have r2 : Vals (gV [] zs) (g [] ws) := hb.rel .nil rz
  have hl : (g [] ws).length = ps.length := by rw [← r2.length]; exact F.len _ _ _ _ q2
  refine wpAny_call (codeAny_mono (F.run X.A X.stack s2 H2 ⟨[], ks.zip ws⟩ (g [] ws) (gV [] zs) Q (WE W σ) hr I2.env0 (hb.to s2 [] ws I2.kIn hl) r2 q2) fun r s' hq => ?_)
  match r, hq with
  | .error e, hq => exact passAt tw σ pins H2 s2 e s' I2 hq
  | .ok (.ret u), hq => exact I2.after hq
  | .ok .next, hq => exact hq.elim
  | .ok .brk, hq => exact hq.elim
  | .ok .cont, hq => exact hq.elim
end SB
namespace SB
open PySem PySem.Spec PyProof.Rows L2 GxR GA RZ
/-! ### defs that may raise -/
structure ClXN (P : Program) (w : World) (K : PySem.W.Frag) (mg : Str → Option Value) (base : Heap) (k : Nat) (x : Str) (ps : List Str) (sp : Sp) : Prop where
  ex : ∃ (f : Addr) (fd : FuncData), FnOk P w K mg base (L2N.CX P w) k f fd ps sp ∧ mg x = some (.ref f) ∧ PySem.W.keepIn K (.ref f) = true ∧ Binds K fd ps [] ∧ ∃ (oc : Value) (od : Option Addr) (osl : Array (Option Value)), K.lookup f = some ⟨oc, od, .func fd, osl⟩
theorem pe_clXN {X : Cx} {W : WX} {k : Nat} {x : Str} {ps : List Str} {sp : Sp} {p pos : Pos} {e : Expr} {es : List Expr} {t : TA} (c : ClXN X.prog X.w X.K X.mg X.base k x ps sp) (tk : L2N.Takes X W) (hr : Room k X.A) (ha : PA X (e :: es) t) (hg : Gl X x := by rfl) (hdb : (x == ("__debug__" : Str)) = false := by decide)
    (he : starEach (e :: es) X.env = (false, eval e X.env) :: starEach es X.env := by rfl) (hpl : (backTo pos (starEach es X.env)).any (·.1) = false := by rfl) :
    PE X (.Call (.Name x p) (e :: es) [] pos) (tCallS sp (WE W) t) := by
  obtain ⟨f, fd, F, hm, hk, hb, _⟩ := c.ex
  exact pe_callS F hr hg hm hk hb (fun σ => L2N.passAt tk σ) ha hdb he hpl
theorem Df.clXN {P : Program} {w : World} {K : PySem.W.Frag} {mg : Str → Option Value} {base : Heap} {k : Nat} {x : Str} {st : Stmt} {ps : List Str} {sp : Sp} (D : Df K mg x st)
    (hb : ∀ (kV doc pm : Value) (an : Option Addr) (cdv ct : Value) (us : List Value), us.length = ps.length → bindArgs (PySem.W.fnOf x x (defArgs st) (defBody st) (defScope st) .none kV doc pm an cdv ct) ⟨us, []⟩ = pure (ps.zip us))
    (h : ∀ f fd, Fun K x x st f fd → FnOk P w K mg base (L2N.CX P w) k f fd ps sp) : ClXN P w K mg base k x ps sp := by
  obtain ⟨f, fd, F, m⟩ := D.ex
  obtain ⟨oc, od, kV, doc, pm, an, cdv, ct, osl, e, lk, hcd⟩ := F.ex
  exact ⟨f, fd, h f fd F, m, F.kp, F.binds hb, oc, od, osl, lk⟩
theorem DfT.clXN {P : Program} {w : World} {K : PySem.W.Frag} {mg : Str → Option Value} {base : Heap} {k : Nat} {x : Str} {st : Stmt} {ps : List Str} {sp : Sp} {c : Addr} (D : DfT K mg x st c)
    (hb : ∀ (kV doc pm : Value) (an : Option Addr) (cdv ct : Value) (us : List Value), us.length = ps.length → bindArgs (PySem.W.fnOf x x (defArgs st) (defBody st) (defScope st) .none kV doc pm an cdv ct) ⟨us, []⟩ = pure (ps.zip us))
    (h : ∀ f fd, FunT K x st f fd c → FnOk P w K mg base (L2N.CX P w) k f fd ps sp) : ClXN P w K mg base k x ps sp := by
  obtain ⟨f, fd, F, m⟩ := D.ex
  obtain ⟨oc, od, kV, doc, pm, an, ct, osl, e, lk, hcd⟩ := F.ex
  exact ⟨f, fd, h f fd F, m, F.kp, F.fn.binds hb, oc, od, osl, lk⟩
/-- as Fun.okX, contexts kept -/
theorem okXN {P : Program} {w : World} {K : PySem.W.Frag} {mg : Str → Option Value} {base : Heap} {x qual : Str} {st : Stmt} {f : Addr} {fd : FuncData} {N ps : List Str} {k : Nat} {sp : Sp} (F : Fun K x qual st f fd) (S : FnScope N ps (defScope st)) (len : ∀ vs H Q E, sp vs H Q E → vs.length = ps.length)
    (hbody : ∀ (cdv : Value) (A : Around) (outer : List Env) (s : Shared) (H : Hp) (vs : List V) (Q : VK) (E : XK), Room k (A.deeper (envOfC qual (defScope st) s.heap.objs.size f cdv)) → sp vs H Q E →
      ∃ t, PSs (cxOf (L2N.CX P w) P w K mg base N qual (defScope st) f cdv A outer s H E) (defBody st) t ∧ t { nx := fun _ H' => Q .non H', rt := Q } (start N vs) H) : FnOk P w K mg base (L2N.CX P w) (k + 1) f fd ps sp := by
  obtain ⟨oc, od, kV, doc, pm, an, cdv, ct, osl, rfl, lk, hcd⟩ := F.ex
  exact fn_of lk hcd S len fun A outer s H vs Q E hr hsp => hbody cdv A outer s H vs Q E hr hsp
/-- raising and not -/
theorem ClXN.or {P : Program} {w : World} {K : PySem.W.Frag} {mg : Str → Option Value} {base : Heap} {j k n : Nat} {x : Str} {ps : List Str} {sp sp2 : Sp} (c : ClXN P w K mg base j x ps sp) (c2 : Cl P w K mg base k x ps sp2) (hj : j ≤ n) (hk : k ≤ n) : ClXN P w K mg base n x ps (fun vs H Q E => sp vs H Q E ∨ sp2 vs H Q E) := by
  obtain ⟨f, fd, F, m, kp, b, oc, od, osl, lk⟩ := c.ex
  obtain ⟨fd2, G, oc2, od2, osl2, lk2⟩ := c2.lk f m
  rw [lk] at lk2
  cases lk2
  exact ⟨f, fd, fn_orX (F.mono hj) (fn_lift (G.mono hk)), m, kp, b, oc, od, osl, lk⟩
theorem ClXN.or2 {P : Program} {w : World} {K : PySem.W.Frag} {mg : Str → Option Value} {base : Heap} {j k n : Nat} {x : Str} {ps : List Str} {sp sp2 : Sp} (c : ClXN P w K mg base j x ps sp) (c2 : ClXN P w K mg base k x ps sp2) (hj : j ≤ n) (hk : k ≤ n) : ClXN P w K mg base n x ps (fun vs H Q E => sp vs H Q E ∨ sp2 vs H Q E) := by
  obtain ⟨f, fd, F, m, kp, b, oc, od, osl, lk⟩ := c.ex
  obtain ⟨f2, fd2, G, m2, kp2, b2, oc2, od2, osl2, lk2⟩ := c2.ex
  rw [m] at m2
  cases m2
  rw [lk] at lk2
  cases lk2
  exact ⟨f, fd, fn_orX (F.mono hj) (G.mono hk), m, kp, b, oc, od, osl, lk⟩
theorem ClXN.imp {P : Program} {w : World} {K : PySem.W.Frag} {mg : Str → Option Value} {base : Heap} {k : Nat} {x : Str} {ps : List Str} {sp sp2 : Sp} (c : ClXN P w K mg base k x ps sp) (i : ∀ vs H Q E, sp2 vs H Q E → sp vs H Q E) : ClXN P w K mg base k x ps sp2 := by
  obtain ⟨f, fd, F, r⟩ := c.ex
  exact ⟨f, fd, fn_imp F i, r⟩
theorem ClXN.mono {P : Program} {w : World} {K : PySem.W.Frag} {mg : Str → Option Value} {base : Heap} {j k : Nat} {x : Str} {ps : List Str} {sp : Sp} (c : ClXN P w K mg base j x ps sp) (h : j ≤ k) : ClXN P w K mg base k x ps sp := by
  obtain ⟨f, fd, F, r⟩ := c.ex
  exact ⟨f, fd, F.mono h, r⟩
/-- a call by names alone -/
structure ClKXN (P : Program) (w : World) (K : PySem.W.Frag) (mg : Str → Option Value) (base : Heap) (k : Nat) (x : Str) (ps ks : List Str) (g : List Value → List Value → List Value) (gV : List V → List V → List V) (sp : Sp) : Prop where
  ex : ∃ (f : Addr) (fd : FuncData), FnOk P w K mg base (L2N.CX P w) k f fd ps sp ∧ mg x = some (.ref f) ∧ PySem.W.keepIn K (.ref f) = true ∧ KBinds K fd ps ks g gV
theorem clKXN_of {P : Program} {w : World} {K : PySem.W.Frag} {mg : Str → Option Value} {base : Heap} {k : Nat} {x : Str} {st : Stmt} {sp : Sp} {ps ks : List Str} {g : List Value → List Value → List Value} {gV : List V → List V → List V} (C : ClXN P w K mg base k x ps sp) (D : Df K mg x st)
    (hb : ∀ (kV doc pm : Value) (an : Option Addr) (cdv ct : Value), KBinds K (PySem.W.fnOf x x (defArgs st) (defBody st) (defScope st) .none kV doc pm an cdv ct) ps ks g gV) : ClKXN P w K mg base k x ps ks g gV sp := by
  obtain ⟨f, fd, F, m⟩ := D.ex
  obtain ⟨oc, od, kV, doc, pm, an, cdv, ct, osl, rfl, lk, hcd⟩ := F.ex
  obtain ⟨f2, fd2, G, m2, kp, b, oc2, od2, osl2, lk2⟩ := C.ex
  rw [m] at m2
  cases m2
  rw [lk] at lk2
  cases lk2
  exact ⟨f, _, G, m, F.kp, hb kV doc pm an cdv ct⟩
theorem pe_clKXN {X : Cx} {W : WX} {k : Nat} {x : Str} {ps ks : List Str} {g : List Value → List Value → List Value} {gV : List V → List V → List V} {sp : Sp} {p pos : Pos} {kws : List Keyword} {tk : TA} (c : ClKXN X.prog X.w X.K X.mg X.base k x ps ks g gV sp) (tw : L2N.Takes X W) (hr : Room k X.A) (hkw : PK X kws tk) (hg : Gl X x := by rfl)
    (hall : (backToKw pos (keywordEach kws X.env)).all (·.1.isSome) = true := by rfl) (hks : (backToKw pos (keywordEach kws X.env)).filterMap (·.1) = ks := by rfl) (hdb : (x == ("__debug__" : Str)) = false := by decide)
    (hpl : ((backTo pos (starEach [] X.env)).any (·.1) || (backToKw pos (keywordEach kws X.env)).any (·.1.isNone)) = false := by rfl) : PE X (.Call (.Name x p) [] kws pos) (tCallKX sp (WE W) gV tk) := by
  obtain ⟨f, fd, F, hm, hk, hb⟩ := c.ex
  refine ⟨fun pins s σ H Q I h => ?_⟩
  refine wpAny_Call_Name_kw (ld_glob I hg hm ?_ hdb)
  refine PySem.W.callWith_KW0 (h₀ := X.base) I.ok.mod.kin hk hall (thn (hkw.run pos pins s σ H _ I h) fun ws s2 ⟨zs, H2, I2, rz, q2⟩ => ⟨I2.kIn, ?_⟩) hpl
  rw [hks]
  have r2 : Vals (gV [] zs) (g [] ws) := hb.rel .nil rz
  have hl : (g [] ws).length = ps.length := by rw [← r2.length]; exact F.len _ _ _ _ q2
  refine wpAny_call (codeAny_mono (F.run X.A X.stack s2 H2 ⟨[], ks.zip ws⟩ (g [] ws) (gV [] zs) Q (WE W σ) hr I2.env0 (hb.to s2 [] ws I2.kIn hl) r2 q2) fun r s' hq => ?_)
  match r, hq with
  | .error e, hq => exact L2N.passAt tw σ pins H2 s2 e s' I2 hq
  | .ok (.ret u), hq => exact I2.after hq
  | .ok .next, hq => exact hq.elim
  | .ok .brk, hq => exact hq.elim
  | .ok .cont, hq => exact hq.elim
end SB
namespace SB
open PySem PySem.Spec PyProof.Rows L2
/-! ### several clauses, each with a name -/
/-- how a suite ends: slot i is none behind it -/
def endN (D : Ends) (i : Nat) : Ends := { nx := fun σ6 H6 => D.nx (σ6.set i none) H6, rt := D.rt, bk := fun σ6 H6 => D.bk (σ6.set i none) H6, ct := fun σ6 H6 => D.ct (σ6.set i none) H6 }
/-- the clauses' wishes: slot i holds the error while a suite runs -/
def wNamed (K : PySem.W.Frag) (i : Nat) (Wo : WX) (D : Ends) : List (Value × (Addr → Value → Option Addr → TS)) → WX
  | [] => Wo
  | (c, ts) :: r => fun cls d σ H => ∃ b, PySem.W.exmOne K cls c = some b ∧ (b = true → ∀ a, H a = none → ts a cls d (endN D i) (σ.set i (some (.ref a))) H) ∧ (b = false → wNamed K i Wo D r cls d σ H)
inductive ClOk (X : Cx) (n : Str) : List ExceptHandler → List (Value × (Addr → Value → Option Addr → TS)) → Prop
  | nil : ClOk X n [] []
  | cons {x : Str} {c : Value} {ts : Addr → Value → Option Addr → TS} {b₀ : Stmt} {suite : List Stmt} {np pos' : Pos} {hds : List ExceptHandler} {l : List (Value × (Addr → Value → Option Addr → TS))} (nm : Names X x c)
      (su : ∀ (a : Addr) (oe : Obj) (cls : Value) (d : Option Addr) (pn : List (Addr × Obj)), Zc cls d oe → (∃ vs, oe.data = .fields vs) → PSs (X.suite a ((a, oe) :: pn)) (b₀ :: suite) (ts a cls d)) (r : ClOk X n hds l) :
      ClOk X n (.ExceptHandler (some (.Name x np)) (some n) (b₀ :: suite) pos' :: hds) ((c, ts) :: l)
section
variable {X : Cx} {n : Str} {i : Nat} {body : List Stmt} {h₀ : ExceptHandler} {hds : List ExceptHandler} {l : List (Value × (Addr → Value → Option Addr → TS))} {pos : Pos} {tb : WX → TS} {Wo : WX}
theorem ps_try_named (hs : X.stack = X.env :: X.outer) (hf : X.env.frame = some X.env.locals) (hN : X.N.Nodup) (hi : X.N[i]? = some n) (hln : X.env.kindOf n = some .local) (tk : Takes X Wo)
    (hb : ∀ (W : WX) (pn : List (Addr × Obj)) (xe : Value → Shared → Prop), Takes (X.tr pn xe) W → PassesOwn (model X.prog X.w) X.A X.env xe → PSs (X.tr pn xe) body (tb W))
    (hh : ClOk X n (h₀ :: hds) l) : PS X (.Try body (h₀ :: hds) [] [] pos) (fun D σ H => tb (wNamed X.K i Wo D l) D σ H) := by
  refine ⟨fun pins s σ H D I h => ?_⟩
  have ok := I.ok
  have hfr : X.A.frames = some (X.env :: X.outer) := by rw [ok.frames, hs]
  refine wpAny_Try_except ?_
  refine wpAny_mono ((hb (wNamed X.K i Wo D l) (X.pn ++ pins) (fun e s₁ => wpAny (model X.prog X.w) X.A (noteFrame e X.env) (fun _ s₂ => wpAny (model X.prog X.w) X.A (setFlight e none) (fun _ s₃ =>
    wpAny (model X.prog X.w) X.A (handleBy e X.env (h₀ :: hds)) (SP X pins D) X.xe s₃) X.xe s₂) X.xe s₁) (fun u s' xx => ?_) PassesOwn.looking).run [] s σ H D (I.toTry _) h) (fun f s1 hsp => ?_) (fun e s1 he => he)
  · obtain ⟨a, B, sI, pins', σ', H', cls, d, rfl, J', nb, up, sky, na, os, ag, w⟩ := xx
    have J : Inv X pins σ' H' sI := J'.ofTry ok
    have sky' : Sky B (X.env :: X.outer) a (Zc cls d) X.env.locals s'.heap := by rw [← hs]; exact sky
    show wpAny (model X.prog X.w) X.A (noteFrame (.ref a) X.env) _ _ _
    refine Sky.land Zc.steady hfr hf sky' fun h3 fl3 up3 => ?_
    have J3 : Inv X pins σ' H' { s' with heap := h3 } := J.landed nb fl3.1 (up.trans up3) os ag
    obtain ⟨oe3, vs3, he3, hz3, hd3⟩ := fl3.there
    have nfr : a ∉ frs (X.env :: X.outer) := fun hm => by
      obtain ⟨_, o', e', hnf⟩ := fl3.2.2.1.mem hm
      rw [he3] at e'; cases e'
      exact hnf _ hd3
    have nL : a ≠ X.env.locals := fun z => nfr (List.mem_filterMap.mpr ⟨X.env, List.mem_cons_self, by rw [hf, z]⟩)
    have nF : a ∉ X.fs := fun hm => by
      obtain ⟨e, he, q⟩ := List.mem_filterMap.mp hm
      exact nfr (List.mem_filterMap.mpr ⟨e, List.mem_cons_of_mem _ he, q⟩)
    have S3 := J3.suite he3 hd3 na nL nF
    have go : ∀ {hds' : List ExceptHandler} {l' : List (Value × (Addr → Value → Option Addr → TS))}, ClOk X n hds' l' → wNamed X.K i Wo D l' cls d σ' H' →
        wpAny (model X.prog X.w) X.A (handleBy (.ref a) X.env hds') (SP X pins D) X.xe { s' with heap := h3 } := by
      intro hds' l' hk
      induction hk with
      | nil =>
        intro w
        refine wpAny_handleBy_nil ?_
        obtain ⟨k1, k2, k3, oe, vs, T, oT, ts', he, hz, hd, h1, hr⟩ := id fl3
        unfold PySem.passOn
        refine wpAny_bind (wpAny_field he hd h1 ?_)
        rw [if_neg (show ¬ ((Value.ref T == Value.none) = true) from by simp)]
        have fin : wpAny (model X.prog X.w) X.A (setFlight (.ref a) X.env.frame) (fun _ s4 => wpAny (model X.prog X.w) X.A (throw (.ref a) : Sem Flow) (SP X pins D) X.xe s4) X.xe { s' with heap := h3 } := by
          rw [hf]
          refine HandSPX.setFlight_upZ fl3 fun h4 hh4 up4 => wpAny_throw (tk _ _ ?_)
          exact ⟨a, B, sI, pins, σ', H', cls, d, rfl, J, nb, (up.trans up3).trans up4, .inr (.inr (by rw [hs]; exact hh4)), na, os, ag, w⟩
        first
          | exact wpAny_bind (wpAny_pure (wpAny_bind fin))
          | exact wpAny_bind fin
      | @cons x c ts b₀ suite np pos' hds2 l2 nm su r ih =>
        intro w
        obtain ⟨b, hb1, hyes, hno⟩ := w
        refine wpAny_handleBy_cons (codeAny_handlers_test ?_) (by intro q; cases q)
        have LT : PySem.W.Looks (model X.prog X.w) h3 (typeOf (.ref a)) cls := fun A Q E s k q => wpAny_typeOf_ref (k _ _ he3) (by rw [hz3.1]; exact q)
        have LM := PySem.W.exm_one (M := model X.prog X.w) (J3.kIn) LT hb1
        have test : ∀ {Q : Value → Shared → Prop} {E : Value → Shared → Prop}, Q c { s' with heap := h3 } → wpAny (model X.prog X.w) (X.A.mark (some (.ref a))) (eval (.Name x np) X.env) Q E { s' with heap := h3 } := fun {Q E} q => by
          obtain ⟨hg, hdbg, hm | ⟨hm, hv, hnn⟩⟩ := nm
          · exact ld_glob (X := X.suite a ((a, oe3) :: (X.pn ++ pins))) S3 hg hm q hdbg
          · exact ld_blt (X := X.suite a ((a, oe3) :: (X.pn ++ pins))) S3 hg hm hv q hnn hdbg
        refine test (LM.here ?_)
        cases b with
        | true =>
          refine codeAny_handlers_suite_as ?_
          refine HandSPX.lands_againZ fl3 fun h4 fl4 up4 => ?_
          have J4 : Inv X pins σ' H' { s' with heap := h4 } := J.landed nb fl4.1 ((up.trans up3).trans up4) os ag
          obtain ⟨oe4, vs4, he4, hz4, hd4⟩ := fl4.there
          have S4 := J4.suite he4 hd4 na nL nF
          refine store_ok (X := X.suite a ((a, oe4) :: (X.pn ++ pins))) (v := .ref a) S4 hN hi (.inl hln) rfl (fun s5 S5 => ?_) (.inr hln)
          refine wpAny_mono ((su a oe4 cls d (X.pn ++ pins) hz4 ⟨_, hd4⟩).run [] s5 _ H' _ S5 (hyes rfl a na)) (fun f s6 hsp => ?_) (fun _ _ z => False.elim z)
          have end_ : ∀ {σ6 : L2.St} {H6 : Hp} {Q : Shared → Prop}, Inv (X.suite a ((a, oe4) :: (X.pn ++ pins))) [] σ6 H6 s6 → (∀ s7, Inv X pins (σ6.set i none) H6 s7 → Q s7) →
              wpAny (model X.prog X.w) X.A (do bindName X.env n .none; unbindBehindTheSuite X.env n pos') (fun _ s7 => Q s7) X.xe s6 := fun {σ6 H6 Q} S6 hq => gone_ok (S6.unsuite ok) hN hi hln hq
          cases f with
          | next =>
            obtain ⟨σ6, H6, S6, q6⟩ := hsp
            exact end_ S6 fun s7 J7 => ⟨_, _, J7, q6⟩
          | brk =>
            obtain ⟨σ6, H6, S6, q6⟩ := hsp
            exact end_ S6 fun s7 J7 => ⟨_, _, J7, q6⟩
          | cont =>
            obtain ⟨σ6, H6, S6, q6⟩ := hsp
            exact end_ S6 fun s7 J7 => ⟨_, _, J7, q6⟩
          | ret u =>
            obtain ⟨v6, σ6, H6, S6, r6, q6⟩ := hsp
            exact end_ S6 fun s7 J7 => ⟨_, _, _, J7, r6, q6⟩
        | false =>
          show wpAny _ X.A (handleBy (.ref a) X.env hds2) _ _ _
          exact ih (hno rfl)
    exact go hh w
  · cases f with
    | next =>
      obtain ⟨σ', H', J', q⟩ := hsp
      exact wpAny_execs_nil ⟨σ', H', J'.ofTry ok, q⟩
    | brk =>
      obtain ⟨σ', H', J', q⟩ := hsp
      exact ⟨σ', H', J'.ofTry ok, q⟩
    | cont =>
      obtain ⟨σ', H', J', q⟩ := hsp
      exact ⟨σ', H', J'.ofTry ok, q⟩
    | ret u =>
      obtain ⟨v, σ', H', J', r, q⟩ := hsp
      exact ⟨v, σ', H', J'.ofTry ok, r, q⟩
end
/-- e.value, e the error that the suite holds -/
def tErrS (K : PySem.W.Frag) (fI : Addr) (a : Addr) (cls : Value) (d : Option Addr) (te : TE) : TE := fun σ H Q => te σ H fun x H1 => x = .ref a ∧ ∃ (C dd : Addr) (v : V), cls = .ref C ∧ ErrTxt K C fI ∧ d = some dd ∧ H1 dd = some (valD v) ∧ Q v H1
theorem pe_errS {X : Cx} {fI a : Addr} {oe : Obj} {cls : Value} {d : Option Addr} {pn : List (Addr × Obj)} {e : Expr} {te : TE} {pos : Pos} (hz : Zc cls d oe) (hf : ∃ vs, oe.data = .fields vs) (he : PE (X.suite a ((a, oe) :: pn)) e te)
    (hb : attributeBase e "value" X.env (eval e X.env) = eval e X.env := by rfl) : PE (X.suite a ((a, oe) :: pn)) (.Attribute e "value" pos) (tErrS X.K fI a cls d te) := by
  refine ⟨fun pins s σ H Q I h => ?_⟩
  refine attr_of hb (thn (he.run pins s σ H _ I h) fun u s1 hh => ?_)
  obtain ⟨x, H1, I1, rx, ex, C, dd, v, rfl, T, rfl, ea, q⟩ := hh
  subst ex
  obtain rfl : u = Value.ref a := rx
  obtain ⟨ha, _⟩ := I1.pin (a, oe) (List.mem_append_left _ List.mem_cons_self)
  obtain ⟨vs, hd⟩ := hf
  have hx : ObjOk X.prog X.w H1 s1.heap dd (valD v) := I1.hok dd _ ea
  obtain ⟨mA, hns, hr⟩ := hx
  obtain ⟨od, ho, hl⟩ := lookIn_ns hns
  have l : List.lookup ("value" : Str) [(("value" : Str), v)] = some v := by simp [List.lookup]
  obtain ⟨u, hu, ru⟩ := RelO.some_of (v := v) (o := mA "value") (by rw [← l]; exact hr "value")
  have J : PySem.W.InstAt s1.heap a oe C (some od) := ⟨ha, hz.1, by unfold PySem.W.notCls; rw [hd] <;> rfl, by rw [hz.2]; exact ho⟩
  exact HandSPX.exc_get I1.kIn J T.ga T.gg T.exC (PySem.W.findObj_own T.hdC T.noN rfl (by rw [hl, hu])) (handed_of ru) ⟨v, H1, I1.tok _, ru, q⟩
end SB
namespace SB
open PySem PySem.NumText L2 GxR GA RZ RP TL
/-! ### an integer in any text -/
def dsOf (l : List Nat) : List Nat := if pre [45] l then l.drop 1 else l
def digN (c : Nat) : Bool := decide (48 ≤ c) && decide (c ≤ 57)
def okI (l : List Nat) : Bool := (decide (dsOf l ≠ []) && (dsOf l).all digN) && (decide ((dsOf l).length ≤ 9) && !(pre [48] (dsOf l) && decide (l ≠ [48])))
/-- what integer_in tells of a text -/
def intW (w : Str) : Option Int := if okI (tl w) then intText? w else none
theorem digits_lt : ∀ (l : List Nat), (∀ c ∈ l, 48 ≤ c ∧ c ≤ 57) → ∀ a : Nat, l.foldl (fun a c => a * 10 + (c - 48)) a + 1 ≤ (a + 1) * 10 ^ l.length
  | [], _, a => by simp
  | c :: l, h, a => by
    have i := digits_lt l (fun d hd => h d (List.mem_cons_of_mem _ hd)) (a * 10 + (c - 48))
    have hc := h c List.mem_cons_self
    rw [List.foldl_cons, List.length_cons, Nat.pow_succ]
    have : (a * 10 + (c - 48) + 1) * 10 ^ l.length ≤ ((a + 1) * 10) * 10 ^ l.length := Nat.mul_le_mul_right _ (by omega)
    have e : (a + 1) * 10 * 10 ^ l.length = (a + 1) * (10 ^ l.length * 10) := by
      rw [Nat.mul_assoc, Nat.mul_comm 10]
    omega
theorem val_lt {l : List Nat} (h : ∀ c ∈ l, 48 ≤ c ∧ c ≤ 57) (n : l.length ≤ 9) : digitsVal l < 10 ^ 9 := by
  have a := digits_lt l h 0
  have b : (10 : Nat) ^ l.length ≤ 10 ^ 9 := Nat.pow_le_pow_right (by decide) n
  unfold digitsVal
  omega
theorem pre1_ex {s : Nat} {l : List Nat} (h : pre [s] l = true) : ∃ r, l = s :: r := by
  cases l with
  | nil => rw [pre1_nil] at h; cases h
  | cons c r =>
    rw [pre1] at h
    exact ⟨r, by rw [of_decide_eq_true h]⟩
structure OkI (l : List Nat) : Prop where
  ne : dsOf l ≠ []
  dg : ∀ c ∈ dsOf l, 48 ≤ c ∧ c ≤ 57
  ln : (dsOf l).length ≤ 9
  z : pre [48] (dsOf l) = true → l = [48]
theorem okI_of {l : List Nat} (h : okI l = true) : OkI l := by
  unfold okI at h
  simp only [Bool.and_eq_true, decide_eq_true_eq, Bool.not_eq_true', Bool.and_eq_false_iff, decide_eq_false_iff_not, Decidable.not_not] at h
  obtain ⟨⟨a, b⟩, c, d⟩ := h
  refine ⟨a, fun x hx => ?_, c, fun hz => ?_⟩
  · have := List.all_eq_true.mp b x hx
    unfold digN at this
    simpa using this
  · rcases d with d | d
    · rw [d] at hz; cases hz
    · exact d
theorem okI_to {l : List Nat} (h : OkI l) : okI l = true := by
  unfold okI
  simp only [Bool.and_eq_true, decide_eq_true_eq, Bool.not_eq_true', Bool.and_eq_false_iff, decide_eq_false_iff_not, Decidable.not_not]
  refine ⟨⟨h.ne, List.all_eq_true.mpr fun x hx => ?_⟩, h.ln, ?_⟩
  · have := h.dg x hx
    unfold digN
    simpa using this
  · cases e : pre [48] (dsOf l) with
    | false => exact .inl rfl
    | true => exact .inr (h.z e)
theorem okI_parse {w : Str} (h : OkI (tl w)) : ∃ z : Int, intText? w = some z ∧ z.natAbs < 10 ^ 9 ∧ w.length ≤ 10 := by
  have hl := len_tl w
  cases e : pre [45] (tl w) with
  | true =>
    obtain ⟨r, er⟩ := pre1_ex e
    have ed : dsOf (tl w) = r := by unfold dsOf; rw [e, if_pos rfl, er]; rfl
    have dg := h.dg
    have ne := h.ne
    have ln := h.ln
    rw [ed] at dg ne ln
    have l10 : w.length ≤ 10 := by rw [hl, er, List.length_cons]; omega
    refine ⟨_, intText_neg (x := w) (cs := r) er dg ne (by omega), ?_, l10⟩
    have := val_lt dg ln
    omega
  | false =>
    have ed : dsOf (tl w) = tl w := by unfold dsOf; rw [e]; rfl
    have dg := h.dg
    have ne := h.ne
    have ln := h.ln
    rw [ed] at dg ne ln
    have l10 : w.length ≤ 10 := by rw [hl]; omega
    refine ⟨_, intText_digits (x := w) dg ne (by omega), ?_, l10⟩
    have := val_lt dg ln
    show (digitsVal (tl w)) < 10 ^ 9
    exact this
theorem intW_lt {w : Str} {z : Int} (h : intW w = some z) : z.natAbs < 10 ^ 9 := by
  unfold intW at h
  cases e : okI (tl w) with
  | false => rw [e] at h; cases h
  | true =>
    rw [e, if_pos rfl] at h
    obtain ⟨z', e1, l, _⟩ := okI_parse (okI_of e)
    rw [h] at e1
    cases e1
    exact l
theorem asc_of {d : Str} : Txt.isascii d = (tl d).all fun c => decide (c < 128) := by
  unfold Txt.isascii
  rw [all_tl]
theorem isd_of {d : Str} : Txt.isdigit d = (decide (0 < d.length) && (tl d).all Unicode.isDigit) := by
  unfold Txt.isdigit
  rw [all_tl]
theorem dig128 : ∀ c < 128, Unicode.isDigit c = digN c := by decide +kernel
section
variable {P : Program} {w : World} {K : PySem.W.Frag} {mg : Str → Option Value} {base : Heap}
def spIntA : Sp := fun vs H Q _ => ∃ z : Str, vs = [.str z] ∧ z.length ≤ 1000000 ∧ Q (hopeV (intW z)) H
theorem sc_intA : FnScope ["word", "digits"] ["word"] (defScope s_integer_in) := ⟨rfl, rfl, rfl, by decide +kernel, rfl, by decide +kernel, by decide +kernel⟩
theorem cl_intA (D : Df K mg "integer_in" s_integer_in) (B : Blt mg) (MD : MostD mg) : Cl P w K mg base 1 "integer_in" ["word"] spIntA := by
  refine D.cl (fun _ _ _ _ _ _ us hl => match us, hl with | [_], _ => rfl) fun f fd F => F.ok sc_intA (fun vs H Q E h => ?_) (fun cdv A outer s H vs Q E hr h => ?_)
  · obtain ⟨z, rfl, _⟩ := h
    rfl
  obtain ⟨z, rfl, hz, q⟩ := h
  obtain ⟨t9, m9⟩ := MD.ex
  refine ⟨_, (pss_cons (ps_set (i := 1) sc_intA.nd rfl (.inl rfl) (pe_ifExp (pt_val (pe_m1 PySem.F.slot_str_startswith PySem.F.type_str_startswith mt_startswith (pv 0) pe_str)) (pe_slice sl_str (pv 0) (po_some pe_int) po_none) (pv 0)))
    (pss_cons (ps_if (PW.pt (by exact (pw_or (pt_not (pt_val (pe_m0 PySem.F.slot_str_isascii PySem.F.type_str_isascii mt_isascii (pv 1)))) (pw_or (pt_not (pt_val (pe_m0 PySem.F.slot_str_isdigit PySem.F.type_str_isdigit mt_isdigit (pv 1)))) (pw_or1 (pt_cmpR op_gt (pe_callB call_len_str rfl B.len PySem.boot_len (pa_cons (pv 1) pa_nil)) (pe_glob (v := .int 9) rfl m9 ⟨_, rfl⟩) (nomark _))))))) (pss_one (ps_ret pe_non)) pss_nil)
    (pss_cons (ps_if (PW.pt (by exact (pw_and (pt_val (pe_m1 PySem.F.slot_str_startswith PySem.F.type_str_startswith mt_startswith (pv 1) pe_str)) (pw_and1 (pt_cmpR op_ne (pv 0) pe_str (nomark _)))))) (pss_one (ps_ret pe_non)) pss_nil)
    (pss_one (ps_ret (pe_callTy call_int_str rfl B.int PyProof.Rows.boot_int (pa_cons (pv 0) pa_nil))))))), ?_⟩
  refine seq_join (fun σ' H' => ∃ d : Str, σ' = [some (.str z), some (.str d)] ∧ tl d = dsOf (tl z) ∧ d.length ≤ 1000000 ∧ H' = H) (fun σ' H1 h => ?_) (fun Kn hK => ?_)
  rotate_left
  · refine ⟨_, rfl, ⟨_, rfl⟩, _, _, rfl, rfl, _, rfl, ?_⟩
    rw [sw_pre (by rw [tl_minus]; simp), tl_minus]
    cases e : pre [45] (tl z) with
    | true =>
      refine iteT ⟨_, rfl, _, rfl, z, rfl, sz15 (by omega), ?_⟩
      refine hK _ _ ⟨_, rfl, ?_, ?_, rfl⟩
      · rw [cut1]
        unfold dsOf
        rw [e, if_pos rfl]
      · rw [len_tl, cut1, List.length_drop, ← len_tl]
        omega
    | false =>
      refine iteF ⟨_, rfl, hK _ _ ⟨z, rfl, ?_, hz, rfl⟩⟩
      unfold dsOf
      rw [e]
      rfl
  obtain ⟨d, rfl, td, ld, rfl⟩ := h
  have lt : d.length = (dsOf (tl z)).length := by rw [len_tl, td]
  have qn : okI (tl z) = false → Q .non H1 := fun h => by
    have e : intW z = none := by unfold intW; rw [h]; rfl
    rw [e] at q
    exact q
  refine ⟨_, rfl, ⟨_, rfl⟩, _, rfl, rfl, trivial, _, rfl, ?_⟩
  cases ea : Txt.isascii d with
  | false =>
    refine iteT (qn ?_)
    rw [Bool.eq_false_iff]
    intro h
    have o := okI_of h
    rw [asc_of, td] at ea
    have : (dsOf (tl z)).all (fun c => decide (c < 128)) = true := List.all_eq_true.mpr fun c hc => decide_eq_true (by have := o.dg c hc; omega)
    rw [this] at ea
    cases ea
  | true =>
    have asc : ∀ c ∈ dsOf (tl z), c < 128 := fun c hc => by
      rw [asc_of, td] at ea
      exact of_decide_eq_true (List.all_eq_true.mp ea c hc)
    refine iteF ⟨_, rfl, ⟨_, rfl⟩, _, rfl, rfl, trivial, _, rfl, ?_⟩
    have alld : (tl d).all Unicode.isDigit = (dsOf (tl z)).all digN := by
      rw [td]
      rw [Bool.eq_iff_iff, List.all_eq_true, List.all_eq_true]
      exact ⟨fun h c hc => by rw [← dig128 c (asc c hc)]; exact h c hc, fun h c hc => by rw [dig128 c (asc c hc)]; exact h c hc⟩
    cases ed : Txt.isdigit d with
    | false =>
      refine iteT (qn ?_)
      rw [Bool.eq_false_iff]
      intro h
      have o := okI_of h
      rw [isd_of, alld, lt] at ed
      have a1 : decide (0 < (dsOf (tl z)).length) = true := decide_eq_true (List.length_pos_iff.mpr o.ne)
      have a2 : (dsOf (tl z)).all digN = true := List.all_eq_true.mpr fun c hc => by
        have := o.dg c hc
        unfold digN
        simpa using this
      rw [a1, a2] at ed
      cases ed
    | true =>
      rw [isd_of, alld, lt, Bool.and_eq_true] at ed
      have ne : dsOf (tl z) ≠ [] := List.length_pos_iff.mp (of_decide_eq_true ed.1)
      have dg : ∀ c ∈ dsOf (tl z), 48 ≤ c ∧ c ≤ 57 := fun c hc => by
        have := List.all_eq_true.mp ed.2 c hc
        unfold digN at this
        simpa using this
      refine iteF ⟨_, rfl, _, rfl, sz15 (by omega), _, _, rfl, rfl, _, rfl, ?_⟩
      by_cases c9 : (9 : Int) < (d.length : Int)
      · refine iteP c9 (qn ?_)
        rw [Bool.eq_false_iff]
        intro h
        have o := (okI_of h).ln
        omega
      · refine iteN c9 ⟨_, rfl, ⟨_, rfl⟩, _, _, rfl, rfl, _, rfl, ?_⟩
        rw [sw_pre (by rw [tl_zero]; simp), tl_zero, td]
        have okq : (pre [48] (dsOf (tl z)) = true → tl z = [48]) → Q (hopeV (intW z)) H1 → ∃ zz, intText? z = some zz ∧ z.length ≤ 640 ∧ Q (.int zz) H1 := fun h q => by
          have o : OkI (tl z) := ⟨ne, dg, by omega, h⟩
          obtain ⟨zz, e1, _, e3⟩ := okI_parse o
          refine ⟨zz, e1, by omega, ?_⟩
          have e : intW z = some zz := by unfold intW; rw [okI_to o, if_pos rfl, e1]
          rw [e] at q
          exact q
        cases e0 : pre [48] (dsOf (tl z)) with
        | false =>
          obtain ⟨zz, a, b, c⟩ := okq (fun h => by rw [e0] at h; cases h) q
          exact iteF ⟨_, rfl, _, zz, rfl, a, b, c⟩
        | true =>
          refine iteT ⟨_, rfl, rfl, _, rfl, ?_⟩
          by_cases cz : z = ("0" : Str)
          · obtain ⟨zz, a, b, c⟩ := okq (fun _ => by rw [cz]; exact tl_zero) q
            subst cz
            exact iteNS rfl ⟨_, rfl, _, zz, rfl, a, b, c⟩
          · have nz : tl z ≠ [48] := fun h => cz (ext_tl (by rw [h, tl_zero]))
            rw [decide_eq_false (show ¬ V.str z = V.str "0" from fun h => cz (by injection h))]
            refine iteT (qn ?_)
            rw [Bool.eq_false_iff]
            intro h
            exact nz ((okI_of h).z e0)
end
end SB
namespace SB
open PySem PySem.NumText L2 GxR GA RZ RP TL
/-! ### the parts of a text -/
theorem spl_sum (S : List Nat) : ∀ (n k : Nat) (acc l : List Nat), l.length = n → ((spl S k acc l).map List.length).sum ≤ acc.length + l.length ∧ (spl S k acc l).length ≤ l.length + 1
  | 0, k, acc, l, h => by
    have : l = [] := List.length_eq_zero_iff.mp h
    subst this
    rw [spl_nil]
    simp
  | n + 1, k, acc, [], h => by simp at h
  | n + 1, k + 1, acc, c :: r, h => by
    have i := spl_sum S n k acc r (by simpa using h)
    have e : spl S (k + 1) acc (c :: r) = spl S k acc r := rfl
    rw [e, List.length_cons]
    omega
  | n + 1, 0, acc, c :: r, h => by
    cases e : pre S (c :: r) with
    | true =>
      rw [spl_hit e]
      have i := spl_sum S n (S.length - 1) [] r (by simpa using h)
      rw [List.map_cons, List.sum_cons, List.length_cons, List.length_cons]
      rw [List.length_nil] at i
      omega
    | false =>
      rw [spl_miss e]
      have i := spl_sum S n 0 (acc ++ [c]) r (by simpa using h)
      rw [List.length_append] at i
      rw [List.length_cons]
      have : [c].length = 1 := rfl
      omega
theorem mem_sum {l : List Nat} {x : Nat} (h : x ∈ l) : x ≤ l.sum := by
  induction l with
  | nil => cases h
  | cons a r ih =>
    rw [List.sum_cons]
    rcases List.mem_cons.mp h with rfl | h
    · omega
    · have := ih h
      omega
theorem split_len {z y : Str} (hy : tl y ≠ []) (hk : y.cps.all (· < 256) = true) : (Txt.split z y).length ≤ z.length + 1 ∧ ∀ p ∈ Txt.split z y, p.length ≤ z.length := by
  have e := split_spl z y hy (kind_ok hk)
  have s := spl_sum (tl y) (tl z).length 0 [] (tl z) rfl
  rw [← e] at s
  rw [List.length_map, ← len_tl] at s
  refine ⟨s.2, fun p hp => ?_⟩
  have := mem_sum (l := ((Txt.split z y).map tl).map List.length) (x := p.length) (by
    rw [List.map_map]
    exact List.mem_map.mpr ⟨p, hp, (len_tl p).symm⟩)
  have s1 := s.1
  rw [List.length_nil] at s1
  omega
theorem split_ne (z y : Str) (hy : tl y ≠ []) (hk : y.cps.all (· < 256) = true) : Txt.split z y ≠ [] := fun h => by
  have e := split_spl z y hy (kind_ok hk)
  rw [h] at e
  have : ∀ (n k : Nat) (acc l : List Nat), l.length = n → spl (tl y) k acc l ≠ [] := by
    intro n
    induction n with
    | zero =>
      intro k acc l hl
      have : l = [] := List.length_eq_zero_iff.mp hl
      subst this
      rw [spl_nil]
      simp
    | succ n ih =>
      intro k acc l hl
      cases l with
      | nil => simp at hl
      | cons c r =>
        cases k with
        | succ k =>
          show spl (tl y) k acc r ≠ []
          exact ih k acc r (by simpa using hl)
        | zero =>
          cases q : pre (tl y) (c :: r) with
          | true => rw [spl_hit q]; exact List.cons_ne_nil _ _
          | false => rw [spl_miss q]; exact ih 0 _ r (by simpa using hl)
  exact this _ 0 [] (tl z) rfl e.symm
/-! ### all of some, or none -/
def optAll {α : Type} : List (Option α) → Option (List α)
  | [] => some []
  | none :: _ => none
  | some a :: r => match optAll r with
    | none => none
    | some l => some (a :: l)
theorem optAll_some {α : Type} : ∀ {os : List (Option α)} {l : List α}, optAll os = some l → os = l.map some
  | [], l, h => by cases h; rfl
  | none :: r, l, h => by cases h
  | some a :: r, l, h => by
    unfold optAll at h
    cases e : optAll r with
    | none => rw [e] at h; cases h
    | some m =>
      rw [e] at h
      cases h
      rw [List.map_cons, ← optAll_some e]
theorem optAll_none {α : Type} : ∀ {os : List (Option α)}, optAll os = none ↔ none ∈ os
  | [] => by simp [optAll]
  | none :: r => by simp [optAll]
  | some a :: r => by
    unfold optAll
    cases e : optAll r with
    | none =>
      have := (optAll_none (os := r)).mp e
      simp [this]
    | some l =>
      have : ¬ none ∈ r := fun h => by
        rw [(optAll_none (os := r)).mpr h] at e
        cases e
      simp [this]
theorem any_none : ∀ hs : List (Option Int), ((hs.map hopeP).any fun z => PyData.eqv z .none) = decide (none ∈ hs)
  | [] => rfl
  | none :: r => by
    rw [List.map_cons, List.any_cons]
    simp
    left
    rfl
  | some i :: r => by
    rw [List.map_cons, List.any_cons, any_none r]
    have : PyData.eqv (hopeP (some i)) .none = false := rfl
    rw [this, Bool.false_or]
    simp
def sidesW (z : Str) : Option (List Int) := optAll ((Txt.split z " ").map intW)
section
variable {P : Program} {w : World} {K : PySem.W.Frag} {mg : Str → Option Value} {base : Heap}
def spAllB (K : PySem.W.Frag) : Sp := fun vs H Q _ => ∃ (a : Addr) (xs : List V) (ds : List PyData) (b : Bool), vs = [.ref a] ∧ SqL K H a xs ∧ DpAll K H xs ds ∧ SeqAt.shaped (.list ds) = true ∧ (ds.any fun z => PyData.eqv z .none) = b ∧ (b = true → Q .non H) ∧ (b = false → ∀ p H', Gr H H' → SqT K H' p xs → Q (.ref p) H')
theorem sc_allB : FnScope ["found"] ["found"] (defScope s__all_or_none) := ⟨rfl, rfl, rfl, by decide +kernel, rfl, by decide +kernel, by decide +kernel⟩
theorem cl_allB (D : Df K mg "_all_or_none" s__all_or_none) (B : Blt mg) : Cl P w K mg base 1 "_all_or_none" ["found"] (spAllB K) := by
  refine D.cl (fun _ _ _ _ _ _ us hl => match us, hl with | [_], _ => rfl) fun f fd F => F.ok sc_allB (fun vs H Q E h => ?_) (fun cdv A outer s H vs Q E hr h => ?_)
  · obtain ⟨a, xs, ds, b, rfl, _⟩ := h
    rfl
  obtain ⟨a, xs, ds, b, rfl, hs, hd, sh, no, q0, q⟩ := h
  refine ⟨_, (pss_one (ps_ret (pe_ifExp (pt_cmpR (op_inD (yunits hr)) pe_non (pv 0) rfl) pe_non (pe_callTy call_tuple_of rfl B.tup bootTup (pa_cons (pv 0) pa_nil))))), ?_⟩
  refine ⟨_, rfl, _, ds, .non, .lst hs hd, by decide, sh, _, rfl, ?_⟩
  rw [no]
  cases b with
  | true => exact iteT (q0 rfl)
  | false =>
    refine iteF ⟨_, rfl, a, xs, rfl, .inl ⟨hs, fun p np => ?_⟩⟩
    exact q rfl p _ ((Gr.refl H).new np _) (SqT.of upd_same)
def spSdsA (K : PySem.W.Frag) : Sp := fun vs H Q _ => ∃ z : Str, vs = [.str z] ∧ z.length ≤ 900000 ∧ (sidesW z = none → ∀ H', Gr H H' → Q .non H') ∧ (∀ ns, sidesW z = some ns → ∀ v H', Gr H H' → SiV K H' v ns → Q v H')
theorem sc_sdsA : FnScope ["words", "word"] ["words"] (defScope s__sides_in) := ⟨rfl, rfl, rfl, by decide +kernel, rfl, by decide +kernel, by decide +kernel⟩
theorem tlb : tl (" " : Str) ≠ [] := by rw [tl_blank]; exact List.cons_ne_nil _ _
theorem cl_sdsA (D : Df K mg "_sides_in" s__sides_in) (CI : Cl P w K mg base 1 "integer_in" ["word"] spIntA) (CA : Cl P w K mg base 1 "_all_or_none" ["found"] (spAllB K)) : Cl P w K mg base 2 "_sides_in" ["words"] (spSdsA K) := by
  refine D.cl (fun _ _ _ _ _ _ us hl => match us, hl with | [_], _ => rfl) fun f fd F => F.ok sc_sdsA (fun vs H Q E h => ?_) (fun cdv A outer s H vs Q E hr h => ?_)
  · obtain ⟨z, rfl, _⟩ := h
    rfl
  obtain ⟨z, rfl, hz, q0, q⟩ := h
  refine ⟨_, (pss_one (ps_ret (pe_cl CA (hr.mono (by decide)) (pa_cons (pe_lc (own := [("word", 1)]) (g := gName 1) rfl sc_sdsA.nd (pi_list (pe_split (pv 0) pe_str)) (blkOk_by (N := ["words", "word"]) (sc := defScope s__sides_in) (by decide +kernel)) (fun _ _ _ _ _ => (pg_name (i := 1) sc_sdsA.nd rfl (Or.inl rfl))) (fun _ _ _ _ _ => pts_nil) (fun _ _ _ _ _ => (pe_cl CI (hr.mono (by decide)) (pa_cons (pv 1) pa_nil)))) pa_nil)))), ?_⟩
  obtain ⟨sl, sm⟩ := split_len (z := z) tlb (by decide +kernel)
  refine ⟨_, rfl, ⟨_, rfl⟩, _, _, rfl, rfl, rfl, sz15 (by omega), fun L nL => ?_⟩
  have rL := (Gr.refl H).new nL (.lst ((Txt.split z " ").map V.str))
  have hL : SqL K (upd H L (.lst ((Txt.split z " ").map V.str))) L ((Txt.split z " ").map V.str) := SqL.of upd_same
  generalize upd H L (.lst ((Txt.split z " ").map V.str)) = H1 at rL hL ⊢
  refine ⟨L, rfl, ⟨_, hL⟩, fun D nD => ?_⟩
  refine lc_mapL (K := K) (fun i y _ => ∃ p, (Txt.split z " ")[i]? = some p ∧ y = hopeV (intW p)) (fun _ _ _ _ h _ => h) nD hL (by rw [List.length_map]; omega) (fun i x H3 Kc hx g3 kc => ?_) (fun ys H3 hD hy g3 hR => ?_)
  · rw [List.getElem?_map] at hx
    obtain ⟨p, hp, rfl⟩ := Option.map_eq_some_iff.mp hx
    have := sm p (List.mem_of_getElem? hp)
    exact ⟨rfl, _, rfl, p, rfl, by omega, kc _ _ (Gr.refl _) ⟨p, hp, rfl⟩⟩
  · have e : ys = ((Txt.split z " ").map intW).map hopeV := by
      rw [List.length_map] at hy
      refine List.ext_getElem? fun i => ?_
      by_cases hi : i < ys.length
      · obtain ⟨p, e1, e2⟩ := hR i ys[i] (List.getElem?_eq_getElem hi)
        rw [List.getElem?_eq_getElem hi, List.getElem?_map, List.getElem?_map, e1, e2]
        rfl
      · rw [List.getElem?_eq_none (by omega), List.getElem?_eq_none (by rw [List.length_map, List.length_map]; omega)]
    rw [e] at hD
    refine ⟨D, _, _, _, rfl, SqL.of hD, dp_hopes _, shp_hopes _, any_none _, fun hb => q0 (optAll_none.mpr (of_decide_eq_true hb)) _ (rL.trans g3), fun hb p H4 g4 hp => ?_⟩
    have hn : ¬ none ∈ (Txt.split z " ").map intW := of_decide_eq_false hb
    cases es : sidesW z with
    | none => exact absurd (optAll_none.mp es) hn
    | some ns =>
      have e2 := optAll_some es
      rw [e2, List.map_map] at hp
      have e3 : ns.map (hopeV ∘ some) = ns.map V.int := List.map_congr_left fun _ _ => rfl
      rw [e3] at hp
      exact q ns es _ _ ((rL.trans g3).trans g4) ⟨p, rfl, hp⟩
end
theorem sidesW_lt {z : Str} {ns : List Int} (h : sidesW z = some ns) : (∀ n ∈ ns, n.natAbs < 10 ^ 9) ∧ ns.length ≤ z.length + 1 ∧ 1 ≤ ns.length := by
  have e := optAll_some h
  have l := congrArg List.length e
  rw [List.length_map, List.length_map] at l
  have sl := (split_len (z := z) tlb (by decide +kernel)).1
  have sn := split_ne z " " tlb (by decide +kernel)
  have : 0 < (Txt.split z " ").length := List.length_pos_iff.mpr sn
  refine ⟨fun n hn => ?_, by omega, by omega⟩
  have : some n ∈ (Txt.split z " ").map intW := by
    rw [e]
    exact List.mem_map.mpr ⟨n, hn, rfl⟩
  obtain ⟨p, _, hp⟩ := List.mem_map.mp this
  exact intW_lt hp
end SB
namespace SB
open PySem PySem.NumText L2 GxR GA RZ RP TL
theorem par_len (S : List Nat) : ∀ (l acc : List Nat) {a b : List Nat}, par S acc l = some (a, b) → a.length ≤ acc.length + l.length ∧ b.length ≤ l.length
  | [], acc, a, b, h => by cases h
  | c :: r, acc, a, b, h => by
    cases e : pre S (c :: r) with
    | true =>
      rw [par_hit e] at h
      cases h
      rw [List.length_drop]
      omega
    | false =>
      rw [par_miss e] at h
      have i := par_len S r _ h
      rw [List.length_append] at i
      rw [List.length_cons]
      have : [c].length = 1 := rfl
      omega
theorem iteNNo {x : V} {A B : Prop} (h : x = V.non) (b : B) : if (!decide (x = V.non)) = true then A else B := by
  rw [decide_eq_true h]
  exact iteF b
structure PartOk (z y : Str) (p : Str × Str × Str) : Prop where
  mid : p.2.1 = y ∨ p.2.1 = Str.empty
  l1 : p.1.length ≤ z.length
  l2 : p.2.2.length ≤ z.length
theorem cutp_ok (z y : Str) (hy : tl y ≠ []) : PartOk z y (Txt.partition z y) := by
  rw [partition_par z y hy]
  cases e : par (tl y) [] (tl z) with
  | none => exact ⟨.inr rfl, Nat.le_refl _, Nat.zero_le _⟩
  | some p =>
    obtain ⟨a, b⟩ := p
    have l := par_len _ _ _ e
    rw [List.length_nil, Nat.zero_add] at l
    exact ⟨.inl rfl, by rw [len_tl, len_tl z]; exact l.1, by rw [len_tl, len_tl z]; exact l.2⟩
def someS (z : Str) : Bool := (z.length : Int) != 0
theorem someS_emp : someS Str.empty = false := rfl
theorem someS_of {z : Str} (h : tl z ≠ []) : someS z = true := by
  unfold someS
  rw [bne_iff_ne]
  have : 0 < (tl z).length := List.length_pos_iff.mpr h
  rw [← len_tl] at this
  omega
def questP (a b c : Str) : Option (List Int × Int) := if someS b then match sidesW a, intW c with
  | some ns, some w => some (ns, w)
  | _, _ => none else none
def questW (z : Str) : Option (List Int × Int) := questP (Txt.partition z " : ").1 (Txt.partition z " : ").2.1 (Txt.partition z " : ").2.2
def numB (t b : Int) (slash : Bool) : Option (Int × Int) := if b < 1 ∨ 1 < ((Nat.gcd t.natAbs b.natAbs : Nat) : Int) then none else if slash = true ∧ b = 1 then none else some (t, b)
def numP3 (x y c : Str) : Option (Int × Int) := match intW x, (if someS y then intW c else some 1) with
  | some t, some b => numB t b (someS y)
  | _, _ => none
def numW (z : Str) : Option (Int × Int) := numP3 (Txt.partition z "/").1 (Txt.partition z "/").2.1 (Txt.partition z "/").2.2
theorem hopeV_some {o : Option Int} {i : Int} (h : o = some i) : hopeV o = .int i := by rw [h]; rfl
theorem hopeV_none {o : Option Int} (h : o = none) : hopeV o = .non := by rw [h]; rfl
theorem numW_lo {z : Str} {r : Int × Int} (h : numW z = some r) : Lo r ∧ r.1.natAbs < 10 ^ 9 ∧ r.2.natAbs < 10 ^ 9 := by
  unfold numW numP3 at h
  cases e1 : intW (Txt.partition z "/").1 with
  | none => rw [e1] at h; cases h
  | some t =>
    rw [e1] at h
    cases e2 : (if someS (Txt.partition z "/").2.1 then intW (Txt.partition z "/").2.2 else some 1) with
    | none => rw [e2] at h; cases h
    | some b =>
      rw [e2] at h
      have h : numB t b _ = some r := h
      have b9 : b.natAbs < 10 ^ 9 := by
        cases es : someS (Txt.partition z "/").2.1 with
        | true => rw [es, if_pos rfl] at e2; exact intW_lt e2
        | false =>
          rw [es] at e2
          cases e2
          decide
      unfold numB at h
      split at h
      · cases h
      · rename_i c
        split at h
        · cases h
        · cases h
          have c1 : ¬ b < 1 := fun x => c (.inl x)
          have c2 : ¬ 1 < ((Nat.gcd t.natAbs b.natAbs : Nat) : Int) := fun x => c (.inr x)
          refine ⟨⟨by show 0 < b; omega, ?_⟩, intW_lt e1, b9⟩
          show Nat.gcd t.natAbs b.natAbs = 1
          have : 0 < Nat.gcd t.natAbs b.natAbs := Nat.gcd_pos_of_pos_right _ (by omega)
          omega
section
variable {P : Program} {w : World} {K : PySem.W.Frag} {mg : Str → Option Value} {base : Heap}
def spQuA (K : PySem.W.Frag) : Sp := fun vs H Q _ => ∃ z : Str, vs = [.str z] ∧ z.length ≤ 900000 ∧ (questW z = none → ∀ H', Gr H H' → Q .non H') ∧ (∀ q, questW z = some q → ∀ v H', Gr H H' → QuV K H' v q → Q v H')
theorem sc_quA : FnScope ["line", "shown", "colon", "behind", "sides", "wall"] ["line"] (defScope s__question_in) := ⟨rfl, rfl, rfl, by decide +kernel, rfl, by decide +kernel, by decide +kernel⟩
theorem tlc : tl (" : " : Str) ≠ [] := by rw [tl_colon]; exact List.cons_ne_nil _ _
theorem cl_quA (D : Df K mg "_question_in" s__question_in) (CI : Cl P w K mg base 1 "integer_in" ["word"] spIntA) (CS : Cl P w K mg base 2 "_sides_in" ["words"] (spSdsA K)) : Cl P w K mg base 3 "_question_in" ["line"] (spQuA K) := by
  refine D.cl (fun _ _ _ _ _ _ us hl => match us, hl with | [_], _ => rfl) fun f fd F => F.ok sc_quA (fun vs H Q E h => ?_) (fun cdv A outer s H vs Q E hr h => ?_)
  · obtain ⟨z, rfl, _⟩ := h
    rfl
  obtain ⟨z, rfl, hz, q0, q⟩ := h
  refine ⟨_, (pss_cons (ps_asg (pe_partition (pv 0) pe_str) (pg_tup rfl (pgs_cons (pg_name (i := 1) sc_quA.nd rfl (Or.inl rfl)) (pgs_cons (pg_name (i := 2) sc_quA.nd rfl (Or.inl rfl)) (pgs_cons (pg_name (i := 3) sc_quA.nd rfl (Or.inl rfl)) pgs_nil)))))
    (pss_cons (ps_par (i := 4) (j := 5) rfl sc_quA.nd rfl rfl (by decide) rfl rfl (pa_cons (pe_cl CS (hr.mono (by decide)) (pa_cons (pv 1) pa_nil)) (pa_cons (pe_cl CI (hr.mono (by decide)) (pa_cons (pv 3) pa_nil)) pa_nil)) rfl)
    (pss_one (ps_ret (pe_ifExp (PW.pt (by exact (pw_and (pt_truth (pv 2) (by intro _; rfl)) (pw_and (pt_cmp (pc_notN (pv 4))) (pw_and1 (pt_cmp (pc_notN (pv 5)))))))) (pe_tup (pa_cons (pv 4) (pa_cons (pv 5) pa_nil))) pe_non))))), ?_⟩
  have po := cutp_ok z " : " tlc
  generalize hp : Txt.partition z " : " = pp at po
  obtain ⟨z1, z2, z3⟩ := pp
  have ew : questW z = questP z1 z2 z3 := by unfold questW; rw [hp]
  unfold questP at ew
  refine ⟨_, rfl, ⟨_, rfl⟩, _, _, rfl, rfl, rfl, sz15 (by omega), fun p np => ?_⟩
  rw [hp]
  dsimp only
  refine ⟨p, _, rfl, SqT.of upd_same, rfl, _, _, rfl, _, _, rfl, _, _, rfl, rfl, ?_⟩
  have rp := (Gr.refl H).new np (.tup [.str z1, .str z2, .str z3])
  generalize upd H p (.tup [.str z1, .str z2, .str z3]) = H1 at rp ⊢
  have l1 : z1.length ≤ z.length := po.l1
  have l3 : z3.length ≤ z.length := po.l2
  have l2 : z2.length ≤ 3 := by
    rcases po.mid with h | h
    · have h : z2 = _ := h
      rw [h]
      decide
    · have h : z2 = _ := h
      rw [h]
      decide
  refine ⟨_, rfl, z1, rfl, by omega, fun es H2 g2 => ⟨_, rfl, z3, rfl, by omega, _, _, rfl, ?_⟩, fun ns es v H2 g2 hv => ⟨_, rfl, z3, rfl, by omega, _, _, rfl, ?_⟩⟩
  · have en : questW z = none := by
      rw [ew, es]
      cases someS z2 <;> rfl
    refine ⟨_, rfl, someS z2, tru_str (sz15 (by omega)), ?_⟩
    cases someS z2 with
    | false => exact iteF (q0 en _ (rp.trans g2))
    | true => exact iteT ⟨_, rfl, _, rfl, iteNNo rfl (q0 en _ (rp.trans g2))⟩
  · refine ⟨_, rfl, someS z2, tru_str (sz15 (by omega)), ?_⟩
    cases e2 : someS z2 with
    | false =>
      have en : questW z = none := by
        rw [ew, e2]
        rfl
      exact iteF (q0 en _ (rp.trans g2))
    | true =>
      obtain ⟨a, rfl, ha⟩ := hv
      refine iteT ⟨_, rfl, _, rfl, iteNN (fun z => nomatch z) ⟨_, rfl, _, rfl, ?_⟩⟩
      cases e3 : intW z3 with
      | none =>
        have en : questW z = none := by
          rw [ew, e2, es, e3]
          rfl
        exact iteNNo rfl (q0 en _ (rp.trans g2))
      | some wl =>
        have en : questW z = some (ns, wl) := by
          rw [ew, e2, es, e3]
          rfl
        refine iteNN (fun z => nomatch z) ⟨_, rfl, _, rfl, szN (by show 2 ≤ 1000000; decide), fun T nT => ?_⟩
        have rT := (Gr.refl H2).new nT (.tup [.ref a, .int wl])
        exact q _ en _ _ ((rp.trans g2).trans rT) ⟨T, .ref a, rfl, SqT.of upd_same, a, rfl, rT.seqT ha⟩
def spNumA (K : PySem.W.Frag) : Sp := fun vs H Q _ => ∃ z : Str, vs = [.str z] ∧ z.length ≤ 900000 ∧ (numW z = none → ∀ H', Gr H H' → Q .non H') ∧ (∀ r, numW z = some r → ∀ v H', Gr H H' → NuV K H' v r → Q v H')
theorem sc_numA : FnScope ["word", "shown", "slash", "below", "top", "bottom"] ["word"] (defScope s_number_in) := ⟨rfl, rfl, rfl, by decide +kernel, rfl, by decide +kernel, by decide +kernel⟩
theorem cl_numA (D : Df K mg "number_in" s_number_in) (B : Blt mg) (CI : Cl P w K mg base 1 "integer_in" ["word"] spIntA) : Cl P w K mg base 2 "number_in" ["word"] (spNumA K) := by
  refine D.cl (fun _ _ _ _ _ _ us hl => match us, hl with | [_], _ => rfl) fun f fd F => F.ok sc_numA (fun vs H Q E h => ?_) (fun cdv A outer s H vs Q E hr h => ?_)
  · obtain ⟨z, rfl, _⟩ := h
    rfl
  obtain ⟨z, rfl, hz, q0, q⟩ := h
  refine ⟨_, (pss_cons (ps_asg (pe_partition (pv 0) pe_str) (pg_tup rfl (pgs_cons (pg_name (i := 1) sc_numA.nd rfl (Or.inl rfl)) (pgs_cons (pg_name (i := 2) sc_numA.nd rfl (Or.inl rfl)) (pgs_cons (pg_name (i := 3) sc_numA.nd rfl (Or.inl rfl)) pgs_nil)))))
    (pss_cons (ps_set (i := 4) sc_numA.nd rfl (.inl rfl) (pe_cl CI (hr.mono (by decide)) (pa_cons (pv 1) pa_nil)))
    (pss_cons (ps_set (i := 5) sc_numA.nd rfl (.inl rfl) (pe_ifExp (pt_truth (pv 2) (by intro _; rfl)) (pe_cl CI (hr.mono (by decide)) (pa_cons (pv 3) pa_nil)) pe_int))
    (pss_cons (ps_if (PW.pt (by exact (pw_or (pt_cmp (pc_isN (pv 4))) (pw_or (pt_cmp (pc_isN (pv 5))) (pw_or (pt_cmpR op_lt (pv 5) pe_int (nomark _)) (pw_or1 (pt_cmpR op_gt (pe_callBfun cr_gcd rfl B.gcd (pa_cons (pv 4) (pa_cons (pv 5) pa_nil))) pe_int (nomark _)))))))) (pss_one (ps_ret pe_non)) pss_nil)
    (pss_one (ps_ret (pe_ifExp (PW.pt (by exact (pw_and (pt_truth (pv 2) (by intro _; rfl)) (pw_and1 (pt_cmpR op_eq (pv 5) pe_int (nomark _)))))) pe_non (pe_tup (pa_cons (pv 4) (pa_cons (pv 5) pa_nil)))))))))), ?_⟩
  have po := cutp_ok z "/" (by rw [tl_slash]; exact List.cons_ne_nil _ _)
  generalize hp : Txt.partition z "/" = pp at po
  obtain ⟨z1, z2, z3⟩ := pp
  have ew : numW z = numP3 z1 z2 z3 := by unfold numW; rw [hp]
  unfold numP3 at ew
  refine ⟨_, rfl, ⟨_, rfl⟩, _, _, rfl, rfl, rfl, sz15 (by omega), fun p np => ?_⟩
  rw [hp]
  dsimp only
  refine ⟨p, _, rfl, SqT.of upd_same, rfl, _, _, rfl, _, _, rfl, _, _, rfl, rfl, ?_⟩
  have rp := (Gr.refl H).new np (.tup [.str z1, .str z2, .str z3])
  generalize upd H p (.tup [.str z1, .str z2, .str z3]) = H1 at rp ⊢
  have l1 : z1.length ≤ z.length := po.l1
  have l3 : z3.length ≤ z.length := po.l2
  have l2 : z2.length ≤ 3 := by
    rcases po.mid with h | h
    · have h : z2 = _ := h
      rw [h]
      decide
    · have h : z2 = _ := h
      rw [h]
      decide
  refine ⟨_, rfl, z1, rfl, by omega, ?_⟩
  refine seq_join (fun σ' H' => σ' = [some (.str z), some (.str z1), some (.str z2), some (.str z3), some (hopeV (intW z1)), none] ∧ H' = H1) (fun σ' H1' h => ?_) (fun Kn hK => hK _ _ ⟨rfl, rfl⟩)
  obtain ⟨rfl, rfl⟩ := h
  refine seq_join (fun σ' H' => σ' = [some (.str z), some (.str z1), some (.str z2), some (.str z3), some (hopeV (intW z1)), some (hopeV (if someS z2 then intW z3 else some 1))] ∧ H' = H1') (fun σ' H2 h => ?_) (fun Kn hK => ?_)
  rotate_left
  · refine ⟨_, rfl, someS z2, tru_str (sz15 (by omega)), ?_⟩
    cases e2 : someS z2 with
    | true => exact iteT ⟨_, rfl, z3, rfl, by omega, hK _ _ ⟨by rw [e2]; rfl, rfl⟩⟩
    | false => exact iteF (hK _ _ ⟨by rw [e2]; rfl, rfl⟩)
  obtain ⟨rfl, rfl⟩ := h
  cases e1 : intW z1 with
  | none =>
    have en : numW z = none := by rw [ew, e1]
    exact ⟨_, rfl, _, rfl, iteP rfl (q0 en _ rp)⟩
  | some t =>
    generalize e3 : (if someS z2 then intW z3 else some 1) = ob at ew
    cases ob with
    | none =>
      have en : numW z = none := by rw [ew, e1]
      exact ⟨_, rfl, _, rfl, iteN (fun z => nomatch z) ⟨_, rfl, _, rfl, iteP rfl (q0 en _ rp)⟩⟩
    | some b =>
      have en : numW z = numB t b (someS z2) := by rw [ew, e1]
      refine ⟨_, rfl, _, rfl, iteN (fun z => nomatch z) ⟨_, rfl, _, rfl, iteN (fun z => nomatch z) ⟨_, rfl, _, _, rfl, rfl, _, rfl, ?_⟩⟩⟩
      by_cases c1 : b < 1
      · refine iteP c1 (q0 ?_ _ rp)
        rw [en]
        unfold numB
        rw [if_pos (.inl c1)]
      · refine iteN c1 ⟨_, rfl, _, rfl, _, _, rfl, _, _, rfl, rfl, _, rfl, ?_⟩
        by_cases c2 : (1 : Int) < ((Nat.gcd t.natAbs b.natAbs : Nat) : Int)
        · refine iteP c2 (q0 ?_ _ rp)
          rw [en]
          unfold numB
          rw [if_pos (.inr c2)]
        · refine iteN c2 ⟨_, rfl, someS z2, tru_str (sz15 (by omega)), ?_⟩
          have nb : numB t b (someS z2) = if someS z2 = true ∧ b = 1 then none else some (t, b) := by
            unfold numB
            rw [if_neg (fun h => h.elim c1 c2)]
          have fin : numW z = some (t, b) → ∀ T, H2 T = none → Q (.ref T) (upd H2 T (.tup [.int t, .int b])) := fun e T nT => q _ e _ _ (rp.new nT _) ⟨T, rfl, SqT.of upd_same⟩
          cases e2 : someS z2 with
          | false =>
            rw [e2] at nb en
            refine iteF ⟨_, rfl, _, rfl, szN (by show 2 ≤ 1000000; decide), fun T nT => fin (by rw [en, nb, if_neg (fun h => by cases h.1)]) T nT⟩
          | true =>
            rw [e2] at nb en
            refine iteT ⟨_, rfl, rfl, _, rfl, ?_⟩
            by_cases c3 : b = 1
            · exact iteP (by rw [c3]; rfl) (q0 (by rw [en, nb, if_pos ⟨rfl, c3⟩]) _ rp)
            · exact iteN (fun z => c3 (by injection z)) ⟨_, rfl, _, rfl, szN (by show 2 ≤ 1000000; decide), fun T nT => fin (by rw [en, nb, if_neg (fun h => c3 h.2)]) T nT⟩
end
end SB
namespace SB
open PySem PySem.NumText L2 GxR GA RZ RP TL
/-! ### what a dict of the module does not hold -/
def keyStr (e : DictEntry) : Option Str := match e.key with
  | .str s _ => some s
  | _ => none
theorem ns_none {K : PySem.W.Frag} {d : Addr} {c : Value} {o : Option Addr} {es : Array DictEntry} {n : Nat} {sl : Array (Option Value)} {ks : List Str} (l : K.lookup d = some ⟨c, o, .dict es n, sl⟩) (k : es.toList.map keyStr = ks.map some) {z : Str} (h : z ∉ ks) : PySem.W.nsIn K d z = some none := by
  have at_ : ∀ e ∈ es.toList, ∃ s t, e.key = .str s t ∧ s ∈ ks := fun e he => by
    have m : keyStr e ∈ es.toList.map keyStr := List.mem_map.mpr ⟨e, he, rfl⟩
    rw [k] at m
    obtain ⟨s, hs, e1⟩ := List.mem_map.mp m
    unfold keyStr at e1
    cases ek : e.key with
    | str s' t =>
      rw [ek] at e1
      cases e1
      exact ⟨s, t, rfl, hs⟩
    | _ => rw [ek] at e1; cases e1
  unfold PySem.W.nsIn
  rw [l]
  have f : es.toList.find? (·.key.isStr z) = none := List.find?_eq_none.mpr fun e he => by
    obtain ⟨s, t, e1, hs⟩ := at_ e he
    rw [e1]
    intro q
    have : s = z := by
      unfold Value.isStr at q
      exact eq_of_beq q
    exact h (this ▸ hs)
  have r : es.toList.any (·.refKey) = false := by
    rw [List.any_eq_false]
    intro e he
    obtain ⟨s, t, e1, _⟩ := at_ e he
    unfold DictEntry.refKey
    rw [e1]
    simp
  show (match es.toList.find? (·.key.isStr z) with
    | some e => some (some e.val)
    | none => if es.toList.any (·.refKey) then none else some none) = some none
  rw [f, r]
  rfl
/-- the module's dict of the signs of answers, and no others -/
structure SignA (K : PySem.W.Frag) (w : World) (mg : Str → Option Value) : Prop where
  ex : ∃ (d : Addr) (es : Array DictEntry) (n : Nat) (t1 t2 t3 : Tok), mg "SIGNS" = some (.ref d) ∧ KDict K w d es n ∧ PySem.W.nsIn K d "-" = some (some (.int (-1) t1)) ∧ PySem.W.nsIn K d "0" = some (some (.int 0 t2)) ∧ PySem.W.nsIn K d "+" = some (some (.int 1 t3)) ∧ PySem.W.nsIn K d "?" = some (some .none) ∧ es.toList.map keyStr = ([("-" : Str), "0", "+", "?"]).map some
def signC (c : Nat) : Option (Option Int) := if c = 45 then some (some (-1)) else if c = 48 then some (some 0) else if c = 43 then some (some 1) else if c = 63 then some none else none
theorem signC_sgn {c : Nat} {h : Option Int} (e : signC c = some h) : HopeOk h ∧ c = sgnC h := by
  unfold signC at e
  repeat' split at e
  · cases e; exact ⟨.inr (.inl rfl), by rename_i a; rw [a]; rfl⟩
  · cases e; exact ⟨.inr (.inr (.inl rfl)), by rename_i a; rw [a]; rfl⟩
  · cases e; exact ⟨.inr (.inr (.inr rfl)), by rename_i a; rw [a]; rfl⟩
  · cases e; exact ⟨.inl rfl, by rename_i a; rw [a]; rfl⟩
  · cases e
theorem signC_none {c : Nat} (e : signC c = none) : (⟨#[c]⟩ : Str) ∉ [("-" : Str), "0", "+", "?"] := by
  intro h
  have t : ∀ s ∈ [("-" : Str), "0", "+", "?"], tl s ∈ [[45], [48], [43], [63]] := by decide +kernel
  have := t _ h
  have e1 : tl (⟨#[c]⟩ : Str) = [c] := rfl
  rw [e1] at this
  simp only [List.mem_cons, List.not_mem_nil, or_false, List.cons.injEq, and_true] at this
  unfold signC at e
  rcases this with rfl | rfl | rfl | rfl <;> simp at e
theorem SignA.d {K : PySem.W.Frag} {w : World} {mg : Str → Option Value} (h : SignA K w mg) : SignD K w mg := let ⟨d, es, n, t1, t2, t3, a, b, c1, c2, c3, c4, _⟩ := h.ex; ⟨d, es, n, t1, t2, t3, a, b, c1, c2, c3, c4⟩
theorem SignA.use {K : PySem.W.Frag} {w : World} {mg : Str → Option Value} (h : SignA K w mg) : ∃ (d : Addr) (es : Array DictEntry) (n : Nat), mg "SIGNS" = some (.ref d) ∧ KDict K w d es n ∧ (∀ c h, signC c = some h → ∃ u, PySem.W.nsIn K d ⟨#[c]⟩ = some (some u) ∧ RelV (hopeV h) u) ∧ ∀ c, signC c = none → PySem.W.nsIn K d ⟨#[c]⟩ = some none := by
  obtain ⟨d, es, n, t1, t2, t3, h1, h2, a1, a2, a3, a4, ks⟩ := h.ex
  refine ⟨d, es, n, h1, h2, fun c h e => ?_, fun c e => ns_none h2.at_ ks (signC_none e)⟩
  obtain ⟨ho, rfl⟩ := signC_sgn e
  rw [← sgnT_c ho]
  rcases ho with rfl | rfl | rfl | rfl
  · exact ⟨_, a4, rfl⟩
  · exact ⟨_, a1, ⟨_, rfl⟩⟩
  · exact ⟨_, a2, ⟨_, rfl⟩⟩
  · exact ⟨_, a3, ⟨_, rfl⟩⟩
def wishW (z : Str) : Option (List (Option Int)) := if z = "." then some [] else if tl z = [] then none else optAll ((tl z).map signC)
def rowW (z : Str) : Option (List (Option Int)) := match wishW z with
  | none => none
  | some hs => if none ∈ hs then none else some hs
/-- the first sign of a text of which p holds, if there is one -/
theorem plan_sgnA {z : Str} {g : TG} {te : TE} {σ0 : L2.St} {vs : List Nat} {QT QF : Hp → Prop} {H2 : Hp} (p : Nat → Bool)
    (step : ∀ (i : Nat) (c : Nat) (H : Hp) (Kc : VK), (tl z)[i]? = some c → Gr H2 H → (∀ H4, Gr H H4 → Kc (.bl (p c)) H4) → g (.str ⟨#[c]⟩) σ0 H fun σ2 H3 => wipe σ2 vs = σ0 ∧ te σ2 H3 Kc)
    (fin : (∀ c ∈ tl z, p c = false) → ∀ H, Gr H2 H → QT H) (hit : ∀ c ∈ tl z, p c = true → ∀ H, Gr H2 H → QF H) : ∃ W : Nat → Nat → Hp → Prop, (∃ m, W 0 m H2) ∧ PlanN (Its z) g tYes te σ0 vs QT QF W := by
  have hsz : z.cps.size = (tl z).length := by simp [tl]
  refine ⟨fun i m H => Gr H2 H ∧ i + m = z.cps.size ∧ ∀ j c, j < i → (tl z)[j]? = some c → p c = false, ⟨z.cps.size, Gr.refl _, Nat.zero_add _, fun j c h => absurd h (Nat.not_lt_zero _)⟩, fun i m H w => ?_⟩
  obtain ⟨gr, hm, ha⟩ := w
  cases m with
  | zero => exact .inl ⟨by show z.cps.size ≤ i; omega, fin (fun c hc => by
      obtain ⟨j, hj⟩ := List.getElem?_of_mem hc
      exact ha j c (by have := (List.getElem?_eq_some_iff.mp hj).1; omega) hj) H gr⟩
  | succ m =>
    refine .inr ⟨by show i < z.cps.size; omega, fun H' => Gr H2 H' ∧ ∀ j c, j < i + 1 → (tl z)[j]? = some c → p c = false, fun H' h => ⟨m, Nat.lt_succ_self _, h.1, by omega, h.2⟩, fun x H' hyl => ?_⟩
    obtain ⟨rfl, c, hc, rfl⟩ := hyl
    rw [cps_at] at hc
    refine step i c H' _ hc gr fun H4 g4 => ⟨p c, rfl, ?_⟩
    cases e : p c with
    | true => exact iteT (hit c (List.mem_of_getElem? hc) e H4 (gr.trans g4))
    | false =>
      refine iteF ⟨gr.trans g4, fun j d hj hd => ?_⟩
      by_cases cj : j = i
      · subst cj
        rw [hc] at hd
        cases hd
        exact e
      · exact ha j d (by omega) hd
section
variable {P : Program} {w : World} {K : PySem.W.Frag} {mg : Str → Option Value} {base : Heap}
def spWishA (K : PySem.W.Frag) (T : Nat → Addr) : Sp := fun vs H Q _ => ∃ z : Str, vs = [.str z] ∧ Tb5 T H ∧ z.length ≤ 900000 ∧ (wishW z = none → ∀ H', Gr H H' → Q .non H') ∧ (∀ hs, wishW z = some hs → ∀ p H', Gr H H' → SqT K H' p (hs.map hopeV) → Q (.ref p) H')
theorem sc_wishA : FnScope ["word", "sign"] ["word"] (defScope s_wish_in) := ⟨rfl, rfl, rfl, by decide +kernel, rfl, by decide +kernel, by decide +kernel⟩
theorem cl_wishA {c : Addr} {T : Nat → Addr} (t1 : 0 < T 0) (D : DfT K mg "wish_in" s_wish_in c) (TB : TabB base mg c (T 1)) (B : Blt mg) (SD : SignA K w mg) : Cl P w K mg base 2 "wish_in" ["word"] (spWishA K T) := by
  refine D.cl (fun _ _ _ _ _ _ us hl => match us, hl with | [_], _ => rfl) fun f fd F => F.ok sc_wishA (fun vs H Q E h => ?_) (fun A outer s H vs Q E hr h => ?_)
  · obtain ⟨z, rfl, _⟩ := h
    rfl
  obtain ⟨z, rfl, tb, l1, q0, q⟩ := h
  obtain ⟨dS, esS, nS, mS, KS, wS, wN⟩ := SD.use
  refine ⟨_, (pss_cons (ps_if (pt_cmpR op_eq (pv 0) pe_str (nomark _)) (pss_one (ps_ret (pe_tup pa_nil))) pss_nil)
    (pss_cons (ps_if (PW.pt (by exact (pw_or (pt_not (pt_truth (pv 0) (by intro _; rfl))) (pw_or1 (pt_val (pe_anyG (own := [("sign", 1)]) (g := gName 1) hr rfl B.any PyProof.Rows.boot_any TB rfl sc_wishA.nd (genOk_by (N := ["word", "sign"]) (sc := defScope s_wish_in) (by decide +kernel)) (pi_str (pv 0))
        (fun _ _ _ _ _ => pg_name (i := 1) sc_wishA.nd rfl (Or.inl rfl))
        (fun _ _ _ _ _ => pe_cmpR (op_nkd K w rfl rfl KS) (pv 1) (pe_glob (v := .ref dS) rfl mS rfl) rfl))))))) (pss_one (ps_ret pe_non)) pss_nil)
    (pss_one (ps_ret (pe_callTy call_tuple_of rfl B.tup bootTup (pa_cons (pe_lc (own := [("sign", 1)]) (g := gName 1) rfl sc_wishA.nd (pi_str (pv 0)) (blkOk_by (N := ["word", "sign"]) (sc := defScope s_wish_in) (by decide +kernel)) (fun _ _ _ _ _ => (pg_name (i := 1) sc_wishA.nd rfl (Or.inl rfl))) (fun _ _ _ _ _ => pts_nil) (fun _ _ _ _ _ => (pe_ix (r := rIxD K w) ix_kdict (pe_glob (v := .ref dS) rfl mS rfl) (pv 1) (fun _ _ => rfl)))) pa_nil)))))), ?_⟩
  refine ⟨_, rfl, rfl, _, rfl, ?_⟩
  by_cases cd : z = ("." : Str)
  · have ew : wishW z = some [] := by unfold wishW; rw [if_pos cd]
    refine iteP (by rw [cd]) ⟨szL0, fun p np => ?_⟩
    exact q [] ew p _ ((Gr.refl H).new np _) (SqT.of upd_same)
  refine iteN (fun h => cd (by injection h)) ?_
  refine ⟨_, rfl, someS z, tru_str (sz15 (by omega)), ?_⟩
  by_cases cn : tl z = []
  · have ew : wishW z = none := by unfold wishW; rw [if_neg cd, if_pos cn]
    have es : someS z = false := by
      unfold someS
      rw [len_tl, cn]
      rfl
    rw [es]
    exact iteT (q0 ew H (Gr.refl H))
  rw [someS_of cn]
  have ew : wishW z = optAll ((tl z).map signC) := by unfold wishW; rw [if_neg cd, if_neg cn]
  refine iteF ⟨_, rfl, _, rfl, tb.t 0 t1, fun H2 hT => ?_⟩
  have g2 : Gr H H2 := (Gr.refl H).tabbed (tb.t 0 t1) hT
  refine plan_sgnA (fun c => (signC c).isNone) (fun i c H3 Kc hc g3 kc => ?_) (fun ha H3 g3 => ?_) (fun c hc e H3 g3 => ?_)
  · cases e : signC c with
    | none => exact ⟨rfl, _, rfl, _, none, rfl, rfl, wN c e, by have := kc H3 (Gr.refl _); rw [e] at this; exact this⟩
    | some h =>
      obtain ⟨u, eu, _⟩ := wS c h e
      exact ⟨rfl, _, rfl, _, some u, rfl, rfl, eu, by have := kc H3 (Gr.refl _); rw [e] at this; exact this⟩
  · refine ⟨_, rfl, iteF ?_⟩
    refine ⟨_, rfl, _, rfl, fun D nD => ?_⟩
    obtain ⟨hs, ehs⟩ : ∃ hs, optAll ((tl z).map signC) = some hs := by
      cases e : optAll ((tl z).map signC) with
      | some hs => exact ⟨hs, rfl⟩
      | none =>
        have := optAll_none.mp e
        obtain ⟨c, hc, e1⟩ := List.mem_map.mp this
        have h2 := ha c hc
        rw [e1] at h2
        cases h2
    have em := optAll_some ehs
    have lh : hs.length = (tl z).length := by
      have := congrArg List.length em
      rw [List.length_map, List.length_map] at this
      exact this.symm
    refine lc_sgn (hs := hs.map hopeV) (by rw [List.length_map]; exact lh) nD (by rw [List.length_map, lh, ← len_tl]; omega) (fun i c v H5 Kc hc hv g5 kc => ?_) (fun H5 hD g5 => ?_)
    · rw [List.getElem?_map] at hv
      obtain ⟨h, eh, rfl⟩ := Option.map_eq_some_iff.mp hv
      have e1 : signC c = some h := by
        have a := congrArg (fun l : List (Option (Option Int)) => l[i]?) em
        rw [List.getElem?_map, List.getElem?_map, hc, eh] at a
        exact Option.some.inj a
      obtain ⟨u, eu, ru⟩ := wS c h e1
      exact ⟨rfl, _, rfl, dS, _, hopeV h, rfl, rfl, ⟨esS, nS, u, KS.at_, KS.lit, eu, ru⟩, kc H5 (Gr.refl _)⟩
    · exact ⟨D, _, rfl, .inl ⟨SqL.of hD, fun p np => q hs (ew.trans ehs) p _ (((g2.trans g3).trans g5).new np _) (SqT.of upd_same)⟩⟩
  · refine ⟨_, rfl, iteT (q0 ?_ H3 (g2.trans g3))⟩
    rw [ew, optAll_none]
    refine List.mem_map.mpr ⟨c, hc, ?_⟩
    cases e1 : signC c with
    | none => rfl
    | some h => rw [e1] at e; cases e
def spRowA (K : PySem.W.Frag) (T : Nat → Addr) : Sp := fun vs H Q _ => ∃ z : Str, vs = [.str z] ∧ Tb5 T H ∧ z.length ≤ 900000 ∧ (rowW z = none → ∀ H', Gr H H' → Q .non H') ∧ (∀ hs, rowW z = some hs → ∀ p H', Gr H H' → SqT K H' p (hs.map hopeV) → Q (.ref p) H')
theorem sc_rowA : FnScope ["word", "found"] ["word"] (defScope s_row_in) := ⟨rfl, rfl, rfl, by decide +kernel, rfl, by decide +kernel, by decide +kernel⟩
theorem in_hopesA : ∀ hs : List (Option Int), inV .non (hs.map hopeV) = decide (none ∈ hs)
  | [] => rfl
  | none :: r => by
    rw [decide_eq_true List.mem_cons_self]
    show (decide (V.non = V.non) || inV .non (r.map hopeV)) = true
    rw [decide_eq_true (p := V.non = V.non) rfl, Bool.true_or]
  | some i :: r => by
    have i1 := in_hopesA r
    have : decide ((none : Option Int) ∈ some i :: r) = decide (none ∈ r) := by simp
    rw [this, ← i1]
    show (decide (V.int i = V.non) || inV .non (r.map hopeV)) = inV .non (r.map hopeV)
    rw [decide_eq_false (p := V.int i = V.non) (fun z => nomatch z), Bool.false_or]
theorem cl_rowA {T : Nat → Addr} (D : Df K mg "row_in" s_row_in) (CW : Cl P w K mg base 2 "wish_in" ["word"] (spWishA K T)) : Cl P w K mg base 3 "row_in" ["word"] (spRowA K T) := by
  refine D.cl (fun _ _ _ _ _ _ us hl => match us, hl with | [_], _ => rfl) fun f fd F => F.ok sc_rowA (fun vs H Q E h => ?_) (fun cdv A outer s H vs Q E hr h => ?_)
  · obtain ⟨z, rfl, _⟩ := h
    rfl
  obtain ⟨z, rfl, tb, l, q0, q⟩ := h
  refine ⟨_, (pss_cons (ps_set (i := 1) sc_rowA.nd rfl (.inl rfl) (pe_cl CW (hr.mono (by decide)) (pa_cons (pv 0) pa_nil)))
    (pss_one (ps_ret (pe_ifExp (PW.pt (by exact (pw_or (pt_cmp (pc_isN (pv 1))) (pw_or1 (pt_cmpR op_in_seq pe_non (pv 1) rfl))))) pe_non (pv 1))))), ?_⟩
  refine ⟨_, rfl, z, rfl, tb, l, fun e H1 g1 => ?_, fun hs e p H1 g1 hp => ?_⟩
  · have er : rowW z = none := by unfold rowW; rw [e]
    exact ⟨_, rfl, _, rfl, iteP rfl (q0 er H1 g1)⟩
  · refine ⟨_, rfl, _, rfl, iteN (fun z => nomatch z) ⟨_, rfl, p, _, rfl, .inr hp, rfl, flat_hopes hs, _, rfl, ?_⟩⟩
    rw [show (if false = true then !inV .non (hs.map hopeV) else inV .non (hs.map hopeV)) = decide (none ∈ hs) from in_hopesA hs]
    by_cases c : none ∈ hs
    · have er : rowW z = none := by unfold rowW; rw [e]; exact if_pos c
      rw [decide_eq_true c]
      exact iteT (q0 er H1 g1)
    · have er : rowW z = some hs := by unfold rowW; rw [e]; exact if_neg c
      rw [decide_eq_false c]
      exact iteF ⟨_, rfl, q hs er p H1 g1 hp⟩
end
end SB
namespace SB
open PySem PySem.NumText L2 GxR GA RZ RP TL
/-- the error class of readers.py -/
structure ErU (K : PySem.W.Frag) (mg : Str → Option Value) (fI cU : Addr) : Prop where
  u : ErrAll K fI
  c : ErC K mg fI "Unreadable" cU
def ptW (z : Str) : Option (List (Int × Int)) := optAll ((Txt.split z " ").map numW)
def noP : Option (Int × Int) → PyData
  | none => .none
  | some r => numP r
def NoV (K : PySem.W.Frag) (H : Hp) (y : V) : Option (Int × Int) → Prop
  | none => y = .non
  | some r => NuV K H y r
theorem NoV.st {K : PySem.W.Frag} {H H' : Hp} {y : V} (t : Tst K H H') : ∀ {o : Option (Int × Int)}, NoV K H y o → NoV K H' y o
  | none, h => h
  | some _, ⟨a, e, h⟩ => ⟨a, e, t _ _ h⟩
theorem any_nos : ∀ os : List (Option (Int × Int)), ((os.map noP).any fun z => PyData.eqv z .none) = decide (none ∈ os)
  | [] => rfl
  | none :: r => by
    rw [List.map_cons, List.any_cons]
    simp
    left
    rfl
  | some i :: r => by
    rw [List.map_cons, List.any_cons, any_nos r]
    have : PyData.eqv (noP (some i)) .none = false := rfl
    rw [this, Bool.false_or]
    simp
theorem lay_nos : ∀ os : List (Option (Int × Int)), PyData.canLayAll0 (os.map noP) = true
  | [] => rfl
  | j :: r => by
    show (PyData.canLay0 (noP j) && PyData.canLayAll0 (r.map noP)) = true
    rw [lay_nos r]
    cases j <;> rfl
theorem dep_nos : ∀ os : List (Option (Int × Int)), PyData.depthAll (os.map noP) ≤ 1
  | [] => Nat.zero_le _
  | none :: r => by
    have h := dep_nos r
    rw [List.map_cons]
    simp [PyData.depthAll, PyData.depth, noP]
    omega
  | some j :: r => by
    have h := dep_nos r
    rw [List.map_cons]
    simp [PyData.depthAll, PyData.depth, noP, numP]
    omega
theorem shp_nos (os : List (Option (Int × Int))) : SeqAt.shaped (.list (os.map noP)) = true := by
  unfold SeqAt.shaped
  rw [Bool.and_eq_true]
  refine ⟨lay_nos os, decide_eq_true ?_⟩
  have h := dep_nos os
  simp [PyData.depth]
  omega
theorem dp_nos {K : PySem.W.Frag} {H : Hp} : ∀ {xs : List V} {os : List (Option (Int × Int))}, Paired (NoV K H) xs os → DpAll K H xs (os.map noP)
  | _, _, .nil => .nil
  | _, _, .cons (b := none) h t => by
    have h : _ = V.non := h
    subst h
    exact .cons .non (dp_nos t)
  | _, _, .cons (b := some r) ⟨a, e, h⟩ t => by
    subst e
    exact .cons (.tup h (.cons (.int _) (.cons (.int _) .nil))) (dp_nos t)
section
variable {P : Program} {w : World} {K : PySem.W.Frag} {mg : Str → Option Value} {base : Heap} {fI cU : Addr}
def spPtA (K : PySem.W.Frag) : Sp := fun vs H Q _ => ∃ z : Str, vs = [.str z] ∧ z.length ≤ 900000 ∧ (ptW z = none → ∀ H', Gr H H' → Q .non H') ∧ (∀ rs, ptW z = some rs → ∀ v H', Gr H H' → PtV K H' v rs → Q v H')
theorem cl_ptA (D : Df K mg "point_in" s_point_in) (CN : Cl P w K mg base 2 "number_in" ["word"] (spNumA K)) (CA : Cl P w K mg base 1 "_all_or_none" ["found"] (spAllB K)) : Cl P w K mg base 3 "point_in" ["line"] (spPtA K) := by
  refine D.cl (fun _ _ _ _ _ _ us hl => match us, hl with | [_], _ => rfl) fun f fd F => F.ok sc_ptIn (fun vs H Q E h => ?_) (fun cdv A outer s H vs Q E hr h => ?_)
  · obtain ⟨z, rfl, _⟩ := h
    rfl
  obtain ⟨z, rfl, hz, q0, q⟩ := h
  refine ⟨_, (pss_one (ps_ret (pe_cl CA (hr.mono (by decide)) (pa_cons (pe_lc (own := [("word", 1)]) (g := gName 1) rfl sc_ptIn.nd (pi_list (pe_split (pv 0) pe_str)) (blkOk_by (N := ["line", "word"]) (sc := defScope s_point_in) (by decide +kernel)) (fun _ _ _ _ _ => (pg_name (i := 1) sc_ptIn.nd rfl (Or.inl rfl))) (fun _ _ _ _ _ => pts_nil) (fun _ _ _ _ _ => (pe_cl CN (hr.mono (by decide)) (pa_cons (pv 1) pa_nil)))) pa_nil)))), ?_⟩
  obtain ⟨sl, sm⟩ := split_len (z := z) tlb (by decide +kernel)
  refine ⟨_, rfl, ⟨_, rfl⟩, _, _, rfl, rfl, rfl, sz15 (by omega), fun L nL => ?_⟩
  have rL := (Gr.refl H).new nL (.lst ((Txt.split z " ").map V.str))
  have hL : SqL K (upd H L (.lst ((Txt.split z " ").map V.str))) L ((Txt.split z " ").map V.str) := SqL.of upd_same
  generalize upd H L (.lst ((Txt.split z " ").map V.str)) = H1 at rL hL ⊢
  refine ⟨L, rfl, ⟨_, hL⟩, fun D nD => ?_⟩
  refine lc_mapL (K := K) (fun i y H => ∃ p, (Txt.split z " ")[i]? = some p ∧ NoV K H y (numW p)) (fun _ _ _ _ ⟨p, e, h⟩ t => ⟨p, e, h.st t⟩) nD hL (by rw [List.length_map]; omega) (fun i x H3 Kc hx g3 kc => ?_) (fun ys H3 hD hy g3 hR => ?_)
  · rw [List.getElem?_map] at hx
    obtain ⟨p, hp, rfl⟩ := Option.map_eq_some_iff.mp hx
    have := sm p (List.mem_of_getElem? hp)
    refine ⟨rfl, _, rfl, p, rfl, by omega, fun e H4 g4 => kc _ _ g4 ⟨p, hp, ?_⟩, fun r e v H4 g4 hv => kc _ _ g4 ⟨p, hp, ?_⟩⟩
    · rw [e]; rfl
    · rw [e]; exact hv
  · rw [List.length_map] at hy
    have pd : Paired (NoV K H3) ys ((Txt.split z " ").map numW) := paired_of (by rw [List.length_map]; exact hy) fun i y o hy ho => by
      obtain ⟨p, e1, e2⟩ := hR i y hy
      rw [List.getElem?_map, e1] at ho
      cases ho
      exact e2
    refine ⟨D, _, _, _, rfl, SqL.of hD, dp_nos pd, shp_nos _, any_nos _, fun hb => q0 (optAll_none.mpr (of_decide_eq_true hb)) _ (rL.trans g3), fun hb p H4 g4 hp => ?_⟩
    have hn : ¬ none ∈ (Txt.split z " ").map numW := of_decide_eq_false hb
    cases es : ptW z with
    | none => exact absurd (optAll_none.mp es) hn
    | some rs =>
      have e2 := optAll_some es
      rw [e2] at pd
      refine q rs es _ _ ((rL.trans g3).trans g4) ⟨p, ys, rfl, hp, ?_⟩
      refine paired_of (by have := paired_len pd; rw [List.length_map] at this; exact this) fun i y r hy hr => ?_
      have ho : (rs.map some)[i]? = some (some r) := by rw [List.getElem?_map, hr]; rfl
      obtain ⟨x, o, e3, e4, h⟩ := paired_at pd i (List.getElem?_eq_some_iff.mp ho).1
      rw [hy] at e3
      rw [ho] at e4
      cases e3
      cases e4
      exact NuV.gr h g4
/-! ### a text of one line -/
def spAloneA (K : PySem.W.Frag) (cU f : Addr) (sp : Sp) : Sp := fun vs H Q E => ∃ z : Str, vs = [.str z, .ref f] ∧ z.length ≤ 900000 ∧ ∀ l0 rest, Txt.split z "\n" = l0 :: rest → ∀ H1 (Kc : VK), Gr H H1 →
  (∀ v H2, Gr H1 H2 → ((v = .non ∧ RsE cU (.int 1) H E) ∨ (v ≠ .non ∧ rest ≠ [] ∧ RsE cU (.int 2) H E) ∨ (v ≠ .non ∧ rest = [] ∧ Q v H2)) → Kc v H2) → sp [.str l0] H1 Kc E0
theorem tln : tl ("\n" : Str) ≠ [] := by rw [tl_nl]; exact List.cons_ne_nil _ _
theorem cx_alone {k : Nat} {x y : Str} {sp : Sp} (h1 : 1 ≤ k) (D : Df K mg "_read_alone" s__read_alone) (B : Blt mg) (R : ErU K mg fI cU) (CL : Cl P w K mg base 1 "_lines_of" ["text"] (spLines K)) (C : Cl P w K mg base k x [y] sp) : ∃ f, mg x = some (.ref f) ∧ ClXN P w K mg base (k + 1) "_read_alone" ["text", "shown_in"] (spAloneA K cU f sp) := by
  obtain ⟨f, fd, FO, hm, hk, hb⟩ := C.ex
  refine ⟨f, hm, ?_⟩
  refine D.clXN (fun _ _ _ _ _ _ us hl => match us, hl with | [_, _], _ => rfl) fun f' fd' F => okXN F sc_alone (fun vs H Q E h => ?_) (fun cdv A outer s H vs Q E hr h => ?_)
  · obtain ⟨z, rfl, _⟩ := h
    rfl
  obtain ⟨z, rfl, lz, q⟩ := h
  refine ⟨_, (pss_cons (ps_set (i := 2) sc_alone.nd rfl (.inl rfl) (pe_cl CL (hr.mono h1) (pa_cons (pv 0) pa_nil)))
    (pss_cons (ps_set (i := 3) sc_alone.nd rfl (.inl rfl) (pe_callL (i := 1) (f := f) (E := E0) FO hr rfl (Or.inl rfl) hk hb .nil pass0 (pa_cons (pe_ix ix_list (pv 2) pe_int (fun _ _ => rfl)) pa_nil)))
    (pss_cons (ps_if (pt_cmp (pc_isN (pv 3))) (pss_one (L2N.ps_raise rfl (L2N.takes_of rfl rfl rfl rfl) (pmk_errN R.c.txt R.u R.c.at' hr pe_int))) pss_nil)
    (pss_cons (ps_if (pt_cmpR op_gt (pe_len (pv 2) B.len) pe_int (nomark _)) (pss_one (L2N.ps_raise rfl (L2N.takes_of rfl rfl rfl rfl) (pmk_errN R.c.txt R.u R.c.at' hr pe_int))) pss_nil)
    (pss_one (ps_ret (pv 3))))))), ?_⟩
  refine ⟨_, rfl, z, rfl, by omega, fun L H1 g1 hL => ?_⟩
  have sn := split_ne z "\n" tln (by decide +kernel)
  have sl := (split_len (z := z) tln (by decide +kernel)).1
  generalize es : Txt.split z "\n" = ls at hL sn sl
  cases ls with
  | nil => exact absurd rfl sn
  | cons l0 rest =>
    refine ⟨rfl, _, rfl, L, _, _, .str l0, rfl, rfl, SqL.of hL, atI_nat (j := 0) rfl, ?_⟩
    refine q l0 rest es H1 _ g1 fun v H2 g2 hv => ?_
    refine ⟨_, rfl, _, rfl, ?_⟩
    have len : (v ≠ .non) → (((l0 :: rest).map V.str).length : Int) = ((rest.length + 1 : Nat) : Int) := fun _ => by rw [List.length_map, List.length_cons]
    rcases hv with ⟨rfl, r⟩ | ⟨nv, nr, r⟩ | ⟨nv, er, qv⟩
    · exact iteP rfl (r.gr (g1.trans g2)).new
    · have : 0 < rest.length := List.length_pos_iff.mpr nr
      refine iteN nv ⟨_, rfl, L, _, rfl, .inl (SqL.of (g2.lstK hL)), _, _, rfl, rfl, _, rfl, iteP ?_ (r.gr (g1.trans g2)).new⟩
      show (1 : Int) < (((l0 :: rest).map V.str).length : Int)
      rw [len nv]
      omega
    · subst er
      exact iteN nv ⟨_, rfl, L, _, rfl, .inl (SqL.of (g2.lstK hL)), _, _, rfl, rfl, _, rfl, iteN (by show ¬ (1 : Int) < ((1 : Nat) : Int); decide) ⟨_, rfl, qv⟩⟩
/-- what a reader of one line tells of a text: by what a line shows -/
def spRdA {α : Type} (cU : Addr) (W : Str → Option α) (Rv : V → α → Hp → Prop) (T : Hp → Prop) : Sp := fun vs H Q E => ∃ z : Str, vs = [.str z] ∧ T H ∧ z.length ≤ 900000 ∧ ∀ l0 rest, Txt.split z "\n" = l0 :: rest →
  (W l0 = none → RsE cU (.int 1) H E) ∧ ∀ a, W l0 = some a → (rest ≠ [] → RsE cU (.int 2) H E) ∧ (rest = [] → ∀ v H', Gr H H' → Rv v a H' → Q v H')
theorem alone_of {α : Type} {W : Str → Option α} {Rv : V → α → Hp → Prop} {f : Addr} {sp : Sp} {T : Hp → Prop} (tg : ∀ H H', Gr H H' → T H → T H') (nn : ∀ v a H, Rv v a H → v ≠ .non)
    (use : ∀ (l0 : Str) (H1 : Hp) (Kc : VK), T H1 → l0.length ≤ 900000 → (W l0 = none → ∀ H', Gr H1 H' → Kc .non H') → (∀ a, W l0 = some a → ∀ v H', Gr H1 H' → Rv v a H' → Kc v H') → sp [.str l0] H1 Kc E0)
    {z : Str} {H : Hp} {Q : VK} {E : XK} (t : T H) (lz : z.length ≤ 900000)
    (h : ∀ l0 rest, Txt.split z "\n" = l0 :: rest → (W l0 = none → RsE cU (.int 1) H E) ∧ ∀ a, W l0 = some a → (rest ≠ [] → RsE cU (.int 2) H E) ∧ (rest = [] → ∀ v H', Gr H H' → Rv v a H' → Q v H')) : spAloneA K cU f sp [.str z, .ref f] H Q E := by
  refine ⟨z, rfl, lz, fun l0 rest es H1 Kc g1 kc => ?_⟩
  have sm := (split_len (z := z) tln (by decide +kernel)).2 l0 (by rw [es]; exact List.mem_cons_self)
  obtain ⟨h1, h2⟩ := h l0 rest es
  refine use l0 H1 Kc (tg _ _ g1 t) (by omega) (fun e H' g' => kc _ _ g' (.inl ⟨rfl, h1 e⟩)) (fun a e v H' g' hv => ?_)
  by_cases er : rest = []
  · exact kc _ _ g' (.inr (.inr ⟨nn v a H' hv, er, (h2 a e).2 er v H' (g1.trans g') hv⟩))
  · exact kc _ _ g' (.inr (.inl ⟨nn v a H' hv, er, (h2 a e).1 er⟩))
theorem cx_rdNum (D : Df K mg "read_number" s_read_number) (DA : Df K mg "_read_alone" s__read_alone) (B : Blt mg) (R : ErU K mg fI cU) (CL : Cl P w K mg base 1 "_lines_of" ["text"] (spLines K)) (C : Cl P w K mg base 2 "number_in" ["word"] (spNumA K)) : ClXN P w K mg base 4 "read_number" ["text"] (spRdA cU numW (fun v r H => NuV K H v r) fun _ => True) := by
  obtain ⟨fa, ma, CA⟩ := cx_alone (by decide) DA B R CL C
  refine D.clXN (fun _ _ _ _ _ _ us hl => match us, hl with | [_], _ => rfl) fun f fd F => okXN F sc_rdNum (fun vs H Q E h => ?_) (fun cdv A outer s H vs Q E hr h => ?_)
  · obtain ⟨z, rfl, _⟩ := h
    rfl
  obtain ⟨z, rfl, t, lz, q⟩ := h
  refine ⟨_, (pss_one (ps_ret (pe_clXN CA (L2N.takes_of rfl rfl rfl rfl) (hr.mono (by decide)) (pa_cons (pv 0) (pa_cons (pe_glob (v := .ref fa) rfl ma rfl) pa_nil))))), ?_⟩
  exact ⟨_, rfl, alone_of (K := K) (fun _ _ _ _ => trivial) (fun v a H ⟨_, e, _⟩ => by rw [e]; exact fun z => nomatch z) (fun l0 H1 Kc _ l n s => ⟨l0, rfl, l, n, s⟩) t lz q⟩
theorem cx_rdPt (D : Df K mg "read_point" s_read_point) (DA : Df K mg "_read_alone" s__read_alone) (B : Blt mg) (R : ErU K mg fI cU) (CL : Cl P w K mg base 1 "_lines_of" ["text"] (spLines K)) (C : Cl P w K mg base 3 "point_in" ["line"] (spPtA K)) : ClXN P w K mg base 5 "read_point" ["text"] (spRdA cU ptW (fun v r H => PtV K H v r) fun _ => True) := by
  obtain ⟨fa, ma, CA⟩ := cx_alone (by decide) DA B R CL C
  refine D.clXN (fun _ _ _ _ _ _ us hl => match us, hl with | [_], _ => rfl) fun f fd F => okXN F sc_rdPt (fun vs H Q E h => ?_) (fun cdv A outer s H vs Q E hr h => ?_)
  · obtain ⟨z, rfl, _⟩ := h
    rfl
  obtain ⟨z, rfl, t, lz, q⟩ := h
  refine ⟨_, (pss_one (ps_ret (pe_clXN CA (L2N.takes_of rfl rfl rfl rfl) (hr.mono (by decide)) (pa_cons (pv 0) (pa_cons (pe_glob (v := .ref fa) rfl ma rfl) pa_nil))))), ?_⟩
  exact ⟨_, rfl, alone_of (K := K) (fun _ _ _ _ => trivial) (fun v a H ⟨_, _, e, _⟩ => by rw [e]; exact fun z => nomatch z) (fun l0 H1 Kc _ l n s => ⟨l0, rfl, l, n, s⟩) t lz q⟩
theorem cx_rdRow {T : Nat → Addr} (D : Df K mg "read_row" s_read_row) (DA : Df K mg "_read_alone" s__read_alone) (B : Blt mg) (R : ErU K mg fI cU) (CL : Cl P w K mg base 1 "_lines_of" ["text"] (spLines K)) (C : Cl P w K mg base 3 "row_in" ["word"] (spRowA K T)) : ClXN P w K mg base 5 "read_row" ["text"] (spRdA cU rowW (fun v hs H => ∃ p, v = .ref p ∧ SqT K H p (hs.map hopeV)) (Tb5 T)) := by
  obtain ⟨fa, ma, CA⟩ := cx_alone (by decide) DA B R CL C
  refine D.clXN (fun _ _ _ _ _ _ us hl => match us, hl with | [_], _ => rfl) fun f fd F => okXN F sc_rdRow (fun vs H Q E h => ?_) (fun cdv A outer s H vs Q E hr h => ?_)
  · obtain ⟨z, rfl, _⟩ := h
    rfl
  obtain ⟨z, rfl, t, lz, q⟩ := h
  refine ⟨_, (pss_one (ps_ret (pe_clXN CA (L2N.takes_of rfl rfl rfl rfl) (hr.mono (by decide)) (pa_cons (pv 0) (pa_cons (pe_glob (v := .ref fa) rfl ma rfl) pa_nil))))), ?_⟩
  exact ⟨_, rfl, alone_of (K := K) (fun _ _ g t => Tb5.gr t g) (fun v a H ⟨_, e, _⟩ => by rw [e]; exact fun z => nomatch z) (fun l0 H1 Kc t l n s => ⟨l0, rfl, t, l, n, fun hs e p H' g h => s hs e _ H' g ⟨p, rfl, h⟩⟩) t lz q⟩
theorem cx_rdWish {T : Nat → Addr} (D : Df K mg "read_wish" s_read_wish) (DA : Df K mg "_read_alone" s__read_alone) (B : Blt mg) (R : ErU K mg fI cU) (CL : Cl P w K mg base 1 "_lines_of" ["text"] (spLines K)) (C : Cl P w K mg base 2 "wish_in" ["word"] (spWishA K T)) : ClXN P w K mg base 4 "read_wish" ["text"] (spRdA cU wishW (fun v hs H => ∃ p, v = .ref p ∧ SqT K H p (hs.map hopeV)) (Tb5 T)) := by
  obtain ⟨fa, ma, CA⟩ := cx_alone (by decide) DA B R CL C
  refine D.clXN (fun _ _ _ _ _ _ us hl => match us, hl with | [_], _ => rfl) fun f fd F => okXN F sc_rdWish (fun vs H Q E h => ?_) (fun cdv A outer s H vs Q E hr h => ?_)
  · obtain ⟨z, rfl, _⟩ := h
    rfl
  obtain ⟨z, rfl, t, lz, q⟩ := h
  refine ⟨_, (pss_one (ps_ret (pe_clXN CA (L2N.takes_of rfl rfl rfl rfl) (hr.mono (by decide)) (pa_cons (pv 0) (pa_cons (pe_glob (v := .ref fa) rfl ma rfl) pa_nil))))), ?_⟩
  exact ⟨_, rfl, alone_of (K := K) (fun _ _ g t => Tb5.gr t g) (fun v a H ⟨_, e, _⟩ => by rw [e]; exact fun z => nomatch z) (fun l0 H1 Kc t l n s => ⟨l0, rfl, t, l, n, fun hs e p H' g h => s hs e _ H' g ⟨p, rfl, h⟩⟩) t lz q⟩
end
end SB
namespace SB
open PySem PySem.NumText L2 GxR GA RZ RP TL
/-! ### no saying begins there -/
section
variable {P : Program} {w : World} {K : PySem.W.Frag} {mg : Str → Option Value} {base : Heap} {fI cU : Addr}
theorem iteT2 {x y : V} {A B : Prop} (h : ¬ x = y) (a : A) : if (!decide (x = y)) = true then A else B := by
  rw [decide_eq_false h]
  exact iteT a
def NoOp (z : Str) : Prop := ∃ c r, tl z = c :: r ∧ c ≠ 40
def spOpenN (K : PySem.W.Frag) : Sp := fun vs H Q _ => ∃ z : Str, vs = [.str z, .int 0] ∧ NoOp z ∧ z.length ≤ 900000 ∧ ∀ T H', Gr H H' → SqT K H' T [.non, .int 0] → Q (.ref T) H'
theorem sc_openN : FnScope ["line", "at", "blank", "word", "opening", "closing", "end", "sides", "wall"] ["line", "at"] (defScope s__opened_at) := ⟨rfl, rfl, rfl, by decide +kernel, rfl, by decide +kernel, by decide +kernel⟩
theorem cl_openN (D : Df K mg "_opened_at" s__opened_at) : Cl P w K mg base 3 "_opened_at" ["line", "at"] (spOpenN K) := by
  refine D.cl (fun _ _ _ _ _ _ us hl => match us, hl with | [_, _], _ => rfl) fun f fd F => F.ok sc_openN (fun vs H Q E h => ?_) (fun cdv A outer s H vs Q E hr h => ?_)
  · obtain ⟨z, rfl, _⟩ := h
    rfl
  obtain ⟨z, rfl, ⟨c, r, hz, nc⟩, lz, q⟩ := h
  refine ⟨_, (pss_cons (ps_set (i := 2) sc_openN.nd rfl (.inl rfl) (pe_bm PySem.F.plainAttrs_str PySem.F.slot_str_find PySem.F.type_str_find mt_find3 (pv 0) (pa_cons pe_str (pa_cons (pv 1) pa_nil))))
    (pss_cons (ps_if (PW.pt (by exact (pw_or (pt_cmpR op_ne (pe_slice sl_str (pv 0) (po_some (pv 1)) (po_some (pe_op op_add (pv 1) pe_int))) pe_str (nomark _)) (pw_or1 (pt_cmpR op_lt (pv 2) pe_int (nomark _)))))) (pss_one (ps_ret (pe_tup (pa_cons pe_non (pa_cons (pv 1) pa_nil))))) pss_nil) pss_no)), ?_⟩
  have sz := sz15 (n := z.length) (by omega)
  have fo0 : cutS z (some ((([] : List Nat).length : Nat) : Int)) (some (((([] : List Nat).length + (tl (⟨#[c]⟩ : Str)).length : Nat)) : Int)) = ⟨#[c]⟩ := cut_mid (A := []) (C := r) (by rw [hz]; rfl)
  have ne : (⟨#[c]⟩ : Str) ≠ "(" := fun h => nc (by
    have := congrArg tl h
    rw [tl_op] at this
    have e1 : tl (⟨#[c]⟩ : Str) = [c] := rfl
    rw [e1] at this
    exact (List.cons.inj this).1)
  refine ⟨_, rfl, rfl, _, rfl, _, _, _, rfl, rfl, ?_⟩
  refine ⟨_, rfl, _, rfl, _, rfl, _, rfl, _, _, rfl, rfl, _, rfl, z, rfl, sz, rfl, _, rfl, ?_⟩
  have fo : cutS z (some (0 : Int)) (some ((0 : Int) + 1)) = ⟨#[c]⟩ := fo0
  rw [show V.str (cutS z (some (0 : Int)) (some ((0 : Int) + 1))) = V.str ⟨#[c]⟩ from congrArg V.str fo]
  refine iteT2 (fun h => ne (by injection h)) ⟨_, rfl, szN (by show 2 ≤ 1000000; decide), fun T nT => ?_⟩
  exact q T _ ((Gr.refl H).new nT _) (SqT.of upd_same)
def spSayN : Sp := fun vs H Q _ => ∃ z : Str, vs = [.str z] ∧ NoOp z ∧ z.length ≤ 900000 ∧ ∀ H', Gr H H' → Q .non H'
theorem sc_sayN : FnScope ["line", "waiting", "many", "whole", "at", "opened"] ["line"] (defScope s__saying_in) := ⟨rfl, rfl, rfl, by decide +kernel, rfl, by decide +kernel, by decide +kernel⟩
theorem cl_sayN (D : Df K mg "_saying_in" s__saying_in) (CO : Cl P w K mg base 3 "_opened_at" ["line", "at"] (spOpenN K)) : Cl P w K mg base 4 "_saying_in" ["line"] spSayN := by
  refine D.cl (fun _ _ _ _ _ _ us hl => match us, hl with | [_], _ => rfl) fun f fd F => F.ok sc_sayN (fun vs H Q E h => ?_) (fun cdv A outer s H vs Q E hr h => ?_)
  · obtain ⟨z, rfl, _⟩ := h
    rfl
  obtain ⟨z, rfl, no, lz, q⟩ := h
  refine ⟨_, (pss_cons (ps_set (i := 1) sc_sayN.nd rfl (.inl rfl) (pe_lst pa_nil))
    (pss_cons (ps_set (i := 2) sc_sayN.nd rfl (.inl rfl) (pe_lst pa_nil))
    (pss_cons (ps_set (i := 3) sc_sayN.nd rfl (.inl rfl) pe_non)
    (pss_cons (ps_set (i := 4) sc_sayN.nd rfl (.inl rfl) pe_int)
    (pss_cons (ps_while PassesOwn.never (pt_cmp (pc_isN (pv 3))) (pss_cons (ps_asg (pe_cl CO (hr.mono (by decide)) (pa_cons (pv 0) (pa_cons (pv 4) pa_nil))) (pg_tup rfl (pgs_cons (pg_name (i := 5) sc_sayN.nd rfl (Or.inl rfl)) (pgs_cons (pg_name (i := 4) sc_sayN.nd rfl (Or.inl rfl)) pgs_nil))))
      (pss_cons (ps_if (pt_cmp (pc_isN (pv 5))) (pss_one (ps_ret pe_non)) pss_nil) pss_no))) pss_no))))), ?_⟩
  refine ⟨szL0, fun Wl nW => ?_⟩
  have r1 := (Gr.refl H).new nW (.lst [])
  refine ⟨szL0, fun Ml nM => ?_⟩
  have r2 := r1.new nM (.lst [])
  generalize upd (upd H Wl (.lst [])) Ml (.lst []) = H0 at r2 ⊢
  refine ⟨fun m σ H1 => Gr H H1 ∧ σ = [some (.str z), some (.ref Wl), some (.ref Ml), some .non, some (.int 0), none], ⟨0, r2, rfl⟩, fun m σ H1 hw => ?_⟩
  obtain ⟨g1, rfl⟩ := hw
  refine ⟨_, rfl, _, rfl, iteP rfl ⟨fun σ' H' => False, fun σ' H' h => h.elim, ?_⟩⟩
  refine ⟨_, rfl, _, rfl, z, rfl, no, lz, fun T H2 g2 hT => ?_⟩
  refine ⟨T, _, rfl, hT, rfl, _, _, rfl, _, _, rfl, rfl, ?_⟩
  exact ⟨_, rfl, _, rfl, iteP rfl (q H2 (g1.trans g2))⟩
def spRdSayN (cU : Addr) : Sp := fun vs H Q E => ∃ z : Str, vs = [.str z] ∧ z.length ≤ 900000 ∧ (∀ l0 rest, Txt.split z "\n" = l0 :: rest → NoOp l0) ∧ RsE cU (.int 1) H E
theorem sc_rdSayN : FnScope ["text"] ["text"] (defScope s_read_saying) := ⟨rfl, rfl, rfl, by decide +kernel, rfl, by decide +kernel, by decide +kernel⟩
theorem cx_rdSayN (D : Df K mg "read_saying" s_read_saying) (DA : Df K mg "_read_alone" s__read_alone) (B : Blt mg) (R : ErU K mg fI cU) (CL : Cl P w K mg base 1 "_lines_of" ["text"] (spLines K)) (C : Cl P w K mg base 4 "_saying_in" ["line"] spSayN) : ClXN P w K mg base 6 "read_saying" ["text"] (spRdSayN cU) := by
  obtain ⟨fa, ma, CA⟩ := cx_alone (by decide) DA B R CL C
  refine D.clXN (fun _ _ _ _ _ _ us hl => match us, hl with | [_], _ => rfl) fun f fd F => okXN F sc_rdSayN (fun vs H Q E h => ?_) (fun cdv A outer s H vs Q E hr h => ?_)
  · obtain ⟨z, rfl, _⟩ := h
    rfl
  obtain ⟨z, rfl, lz, no, r⟩ := h
  refine ⟨_, (pss_one (ps_ret (pe_clXN CA (L2N.takes_of rfl rfl rfl rfl) (hr.mono (by decide)) (pa_cons (pv 0) (pa_cons (pe_glob (v := .ref fa) rfl ma rfl) pa_nil))))), ?_⟩
  refine ⟨_, rfl, z, rfl, lz, fun l0 rest es H1 Kc g1 kc => ?_⟩
  have sm := (split_len (z := z) tln (by decide +kernel)).2 l0 (by rw [es]; exact List.mem_cons_self)
  exact ⟨l0, rfl, no l0 rest es, by omega, fun H' g' => kc _ _ g' (.inl ⟨rfl, r⟩)⟩
end
end SB
namespace SB
open PySem PySem.NumText L2 GxR GA RZ RP TL
/-! ### what read_book tells of any text -/
def bkHead (l0 : Str) : Option Int := match Txt.split l0 " " with
  | [a, b] => if a = "book" then intW b else none
  | _ => none
def firstNone : List Str → Nat
  | [] => 0
  | l :: r => if questW l = none then 0 else firstNone r + 1
def bkD (d : Int) (qs : List (List Int × Int)) : Bool := bookD (.tuple [.int d, .tuple (qs.map quP)])
/-- the line that can not stand (0: none), or the book -/
inductive BkO where
  | no (n : Int)
  | yes (d : Int) (qs : List (List Int × Int))
def bkOutL : List Str → BkO
  | [] => .no 1
  | l0 :: rest => match bkHead l0 with
    | none => .no 1
    | some d => match optAll (rest.map questW) with
      | none => .no (((firstNone rest : Nat) : Int) + 2)
      | some qs => if bkD d qs then .yes d qs else .no 0
theorem bkOutL_c (l0 : Str) (rest : List Str) : bkOutL (l0 :: rest) = match bkHead l0 with
    | none => .no 1
    | some d => match optAll (rest.map questW) with
      | none => .no (((firstNone rest : Nat) : Int) + 2)
      | some qs => if bkD d qs then .yes d qs else .no 0 := rfl
def bkOut (z : Str) : BkO := bkOutL (Txt.split z "\n")
theorem first_none : ∀ {ls : List Str} {i : Nat} {l : Str}, ls[i]? = some l → questW l = none → (∀ j m, j < i → ls[j]? = some m → questW m ≠ none) → firstNone ls = i
  | [], i, l, h, _, _ => by cases h
  | m :: r, 0, l, h, e, _ => by
    cases h
    unfold firstNone
    rw [if_pos e]
  | m :: r, i + 1, l, h, e, a => by
    have := first_none (ls := r) (i := i) h e fun j k hj hk => a (j + 1) k (by omega) hk
    unfold firstNone
    rw [if_neg (a 0 m (by omega) rfl), this]
def BkI (K : PySem.W.Frag) (H : Hp) (x : V) (d : Int) (qs : List (List Int × Int)) : Prop := ∃ a b xs, x = .ref a ∧ SqT K H a [.int d, .ref b] ∧ SqT K H b xs ∧ Paired (QuV K H) xs qs
theorem BkI.gr {K : PySem.W.Frag} {H H' : Hp} {x : V} {d : Int} {qs : List (List Int × Int)} (h : BkI K H x d qs) (g : Gr H H') : BkI K H' x d qs := let ⟨a, b, xs, e, h1, h2, h3⟩ := h; ⟨a, b, xs, e, g.seqT h1, g.seqT h2, Paired.mapP h3 fun _ _ z => QuV.gr z g⟩
theorem small_any {d : Int} {qs : List (List Int × Int)} (l : qs.length ≤ 60) (h : ∀ q, q ∈ qs → q.1.length ≤ 900000 ∧ (∀ z, z ∈ q.1 → z.natAbs < 10 ^ 9) ∧ q.2.natAbs < 10 ^ 9) : SmallD (.tuple [.int d, .tuple (qs.map quP)]) := by
  have t : ∀ z : Int, z.natAbs < 10 ^ 9 → z.natAbs < 2 ^ 10000 := fun z hz => Nat.lt_trans (dg_big hz (by decide)) (Nat.pow_lt_pow_right (by decide) (by decide))
  refine ⟨by show (qs.map quP).length ≤ 60; rw [List.length_map]; omega, fun z hz _ => ?_⟩
  obtain ⟨q, hq, rfl⟩ := List.mem_map.mp (show z ∈ qs.map quP from hz)
  rw [uD_qu]
  obtain ⟨a, b, c⟩ := h q hq
  exact ⟨a, fun z hz => t z (b z hz), t _ c⟩
theorem questW_lt {z : Str} {q : List Int × Int} (h : questW z = some q) (l : z.length ≤ 800000) : q.1.length ≤ 900000 ∧ (∀ x, x ∈ q.1 → x.natAbs < 10 ^ 9) ∧ q.2.natAbs < 10 ^ 9 := by
  have po := cutp_ok z " : " tlc
  unfold questW questP at h
  have l1 := po.l1
  split at h
  · cases e1 : sidesW (Txt.partition z " : ").1 with
    | none => rw [e1] at h; cases h
    | some ns =>
      rw [e1] at h
      cases e2 : intW (Txt.partition z " : ").2.2 with
      | none => rw [e2] at h; cases h
      | some w =>
        rw [e2] at h
        cases h
        obtain ⟨a, b, _⟩ := sidesW_lt e1
        exact ⟨by show ns.length ≤ 900000; omega, a, intW_lt e2⟩
  · cases h
section
variable {P : Program} {w : World} {K : PySem.W.Frag} {mg : Str → Option Value} {base : Heap} {fI cU : Addr}
def spRdBkA (K : PySem.W.Frag) (cU : Addr) : Sp := fun vs H Q E => ∃ z : Str, vs = [.str z] ∧ z.length ≤ 800000 ∧ (Txt.split z "\n").length ≤ 61 ∧ (∀ n, bkOut z = .no n → RsE cU (.int n) H E) ∧ (∀ d qs, bkOut z = .yes d qs → ∀ v H', Gr H H' → BkI K H' v d qs → Q v H')
theorem cx_rdBook (D : Df K mg "read_book" s_read_book) (B : Blt mg) (ben : mg "enumerate" = none) (R : ErU K mg fI cU) (CL : Cl P w K mg base 1 "_lines_of" ["text"] (spLines K)) (CI : Cl P w K mg base 1 "integer_in" ["word"] spIntA) (CQ : Cl P w K mg base 3 "_question_in" ["line"] (spQuA K)) (CB : Cl P w K mg base 37 "is_book" ["told"] (spBookD K)) : ClXN P w K mg base 38 "read_book" ["text"] (spRdBkA K cU) := by
  refine D.clXN (fun _ _ _ _ _ _ us hl => match us, hl with | [_], _ => rfl) fun f fd F => okXN F sc_rdBook (fun vs H Q E h => ?_) (fun cdv A outer s H vs Q E hr h => ?_)
  · obtain ⟨z, rfl, _⟩ := h
    rfl
  obtain ⟨z, rfl, lz, ll, rno, q⟩ := h
  refine ⟨_, (pss_cons (ps_set (i := 1) sc_rdBook.nd rfl (.inl rfl) (pe_cl CL (hr.mono (by decide)) (pa_cons (pv 0) pa_nil)))
    (pss_cons (ps_set (i := 2) sc_rdBook.nd rfl (.inl rfl) (pe_split (pe_ix ix_list (pv 1) pe_int (fun _ _ => rfl)) pe_str))
    (pss_cons (ps_set (i := 3) sc_rdBook.nd rfl (.inl rfl) (pe_ifExp (PW.pt (by exact (pw_and (pt_cmpR op_eq (pe_len (pv 2) B.len) pe_int (nomark _)) (pw_and1 (pt_cmpR op_eq (pe_ix ix_list (pv 2) pe_int (fun _ _ => rfl)) pe_str (nomark _)))))) (pe_cl CI (hr.mono (by decide)) (pa_cons (pe_ix ix_list (pv 2) pe_int (fun _ _ => rfl)) pa_nil)) pe_non))
    (pss_cons (ps_if (pt_cmp (pc_isN (pv 3))) (pss_one (L2N.ps_raise rfl (L2N.takes_of rfl rfl rfl rfl) (pmk_errN R.c.txt R.u R.c.at' hr pe_int))) pss_nil)
    (pss_cons (ps_set (i := 4) sc_rdBook.nd rfl (.inl rfl) (pe_lst pa_nil))
    (pss_cons (ps_for (passes_of rfl) rfl (pi_enum rfl ben (pa_cons (pe_slice sl_list (pv 1) (po_some pe_int) po_none) pa_nil)) (pg_tup rfl (pgs_cons (pg_name (i := 5) sc_rdBook.nd rfl (Or.inl rfl)) (pgs_cons (pg_name (i := 6) sc_rdBook.nd rfl (Or.inl rfl)) pgs_nil)))
      (pss_cons (ps_set (i := 7) sc_rdBook.nd rfl (.inl rfl) (pe_cl CQ (hr.mono (by decide)) (pa_cons (pv 6) pa_nil)))
      (pss_cons (ps_if (pt_cmp (pc_isN (pv 7))) (pss_one (L2N.ps_raise rfl (L2N.takes_of rfl rfl rfl rfl) (pmk_errN R.c.txt R.u R.c.at' hr (pe_op op_add (pv 5) pe_int)))) pss_nil)
      (pss_one (ps_expr (pe_bm PySem.F.plainAttrs_list PySem.F.slot_list_append PySem.F.type_list_append mt_append (pv 4) (pa_cons (pv 7) pa_nil)))))))
    (pss_cons (ps_set (i := 8) sc_rdBook.nd rfl (.inl rfl) (pe_tup (pa_cons (pv 3) (pa_cons (pe_callTy call_tuple_of rfl B.tup bootTup (pa_cons (pv 4) pa_nil)) pa_nil))))
    (pss_cons (ps_if (pt_not (pt_val (pe_cl CB (hr.mono (by decide)) (pa_cons (pv 8) pa_nil)))) (pss_one (L2N.ps_raise rfl (L2N.takes_of rfl rfl rfl rfl) (pmk_errN R.c.txt R.u R.c.at' hr pe_int))) pss_nil)
    (pss_one (ps_ret (pv 8))))))))))), ?_⟩
  refine ⟨_, rfl, z, rfl, by omega, fun L H1 g1 hL => ?_⟩
  have sn := split_ne z "\n" tln (by decide +kernel)
  obtain ⟨_, sm⟩ := split_len (z := z) tln (by decide +kernel)
  have eo : bkOut z = bkOutL (Txt.split z "\n") := rfl
  generalize Txt.split z "\n" = ls at hL sn sm ll eo
  cases ls with
  | nil => exact absurd rfl sn
  | cons l0 rest =>
    have m0 : l0.length ≤ 800000 := Nat.le_trans (sm l0 List.mem_cons_self) lz
    have mr : ∀ l, l ∈ rest → l.length ≤ 800000 := fun l h => Nat.le_trans (sm l (List.mem_cons_of_mem _ h)) lz
    rw [List.length_cons] at ll
    refine ⟨_, rfl, L, _, _, .str l0, rfl, rfl, SqL.of hL, atI_nat (j := 0) rfl, ⟨_, rfl⟩, _, _, rfl, rfl, rfl, sz15 (by omega), fun W nW => ?_⟩
    have rW := (Gr.refl H1).new nW (.lst ((Txt.split l0 " ").map V.str))
    have hW : SqL K (upd H1 W (.lst ((Txt.split l0 " ").map V.str))) W ((Txt.split l0 " ").map V.str) := SqL.of upd_same
    have g2 := g1.trans rW
    have hL2 := rW.lstK hL
    generalize upd H1 W (.lst ((Txt.split l0 " ").map V.str)) = H2 at rW hW g2 hL2 ⊢
    refine seq_join (fun σ' H' => σ' = [some (.str z), some (.ref L), some (.ref W), none, none, none, none, none, none] ∧ H' = H2) (fun σ' H2a h => ?_) (fun Kn hK => hK _ _ ⟨rfl, rfl⟩)
    obtain ⟨rfl, rfl⟩ := h
    refine seq_join (fun σ' H' => σ' = [some (.str z), some (.ref L), some (.ref W), some (hopeV (bkHead l0)), none, none, none, none, none] ∧ H' = H2a) (fun σ' H2' h => ?_) (fun Kn hK => ?_)
    rotate_left
    · have eh : bkHead l0 = match Txt.split l0 " " with
        | [a, b] => if a = "book" then intW b else none
        | _ => none := rfl
      obtain ⟨_, wm⟩ := split_len (z := l0) tlb (by decide +kernel)
      have wn := split_ne l0 " " tlb (by decide +kernel)
      generalize Txt.split l0 " " = ws at hW eh wm wn
      refine ⟨_, rfl, W, _, rfl, .inl hW, rfl, _, rfl, ?_⟩
      match ws, hW, eh, wm, wn with
      | [], _, _, _, wn => exact absurd rfl wn
      | [a], hW, eh, _, _ => exact iteF (hK _ _ ⟨by rw [eh]; rfl, rfl⟩)
      | a :: b :: c :: r, hW, eh, _, _ =>
        refine iteN (fun h => ?_) (hK _ _ ⟨by rw [eh]; rfl, rfl⟩)
        have h : ((((a :: b :: c :: r).map V.str).length : Nat) : Int) = 2 := by injection h
        rw [List.length_map, List.length_cons, List.length_cons, List.length_cons] at h
        omega
      | [a, b], hW, eh, wm, _ =>
        refine iteP rfl ⟨_, rfl, W, _, _, .str a, rfl, rfl, hW, atI_nat (j := 0) rfl, rfl, _, rfl, ?_⟩
        by_cases ea : a = ("book" : Str)
        · refine iteP (by rw [ea]) ⟨_, rfl, W, _, _, .str b, rfl, rfl, hW, atI_nat (j := 1) rfl, b, rfl, ?_, ?_⟩
          · have := wm b (List.mem_cons_of_mem _ List.mem_cons_self)
            omega
          · refine hK _ _ ⟨?_, rfl⟩
            rw [eh]
            dsimp only
            rw [if_pos ea]
            rfl
        · refine iteN (fun h => ea (by injection h)) ?_
          refine hK _ _ ⟨?_, rfl⟩
          rw [eh]
          dsimp only
          rw [if_neg ea]
          rfl
    obtain ⟨rfl, rfl⟩ := h
    cases ed : bkHead l0 with
    | none =>
      have e1 : bkOut z = .no 1 := by rw [eo, bkOutL_c, ed]
      exact ⟨_, rfl, _, rfl, iteP rfl ((rno 1 e1).gr g2).new⟩
    | some d =>
      have e1 : bkOut z = match optAll (rest.map questW) with
        | none => .no (((firstNone rest : Nat) : Int) + 2)
        | some qs => if bkD d qs then .yes d qs else .no 0 := by rw [eo, bkOutL_c, ed]
      refine ⟨_, rfl, _, rfl, iteN (fun z => nomatch z) ?_⟩
      refine ⟨szL0, fun F0 nF => ?_⟩
      have rF := (Gr.refl H2').new nF (.lst [])
      have hF : (upd H2' F0 (.lst [])) F0 = some (.lst []) := upd_same
      have g3 := g2.trans rF
      have hL3 := rF.lstK hL2
      generalize upd H2' F0 (.lst []) = H3 at rF hF g3 hL3 ⊢
      refine ⟨_, rfl, _, rfl, L, _, rfl, SqL.of hL3, fun C nC => ⟨C, _, rfl, SqL.of upd_same, ?_⟩⟩
      have rC := (Gr.refl H3).new nC (.lst (cutV ((l0 :: rest).map V.str) (some 1) none))
      have ec : cutV ((l0 :: rest).map V.str) (some 1) none = rest.map V.str := cut_tail _ _
      rw [ec] at rC ⊢
      have hC : (upd H3 C (.lst (rest.map V.str))) C = some (.lst (rest.map V.str)) := upd_same
      have g4 := g3.trans rC
      have hF4 := rC.lstK hF
      have nCF : C ≠ F0 := (ne_of_none hF nC).symm
      generalize upd H3 C (.lst (rest.map V.str)) = H4 at rC hC g4 hF4 ⊢
      have back : ∀ H', GrD F0 H4 H' → Gr H H' := fun H' g => g2.trans ((((rF.trans rC).d F0).trans g).to nF)
      refine for_enum (xs := rest.map V.str) (fun i σ H' => ∃ (c5 c6 c7 c8 : Option V) (ys : List V) (qi : List (List Int × Int)), σ = [some (.str z), some (.ref L), some (.ref W), some (.int d), some (.ref F0), c5, c6, c7, c8] ∧ GrD F0 H4 H' ∧ H' F0 = some (.lst ys) ∧ (rest.take i).map questW = qi.map some ∧ Paired (QuV K H') ys qi) ⟨_, _, _, _, [], [], rfl, GrD.refl _ _, hF4, rfl, .nil⟩ (fun i σ H' _ h => ?_) (fun i x σ H' Tp hx h nT => ?_) (fun σ H' h => ?_)
      · obtain ⟨c5, c6, c7, c8, ys, qi, rfl, g, _⟩ := h
        exact SqL.of (GrDL.lst g nCF hC)
      · obtain ⟨c5, c6, c7, c8, ys, qi, rfl, g, hy, hq, pp⟩ := h
        rw [List.getElem?_map] at hx
        obtain ⟨l, hl, rfl⟩ := Option.map_eq_some_iff.mp hx
        have ml := mr l (List.mem_of_getElem? hl)
        have hi := (List.getElem?_eq_some_iff.mp hl).1
        have rT := (Gr.refl H').new nT (.tup [.int ((i : Nat) : Int), .str l])
        refine ⟨Tp, _, rfl, SqT.of upd_same, rfl, _, _, rfl, _, _, rfl, rfl, ?_⟩
        refine ⟨_, rfl, l, rfl, by omega, fun e H5 g5 => ?_, fun q0 e v H5 g5 hv => ?_⟩
        · have fn : firstNone rest = i := first_none hl e fun j m hj hm en => by
            have a := congrArg (fun l : List (Option (List Int × Int)) => l[j]?) hq
            rw [List.getElem?_map, List.getElem?_map, List.getElem?_take_of_lt hj, hm, Option.map_some, en] at a
            cases b : qi[j]? with
            | none => rw [b] at a; cases a
            | some _ => rw [b] at a; cases a
          have eN : optAll (rest.map questW) = none := optAll_none.mpr (List.mem_map.mpr ⟨l, List.mem_of_getElem? hl, e⟩)
          have e2 : bkOut z = .no (((i : Nat) : Int) + 2) := by rw [e1, eN, fn]
          have r := (rno _ e2).gr ((back _ g).trans (rT.trans g5))
          exact ⟨_, rfl, _, rfl, iteP rfl ⟨_, rfl, _, _, rfl, rfl, r.new⟩⟩
        have gg := rT.trans g5
        refine ⟨_, rfl, _, rfl, iteN (by obtain ⟨a, s, rfl, _⟩ := hv; exact fun z => nomatch z) ?_⟩
        have hy5 := gg.lstK hy
        have ly := paired_len pp
        have lq := congrArg List.length hq
        rw [List.length_map, List.length_map, List.length_take] at lq
        refine ⟨_, rfl, .inl ⟨rfl, _, SqL.of hy5⟩, _, rfl, F0, ys, v, rfl, rfl, hy5, small1000 (by omega), ?_⟩
        have tp : Tst K H5 (upd H5 F0 (.lst (ys ++ [v]))) := Tst.put hy5
        refine ⟨_, _, _, _, ys ++ [v], qi ++ [q0], rfl, (g.trans (gg.d F0)).set _, upd_same, ?_, ?_⟩
        · rw [List.take_add_one, hl, List.map_append, hq, List.map_append]
          show _ ++ [questW l] = _
          rw [e]
          rfl
        · exact paired_app (Paired.mapP pp fun _ _ z => QuV.st (QuV.gr z gg) tp) (.cons (QuV.st hv tp) .nil)
      · obtain ⟨c5, c6, c7, c8, ys, qi, rfl, g, hy, hq, pp⟩ := h
        rw [List.length_map, List.take_length] at hq
        have lq := congrArg List.length hq
        rw [List.length_map, List.length_map] at lq
        have eS : optAll (rest.map questW) = some qi := by
          cases eq : optAll (rest.map questW) with
          | none =>
            have := optAll_none.mp eq
            rw [hq] at this
            obtain ⟨_, _, h⟩ := List.mem_map.mp this
            cases h
          | some l =>
            have := (optAll_some eq).symm.trans hq
            rw [List.map_inj_right (fun _ _ h => Option.some.inj h)] at this
            rw [this]
        have qb : ∀ q, q ∈ qi → q.1.length ≤ 900000 ∧ (∀ z, z ∈ q.1 → z.natAbs < 10 ^ 9) ∧ q.2.natAbs < 10 ^ 9 := fun q0 h => by
          have : some q0 ∈ rest.map questW := by
            rw [hq]
            exact List.mem_map.mpr ⟨q0, h, rfl⟩
          obtain ⟨l, hl, e⟩ := List.mem_map.mp this
          exact questW_lt e (mr l hl)
        refine ⟨_, rfl, _, rfl, F0, ys, rfl, .inl ⟨SqL.of hy, fun A nA => ⟨szN (by show 2 ≤ 1000000; decide), fun Tt nTt => ?_⟩⟩⟩
        have rA := (Gr.refl H').new nA (.tup ys)
        have rT := rA.new nTt (.tup [.int d, .ref A])
        have hb : BkI K (upd (upd H' A (.tup ys)) Tt (.tup [.int d, .ref A])) (.ref Tt) d qi := ⟨Tt, A, ys, rfl, SqT.of upd_same, ((Gr.refl _).new nTt _).seqT (SqT.of upd_same), Paired.mapP pp fun _ _ z => QuV.gr z rT⟩
        generalize upd (upd H' A (.tup ys)) Tt (.tup [.int d, .ref A]) = H6 at rT hb ⊢
        obtain ⟨a0, b0, xs0, e0, hs0, hb0, hp0⟩ := id hb
        refine ⟨_, rfl, .ref Tt, _, rfl, (by rw [e0]; exact .tup hs0 (.cons (.int _) (.cons (.tup hb0 (dp_qus hp0)) .nil))), small_any (by omega) qb, fun H7 g7 => ?_⟩
        have gz := (back _ g).trans (rT.trans g7)
        have e2 : bkOut z = if bkD d qi then .yes d qi else .no 0 := by rw [e1, eS]
        show ∃ b, _
        refine ⟨_, rfl, ?_⟩
        cases eb : bookD (.tuple [.int d, .tuple (qi.map quP)]) with
        | true =>
          have eb : bkD d qi = true := eb
          rw [eb, if_pos rfl] at e2
          exact iteF ⟨_, rfl, q _ _ e2 _ H7 gz (hb.gr g7)⟩
        | false =>
          have eb : bkD d qi = false := eb
          rw [eb] at e2
          exact iteT ((rno 0 e2).gr gz).new
end
end SB
namespace SB
open PySem PySem.NumText L2 GxR GA RZ RP TL
/-! ### texts that are cut and joined: how long, of how many lines -/
theorem sp1_nil (s : Nat) (acc : List Nat) : spl [s] 0 acc [] = [acc] := spl_nil _ _ _
theorem sp1_cons (s c : Nat) (acc r : List Nat) : spl [s] 0 acc (c :: r) = if c = s then acc :: spl [s] 0 [] r else spl [s] 0 (acc ++ [c]) r := by
  by_cases h : c = s
  · rw [if_pos h, spl_hit (by rw [pre1]; exact decide_eq_true h)]
    rfl
  · rw [if_neg h, spl_miss (by rw [pre1]; exact decide_eq_false h)]
theorem sp1_len (s : Nat) : ∀ (l acc : List Nat), (spl [s] 0 acc l).length = l.count s + 1
  | [], acc => by rw [sp1_nil]; rfl
  | c :: r, acc => by
    rw [sp1_cons]
    by_cases h : c = s
    · rw [if_pos h, List.length_cons, sp1_len s r, h, List.count_cons_self]
    · rw [if_neg h, sp1_len s r, List.count_cons_of_ne h]
theorem sp1_free (s : Nat) : ∀ (l acc : List Nat), s ∉ acc → ∀ p ∈ spl [s] 0 acc l, s ∉ p
  | [], acc, h, p, hp => by
    rw [sp1_nil] at hp
    rw [List.mem_singleton.mp hp]
    exact h
  | c :: r, acc, h, p, hp => by
    rw [sp1_cons] at hp
    by_cases k : c = s
    · rw [if_pos k] at hp
      rcases List.mem_cons.mp hp with rfl | hp
      · exact h
      · exact sp1_free s r [] (by simp) p hp
    · rw [if_neg k] at hp
      refine sp1_free s r _ (fun z => ?_) p hp
      rcases List.mem_append.mp z with z | z
      · exact h z
      · exact k (List.mem_singleton.mp z).symm
theorem sp1_mem (s : Nat) : ∀ (l acc : List Nat), ∀ p ∈ spl [s] 0 acc l, ∀ c ∈ p, c ∈ acc ∨ c ∈ l
  | [], acc, p, hp, c, hc => by
    rw [sp1_nil] at hp
    rw [List.mem_singleton.mp hp] at hc
    exact .inl hc
  | d :: r, acc, p, hp, c, hc => by
    rw [sp1_cons] at hp
    by_cases k : d = s
    · rw [if_pos k] at hp
      rcases List.mem_cons.mp hp with rfl | hp
      · exact .inl hc
      · rcases sp1_mem s r [] p hp c hc with h | h
        · cases h
        · exact .inr (List.mem_cons_of_mem _ h)
    · rw [if_neg k] at hp
      rcases sp1_mem s r _ p hp c hc with h | h
      · rcases List.mem_append.mp h with h | h
        · exact .inl h
        · exact .inr (by rw [List.mem_singleton.mp h]; exact List.mem_cons_self)
      · exact .inr (List.mem_cons_of_mem _ h)
/-- all of its signs are signs -/
def cpo (z : Str) : Prop := ∀ c, c ∈ tl z → c < 1114112
def cpoB (z : Str) : Bool := (tl z).all fun c => decide (c < 1114112)
theorem cpo_of {z : Str} (h : cpoB z = true) : cpo z := fun c hc => of_decide_eq_true (List.all_eq_true.mp h c hc)
theorem cpo_app {a b : Str} (h : cpo a) (k : cpo b) : cpo (a ++ b) := fun c hc => by
  rw [tl_append] at hc
  exact (List.mem_append.mp hc).elim (h c) (k c)
theorem split_cpo {z y p : Str} {s : Nat} (hy : tl y = [s]) (k : y.cps.all (· < 256) = true) (hz : cpo z) (h : p ∈ Txt.split z y) : cpo p := fun c hc => by
  have e := split_spl z y (by rw [hy]; exact List.cons_ne_nil _ _) (kind_ok k)
  rw [hy] at e
  have m : tl p ∈ (Txt.split z y).map tl := List.mem_map.mpr ⟨p, h, rfl⟩
  rw [e] at m
  rcases sp1_mem s _ _ _ m c hc with h | h
  · cases h
  · exact hz c h
theorem join_cpo {y : Str} {ps : List Str} (hy : cpo y) (h : ∀ p, p ∈ ps → cpo p) : cpo (Txt.join y ps) := fun c hc => by
  rw [join_eq, tl_join] at hc
  rcases joinL_mem hc with hc | ⟨l, hl, hc⟩
  · exact hy c hc
  · obtain ⟨p, hp, rfl⟩ := List.mem_map.mp hl
    exact h p hp c hc
/-- how many line ends -/
def nls (z : Str) : Nat := (tl z).count 10
theorem lines_len (z : Str) : (Txt.split z "\n").length = nls z + 1 := by
  have e := congrArg List.length (split_spl z "\n" tln (kind_ok (by decide +kernel)))
  rw [List.length_map, tl_nl, sp1_len] at e
  exact e
theorem lines_free {z p : Str} (h : p ∈ Txt.split z "\n") : nls p = 0 := by
  have e := split_spl z "\n" tln (kind_ok (by decide +kernel))
  rw [tl_nl] at e
  have m : tl p ∈ (Txt.split z "\n").map tl := List.mem_map.mpr ⟨p, h, rfl⟩
  rw [e] at m
  exact List.count_eq_zero.mpr (sp1_free 10 _ _ (by simp) _ m)
theorem words_free {z p : Str} (n : nls z = 0) (h : p ∈ Txt.split z " ") : nls p = 0 := by
  have e := split_spl z " " tlb (kind_ok (by decide +kernel))
  rw [tl_blank] at e
  have m : tl p ∈ (Txt.split z " ").map tl := List.mem_map.mpr ⟨p, h, rfl⟩
  rw [e] at m
  refine List.count_eq_zero.mpr fun c => ?_
  rcases sp1_mem 32 _ _ _ m 10 c with h | h
  · cases h
  · exact List.count_eq_zero.mp n h
/-- how long some texts are together -/
def lens (ps : List Str) : Nat := (ps.map (·.length)).sum
theorem split_lens {z y : Str} (hy : tl y ≠ []) (hk : y.cps.all (· < 256) = true) : lens (Txt.split z y) ≤ z.length := by
  have e := split_spl z y hy (kind_ok hk)
  have s := (spl_sum (tl y) (tl z).length 0 [] (tl z) rfl).1
  rw [← e, List.map_map, List.length_nil, Nat.zero_add, ← len_tl] at s
  have : (List.map (List.length ∘ tl) (Txt.split z y)) = (Txt.split z y).map (·.length) := List.map_congr_left fun p _ => (len_tl p).symm
  rw [this] at s
  exact s
theorem mem_lens {ps : List Str} {p : Str} (h : p ∈ ps) : p.length ≤ lens ps := mem_sum (List.mem_map.mpr ⟨p, h, rfl⟩)
theorem lens_append (a b : List Str) : lens (a ++ b) = lens a + lens b := by
  unfold lens
  rw [List.map_append, List.sum_append]
theorem lens_cons (p : Str) (b : List Str) : lens (p :: b) = p.length + lens b := by
  unfold lens
  rw [List.map_cons, List.sum_cons]
theorem lens_td (ps : List Str) (i : Nat) : lens (ps.take i) + lens (ps.drop i) = lens ps := by rw [← lens_append, List.take_append_drop]
theorem lens_drop (ps : List Str) : ∀ (i : Nat), lens (ps.drop i) ≤ lens ps := fun i => by have := lens_td ps i; omega
theorem lens_take (ps : List Str) : ∀ (i : Nat), lens (ps.take i) ≤ lens ps := fun i => by have := lens_td ps i; omega
theorem count_joinL (s : Nat) (S : List Nat) : ∀ L : List (List Nat), (joinL S L).count s + S.count s ≤ (L.map (List.count s)).sum + max 1 L.length * S.count s
  | [] => by simp [joinL]
  | p :: L => by
    rw [joinL_cons, List.count_append]
    have : ∀ L : List (List Nat), (L.flatMap fun q => S ++ q).count s = (L.map (List.count s)).sum + L.length * S.count s := fun L => by
      induction L with
      | nil => simp
      | cons q r ih => rw [List.flatMap_cons, List.count_append, List.count_append, ih, List.map_cons, List.sum_cons, List.length_cons, Nat.add_mul]; omega
    rw [this, List.map_cons, List.sum_cons, List.length_cons, Nat.max_eq_right (by omega), Nat.add_mul]
    omega
theorem nls_join {a : Str} {ps : List Str} (h : ∀ p, p ∈ ps → nls p = 0) : nls (Txt.join a ps) + nls a ≤ max 1 ps.length * nls a := by
  have z : ((ps.map tl).map (List.count 10)).sum = 0 := by
    induction ps with
    | nil => rfl
    | cons p r ih =>
      rw [List.map_cons, List.map_cons, List.sum_cons, ih fun q hq => h q (List.mem_cons_of_mem _ hq)]
      have : List.count 10 (tl p) = 0 := h p List.mem_cons_self
      rw [this]
  have c := count_joinL 10 (tl a) (ps.map tl)
  rw [z, List.length_map] at c
  unfold nls
  rw [join_eq, tl_join]
  omega
end SB
namespace SB
open PySem PySem.NumText L2 GxR GA RZ RP TL
/-- a text many times -/
def repS (z : Str) (n : Nat) : Str := ⟨(List.replicate n z.cps).foldl (· ++ ·) #[]⟩
theorem rep_fold (c : Array Nat) : ∀ (n : Nat) (a : Array Nat), ((List.replicate n c).foldl (· ++ ·) a).toList = a.toList ++ (List.replicate n c.toList).flatten
  | 0, a => by simp
  | n + 1, a => by
    rw [List.replicate_succ, List.foldl_cons, rep_fold c n, List.replicate_succ, List.flatten_cons, Array.toList_append, List.append_assoc]
theorem tl_repS (z : Str) (n : Nat) : tl (repS z n) = (List.replicate n (tl z)).flatten := by
  show ((List.replicate n z.cps).foldl (· ++ ·) #[]).toList = _
  rw [rep_fold]
  rfl
theorem repS_one {z : Str} {c : Nat} (h : tl z = [c]) (n : Nat) : tl (repS z n) = List.replicate n c := by
  rw [tl_repS, h]
  induction n with
  | zero => rfl
  | succ n ih => rw [List.replicate_succ, List.flatten_cons, ih, List.replicate_succ]; rfl
theorem op_repS {X : Cx} : OpR X (binaryOp .Mult) (fun x y H Q => ∃ (z : Str) (n : Int), x = .str z ∧ y = .int n ∧ 2 ≤ n ∧ n ≤ 10000 ∧ z.length = 1 ∧ Q (.str (repS z n.toNat)) H) := by
  intro pins s σ H x y v u Q I rx ry h
  obtain ⟨z, n, rfl, rfl, n2, n4, z1, q⟩ := h
  obtain ⟨t, rfl⟩ := rx
  obtain ⟨t', rfl⟩ := ry
  have a1 : ¬ n < 1 := by omega
  have a2 : (n == 1 || z.length == 0) = false := by
    rw [z1, Bool.or_eq_false_iff]
    exact ⟨by rw [beq_eq_false_iff_ne]; omega, rfl⟩
  have hl : (repS z n.toNat).length = n.toNat := by
    rw [len_tl, tl_repS]
    have : (tl z).length = 1 := by rw [← len_tl]; exact z1
    generalize tl z = l at this
    match l, this with
    | [c], _ =>
      have : ∀ n : Nat, ((List.replicate n [c]).flatten).length = n := fun n => by
        induction n with
        | zero => rfl
        | succ n ih => rw [List.replicate_succ, List.flatten_cons, List.length_append, ih]; show 1 + n = n + 1; omega
      exact this _
  refine P.mul_str (by rw [decide_eq_false (by omega), decide_eq_false (by omega)]; rfl) (fun _ _ h => ?_) (fun _ _ => ?_) ?_
  · rw [z1] at h
    have : (1 : Int) ≤ (2 ^ 63 - 1) / n := by
      refine (Int.le_ediv_iff_mul_le (by omega)).mpr ?_
      omega
    omega
  · unfold Builtin.Str.tooLong
    rw [z1]
    exact decide_eq_false (by rw [sizeLine_eq]; omega)
  · rw [if_neg a1, a2]
    refine ⟨?_, .str (repS z n.toNat), H, I.tok _, ⟨_, rfl⟩, q⟩
    show (repS z n.toNat).length ≤ _
    rw [hl]
    first | omega | (rw [sizeLine_eq]; omega)
section
variable {P : Program} {w : World} {K : PySem.W.Frag} {mg : Str → Option Value} {base : Heap}
def spLSign : Sp := fun vs H Q _ => ∃ (dk : Addr) (k : Nat), vs = [.ref dk] ∧ Stk dk k H ∧ k ≤ 900000 ∧ ∀ (c : Nat) H', c < 1114112 → GrD dk H H' → Stk dk (k + 2) H' → Q (.str ⟨#[c]⟩) H'
theorem sc_lsign : FnScope ["well", "signs"] ["well"] (defScope s__law_sign) := ⟨rfl, rfl, rfl, by decide +kernel, rfl, by decide +kernel, by decide +kernel⟩
theorem atI_ex {α : Type} {l : List α} {i : Int} (h0 : 0 ≤ i) (h1 : i < (l.length : Int)) : ∃ x, atI l i = some x ∧ x ∈ l := by
  obtain ⟨n, rfl⟩ := Int.eq_ofNat_of_zero_le h0
  have hn : n < l.length := by omega
  exact ⟨l[n], atI_nat (List.getElem?_eq_getElem hn), List.getElem_mem hn⟩
theorem cl_lsign (D : Df K mg "_law_sign" s__law_sign) (B : Blt mg) (CD : Cl P w K mg base 1 "_law_draw" ["well", "many"] spPick) : Cl P w K mg base 2 "_law_sign" ["well"] spLSign := by
  refine D.cl (fun _ _ _ _ _ _ us hl => match us, hl with | [_], _ => rfl) fun f fd F => F.ok sc_lsign (fun vs H Q E h => ?_) (fun cdv A outer s H vs Q E hr h => ?_)
  · obtain ⟨dk, k, rfl, _⟩ := h
    rfl
  obtain ⟨dk, k, rfl, sk, k9, q⟩ := h
  refine ⟨_, (pss_cons (ps_set (i := 1) sc_lsign.nd rfl (.inl rfl) pe_str)
    (pss_cons (ps_set (i := 1) sc_lsign.nd rfl (.inl rfl) (pe_ix ix_list (pe_lst (pa_cons (pe_op op_add_str (pv 1) pe_str) (pa_cons pe_str pa_nil))) (pe_cl CD (hr.mono (by decide)) (pa_cons (pv 0) (pa_cons pe_int pa_nil))) (fun _ _ => rfl)))
    (pss_one (ps_ret (pe_ix ix_str (pv 1) (pe_cl CD (hr.mono (by decide)) (pa_cons (pv 0) (pa_cons (pe_callB call_len_str rfl B.len PySem.boot_len (pa_cons (pv 1) pa_nil)) pa_nil))) (fun _ _ => rfl)))))), ?_⟩
  refine seq_join (fun σ' H' => ∃ z : Str, σ' = [some (.ref dk), some (.str z)] ∧ H' = H ∧ 1 ≤ z.length ∧ z.length ≤ 500 ∧ cpo z) (fun σ' H' h => ?_) (fun Kn hK => hK _ _ ⟨_, rfl, rfl, by decide +kernel, by decide +kernel, cpo_of (by decide +kernel)⟩)
  obtain ⟨z0, rfl, rfl, z1, z2, z3⟩ := h
  refine seq_join (fun σ' H1 => ∃ z : Str, σ' = [some (.ref dk), some (.str z)] ∧ GrD dk H' H1 ∧ Stk dk (k + 1) H1 ∧ 1 ≤ z.length ∧ z.length ≤ 1000 ∧ cpo z) (fun σ' H1 h => ?_) (fun Kn hK => ?_)
  rotate_left
  · refine ⟨_, rfl, _, _, rfl, rfl, sz15 ?_, szN (by show 2 ≤ 1000000; decide), fun L nL => ?_⟩
    · have : (Str.ofString "abcdefghijklmnopqrstuvwxyz{|}~\n").length ≤ 500 := by decide +kernel
      omega
    have r1 := (Gr.refl H').new nL (.lst [.str (z0 ++ Str.ofString "abcdefghijklmnopqrstuvwxyz{|}~\n"), .str (Str.ofString "0123456789- ()[]+?./:\n")])
    have hL : (upd H' L (.lst [.str (z0 ++ Str.ofString "abcdefghijklmnopqrstuvwxyz{|}~\n"), .str (Str.ofString "0123456789- ()[]+?./:\n")])) L = some (.lst [.str (z0 ++ Str.ofString "abcdefghijklmnopqrstuvwxyz{|}~\n"), .str (Str.ofString "0123456789- ()[]+?./:\n")]) := upd_same
    have nLd : L ≠ dk := sk.ne nL
    refine ⟨_, rfl, dk, 2, k, rfl, sk.gr r1, by omega, by decide, by decide, fun t H2 t0 t1 g2 s2 => ?_⟩
    obtain ⟨v, ev, hv⟩ := atI_ex (l := [V.str (z0 ++ Str.ofString "abcdefghijklmnopqrstuvwxyz{|}~\n"), .str (Str.ofString "0123456789- ()[]+?./:\n")]) t0 (show t < ((2 : Nat) : Int) from t1)
    refine ⟨L, _, t, v, rfl, rfl, SqL.of (GrDL.lst g2 nLd hL), ev, ?_⟩
    have l1 : (Str.ofString "abcdefghijklmnopqrstuvwxyz{|}~\n").length ≤ 500 := by decide +kernel
    have l2 : 1 ≤ (Str.ofString "0123456789- ()[]+?./:\n").length ∧ (Str.ofString "0123456789- ()[]+?./:\n").length ≤ 500 := by decide +kernel
    rcases List.mem_cons.mp hv with rfl | hv
    · exact hK _ _ ⟨_, rfl, (r1.d dk).trans g2, s2, by rw [len_app]; omega, by rw [len_app]; omega, cpo_app z3 (cpo_of (by decide +kernel))⟩
    · rw [List.mem_singleton.mp hv]
      exact hK _ _ ⟨_, rfl, (r1.d dk).trans g2, s2, l2.1, by omega, cpo_of (by decide +kernel)⟩
  obtain ⟨z, rfl, g1, s1, l1, l2, l3⟩ := h
  refine ⟨_, rfl, _, rfl, _, rfl, z, rfl, sz15 (by omega), dk, ((z.length : Nat) : Int), k + 1, rfl, s1, by omega, by omega, ?_, fun t H2 t0 t1 g2 s2 => ?_⟩
  · rw [Int.natAbs_natCast]
    exact Nat.lt_of_le_of_lt l2 (by decide)
  · have hc : t < ((z.cps.toList.length : Nat) : Int) := by
      have := len_tl z
      show t < (((tl z).length : Nat) : Int)
      omega
    obtain ⟨c, ec, mc⟩ := atI_ex (l := z.cps.toList) t0 hc
    exact ⟨z, t, c, rfl, rfl, sz15 (by omega), ec, q c H2 (l3 c mc) (g1.trans g2) s2⟩
end
end SB
namespace SB
open PySem PySem.NumText L2 GxR GA RZ RP TL
/-- a word of no line end -/
def OddV (v : V) : Prop := ∃ z : Str, v = .str z ∧ nls z = 0 ∧ z.length ≤ 4450 ∧ cpo z
def oddB : V → Bool
  | .str z => (nls z == 0) && (decide (z.length ≤ 1000) && cpoB z)
  | _ => false
theorem odd_of {l : List V} (h : l.all oddB = true) : ∀ v, v ∈ l → OddV v := fun v hv => by
  have := List.all_eq_true.mp h v hv
  cases v with
  | str z =>
    unfold oddB at this
    simp only [Bool.and_eq_true, beq_iff_eq, decide_eq_true_eq] at this
    exact ⟨z, rfl, this.1, by omega, cpo_of this.2.2⟩
  | _ => cases this
theorem odd_app {a b : List V} (h : ∀ v, v ∈ a → OddV v) (k : ∀ v, v ∈ b → OddV v) : ∀ v, v ∈ a ++ b → OddV v := fun v hv => (List.mem_append.mp hv).elim (h v) (k v)
theorem odd_cons {a : V} {b : List V} (h : OddV a) (k : ∀ v, v ∈ b → OddV v) : ∀ v, v ∈ a :: b → OddV v := fun v hv => (List.mem_cons.mp hv).elim (fun e => e ▸ h) (k v)
theorem rep_l {z : Str} {c : Nat} (h : tl z = [c]) (n : Nat) : (repS z n).length = n := by rw [len_tl, repS_one h, List.length_replicate]
theorem nls_rep {z : Str} {c : Nat} (h : tl z = [c]) (n : Nat) (k : c ≠ 10) : nls (repS z n) = 0 := by
  unfold nls
  rw [repS_one h]
  exact List.count_eq_zero.mpr fun m => k (List.mem_replicate.mp m).2.symm
theorem nls_app (a b : Str) : nls (a ++ b) = nls a + nls b := by
  unfold nls
  rw [tl_append, List.count_append]
theorem rep_cpo {z : Str} {c : Nat} (h : tl z = [c]) (n : Nat) (k : c < 1000) : cpo (repS z n) := fun x hx => by
  rw [repS_one h] at hx
  rw [(List.mem_replicate.mp hx).2]
  omega
theorem odd_rep {z : Str} {c n : Nat} (h : tl z = [c]) (k : c ≠ 10 ∧ c < 1000) (l : n ≤ 4400) : OddV (.str (repS z n)) := ⟨_, rfl, nls_rep h n k.1, by rw [rep_l h]; omega, rep_cpo h n k.2⟩
theorem odd_pre {a : Str} {z : Str} {c n : Nat} (h : nls a = 0) (l : a.length ≤ 10 ∧ cpoB a = true) (hz : tl z = [c]) (k : c ≠ 10 ∧ c < 1000) (m : n ≤ 4400) : OddV (.str (a ++ repS z n)) := ⟨_, rfl, by rw [nls_app, h, nls_rep hz n k.1], by rw [len_app, rep_l hz]; omega, cpo_app (cpo_of l.2) (rep_cpo hz n k.2)⟩
section
variable {P : Program} {w : World} {K : PySem.W.Frag} {mg : Str → Option Value} {base : Heap}
def InvW (dk : Addr) (n : Nat) (H : Hp) (σ : L2.St) (H' : Hp) : Prop := ∃ (W : Addr) (l : List V), σ = [some (.ref dk), some (.ref W)] ∧ Gr H H' ∧ H' W = some (.lst l) ∧ l.length ≤ n ∧ 1 ≤ l.length ∧ W ≠ dk ∧ ∀ v, v ∈ l → OddV v
def spOddW : Sp := fun vs H Q _ => ∃ (dk : Addr) (k : Nat), vs = [.ref dk] ∧ Stk dk k H ∧ k ≤ 900000 ∧ ∀ (z : Str) H', GrD dk H H' → Stk dk (k + 1) H' → nls z = 0 → z.length ≤ 4450 → cpo z → Q (.str z) H'
theorem sc_oddw : FnScope ["well", "words"] ["well"] (defScope s__law_odd_word) := ⟨rfl, rfl, rfl, by decide +kernel, rfl, by decide +kernel, by decide +kernel⟩
theorem cl_oddw (D : Df K mg "_law_odd_word" s__law_odd_word) (B : Blt mg) (CD : Cl P w K mg base 1 "_law_draw" ["well", "many"] spPick) : Cl P w K mg base 2 "_law_odd_word" ["well"] spOddW := by
  refine D.cl (fun _ _ _ _ _ _ us hl => match us, hl with | [_], _ => rfl) fun f fd F => F.ok sc_oddw (fun vs H Q E h => ?_) (fun cdv A outer s H vs Q E hr h => ?_)
  · obtain ⟨dk, k, rfl, _⟩ := h
    rfl
  obtain ⟨dk, k, rfl, sk, k9, q⟩ := h
  refine ⟨_, (pss_cons (ps_set (i := 1) sc_oddw.nd rfl (.inl rfl) (pe_lst (pa_cons pe_str (pa_cons pe_str (pa_cons pe_str (pa_cons pe_str (pa_cons pe_str (pa_cons pe_str (pa_cons pe_str (pa_cons pe_str (pa_cons pe_str (pa_cons pe_str (pa_cons pe_str (pa_cons pe_str (pa_cons pe_str (pa_cons pe_str (pa_cons pe_str pa_nil)))))))))))))))))
    (pss_cons (ps_set (i := 1) sc_oddw.nd rfl (.inl rfl) (pe_op op_cat (pv 1) (pe_lst (pa_cons pe_str (pa_cons pe_str (pa_cons pe_str (pa_cons pe_str (pa_cons pe_str (pa_cons pe_str (pa_cons pe_str (pa_cons pe_str (pa_cons pe_str (pa_cons pe_str (pa_cons pe_str (pa_cons pe_str (pa_cons pe_str (pa_cons pe_str (pa_cons pe_str pa_nil))))))))))))))))))
    (pss_cons (ps_set (i := 1) sc_oddw.nd rfl (.inl rfl) (pe_op op_cat (pv 1) (pe_lst (pa_cons (pe_op op_repS pe_str pe_int) (pa_cons (pe_op op_add_str pe_str (pe_op op_repS pe_str pe_int)) (pa_cons (pe_op op_add_str pe_str (pe_op op_repS pe_str pe_int)) (pa_cons (pe_op op_add_str pe_str (pe_op op_repS pe_str pe_int)) (pa_cons (pe_op op_add_str pe_str (pe_op op_repS pe_str pe_int)) (pa_cons (pe_op op_repS pe_str pe_int) (pa_cons pe_str pa_nil))))))))))
    (pss_cons (ps_set (i := 1) sc_oddw.nd rfl (.inl rfl) (pe_op op_cat (pv 1) (pe_lst (pa_cons pe_str (pa_cons pe_str (pa_cons pe_str (pa_cons pe_str (pa_cons pe_str (pa_cons pe_str (pa_cons pe_str (pa_cons pe_str (pa_cons pe_str (pa_cons pe_str (pa_cons pe_str (pa_cons pe_str (pa_cons pe_str pa_nil))))))))))))))))
    (pss_cons (ps_set (i := 1) sc_oddw.nd rfl (.inl rfl) (pe_op op_cat (pv 1) (pe_lst (pa_cons pe_str (pa_cons pe_str (pa_cons pe_str (pa_cons pe_str (pa_cons pe_str (pa_cons pe_str (pa_cons pe_str (pa_cons pe_str (pa_cons pe_str (pa_cons pe_str (pa_cons pe_str (pa_cons pe_str (pa_cons pe_str pa_nil))))))))))))))))
    (pss_cons (ps_set (i := 1) sc_oddw.nd rfl (.inl rfl) (pe_op op_cat (pv 1) (pe_lst (pa_cons pe_str (pa_cons pe_str (pa_cons pe_str (pa_cons pe_str (pa_cons pe_str (pa_cons pe_str (pa_cons pe_str (pa_cons pe_str (pa_cons pe_str (pa_cons pe_str (pa_cons pe_str pa_nil))))))))))))))
    (pss_cons (ps_set (i := 1) sc_oddw.nd rfl (.inl rfl) (pe_op op_cat (pv 1) (pe_lst (pa_cons pe_str (pa_cons pe_str pa_nil)))))
    (pss_one (ps_ret (pe_ix ix_list (pv 1) (pe_cl CD (hr.mono (by decide)) (pa_cons (pv 0) (pa_cons (pe_len (pv 1) B.len) pa_nil))) (fun _ _ => rfl))))))))))), ?_⟩
  refine seq_join (fun σ' H' => InvW dk 15 H σ' H') (fun σ' H0 h => ?_) (fun Kn hK => ?_)
  rotate_left
  · refine ⟨szN (by show 15 ≤ 1000000; decide), fun L nL => ?_⟩
    exact hK _ _ ⟨L, _, rfl, (Gr.refl H).new nL _, upd_same, by decide, by decide, sk.ne nL, odd_of (by decide +kernel)⟩
  obtain ⟨W, l, rfl, g, hW, l1, l0, nW, hl⟩ := h
  refine seq_join (fun σ' H' => InvW dk 30 H σ' H') (fun σ' H1 h => ?_) (fun Kn hK => ?_)
  rotate_left
  · refine ⟨_, rfl, szN (by show 15 ≤ 1000000; decide), fun L nL => ?_⟩
    refine ⟨W, L, l, _, rfl, rfl, ((Gr.refl _).new nL _).lstK hW, upd_same, by rw [sizeLine_eq]; simp only [List.length_cons, List.length_nil]; omega, fun p np => ?_⟩
    refine hK _ _ ⟨p, _, rfl, (g.new nL _).new np _, upd_same, by simp only [List.length_append, List.length_cons, List.length_nil]; omega, by rw [List.length_append]; omega, (sk.gr (g.new nL _)).ne np, odd_app hl ?_⟩
    exact odd_of (by decide +kernel)
  obtain ⟨W, l, rfl, g, hW, l1, l0, nW, hl⟩ := h
  refine seq_join (fun σ' H' => InvW dk 37 H σ' H') (fun σ' H2 h => ?_) (fun Kn hK => ?_)
  rotate_left
  · refine ⟨_, rfl, _, _, rfl, rfl, by decide, by decide, by decide, _, _, rfl, rfl, by decide, by decide, by decide, _, _, rfl, rfl, sz15 (by rw [rep_l rfl]; decide +kernel), _, _, rfl, rfl, by decide, by decide, by decide, _, _, rfl, rfl, sz15 (by rw [rep_l rfl]; decide +kernel), _, _, rfl, rfl, by decide, by decide, by decide, _, _, rfl, rfl, sz15 (by rw [rep_l rfl]; decide +kernel), _, _, rfl, rfl, by decide, by decide, by decide, _, _, rfl, rfl, sz15 (by rw [rep_l rfl]; decide +kernel), _, _, rfl, rfl, by decide, by decide, by decide, szN (by show 7 ≤ 1000000; decide), fun L nL => ?_⟩
    refine ⟨W, L, l, _, rfl, rfl, ((Gr.refl _).new nL _).lstK hW, upd_same, by rw [sizeLine_eq]; simp only [List.length_cons, List.length_nil]; omega, fun p np => ?_⟩
    refine hK _ _ ⟨p, _, rfl, (g.new nL _).new np _, upd_same, by simp only [List.length_append, List.length_cons, List.length_nil]; omega, by rw [List.length_append]; omega, (sk.gr (g.new nL _)).ne np, odd_app hl ?_⟩
    exact odd_cons (odd_rep rfl (by decide) (by decide)) (odd_cons (odd_pre (by decide +kernel) (by decide +kernel) rfl (by decide) (by decide)) (odd_cons (odd_pre (by decide +kernel) (by decide +kernel) rfl (by decide) (by decide)) (odd_cons (odd_pre (by decide +kernel) (by decide +kernel) rfl (by decide) (by decide)) (odd_cons (odd_pre (by decide +kernel) (by decide +kernel) rfl (by decide) (by decide)) (odd_cons (odd_rep rfl (by decide) (by decide)) (odd_of (by decide +kernel)))))))
  obtain ⟨W, l, rfl, g, hW, l1, l0, nW, hl⟩ := h
  refine seq_join (fun σ' H' => InvW dk 50 H σ' H') (fun σ' H3 h => ?_) (fun Kn hK => ?_)
  rotate_left
  · refine ⟨_, rfl, szN (by show 13 ≤ 1000000; decide), fun L nL => ?_⟩
    refine ⟨W, L, l, _, rfl, rfl, ((Gr.refl _).new nL _).lstK hW, upd_same, by rw [sizeLine_eq]; simp only [List.length_cons, List.length_nil]; omega, fun p np => ?_⟩
    refine hK _ _ ⟨p, _, rfl, (g.new nL _).new np _, upd_same, by simp only [List.length_append, List.length_cons, List.length_nil]; omega, by rw [List.length_append]; omega, (sk.gr (g.new nL _)).ne np, odd_app hl ?_⟩
    exact odd_of (by decide +kernel)
  obtain ⟨W, l, rfl, g, hW, l1, l0, nW, hl⟩ := h
  refine seq_join (fun σ' H' => InvW dk 63 H σ' H') (fun σ' H4 h => ?_) (fun Kn hK => ?_)
  rotate_left
  · refine ⟨_, rfl, szN (by show 13 ≤ 1000000; decide), fun L nL => ?_⟩
    refine ⟨W, L, l, _, rfl, rfl, ((Gr.refl _).new nL _).lstK hW, upd_same, by rw [sizeLine_eq]; simp only [List.length_cons, List.length_nil]; omega, fun p np => ?_⟩
    refine hK _ _ ⟨p, _, rfl, (g.new nL _).new np _, upd_same, by simp only [List.length_append, List.length_cons, List.length_nil]; omega, by rw [List.length_append]; omega, (sk.gr (g.new nL _)).ne np, odd_app hl ?_⟩
    exact odd_of (by decide +kernel)
  obtain ⟨W, l, rfl, g, hW, l1, l0, nW, hl⟩ := h
  refine seq_join (fun σ' H' => InvW dk 74 H σ' H') (fun σ' H5 h => ?_) (fun Kn hK => ?_)
  rotate_left
  · refine ⟨_, rfl, szN (by show 11 ≤ 1000000; decide), fun L nL => ?_⟩
    refine ⟨W, L, l, _, rfl, rfl, ((Gr.refl _).new nL _).lstK hW, upd_same, by rw [sizeLine_eq]; simp only [List.length_cons, List.length_nil]; omega, fun p np => ?_⟩
    refine hK _ _ ⟨p, _, rfl, (g.new nL _).new np _, upd_same, by simp only [List.length_append, List.length_cons, List.length_nil]; omega, by rw [List.length_append]; omega, (sk.gr (g.new nL _)).ne np, odd_app hl ?_⟩
    exact odd_of (by decide +kernel)
  obtain ⟨W, l, rfl, g, hW, l1, l0, nW, hl⟩ := h
  refine seq_join (fun σ' H' => InvW dk 76 H σ' H') (fun σ' H6 h => ?_) (fun Kn hK => ?_)
  rotate_left
  · refine ⟨_, rfl, szN (by show 2 ≤ 1000000; decide), fun L nL => ?_⟩
    refine ⟨W, L, l, _, rfl, rfl, ((Gr.refl _).new nL _).lstK hW, upd_same, by rw [sizeLine_eq]; simp only [List.length_cons, List.length_nil]; omega, fun p np => ?_⟩
    refine hK _ _ ⟨p, _, rfl, (g.new nL _).new np _, upd_same, by simp only [List.length_append, List.length_cons, List.length_nil]; omega, by rw [List.length_append]; omega, (sk.gr (g.new nL _)).ne np, odd_app hl ?_⟩
    exact odd_of (by decide +kernel)
  obtain ⟨W, l, rfl, g, hW, l1, l0, nW, hl⟩ := h
  have s0 := sk.gr g
  refine ⟨_, rfl, _, rfl, _, rfl, W, l, rfl, .inl (SqL.of hW), dk, ((l.length : Nat) : Int), k, rfl, s0, by omega, by omega, ?_, fun t H2 t0 t1 g2 s2 => ?_⟩
  · rw [Int.natAbs_natCast]
    exact Nat.lt_of_le_of_lt l1 (by decide)
  · obtain ⟨v, ev, hv⟩ := atI_ex (l := l) t0 t1
    obtain ⟨z, rfl, hz, lz, cz⟩ := hl v hv
    exact ⟨W, l, t, _, rfl, rfl, SqL.of (GrDL.lst g2 nW hW), ev, q z H2 ((g.d dk).trans g2) s2 hz lz cz⟩
end
end SB
namespace SB
open PySem PySem.NumText L2 GxR GA RZ RP TL
/-! ### a text with its signs bent -/
theorem cutsT (z : Str) (i : Nat) : tl (cutS z none (some (i : Int))) = (tl z).take i := by
  unfold cutS
  rw [tl_mk, HT.sIx_nat]
  have el := len_tl z
  show ((tl z).drop 0).take (min i z.length - 0) = _
  rw [List.drop_zero, Nat.sub_zero]
  by_cases k : i ≤ z.length
  · rw [Nat.min_eq_left k]
  · rw [Nat.min_eq_right (by omega), List.take_of_length_le (by omega), List.take_of_length_le (by omega)]
theorem cutsF (z : Str) (i : Nat) : tl (cutS z (some (i : Int)) none) = (tl z).drop i := by
  unfold cutS
  rw [tl_mk, HT.sIx_nat]
  have el := len_tl z
  show ((tl z).drop (min i z.length)).take (z.length - min i z.length) = _
  by_cases k : i ≤ z.length
  · rw [Nat.min_eq_left k]
    exact List.take_of_length_le (by rw [List.length_drop]; omega)
  · rw [Nat.min_eq_right (by omega), List.drop_of_length_le (by omega), List.drop_of_length_le (by omega)]
    simp
/-- how much there is in a text -/
structure Msr (f : List Nat → Nat) : Prop where
  a : ∀ x y, f (x ++ y) = f x + f y
  o : ∀ c, f [c] ≤ 1
theorem msr_len : Msr List.length := ⟨fun _ _ => List.length_append, fun _ => Nat.le_refl _⟩
theorem msr_nl : Msr (List.count 10) := ⟨fun _ _ => List.count_append .., fun c => by
  have := List.count_le_length (a := 10) (l := [c])
  exact this⟩
theorem Msr.td {f : List Nat → Nat} (h : Msr f) (L : List Nat) (n : Nat) : f (L.take n) + f (L.drop n) = f L := by rw [← h.a, List.take_append_drop]
theorem Msr.d1 {f : List Nat → Nat} (h : Msr f) (L : List Nat) (n : Nat) : f ((L.drop n).take 1) + f (L.drop (n + 1)) = f (L.drop n) := by
  have := h.td (L.drop n) 1
  rw [List.drop_drop] at this
  exact this
def BentOk (z z' : Str) : Prop := z'.length ≤ z.length + 1 ∧ nls z' ≤ nls z + 1 ∧ (cpo z → cpo z')
theorem bent_of {z z' : Str} (h : ∀ f, Msr f → f (tl z') ≤ f (tl z) + 1) (k : ∀ x, x ∈ tl z' → x ∈ tl z ∨ x < 1114112) : BentOk z z' := ⟨by rw [len_tl, len_tl z]; exact h _ msr_len, h _ msr_nl, fun hz x hx => (k x hx).elim (hz x) id⟩
theorem cut_m {z : Str} {x : Nat} {lo hi : Option Int} (h : x ∈ tl (cutS z lo hi)) : x ∈ tl z := by
  unfold cutS at h
  rw [tl_mk] at h
  exact List.mem_of_mem_drop (List.mem_of_mem_take h)
section
variable {P : Program} {w : World} {K : PySem.W.Frag} {mg : Str → Option Value} {base : Heap}
def spBentS : Sp := fun vs H Q _ => ∃ (dk : Addr) (k : Nat) (z : Str), vs = [.ref dk, .str z] ∧ Stk dk k H ∧ k ≤ 800000 ∧ z.length ≤ 900000 ∧ ∀ (z' : Str) H', GrD dk H H' → Stk dk (k + 4) H' → BentOk z z' → Q (.str z') H'
theorem sc_bents : FnScope ["well", "text", "at", "way"] ["well", "text"] (defScope s__law_bent_signs) := ⟨rfl, rfl, rfl, by decide +kernel, rfl, by decide +kernel, by decide +kernel⟩
theorem cl_bents (D : Df K mg "_law_bent_signs" s__law_bent_signs) (B : Blt mg) (CD : Cl P w K mg base 1 "_law_draw" ["well", "many"] spPick) (CS : Cl P w K mg base 2 "_law_sign" ["well"] spLSign) : Cl P w K mg base 3 "_law_bent_signs" ["well", "text"] spBentS := by
  refine D.cl (fun _ _ _ _ _ _ us hl => match us, hl with | [_, _], _ => rfl) fun f fd F => F.ok sc_bents (fun vs H Q E h => ?_) (fun cdv A outer s H vs Q E hr h => ?_)
  · obtain ⟨dk, k, z, rfl, _⟩ := h
    rfl
  obtain ⟨dk, k, z, rfl, sk, k9, lz, q⟩ := h
  refine ⟨_, (pss_cons (ps_par (i := 2) (j := 3) rfl sc_bents.nd rfl rfl (by decide) rfl rfl (pa_cons (pe_cl CD (hr.mono (by decide)) (pa_cons (pv 0) (pa_cons (pe_op op_add (pe_callB call_len_str rfl B.len PySem.boot_len (pa_cons (pv 1) pa_nil)) pe_int) pa_nil))) (pa_cons (pe_cl CD (hr.mono (by decide)) (pa_cons (pv 0) (pa_cons pe_int pa_nil))) pa_nil)) rfl)
    (pss_cons (ps_if (pt_cmpR op_eq (pv 3) pe_int (nomark _)) (pss_one (ps_ret (pe_op op_add_str (pe_op op_add_str (pe_slice sl_str (pv 1) po_none (po_some (pv 2))) (pe_cl CS (hr.mono (by decide)) (pa_cons (pv 0) pa_nil))) (pe_slice sl_str (pv 1) (po_some (pv 2)) po_none)))) pss_nil)
    (pss_cons (ps_if (pt_cmpR op_eq (pv 3) pe_int (nomark _)) (pss_one (ps_ret (pe_op op_add_str (pe_op op_add_str (pe_slice sl_str (pv 1) po_none (po_some (pv 2))) (pe_cl CS (hr.mono (by decide)) (pa_cons (pv 0) pa_nil))) (pe_slice sl_str (pv 1) (po_some (pe_op op_add (pv 2) pe_int)) po_none)))) pss_nil)
    (pss_cons (ps_if (pt_cmpR op_eq (pv 3) pe_int (nomark _)) (pss_one (ps_ret (pe_op op_add_str (pe_slice sl_str (pv 1) po_none (po_some (pv 2))) (pe_slice sl_str (pv 1) (po_some (pe_op op_add (pv 2) pe_int)) po_none)))) pss_nil)
    (pss_one (ps_ret (pe_op op_add_str (pe_op op_add_str (pe_op op_add_str (pe_slice sl_str (pv 1) po_none (po_some (pv 2))) (pe_slice sl_str (pv 1) (po_some (pe_op op_add (pv 2) pe_int)) (po_some (pe_op op_add (pv 2) pe_int)))) (pe_slice sl_str (pv 1) (po_some (pv 2)) (po_some (pe_op op_add (pv 2) pe_int)))) (pe_slice sl_str (pv 1) (po_some (pe_op op_add (pv 2) pe_int)) po_none)))))))), ?_⟩
  have sz := sz15 (n := z.length) (by omega)
  have el := len_tl z
  have l1 : ∀ i : Nat, (cutS z none (some (i : Int))).length ≤ z.length := fun i => by rw [len_tl, cutsT, List.length_take]; omega
  have l2 : ∀ i : Nat, (cutS z (some (i : Int)) none).length ≤ z.length := fun i => by rw [len_tl, cutsF, List.length_drop]; omega
  have l3 : ∀ i j : Nat, (cutS z (some (i : Int)) (some (j : Int))).length ≤ z.length := fun i j => by rw [len_tl, cut_nn, List.length_take, List.length_drop]; omega
  refine ⟨_, rfl, _, rfl, z, rfl, sz, _, _, rfl, rfl, dk, _, k, rfl, sk, by omega, by omega, ?_, fun t H1 t0 t1 g1 s1 => ?_⟩
  · refine Nat.lt_of_le_of_lt (show _ ≤ 900001 by omega) (Nat.lt_of_lt_of_le (show 900001 < 2 ^ 20 by decide) (Nat.pow_le_pow_right (by decide) (by decide)))
  obtain ⟨n, rfl⟩ := Int.eq_ofNat_of_zero_le t0
  refine ⟨_, rfl, dk, 4, k + 1, rfl, s1, by omega, by decide, by decide, fun v H2 v0 v1 g2 s2 => ?_⟩
  have g12 := g1.trans g2
  have c1 : ((n : Int) + 1) = ((n + 1 : Nat) : Int) := by omega
  have c2 : ((n : Int) + 2) = ((n + 2 : Nat) : Int) := by omega
  refine ⟨_, _, rfl, _, rfl, rfl, _, rfl, ?_⟩
  refine ite2 (fun e0 => ?_) (fun e0 => ?_)
  · refine ⟨_, rfl, _, rfl, _, rfl, z, rfl, sz, _, rfl, dk, k + 1 + 1, rfl, s2, by omega, fun c H3 cc g3 s3 => ?_⟩
    refine ⟨_, ⟨#[c]⟩, rfl, rfl, sz15 (by have := l1 n; show _ + 1 ≤ _; omega), _, rfl, _, rfl, _, rfl, z, rfl, sz, _, _, rfl, rfl, sz15 (by have := l1 n; have := l2 n; rw [len_app]; show _ + 1 + _ ≤ _; omega), ?_⟩
    refine q _ H3 (g12.trans g3) (s3.more (by omega)) (bent_of (fun f hf => ?_) fun x hx => ?_)
    · rw [tl_append, tl_append, cutsT, cutsF, hf.a, hf.a]
      have := hf.td (tl z) n
      have : f (tl (⟨#[c]⟩ : Str)) ≤ 1 := hf.o c
      omega
    · rw [tl_append, tl_append] at hx
      rcases List.mem_append.mp hx with hx | hx
      · rcases List.mem_append.mp hx with hx | hx
        · exact .inl (cut_m hx)
        · exact .inr (by rw [List.mem_singleton.mp hx]; exact cc)
      · exact .inl (cut_m hx)
  refine ⟨_, rfl, rfl, _, rfl, ?_⟩
  refine ite2 (fun e1 => ?_) (fun e1 => ?_)
  · refine ⟨_, rfl, _, rfl, _, rfl, z, rfl, sz, _, rfl, dk, k + 1 + 1, rfl, s2, by omega, fun c H3 cc g3 s3 => ?_⟩
    refine ⟨_, ⟨#[c]⟩, rfl, rfl, sz15 (by have := l1 n; show _ + 1 ≤ _; omega), _, rfl, _, rfl, _, _, rfl, rfl, _, rfl, z, rfl, sz, ?_⟩
    rw [c1]
    refine ⟨_, _, rfl, rfl, sz15 (by have := l1 n; have := l2 (n + 1); rw [len_app]; show _ + 1 + _ ≤ _; omega), ?_⟩
    refine q _ H3 (g12.trans g3) (s3.more (by omega)) (bent_of (fun f hf => ?_) fun x hx => ?_)
    · rw [tl_append, tl_append, cutsT, cutsF, hf.a, hf.a]
      have := hf.td (tl z) n
      have := hf.d1 (tl z) n
      have : f (tl (⟨#[c]⟩ : Str)) ≤ 1 := hf.o c
      omega
    · rw [tl_append, tl_append] at hx
      rcases List.mem_append.mp hx with hx | hx
      · rcases List.mem_append.mp hx with hx | hx
        · exact .inl (cut_m hx)
        · exact .inr (by rw [List.mem_singleton.mp hx]; exact cc)
      · exact .inl (cut_m hx)
  refine ⟨_, rfl, rfl, _, rfl, ?_⟩
  refine ite2 (fun e2 => ?_) (fun e2 => ?_)
  · refine ⟨_, rfl, _, rfl, _, rfl, z, rfl, sz, _, rfl, _, rfl, _, _, rfl, rfl, _, rfl, z, rfl, sz, ?_⟩
    rw [c1]
    refine ⟨_, _, rfl, rfl, sz15 (by have := l1 n; have := l2 (n + 1); omega), ?_⟩
    refine q _ H2 g12 (s2.more (by omega)) (bent_of (fun f hf => ?_) fun x hx => ?_)
    · rw [tl_append, cutsT, cutsF, hf.a]
      have := hf.td (tl z) n
      have := hf.d1 (tl z) n
      omega
    · rw [tl_append] at hx
      exact .inl ((List.mem_append.mp hx).elim cut_m cut_m)
  refine ⟨_, rfl, _, rfl, _, rfl, z, rfl, sz, _, rfl, _, rfl, _, _, rfl, rfl, _, rfl, _, rfl, _, _, rfl, rfl, _, rfl, z, rfl, sz, ?_⟩
  rw [c1, c2]
  refine ⟨_, _, rfl, rfl, sz15 (by have := l1 n; have := l3 (n + 1) (n + 2); omega), _, rfl, _, rfl, _, rfl, _, rfl, _, _, rfl, rfl, _, rfl, z, rfl, sz, ?_⟩
  rw [c1]
  refine ⟨_, _, rfl, rfl, sz15 (by have := l1 n; have := l3 (n + 1) (n + 2); have := l3 n (n + 1); rw [len_app]; omega), _, rfl, _, rfl, _, _, rfl, rfl, _, rfl, z, rfl, sz, ?_⟩
  rw [c2]
  refine ⟨_, _, rfl, rfl, sz15 (by have := l1 n; have := l3 (n + 1) (n + 2); have := l3 n (n + 1); have := l2 (n + 2); rw [len_app, len_app]; omega), ?_⟩
  refine q _ H2 g12 (s2.more (by omega)) (bent_of (fun f hf => ?_) fun x hx => ?_)
  · rw [tl_append, tl_append, tl_append, cutsT, cutsF, cut_nn, cut_nn, hf.a, hf.a, hf.a]
    have := hf.td (tl z) n
    have := hf.d1 (tl z) n
    have d2 : f (((tl z).drop (n + 1)).take 1) + f ((tl z).drop (n + 2)) = f ((tl z).drop (n + 1)) := hf.d1 (tl z) (n + 1)
    rw [show n + 2 - (n + 1) = 1 from by omega, show n + 1 - n = 1 from by omega]
    omega
  · rw [tl_append, tl_append, tl_append] at hx
    refine .inl ?_
    rcases List.mem_append.mp hx with hx | hx
    · rcases List.mem_append.mp hx with hx | hx
      · exact (List.mem_append.mp hx).elim cut_m cut_m
      · exact cut_m hx
    · exact cut_m hx
end
end SB
namespace SB
open PySem PySem.NumText L2 GxR GA RZ RP TL
/-! ### a text with its parts bent -/
structure PartsOk (z y o : Str) (ps : List Str) : Prop where
  n : ps.length ≤ (Txt.split z y).length + 1
  l : lens ps ≤ 3 * z.length + o.length
  m : ∀ p, p ∈ ps → p ∈ Txt.split z y ∨ p = o
theorem lens_set (p : Str) : ∀ (ps : List Str) (i : Nat), lens (ps.set i p) ≤ lens ps + p.length
  | [], i => by simp [lens]
  | a :: r, 0 => by rw [List.set_cons_zero, lens_cons, lens_cons]; omega
  | a :: r, i + 1 => by
    have := lens_set p r i
    rw [List.set_cons_succ, lens_cons, lens_cons]
    omega
theorem lens_erase : ∀ (ps : List Str) (i : Nat), lens (ps.eraseIdx i) ≤ lens ps
  | [], i => by simp [lens]
  | a :: r, 0 => by rw [List.eraseIdx_cons_zero, lens_cons]; omega
  | a :: r, i + 1 => by
    have := lens_erase r i
    rw [List.eraseIdx_cons_succ, lens_cons, lens_cons]
    omega
theorem map_set {α β : Type} (f : α → β) (x : α) : ∀ (l : List α) (i : Nat), (l.map f).set i (f x) = (l.set i x).map f
  | [], i => rfl
  | a :: r, 0 => rfl
  | a :: r, i + 1 => by rw [List.map_cons, List.set_cons_succ, List.set_cons_succ, map_set f x r i, List.map_cons]
theorem map_erase {α β : Type} (f : α → β) : ∀ (l : List α) (i : Nat), (l.map f).eraseIdx i = (l.eraseIdx i).map f
  | [], i => rfl
  | a :: r, 0 => rfl
  | a :: r, i + 1 => by rw [List.map_cons, List.eraseIdx_cons_succ, List.eraseIdx_cons_succ, map_erase f r i, List.map_cons]
section
variable {P : Program} {w : World} {K : PySem.W.Frag} {mg : Str → Option Value} {base : Heap}
def spBentP : Sp := fun vs H Q _ => ∃ (dk : Addr) (k : Nat) (z y o : Str), vs = [.ref dk, .str z, .str y, .str o] ∧ Stk dk k H ∧ k ≤ 800000 ∧ z.length ≤ 600000 ∧ y.length = 1 ∧ tl y ≠ [] ∧ y.cps.all (· < 256) = true ∧ o.length ≤ 5000 ∧
  ∀ (ps : List Str) H', GrD dk H H' → Stk dk (k + 3) H' → PartsOk z y o ps → Q (.str (Txt.join y ps)) H'
theorem sc_bentp : FnScope ["well", "text", "between", "odd", "parts", "at", "way", "other", "kept"] ["well", "text", "between", "odd"] (defScope s__law_bent_parts) := ⟨rfl, rfl, rfl, by decide +kernel, rfl, by decide +kernel, by decide +kernel⟩
theorem cl_bentp (D : Df K mg "_law_bent_parts" s__law_bent_parts) (B : Blt mg) (CD : Cl P w K mg base 1 "_law_draw" ["well", "many"] spPick) : Cl P w K mg base 2 "_law_bent_parts" ["well", "text", "between", "odd"] spBentP := by
  refine D.cl (fun _ _ _ _ _ _ us hl => match us, hl with | [_, _, _, _], _ => rfl) fun f fd F => F.ok sc_bentp (fun vs H Q E h => ?_) (fun cdv A outer s H vs Q E hr h => ?_)
  · obtain ⟨dk, k, z, y, o, rfl, _⟩ := h
    rfl
  obtain ⟨dk, k, z, y, o, rfl, sk, k9, lz, ly, yn, y2, lo, q⟩ := h
  refine ⟨_, (pss_cons (ps_set (i := 4) sc_bentp.nd rfl (.inl rfl) (pe_split (pv 1) (pv 2)))
    (pss_cons (ps_par (i := 5) (j := 6) rfl sc_bentp.nd rfl rfl (by decide) rfl rfl (pa_cons (pe_cl CD (hr.mono (by decide)) (pa_cons (pv 0) (pa_cons (pe_len (pv 4) B.len) pa_nil))) (pa_cons (pe_cl CD (hr.mono (by decide)) (pa_cons (pv 0) (pa_cons pe_int pa_nil))) pa_nil)) rfl)
    (pss_cons (ps_set (i := 7) sc_bentp.nd rfl (.inl rfl) (pe_cl CD (hr.mono (by decide)) (pa_cons (pv 0) (pa_cons (pe_len (pv 4) B.len) pa_nil))))
    (pss_cons (ps_if (pt_cmpR op_eq (pv 6) pe_int (nomark _)) (pss_one (ps_expr (pe_bm PySem.F.plainAttrs_list PySem.F.slot_list_insert PySem.F.type_list_insert mt_insert (pv 4) (pa_cons (pv 7) (pa_cons (pe_ix ix_list (pv 4) (pv 5) (fun _ _ => rfl)) pa_nil))))) (pss_one (ps_if (pt_cmpR op_eq (pv 6) pe_int (nomark _)) (pss_one (ps_expr (pe_bm PySem.F.plainAttrs_list PySem.F.slot_list_pop PySem.F.type_list_pop mt_popAt (pv 4) (pa_cons (pv 5) pa_nil)))) (pss_one (ps_if (pt_cmpR op_eq (pv 6) pe_int (nomark _)) (pss_cons (ps_set (i := 8) sc_bentp.nd rfl (.inl rfl) (pe_ix ix_list (pv 4) (pv 5) (fun _ _ => rfl)))
          (pss_cons (ps_asg (pe_ix ix_list (pv 4) (pv 7) (fun _ _ => rfl)) (pg_sub (pv 4) (pv 5) set_list))
          (pss_one (ps_asg (pv 8) (pg_sub (pv 4) (pv 7) set_list))))) (pss_one (ps_asg (pv 3) (pg_sub (pv 4) (pv 5) set_list))))))))
    (pss_one (ps_ret (pe_join (pv 2) (pv 4)))))))), ?_⟩
  obtain ⟨sl, sm⟩ := split_len (z := z) yn y2
  have sn := split_ne z y yn y2
  have ss := split_lens (z := z) yn y2
  have yl : (y.length == 0) = false := by rw [ly]; rfl
  refine ⟨_, rfl, ⟨_, rfl⟩, _, rfl, z, y, rfl, rfl, yl, sz15 (by omega), fun L nL => ?_⟩
  have r0 := (Gr.refl H).new nL (.lst ((Txt.split z y).map V.str))
  have hL : (upd H L (.lst ((Txt.split z y).map V.str))) L = some (.lst ((Txt.split z y).map V.str)) := upd_same
  have nLd : L ≠ dk := sk.ne nL
  have s0 := sk.gr r0
  generalize upd H L (.lst ((Txt.split z y).map V.str)) = H0 at r0 hL s0 ⊢
  have q1 : ∀ (ps : List Str) H', GrD dk H H' → Stk dk (k + 3) H' → PartsOk z y o ps → Q (.str (Txt.join y ps)) H' := q
  have pk : ∀ ps : List Str, ps.length ≤ (Txt.split z y).length + 1 → lens ps ≤ 3 * z.length + o.length → (∀ p, p ∈ ps → p ∈ Txt.split z y ∨ p = o) → PartsOk z y o ps := fun _ a b c => ⟨a, b, c⟩
  generalize Txt.split z y = S at hL sl sm sn ss pk
  have Sp : 0 < S.length := List.length_pos_iff.mpr sn
  have big : ∀ m : Nat, m ≤ 600001 → ((m : Nat) : Int).natAbs < 2 ^ 8000 := fun m hm => by
    rw [Int.natAbs_natCast]
    exact Nat.lt_of_le_of_lt hm (Nat.lt_of_lt_of_le (show 600001 < 2 ^ 20 by decide) (Nat.pow_le_pow_right (by decide) (by decide)))
  have ls : (S.map V.str).length = S.length := List.length_map _
  refine ⟨_, rfl, _, rfl, L, _, rfl, .inl (SqL.of hL), dk, _, k, rfl, s0, by omega, by rw [ls]; omega, by rw [ls]; exact big _ (by omega), fun t H1 t0 t1 g1 s1 => ?_⟩
  obtain ⟨i, rfl⟩ := Int.eq_ofNat_of_zero_le t0
  rw [ls] at t1
  have hi : i < S.length := by omega
  have hL1 := GrDL.lst g1 nLd hL
  refine ⟨_, rfl, dk, 4, k + 1, rfl, s1, by omega, by decide, by decide, fun v H2 v0 v1 g2 s2 => ?_⟩
  have hL2 := GrDL.lst g2 nLd hL1
  refine ⟨_, _, rfl, ?_⟩
  refine ⟨_, rfl, _, rfl, L, _, rfl, .inl (SqL.of hL2), dk, _, k + 1 + 1, rfl, s2, by omega, by rw [ls]; omega, by rw [ls]; exact big _ (by omega), fun u H3 u0 u1 g3 s3 => ?_⟩
  obtain ⟨j, rfl⟩ := Int.eq_ofNat_of_zero_le u0
  rw [ls] at u1
  have hj : j < S.length := by omega
  have hL3 := GrDL.lst g3 nLd hL2
  have g03 := (r0.d dk).trans ((g1.trans g2).trans g3)
  refine seq_join (fun σ' H' => σ' = [some (.ref dk), some (.str z), some (.str y), some (.str o), some (.ref L), some (.int ((i : Nat) : Int)), some (.int v), some (.int ((j : Nat) : Int)), none] ∧ H' = H3) (fun σ' H3' h => ?_) (fun Kn hK => hK _ _ ⟨rfl, rfl⟩)
  obtain ⟨rfl, rfl⟩ := h
  have vi : (S.map V.str)[i]? = some (.str S[i]) := by rw [List.getElem?_map, List.getElem?_eq_getElem hi]; rfl
  have vj : (S.map V.str)[j]? = some (.str S[j]) := by rw [List.getElem?_map, List.getElem?_eq_getElem hj]; rfl
  have mi : S[i] ∈ S := List.getElem_mem hi
  have mj : S[j] ∈ S := List.getElem_mem hj
  have li := sm _ mi
  have lj := sm _ mj
  refine seq_join (fun σ' H' => ∃ (ps : List Str) (c8 : Option V), σ' = [some (.ref dk), some (.str z), some (.str y), some (.str o), some (.ref L), some (.int ((i : Nat) : Int)), some (.int v), some (.int ((j : Nat) : Int)), c8] ∧ PartsOk z y o ps ∧ ps.length ≤ S.length + 1 ∧ H' L = some (.lst (ps.map V.str)) ∧ GrD dk H H' ∧ Stk dk (k + 3) H') (fun σ' H4 h => ?_) (fun Kn hK => ?_)
  rotate_left
  · have put : ∀ (ps : List Str) (c8 : Option V), ps.length ≤ S.length + 1 → lens ps ≤ 3 * z.length + o.length → (∀ p, p ∈ ps → p ∈ S ∨ p = o) → Kn [some (.ref dk), some (.str z), some (.str y), some (.str o), some (.ref L), some (.int ((i : Nat) : Int)), some (.int v), some (.int ((j : Nat) : Int)), c8] (upd H3' L (.lst (ps.map V.str))) := fun ps c8 a b c => hK _ _ ⟨ps, c8, rfl, pk ps a b c, a, upd_same, GrD.put g03 nL _, s3.off nLd⟩
    refine ⟨_, rfl, rfl, _, rfl, ?_⟩
    refine ite2 (fun e0 => ?_) (fun e0 => ?_)
    · refine ⟨_, rfl, .inl ⟨rfl, _, SqL.of hL3⟩, _, rfl, _, rfl, _, rfl, L, _, _, _, rfl, rfl, SqL.of hL3, atI_nat vi, ?_⟩
      refine ⟨L, _, _, _, rfl, rfl, hL3, sz15 (by rw [ls]; omega), by omega, by omega, ?_⟩
      have := put (S.take j ++ [S[i]] ++ S.drop j) none (by simp; omega) (by
        rw [lens_append, lens_append]
        have := lens_td S j
        have e : lens [S[i]] = (S[i]).length := by simp [lens]
        omega) (fun p hp => by
        rcases List.mem_append.mp hp with hp | hp
        · rcases List.mem_append.mp hp with hp | hp
          · exact .inl (List.mem_of_mem_take hp)
          · rw [List.mem_singleton.mp hp]; exact .inl mi
        · exact .inl (List.mem_of_mem_drop hp))
      rw [List.map_append, List.map_append, List.map_take, List.map_drop] at this
      exact this
    refine ⟨_, rfl, rfl, _, rfl, ?_⟩
    refine ite2 (fun e1 => ?_) (fun e1 => ?_)
    · refine ⟨_, rfl, .inl ⟨rfl, _, SqL.of hL3⟩, _, rfl, L, _, _, i, _, rfl, rfl, hL3, by omega, by omega, ?_, vi, ?_⟩
      · have := (ixN_seq (ixN_nat (show i < (S.map V.str).length by rw [ls]; exact hi))).1
        exact this
      · rw [map_erase]
        exact put _ none (by have := List.length_eraseIdx_le S i; omega) (by have := lens_erase S i; omega) (fun p hp => .inl (List.mem_of_mem_eraseIdx hp))
    refine ⟨_, rfl, rfl, _, rfl, ?_⟩
    refine ite2 (fun e2 => ?_) (fun e2 => ?_)
    · refine ⟨_, rfl, _, rfl, L, _, _, _, rfl, rfl, SqL.of hL3, atI_nat vi, ?_⟩
      refine ⟨_, rfl, _, rfl, L, _, _, _, rfl, rfl, SqL.of hL3, atI_nat vj, ?_⟩
      refine ⟨_, rfl, _, rfl, L, _, _, i, rfl, rfl, hL3, ixN_nat (by rw [ls]; exact hi), ?_⟩
      rw [map_set]
      refine ⟨_, rfl, _, rfl, _, rfl, L, _, _, j, rfl, rfl, upd_same, ixN_nat (by rw [List.length_map, List.length_set]; exact hj), ?_⟩
      rw [map_set, upd_upd]
      refine put _ _ (by rw [List.length_set, List.length_set]; omega) (by
        have := lens_set S[j] S i
        have := lens_set S[i] (S.set i S[j]) j
        omega) (fun p hp => ?_)
      rcases List.mem_or_eq_of_mem_set hp with hp | rfl
      · rcases List.mem_or_eq_of_mem_set hp with hp | rfl
        · exact .inl hp
        · exact .inl mj
      · exact .inl mi
    · refine ⟨_, rfl, _, rfl, _, rfl, L, _, _, i, rfl, rfl, hL3, ixN_nat (by rw [ls]; exact hi), ?_⟩
      rw [map_set]
      refine put _ none (by rw [List.length_set]; omega) (by have := lens_set o S i; omega) (fun p hp => ?_)
      rcases List.mem_or_eq_of_mem_set hp with hp | rfl
      · exact .inl hp
      · exact .inr rfl
  obtain ⟨ps, c8, rfl, pko, pl, hL4, g4, s4⟩ := h
  refine ⟨_, rfl, ⟨_, rfl⟩, _, rfl, y, L, ps, rfl, rfl, .inl (SqL.of hL4), ?_, q1 ps H4 g4 s4 pko⟩
  have := pko.l
  rw [ly, Nat.mul_one]
  show lens ps + ps.length ≤ _
  omega
end
end SB
namespace SB
open PySem PySem.NumText L2 GxR GA RZ RP TL
/-! ### the law's own readers -/
theorem lc_filtS {z : Str} {p : Nat → Bool} {g : TG} {tt : TT} {te : TE} {vs : List Nat} {σ : L2.St} {H1 : Hp} {D : Addr} {Qd : Hp → Prop} (nD : H1 D = none) (hz : (tl z).length ≤ 1000)
    (step : ∀ (i : Nat) (c : Nat) H (Ky : VK) (Nx : Hp → Prop), (tl z)[i]? = some c → Gr H1 H → (p c = true → Ky (.str ⟨#[c]⟩) H) → (p c = false → Nx H) → g (.str ⟨#[c]⟩) (wipe σ vs) H fun σ2 H2 => wipe σ2 vs = wipe σ vs ∧ tt σ2 H2 fun b H3 => if b = true then te σ2 H3 Ky else Nx H3)
    (fin : ∀ H, H D = some (.lst (((tl z).filter p).map fun c => V.str ⟨#[c]⟩)) → Gr H1 H → Qd H) :
    ∃ W : Nat → Nat → Hp → Prop, (∃ m, W 0 m (upd H1 D (.lst []))) ∧ ∀ i m H, W i m H → ((Its z).stop i H ∧ Qd H) ∨
      ((Its z).go i H ∧ ∃ Nx : Hp → Prop, (∀ H', Nx H' → ∃ m', m' < m ∧ W (i + 1) m' H') ∧ ∀ x H', (Its z).yld i H x H' → g x (wipe σ vs) H' fun σ2 H2 => wipe σ2 vs = wipe σ vs ∧ tt σ2 H2 fun b H3 =>
        if b = true then te σ2 H3 fun y H4 => ∃ acc, H4 D = some (.lst acc) ∧ acc.length < sizeLine ∧ Nx (upd H4 D (.lst (acc ++ [y]))) else Nx H3) := by
  have hsz : z.cps.size = (tl z).length := by simp [tl]
  refine ⟨fun i m H => i + m = (tl z).length ∧ H D = some (.lst ((((tl z).take i).filter p).map fun c => V.str ⟨#[c]⟩)) ∧ GrD D H1 H, ⟨(tl z).length, Nat.zero_add _, upd_same, (GrD.refl D H1).set _⟩, fun i m H w => ?_⟩
  obtain ⟨hm, hD, gr⟩ := w
  have g1 := gr.to nD
  cases m with
  | zero =>
    rw [List.take_of_length_le (by omega)] at hD
    exact .inl ⟨by show z.cps.size ≤ i; omega, fin H hD g1⟩
  | succ m =>
    have hi : i < (tl z).length := by omega
    refine .inr ⟨by show i < z.cps.size; omega, fun H' => H' D = some (.lst ((((tl z).take (i + 1)).filter p).map fun c => V.str ⟨#[c]⟩)) ∧ GrD D H1 H', fun H' h => ⟨m, Nat.lt_succ_self _, by omega, h⟩, fun x H' hyl => ?_⟩
    obtain ⟨rfl, c, hc, rfl⟩ := hyl
    rw [cps_at] at hc
    have et : (tl z).take (i + 1) = (tl z).take i ++ [c] := by rw [List.take_add_one, hc]; rfl
    refine step i c H' _ _ hc g1 (fun pc => ⟨_, hD, ?_, ?_, gr.set _⟩) fun pc => ⟨?_, gr⟩
    · have := List.length_filter_le p ((tl z).take i)
      rw [List.length_take] at this
      rw [List.length_map]
      exact small1000 (by omega)
    · rw [upd_same, et, List.filter_append, List.map_append, List.filter_cons, if_pos pc]
      rfl
    · rw [et, List.filter_append, List.filter_cons, if_neg (by rw [pc]; exact Bool.false_ne_true), List.filter_nil, List.append_nil]
      exact hD
theorem tl_digs : tl ("0123456789" : Str) = [48, 49, 50, 51, 52, 53, 54, 55, 56, 57] := by decide +kernel
theorem mem_dig (c : Nat) : decide (c ∈ ("0123456789" : Str).cps.toList) = digN c := by
  have e : (c ∈ ("0123456789" : Str).cps.toList) ↔ (48 ≤ c ∧ c ≤ 57) := by
    show c ∈ tl ("0123456789" : Str) ↔ _
    rw [tl_digs]
    simp only [List.mem_cons, List.not_mem_nil, or_false]
    omega
  unfold digN
  rw [Bool.eq_iff_iff, decide_eq_true_eq, e, Bool.and_eq_true, decide_eq_true_eq, decide_eq_true_eq]
theorem cpo_strOk {z : Str} (h : cpo z) : PyData.strOk z = true := by
  unfold PyData.strOk
  rw [all_tl]
  exact List.all_eq_true.mpr fun c hc => decide_eq_true (h c hc)
theorem lay_strs : ∀ js : List Str, (∀ j, j ∈ js → cpo j) → PyData.canLayAll0 (js.map PyData.str) = true
  | [], _ => rfl
  | j :: r, h => by
    show (PyData.strOk j && PyData.canLayAll0 (r.map PyData.str)) = true
    rw [lay_strs r fun k hk => h k (List.mem_cons_of_mem _ hk), cpo_strOk (h j List.mem_cons_self)]
    rfl
theorem dep_strs : ∀ js : List Str, PyData.depthAll (js.map PyData.str) = 0
  | [] => rfl
  | j :: r => by
    have h := dep_strs r
    rw [List.map_cons]
    simp [PyData.depthAll, PyData.depth, h]
theorem shp_strs (js : List Str) (hj : ∀ j, j ∈ js → cpo j) : SeqAt.shaped (.list (js.map PyData.str)) = true := by
  unfold SeqAt.shaped
  rw [Bool.and_eq_true]
  refine ⟨lay_strs js hj, decide_eq_true ?_⟩
  have h := dep_strs js
  simp [PyData.depth, h]
theorem dp_strs {K : PySem.W.Frag} {H : Hp} : ∀ ys : List Str, DpAll K H (ys.map V.str) (ys.map PyData.str)
  | [] => .nil
  | y :: r => .cons (.str y) (dp_strs r)
def optL (o : Option V) : List V := match o with
  | none => []
  | some v => [v]
theorem dsOf_cons {r : List Nat} : dsOf (45 :: r) = r := by
  unfold dsOf
  rw [pre1, decide_eq_true rfl, if_pos rfl]
  rfl
section
variable {P : Program} {w : World} {K : PySem.W.Frag} {mg : Str → Option Value} {base : Heap}
def spLInt : Sp := fun vs H Q _ => ∃ z : Str, vs = [.str z] ∧ z.length ≤ 900000 ∧ cpo z ∧ ∀ p H', Gr H H' → H' p = some (.lst (optL ((intW z).map V.int))) → (∀ b ys, H b = some (.lst ys) → p ≠ b) → Q (.ref p) H'
theorem sc_lint : FnScope ["word", "body", "sign"] ["word"] (defScope s__law_integer_in) := ⟨rfl, rfl, rfl, by decide +kernel, rfl, by decide +kernel, by decide +kernel⟩
theorem cl_lint (D : Df K mg "_law_integer_in" s__law_integer_in) (B : Blt mg) : Cl P w K mg base 1 "_law_integer_in" ["word"] spLInt := by
  refine D.cl (fun _ _ _ _ _ _ us hl => match us, hl with | [_], _ => rfl) fun f fd F => F.ok sc_lint (fun vs H Q E h => ?_) (fun cdv A outer s H vs Q E hr h => ?_)
  · obtain ⟨z, rfl, _⟩ := h
    rfl
  obtain ⟨z, rfl, lz, cz, q⟩ := h
  refine ⟨_, (pss_cons (ps_set (i := 1) sc_lint.nd rfl (.inl rfl) (pe_ifExp (pt_cmpR op_eq (pe_slice sl_str (pv 0) po_none (po_some pe_int)) pe_str (nomark _)) (pe_slice sl_str (pv 0) (po_some pe_int) po_none) (pv 0)))
    (pss_cons (ps_if (PW.pt (by exact (pw_or (pt_cmpR op_eq (pv 1) pe_str (nomark _)) (pw_or (pt_cmpR op_gt (pe_callB call_len_str rfl B.len PySem.boot_len (pa_cons (pv 1) pa_nil)) pe_int (nomark _)) (pw_or1 (pt_cmpR (op_neD hr.units) (pe_lc (own := [("sign", 2)]) (g := gName 2) rfl sc_lint.nd (pi_str (pv 1)) (blkOk_by (N := ["word", "body", "sign"]) (sc := defScope s__law_integer_in) (by decide +kernel)) (fun _ _ _ _ _ => (pg_name (i := 2) sc_lint.nd rfl (Or.inl rfl))) (fun _ _ _ _ _ => pts_one (pt_cmpR op_notIn_sign (pv 2) pe_str rfl)) (fun _ _ _ _ _ => (pv 2))) (pe_lst pa_nil) (nomark _))))))) (pss_one (ps_ret (pe_lst pa_nil))) pss_nil)
    (pss_one (ps_ret (pe_ifExp (PW.pt (by exact (pw_and (pt_cmpR op_eq (pe_ix ix_str (pv 1) pe_int (fun _ _ => rfl)) pe_str (nomark _)) (pw_and1 (pt_cmpR op_ne (pv 0) pe_str (nomark _)))))) (pe_lst pa_nil) (pe_lst (pa_cons (pe_callTy call_int_str rfl B.int PyProof.Rows.boot_int (pa_cons (pv 0) pa_nil)) pa_nil))))))), ?_⟩
  have sz := sz15 (n := z.length) (by omega)
  refine seq_join (fun σ' H' => ∃ d : Str, σ' = [some (.str z), some (.str d), none] ∧ tl d = dsOf (tl z) ∧ d.length ≤ z.length ∧ H' = H) (fun σ' H1 h => ?_) (fun Kn hK => ?_)
  rotate_left
  · refine ⟨_, rfl, _, rfl, z, rfl, sz, rfl, _, rfl, ?_⟩
    have t1 : tl (cutS z none (some (1 : Int))) = (tl z).take 1 := cutsT z 1
    have t2 : tl (cutS z (some (1 : Int)) none) = (tl z).drop 1 := cutsF z 1
    by_cases c : cutS z none (some (1 : Int)) = ("-" : Str)
    · refine iteP (by rw [c]) ⟨_, rfl, _, rfl, z, rfl, sz, hK _ _ ⟨_, rfl, ?_, ?_, rfl⟩⟩
      · rw [c, tl_minus] at t1
        rw [t2]
        generalize tl z = l at t1
        cases l with
        | nil => cases t1
        | cons x r =>
          have : x = 45 := (List.cons.inj t1).1.symm
          subst this
          rw [dsOf_cons]
          rfl
      · rw [len_tl, t2, List.length_drop, ← len_tl]
        omega
    · refine iteN (fun h => c (by injection h)) ⟨_, rfl, hK _ _ ⟨z, rfl, ?_, Nat.le_refl _, rfl⟩⟩
      have e : pre [45] (tl z) = false := by
        cases e : pre [45] (tl z) with
        | false => rfl
        | true =>
          obtain ⟨r, er⟩ := pre1_ex e
          refine absurd (ext_tl ?_) c
          rw [t1, er, tl_minus]
          rfl
      unfold dsOf
      rw [e]
      rfl
  obtain ⟨d, rfl, td, ld, rfl⟩ := h
  have ln : d.length = (dsOf (tl z)).length := by rw [len_tl, td]
  have qn : okI (tl z) = false → ∀ H2, Gr H1 H2 → ∀ p, H2 p = none → Q (.ref p) (upd H2 p (.lst [])) := fun h H2 g2 p np => by
    have e : intW z = none := by unfold intW; rw [h]; rfl
    refine q p _ (g2.new np _) ?_ (fun b ys eb => (ne_of_none (g2.lstK eb) np).symm)
    rw [e]
    exact upd_same
  refine ⟨_, rfl, rfl, _, rfl, ?_⟩
  by_cases c0 : d = ("" : Str)
  · refine iteP (by rw [c0]) ⟨szL0, fun p np => qn ?_ H1 (Gr.refl _) p np⟩
    rw [Bool.eq_false_iff]
    intro h
    refine (okI_of h).ne ?_
    rw [← td, c0]
    rfl
  refine iteN (fun h => c0 (by injection h)) ?_
  have ne : dsOf (tl z) ≠ [] := fun h => c0 (ext_tl (by rw [td, h]; rfl))
  refine ⟨_, rfl, d, rfl, sz15 (by omega), _, _, rfl, rfl, _, rfl, ?_⟩
  by_cases c9 : (9 : Int) < (d.length : Int)
  · refine iteP c9 ⟨szL0, fun p np => qn ?_ H1 (Gr.refl _) p np⟩
    rw [Bool.eq_false_iff]
    intro h
    have := (okI_of h).ln
    omega
  refine iteN c9 ?_
  refine ⟨_, rfl, d, rfl, fun D nD => ?_⟩
  refine lc_filtS (p := fun c => !digN c) nD (by rw [td]; omega) (fun i c H3 Ky Nx hc g3 h1 h2 => ⟨rfl, _, rfl, c, "0123456789", rfl, rfl, _, rfl, ?_⟩) (fun H3 hD g3 => ?_)
  · rw [mem_dig]
    cases e : digN c with
    | true => exact iteF (h2 (by rw [e]; rfl))
    | false => exact iteT ⟨_, rfl, h1 (by rw [e]; rfl)⟩
  refine ⟨szL0, fun N nN => ?_⟩
  have k3 := (Gr.refl H3).new nN (.lst [])
  have hD2 := k3.lstK hD
  have g4 := g3.trans k3
  have hN : SqL K (upd H3 N (.lst [])) N [] := SqL.of upd_same
  generalize upd H3 N (.lst []) = H4 at hD2 g4 hN ⊢
  rw [show ((tl d).filter fun c => !digN c).map (fun c => V.str ⟨#[c]⟩) = (((tl d).filter fun c => !digN c).map fun c => (⟨#[c]⟩ : Str)).map V.str from by rw [List.map_map]; rfl] at hD2
  have hjs : ∀ j, j ∈ (((tl d).filter fun c => !digN c).map fun c => (⟨#[c]⟩ : Str)) → cpo j := fun j hj x hx => by
    obtain ⟨c, hc, rfl⟩ := List.mem_map.mp hj
    rw [List.mem_singleton.mp (show x ∈ [c] from hx)]
    have m := (List.mem_filter.mp hc).1
    rw [td] at m
    refine cz c ?_
    unfold dsOf at m
    split at m
    · exact List.mem_of_mem_drop m
    · exact m
  refine ⟨_, _, .lst (SqL.of hD2) (dp_strs _), .lst hN .nil, shp_strs _ hjs, by decide, _, rfl, ?_⟩
  have en : PyData.eqv (.list ((((tl d).filter fun c => !digN c).map fun c => (⟨#[c]⟩ : Str)).map PyData.str)) (.list []) = ((tl d).filter fun c => !digN c).isEmpty := by
    cases (tl d).filter fun c => !digN c with
    | nil => decide
    | cons => rfl
  rw [en]
  by_cases al : ∀ c ∈ dsOf (tl z), digN c = true
  · have e1 : ((tl d).filter fun c => !digN c).isEmpty = true := by
      rw [List.isEmpty_iff, List.filter_eq_nil_iff, td]
      intro c hc
      rw [al c hc]
      exact Bool.false_ne_true
    rw [e1]
    refine iteF ?_
    have dg : ∀ c ∈ dsOf (tl z), 48 ≤ c ∧ c ≤ 57 := fun c hc => by
      have := al c hc
      unfold digN at this
      simpa using this
    obtain ⟨x, r, ex⟩ := List.exists_cons_of_ne_nil ne
    have ed : d.cps.toList = x :: r := td.trans ex
    refine ⟨_, rfl, d, 0, x, rfl, rfl, sz15 (by omega), by rw [ed]; exact atI_nat (j := 0) rfl, rfl, _, rfl, ?_⟩
    have okq : (pre [48] (dsOf (tl z)) = true → tl z = [48]) → ∃ zz, intText? z = some zz ∧ z.length ≤ 640 ∧ intW z = some zz := fun h => by
      have o : OkI (tl z) := ⟨ne, dg, by omega, h⟩
      obtain ⟨zz, e1, _, e3⟩ := okI_parse o
      exact ⟨zz, e1, by omega, by unfold intW; rw [okI_to o, if_pos rfl, e1]⟩
    have fin : ∀ zz, intW z = some zz → ∀ p, H4 p = none → Q (.ref p) (upd H4 p (.lst [.int zz])) := fun zz e p np => by
      refine q p _ (g4.new np _) ?_ (fun b ys eb => (ne_of_none (g4.lstK eb) np).symm)
      rw [e]
      exact upd_same
    by_cases cx : x = 48
    · subst cx
      refine iteP rfl ⟨_, rfl, rfl, _, rfl, ?_⟩
      by_cases cz : z = ("0" : Str)
      · obtain ⟨zz, a, b, c⟩ := okq (fun _ => by rw [cz]; exact tl_zero)
        rw [decide_eq_true (show V.str z = V.str "0" from by rw [cz])]
        exact iteF ⟨_, rfl, _, zz, rfl, a, b, szN (by show 1 ≤ 1000000; decide), fun p np => fin zz c p np⟩
      · rw [decide_eq_false (show ¬ V.str z = V.str "0" from fun h => cz (by injection h))]
        refine iteT ⟨szL0, fun p np => qn ?_ H4 g4 p np⟩
        rw [Bool.eq_false_iff]
        intro h
        refine cz (ext_tl ?_)
        rw [(okI_of h).z (by rw [ex, pre1]; rfl), tl_zero]
    · refine iteN (fun h => cx ?_) ?_
      · have h1 : (⟨#[x]⟩ : Str) = "0" := by injection h
        have h2 := congrArg tl h1
        rw [tl_zero] at h2
        exact (List.cons.inj h2).1
      · obtain ⟨zz, a, b, c⟩ := okq (fun h => by rw [ex, pre1] at h; exact absurd (of_decide_eq_true h) cx)
        exact ⟨_, rfl, _, zz, rfl, a, b, szN (by show 1 ≤ 1000000; decide), fun p np => fin zz c p np⟩
  · have e1 : ((tl d).filter fun c => !digN c).isEmpty = false := by
      rw [Bool.eq_false_iff]
      intro h
      rw [List.isEmpty_iff, List.filter_eq_nil_iff, td] at h
      exact al fun c hc => by
        have := h c hc
        cases e : digN c with
        | true => rfl
        | false => rw [e] at this; exact absurd rfl this
    rw [e1]
    refine iteT ⟨szL0, fun p np => qn ?_ H4 g4 p np⟩
    rw [Bool.eq_false_iff]
    intro h
    refine al fun c hc => ?_
    have := (okI_of h).dg c hc
    unfold digN
    simpa using this
end
end SB
namespace SB
open PySem PySem.NumText L2 GxR GA RZ RP TL
/-- an iterator over a row that stands still -/
structure OnI (J : It) (xs : List V) (H1 : Hp) : Prop where
  stop : ∀ H, Gr H1 H → J.stop xs.length H
  go : ∀ H i, Gr H1 H → i < xs.length → J.go i H
  yld : ∀ H i v H', Gr H1 H → i < xs.length → J.yld i H v H' → H' = H ∧ xs[i]? = some v
theorem oni_L {K : PySem.W.Frag} {a : Addr} {xs : List V} {H1 : Hp} (ha : SqL K H1 a xs) : OnI (Itl K a) xs H1 :=
  ⟨fun H g => ⟨xs, g.seqL ha, Nat.le_refl _⟩, fun H i g hi => ⟨xs, xs[i], g.seqL ha, List.getElem?_eq_getElem hi⟩, fun H i v H' g _ hy => by
    obtain ⟨rfl, hx⟩ := hy
    exact ⟨rfl, hx xs (g.seqL ha)⟩⟩
/-- a list of what comes of each, which may be lists -/
theorem lc_on {J : It} {xs : List V} {g : TG} {te : TE} {vs : List Nat} {σ : L2.St} {H1 : Hp} {D : Addr} {Qd : Hp → Prop} (Z : OnI J xs H1) (R : Nat → V → Hp → Prop) (hst : ∀ i y H H', R i y H → Gr H H' → R i y H') (hput : ∀ i y H o, R i y H → R i y (upd H D o)) (nD : H1 D = none) (hz : xs.length ≤ sizeLine)
    (step : ∀ (i : Nat) x H (Kc : VK), xs[i]? = some x → Gr H1 H → (∃ ys, H D = some (.lst ys)) → (∀ v H4, Gr H H4 → R i v H4 → Kc v H4) → g x (wipe σ vs) H fun σ2 H2 => wipe σ2 vs = wipe σ vs ∧ te σ2 H2 Kc)
    (fin : ∀ ys H, H D = some (.lst ys) → ys.length = xs.length → Gr H1 H → (∀ i y, ys[i]? = some y → R i y H) → Qd H) :
    ∃ W : Nat → Nat → Hp → Prop, (∃ m, W 0 m (upd H1 D (.lst []))) ∧ ∀ i m H, W i m H → (J.stop i H ∧ Qd H) ∨
      (J.go i H ∧ ∃ Nx : Hp → Prop, (∀ H', Nx H' → ∃ m', m' < m ∧ W (i + 1) m' H') ∧ ∀ x H', J.yld i H x H' → g x (wipe σ vs) H' fun σ2 H2 => wipe σ2 vs = wipe σ vs ∧ tYes σ2 H2 fun b H3 =>
        if b = true then te σ2 H3 fun y H4 => ∃ acc, H4 D = some (.lst acc) ∧ acc.length < sizeLine ∧ Nx (upd H4 D (.lst (acc ++ [y]))) else Nx H3) := by
  refine ⟨fun i m H => i + m = xs.length ∧ ∃ ys, H D = some (.lst ys) ∧ ys.length = i ∧ GrD D H1 H ∧ ∀ j y, ys[j]? = some y → R j y H, ⟨xs.length, Nat.zero_add _, [], upd_same, rfl, (GrD.refl D H1).set _, fun j y h => by simp at h⟩, fun i m H ⟨hm, ys, hD, hy, gr, hR⟩ => ?_⟩
  have g1 := gr.to nD
  cases m with
  | zero =>
    have e : i = xs.length := by omega
    subst e
    exact .inl ⟨Z.stop H g1, fin ys H hD (by omega) g1 hR⟩
  | succ m =>
    have i1 : i < xs.length := by omega
    refine .inr ⟨Z.go H i g1 i1, fun H' => ∃ ys, H' D = some (.lst ys) ∧ ys.length = i + 1 ∧ GrD D H1 H' ∧ ∀ j y, ys[j]? = some y → R j y H', fun H' h => ⟨m, Nat.lt_succ_self _, by omega, h⟩, fun v H' hyl => ?_⟩
    obtain ⟨rfl, hx⟩ := Z.yld H i v H' g1 i1 hyl
    refine step i v H' _ hx g1 ⟨ys, hD⟩ fun y H4 g4 rv => ?_
    have hD4 : H4 D = some (.lst ys) := g4.keep D _ (fun _ z => nomatch z) hD
    refine ⟨ys, hD4, Nat.lt_of_lt_of_le (by omega : ys.length < xs.length) hz, ys ++ [y], upd_same, by rw [List.length_append, hy]; rfl, (gr.trans (g4.d D)).set _, fun j z hz2 => ?_⟩
    by_cases hj : j < ys.length
    · rw [List.getElem?_append_left hj] at hz2
      exact hput _ _ _ _ (hst _ _ _ _ (hR j z hz2) g4)
    · have hl2 := (List.getElem?_eq_some_iff.mp hz2).1
      rw [List.length_append] at hl2
      have hl2 : j < ys.length + 1 := hl2
      have ej : j = ys.length := by omega
      subst ej
      rw [List.getElem?_append_right (Nat.le_refl _), Nat.sub_self] at hz2
      cases hz2
      rw [hy]
      exact hput _ _ _ _ rv
/-! ### some or nothing, as lists -/
/-- a list that is new: no list of the heap before -/
def Frs (H : Hp) (p : Addr) : Prop := ∀ b ys, H b = some (.lst ys) → p ≠ b
def ElL (H : Hp) (x : V) (o : Option V) : Prop := ∃ p, x = .ref p ∧ H p = some (.lst (optL o))
def optP (o : Option PyData) : PyData := match o with
  | none => .list []
  | some d => .list [d]
theorem any_optP : ∀ os : List (Option PyData), ((os.map optP).any fun z => PyData.eqv z (.list [])) = os.any (·.isNone)
  | [] => rfl
  | none :: r => by
    rw [List.map_cons, List.any_cons, List.any_cons]
    have : PyData.eqv (optP none) (.list []) = true := by decide
    rw [this]
    rfl
  | some d :: r => by
    rw [List.map_cons, List.any_cons, List.any_cons, any_optP r]
    rfl
section
variable {P : Program} {w : World} {K : PySem.W.Frag} {mg : Str → Option Value} {base : Heap}
def spLAll (K : PySem.W.Frag) : Sp := fun vs H Q _ => ∃ (a : Addr) (xs : List V) (os : List (Option V)) (ds : List (Option PyData)), vs = [.ref a] ∧ SqL K H a xs ∧ DpAll K H xs (ds.map optP) ∧ SeqAt.shaped (.list (ds.map optP)) = true ∧ xs.length ≤ 1000000 ∧ (ds.any (·.isNone) = os.any (·.isNone)) ∧ Paired (ElL H) xs os ∧
  (os.any (·.isNone) = true → ∀ p H', Gr H H' → H' p = some (.lst []) → Frs H p → Q (.ref p) H') ∧ (∀ us, os = us.map some → ∀ p t H', Gr H H' → H' p = some (.lst [.ref t]) → SqT K H' t us → Frs H p → Q (.ref p) H')
theorem sc_lall : FnScope ["told", "one"] ["told"] (defScope s__law_all_in) := ⟨rfl, rfl, rfl, by decide +kernel, rfl, by decide +kernel, by decide +kernel⟩
theorem frs_none {H H2 : Hp} {p : Addr} (g : Gr H H2) (n : H2 p = none) : Frs H p := fun b ys eb => (ne_of_none (g.lstK eb) n).symm
theorem ElL.gr {H H' : Hp} {x : V} {o : Option V} (h : ElL H x o) (g : Gr H H') : ElL H' x o := let ⟨p, e, h⟩ := h; ⟨p, e, g.lstK h⟩
theorem cl_lall (D : Df K mg "_law_all_in" s__law_all_in) (B : Blt mg) : Cl P w K mg base 1 "_law_all_in" ["told"] (spLAll K) := by
  refine D.cl (fun _ _ _ _ _ _ us hl => match us, hl with | [_], _ => rfl) fun f fd F => F.ok sc_lall (fun vs H Q E h => ?_) (fun cdv A outer s H vs Q E hr h => ?_)
  · obtain ⟨a, xs, os, ds, rfl, _⟩ := h
    rfl
  obtain ⟨a, xs, os, ds, rfl, hs, hd, sh, lx, eo, pe, q0, q⟩ := h
  refine ⟨_, (pss_one (ps_ret (pe_ifExp (pt_cmpR (op_inD (yunits hr)) (pe_lst pa_nil) (pv 0) rfl) (pe_lst pa_nil) (pe_lst (pa_cons (pe_callTy call_tuple_of rfl B.tup bootTup (pa_cons (pe_lc (own := [("one", 1)]) (g := gName 1) rfl sc_lall.nd (pi_list (pv 0)) (blkOk_by (N := ["told", "one"]) (sc := defScope s__law_all_in) (by decide +kernel)) (fun _ _ _ _ _ => (pg_name (i := 1) sc_lall.nd rfl (Or.inl rfl))) (fun _ _ _ _ _ => pts_nil) (fun _ _ _ _ _ => (pe_ix (r := rIxL K) ix_list (pv 1) pe_int (fun _ _ => rfl)))) pa_nil)) pa_nil))))), ?_⟩
  refine ⟨szL0, fun N nN => ?_⟩
  have k1 := (Gr.refl H).new nN (.lst [])
  have hN : SqL K (upd H N (.lst [])) N [] := SqL.of upd_same
  generalize upd H N (.lst []) = H1 at k1 hN ⊢
  refine ⟨_, rfl, _, ds.map optP, .lst hN .nil, .lst (k1.seqL hs) (dpa_gr k1 hd), by decide, sh, _, rfl, ?_⟩
  rw [any_optP, eo]
  cases eb : os.any (·.isNone) with
  | true => exact iteT ⟨szL0, fun p np => q0 eb p _ (k1.new np _) upd_same (frs_none k1 np)⟩
  | false =>
    refine iteF ?_
    have hu : ∃ us : List V, os = us.map some := by
      clear q0 q pe eo
      induction os with
      | nil => exact ⟨[], rfl⟩
      | cons o r ih =>
        rw [List.any_cons, Bool.or_eq_false_iff] at eb
        obtain ⟨us, e⟩ := ih eb.2
        cases o with
        | none => cases eb.1
        | some u => exact ⟨u :: us, by rw [e]; rfl⟩
    obtain ⟨us, eu⟩ := hu
    have hs1 := k1.seqL hs
    refine ⟨_, rfl, a, rfl, ⟨_, hs1⟩, fun D nD => ?_⟩
    have lo := paired_len pe
    have lu : os.length = us.length := by rw [eu, List.length_map]
    refine lc_mapL (K := K) (fun i y _ => us[i]? = some y) (fun _ _ _ _ h _ => h) nD hs1 lx (fun i x H3 Kc hx g3 kc => ?_) (fun ys H3 hD hy g3 hR => ?_)
    · obtain ⟨o, ho, p, rfl, hp⟩ := paired_get pe hx
      rw [eu, List.getElem?_map] at ho
      obtain ⟨u, hu, rfl⟩ := Option.map_eq_some_iff.mp ho
      exact ⟨rfl, _, rfl, p, _, _, u, rfl, rfl, SqL.of ((k1.trans g3).lstK hp), rfl, kc _ _ (Gr.refl _) hu⟩
    · have ey : ys = us := by
        refine List.ext_getElem? fun i => ?_
        by_cases hi : i < ys.length
        · rw [hR i ys[i] (List.getElem?_eq_getElem hi), List.getElem?_eq_getElem hi]
        · rw [List.getElem?_eq_none (by omega), List.getElem?_eq_none (by omega)]
      subst ey
      refine ⟨D, _, rfl, .inl ⟨SqL.of hD, fun t nt => ⟨szN (by show 1 ≤ 1000000; decide), fun p np => ?_⟩⟩⟩
      have kt := (Gr.refl H3).new nt (.tup ys)
      have kp := (Gr.refl _).new np (.lst [.ref t])
      exact q ys eu p t _ ((k1.trans g3).trans (kt.trans kp)) upd_same (kp.seqT (SqT.of upd_same)) (frs_none ((k1.trans g3).trans kt) np)
def intP (o : Option Int) : Option PyData := o.map PyData.int
theorem lay_ips : ∀ os : List (Option Int), PyData.canLayAll0 ((os.map intP).map optP) = true
  | [] => rfl
  | j :: r => by
    show (PyData.canLay0 (optP (intP j)) && PyData.canLayAll0 ((r.map intP).map optP)) = true
    rw [lay_ips r]
    cases j <;> rfl
theorem dep_ips : ∀ os : List (Option Int), PyData.depthAll ((os.map intP).map optP) ≤ 1
  | [] => Nat.zero_le _
  | none :: r => by
    have h := dep_ips r
    rw [List.map_cons, List.map_cons]
    simp [PyData.depthAll, PyData.depth, optP, intP] at h ⊢
    omega
  | some j :: r => by
    have h := dep_ips r
    rw [List.map_cons, List.map_cons]
    simp [PyData.depthAll, PyData.depth, optP, intP] at h ⊢
    omega
theorem shp_ips (os : List (Option Int)) : SeqAt.shaped (.list ((os.map intP).map optP)) = true := by
  unfold SeqAt.shaped
  rw [Bool.and_eq_true]
  refine ⟨lay_ips os, decide_eq_true ?_⟩
  have h := dep_ips os
  simp [PyData.depth] at h ⊢
  omega
theorem dp_ips {H : Hp} : ∀ {xs : List V} {os : List (Option Int)}, Paired (ElL H) xs (os.map fun o => o.map V.int) → DpAll K H xs ((os.map intP).map optP)
  | _, [], .nil => .nil
  | _, none :: _, .cons ⟨p, e, h⟩ t => by
    subst e
    exact .cons (.lst (SqL.of h) .nil) (dp_ips t)
  | _, some i :: _, .cons ⟨p, e, h⟩ t => by
    subst e
    exact .cons (.lst (SqL.of h) (.cons (.int i) .nil)) (dp_ips t)
def spLInts (K : PySem.W.Frag) : Sp := fun vs H Q _ => ∃ z : Str, vs = [.str z] ∧ z.length ≤ 900000 ∧ cpo z ∧ (sidesW z = none → ∀ p H', Gr H H' → H' p = some (.lst []) → Frs H p → Q (.ref p) H') ∧ (∀ ns, sidesW z = some ns → ∀ p t H', Gr H H' → H' p = some (.lst [.ref t]) → SqT K H' t (ns.map V.int) → Frs H p → Q (.ref p) H')
theorem sc_lints : FnScope ["text", "word"] ["text"] (defScope s__law_integers_in) := ⟨rfl, rfl, rfl, by decide +kernel, rfl, by decide +kernel, by decide +kernel⟩
theorem cl_lints (D : Df K mg "_law_integers_in" s__law_integers_in) (CI : Cl P w K mg base 1 "_law_integer_in" ["word"] spLInt) (CA : Cl P w K mg base 1 "_law_all_in" ["told"] (spLAll K)) : Cl P w K mg base 2 "_law_integers_in" ["text"] (spLInts K) := by
  refine D.cl (fun _ _ _ _ _ _ us hl => match us, hl with | [_], _ => rfl) fun f fd F => F.ok sc_lints (fun vs H Q E h => ?_) (fun cdv A outer s H vs Q E hr h => ?_)
  · obtain ⟨z, rfl, _⟩ := h
    rfl
  obtain ⟨z, rfl, lz, cz, q0, q⟩ := h
  refine ⟨_, (pss_one (ps_ret (pe_cl CA (hr.mono (by decide)) (pa_cons (pe_lc (own := [("word", 1)]) (g := gName 1) rfl sc_lints.nd (pi_list (pe_split (pv 0) pe_str)) (blkOk_by (N := ["text", "word"]) (sc := defScope s__law_integers_in) (by decide +kernel)) (fun _ _ _ _ _ => (pg_name (i := 1) sc_lints.nd rfl (Or.inl rfl))) (fun _ _ _ _ _ => pts_nil) (fun _ _ _ _ _ => (pe_cl CI (hr.mono (by decide)) (pa_cons (pv 1) pa_nil)))) pa_nil)))), ?_⟩
  obtain ⟨sl, sm⟩ := split_len (z := z) tlb (by decide +kernel)
  refine ⟨_, rfl, ⟨_, rfl⟩, _, _, rfl, rfl, rfl, sz15 (by omega), fun L nL => ?_⟩
  have rL := (Gr.refl H).new nL (.lst ((Txt.split z " ").map V.str))
  have hL : SqL K (upd H L (.lst ((Txt.split z " ").map V.str))) L ((Txt.split z " ").map V.str) := SqL.of upd_same
  generalize upd H L (.lst ((Txt.split z " ").map V.str)) = H1 at rL hL ⊢
  refine ⟨L, rfl, ⟨_, hL⟩, fun D nD => ?_⟩
  refine lc_on (oni_L hL) (fun i y H => ∃ s p, (Txt.split z " ")[i]? = some s ∧ y = .ref p ∧ H p = some (.lst (optL ((intW s).map V.int))) ∧ p ≠ D) (fun i y H H' h g => by
    obtain ⟨s, p, a, b, c, d⟩ := h
    exact ⟨s, p, a, b, g.lstK c, d⟩) (fun i y H o h => by
    obtain ⟨s, p, a, b, c, d⟩ := h
    exact ⟨s, p, a, b, by rw [upd_ne d]; exact c, d⟩) nD (by rw [List.length_map]; exact sz15 (by omega)) (fun i x H3 Kc hx g3 hl kc => ?_) (fun ys H3 hD hy g3 hR => ?_)
  · rw [List.getElem?_map] at hx
    obtain ⟨s, hs, rfl⟩ := Option.map_eq_some_iff.mp hx
    have ms := List.mem_of_getElem? hs
    obtain ⟨yD, hl⟩ := hl
    refine ⟨rfl, _, rfl, s, rfl, by have := sm s ms; omega, split_cpo tl_blank (by decide +kernel) cz ms, fun p H4 g4 hp fr => ?_⟩
    exact kc _ _ g4 ⟨s, p, hs, rfl, hp, fr D yD hl⟩
  · rw [List.length_map] at hy
    have pd : Paired (ElL H3) ys (((Txt.split z " ").map intW).map fun o => o.map V.int) := paired_of (by rw [List.length_map, List.length_map]; exact hy) fun i y o hy' ho => by
      obtain ⟨s, p, e1, rfl, e3, _⟩ := hR i y hy'
      rw [List.getElem?_map, List.getElem?_map, e1] at ho
      cases ho
      exact ⟨p, rfl, e3⟩
    have g2 := rL.trans g3
    have eA : ((((Txt.split z " ").map intW).map intP).any (·.isNone)) = (((Txt.split z " ").map intW).map fun o => o.map V.int).any (·.isNone) := by
      generalize (Txt.split z " ").map intW = l
      induction l with
      | nil => rfl
      | cons o r ih =>
        rw [List.map_cons, List.map_cons, List.any_cons, List.any_cons, ih]
        cases o <;> rfl
    refine ⟨D, ys, _, ((Txt.split z " ").map intW).map intP, rfl, SqL.of hD, dp_ips pd, shp_ips _, by omega, eA, pd, fun e p H' g' hp fr => q0 ?_ p H' (g2.trans g') hp (fun b ys eb => fr b ys (g2.lstK eb)), fun us e p t H' g' hp ht fr => ?_⟩
    · refine optAll_none.mpr ?_
      obtain ⟨o, ho, e1⟩ := List.any_eq_true.mp e
      obtain ⟨w, hw, rfl⟩ := List.mem_map.mp ho
      cases w with
      | none => exact hw
      | some _ => cases e1
    · cases es : sidesW z with
      | none =>
        have m := optAll_none.mp es
        have : none ∈ (((Txt.split z " ").map intW).map fun o => o.map V.int) := List.mem_map.mpr ⟨none, m, rfl⟩
        rw [e] at this
        obtain ⟨_, _, h⟩ := List.mem_map.mp this
        cases h
      | some ns =>
        have e2 := optAll_some es
        rw [e2, List.map_map] at e
        have e3 : ns.map V.int = us := by
          have := congrArg (List.map fun o : Option V => o.getD .non) e
          rw [List.map_map, List.map_map] at this
          have a1 : List.map ((fun o : Option V => o.getD .non) ∘ ((fun o : Option Int => o.map V.int) ∘ some)) ns = ns.map V.int := List.map_congr_left fun _ _ => rfl
          have a2 : List.map ((fun o : Option V => o.getD .non) ∘ some) us = us := by
            conv => rhs; rw [← List.map_id us]
            exact List.map_congr_left fun _ _ => rfl
          rw [a1, a2] at this
          exact this
        rw [← e3] at ht
        exact q ns es p t H' (g2.trans g') hp ht (fun b ys eb => fr b ys (g2.lstK eb))
end
end SB
namespace SB
open PySem PySem.NumText L2 GxR GA RZ RP TL
def sidP (o : Option (List Int)) : Option PyData := o.map fun ns => .tuple (ns.map PyData.int)
theorem shp_pair (a : Option (List Int)) (b : Option Int) : SeqAt.shaped (.list ([sidP a, intP b].map optP)) = true := by
  unfold SeqAt.shaped
  rw [Bool.and_eq_true]
  have ha : PyData.canLay0 (optP (sidP a)) = true := by
    cases a with
    | none => rfl
    | some ns =>
      show (PyData.canLayAll0 (ns.map PyData.int) && true) = true
      rw [lay_ints]
      rfl
  have hb : PyData.canLay0 (optP (intP b)) = true := by cases b <;> rfl
  refine ⟨?_, decide_eq_true ?_⟩
  · show (PyData.canLay0 (optP (sidP a)) && (PyData.canLay0 (optP (intP b)) && true)) = true
    rw [ha, hb]
    rfl
  · cases a with
    | none => cases b <;> simp [PyData.depth, PyData.depthAll, optP, sidP, intP]
    | some ns =>
      have h := dep_ints ns
      cases b <;> simp [PyData.depth, PyData.depthAll, optP, sidP, intP, h]
section
variable {P : Program} {w : World} {K : PySem.W.Frag} {mg : Str → Option Value} {base : Heap}
def spLQu (K : PySem.W.Frag) : Sp := fun vs H Q _ => ∃ z : Str, vs = [.str z] ∧ z.length ≤ 900000 ∧ cpo z ∧ (questW z = none → ∀ p H', Gr H H' → H' p = some (.lst []) → Q (.ref p) H') ∧ (∀ q, questW z = some q → ∀ p v H', Gr H H' → H' p = some (.lst [v]) → QuV K H' v q → Q (.ref p) H')
theorem sc_lqu : FnScope ["line", "sides", "colon", "wall"] ["line"] (defScope s__law_question_in) := ⟨rfl, rfl, rfl, by decide +kernel, rfl, by decide +kernel, by decide +kernel⟩
theorem part_cpo {z y : Str} (hy : tl y ≠ []) (h : cpo z) : cpo (Txt.partition z y).1 ∧ cpo (Txt.partition z y).2.2 := by
  have m : ∀ (l acc : List Nat) {a b : List Nat}, par (tl y) acc l = some (a, b) → (∀ c, c ∈ a → c ∈ acc ∨ c ∈ l) ∧ (∀ c, c ∈ b → c ∈ l) := by
    intro l
    induction l with
    | nil => intro acc a b h; cases h
    | cons c r ih =>
      intro acc a b h
      cases e : pre (tl y) (c :: r) with
      | true =>
        rw [par_hit e] at h
        cases h
        exact ⟨fun x hx => .inl hx, fun x hx => List.mem_of_mem_drop hx⟩
      | false =>
        rw [par_miss e] at h
        obtain ⟨i1, i2⟩ := ih _ h
        refine ⟨fun x hx => ?_, fun x hx => List.mem_cons_of_mem _ (i2 x hx)⟩
        rcases i1 x hx with h | h
        · rcases List.mem_append.mp h with h | h
          · exact .inl h
          · exact .inr (by rw [List.mem_singleton.mp h]; exact List.mem_cons_self)
        · exact .inr (List.mem_cons_of_mem _ h)
  rw [partition_par z y hy]
  cases e : par (tl y) [] (tl z) with
  | none => exact ⟨h, fun c hc => by cases hc⟩
  | some p =>
    obtain ⟨a, b⟩ := p
    obtain ⟨m1, m2⟩ := m _ _ e
    exact ⟨fun c hc => h c ((m1 c hc).elim (fun x => by cases x) id), fun c hc => h c (m2 c hc)⟩
theorem cl_lqu (D : Df K mg "_law_question_in" s__law_question_in) (CI : Cl P w K mg base 1 "_law_integer_in" ["word"] spLInt) (CA : Cl P w K mg base 1 "_law_all_in" ["told"] (spLAll K)) (CS : Cl P w K mg base 2 "_law_integers_in" ["text"] (spLInts K)) : Cl P w K mg base 3 "_law_question_in" ["line"] (spLQu K) := by
  refine D.cl (fun _ _ _ _ _ _ us hl => match us, hl with | [_], _ => rfl) fun f fd F => F.ok sc_lqu (fun vs H Q E h => ?_) (fun cdv A outer s H vs Q E hr h => ?_)
  · obtain ⟨z, rfl, _⟩ := h
    rfl
  obtain ⟨z, rfl, hz, cz, q0, q⟩ := h
  refine ⟨_, (pss_cons (ps_asg (pe_partition (pv 0) pe_str) (pg_tup rfl (pgs_cons (pg_name (i := 1) sc_lqu.nd rfl (Or.inl rfl)) (pgs_cons (pg_name (i := 2) sc_lqu.nd rfl (Or.inl rfl)) (pgs_cons (pg_name (i := 3) sc_lqu.nd rfl (Or.inl rfl)) pgs_nil)))))
    (pss_one (ps_ret (pe_ifExp (pt_cmpR op_ne (pv 2) pe_str (nomark _)) (pe_cl CA (hr.mono (by decide)) (pa_cons (pe_lst (pa_cons (pe_cl CS (hr.mono (by decide)) (pa_cons (pv 1) pa_nil)) (pa_cons (pe_cl CI (hr.mono (by decide)) (pa_cons (pv 3) pa_nil)) pa_nil))) pa_nil)) (pe_lst pa_nil))))), ?_⟩
  have po := cutp_ok z " : " tlc
  obtain ⟨cp1, cp3⟩ := part_cpo tlc cz
  generalize hp : Txt.partition z " : " = pp at po cp1 cp3
  obtain ⟨z1, z2, z3⟩ := pp
  have ew : questW z = questP z1 z2 z3 := by unfold questW; rw [hp]
  unfold questP at ew
  refine ⟨_, rfl, ⟨_, rfl⟩, _, _, rfl, rfl, rfl, sz15 (by omega), fun p np => ?_⟩
  rw [hp]
  dsimp only
  refine ⟨p, _, rfl, SqT.of upd_same, rfl, _, _, rfl, _, _, rfl, _, _, rfl, rfl, ?_⟩
  have rp := (Gr.refl H).new np (.tup [.str z1, .str z2, .str z3])
  generalize upd H p (.tup [.str z1, .str z2, .str z3]) = H1 at rp ⊢
  have l1 : z1.length ≤ z.length := po.l1
  have l3 : z3.length ≤ z.length := po.l2
  refine ⟨_, rfl, rfl, _, rfl, ?_⟩
  by_cases c2 : z2 = ("" : Str)
  · rw [decide_eq_true (show V.str z2 = V.str "" from by rw [c2])]
    have en : questW z = none := by
      rw [ew, c2]
      rfl
    exact iteF ⟨szL0, fun N nN => q0 en N _ (rp.new nN _) upd_same⟩
  rw [decide_eq_false (show ¬ V.str z2 = V.str "" from fun h => c2 (by injection h))]
  have s2 : someS z2 = true := by
    rcases po.mid with h | h
    · have h : z2 = _ := h
      rw [h]
      decide +kernel
    · exact absurd h c2
  rw [s2, if_pos rfl] at ew
  have fin : ∀ (sd : Option (List Int)) (o1 : Option V) (p1 : Addr) (H2 : Hp), Gr H1 H2 → H2 p1 = some (.lst (optL o1)) → sidesW z1 = sd → (sd = none → o1 = none) → (∀ ns, sd = some ns → ∃ t, o1 = some (.ref t) ∧ SqT K H2 t (ns.map V.int)) →
      ∀ (p2 : Addr) (H3 : Hp), Gr H2 H3 → H3 p2 = some (.lst (optL ((intW z3).map V.int))) → ∀ L, H3 L = none → spLAll K [.ref L] (upd H3 L (.lst [.ref p1, .ref p2])) Q E0 := fun sd o1 p1 H2 g2 h1 es hn hs p2 H3 g3 h2 L nL => by
    have rL := (Gr.refl H3).new nL (.lst [.ref p1, .ref p2])
    have gz := (rp.trans g2).trans (g3.trans rL)
    have h1' := rL.lstK (g3.lstK h1)
    have h2' := rL.lstK h2
    refine ⟨L, [.ref p1, .ref p2], [o1, (intW z3).map V.int], [sidP sd, intP (intW z3)], rfl, SqL.of upd_same, ?_, shp_pair _ _, (by show 2 ≤ 1000000; decide), ?_, .cons ⟨p1, rfl, h1'⟩ (.cons ⟨p2, rfl, h2'⟩ .nil), fun e p' H' g' hp' _ => ?_, fun us eu p' t H' g' hp' ht _ => ?_⟩
    · refine .cons ?_ (.cons ?_ .nil)
      · cases sd with
        | none =>
          rw [hn rfl] at h1'
          exact .lst (SqL.of h1') .nil
        | some ns =>
          obtain ⟨t, e1, ht⟩ := hs ns rfl
          rw [e1] at h1'
          exact .lst (SqL.of h1') (.cons (.tup ((g3.trans rL).seqT ht) (dp_ints _)) .nil)
      · cases e3 : intW z3 with
        | none => rw [e3] at h2'; exact .lst (SqL.of h2') .nil
        | some i => rw [e3] at h2'; exact .lst (SqL.of h2') (.cons (.int i) .nil)
    · have a1 : (sidP sd).isNone = o1.isNone := by
        cases sd with
        | none => rw [hn rfl]; rfl
        | some ns =>
          obtain ⟨t, e1, _⟩ := hs ns rfl
          rw [e1]
          rfl
      have a2 : (intP (intW z3)).isNone = ((intW z3).map V.int).isNone := by cases intW z3 <;> rfl
      rw [List.any_cons, List.any_cons, List.any_cons, List.any_cons, a1, a2]
      rfl
    · refine q0 ?_ p' H' (gz.trans g') hp'
      rw [ew, es]
      cases e4 : sd with
      | none => rfl
      | some ns =>
        cases e5 : intW z3 with
        | none => rfl
        | some i =>
          obtain ⟨t, e1, _⟩ := hs ns e4
          rw [e1, e5] at e
          cases e
    · cases e4 : sd with
      | none =>
        rw [hn e4] at eu
        cases us with
        | nil => cases eu
        | cons u r => rw [List.map_cons] at eu; exact absurd (List.cons.inj eu).1 (fun z => nomatch z)
      | some ns =>
        obtain ⟨t1, e1, ht1⟩ := hs ns e4
        cases e5 : intW z3 with
        | none =>
          rw [e1, e5] at eu
          match us, eu with
          | [a, b], eu => exact absurd (List.cons.inj (List.cons.inj eu).2).1 (fun z => nomatch z)
        | some i =>
          have eq : questW z = some (ns, i) := by rw [ew, es, e4, e5]
          have e6 : us = [.ref t1, .int i] := by
            rw [e1, e5] at eu
            match us, eu with
            | [a, b], eu =>
              have x1 := (List.cons.inj eu).1
              have x2 := (List.cons.inj (List.cons.inj eu).2).1
              rw [← Option.some.inj x1, ← Option.some.inj x2]
          rw [e6] at ht
          exact q _ eq p' (.ref t) H' (gz.trans g') hp' ⟨t, .ref t1, rfl, ht, t1, rfl, ((g3.trans rL).trans g').seqT ht1⟩
  refine iteT ⟨_, rfl, z1, rfl, by omega, cp1, fun es p1 H2 g2 h1 _ => ?_, fun ns es p1 t H2 g2 h1 ht _ => ?_⟩
  · refine ⟨_, rfl, z3, rfl, by omega, cp3, fun p2 H3 g3 h2 _ => ⟨szN (by show 2 ≤ 1000000; decide), fun L nL => ?_⟩⟩
    exact fin none none p1 H2 g2 h1 es (fun _ => rfl) (fun _ h => by cases h) p2 H3 g3 h2 L nL
  · refine ⟨_, rfl, z3, rfl, by omega, cp3, fun p2 H3 g3 h2 _ => ⟨szN (by show 2 ≤ 1000000; decide), fun L nL => ?_⟩⟩
    exact fin (some ns) (some (.ref t)) p1 H2 g2 h1 es (fun h => by cases h) (fun ns' h => by cases h; exact ⟨t, rfl, ht⟩) p2 H3 g3 h2 L nL
end
end SB
namespace SB
open PySem PySem.NumText L2 GxR GA RZ RP TL
/-! ### the head of a book, and what makes a book: pure -/
theorem sp1_join (s : Nat) : ∀ (l acc : List Nat), joinL [s] (spl [s] 0 acc l) = acc ++ l
  | [], acc => by rw [sp1_nil, joinL_cons]; rfl
  | c :: r, acc => by
    rw [sp1_cons]
    by_cases h : c = s
    · rw [if_pos h]
      have i := sp1_join s r []
      rw [List.nil_append] at i
      cases e : spl [s] 0 [] r with
      | nil =>
        have := sp1_len s r []
        rw [e] at this
        simp at this
      | cons p L =>
        show acc ++ ([s] ++ joinL [s] (p :: L)) = _
        rw [← e, i, h]
        rfl
    · rw [if_neg h, sp1_join s r, List.append_assoc]
      rfl
theorem tl_book : tl ("book" : Str) = [98, 111, 111, 107] := by decide +kernel
theorem tl_bookB : tl ("book " : Str) = [98, 111, 111, 107, 32] := by decide +kernel
def headL (l0 : Str) : Option Int := if cutS l0 none (some (5 : Int)) = ("book " : Str) then intW (cutS l0 (some (5 : Int)) none) else none
theorem intW_ext {a b : Str} (h : tl a = tl b) : intW a = intW b := by rw [ext_tl h]
theorem intW_blank {a : Str} (h : 32 ∈ tl a) : intW a = none := by
  unfold intW
  have : okI (tl a) = false := by
    rw [Bool.eq_false_iff]
    intro o
    have o := okI_of o
    have m : 32 ∈ dsOf (tl a) := by
      unfold dsOf
      split
      · rename_i e
        obtain ⟨r, er⟩ := pre1_ex e
        rw [er] at h ⊢
        rcases List.mem_cons.mp h with h | h
        · cases h
        · exact h
      · exact h
    have := o.dg 32 m
    omega
  rw [this]
  rfl
theorem bkHead_is (l0 : Str) : bkHead l0 = headL l0 := by
  have t1 : tl (cutS l0 none (some (5 : Int))) = (tl l0).take 5 := cutsT l0 5
  have t2 : tl (cutS l0 (some (5 : Int)) none) = (tl l0).drop 5 := cutsF l0 5
  have e := split_spl l0 " " tlb (kind_ok (by decide +kernel))
  rw [tl_blank] at e
  have eb : bkHead l0 = match Txt.split l0 " " with
    | [a, b] => if a = "book" then intW b else none
    | _ => none := rfl
  by_cases h : cutS l0 none (some (5 : Int)) = ("book " : Str)
  · have hh : headL l0 = intW (cutS l0 (some (5 : Int)) none) := by unfold headL; rw [if_pos h]
    rw [hh]
    rw [h, tl_bookB] at t1
    have el : tl l0 = [98, 111, 111, 107, 32] ++ (tl l0).drop 5 := by
      conv => lhs; rw [← List.take_append_drop 5 (tl l0)]
      rw [← t1]
    rw [el] at e
    have es : spl [32] 0 [] ([98, 111, 111, 107, 32] ++ (tl l0).drop 5) = [98, 111, 111, 107] :: spl [32] 0 [] ((tl l0).drop 5) := by
      show spl [32] 0 [] (98 :: 111 :: 111 :: 107 :: 32 :: (tl l0).drop 5) = _
      rw [sp1_cons, if_neg (by decide), sp1_cons, if_neg (by decide), sp1_cons, if_neg (by decide), sp1_cons, if_neg (by decide), sp1_cons, if_pos rfl]
      rfl
    rw [es] at e
    by_cases b : 32 ∈ (tl l0).drop 5
    · rw [intW_blank (by rw [t2]; exact b)]
      have l := congrArg List.length e
      have c1 : 0 < ((tl l0).drop 5).count 32 := List.count_pos_iff.mpr b
      rw [List.length_map, List.length_cons, sp1_len] at l
      rw [eb]
      match Txt.split l0 " ", l with
      | [], l => rfl
      | [_], l => rfl
      | [_, _], l => simp at l; omega
      | _ :: _ :: _ :: _, _ => rfl
    · have e1 : ∀ (l acc : List Nat), 32 ∉ l → spl [32] 0 acc l = [acc ++ l] := by
        intro l
        induction l with
        | nil => intro acc _; rw [sp1_nil, List.append_nil]
        | cons c r ih =>
          intro acc hm
          rw [sp1_cons, if_neg (fun h => hm (by rw [h]; exact List.mem_cons_self)), ih _ (fun h => hm (List.mem_cons_of_mem _ h)), List.append_assoc]
          rfl
      rw [e1 _ _ b, List.nil_append, ← t2] at e
      rw [eb]
      match Txt.split l0 " ", e with
      | [a, c], e =>
        rw [List.map_cons, List.map_cons] at e
        have ea : a = ("book" : Str) := ext_tl (by rw [(List.cons.inj e).1, tl_book])
        have ec := (List.cons.inj (List.cons.inj e).2).1
        show (if a = "book" then intW c else none) = _
        rw [if_pos ea]
        exact intW_ext ec
      | [], e => cases e
      | [_], e => simp at e
      | _ :: _ :: _ :: _, e => simp at e
  · have hh : headL l0 = none := by unfold headL; rw [if_neg h]
    rw [hh, eb]
    have nb : ∀ a c, Txt.split l0 " " = [a, c] → a ≠ ("book" : Str) := fun a c es ea => by
      rw [es, ea, List.map_cons, List.map_cons, tl_book] at e
      have j := sp1_join 32 (tl l0) []
      rw [← e, List.nil_append] at j
      refine h (ext_tl ?_)
      rw [t1, ← j, tl_bookB]
      show List.take 5 ([98, 111, 111, 107] ++ ([32] ++ joinL [32] [tl c])) = _
      rfl
    match hs : Txt.split l0 " " with
    | [a, c] =>
      show (if a = "book" then intW c else none) = none
      rw [if_neg (nb a c hs)]
    | [] => rfl
    | [_] => rfl
    | _ :: _ :: _ :: _ => rfl
theorem kept_lt : ∀ (l acc : List (List Int × Int)), (l.foldl (fun acc q => if nfU q ∈ acc.map nfU then acc else acc ++ [q]) acc).length ≤ acc.length + l.length
  | [], acc => Nat.le_refl _
  | q :: r, acc => by
    rw [List.foldl_cons, List.length_cons]
    refine Nat.le_trans (kept_lt r _) ?_
    split
    · omega
    · rw [List.length_append]
      show acc.length + 1 + _ ≤ _
      omega
theorem kept_full : ∀ (l acc : List (List Int × Int)), (l.foldl (fun acc q => if nfU q ∈ acc.map nfU then acc else acc ++ [q]) acc).length = acc.length + l.length → l.foldl (fun acc q => if nfU q ∈ acc.map nfU then acc else acc ++ [q]) acc = acc ++ l
  | [], acc, _ => (List.append_nil _).symm
  | q :: r, acc, h => by
    rw [List.foldl_cons] at h ⊢
    rw [List.length_cons] at h
    by_cases c : nfU q ∈ acc.map nfU
    · rw [if_pos c] at h
      have := kept_lt r acc
      omega
    · rw [if_neg c] at h ⊢
      rw [kept_full r (acc ++ [q]) (by rw [h, List.length_append]; show _ = acc.length + 1 + _; omega), List.append_assoc]
      rfl
theorem unlike_full {qs : List (List Int × Int)} : (unlikeU qs).length = qs.length ↔ (∀ q, q ∈ qs → NonZ q.1) ∧ (qs.map nfU).Nodup := by
  constructor
  · intro h
    have l1 : (nzU qs).length ≤ qs.length := List.length_filter_le _ _
    have l2 := kept_len (nzU qs)
    have h : (keptU (nzU qs)).length = qs.length := h
    have e1 : nzU qs = qs := List.filter_eq_self.mpr (by
      have : (nzU qs).length = qs.length := by omega
      exact List.length_filter_eq_length_iff.mp this)
    rw [e1] at h
    have e2 : keptU qs = [] ++ qs := kept_full qs [] (by rw [List.length_nil, Nat.zero_add]; exact h)
    rw [List.nil_append] at e2
    refine ⟨fun q hq => ?_, ?_⟩
    · rw [← e1] at hq
      exact (nzU_mem hq).2
    · have := kept_nd qs
      rw [e2] at this
      exact this
  · rintro ⟨h, nd⟩
    have e1 : nzU qs = qs := List.filter_eq_self.mpr fun q hq => h q hq
    unfold unlikeU
    rw [e1, kept_book nd]
instance nzDec (l : List Int) : Decidable (NonZ l) := by unfold NonZ; infer_instance
theorem questOf_qu (d : Int) (q : List Int × Int) : questOfD d (quP q) = (decide (NonZ q.1) && decide (((q.1.length : Nat) : Int) = d)) := by
  have e : questD (quP q) = decide (NonZ q.1) := by
    show (sidesD (.tuple (q.1.map PyData.int)) && true) = _
    rw [Bool.and_true]
    show ((q.1.map PyData.int).all isIntD && ((q.1.map PyData.int).map intD).any fun z => decide (z ≠ 0)) = _
    rw [uD_ints]
    have : (q.1.map PyData.int).all isIntD = true := List.all_eq_true.mpr fun z hz => by
      obtain ⟨i, _, rfl⟩ := List.mem_map.mp hz
      rfl
    rw [this, Bool.true_and]
    show (q.1.any fun z => decide (z ≠ 0)) = decide ((q.1.any fun z => decide (z ≠ 0)) = true)
    cases (q.1.any fun z => decide (z ≠ 0)) <;> rfl
  show (questD (quP q) && decide ((((q.1.map PyData.int).length : Nat) : Int) = d)) = _
  rw [e, List.length_map]
theorem bkD_iff (d : Int) (qs : List (List Int × Int)) : bkD d qs = true ↔ 1 ≤ d ∧ (∀ q, q ∈ qs → ((q.1.length : Nat) : Int) = d) ∧ (unlikeU qs).length = qs.length := by
  unfold bkD
  rw [bookD_at, unlike_full]
  have e3 : ((partD (.tuple (qs.map quP))).map quD) = qs := by
    show (qs.map quP).map quD = qs
    rw [List.map_map]
    conv => rhs; rw [← List.map_id qs]
    exact List.map_congr_left fun q _ => uD_qu q
  have e2 : (partD (.tuple (qs.map quP))).all (questOfD (intD (.int d))) = true ↔ ∀ q, q ∈ qs → NonZ q.1 ∧ ((q.1.length : Nat) : Int) = d := by
    show (qs.map quP).all (questOfD d) = true ↔ _
    rw [List.all_eq_true]
    constructor
    · intro h q hq
      have := h (quP q) (List.mem_map.mpr ⟨q, hq, rfl⟩)
      rw [questOf_qu, Bool.and_eq_true, decide_eq_true_eq, decide_eq_true_eq] at this
      exact this
    · intro h z hz
      obtain ⟨q, hq, rfl⟩ := List.mem_map.mp hz
      rw [questOf_qu, Bool.and_eq_true, decide_eq_true_eq, decide_eq_true_eq]
      exact h q hq
  have e1 : manyD (.int d) = true ↔ 1 ≤ d := by
    show decide (1 ≤ d) = true ↔ _
    rw [decide_eq_true_eq]
  rw [Bool.and_eq_true, Bool.and_eq_true, Bool.and_eq_true, e3, e2, e1, decide_eq_true_eq]
  have t : isTupD (.tuple (qs.map quP)) = true := rfl
  constructor
  · rintro ⟨a, _, b, c⟩
    exact ⟨a, fun q h => (b q h).2, fun q h => (b q h).1, c⟩
  · rintro ⟨a, b, c, d⟩
    exact ⟨a, t, fun q h => ⟨c q h, b q h⟩, d⟩
end SB
set_option pp.maxSteps 300
namespace SB
open PySem PySem.NumText L2 GxR GA RZ RP TL
/-! ### how read_book comes out, by the law -/
/-- the ones for which something holds, each as a number -/
theorem lc_cnt {J : It} {xs : List V} {g : TG} {tt : TT} {te : TE} {vs : List Nat} {σ : L2.St} {H1 : Hp} {D : Addr} {Qd : Hp → Prop} (Z : OnI J xs H1) (p : Nat → Bool) (nD : H1 D = none) (hz : xs.length ≤ 1000)
    (step : ∀ (i : Nat) x H (Ky : VK) (Nx : Hp → Prop), xs[i]? = some x → Gr H1 H → (p i = true → Ky (.int 1) H) → (p i = false → Nx H) → g x (wipe σ vs) H fun σ2 H2 => wipe σ2 vs = wipe σ vs ∧ tt σ2 H2 fun b H3 => if b = true then te σ2 H3 Ky else Nx H3)
    (fin : ∀ (ns : List Int) H, H D = some (.lst (ns.map V.int)) → (ns = [] ↔ ∀ i, i < xs.length → p i = false) → Gr H1 H → Qd H) :
    ∃ W : Nat → Nat → Hp → Prop, (∃ m, W 0 m (upd H1 D (.lst []))) ∧ ∀ i m H, W i m H → (J.stop i H ∧ Qd H) ∨
      (J.go i H ∧ ∃ Nx : Hp → Prop, (∀ H', Nx H' → ∃ m', m' < m ∧ W (i + 1) m' H') ∧ ∀ x H', J.yld i H x H' → g x (wipe σ vs) H' fun σ2 H2 => wipe σ2 vs = wipe σ vs ∧ tt σ2 H2 fun b H3 =>
        if b = true then te σ2 H3 fun y H4 => ∃ acc, H4 D = some (.lst acc) ∧ acc.length < sizeLine ∧ Nx (upd H4 D (.lst (acc ++ [y]))) else Nx H3) := by
  refine ⟨fun i m H => i + m = xs.length ∧ (∃ ns : List Int, H D = some (.lst (ns.map V.int)) ∧ ns.length ≤ i ∧ (ns = [] ↔ ∀ j, j < i → p j = false)) ∧ GrD D H1 H, ⟨xs.length, Nat.zero_add _, ⟨[], upd_same, Nat.zero_le _, by simp⟩, (GrD.refl D H1).set _⟩, fun i m H ⟨hm, ⟨ns, hD, hl, hp⟩, gr⟩ => ?_⟩
  have g1 := gr.to nD
  cases m with
  | zero =>
    have e : i = xs.length := by omega
    subst e
    exact .inl ⟨Z.stop H g1, fin ns H hD hp g1⟩
  | succ m =>
    have i1 : i < xs.length := by omega
    refine .inr ⟨Z.go H i g1 i1, fun H' => (∃ ns : List Int, H' D = some (.lst (ns.map V.int)) ∧ ns.length ≤ i + 1 ∧ (ns = [] ↔ ∀ j, j < i + 1 → p j = false)) ∧ GrD D H1 H', fun H' h => ⟨m, Nat.lt_succ_self _, by omega, h⟩, fun v H' hyl => ?_⟩
    obtain ⟨rfl, hx⟩ := Z.yld H i v H' g1 i1 hyl
    refine step i v _ _ _ hx g1 (fun c => ⟨_, hD, ?_, ⟨ns ++ [1], ?_, ?_, ?_⟩, gr.set _⟩) fun c => ⟨⟨ns, hD, by omega, ?_⟩, gr⟩
    · rw [List.length_map]
      exact small1000 (by omega)
    · rw [upd_same, List.map_append]
      rfl
    · rw [List.length_append]
      show ns.length + 1 ≤ _
      omega
    · constructor
      · intro h
        exact absurd (congrArg List.length h) (by rw [List.length_append]; show ns.length + 1 ≠ 0; omega)
      · intro h
        have := h i (by omega)
        rw [c] at this
        cases this
    · rw [hp]
      constructor
      · intro h j hj
        by_cases e : j = i
        · rw [e]; exact c
        · exact h j (by omega)
      · intro h j hj
        exact h j (by omega)
theorem eqv_nilI (ns : List Int) : PyData.eqv (.list (ns.map PyData.int)) (.list []) = ns.isEmpty := by
  cases ns with
  | nil => decide
  | cons j r => rfl
section
variable {P : Program} {w : World} {K : PySem.W.Frag} {mg : Str → Option Value} {base : Heap}
def spDue (K : PySem.W.Frag) : Sp := fun vs H Q _ => ∃ z : Str, vs = [.str z] ∧ z.length ≤ 800000 ∧ (Txt.split z "\n").length ≤ 61 ∧ cpo z ∧ (∀ n, bkOut z = .no n → ∀ p H', Gr H H' → SqT K H' p [.str "refused", .int n] → Q (.ref p) H') ∧ (∀ d qs, bkOut z = .yes d qs → ∀ p b H', Gr H H' → SqT K H' p [.str "told", b] → BkI K H' b d qs → Q (.ref p) H')
theorem sc_due : FnScope ["text", "lines", "questions", "unknowns", "at", "found", "unlike", "sides", "wall"] ["text"] (defScope s__law_due) := ⟨rfl, rfl, rfl, by decide +kernel, rfl, by decide +kernel, by decide +kernel⟩
theorem cl_due (D : Df K mg "_law_due" s__law_due) (B : Blt mg) (CI : Cl P w K mg base 1 "_law_integer_in" ["word"] spLInt) (CQ : Cl P w K mg base 3 "_law_question_in" ["line"] (spLQu K)) (CU : Cl P w K mg base 3 "_law_unlike" ["questions"] (spUnl K)) : Cl P w K mg base 4 "_law_due" ["text"] (spDue K) := by
  refine D.cl (fun _ _ _ _ _ _ us hl => match us, hl with | [_], _ => rfl) fun f fd F => F.ok sc_due (fun vs H Q E h => ?_) (fun cdv A outer s H vs Q E hr h => ?_)
  · obtain ⟨z, rfl, _⟩ := h
    rfl
  obtain ⟨z, rfl, lz, ll, cz, q0, q⟩ := h
  refine ⟨_, (pss_cons (ps_par (i := 1) (j := 2) rfl sc_due.nd rfl rfl (by decide) rfl rfl (pa_cons (pe_split (pv 0) pe_str) (pa_cons (pe_lst pa_nil) pa_nil)) rfl)
    (pss_cons (ps_set (i := 3) sc_due.nd rfl (.inr rfl) (pe_cl CI (hr.mono (by decide)) (pa_cons (pe_slice sl_str (pe_ix ix_list (pv 1) pe_int (fun _ _ => rfl)) (po_some pe_int) po_none) pa_nil)))
    (pss_cons (ps_if (PW.pt (by exact (pw_or (pt_cmpR op_ne (pe_slice sl_str (pe_ix ix_list (pv 1) pe_int (fun _ _ => rfl)) po_none (po_some pe_int)) pe_str (nomark _)) (pw_or1 (pt_cmpR (op_eqD hr.units) (pv 3) (pe_lst pa_nil) (nomark _)))))) (pss_one (ps_ret (pe_tup (pa_cons pe_str (pa_cons pe_int pa_nil))))) pss_nil)
    (pss_cons (ps_for PassesOwn.never rfl (pi_range2 rfl B.rng (pa_cons pe_int (pa_cons (pe_len (pv 1) B.len) pa_nil))) (pg_name (i := 4) sc_due.nd rfl (Or.inl rfl))
      (pss_cons (ps_set (i := 5) sc_due.nd rfl (.inl rfl) (pe_cl CQ (hr.mono (by decide)) (pa_cons (pe_ix ix_list (pv 1) (pv 4) (fun _ _ => rfl)) pa_nil)))
      (pss_cons (ps_if (pt_cmpR (op_eqD hr.units) (pv 5) (pe_lst pa_nil) (nomark _)) (pss_one (ps_ret (pe_tup (pa_cons pe_str (pa_cons (pe_op op_add (pv 4) pe_int) pa_nil))))) pss_nil)
      (pss_one (ps_expr (pe_bm PySem.F.plainAttrs_list PySem.F.slot_list_append PySem.F.type_list_append mt_append (pv 2) (pa_cons (pe_ix ix_list (pv 5) pe_int (fun _ _ => rfl)) pa_nil)))))))
    (pss_cons (ps_set (i := 6) sc_due.nd rfl (.inl rfl) (pe_cl CU (hr.mono (by decide)) (pa_cons (pv 2) pa_nil)))
    (pss_cons (ps_if (PW.pt (by exact (pw_or (pt_cmpR op_lt (pe_ix ix_list (pv 3) pe_int (fun _ _ => rfl)) pe_int (nomark _)) (pw_or1 (pt_cmpR (op_neD hr.units) (pe_lc (own := [("sides", 7), ("wall", 8)]) (g := gTup K 2 (gCons (gName 7) (gCons (gName 8) gNil))) rfl sc_due.nd (pi_list (pv 2)) (blkOk_by (N := ["text", "lines", "questions", "unknowns", "at", "found", "unlike", "sides", "wall"]) (sc := defScope s__law_due) (by decide +kernel)) (fun _ _ _ _ _ => (pg_tup rfl (pgs_cons (pg_name (i := 7) sc_due.nd rfl (Or.inl rfl)) (pgs_cons (pg_name (i := 8) sc_due.nd rfl (Or.inl rfl)) pgs_nil)))) (fun _ _ _ _ _ => pts_one (pt_cmpR op_ne (pe_lenK K rfl (pv 7) B.len) (pe_ix (r := rIxL K) ix_list (pv 3) pe_int (fun _ _ => rfl)) (nomark _))) (fun _ _ _ _ _ => pe_int)) (pe_lst pa_nil) (nomark _)))))) (pss_one (ps_ret (pe_tup (pa_cons pe_str (pa_cons pe_int pa_nil))))) pss_nil)
    (pss_one (ps_ret (pe_ifExp (pt_cmpR op_eq (pe_len (pv 6) B.len) (pe_len (pv 2) B.len) (nomark _)) (pe_tup (pa_cons pe_str (pa_cons (pe_tup (pa_cons (pe_ix ix_list (pv 3) pe_int (fun _ _ => rfl)) (pa_cons (pe_callTy call_tuple_of rfl B.tup bootTup (pa_cons (pv 2) pa_nil)) pa_nil))) pa_nil))) (pe_tup (pa_cons pe_str (pa_cons pe_int pa_nil)))))))))))), ?_⟩
  have sn := split_ne z "\n" tln (by decide +kernel)
  obtain ⟨_, sm⟩ := split_len (z := z) tln (by decide +kernel)
  have eo : bkOut z = bkOutL (Txt.split z "\n") := rfl
  refine ⟨_, rfl, ⟨_, rfl⟩, _, _, rfl, rfl, rfl, sz15 (by omega), fun L nL => ?_⟩
  have cs : ∀ l, l ∈ Txt.split z "\n" → cpo l := fun l h => split_cpo tl_nl (by decide +kernel) cz h
  have rL := (Gr.refl H).new nL (.lst ((Txt.split z "\n").map V.str))
  have hL : (upd H L (.lst ((Txt.split z "\n").map V.str))) L = some (.lst ((Txt.split z "\n").map V.str)) := upd_same
  generalize upd H L (.lst ((Txt.split z "\n").map V.str)) = H1 at rL hL ⊢
  generalize Txt.split z "\n" = ls at hL sn sm ll eo cs
  cases ls with
  | nil => exact absurd rfl sn
  | cons l0 rest =>
    have m0 : l0.length ≤ 800000 := Nat.le_trans (sm l0 List.mem_cons_self) lz
    have mr : ∀ l, l ∈ rest → l.length ≤ 800000 := fun l h => Nat.le_trans (sm l (List.mem_cons_of_mem _ h)) lz
    rw [List.length_cons] at ll
    refine ⟨szL0, fun F nF => ⟨_, _, rfl, ?_⟩⟩
    have rF := (Gr.refl H1).new nF (.lst [])
    have hF : (upd H1 F (.lst [])) F = some (.lst []) := upd_same
    have hLF : L ≠ F := ne_of_none hL nF
    have hL2 := rF.lstK hL
    have g2 := rL.trans rF
    generalize upd H1 F (.lst []) = H2 at rF hF hL2 g2 ⊢
    have e0 : bkOut z = match headL l0 with
      | none => .no 1
      | some d => match optAll (rest.map questW) with
        | none => .no (((firstNone rest : Nat) : Int) + 2)
        | some qs => if bkD d qs then .yes d qs else .no 0 := by
        rw [eo, bkOutL_c, bkHead_is]
        try rfl
    have c0 := cs l0 List.mem_cons_self
    have ref : ∀ (n : Int), bkOut z = .no n → ∀ H', Gr H H' → ∀ p, H' p = none → Q (.ref p) (upd H' p (.tup [.str "refused", .int n])) := fun n e H' g p np => q0 n e p _ (g.new np _) (SqT.of upd_same)
    have t2 : tl (cutS l0 (some (5 : Int)) none) = (tl l0).drop 5 := cutsF l0 5
    refine ⟨_, rfl, L, _, _, .str l0, rfl, rfl, SqL.of hL2, atI_nat (j := 0) rfl, _, rfl, l0, rfl, sz15 (by omega), cutS l0 (some (5 : Int)) none, rfl, ?_, fun c hc => c0 c (cut_m hc), fun U H3 g3 hU fr => ?_⟩
    · rw [len_tl, t2, List.length_drop, ← len_tl]
      omega
    have hL3 := g3.lstK hL2
    have hF3 := g3.lstK hF
    have g03 := g2.trans g3
    have nUF : U ≠ F := fr F _ hF
    refine ⟨_, rfl, L, _, _, .str l0, rfl, rfl, SqL.of hL3, atI_nat (j := 0) rfl, _, rfl, l0, rfl, sz15 (by omega), rfl, _, rfl, ?_⟩
    by_cases ch : ¬ cutS l0 none (some (5 : Int)) = ("book " : Str)
    · have eh : headL l0 = none := by unfold headL; rw [if_neg ch]
      rw [eh] at e0
      exact iteT2 (fun h => ch (by injection h)) ⟨szN (by show 2 ≤ 1000000; decide), fun p np => ref 1 e0 H3 g03 p np⟩
    have ch := Decidable.not_not.mp ch
    have eh : headL l0 = intW (cutS l0 (some (5 : Int)) none) := by unfold headL; rw [if_pos ch]
    rw [← eh] at hU
    rw [show (V.str (cutS l0 none (some (5 : Int)))) = V.str "book " from by rw [ch]]
    refine iteNS rfl ⟨_, rfl, szL0, fun N nN => ?_⟩
    have kN := (Gr.refl H3).new nN (.lst [])
    have hN : SqL K (upd H3 N (.lst [])) N [] := SqL.of upd_same
    have hU4 := kN.lstK hU
    have hL4 := kN.lstK hL3
    have hF4 := kN.lstK hF3
    have g04 := g03.trans kN
    have g24 := g3.trans kN
    generalize upd H3 N (.lst []) = H4 at hN hU4 hL4 hF4 g04 g24 ⊢
    cases ed : headL l0 with
    | none =>
      rw [ed] at e0 hU4
      refine ⟨_, _, .lst (SqL.of hU4) .nil, .lst hN .nil, by decide, by decide, _, rfl, iteT ⟨szN (by show 2 ≤ 1000000; decide), fun p np => ref 1 e0 H4 g04 p np⟩⟩
    | some d =>
      rw [ed] at e0 hU4
      have hU4 : H4 U = some (.lst [.int d]) := hU4
      refine ⟨_, _, .lst (SqL.of hU4) (.cons (.int d) .nil), .lst hN .nil, shp_ints [d], by decide, _, rfl, iteF ?_⟩
      have back : ∀ H', GrD F H4 H' → Gr H H' := fun H' g => rL.trans ((((rF.trans g24).d F).trans g).to nF)
      have en : ((((((l0 :: rest).map V.str).length : Nat) : Int)) - 1).toNat = rest.length := by
        rw [List.length_map, List.length_cons]
        omega
      refine ⟨_, rfl, L, _, rfl, .inl (SqL.of hL4), _, _, rfl, ⟨by decide, by decide, by rw [List.length_map, List.length_cons]; omega, by rw [List.length_map, List.length_cons]; omega⟩, ?_⟩
      rw [en]
      refine for_range (lo := 1) (fun i σ H' => ∃ (c4 c5 : Option V) (ys : List V) (qi : List (List Int × Int)), σ = [some (.str z), some (.ref L), some (.ref F), some (.ref U), c4, c5, none, none, none] ∧ GrD F H4 H' ∧ H' F = some (.lst ys) ∧ (rest.take i).map questW = qi.map some ∧ Paired (QuV K H') ys qi) ⟨_, _, [], [], rfl, GrD.refl _ _, hF4, rfl, .nil⟩ (fun i σ H' hi h => ?_) (fun σ H' h => ?_)
      · obtain ⟨c4, c5, ys, qi, rfl, g, hy, hq, pp⟩ := h
        obtain ⟨l, hl⟩ : ∃ l, rest[i]? = some l := ⟨rest[i], List.getElem?_eq_getElem hi⟩
        have ml := List.mem_of_getElem? hl
        have hL5 := GrDL.lst g hLF hL4
        refine ⟨_, rfl, _, rfl, L, _, _, .str l, rfl, rfl, SqL.of hL5, ?_, l, rfl, by have := mr l ml; omega, cs l (List.mem_cons_of_mem _ ml), fun e p H5 g5 hp => ?_, fun q1 e p v H5 g5 hp hv => ?_⟩
        · rw [show ((1 : Int) + (i : Int)) = ((i + 1 : Nat) : Int) from by omega]
          exact atI_nat (by rw [List.map_cons, List.getElem?_cons_succ, List.getElem?_map, hl]; rfl)
        · refine ⟨_, rfl, szL0, fun M nM => ?_⟩
          have kM := (Gr.refl H5).new nM (.lst [])
          refine ⟨_, _, .lst (SqL.of (kM.lstK hp)) .nil, .lst (SqL.of upd_same) .nil, by decide, by decide, _, rfl, iteT ⟨_, rfl, _, _, rfl, rfl, szN (by show 2 ≤ 1000000; decide), fun p2 np2 => ?_⟩⟩
          have fn : firstNone rest = i := first_none hl e fun j m hj hm en => by
            have a := congrArg (fun l : List (Option (List Int × Int)) => l[j]?) hq
            rw [List.getElem?_map, List.getElem?_map, List.getElem?_take_of_lt hj, hm, Option.map_some, en] at a
            cases b : qi[j]? with
            | none => rw [b] at a; cases a
            | some _ => rw [b] at a; cases a
          have eN : optAll (rest.map questW) = none := optAll_none.mpr (List.mem_map.mpr ⟨l, ml, e⟩)
          have e2 : bkOut z = .no ((1 : Int) + (i : Int) + 1) := by
            rw [e0, eN, fn]
            show BkO.no _ = BkO.no _
            congr 1
            omega
          exact ref _ e2 _ ((back _ g).trans (g5.trans kM)) p2 np2
        · refine ⟨_, rfl, szL0, fun M nM => ?_⟩
          have kM := (Gr.refl H5).new nM (.lst [])
          have hp2 := kM.lstK hp
          have hv2 := hv.gr kM
          have hy2 := (g5.trans kM).lstK hy
          have gg := g5.trans kM
          have hM : SqL K (upd H5 M (.lst [])) M [] := SqL.of upd_same
          generalize upd H5 M (.lst []) = H6 at kM hp2 hv2 hy2 gg hM ⊢
          refine ⟨_, _, .lst (SqL.of hp2) (.cons (dp_qu hv2) .nil), .lst hM .nil, shp_qusL [q1], by decide, _, rfl, iteF ?_⟩
          have ly := paired_len pp
          have lq := congrArg List.length hq
          rw [List.length_map, List.length_map, List.length_take] at lq
          refine ⟨_, rfl, .inl ⟨rfl, _, SqL.of hy2⟩, _, rfl, p, _, _, v, rfl, rfl, SqL.of hp2, rfl, F, ys, v, rfl, rfl, hy2, small1000 (by omega), ?_⟩
          have tp : Tst K H6 (upd H6 F (.lst (ys ++ [v]))) := Tst.put hy2
          refine ⟨_, _, ys ++ [v], qi ++ [q1], rfl, (g.trans (gg.d F)).set _, upd_same, ?_, ?_⟩
          · rw [List.take_add_one, hl, List.map_append, hq, List.map_append]
            show _ ++ [questW l] = _
            rw [e]
            rfl
          · exact paired_app (Paired.mapP pp fun _ _ z => QuV.st (QuV.gr z gg) tp) (.cons (QuV.st hv2 tp) .nil)
      · obtain ⟨c4, c5, ys, qi, rfl, g, hy, hq, pp⟩ := h
        rw [List.take_length] at hq
        have lq := congrArg List.length hq
        rw [List.length_map, List.length_map] at lq
        have eS : optAll (rest.map questW) = some qi := by
          cases eq : optAll (rest.map questW) with
          | none =>
            have := optAll_none.mp eq
            rw [hq] at this
            obtain ⟨_, _, h⟩ := List.mem_map.mp this
            cases h
          | some l =>
            have := (optAll_some eq).symm.trans hq
            rw [List.map_inj_right (fun _ _ h => Option.some.inj h)] at this
            rw [this]
        have qb : ∀ q, q ∈ qi → q.1.length ≤ 900000 ∧ (∀ z, z ∈ q.1 → z.natAbs < 10 ^ 9) ∧ q.2.natAbs < 10 ^ 9 := fun q0 h => by
          have : some q0 ∈ rest.map questW := by
            rw [hq]
            exact List.mem_map.mpr ⟨q0, h, rfl⟩
          obtain ⟨l, hl, e⟩ := List.mem_map.mp this
          exact questW_lt e (mr l hl)
        have t9 : ∀ x : Int, x.natAbs < 10 ^ 9 → x.natAbs < 2 ^ 2000 := fun x hx => Nat.lt_trans (dg_big hx (by decide)) (Nat.pow_lt_pow_right (by decide) (by decide))
        have e1 : bkOut z = if bkD d qi then .yes d qi else .no 0 := by rw [e0, eS]
        have gB := back _ g
        have hU5 := GrDL.lst g nUF hU4
        have lp := paired_len pp
        refine ⟨_, rfl, F, ys, qi, rfl, SqL.of hy, pp, fun q h => ⟨fun x hx => t9 x ((qb q h).2.1 x hx), t9 _ (qb q h).2.2, (qb q h).1⟩, by omega, fun G zs H6 g6 nG hG pz => ?_⟩
        have hU6 := g6.lstK hU5
        have hF6 := g6.lstK hy
        have lz := paired_len pz
        have pp6 : Paired (QuV K H6) ys qi := Paired.mapP pp fun _ _ z => QuV.gr z g6
        have gB6 := gB.trans g6
        refine ⟨_, rfl, U, _, _, .int d, rfl, rfl, SqL.of hU6, rfl, _, _, rfl, rfl, _, rfl, ?_⟩
        by_cases d1 : d < 1
        · have e2 : bkOut z = .no 0 := by
            rw [e1, if_neg (fun h => by have := ((bkD_iff d qi).mp h).1; omega)]
          exact iteP d1 ⟨szN (by show 2 ≤ 1000000; decide), fun p np => ref 0 e2 H6 gB6 p np⟩
        refine iteN d1 ?_
        refine ⟨_, rfl, F, rfl, ⟨_, SqL.of hF6⟩, fun Dd nD => ?_⟩
        refine lc_cnt (oni_L (K := K) (SqL.of hF6)) (fun i => match qi[i]? with
          | some q => !decide (((q.1.length : Nat) : Int) = d)
          | none => false) nD (by omega) (fun i x H7 Ky Nx hx g7 h1 h2 => ?_) (fun ns H7 hD hns g7 => ?_)
        · obtain ⟨q1, eq, hn⟩ := paired_get pp6 hx
          rw [eq] at h1 h2
          obtain ⟨p, t, rfl, ht, b, rfl, hb⟩ := hn.gr g7
          refine ⟨p, _, rfl, ht, rfl, _, _, rfl, _, _, rfl, rfl, rfl, ?_⟩
          refine ⟨_, rfl, b, _, rfl, .inr hb, _, rfl, U, _, _, .int d, rfl, rfl, SqL.of (g7.lstK hU6), rfl, rfl, _, rfl, ?_⟩
          rw [List.length_map]
          by_cases c : ((q1.1.length : Nat) : Int) = d
          · rw [show V.int ((q1.1.length : Nat) : Int) = V.int d from by rw [c]]
            exact iteNS rfl (h2 (by show (!decide _) = false; rw [decide_eq_true c]; rfl))
          · exact iteT2 (fun h => c (by injection h)) (h1 (by show (!decide _) = true; rw [decide_eq_false c]; rfl))
        refine ⟨szL0, fun M nM => ?_⟩
        have kM := (Gr.refl H7).new nM (.lst [])
        have hD2 := kM.lstK hD
        have hM : SqL K (upd H7 M (.lst [])) M [] := SqL.of upd_same
        have g8 := g7.trans kM
        have gB8 := gB6.trans g8
        have hG8 := g8.lstK hG
        have hF8 := g8.lstK hF6
        have hU8 := g8.lstK hU6
        have pp8 := Paired.mapP pp6 fun _ _ z => QuV.gr z g8
        generalize upd H7 M (.lst []) = H8 at hD2 hM gB8 hG8 hF8 hU8 pp8 ⊢
        refine ⟨_, _, .lst (SqL.of hD2) (dp_ints _), .lst hM .nil, shp_ints _, by decide, _, rfl, ?_⟩
        rw [eqv_nilI]
        have len_iff : ns = [] ↔ ∀ q, q ∈ qi → ((q.1.length : Nat) : Int) = d := by
          rw [hns]
          constructor
          · intro h q hq
            obtain ⟨i, hi⟩ := List.getElem?_of_mem hq
            have := h i (by have := (List.getElem?_eq_some_iff.mp hi).1; omega)
            rw [hi] at this
            have : (!decide (((q.1.length : Nat) : Int) = d)) = false := this
            simpa using this
          · intro h i hi
            cases e : qi[i]? with
            | none => rfl
            | some q =>
              show (!decide _) = false
              rw [decide_eq_true (h q (List.mem_of_getElem? e))]
              rfl
        by_cases cn : ns = []
        · rw [show ns.isEmpty = true from by rw [cn]; rfl]
          refine iteF ?_
          refine ⟨_, rfl, G, _, rfl, .inl (SqL.of hG8), _, rfl, F, _, rfl, .inl (SqL.of hF8), rfl, _, rfl, ?_⟩
          rw [lz, lp]
          by_cases cu : (unlikeU qi).length = qi.length
          · have e2 : bkOut z = .yes d qi := by
              rw [e1, if_pos ((bkD_iff d qi).mpr ⟨by omega, len_iff.mp cn, cu⟩)]
            refine iteP (by rw [cu]) ⟨_, rfl, U, _, _, .int d, rfl, rfl, SqL.of hU8, rfl, _, rfl, F, ys, rfl, .inl ⟨SqL.of hF8, fun A nA => ⟨szN (by show 2 ≤ 1000000; decide), fun Tt nTt => ⟨szN (by show 2 ≤ 1000000; decide), fun p np => ?_⟩⟩⟩⟩
            have rA := (Gr.refl H8).new nA (.tup ys)
            have rT := rA.new nTt (.tup [.int d, .ref A])
            have rP := rT.new np (.tup [.str "told", .ref Tt])
            refine q d qi e2 p (.ref Tt) _ (gB8.trans rP) (SqT.of upd_same) ?_
            have hb : BkI K (upd (upd H8 A (.tup ys)) Tt (.tup [.int d, .ref A])) (.ref Tt) d qi := ⟨Tt, A, ys, rfl, SqT.of upd_same, ((Gr.refl _).new nTt _).seqT (SqT.of upd_same), Paired.mapP pp8 fun _ _ z => QuV.gr z rT⟩
            exact hb.gr ((Gr.refl _).new np _)
          · have e2 : bkOut z = .no 0 := by
              rw [e1, if_neg (fun h => cu ((bkD_iff d qi).mp h).2.2)]
            exact iteN (fun h => cu (by injection h with h; omega)) ⟨szN (by show 2 ≤ 1000000; decide), fun p np => ref 0 e2 H8 gB8 p np⟩
        · rw [show ns.isEmpty = false from by cases ns with | nil => exact absurd rfl cn | cons => rfl]
          have e2 : bkOut z = .no 0 := by
            rw [e1, if_neg (fun h => cn (len_iff.mpr ((bkD_iff d qi).mp h).2.1))]
          exact iteT ⟨szN (by show 2 ≤ 1000000; decide), fun p np => ref 0 e2 H8 gB8 p np⟩
end
end SB
set_option pp.maxSteps 300
namespace SB
open PySem PySem.NumText L2 GxR GA RZ RP TL
/-! ### a line that may stand elsewhere, or nowhere -/
theorem quT_free {c : Nat} (h : 58 < c ∨ c = 10) (q : List Int × Int) : c ∉ tl (quT q) := by
  refine app_free (app_free (sidesT_free (by omega) (by omega) _) ?_) (iT_free (by omega) _)
  rw [tl_colon]
  simp
  omega
theorem odd_qu {q : List Int × Int} (l : q.1.length ≤ 12) (h : ∀ z, z ∈ q.1 → z.natAbs < 10 ^ 10) (w : q.2.natAbs < 10 ^ 10) : OddV (.str (quT q)) := by
  refine ⟨_, rfl, List.count_eq_zero.mpr (quT_free (.inr rfl) q), ?_, fun c hc => ?_⟩
  · have := quT_len (k := 10) (by decide) h w
    have m : q.1.length * (10 + 1 + 1) ≤ 12 * 12 := Nat.mul_le_mul l (by decide)
    omega
  · by_cases hh : c < 1114112
    · exact hh
    · exact absurd hc (quT_free (.inl (by omega)) q)
theorem shp_qusT (qs : List (List Int × Int)) : SeqAt.shaped (.tuple (qs.map quP)) = true := shp_qusL qs
theorem flat_one (c : V) : ∀ n : Nat, (List.replicate n [c]).flatten = List.replicate n c
  | 0 => rfl
  | n + 1 => by rw [List.replicate_succ, List.flatten_cons, flat_one c n, List.replicate_succ]; rfl
theorem repY {K : PySem.W.Frag} {H : Hp} {p : Addr} {d : Nat} {x : Int} {Kc : VK} (hp : SqT K H p [.int x]) (hd : d ≤ 1000) (cont : ∀ c H', Gr H H' → SqT K H' c ((List.replicate d x).map V.int) → Kc (.ref c) H') : rRepA K (.ref p) (.int ((d : Nat) : Int)) H Kc := by
  refine ⟨p, _, _, rfl, rfl, hp, List.cons_ne_nil _ _, by omega, by omega, by show 1 ≤ 1000; decide, fun e => ?_, fun _ c nc => ?_⟩
  · have : d = 1 := by omega
    subst this
    exact cont p H (Gr.refl _) hp
  · have ez : (List.replicate ((d : Nat) : Int).toNat [V.int x]).flatten = (List.replicate d x).map V.int := by rw [Int.toNat_natCast, flat_one, List.map_replicate]
    rw [ez]
    exact cont c _ ((Gr.refl _).new nc _) (SqT.of upd_same)
theorem ints_map {ns : List Int} {ys : List V} {f : Int → Int} (hl : ys.length = ns.length) (h : ∀ (i : Nat) (y : V), ys[i]? = some y → ∃ z, ns[i]? = some z ∧ y = .int (f z)) : ys = (ns.map f).map V.int := by
  refine List.ext_getElem? fun i => ?_
  by_cases hi : i < ys.length
  · obtain ⟨z, e1, e2⟩ := h i ys[i] (List.getElem?_eq_getElem hi)
    rw [List.getElem?_eq_getElem hi, List.getElem?_map, List.getElem?_map, e1, e2]
    rfl
  · rw [List.getElem?_eq_none (by omega), List.getElem?_eq_none (by rw [List.length_map, List.length_map]; omega)]
section
variable {P : Program} {w : World} {K : PySem.W.Frag} {mg : Str → Option Value} {base : Heap}
def InvO (v : List (Option V)) (n : Nat) (H3 : Hp) (σ : L2.St) (H' : Hp) : Prop := ∃ (W : Addr) (l : List V) (Hc : Hp), σ = v ++ [some (.ref W)] ∧ Gr H3 Hc ∧ Hc W = none ∧ GrD W Hc H' ∧ H' W = some (.lst l) ∧ l.length ≤ n ∧ 1 ≤ l.length ∧ ∀ v, v ∈ l → OddV v
theorem qu_ok {K : PySem.W.Frag} {H : Hp} {x : V} {q0 : List Int × Int} {Q : VK} (h : QuV K H x q0) (l : q0.1.length ≤ 12) (b : ∀ z, z ∈ q0.1 → z.natAbs < 10 ^ 10) (c : q0.2.natAbs < 10 ^ 10) (k : ∀ H', Gr H H' → Q (.str (quT q0)) H') : spShQu K [x] H Q E0 := ⟨x, q0, 10, rfl, h, l, by decide, by decide, b, c, k⟩
theorem tq_of {K : PySem.W.Frag} {H : Hp} {T a : Addr} {ns : List Int} {wl : Int} (nT : H T = none) (h : SqT K H a (ns.map V.int)) : QuV K (upd H T (.tup [.ref a, .int wl])) (.ref T) (ns, wl) := ⟨T, .ref a, rfl, SqT.of upd_same, a, rfl, ((Gr.refl H).new nT _).seqT h⟩
def spOddL (K : PySem.W.Frag) : Sp := fun vs H Q _ => ∃ (dk : Addr) (k : Nat) (bv : V) (d : Nat) (qs : List (List Int × Int)), vs = [.ref dk, bv] ∧ Stk dk k H ∧ k ≤ 800000 ∧ BkV K H bv d qs ∧ 1 ≤ d ∧ d ≤ 9 ∧ qs.length ≤ 20 ∧ (∀ q, q ∈ qs → q.1.length = d ∧ (∀ z, z ∈ q.1 → z.natAbs < 10 ^ 9) ∧ q.2.natAbs < 10 ^ 9) ∧
  ∀ (z : Str) H', GrD dk H H' → Stk dk (k + 2) H' → nls z = 0 → z.length ≤ 4450 → cpo z → Q (.str z) H'
theorem sc_oddl : FnScope ["well", "book", "d", "questions", "sides", "wall", "side", "turned", "twice", "some"] ["well", "book"] (defScope s__law_odd_line) := ⟨rfl, rfl, rfl, by decide +kernel, rfl, by decide +kernel, by decide +kernel⟩
theorem cl_oddl (D : Df K mg "_law_odd_line" s__law_odd_line) (B : Blt mg) (CD : Cl P w K mg base 1 "_law_draw" ["well", "many"] spPick) (CQ : Cl P w K mg base 1 "_law_said_question" ["question"] (spShQu K)) : Cl P w K mg base 2 "_law_odd_line" ["well", "book"] (spOddL K) := by
  refine D.cl (fun _ _ _ _ _ _ us hl => match us, hl with | [_, _], _ => rfl) fun f fd F => F.ok sc_oddl (fun vs H Q E h => ?_) (fun cdv A outer s H vs Q E hr h => ?_)
  · obtain ⟨dk, k, bv, d, qs, rfl, _⟩ := h
    rfl
  obtain ⟨dk, k, bv, d, qs, rfl, sk, k9, hb, d1, d9, l20, hq, q⟩ := h
  refine ⟨_, (pss_cons (ps_asg (pv 1) (pg_tup rfl (pgs_cons (pg_name (i := 2) sc_oddl.nd rfl (Or.inl rfl)) (pgs_cons (pg_name (i := 3) sc_oddl.nd rfl (Or.inl rfl)) pgs_nil))))
    (pss_cons (ps_asg (pe_ifExp (pt_cmpR (op_neD hr.units) (pv 3) (pe_tup pa_nil) (nomark _)) (pe_ix ix_tup (pv 3) (pe_cl CD (hr.mono (by decide)) (pa_cons (pv 0) (pa_cons (pe_len (pv 3) B.len) pa_nil))) (fun _ _ => rfl)) (pe_tup (pa_cons (pe_op op_repA (pe_tup (pa_cons pe_int pa_nil)) (pv 2)) (pa_cons pe_int pa_nil)))) (pg_tup rfl (pgs_cons (pg_name (i := 4) sc_oddl.nd rfl (Or.inl rfl)) (pgs_cons (pg_name (i := 5) sc_oddl.nd rfl (Or.inl rfl)) pgs_nil))))
    (pss_cons (ps_set (i := 7) sc_oddl.nd rfl (.inl rfl) (pe_tup (pa_cons (pe_callTy call_tuple_of rfl B.tup bootTup (pa_cons (pe_lc (own := [("side", 6)]) (g := gName 6) rfl sc_oddl.nd (pi_tup (pv 4)) (blkOk_by (N := ["well", "book", "d", "questions", "sides", "wall", "side", "turned", "twice", "some"]) (sc := defScope s__law_odd_line) (by decide +kernel)) (fun _ _ _ _ _ => (pg_name (i := 6) sc_oddl.nd rfl (Or.inl rfl))) (fun _ _ _ _ _ => pts_nil) (fun _ _ _ _ _ => (pe_op op_sub pe_int (pv 6)))) pa_nil)) (pa_cons (pe_op op_sub pe_int (pv 5)) pa_nil))))
    (pss_cons (ps_set (i := 8) sc_oddl.nd rfl (.inl rfl) (pe_tup (pa_cons (pe_callTy call_tuple_of rfl B.tup bootTup (pa_cons (pe_lc (own := [("side", 6)]) (g := gName 6) rfl sc_oddl.nd (pi_tup (pv 4)) (blkOk_by (N := ["well", "book", "d", "questions", "sides", "wall", "side", "turned", "twice", "some"]) (sc := defScope s__law_odd_line) (by decide +kernel)) (fun _ _ _ _ _ => (pg_name (i := 6) sc_oddl.nd rfl (Or.inl rfl))) (fun _ _ _ _ _ => pts_nil) (fun _ _ _ _ _ => (pe_op op_mul pe_int (pv 6)))) pa_nil)) (pa_cons (pe_op op_mul pe_int (pv 5)) pa_nil))))
    (pss_cons (ps_set (i := 9) sc_oddl.nd rfl (.inl rfl) (pe_lst (pa_cons (pe_cl CQ (hr.mono (by decide)) (pa_cons (pv 7) pa_nil)) (pa_cons (pe_cl CQ (hr.mono (by decide)) (pa_cons (pe_tup (pa_cons (pv 4) (pa_cons (pv 5) pa_nil))) pa_nil)) (pa_cons (pe_cl CQ (hr.mono (by decide)) (pa_cons (pe_tup (pa_cons (pe_op op_repA (pe_tup (pa_cons pe_int pa_nil)) (pv 2)) (pa_cons pe_int pa_nil))) pa_nil)) pa_nil)))))
    (pss_cons (ps_set (i := 9) sc_oddl.nd rfl (.inl rfl) (pe_op op_cat (pv 9) (pe_lst (pa_cons (pe_cl CQ (hr.mono (by decide)) (pa_cons (pe_tup (pa_cons (pe_op op_repA (pe_tup (pa_cons pe_int pa_nil)) (pv 2)) (pa_cons pe_int pa_nil))) pa_nil)) (pa_cons (pe_cl CQ (hr.mono (by decide)) (pa_cons (pe_tup (pa_cons (pe_op op_catT (pv 4) (pe_tup (pa_cons pe_int pa_nil))) (pa_cons (pv 5) pa_nil))) pa_nil)) pa_nil)))))
    (pss_cons (ps_if (pt_cmpR op_lt (pe_callB (cr_max rfl) rfl B.max PyProof.Rows.boot_max (pa_cons (pe_op op_cat (pe_lc (own := [("side", 6)]) (g := gName 6) rfl sc_oddl.nd (pi_tup (pv 4)) (blkOk_by (N := ["well", "book", "d", "questions", "sides", "wall", "side", "turned", "twice", "some"]) (sc := defScope s__law_odd_line) (by decide +kernel)) (fun _ _ _ _ _ => (pg_name (i := 6) sc_oddl.nd rfl (Or.inl rfl))) (fun _ _ _ _ _ => pts_nil) (fun _ _ _ _ _ => (pe_callB call_abs rfl B.abs PyProof.Rows.boot_abs (pa_cons (pv 6) pa_nil)))) (pe_lst (pa_cons (pe_callB call_abs rfl B.abs PyProof.Rows.boot_abs (pa_cons (pv 5) pa_nil)) pa_nil))) pa_nil)) pe_int (nomark _)) (pss_one (ps_set (i := 9) sc_oddl.nd rfl (.inl rfl) (pe_op op_cat (pv 9) (pe_op op_rep (pe_lst (pa_cons (pe_cl CQ (hr.mono (by decide)) (pa_cons (pv 8) pa_nil)) pa_nil)) pe_int)))) pss_nil)
    (pss_cons (ps_if (pt_cmpR op_gt (pv 2) pe_int (nomark _)) (pss_one (ps_expr (pe_bm PySem.F.plainAttrs_list PySem.F.slot_list_append PySem.F.type_list_append mt_append (pv 9) (pa_cons (pe_cl CQ (hr.mono (by decide)) (pa_cons (pe_tup (pa_cons (pe_slice sl_tup (pv 4) (po_some pe_int) po_none) (pa_cons (pv 5) pa_nil))) pa_nil)) pa_nil)))) pss_nil)
    (pss_cons (ps_set (i := 9) sc_oddl.nd rfl (.inl rfl) (pe_op op_cat (pv 9) (pe_lst (pa_cons pe_str (pa_cons pe_str (pa_cons pe_str (pa_cons pe_str (pa_cons pe_str (pa_cons pe_str (pa_cons pe_str (pa_cons pe_str (pa_cons pe_str (pa_cons pe_str (pa_cons pe_str pa_nil))))))))))))))
    (pss_cons (ps_set (i := 9) sc_oddl.nd rfl (.inl rfl) (pe_op op_cat (pv 9) (pe_lst (pa_cons pe_str (pa_cons pe_str (pa_cons pe_str (pa_cons pe_str (pa_cons pe_str (pa_cons pe_str (pa_cons pe_str (pa_cons pe_str (pa_cons pe_str pa_nil))))))))))))
    (pss_cons (ps_set (i := 9) sc_oddl.nd rfl (.inl rfl) (pe_op op_cat (pv 9) (pe_lst (pa_cons pe_str (pa_cons pe_str (pa_cons pe_str (pa_cons pe_str (pa_cons pe_str (pa_cons pe_str pa_nil)))))))))
    (pss_cons (ps_set (i := 9) sc_oddl.nd rfl (.inl rfl) (pe_op op_cat (pv 9) (pe_lst (pa_cons pe_str (pa_cons pe_str (pa_cons pe_str (pa_cons pe_str (pa_cons pe_str pa_nil))))))))
    (pss_one (ps_ret (pe_ix ix_list (pv 9) (pe_cl CD (hr.mono (by decide)) (pa_cons (pv 0) (pa_cons (pe_len (pv 9) B.len) pa_nil))) (fun _ _ => rfl)))))))))))))))), ?_⟩
  obtain ⟨ba, bq, xs, rfl, hba, hbq, pq⟩ := hb
  have lx := paired_len pq
  refine seq_join (fun σ' H' => σ' = [some (.ref dk), some (.ref ba), some (.int (d : Int)), some (.ref bq), none, none, none, none, none, none] ∧ H' = H) (fun σ' H' h => ?_) (fun Kn hK => ⟨_, rfl, ba, _, rfl, hba, rfl, _, _, rfl, _, _, rfl, rfl, hK _ _ ⟨rfl, rfl⟩⟩)
  obtain ⟨rfl, rfl⟩ := h
  refine seq_join (fun σ' H1 => ∃ (sA : Addr) (ns : List Int) (wl : Int), σ' = [some (.ref dk), some (.ref ba), some (.int (d : Int)), some (.ref bq), some (.ref sA), some (.int wl), none, none, none, none] ∧ GrD dk H' H1 ∧ Stk dk (k + 1) H1 ∧ SqT K H1 sA (ns.map V.int) ∧ ns.length = d ∧ (∀ z, z ∈ ns → z.natAbs < 10 ^ 9) ∧ wl.natAbs < 10 ^ 9) (fun σ' H1 h => ?_) (fun Kn hK => ?_)
  rotate_left
  · refine ⟨_, rfl, szN (by show 0 ≤ 1000000; decide), fun T nT => ?_⟩
    have r := (Gr.refl H').new nT (.tup [])
    have hT : SqT K (upd H' T (.tup [])) T [] := SqT.of upd_same
    have hbq1 := r.seqT hbq
    have pq1 := Paired.mapP pq fun _ _ z => QuV.gr z r
    have sk1 := sk.gr r
    generalize upd H' T (.tup []) = H1 at r hT hbq1 pq1 sk1 ⊢
    refine ⟨_, _, .tup hbq1 (dp_qus pq1), .tup hT .nil, shp_qusT qs, by decide, _, rfl, ?_⟩
    rw [eqv_nilT]
    cases qs with
    | nil =>
      refine iteF ⟨szN (by show 1 ≤ 1000000; decide), fun T1 n1 => ⟨_, rfl, ?_⟩⟩
      have r1 := (Gr.refl H1).new n1 (.tup [.int 1])
      have h1 : SqT K (upd H1 T1 (.tup [.int 1])) T1 [.int 1] := SqT.of upd_same
      generalize upd H1 T1 (.tup [.int 1]) = H2 at r1 h1 ⊢
      refine repY h1 (by omega) fun c H3 g3 hc => ⟨szN (by show 2 ≤ 1000000; decide), fun T2 n2 => ?_⟩
      have r2 := (Gr.refl H3).new n2 (.tup [.ref c, .int 0])
      have gg := (r.trans r1).trans (g3.trans r2)
      refine ⟨T2, _, rfl, SqT.of upd_same, rfl, _, _, rfl, _, _, rfl, rfl, hK _ _ ⟨c, _, 0, rfl, gg.d dk, (sk.gr gg).more (by omega), r2.seqT hc, List.length_replicate, fun z hz => ?_, by decide⟩⟩
      rw [(List.mem_replicate.mp hz).2]
      decide
    | cons q1 qr =>
      refine iteT ?_
      have lx1 : xs.length = qr.length + 1 := lx
      have l21 : qr.length + 1 ≤ 20 := l20
      refine ⟨_, rfl, _, rfl, _, rfl, bq, _, rfl, .inr hbq1, dk, _, k, rfl, sk1, by omega, by omega, ?_, fun t H2 t0 t1 g2 s2 => ?_⟩
      · rw [Int.natAbs_natCast]
        exact Nat.lt_of_le_of_lt (show _ ≤ 20 by omega) (Nat.lt_of_lt_of_le (show 20 < 2 ^ 20 by decide) (Nat.pow_le_pow_right (by decide) (by decide)))
      obtain ⟨i, rfl⟩ := Int.eq_ofNat_of_zero_le t0
      have hi : i < xs.length := by omega
      obtain ⟨qi, eqi, hv⟩ := paired_get pq1 (List.getElem?_eq_getElem hi)
      obtain ⟨b1, b2, b3⟩ := hq qi (List.mem_of_getElem? eqi)
      have t2 := g2.sk (K := K) sk1
      obtain ⟨p, t, e, ht, c, et, hc⟩ := hv
      subst et
      refine ⟨bq, xs, ((i : Nat) : Int), .ref p, rfl, rfl, t2 _ _ hbq1, atI_nat (by rw [List.getElem?_eq_getElem hi, e]), ?_⟩
      exact ⟨p, _, rfl, t2 _ _ ht, rfl, _, _, rfl, _, _, rfl, rfl, hK _ _ ⟨c, qi.1, qi.2, rfl, (r.d dk).trans g2, s2, t2 _ _ hc, b1, b2, b3⟩⟩
  obtain ⟨sA, ns, wl, rfl, g1, s1, hS, ln, bn, bw⟩ := h
  have bw10 : ∀ x : Int, x.natAbs < 10 ^ 9 → x.natAbs < 10 ^ 10 := fun x h => Nat.lt_trans h (by decide)
  -- turned and twice
  have two : ∀ (f : Int → Int) (ff : Int), True := fun _ _ => trivial
  refine seq_join (fun σ' H' => ∃ tA : Addr, σ' = [some (.ref dk), some (.ref ba), some (.int (d : Int)), some (.ref bq), some (.ref sA), some (.int wl), none, some (.ref tA), none, none] ∧ Gr H1 H' ∧ QuV K H' (.ref tA) (ns.map (fun z => 0 - z), 0 - wl)) (fun σ' H2 h => ?_) (fun Kn hK => ?_)
  rotate_left
  · refine ⟨_, rfl, sA, rfl, ⟨_, hS⟩, fun D nD => ?_⟩
    refine lc_mapT (K := K) (fun i y _ => ∃ z, ns[i]? = some z ∧ y = .int (0 - z)) (fun _ _ _ _ h _ => h) nD hS (by rw [List.length_map]; omega) (fun i x H3 Kc hx g3 kc => ?_) (fun ys H3 hD hy g3 hR => ?_)
    · rw [List.getElem?_map] at hx
      obtain ⟨z, hz, rfl⟩ := Option.map_eq_some_iff.mp hx
      exact ⟨rfl, _, rfl, _, _, rfl, rfl, kc _ _ (Gr.refl _) ⟨z, hz, rfl⟩⟩
    · rw [List.length_map] at hy
      rw [ints_map hy hR] at hD
      refine ⟨D, _, rfl, .inl ⟨SqL.of hD, fun A nA => ⟨_, rfl, _, _, rfl, rfl, szN (by show 2 ≤ 1000000; decide), fun T nT => ?_⟩⟩⟩
      have rA := (Gr.refl H3).new nA (.tup ((ns.map fun z => 0 - z).map V.int))
      have rT := (Gr.refl _).new nT (.tup [.ref A, .int (0 - wl)])
      exact hK _ _ ⟨T, rfl, g3.trans (rA.trans rT), T, .ref A, rfl, SqT.of upd_same, A, rfl, rT.seqT (SqT.of upd_same)⟩
  obtain ⟨tA, rfl, g2, hTu⟩ := h
  refine seq_join (fun σ' H' => ∃ uA : Addr, σ' = [some (.ref dk), some (.ref ba), some (.int (d : Int)), some (.ref bq), some (.ref sA), some (.int wl), none, some (.ref tA), some (.ref uA), none] ∧ Gr H2 H' ∧ QuV K H' (.ref uA) (ns.map (fun z => 2 * z), 2 * wl)) (fun σ' H3 h => ?_) (fun Kn hK => ?_)
  rotate_left
  · have hS2 := g2.seqT hS
    refine ⟨_, rfl, sA, rfl, ⟨_, hS2⟩, fun D nD => ?_⟩
    refine lc_mapT (K := K) (fun i y _ => ∃ z, ns[i]? = some z ∧ y = .int (2 * z)) (fun _ _ _ _ h _ => h) nD hS2 (by rw [List.length_map]; omega) (fun i x H3 Kc hx g3 kc => ?_) (fun ys H3 hD hy g3 hR => ?_)
    · rw [List.getElem?_map] at hx
      obtain ⟨z, hz, rfl⟩ := Option.map_eq_some_iff.mp hx
      exact ⟨rfl, _, rfl, _, _, rfl, rfl, .inl ⟨by decide, by decide⟩, kc _ _ (Gr.refl _) ⟨z, hz, rfl⟩⟩
    · rw [List.length_map] at hy
      rw [ints_map hy hR] at hD
      refine ⟨D, _, rfl, .inl ⟨SqL.of hD, fun A nA => ⟨_, rfl, _, _, rfl, rfl, .inl ⟨by decide, by decide⟩, szN (by show 2 ≤ 1000000; decide), fun T nT => ?_⟩⟩⟩
      have rA := (Gr.refl H3).new nA (.tup ((ns.map fun z => 2 * z).map V.int))
      have rT := (Gr.refl _).new nT (.tup [.ref A, .int (2 * wl)])
      exact hK _ _ ⟨T, rfl, g3.trans (rA.trans rT), T, .ref A, rfl, SqT.of upd_same, A, rfl, rT.seqT (SqT.of upd_same)⟩
  obtain ⟨uA, rfl, g3, hUu⟩ := h
  have hT3 := hTu.gr g3
  have hS3 := (g2.trans g3).seqT hS
  have s3 := s1.gr (g2.trans g3)
  have g03 := g1.trans ((g2.trans g3).d dk)
  have mb1 : ∀ z, z ∈ ns.map (fun z => 0 - z) → z.natAbs < 10 ^ 10 := fun z hz => by
    obtain ⟨x, hx, rfl⟩ := List.mem_map.mp hz
    have : x.natAbs < 1000000000 := bn x hx
    show (0 - x).natAbs < 10000000000
    omega
  have mb2 : ∀ z, z ∈ ns.map (fun z => 2 * z) → z.natAbs < 10 ^ 10 := fun z hz => by
    obtain ⟨x, hx, rfl⟩ := List.mem_map.mp hz
    have : x.natAbs < 1000000000 := bn x hx
    show (2 * x).natAbs < 10000000000
    omega
  have mw1 : (0 - wl).natAbs < 10 ^ 10 := by
    have : wl.natAbs < 1000000000 := bw
    show (0 - wl).natAbs < 10000000000
    omega
  have mw2 : (2 * wl).natAbs < 10 ^ 10 := by
    have : wl.natAbs < 1000000000 := bw
    show (2 * wl).natAbs < 10000000000
    omega
  have mb0 : ∀ z, z ∈ ns → z.natAbs < 10 ^ 10 := fun z hz => bw10 z (bn z hz)
  have mw0 : wl.natAbs < 10 ^ 10 := bw10 wl bw
  have mz : ∀ z, z ∈ List.replicate d (0 : Int) → z.natAbs < 10 ^ 10 := fun z hz => by
    rw [(List.mem_replicate.mp hz).2]
    decide
  have m1 : (1 : Int).natAbs < 10 ^ 10 := by decide
  have m0 : (0 : Int).natAbs < 10 ^ 10 := by decide
  have lz : (List.replicate d (0 : Int)).length ≤ 12 := by rw [List.length_replicate]; omega
  have lt : (ns.map (fun z => 0 - z)).length ≤ 12 := by rw [List.length_map]; omega
  have lu : (ns.map (fun z => 2 * z)).length ≤ 12 := by rw [List.length_map]; omega
  refine seq_join (fun σ' H' => InvO [some (.ref dk), some (.ref ba), some (.int (d : Int)), some (.ref bq), some (.ref sA), some (.int wl), none, some (.ref tA), some (.ref uA)] 3 H3 σ' H') (fun σ' Ha h => ?_) (fun Kn hK => ?_)
  rotate_left
  · refine ⟨_, rfl, ⟨_, _, 10, rfl, hT3, lt, by decide, by decide, mb1, mw1, fun H4 g4 => ?_⟩⟩
    refine ⟨_, rfl, _, rfl, szN (by show 2 ≤ 1000000; decide), fun T5 n5 => ⟨_, _, 10, rfl, (tq_of n5 (g4.seqT hS3)), (by show ns.length ≤ 12; omega), by decide, by decide, mb0, mw0, fun H6 g6 => ?_⟩⟩
    have g46 := g4.trans (((Gr.refl H4).new n5 (.tup [.ref sA, .int wl])).trans g6)
    refine ⟨szN (by show 1 ≤ 1000000; decide), fun T7 n7 => ⟨_, rfl, ?_⟩⟩
    have r7 := (Gr.refl H6).new n7 (.tup [.int 0])
    have h7 : SqT K (upd H6 T7 (.tup [.int 0])) T7 [.int 0] := SqT.of upd_same
    generalize upd H6 T7 (.tup [.int 0]) = H7 at r7 h7 ⊢
    refine repY h7 (by omega) fun c H8 g8 hc => ⟨szN (by show 2 ≤ 1000000; decide), fun T9 n9 => ⟨_, _, 10, rfl, (tq_of n9 hc), lz, by decide, by decide, mz, m1, fun H10 g10 => ⟨szN (by show 3 ≤ 1000000; decide), fun W nW => ?_⟩⟩⟩
    have gz := ((g46.trans r7).trans g8).trans (((Gr.refl H8).new n9 (.tup [.ref c, .int 1])).trans g10)
    exact hK _ _ ⟨W, _, H10, rfl, gz, nW, (GrD.refl W H10).set _, upd_same, by show 3 ≤ 3; decide, by show 1 ≤ 3; decide, odd_cons (odd_qu lt mb1 mw1) (odd_cons (odd_qu (by show ns.length ≤ 12; omega) mb0 mw0) (odd_cons (odd_qu lz mz m1) (fun _ h => by cases h)))⟩
  obtain ⟨W, l, Hc, rfl, gc, nc, gw, hW, l1, l0, hl⟩ := h
  refine seq_join (fun σ' H' => InvO [some (.ref dk), some (.ref ba), some (.int (d : Int)), some (.ref bq), some (.ref sA), some (.int wl), none, some (.ref tA), some (.ref uA)] 5 H3 σ' H') (fun σ' Hb h => ?_) (fun Kn hK => ?_)
  rotate_left
  · have ga := gc.trans (gw.to nc)
    refine ⟨_, rfl, szN (by show 1 ≤ 1000000; decide), fun T7 n7 => ⟨_, rfl, ?_⟩⟩
    have r7 := (Gr.refl Ha).new n7 (.tup [.int 0])
    have h7 : SqT K (upd Ha T7 (.tup [.int 0])) T7 [.int 0] := SqT.of upd_same
    generalize upd Ha T7 (.tup [.int 0]) = H7 at r7 h7 ⊢
    refine repY h7 (by omega) fun c H8 g8 hc => ⟨szN (by show 2 ≤ 1000000; decide), fun T9 n9 => ⟨_, _, 10, rfl, (tq_of n9 hc), lz, by decide, by decide, mz, m0, fun H10 g10 => ?_⟩⟩
    have gz := (r7.trans g8).trans (((Gr.refl H8).new n9 (.tup [.ref c, .int 0])).trans g10)
    refine ⟨_, rfl, szN (by show 1 ≤ 1000000; decide), fun T11 n11 => ?_⟩
    have r11 := (Gr.refl H10).new n11 (.tup [.int 0])
    have h11 : SqT K (upd H10 T11 (.tup [.int 0])) T11 [.int 0] := SqT.of upd_same
    generalize upd H10 T11 (.tup [.int 0]) = H11 at r11 h11 ⊢
    refine ⟨sA, T11, _, _, rfl, rfl, (ga.trans (gz.trans r11)).seqT hS3, h11, ?_, ?_, fun h => absurd h (List.cons_ne_nil _ _), fun _ p np => ?_⟩
    · intro h
      have := congrArg List.length h
      rw [List.length_map, List.length_nil] at this
      omega
    · rw [List.length_map, sizeLine_eq]
      show ns.length + 1 ≤ _
      omega
    rw [show ns.map V.int ++ [V.int 0] = (ns ++ [0]).map V.int from by rw [List.map_append]; rfl]
    have rp := (Gr.refl H11).new np (.tup ((ns ++ [0]).map V.int))
    have hp : SqT K (upd H11 p (.tup ((ns ++ [0]).map V.int))) p ((ns ++ [0]).map V.int) := SqT.of upd_same
    generalize upd H11 p (.tup ((ns ++ [0]).map V.int)) = H12 at rp hp ⊢
    have l10 : (ns ++ [0]).length ≤ 12 := by rw [List.length_append]; show ns.length + 1 ≤ 12; omega
    have mb10 : ∀ z, z ∈ ns ++ [0] → z.natAbs < 10 ^ 10 := fun z hz => by
      rcases List.mem_append.mp hz with h | h
      · exact mb0 z h
      · rw [List.mem_singleton.mp h]; decide
    refine ⟨_, rfl, szN (by show 2 ≤ 1000000; decide), fun T13 n13 => ⟨_, _, 10, rfl, (tq_of n13 hp), l10, by decide, by decide, mb10, mw0, fun H14 g14 => ⟨szN (by show 2 ≤ 1000000; decide), fun M nM => ?_⟩⟩⟩
    have gy := (((gz.trans r11).trans rp).trans (((Gr.refl H12).new n13 (.tup [.ref p, .int wl])).trans g14))
    have rM := gy.new nM (.lst [.str (quT (List.replicate d 0, 0)), .str (quT (ns ++ [0], wl))])
    refine ⟨W, M, l, _, rfl, rfl, rM.lstK hW, upd_same, by rw [sizeLine_eq]; simp only [List.length_cons, List.length_nil]; omega, fun p2 np2 => ?_⟩
    exact hK _ _ ⟨p2, _, _, rfl, ga.trans rM, np2, (GrD.refl p2 _).set _, upd_same, by simp only [List.length_append, List.length_cons, List.length_nil]; omega, by rw [List.length_append]; omega, odd_app hl (odd_cons (odd_qu lz mz m0) (odd_cons (odd_qu l10 mb10 mw0) (fun _ h => by cases h)))⟩
  obtain ⟨W, l, Hc, rfl, gc, nc, gw, hW, l1, l0, hl⟩ := h
  refine seq_join (fun σ' H' => InvO [some (.ref dk), some (.ref ba), some (.int (d : Int)), some (.ref bq), some (.ref sA), some (.int wl), none, some (.ref tA), some (.ref uA)] 7 H3 σ' H') (fun σ' Hx h => ?_) (fun Kn hK => ?_)
  rotate_left
  · have ga := gc.trans (gw.to nc)
    have hSb := ga.seqT hS3
    refine ⟨_, rfl, sA, rfl, ⟨_, hSb⟩, fun D nD => ?_⟩
    refine lc_mapT (K := K) (fun i y _ => ∃ z, ns[i]? = some z ∧ y = .int (if z < 0 then -z else z)) (fun _ _ _ _ h _ => h) nD hSb (by rw [List.length_map]; omega) (fun i x H4 Kc hx g4 kc => ?_) (fun ys H4 hD hy g4 hR => ?_)
    · rw [List.getElem?_map] at hx
      obtain ⟨z, hz, rfl⟩ := Option.map_eq_some_iff.mp hx
      exact ⟨rfl, _, rfl, _, rfl, kc _ _ (Gr.refl _) ⟨z, hz, rfl⟩⟩
    · rw [List.length_map] at hy
      rw [ints_map hy hR] at hD
      refine ⟨_, rfl, wl, rfl, szN (by show 1 ≤ 1000000; decide), fun M nM => ?_⟩
      have rM := g4.new nM (.lst [.int (if wl < 0 then -wl else wl)])
      have hM : (upd H4 M (.lst [.int (if wl < 0 then -wl else wl)])) M = some (.lst [.int (if wl < 0 then -wl else wl)]) := upd_same
      have hD2 := ((Gr.refl H4).new nM (.lst [.int (if wl < 0 then -wl else wl)])).lstK hD
      generalize upd H4 M (.lst [.int (if wl < 0 then -wl else wl)]) = H5 at rM hM hD2 ⊢
      refine ⟨D, M, _, _, rfl, rfl, hD2, hM, by rw [sizeLine_eq, List.length_map, List.length_map]; show ns.length + 1 ≤ _; omega, fun Pp np => ?_⟩
      rw [show (ns.map (fun z => if z < 0 then -z else z)).map V.int ++ [V.int (if wl < 0 then -wl else wl)] = (ns.map (fun z => if z < 0 then -z else z) ++ [if wl < 0 then -wl else wl]).map V.int from by rw [List.map_append]; rfl]
      have rP := rM.new np (.lst ((ns.map (fun z => if z < 0 then -z else z) ++ [if wl < 0 then -wl else wl]).map V.int))
      have hP : SqL K (upd H5 Pp (.lst ((ns.map (fun z => if z < 0 then -z else z) ++ [if wl < 0 then -wl else wl]).map V.int))) Pp ((ns.map (fun z => if z < 0 then -z else z) ++ [if wl < 0 then -wl else wl]).map V.int) := SqL.of upd_same
      generalize upd H5 Pp (.lst ((ns.map (fun z => if z < 0 then -z else z) ++ [if wl < 0 then -wl else wl]).map V.int)) = H6 at rP hP ⊢
      refine ⟨Pp, _, rfl, hP, by rw [List.length_append]; show 0 < _ + 1; omega, fun m _ _ => ?_⟩
      refine ⟨_, _, rfl, rfl, _, rfl, ite2 (fun _ => ?_) (fun _ => ?_)⟩
      · refine ⟨_, rfl, _, rfl, _, _, 10, rfl, hUu.gr (ga.trans rP), lu, by decide, by decide, mb2, mw2, fun H7 g7 => ⟨szN (by show 1 ≤ 1000000; decide), fun M2 n2 => ?_⟩⟩
        have r2 := (Gr.refl H7).new n2 (.lst [.str (quT (ns.map (fun z => 2 * z), 2 * wl))])
        have h2 : (upd H7 M2 (.lst [.str (quT (ns.map (fun z => 2 * z), 2 * wl))])) M2 = some (.lst [.str (quT (ns.map (fun z => 2 * z), 2 * wl))]) := upd_same
        generalize upd H7 M2 (.lst [.str (quT (ns.map (fun z => 2 * z), 2 * wl))]) = H8 at r2 h2 ⊢
        refine ⟨M2, 2, _, rfl, rfl, h2, by decide, by decide, by show 1 * 2 ≤ sizeLine; exact sz15 (by decide), fun R2 nR => ?_⟩
        have r3 := (rP.trans g7).trans r2
        have r4 := r3.new nR (.lst [.str (quT (ns.map (fun z => 2 * z), 2 * wl)), .str (quT (ns.map (fun z => 2 * z), 2 * wl))])
        refine ⟨W, R2, l, [.str (quT (ns.map (fun z => 2 * z), 2 * wl)), .str (quT (ns.map (fun z => 2 * z), 2 * wl))], rfl, rfl, r4.lstK hW, upd_same, by rw [sizeLine_eq]; simp only [List.length_cons, List.length_nil]; omega, fun p2 np2 => ?_⟩
        exact hK _ _ ⟨p2, _, _, rfl, ga.trans r4, np2, (GrD.refl p2 _).set _, upd_same, by simp only [List.length_append, List.length_cons, List.length_nil]; omega, by rw [List.length_append]; omega, odd_app hl (odd_cons (odd_qu lu mb2 mw2) (odd_cons (odd_qu lu mb2 mw2) (fun _ h => by cases h)))⟩
      · exact hK _ _ ⟨W, l, Hc, rfl, gc, nc, gw.trans (rP.d W), rP.lstK hW, by omega, l0, hl⟩
  obtain ⟨W, l, Hc, rfl, gc, nc, gw, hW, l1, l0, hl⟩ := h
  refine seq_join (fun σ' H' => InvO [some (.ref dk), some (.ref ba), some (.int (d : Int)), some (.ref bq), some (.ref sA), some (.int wl), none, some (.ref tA), some (.ref uA)] 8 H3 σ' H') (fun σ' Hy h => ?_) (fun Kn hK => ?_)
  rotate_left
  · have ga := gc.trans (gw.to nc)
    refine ⟨_, rfl, _, _, rfl, rfl, _, rfl, ite2 (fun _ => ?_) (fun _ => ?_)⟩
    · have hSb := ga.seqT hS3
      cases ns with
      | nil => exact absurd ln (by show ¬ (0 = d); omega)
      | cons n0 nr =>
        refine ⟨_, rfl, .inl ⟨rfl, _, SqL.of hW⟩, _, rfl, _, rfl, sA, _, rfl, hSb, ?_, fun p np => ?_⟩
        · rintro ⟨h, _⟩
          have e := HT.sIx_nat ((n0 :: nr).map V.int).length 0 1
          rw [show ((1 : Nat) : Int) = (1 : Int) from rfl] at e
          rw [e] at h
          rw [List.length_map, List.length_cons] at h
          omega
        rw [show cutV ((n0 :: nr).map V.int) (some 1) none = nr.map V.int from cut_tail _ _]
        have rp := (Gr.refl Hx).new np (.tup (nr.map V.int))
        have hp : SqT K (upd Hx p (.tup (nr.map V.int))) p (nr.map V.int) := SqT.of upd_same
        generalize upd Hx p (.tup (nr.map V.int)) = H5 at rp hp ⊢
        have lr : nr.length ≤ 12 := by have : nr.length + 1 = d := ln; omega
        have mbr : ∀ z, z ∈ nr → z.natAbs < 10 ^ 10 := fun z hz => mb0 z (List.mem_cons_of_mem _ hz)
        refine ⟨_, rfl, szN (by show 2 ≤ 1000000; decide), fun T nT => ⟨_, _, 10, rfl, tq_of nT hp, lr, by decide, by decide, mbr, mw0, fun H6 g6 => ?_⟩⟩
        have gg := rp.trans (((Gr.refl H5).new nT (.tup [.ref p, .int wl])).trans g6)
        refine ⟨W, l, _, rfl, rfl, gg.lstK hW, small1000 (by omega), ?_⟩
        exact hK _ _ ⟨W, _, Hc, rfl, gc, nc, (gw.trans (gg.d W)).set _, upd_same, by rw [List.length_append]; show l.length + 1 ≤ 8; omega, by rw [List.length_append]; omega, odd_app hl (odd_cons (odd_qu lr mbr mw0) (fun _ h => by cases h))⟩
    · exact hK _ _ ⟨W, l, Hc, rfl, gc, nc, gw, hW, by omega, l0, hl⟩
  obtain ⟨W, l, Hc, rfl, gc, nc, gw, hW, l1, l0, hl⟩ := h
  refine seq_join (fun σ' H' => InvO [some (.ref dk), some (.ref ba), some (.int (d : Int)), some (.ref bq), some (.ref sA), some (.int wl), none, some (.ref tA), some (.ref uA)] 19 H3 σ' H') (fun σ' Hx h => ?_) (fun Kn hK => ?_)
  rotate_left
  · refine ⟨_, rfl, szN (by show 11 ≤ 1000000; decide), fun L nL => ?_⟩
    refine ⟨W, L, l, _, rfl, rfl, ((Gr.refl _).new nL _).lstK hW, upd_same, by rw [sizeLine_eq]; simp only [List.length_cons, List.length_nil]; omega, fun p np => ?_⟩
    exact hK _ _ ⟨p, _, _, rfl, (gc.trans (gw.to nc)).new nL _, np, (GrD.refl p _).set _, upd_same, by simp only [List.length_append, List.length_cons, List.length_nil]; omega, by rw [List.length_append]; omega, odd_app hl (odd_of (by decide +kernel))⟩
  obtain ⟨W, l, Hc, rfl, gc, nc, gw, hW, l1, l0, hl⟩ := h
  refine seq_join (fun σ' H' => InvO [some (.ref dk), some (.ref ba), some (.int (d : Int)), some (.ref bq), some (.ref sA), some (.int wl), none, some (.ref tA), some (.ref uA)] 28 H3 σ' H') (fun σ' Hx h => ?_) (fun Kn hK => ?_)
  rotate_left
  · refine ⟨_, rfl, szN (by show 9 ≤ 1000000; decide), fun L nL => ?_⟩
    refine ⟨W, L, l, _, rfl, rfl, ((Gr.refl _).new nL _).lstK hW, upd_same, by rw [sizeLine_eq]; simp only [List.length_cons, List.length_nil]; omega, fun p np => ?_⟩
    exact hK _ _ ⟨p, _, _, rfl, (gc.trans (gw.to nc)).new nL _, np, (GrD.refl p _).set _, upd_same, by simp only [List.length_append, List.length_cons, List.length_nil]; omega, by rw [List.length_append]; omega, odd_app hl (odd_of (by decide +kernel))⟩
  obtain ⟨W, l, Hc, rfl, gc, nc, gw, hW, l1, l0, hl⟩ := h
  refine seq_join (fun σ' H' => InvO [some (.ref dk), some (.ref ba), some (.int (d : Int)), some (.ref bq), some (.ref sA), some (.int wl), none, some (.ref tA), some (.ref uA)] 34 H3 σ' H') (fun σ' Hx h => ?_) (fun Kn hK => ?_)
  rotate_left
  · refine ⟨_, rfl, szN (by show 6 ≤ 1000000; decide), fun L nL => ?_⟩
    refine ⟨W, L, l, _, rfl, rfl, ((Gr.refl _).new nL _).lstK hW, upd_same, by rw [sizeLine_eq]; simp only [List.length_cons, List.length_nil]; omega, fun p np => ?_⟩
    exact hK _ _ ⟨p, _, _, rfl, (gc.trans (gw.to nc)).new nL _, np, (GrD.refl p _).set _, upd_same, by simp only [List.length_append, List.length_cons, List.length_nil]; omega, by rw [List.length_append]; omega, odd_app hl (odd_of (by decide +kernel))⟩
  obtain ⟨W, l, Hc, rfl, gc, nc, gw, hW, l1, l0, hl⟩ := h
  refine seq_join (fun σ' H' => InvO [some (.ref dk), some (.ref ba), some (.int (d : Int)), some (.ref bq), some (.ref sA), some (.int wl), none, some (.ref tA), some (.ref uA)] 39 H3 σ' H') (fun σ' Hx h => ?_) (fun Kn hK => ?_)
  rotate_left
  · refine ⟨_, rfl, szN (by show 5 ≤ 1000000; decide), fun L nL => ?_⟩
    refine ⟨W, L, l, _, rfl, rfl, ((Gr.refl _).new nL _).lstK hW, upd_same, by rw [sizeLine_eq]; simp only [List.length_cons, List.length_nil]; omega, fun p np => ?_⟩
    exact hK _ _ ⟨p, _, _, rfl, (gc.trans (gw.to nc)).new nL _, np, (GrD.refl p _).set _, upd_same, by simp only [List.length_append, List.length_cons, List.length_nil]; omega, by rw [List.length_append]; omega, odd_app hl (odd_of (by decide +kernel))⟩
  obtain ⟨W, l, Hc, rfl, gc, nc, gw, hW, l1, l0, hl⟩ := h
  have ga := gc.trans (gw.to nc)
  have s4 := s3.gr ga
  have nW : W ≠ dk := (s3.gr gc).ne nc
  refine ⟨_, rfl, _, rfl, _, rfl, W, l, rfl, .inl (SqL.of hW), dk, ((l.length : Nat) : Int), k + 1, rfl, s4, by omega, by omega, ?_, fun t H9 t0 t1 g9 s9 => ?_⟩
  · rw [Int.natAbs_natCast]
    exact Nat.lt_of_le_of_lt l1 (by decide)
  · obtain ⟨v, ev, hv⟩ := atI_ex (l := l) t0 t1
    obtain ⟨z, rfl, hz, lz, cz⟩ := hl v hv
    exact ⟨W, l, t, _, rfl, rfl, SqL.of (GrDL.lst g9 nW hW), ev, q z H9 ((g03.trans (ga.d dk)).trans g9) s9 hz lz cz⟩
end
end SB
set_option pp.maxSteps 300
namespace SB
open PySem PySem.NumText L2 GxR GA RZ RP TL
/-! ### a text bent up to three times -/
theorem sp1_sum (s : Nat) : ∀ (l acc : List Nat), ((spl [s] 0 acc l).map List.length).sum + l.count s = acc.length + l.length
  | [], acc => by rw [sp1_nil]; simp
  | c :: r, acc => by
    rw [sp1_cons]
    by_cases h : c = s
    · have i := sp1_sum s r []
      rw [if_pos h, List.map_cons, List.sum_cons, h, List.count_cons_self, List.length_cons]
      rw [List.length_nil] at i
      omega
    · have i := sp1_sum s r (acc ++ [c])
      rw [if_neg h, List.count_cons_of_ne h, List.length_cons]
      rw [List.length_append] at i
      have : [c].length = 1 := rfl
      omega
theorem lines_lens (z : Str) : lens (Txt.split z "\n") + (Txt.split z "\n").length = z.length + 1 := by
  have e := split_spl z "\n" tln (kind_ok (by decide +kernel))
  rw [tl_nl] at e
  have s := sp1_sum 10 (tl z) []
  rw [← e, List.map_map, List.length_nil, Nat.zero_add, ← len_tl] at s
  have : (List.map (List.length ∘ tl) (Txt.split z "\n")) = (Txt.split z "\n").map (·.length) := List.map_congr_left fun p _ => (len_tl p).symm
  rw [this] at s
  have l := lines_len z
  unfold nls at l
  unfold lens
  omega
structure TxOk (L N : Nat) (z : Str) : Prop where
  l : z.length ≤ L
  n : nls z ≤ N
  c : cpo z
theorem nls_nl : nls ("\n" : Str) = 1 := by decide +kernel
theorem cpo_nl : cpo ("\n" : Str) := cpo_of (by decide +kernel)
theorem cpo_bl : cpo (" " : Str) := cpo_of (by decide +kernel)
theorem join1 {y : Str} (hy : y.length = 1) (ps : List Str) : (Txt.join y ps).length ≤ lens ps + ps.length := by
  have := join_len0 y ps
  rw [hy, Nat.mul_one] at this
  exact this
/-- one line in the place of another -/
theorem tx_line {L N : Nat} {z o : Str} {i : Nat} {m : Nat} (h : TxOk L N z) (hi : i < (Txt.split z "\n").length) (lo : o.length ≤ m) (no : nls o = 0) (co : cpo o) : TxOk (L + m + 1) N (Txt.join "\n" ((Txt.split z "\n").take i ++ [o] ++ (Txt.split z "\n").drop (i + 1))) := by
  have ll := lines_lens z
  have ln := lines_len z
  have hc : ∀ p, p ∈ Txt.split z "\n" → cpo p := fun p hp => split_cpo tl_nl (by decide +kernel) h.c hp
  have hf : ∀ p, p ∈ Txt.split z "\n" → nls p = 0 := fun p hp => lines_free hp
  generalize Txt.split z "\n" = S at hi ll ln hc hf
  have mem : ∀ p, p ∈ S.take i ++ [o] ++ S.drop (i + 1) → p ∈ S ∨ p = o := fun p hp => by
    rcases List.mem_append.mp hp with hp | hp
    · rcases List.mem_append.mp hp with hp | hp
      · exact .inl (List.mem_of_mem_take hp)
      · exact .inr (List.mem_singleton.mp hp)
    · exact .inl (List.mem_of_mem_drop hp)
  have len : (S.take i ++ [o] ++ S.drop (i + 1)).length = S.length := by
    simp only [List.length_append, List.length_take, List.length_drop, List.length_cons, List.length_nil]
    omega
  have sm : lens (S.take i ++ [o] ++ S.drop (i + 1)) ≤ lens S + o.length := by
    rw [lens_append, lens_append]
    have a := lens_td S i
    have b := lens_drop (S.drop i) 1
    rw [List.drop_drop] at b
    have e : lens [o] = o.length := by simp [lens]
    omega
  have hl := h.l
  have hn := h.n
  refine ⟨?_, ?_, join_cpo cpo_nl fun p hp => (mem p hp).elim (hc p) fun e => e ▸ co⟩
  · have := join1 (y := "\n") rfl (S.take i ++ [o] ++ S.drop (i + 1))
    omega
  · have := nls_join (a := "\n") (ps := S.take i ++ [o] ++ S.drop (i + 1)) fun p hp => (mem p hp).elim (hf p) fun e => e ▸ no
    rw [nls_nl, len] at this
    omega
/-- words of a line bent -/
theorem tx_word {l o : Str} {ps : List Str} (h : PartsOk l " " o ps) (lo : o.length ≤ 4450) (nl : nls l = 0) (no : nls o = 0) (cl : cpo l) (co : cpo o) : (Txt.join " " ps).length ≤ 4 * l.length + 4460 ∧ nls (Txt.join " " ps) = 0 ∧ cpo (Txt.join " " ps) := by
  have hn := h.n
  have hl := h.l
  have sl := (split_len (z := l) tlb (by decide +kernel)).1
  refine ⟨?_, ?_, join_cpo cpo_bl fun p hp => (h.m p hp).elim (fun m => split_cpo tl_blank (by decide +kernel) cl m) fun e => e ▸ co⟩
  · have := join1 (y := " ") rfl ps
    omega
  · have := nls_join (a := " ") (ps := ps) fun p hp => (h.m p hp).elim (fun m => words_free nl m) fun e => e ▸ no
    have e : nls (" " : Str) = 0 := by decide +kernel
    rw [e, Nat.mul_zero] at this
    omega
/-- lines of a text bent -/
theorem tx_lines {L N : Nat} {z o : Str} {ps : List Str} (h : TxOk L N z) (k : PartsOk z "\n" o ps) (lo : o.length ≤ 4450) (no : nls o = 0) (co : cpo o) : TxOk (4 * L + 4460) (N + 1) (Txt.join "\n" ps) := by
  have hn := k.n
  have hl := k.l
  have h1 := h.l
  have h2 := h.n
  have ln := lines_len z
  have sl := (split_len (z := z) tln (by decide +kernel)).1
  refine ⟨?_, ?_, join_cpo cpo_nl fun p hp => (k.m p hp).elim (fun m => split_cpo tl_nl (by decide +kernel) h.c m) fun e => e ▸ co⟩
  · have := join1 (y := "\n") rfl ps
    omega
  · have := nls_join (a := "\n") (ps := ps) fun p hp => (k.m p hp).elim (fun m => lines_free m) fun e => e ▸ no
    rw [nls_nl] at this
    omega
theorem TxOk.more {L N L' N' : Nat} {z : Str} (h : TxOk L N z) (a : L ≤ L') (b : N ≤ N') : TxOk L' N' z := ⟨Nat.le_trans h.l a, Nat.le_trans h.n b, h.c⟩
def Lb : Nat → Nat
  | 0 => 2400
  | i + 1 => 5 * Lb i + 5000
theorem Lb_3 : ∀ i, i ≤ 3 → Lb i ≤ 500000 := by decide
section
variable {P : Program} {w : World} {K : PySem.W.Frag} {mg : Str → Option Value} {base : Heap}
def spBent (K : PySem.W.Frag) : Sp := fun vs H Q _ => ∃ (dk : Addr) (k : Nat) (bv : V) (d : Nat) (qs : List (List Int × Int)) (z : Str), vs = [.ref dk, bv, .str z] ∧ Stk dk k H ∧ k ≤ 700000 ∧ BkV K H bv d qs ∧ 1 ≤ d ∧ d ≤ 9 ∧ qs.length ≤ 20 ∧ (∀ q, q ∈ qs → q.1.length = d ∧ (∀ z, z ∈ q.1 → z.natAbs < 10 ^ 9) ∧ q.2.natAbs < 10 ^ 9) ∧ TxOk 2400 20 z ∧
  ∀ (z : Str) H', GrD dk H H' → Stk dk (k + 40) H' → TxOk 500000 23 z → Q (.str z) H'
theorem sc_bent : FnScope ["well", "book", "text", "turn", "way", "lines", "at", "line"] ["well", "book", "text"] (defScope s__law_bent) := ⟨rfl, rfl, rfl, by decide +kernel, rfl, by decide +kernel, by decide +kernel⟩
theorem cl_bent (D : Df K mg "_law_bent" s__law_bent) (B : Blt mg) (CD : Cl P w K mg base 1 "_law_draw" ["well", "many"] spPick) (BS : Cl P w K mg base 3 "_law_bent_signs" ["well", "text"] spBentS) (BP : Cl P w K mg base 2 "_law_bent_parts" ["well", "text", "between", "odd"] spBentP) (OL : Cl P w K mg base 2 "_law_odd_line" ["well", "book"] (spOddL K)) (OW : Cl P w K mg base 2 "_law_odd_word" ["well"] spOddW) : Cl P w K mg base 4 "_law_bent" ["well", "book", "text"] (spBent K) := by
  refine D.cl (fun _ _ _ _ _ _ us hl => match us, hl with | [_, _, _], _ => rfl) fun f fd F => F.ok sc_bent (fun vs H Q E h => ?_) (fun cdv A outer s H vs Q E hr h => ?_)
  · obtain ⟨dk, k, bv, d, qs, z, rfl, _⟩ := h
    rfl
  obtain ⟨dk, k, bv, d, qs, z, rfl, sk, k7, hb, d1, d9, l20, hq, tx, q⟩ := h
  refine ⟨_, (pss_cons (ps_for PassesOwn.never rfl (pi_range1 rfl B.rng (pa_cons (pe_ix ix_list (pe_lst (pa_cons pe_int (pa_cons pe_int (pa_cons pe_int (pa_cons pe_int (pa_cons pe_int (pa_cons pe_int pa_nil))))))) (pe_cl CD (hr.mono (by decide)) (pa_cons (pv 0) (pa_cons pe_int pa_nil))) (fun _ _ => rfl)) pa_nil)) (pg_name (i := 3) sc_bent.nd rfl (Or.inl rfl))
      (pss_cons (ps_par (i := 4) (j := 5) rfl sc_bent.nd rfl rfl (by decide) rfl rfl (pa_cons (pe_cl CD (hr.mono (by decide)) (pa_cons (pv 0) (pa_cons pe_int pa_nil))) (pa_cons (pe_split (pv 2) pe_str) pa_nil)) rfl)
      (pss_cons (ps_set (i := 6) sc_bent.nd rfl (.inl rfl) (pe_cl CD (hr.mono (by decide)) (pa_cons (pv 0) (pa_cons (pe_len (pv 5) B.len) pa_nil))))
      (pss_one (ps_if (pt_cmpR op_eq (pv 4) pe_int (nomark _)) (pss_one (ps_set (i := 2) sc_bent.nd rfl (.inl rfl) (pe_cl BS (hr.mono (by decide)) (pa_cons (pv 0) (pa_cons (pv 2) pa_nil))))) (pss_one (ps_if (pt_cmpR op_eq (pv 4) pe_int (nomark _)) (pss_one (ps_set (i := 2) sc_bent.nd rfl (.inl rfl) (pe_join pe_str (pe_op op_cat (pe_op op_cat (pe_slice sl_list (pv 5) po_none (po_some (pv 6))) (pe_lst (pa_cons (pe_cl OL (hr.mono (by decide)) (pa_cons (pv 0) (pa_cons (pv 1) pa_nil))) pa_nil))) (pe_slice sl_list (pv 5) (po_some (pe_op op_add (pv 6) pe_int)) po_none))))) (pss_one (ps_if (pt_cmpR op_lt (pv 4) pe_int (nomark _)) (pss_cons (ps_set (i := 7) sc_bent.nd rfl (.inl rfl) (pe_cl BP (hr.mono (by decide)) (pa_cons (pv 0) (pa_cons (pe_ix ix_list (pv 5) (pv 6) (fun _ _ => rfl)) (pa_cons pe_str (pa_cons (pe_cl OW (hr.mono (by decide)) (pa_cons (pv 0) pa_nil)) pa_nil))))))
            (pss_one (ps_set (i := 2) sc_bent.nd rfl (.inl rfl) (pe_join pe_str (pe_op op_cat (pe_op op_cat (pe_slice sl_list (pv 5) po_none (po_some (pv 6))) (pe_lst (pa_cons (pv 7) pa_nil))) (pe_slice sl_list (pv 5) (po_some (pe_op op_add (pv 6) pe_int)) po_none)))))) (pss_one (ps_set (i := 2) sc_bent.nd rfl (.inl rfl) (pe_cl BP (hr.mono (by decide)) (pa_cons (pv 0) (pa_cons (pv 2) (pa_cons pe_str (pa_cons (pe_cl OL (hr.mono (by decide)) (pa_cons (pv 0) (pa_cons (pv 1) pa_nil))) pa_nil))))))))))))))))
    (pss_one (ps_ret (pv 2)))), ?_⟩
  refine ⟨szN (by show 6 ≤ 1000000; decide), fun L nL => ?_⟩
  have r1 := (Gr.refl H).new nL (.lst [.int 0, .int 1, .int 1, .int 1, .int 2, .int 3])
  have hL : (upd H L (.lst [V.int 0, .int 1, .int 1, .int 1, .int 2, .int 3])) L = some (.lst [.int 0, .int 1, .int 1, .int 1, .int 2, .int 3]) := upd_same
  have s1 := sk.gr r1
  have nLd := sk.ne nL
  generalize upd H L (.lst [V.int 0, .int 1, .int 1, .int 1, .int 2, .int 3]) = H1 at r1 hL s1 ⊢
  refine ⟨_, rfl, dk, 6, k, rfl, s1, by omega, by decide, by decide, fun t H2 t0 t1 g2 s2 => ?_⟩
  obtain ⟨v, ev, hv⟩ := atI_ex (l := [V.int 0, .int 1, .int 1, .int 1, .int 2, .int 3]) t0 (show t < ((6 : Nat) : Int) from t1)
  have hb2 := hb.st (r1.st.trans (g2.sk s1))
  have g02 := (r1.d dk).trans g2
  obtain ⟨n, rfl, n3⟩ : ∃ n : Nat, v = .int (n : Int) ∧ n ≤ 3 := by
    simp only [List.mem_cons, List.not_mem_nil, or_false] at hv
    rcases hv with rfl | rfl | rfl | rfl | rfl | rfl
    · exact ⟨0, rfl, by decide⟩
    · exact ⟨1, rfl, by decide⟩
    · exact ⟨1, rfl, by decide⟩
    · exact ⟨1, rfl, by decide⟩
    · exact ⟨2, rfl, by decide⟩
    · exact ⟨3, rfl, by decide⟩
  refine ⟨L, _, t, _, rfl, rfl, SqL.of (GrDL.lst g2 nLd hL), ev, _, rfl, by omega, by omega, ?_⟩
  rw [Int.toNat_natCast]
  refine for_range (lo := 0) (fun i σ H' => ∃ (zi : Str) (c3 c4 c5 c6 c7 : Option V), σ = [some (.ref dk), some bv, some (.str zi), c3, c4, c5, c6, c7] ∧ GrD dk H2 H' ∧ Stk dk (k + 1 + 10 * i) H' ∧ BkV K H' bv d qs ∧ TxOk (Lb i) (20 + i) zi) ⟨z, none, none, none, none, none, rfl, GrD.refl _ _, s2.more (by omega), hb2, tx⟩ (fun i σ H' hi h => ?_) (fun σ H' h => ?_)
  · obtain ⟨zi, c3, c4, c5, c6, c7, rfl, g, si, hbi, txi⟩ := h
    have L5 := Lb_3 i (by omega)
    have hz := txi.l
    have hcz := txi.c
    have ll := lines_lens zi
    have ln := lines_len zi
    have hn := txi.n
    refine ⟨_, rfl, dk, 7, _, rfl, si, by omega, by decide, by decide, fun w H3 w0 w1 g3 s3 => ?_⟩
    refine ⟨_, rfl, ⟨_, rfl⟩, _, _, rfl, rfl, rfl, sz15 (by omega), fun M nM => ⟨_, _, rfl, ?_⟩⟩
    have rM := (Gr.refl H3).new nM (.lst ((Txt.split zi "\n").map V.str))
    have hM : (upd H3 M (.lst ((Txt.split zi "\n").map V.str))) M = some (.lst ((Txt.split zi "\n").map V.str)) := upd_same
    have nMd := s3.ne nM
    have s4 := s3.gr rM
    have hb4 := hbi.st ((g3.sk si).trans rM.st)
    have g4 := (g.trans g3).trans (rM.d dk)
    generalize upd H3 M (.lst ((Txt.split zi "\n").map V.str)) = H4 at rM hM s4 hb4 g4 ⊢
    have lms : ((Txt.split zi "\n").map V.str).length = (Txt.split zi "\n").length := List.length_map _
    have sn := List.length_pos_iff.mpr (split_ne zi "\n" tln (by decide +kernel))
    refine ⟨_, rfl, _, rfl, M, _, rfl, .inl (SqL.of hM), dk, _, _, rfl, s4, by omega, by rw [lms]; omega, ?_, fun u H5 u0 u1 g5 s5 => ?_⟩
    · rw [lms, Int.natAbs_natCast]
      exact Nat.lt_of_le_of_lt (show _ ≤ 600001 by omega) (Nat.lt_of_lt_of_le (show 600001 < 2 ^ 20 by decide) (Nat.pow_le_pow_right (by decide) (by decide)))
    obtain ⟨j, rfl⟩ := Int.eq_ofNat_of_zero_le u0
    rw [lms] at u1
    have hj : j < (Txt.split zi "\n").length := by omega
    have hM5 := GrDL.lst g5 nMd hM
    have hb5 := hb4.st (g5.sk s4)
    have g5' := g4.trans g5
    have vj : ((Txt.split zi "\n").map V.str)[j]? = some (.str (Txt.split zi "\n")[j]) := by rw [List.getElem?_map, List.getElem?_eq_getElem hj]; rfl
    have mj : (Txt.split zi "\n")[j] ∈ Txt.split zi "\n" := List.getElem_mem hj
    have lj := (split_len (z := zi) tln (by decide +kernel)).2 _ mj
    have ct : cutV ((Txt.split zi "\n").map V.str) none (some ((j : Nat) : Int)) = ((Txt.split zi "\n").take j).map V.str := by rw [cut_to _ _ (by rw [lms]; omega), List.map_take]
    have cf : cutV ((Txt.split zi "\n").map V.str) (some (((j : Nat) : Int) + 1)) none = ((Txt.split zi "\n").drop (j + 1)).map V.str := by
      rw [show (((j : Nat) : Int) + 1) = ((j + 1 : Nat) : Int) from by omega, cut_from _ _ (by rw [lms]; omega), List.map_drop]
    have ltk : ((Txt.split zi "\n").take j).length ≤ (Txt.split zi "\n").length := by rw [List.length_take]; omega
    have ldr : ((Txt.split zi "\n").drop (j + 1)).length ≤ (Txt.split zi "\n").length := by rw [List.length_drop]; omega
    have out : ∀ (z' : Str) (c3 c4 c5 c6 c7 : Option V) (H' : Hp), GrD dk H5 H' → Stk dk (k + 1 + 10 * i + 2 + 8) H' → BkV K H' bv d qs → TxOk (5 * Lb i + 5000) (20 + i + 1) z' → ∃ (zi : Str) (c3' c4' c5' c6' c7' : Option V), [some (.ref dk), some bv, some (.str z'), c3, c4, c5, c6, c7] = [some (.ref dk), some bv, some (.str zi), c3', c4', c5', c6', c7'] ∧ GrD dk H2 H' ∧ Stk dk (k + 1 + 10 * (i + 1)) H' ∧ BkV K H' bv d qs ∧ TxOk (Lb (i + 1)) (20 + (i + 1)) zi := fun z' c3 c4 c5 c6 c7 H' a b c e => ⟨z', c3, c4, c5, c6, c7, rfl, g5'.trans a, b.more (by omega), c, e⟩
    have jb : ∀ (o : Str), o.length ≤ 4 * zi.length + 4460 → lens ((Txt.split zi "\n").take j ++ [o] ++ (Txt.split zi "\n").drop (j + 1)) + ((Txt.split zi "\n").take j ++ [o] ++ (Txt.split zi "\n").drop (j + 1)).length * ("\n" : Str).length ≤ 16777216 := fun o ho => by
      have a := lens_take (Txt.split zi "\n") j
      have b := lens_drop (Txt.split zi "\n") (j + 1)
      have e : lens [o] = o.length := by simp [lens]
      have e2 : ("\n" : Str).length = 1 := rfl
      rw [e2, lens_append, lens_append, e, List.length_append, List.length_append]
      show _ + (_ + 1 + _) * 1 ≤ _
      omega
    refine ⟨_, rfl, rfl, _, rfl, ite2 (fun _ => ?_) (fun _ => ?_)⟩
    · refine ⟨_, rfl, _, rfl, dk, _, zi, rfl, s5, by omega, by omega, fun z' H6 g6 s6 bo => ?_⟩
      exact out z' _ _ _ _ _ H6 g6 (s6.more (by omega)) (hb5.st (g6.sk s5)) ⟨by have := bo.1; omega, by have := bo.2.1; omega, bo.2.2 hcz⟩
    refine ⟨_, rfl, rfl, _, rfl, ite2 (fun _ => ?_) (fun _ => ?_)⟩
    · refine ⟨⟨_, rfl⟩, _, rfl, _, rfl, _, rfl, M, _, rfl, SqL.of hM5, fun p np => ?_⟩
      rw [ct]
      have rp := (Gr.refl H5).new np (.lst (((Txt.split zi "\n").take j).map V.str))
      have hp : (upd H5 p (.lst (((Txt.split zi "\n").take j).map V.str))) p = some (.lst (((Txt.split zi "\n").take j).map V.str)) := upd_same
      have npd := s5.ne np
      have s6 := s5.gr rp
      have hb6 := hb5.st rp.st
      have hM6 := rp.lstK hM5
      generalize upd H5 p (.lst (((Txt.split zi "\n").take j).map V.str)) = H6 at rp hp s6 hb6 hM6 ⊢
      refine ⟨_, rfl, _, rfl, dk, _, bv, d, qs, rfl, s6, by omega, hb6, d1, d9, l20, hq, fun o H7 g7 s7 no lo co => ⟨szN (by show 1 ≤ 1000000; decide), fun N nN => ?_⟩⟩
      have rN := (Gr.refl H7).new nN (.lst [.str o])
      have hN : (upd H7 N (.lst [.str o])) N = some (.lst [.str o]) := upd_same
      have hp8 := rN.lstK (GrDL.lst g7 npd hp)
      have hM8 := rN.lstK (GrDL.lst g7 nMd hM6)
      have s8 := s7.gr rN
      have hb8 := hb6.st ((g7.sk s6).trans rN.st)
      have g58 := (rp.d dk).trans (g7.trans (rN.d dk))
      generalize upd H7 N (.lst [.str o]) = H8 at rN hN hp8 hM8 s8 hb8 g58 ⊢
      refine ⟨p, N, _, _, rfl, rfl, hp8, hN, by rw [sizeLine_eq, List.length_map]; show _ + 1 ≤ _; omega, fun P1 n1 => ?_⟩
      rw [show ((Txt.split zi "\n").take j).map V.str ++ [V.str o] = ((Txt.split zi "\n").take j ++ [o]).map V.str from by rw [List.map_append]; rfl]
      have r1 := (Gr.refl H8).new n1 (.lst (((Txt.split zi "\n").take j ++ [o]).map V.str))
      have h1 : (upd H8 P1 (.lst (((Txt.split zi "\n").take j ++ [o]).map V.str))) P1 = some (.lst (((Txt.split zi "\n").take j ++ [o]).map V.str)) := upd_same
      generalize upd H8 P1 (.lst (((Txt.split zi "\n").take j ++ [o]).map V.str)) = H9 at r1 h1 ⊢
      refine ⟨_, rfl, _, rfl, _, _, rfl, rfl, _, rfl, M, _, rfl, SqL.of (r1.lstK hM8), fun p2 np2 => ?_⟩
      rw [cf]
      have r2 := (Gr.refl H9).new np2 (.lst (((Txt.split zi "\n").drop (j + 1)).map V.str))
      have h2 : (upd H9 p2 (.lst (((Txt.split zi "\n").drop (j + 1)).map V.str))) p2 = some (.lst (((Txt.split zi "\n").drop (j + 1)).map V.str)) := upd_same
      generalize upd H9 p2 (.lst (((Txt.split zi "\n").drop (j + 1)).map V.str)) = H10 at r2 h2 ⊢
      refine ⟨P1, p2, _, _, rfl, rfl, r2.lstK h1, h2, by rw [sizeLine_eq, List.length_map, List.length_map, List.length_append]; show _ + 1 + _ ≤ _; omega, fun P2 n2 => ?_⟩
      rw [show ((Txt.split zi "\n").take j ++ [o]).map V.str ++ ((Txt.split zi "\n").drop (j + 1)).map V.str = ((Txt.split zi "\n").take j ++ [o] ++ (Txt.split zi "\n").drop (j + 1)).map V.str from (List.map_append ..).symm]
      have r3 := (r1.trans r2).new n2 (.lst (((Txt.split zi "\n").take j ++ [o] ++ (Txt.split zi "\n").drop (j + 1)).map V.str))
      refine ⟨"\n", P2, _, rfl, rfl, .inl (SqL.of upd_same), jb o (by omega), ?_⟩
      exact out _ _ _ _ _ _ _ (g58.trans (r3.d dk)) ((s8.gr r3).more (by omega)) (hb8.st r3.st) ((tx_line txi hj lo no co).more (by omega) (by omega))
    refine ⟨_, rfl, _, _, rfl, rfl, _, rfl, ite2 (fun _ => ?_) (fun _ => ?_)⟩
    · refine ⟨_, rfl, _, rfl, _, rfl, M, _, _, .str _, rfl, rfl, SqL.of hM5, atI_nat vj, _, rfl, dk, _, rfl, s5, by omega, fun o H6 g6 s6 no lo co => ?_⟩
      refine ⟨dk, _, (Txt.split zi "\n")[j], " ", o, rfl, s6, by omega, by omega, rfl, tlb, by decide +kernel, by omega, fun ps H7 g7 s7 pk => ?_⟩
      have hM7 := GrDL.lst g7 nMd (GrDL.lst g6 nMd hM5)
      have hb7 := hb5.st ((g6.sk s5).trans (g7.sk s6))
      obtain ⟨w1, w2, w3⟩ := tx_word pk lo (lines_free mj) no (split_cpo tl_nl (by decide +kernel) hcz mj) co
      generalize Txt.join " " ps = o2 at w1 w2 w3 ⊢
      refine ⟨⟨_, rfl⟩, _, rfl, _, rfl, _, rfl, M, _, rfl, SqL.of hM7, fun p np => ?_⟩
      rw [ct]
      have rp := (Gr.refl H7).new np (.lst (((Txt.split zi "\n").take j).map V.str))
      have hp : (upd H7 p (.lst (((Txt.split zi "\n").take j).map V.str))) p = some (.lst (((Txt.split zi "\n").take j).map V.str)) := upd_same
      generalize upd H7 p (.lst (((Txt.split zi "\n").take j).map V.str)) = Ha at rp hp ⊢
      refine ⟨_, rfl, szN (by show 1 ≤ 1000000; decide), fun N nN => ?_⟩
      have rN := (Gr.refl Ha).new nN (.lst [.str o2])
      have hN : (upd Ha N (.lst [.str o2])) N = some (.lst [.str o2]) := upd_same
      generalize upd Ha N (.lst [.str o2]) = H8 at rN hN ⊢
      refine ⟨p, N, _, _, rfl, rfl, rN.lstK hp, hN, by rw [sizeLine_eq, List.length_map]; show _ + 1 ≤ _; omega, fun P1 n1 => ?_⟩
      rw [show ((Txt.split zi "\n").take j).map V.str ++ [V.str o2] = ((Txt.split zi "\n").take j ++ [o2]).map V.str from by rw [List.map_append]; rfl]
      have r1 := (Gr.refl H8).new n1 (.lst (((Txt.split zi "\n").take j ++ [o2]).map V.str))
      have h1 : (upd H8 P1 (.lst (((Txt.split zi "\n").take j ++ [o2]).map V.str))) P1 = some (.lst (((Txt.split zi "\n").take j ++ [o2]).map V.str)) := upd_same
      generalize upd H8 P1 (.lst (((Txt.split zi "\n").take j ++ [o2]).map V.str)) = H9 at r1 h1 ⊢
      refine ⟨_, rfl, _, rfl, _, _, rfl, rfl, _, rfl, M, _, rfl, SqL.of ((rp.trans (rN.trans r1)).lstK hM7), fun p2 np2 => ?_⟩
      rw [cf]
      have r2 := (Gr.refl H9).new np2 (.lst (((Txt.split zi "\n").drop (j + 1)).map V.str))
      have h2 : (upd H9 p2 (.lst (((Txt.split zi "\n").drop (j + 1)).map V.str))) p2 = some (.lst (((Txt.split zi "\n").drop (j + 1)).map V.str)) := upd_same
      generalize upd H9 p2 (.lst (((Txt.split zi "\n").drop (j + 1)).map V.str)) = H10 at r2 h2 ⊢
      refine ⟨P1, p2, _, _, rfl, rfl, r2.lstK h1, h2, by rw [sizeLine_eq, List.length_map, List.length_map, List.length_append]; show _ + 1 + _ ≤ _; omega, fun P2 n2 => ?_⟩
      rw [show ((Txt.split zi "\n").take j ++ [o2]).map V.str ++ ((Txt.split zi "\n").drop (j + 1)).map V.str = ((Txt.split zi "\n").take j ++ [o2] ++ (Txt.split zi "\n").drop (j + 1)).map V.str from (List.map_append ..).symm]
      have r3 := (((rp.trans rN).trans r1).trans r2).new n2 (.lst (((Txt.split zi "\n").take j ++ [o2] ++ (Txt.split zi "\n").drop (j + 1)).map V.str))
      refine ⟨"\n", P2, _, rfl, rfl, .inl (SqL.of upd_same), jb o2 (by omega), ?_⟩
      exact out _ _ _ _ _ _ _ ((g6.trans g7).trans (r3.d dk)) ((s7.gr r3).more (by omega)) (hb7.st r3.st) ((tx_line txi hj (m := 4 * Lb i + 4460) (by omega) w2 w3).more (by omega) (by omega))
    · refine ⟨_, rfl, _, rfl, _, rfl, _, rfl, dk, _, bv, d, qs, rfl, s5, by omega, hb5, d1, d9, l20, hq, fun o H6 g6 s6 no lo co => ?_⟩
      refine ⟨dk, _, zi, "\n", o, rfl, s6, by omega, by omega, rfl, tln, by decide +kernel, by omega, fun ps H7 g7 s7 pk => ?_⟩
      exact out _ _ _ _ _ _ H7 (g6.trans g7) (s7.more (by omega)) (hb5.st ((g6.sk s5).trans (g7.sk s6))) ((tx_lines txi pk lo no co).more (by omega) (by omega))
  · obtain ⟨zi, c3, c4, c5, c6, c7, rfl, g, si, hbi, txi⟩ := h
    exact ⟨_, rfl, q zi H' (g02.trans g) (si.more (by omega)) (txi.more (Lb_3 n n3) (by omega))⟩
end
end SB
set_option pp.maxSteps 300
namespace SB
open PySem PySem.Spec PyProof.Rows L2
/-! ### several clauses; those behind the named ones are never asked -/
def wNamedF (K : PySem.W.Frag) (i : Nat) (D : Ends) : List (Value × (Addr → Value → Option Addr → TS)) → WX
  | [] => fun _ _ _ _ => False
  | (c, ts) :: r => fun cls d σ H => ∃ b, PySem.W.exmOne K cls c = some b ∧ (b = true → ∀ a, H a = none → ts a cls d (endN D i) (σ.set i (some (.ref a))) H) ∧ (b = false → wNamedF K i D r cls d σ H)
inductive ClOkF (X : Cx) (n : Str) : List ExceptHandler → List (Value × (Addr → Value → Option Addr → TS)) → Prop
  | tail (hds : List ExceptHandler) : ClOkF X n hds []
  | cons {x : Str} {c : Value} {ts : Addr → Value → Option Addr → TS} {b₀ : Stmt} {suite : List Stmt} {np pos' : Pos} {hds : List ExceptHandler} {l : List (Value × (Addr → Value → Option Addr → TS))} (nm : Names X x c)
      (su : ∀ (a : Addr) (oe : Obj) (cls : Value) (d : Option Addr) (pn : List (Addr × Obj)), Zc cls d oe → (∃ vs, oe.data = .fields vs) → PSs (X.suite a ((a, oe) :: pn)) (b₀ :: suite) (ts a cls d)) (r : ClOkF X n hds l) :
      ClOkF X n (.ExceptHandler (some (.Name x np)) (some n) (b₀ :: suite) pos' :: hds) ((c, ts) :: l)
section
variable {X : Cx} {n : Str} {i : Nat} {body : List Stmt} {h₀ : ExceptHandler} {hds : List ExceptHandler} {l : List (Value × (Addr → Value → Option Addr → TS))} {pos : Pos} {tb : WX → TS}
theorem ps_try_tail (hs : X.stack = X.env :: X.outer) (hf : X.env.frame = some X.env.locals) (hN : X.N.Nodup) (hi : X.N[i]? = some n) (hln : X.env.kindOf n = some .local)
    (hb : ∀ (W : WX) (pn : List (Addr × Obj)) (xe : Value → Shared → Prop), Takes (X.tr pn xe) W → PassesOwn (model X.prog X.w) X.A X.env xe → PSs (X.tr pn xe) body (tb W))
    (hh : ClOkF X n (h₀ :: hds) l) : PS X (.Try body (h₀ :: hds) [] [] pos) (fun D σ H => tb (wNamedF X.K i D l) D σ H) := by
  refine ⟨fun pins s σ H D I h => ?_⟩
  have ok := I.ok
  have hfr : X.A.frames = some (X.env :: X.outer) := by rw [ok.frames, hs]
  refine wpAny_Try_except ?_
  refine wpAny_mono ((hb (wNamedF X.K i D l) (X.pn ++ pins) (fun e s₁ => wpAny (model X.prog X.w) X.A (noteFrame e X.env) (fun _ s₂ => wpAny (model X.prog X.w) X.A (setFlight e none) (fun _ s₃ =>
    wpAny (model X.prog X.w) X.A (handleBy e X.env (h₀ :: hds)) (SP X pins D) X.xe s₃) X.xe s₂) X.xe s₁) (fun u s' xx => ?_) PassesOwn.looking).run [] s σ H D (I.toTry _) h) (fun f s1 hsp => ?_) (fun e s1 he => he)
  · obtain ⟨a, B, sI, pins', σ', H', cls, d, rfl, J', nb, up, sky, na, os, ag, w⟩ := xx
    have J : Inv X pins σ' H' sI := J'.ofTry ok
    have sky' : Sky B (X.env :: X.outer) a (Zc cls d) X.env.locals s'.heap := by rw [← hs]; exact sky
    show wpAny (model X.prog X.w) X.A (noteFrame (.ref a) X.env) _ _ _
    refine Sky.land Zc.steady hfr hf sky' fun h3 fl3 up3 => ?_
    have J3 : Inv X pins σ' H' { s' with heap := h3 } := J.landed nb fl3.1 (up.trans up3) os ag
    obtain ⟨oe3, vs3, he3, hz3, hd3⟩ := fl3.there
    have nfr : a ∉ frs (X.env :: X.outer) := fun hm => by
      obtain ⟨_, o', e', hnf⟩ := fl3.2.2.1.mem hm
      rw [he3] at e'; cases e'
      exact hnf _ hd3
    have nL : a ≠ X.env.locals := fun z => nfr (List.mem_filterMap.mpr ⟨X.env, List.mem_cons_self, by rw [hf, z]⟩)
    have nF : a ∉ X.fs := fun hm => by
      obtain ⟨e, he, q⟩ := List.mem_filterMap.mp hm
      exact nfr (List.mem_filterMap.mpr ⟨e, List.mem_cons_of_mem _ he, q⟩)
    have S3 := J3.suite he3 hd3 na nL nF
    have go : ∀ {hds' : List ExceptHandler} {l' : List (Value × (Addr → Value → Option Addr → TS))}, ClOkF X n hds' l' → wNamedF X.K i D l' cls d σ' H' →
        wpAny (model X.prog X.w) X.A (handleBy (.ref a) X.env hds') (SP X pins D) X.xe { s' with heap := h3 } := by
      intro hds' l' hk
      induction hk with
      | tail hds0 =>
        intro w
        exact w.elim
      | @cons x c ts b₀ suite np pos' hds2 l2 nm su r ih =>
        intro w
        obtain ⟨b, hb1, hyes, hno⟩ := w
        refine wpAny_handleBy_cons (codeAny_handlers_test ?_) (by intro q; cases q)
        have LT : PySem.W.Looks (model X.prog X.w) h3 (typeOf (.ref a)) cls := fun A Q E s k q => wpAny_typeOf_ref (k _ _ he3) (by rw [hz3.1]; exact q)
        have LM := PySem.W.exm_one (M := model X.prog X.w) (J3.kIn) LT hb1
        have test : ∀ {Q : Value → Shared → Prop} {E : Value → Shared → Prop}, Q c { s' with heap := h3 } → wpAny (model X.prog X.w) (X.A.mark (some (.ref a))) (eval (.Name x np) X.env) Q E { s' with heap := h3 } := fun {Q E} q => by
          obtain ⟨hg, hdbg, hm | ⟨hm, hv, hnn⟩⟩ := nm
          · exact ld_glob (X := X.suite a ((a, oe3) :: (X.pn ++ pins))) S3 hg hm q hdbg
          · exact ld_blt (X := X.suite a ((a, oe3) :: (X.pn ++ pins))) S3 hg hm hv q hnn hdbg
        refine test (LM.here ?_)
        cases b with
        | true =>
          refine codeAny_handlers_suite_as ?_
          refine HandSPX.lands_againZ fl3 fun h4 fl4 up4 => ?_
          have J4 : Inv X pins σ' H' { s' with heap := h4 } := J.landed nb fl4.1 ((up.trans up3).trans up4) os ag
          obtain ⟨oe4, vs4, he4, hz4, hd4⟩ := fl4.there
          have S4 := J4.suite he4 hd4 na nL nF
          refine store_ok (X := X.suite a ((a, oe4) :: (X.pn ++ pins))) (v := .ref a) S4 hN hi (.inl hln) rfl (fun s5 S5 => ?_) (.inr hln)
          refine wpAny_mono ((su a oe4 cls d (X.pn ++ pins) hz4 ⟨_, hd4⟩).run [] s5 _ H' _ S5 (hyes rfl a na)) (fun f s6 hsp => ?_) (fun _ _ z => False.elim z)
          have end_ : ∀ {σ6 : L2.St} {H6 : Hp} {Q : Shared → Prop}, Inv (X.suite a ((a, oe4) :: (X.pn ++ pins))) [] σ6 H6 s6 → (∀ s7, Inv X pins (σ6.set i none) H6 s7 → Q s7) →
              wpAny (model X.prog X.w) X.A (do bindName X.env n .none; unbindBehindTheSuite X.env n pos') (fun _ s7 => Q s7) X.xe s6 := fun {σ6 H6 Q} S6 hq => gone_ok (S6.unsuite ok) hN hi hln hq
          cases f with
          | next =>
            obtain ⟨σ6, H6, S6, q6⟩ := hsp
            exact end_ S6 fun s7 J7 => ⟨_, _, J7, q6⟩
          | brk =>
            obtain ⟨σ6, H6, S6, q6⟩ := hsp
            exact end_ S6 fun s7 J7 => ⟨_, _, J7, q6⟩
          | cont =>
            obtain ⟨σ6, H6, S6, q6⟩ := hsp
            exact end_ S6 fun s7 J7 => ⟨_, _, J7, q6⟩
          | ret u =>
            obtain ⟨v6, σ6, H6, S6, r6, q6⟩ := hsp
            exact end_ S6 fun s7 J7 => ⟨_, _, _, J7, r6, q6⟩
        | false =>
          show wpAny _ X.A (handleBy (.ref a) X.env hds2) _ _ _
          exact ih (hno rfl)
    exact go hh w
  · cases f with
    | next =>
      obtain ⟨σ', H', J', q⟩ := hsp
      exact wpAny_execs_nil ⟨σ', H', J'.ofTry ok, q⟩
    | brk =>
      obtain ⟨σ', H', J', q⟩ := hsp
      exact ⟨σ', H', J'.ofTry ok, q⟩
    | cont =>
      obtain ⟨σ', H', J', q⟩ := hsp
      exact ⟨σ', H', J'.ofTry ok, q⟩
    | ret u =>
      obtain ⟨v, σ', H', J', r, q⟩ := hsp
      exact ⟨v, σ', H', J'.ofTry ok, r, q⟩
end
end SB
set_option pp.maxSteps 300
namespace SB
open PySem PySem.NumText L2 GxR GA RZ RP TL
/-! ### the readers behind doors -/
def NoRd (z : Str) : Prop := ∀ l0 rest, Txt.split z "\n" = l0 :: rest → numW l0 = none ∧ ptW l0 = none ∧ rowW l0 = none ∧ wishW l0 = none ∧ NoOp l0
def RdC (K : PySem.W.Frag) (cU : Addr) (k : Nat) (z : Str) (H : Hp) (Q : VK) (E : XK) : Prop := (k = 4 ∧ (Txt.split z "\n").length ≤ 61 ∧ (∀ n, bkOut z = .no n → RsE cU (.int n) H E) ∧ (∀ d qs, bkOut z = .yes d qs → ∀ v H', Gr H H' → BkI K H' v d qs → Q v H')) ∨ (k ≠ 4 ∧ NoRd z ∧ RsE cU (.int 1) H E)
def spRdK (K : PySem.W.Frag) (T : Nat → Addr) (cU : Addr) (k : Nat) : Sp := fun vs H Q E => ∃ z : Str, vs = [.str z] ∧ Tb5 T H ∧ z.length ≤ 800000 ∧ RdC K cU k z H Q E
section
variable {P : Program} {w : World} {K : PySem.W.Frag} {mg : Str → Option Value} {base : Heap} {fI cU : Addr} {T : Nat → Addr}
theorem rdk_of {α : Type} {k n : Nat} {x : Str} {W : Str → Option α} {Rv : V → α → Hp → Prop} {Tt : Hp → Prop} (C : ClXN P w K mg base n x ["text"] (spRdA cU W Rv Tt)) (ht : ∀ H, Tb5 T H → Tt H) (hk : k ≠ 4) (hn : ∀ z, NoRd z → ∀ l0 rest, Txt.split z "\n" = l0 :: rest → W l0 = none) : ClXN P w K mg base n x ["text"] (spRdK K T cU k) :=
  C.imp fun vs H Q E h => by
    obtain ⟨z, rfl, t, lz, c⟩ := h
    rcases c with ⟨c, _⟩ | ⟨_, no, r⟩
    · exact absurd c hk
    · exact ⟨z, rfl, ht H t, by omega, fun l0 rest es => ⟨fun _ => r, fun a e => by rw [hn z no l0 rest es] at e; cases e⟩⟩
theorem rdk_bk {n : Nat} (C : ClXN P w K mg base n "read_book" ["text"] (spRdBkA K cU)) : ClXN P w K mg base n "read_book" ["text"] (spRdK K T cU 4) :=
  C.imp fun vs H Q E h => by
    obtain ⟨z, rfl, t, lz, c⟩ := h
    rcases c with ⟨_, a, b, c⟩ | ⟨c, _⟩
    · exact ⟨z, rfl, lz, a, b, c⟩
    · exact absurd rfl c
theorem rdk_say {n : Nat} (C : ClXN P w K mg base n "read_saying" ["text"] (spRdSayN cU)) : ClXN P w K mg base n "read_saying" ["text"] (spRdK K T cU 5) :=
  C.imp fun vs H Q E h => by
    obtain ⟨z, rfl, t, lz, c⟩ := h
    rcases c with ⟨c, _⟩ | ⟨_, no, r⟩
    · cases c
    · exact ⟨z, rfl, by omega, fun l0 rest es => (no l0 rest es).2.2.2.2, r⟩
theorem clKX1a {k : Nat} {x : Str} {st : Stmt} {sp : Sp} {a : Str} (C : ClXN P w K mg base k x [a] sp) (D : Df K mg x st)
    (hb : ∀ (kV doc pm : Value) (an : Option Addr) (cdv ct : Value) (u : Value), bindArgs (PySem.W.fnOf x x (defArgs st) (defBody st) (defScope st) .none kV doc pm an cdv ct) ⟨[], [(a, u)]⟩ = pure [(a, u)]) : ClKXN P w K mg base k x [a] [a] gR1 gR1 sp :=
  clKXN_of C D fun kV doc pm an cdv ct => ⟨fun s us ws _ hl => by
    obtain ⟨u, rfl, rfl⟩ := gR1_len hl
    exact .of_eq (hb kV doc pm an cdv ct u), fun r q => gR1_rel r q⟩
def spLRdB (K : PySem.W.Frag) (T : Nat → Addr) (cU : Addr) : Sp := fun vs H Q E => ∃ (k : Nat) (z : Str) (nm : Bool), vs = [.int (k : Int), .str z, .bl nm] ∧ k ≤ 5 ∧ Tb5 T H ∧ z.length ≤ 800000 ∧ RdC K cU k z H Q E
theorem sc_lrdb : FnScope ["door", "text", "named"] ["door", "text", "named"] (defScope s__law_read) := ⟨rfl, rfl, rfl, by decide +kernel, rfl, by decide +kernel, by decide +kernel⟩
theorem neI2 {a b : Int} (h : a ≠ b) : ¬ V.int a = V.int b := fun e => h (by injection e)
theorem cx_lread (D : Df K mg "_law_read" s__law_read) (C0 : ClXN P w K mg base 4 "read_number" ["text"] (spRdK K T cU 0)) (C1 : ClXN P w K mg base 5 "read_point" ["text"] (spRdK K T cU 1)) (C2 : ClXN P w K mg base 5 "read_row" ["text"] (spRdK K T cU 2)) (C3 : ClXN P w K mg base 4 "read_wish" ["text"] (spRdK K T cU 3)) (C4 : ClXN P w K mg base 38 "read_book" ["text"] (spRdK K T cU 4)) (C5 : ClXN P w K mg base 6 "read_saying" ["text"] (spRdK K T cU 5))
    (K0 : ClKXN P w K mg base 4 "read_number" ["text"] ["text"] gR1 gR1 (spRdK K T cU 0)) (K1 : ClKXN P w K mg base 5 "read_point" ["text"] ["text"] gR1 gR1 (spRdK K T cU 1)) (K2 : ClKXN P w K mg base 5 "read_row" ["text"] ["text"] gR1 gR1 (spRdK K T cU 2)) (K3 : ClKXN P w K mg base 4 "read_wish" ["text"] ["text"] gR1 gR1 (spRdK K T cU 3)) (K4 : ClKXN P w K mg base 38 "read_book" ["text"] ["text"] gR1 gR1 (spRdK K T cU 4)) (K5 : ClKXN P w K mg base 6 "read_saying" ["text"] ["text"] gR1 gR1 (spRdK K T cU 5)) :
    ClXN P w K mg base 39 "_law_read" ["door", "text", "named"] (spLRdB K T cU) := by
  refine D.clXN (fun _ _ _ _ _ _ us hl => match us, hl with | [_, _, _], _ => rfl) fun f fd F => okXN F sc_lrdb (fun vs H Q E h => ?_) (fun cdv A outer s H vs Q E hr h => ?_)
  · obtain ⟨k, z, nm, rfl, _⟩ := h
    rfl
  obtain ⟨k, z, nm, rfl, k5, tb, lz, c⟩ := h
  refine ⟨_, (pss_cons (ps_if (pt_cmpR op_eq (pv 0) pe_int (nomark _)) (pss_one (ps_ret (pe_ifExp (pt_val (pv 2)) (pe_clKXN K0 (L2N.takes_of rfl rfl rfl rfl) (hr.mono (by decide)) (pk_cons (pv 1) pk_nil)) (pe_clXN C0 (L2N.takes_of rfl rfl rfl rfl) (hr.mono (by decide)) (pa_cons (pv 1) pa_nil))))) pss_nil)
    (pss_cons (ps_if (pt_cmpR op_eq (pv 0) pe_int (nomark _)) (pss_one (ps_ret (pe_ifExp (pt_val (pv 2)) (pe_clKXN K1 (L2N.takes_of rfl rfl rfl rfl) (hr.mono (by decide)) (pk_cons (pv 1) pk_nil)) (pe_clXN C1 (L2N.takes_of rfl rfl rfl rfl) (hr.mono (by decide)) (pa_cons (pv 1) pa_nil))))) pss_nil)
    (pss_cons (ps_if (pt_cmpR op_eq (pv 0) pe_int (nomark _)) (pss_one (ps_ret (pe_ifExp (pt_val (pv 2)) (pe_clKXN K2 (L2N.takes_of rfl rfl rfl rfl) (hr.mono (by decide)) (pk_cons (pv 1) pk_nil)) (pe_clXN C2 (L2N.takes_of rfl rfl rfl rfl) (hr.mono (by decide)) (pa_cons (pv 1) pa_nil))))) pss_nil)
    (pss_cons (ps_if (pt_cmpR op_eq (pv 0) pe_int (nomark _)) (pss_one (ps_ret (pe_ifExp (pt_val (pv 2)) (pe_clKXN K3 (L2N.takes_of rfl rfl rfl rfl) (hr.mono (by decide)) (pk_cons (pv 1) pk_nil)) (pe_clXN C3 (L2N.takes_of rfl rfl rfl rfl) (hr.mono (by decide)) (pa_cons (pv 1) pa_nil))))) pss_nil)
    (pss_cons (ps_if (pt_cmpR op_eq (pv 0) pe_int (nomark _)) (pss_one (ps_ret (pe_ifExp (pt_val (pv 2)) (pe_clKXN K4 (L2N.takes_of rfl rfl rfl rfl) (hr.mono (by decide)) (pk_cons (pv 1) pk_nil)) (pe_clXN C4 (L2N.takes_of rfl rfl rfl rfl) (hr.mono (by decide)) (pa_cons (pv 1) pa_nil))))) pss_nil)
    (pss_one (ps_ret (pe_ifExp (pt_val (pv 2)) (pe_clKXN K5 (L2N.takes_of rfl rfl rfl rfl) (hr.mono (by decide)) (pk_cons (pv 1) pk_nil)) (pe_clXN C5 (L2N.takes_of rfl rfl rfl rfl) (hr.mono (by decide)) (pa_cons (pv 1) pa_nil)))))))))), ?_⟩
  have sp : ∀ j, k = j → spRdK K T cU j [.str z] H Q E := fun j e => ⟨z, rfl, tb, lz, e ▸ c⟩
  have ss : ∀ j, k = j → (if nm = true then (∃ x, some (some (V.str z)) = some (some x) ∧ spRdK K T cU j [x] H Q E) else ∃ x, some (some (V.str z)) = some (some x) ∧ spRdK K T cU j [x] H Q E) := fun j e => by
    cases nm with
    | true => exact iteT ⟨_, rfl, sp j e⟩
    | false => exact iteF ⟨_, rfl, sp j e⟩
  have nx : ∀ j : Nat, k ≠ j → ¬ V.int ((k : Nat) : Int) = V.int ((j : Nat) : Int) := fun j h => neI2 (by omega)
  by_cases c0 : k = 0
  · refine ⟨_, rfl, rfl, _, rfl, iteP (by rw [c0]; rfl) ⟨_, rfl, _, rfl, ss 0 c0⟩⟩
  refine ⟨_, rfl, rfl, _, rfl, iteN (nx 0 c0) ?_⟩
  by_cases c1 : k = 1
  · refine ⟨_, rfl, rfl, _, rfl, iteP (by rw [c1]; rfl) ⟨_, rfl, _, rfl, ss 1 c1⟩⟩
  refine ⟨_, rfl, rfl, _, rfl, iteN (nx 1 c1) ?_⟩
  by_cases c2 : k = 2
  · refine ⟨_, rfl, rfl, _, rfl, iteP (by rw [c2]; rfl) ⟨_, rfl, _, rfl, ss 2 c2⟩⟩
  refine ⟨_, rfl, rfl, _, rfl, iteN (nx 2 c2) ?_⟩
  by_cases c3 : k = 3
  · refine ⟨_, rfl, rfl, _, rfl, iteP (by rw [c3]; rfl) ⟨_, rfl, _, rfl, ss 3 c3⟩⟩
  refine ⟨_, rfl, rfl, _, rfl, iteN (nx 3 c3) ?_⟩
  by_cases c4 : k = 4
  · refine ⟨_, rfl, rfl, _, rfl, iteP (by rw [c4]; rfl) ⟨_, rfl, _, rfl, ss 4 c4⟩⟩
  refine ⟨_, rfl, rfl, _, rfl, iteN (nx 4 c4) ?_⟩
  exact ⟨_, rfl, _, rfl, ss 5 (by omega)⟩
/-! ### how they come out -/
structure ErrB (K : PySem.W.Frag) (mg : Str → Option Value) (fI cU : Addr) : Prop where
  r : ErU K mg fI cU
  m : PySem.W.exmOne K (.ref cU) (.ref cU) = some true
/-- how a door comes out: told -/
def ToldC (K : PySem.W.Frag) (k : Nat) (z : Str) (H : Hp) (Q : VK) : Prop := (k = 4 ∧ (Txt.split z "\n").length ≤ 61 ∧ (∀ n, bkOut z = .no n → ∀ p H', Gr H H' → SqT K H' p [.str "refused", .int n] → Q (.ref p) H') ∧ (∀ d qs, bkOut z = .yes d qs → ∀ p b H', Gr H H' → SqT K H' p [.str "told", b] → BkI K H' b d qs → Q (.ref p) H')) ∨ (k ≠ 4 ∧ NoRd z ∧ ∀ p H', Gr H H' → SqT K H' p [.str "refused", .int 1] → Q (.ref p) H')
def spLTold (K : PySem.W.Frag) (T : Nat → Addr) : Sp := fun vs H Q _ => ∃ (k : Nat) (z : Str) (nm : Bool), vs = [.int (k : Int), .str z, .bl nm] ∧ k ≤ 5 ∧ Tb5 T H ∧ z.length ≤ 800000 ∧ ToldC K k z H Q
theorem sc_ltold : FnScope ["door", "text", "named", "word", "found", "error"] ["door", "text", "named"] (defScope s__law_told) := ⟨rfl, rfl, rfl, by decide +kernel, rfl, by decide +kernel, by decide +kernel⟩
end
end SB
set_option pp.maxSteps 300
namespace SB
open PySem PySem.NumText L2 GxR GA RZ RP TL
/-! ### a book's text at the other doors, other texts at that of books -/
theorem intW_b {z : Str} {r : List Nat} (h : tl z = 98 :: r) : intW z = none := by
  unfold intW
  have : okI (tl z) = false := by
    rw [Bool.eq_false_iff]
    intro o
    have o := okI_of o
    have e : dsOf (tl z) = 98 :: r := by
      unfold dsOf
      rw [h, pre1]
      rfl
    have := o.dg 98 (by rw [e]; exact List.mem_cons_self)
    omega
  rw [this]
  rfl
theorem part_no {z y : Str} {s : Nat} (hy : tl y = [s]) (h : s ∉ tl z) : (Txt.partition z y).1 = z := by
  have m : ∀ l acc : List Nat, s ∉ l → par [s] acc l = none := by
    intro l
    induction l with
    | nil => intro acc _; rfl
    | cons c r ih =>
      intro acc hn
      rw [par_miss (by rw [pre1]; exact decide_eq_false (fun e => hn (by rw [e]; exact List.mem_cons_self)))]
      exact ih _ (fun hm => hn (List.mem_cons_of_mem _ hm))
  rw [partition_par z y (by rw [hy]; exact List.cons_ne_nil _ _), hy, m _ _ h]
theorem numW_b {z : Str} {r : List Nat} (h : tl z = 98 :: r) (n : 47 ∉ tl z) : numW z = none := by
  unfold numW numP3
  rw [part_no tl_slash n, intW_b h]
theorem tl_bookd (d : Int) : tl (("book " : Str) ++ iT d) = 98 :: ([111, 111, 107, 32] ++ tl (iT d)) := by
  rw [tl_append, tl_bookB]
  rfl
theorem book_nord {d : Int} {qs : List (List Int × Int)} : NoRd (bookT d qs) := fun l0 rest es => by
  have e : Txt.split (bookT d qs) "\n" = (("book " : Str) ++ iT d) :: qs.map quT := split_join tl_nl (by decide +kernel) (List.cons_ne_nil _ _) bookT_free
  rw [e] at es
  have e0 := (List.cons.inj es).1
  subst e0
  have h := tl_bookd d
  have n47 : 47 ∉ tl (("book " : Str) ++ iT d) := by
    rw [tl_append]
    intro m
    rcases List.mem_append.mp m with m | m
    · rw [tl_bookB] at m
      revert m
      decide
    · exact iT_free (by omega) d m
  have hw : wishW (("book " : Str) ++ iT d) = none := by
    unfold wishW
    rw [if_neg (fun e => by
      have := congrArg tl e
      rw [h, show tl ("." : Str) = [46] from by decide +kernel] at this
      exact absurd (List.cons.inj this).1 (by decide)), if_neg (by rw [h]; exact List.cons_ne_nil _ _)]
    refine optAll_none.mpr (List.mem_map.mpr ⟨98, by rw [h]; exact List.mem_cons_self, rfl⟩)
  refine ⟨numW_b h n47, ?_, ?_, hw, 98, _, h, by decide⟩
  · unfold ptW
    rw [head_split]
    refine optAll_none.mpr (List.mem_map.mpr ⟨"book", List.mem_cons_self, ?_⟩)
    exact numW_b (r := [111, 111, 107]) tl_book (by rw [tl_book]; decide)
  · unfold rowW
    rw [hw]
/-- a text whose first line is no head of a book -/
theorem bkOut_no {z l0 : Str} {rest : List Str} (e : Txt.split z "\n" = l0 :: rest) (h : bkHead l0 = none) : bkOut z = .no 1 := by
  unfold bkOut
  rw [e, bkOutL_c, h]
theorem headL_no {l0 : Str} (h : (tl l0).take 5 ≠ [98, 111, 111, 107, 32]) : bkHead l0 = none := by
  rw [bkHead_is]
  unfold headL
  rw [if_neg fun e => h (by rw [← tl_bookB, ← e]; exact (cutsT l0 5).symm)]
/-- the first line of a text -/
theorem split_first {z : Str} : ∃ l0 rest, Txt.split z "\n" = l0 :: rest ∧ ∃ t, (tl z = tl l0 ∨ tl z = tl l0 ++ 10 :: t) := by
  have e := split_spl z "\n" tln (kind_ok (by decide +kernel))
  have sn := split_ne z "\n" tln (by decide +kernel)
  rw [tl_nl] at e
  obtain ⟨l0, rest, es⟩ := List.exists_cons_of_ne_nil sn
  refine ⟨l0, rest, es, ?_⟩
  have j := sp1_join 10 (tl z) []
  rw [← e, es, List.nil_append, List.map_cons, joinL_cons] at j
  cases rest with
  | nil => exact ⟨[], .inl (by rw [← j]; simp)⟩
  | cons p r => exact ⟨tl p ++ (r.map tl).flatMap (fun q => [10] ++ q), .inr (by rw [← j]; simp)⟩
/-- a text that does not begin as a book, at the door of books -/
theorem other_no {z : Str} (h : (tl z).take 5 ≠ [98, 111, 111, 107, 32]) : bkOut z = .no 1 := by
  obtain ⟨l0, rest, es, t, ht⟩ := split_first (z := z)
  refine bkOut_no es (headL_no fun h5 => h ?_)
  have l5 : 5 ≤ (tl l0).length := by
    have := congrArg List.length h5
    rw [List.length_take] at this
    have e : ([98, 111, 111, 107, 32] : List Nat).length = 5 := rfl
    omega
  rcases ht with ht | ht
  · rw [ht]; exact h5
  · rw [ht, List.take_append_of_le_length l5]; exact h5
end SB
set_option pp.maxSteps 300
namespace SB
open PySem PySem.NumText L2 GxR GA RZ RP TL
/-! ### the others -/
def OthV (v : V) : Prop := ∃ o : Str, v = .str o ∧ bkOut o = .no 1 ∧ o.length ≤ 4000 ∧ (Txt.split o "\n").length ≤ 61
def othB : V → Bool
  | .str o => decide ((tl o).take 5 ≠ [98, 111, 111, 107, 32]) && (decide (o.length ≤ 100) && decide (nls o ≤ 50))
  | _ => false
theorem oth_of {l : List V} (h : l.all othB = true) : ∀ v, v ∈ l → OthV v := fun v hv => by
  have := List.all_eq_true.mp h v hv
  cases v with
  | str o =>
    unfold othB at this
    simp only [Bool.and_eq_true, decide_eq_true_eq] at this
    exact ⟨o, rfl, other_no this.1, by omega, by rw [lines_len]; omega⟩
  | _ => cases this
theorem oth_cons {a : V} {b : List V} (h : OthV a) (k : ∀ v, v ∈ b → OthV v) : ∀ v, v ∈ a :: b → OthV v := fun v hv => (List.mem_cons.mp hv).elim (fun e => e ▸ h) (k v)
theorem oth_app {a b : List V} (h : ∀ v, v ∈ a → OthV v) (k : ∀ v, v ∈ b → OthV v) : ∀ v, v ∈ a ++ b → OthV v := fun v hv => (List.mem_append.mp hv).elim (h v) (k v)
theorem oth_bookB : OthV (.str "book ") := by
  refine ⟨_, rfl, bkOut_no (split_one (by rw [tl_bookB]; decide)) ?_, by decide +kernel, ?_⟩
  · rw [bkHead_is]
    unfold headL
    have t1 : tl (cutS ("book " : Str) none (some (5 : Int))) = tl ("book " : Str) := by
      rw [show tl (cutS ("book " : Str) none (some (5 : Int))) = (tl ("book " : Str)).take 5 from cutsT _ 5, tl_bookB]
      rfl
    have t2 : tl (cutS ("book " : Str) (some (5 : Int)) none) = [] := by
      rw [show tl (cutS ("book " : Str) (some (5 : Int)) none) = (tl ("book " : Str)).drop 5 from cutsF _ 5, tl_bookB]
      rfl
    rw [if_pos (ext_tl t1)]
    unfold intW
    rw [t2]
    rfl
  · rw [split_one (by rw [tl_bookB]; decide)]
    decide
theorem oth_nl {z : Str} (l : z.length ≤ 3000) (n : nls z ≤ 50) : OthV (.str (("\n" : Str) ++ z)) := by
  refine ⟨_, rfl, other_no ?_, ?_, ?_⟩
  · rw [tl_append, tl_nl]
    intro h
    exact absurd (List.cons.inj h).1 (by decide)
  · rw [len_app]
    have : ("\n" : Str).length = 1 := rfl
    omega
  · rw [lines_len, nls_app, nls_nl]
    omega
section
variable {P : Program} {w : World} {K : PySem.W.Frag} {mg : Str → Option Value} {base : Heap} {T : Nat → Addr}
theorem al_ref {H : Hp} {p q : Addr} {n : Int} {k : Nat} (hp : SqT K H p [.str "refused", .int n]) (hq : SqT K H q [.str "refused", .int n]) : Alike K H (k + 2) (.ref p) (.ref q) :=
  .inr ⟨p, q, _, _, rfl, rfl, szN (by show 2 ≤ 1000000; decide), .inl ⟨hp, hq⟩, .cons (.inl ⟨rfl, rfl⟩) (.cons (.inl ⟨rfl, rfl⟩) .nil)⟩
def spOthers (T : Nat → Addr) : Sp := fun vs H Q _ => ∃ (dk : Addr) (k : Nat) (z : Str), vs = [.ref dk, .str z] ∧ Stk dk k H ∧ k ≤ 800000 ∧ Tb5 T H ∧ NoRd z ∧ z.length ≤ 3000 ∧ nls z ≤ 50 ∧ ∀ H', GrD dk H H' → Stk dk (k + 4) H' → Q (.bl true) H'
theorem sc_or : FnScope ["well", "text", "some", "other", "named"] ["well", "text"] (defScope s__law_others_right) := ⟨rfl, rfl, rfl, by decide +kernel, rfl, by decide +kernel, by decide +kernel⟩
theorem cl_others (D : Df K mg "_law_others_right" s__law_others_right) (B : Blt mg) (CD : Cl P w K mg base 1 "_law_draw" ["well", "many"] spPick) (CT : Cl P w K mg base 40 "_law_told" ["door", "text", "named"] (spLTold K T)) (CS : Cl P w K mg base 15 "_law_same" ["told", "due"] (spSame K 15)) : Cl P w K mg base 41 "_law_others_right" ["well", "text"] (spOthers T) := by
  refine D.cl (fun _ _ _ _ _ _ us hl => match us, hl with | [_, _], _ => rfl) fun f fd F => F.ok sc_or (fun vs H Q E h => ?_) (fun cdv A outer s H vs Q E hr h => ?_)
  · obtain ⟨dk, k, z, rfl, _⟩ := h
    rfl
  obtain ⟨dk, k, z, rfl, sk, k9, tb, nr, lz, nz, q⟩ := h
  refine ⟨_, (pss_cons (ps_set (i := 2) sc_or.nd rfl (.inl rfl) (pe_lst (pa_cons pe_str (pa_cons pe_str (pa_cons pe_str (pa_cons (pe_op op_add_str pe_str (pv 1)) (pa_cons pe_str (pa_cons pe_str (pa_cons pe_str (pa_cons pe_str (pa_cons pe_str (pa_cons pe_str (pa_cons pe_str (pa_cons pe_str (pa_cons pe_str pa_nil)))))))))))))))
    (pss_cons (ps_par (i := 3) (j := 4) rfl sc_or.nd rfl rfl (by decide) rfl rfl (pa_cons (pe_ix ix_list (pv 2) (pe_cl CD (hr.mono (by decide)) (pa_cons (pv 0) (pa_cons pe_int pa_nil))) (fun _ _ => rfl)) (pa_cons (pe_cmpR op_eq (pe_cl CD (hr.mono (by decide)) (pa_cons (pv 0) (pa_cons pe_int pa_nil))) pe_int (nomark _)) pa_nil)) rfl)
    (pss_cons (ps_if (pt_not (pt_val (pe_cl CS (hr.mono (by decide)) (pa_cons (pe_cl CT (hr.mono (by decide)) (pa_cons (pe_ix ix_list (pe_lst (pa_cons pe_int (pa_cons pe_int (pa_cons pe_int (pa_cons pe_int (pa_cons pe_int pa_nil)))))) (pe_cl CD (hr.mono (by decide)) (pa_cons (pv 0) (pa_cons pe_int pa_nil))) (fun _ _ => rfl)) (pa_cons (pv 1) (pa_cons (pv 4) pa_nil)))) (pa_cons (pe_tup (pa_cons pe_str (pa_cons pe_int pa_nil))) pa_nil))))) (pss_one (ps_ret pe_bl)) pss_nil)
    (pss_one (ps_ret (pe_cl CS (hr.mono (by decide)) (pa_cons (pe_cl CT (hr.mono (by decide)) (pa_cons pe_int (pa_cons (pv 3) (pa_cons (pv 4) pa_nil)))) (pa_cons (pe_tup (pa_cons pe_str (pa_cons pe_int pa_nil))) pa_nil)))))))), ?_⟩
  refine seq_join (fun σ' H' => ∃ (L : Addr) (l : List V), σ' = [some (.ref dk), some (.str z), some (.ref L), none, none] ∧ Gr H H' ∧ L ≠ dk ∧ H' L = some (.lst l) ∧ l.length = 13 ∧ ∀ v, v ∈ l → OthV v) (fun σ' H1 h => ?_) (fun Kn hK => ?_)
  rotate_left
  · refine ⟨_, rfl, _, _, rfl, rfl, sz15 (by have : ("\n" : Str).length = 1 := rfl; omega), szN (by show 13 ≤ 1000000; decide), fun L nL => ?_⟩
    refine hK _ _ ⟨L, _, rfl, (Gr.refl H).new nL _, sk.ne nL, upd_same, rfl, ?_⟩
    refine oth_app (a := [_, _, _]) (oth_of (by decide +kernel)) (oth_cons (oth_nl lz nz) (oth_app (a := [_, _, _, _, _, _, _, _]) (oth_of (by decide +kernel)) (oth_cons oth_bookB (fun _ h => by cases h))))
  obtain ⟨L, l, rfl, g1, nLd, hL, l13, hl⟩ := h
  have s1 := sk.gr g1
  have tb1 := tb.gr g1
  refine seq_join (fun σ' H' => ∃ (o : Str) (nm : Bool), σ' = [some (.ref dk), some (.str z), some (.ref L), some (.str o), some (.bl nm)] ∧ GrD dk H1 H' ∧ Stk dk (k + 2) H' ∧ Tb5 T H' ∧ OthV (.str o)) (fun σ' H2 h => ?_) (fun Kn hK => ?_)
  rotate_left
  · refine ⟨_, rfl, _, rfl, dk, 13, k, rfl, s1, by omega, by decide, by decide, fun t H2 t0 t1 g2 s2 => ?_⟩
    obtain ⟨v, ev, hv⟩ := atI_ex (l := l) t0 (show t < ((l.length : Nat) : Int) from by rw [l13]; exact t1)
    obtain ⟨o, rfl, ho⟩ := hl v hv
    obtain ⟨_, _, _, hd, _⟩ := id s1
    refine ⟨L, l, t, _, rfl, rfl, SqL.of (GrDL.lst g2 nLd hL), ev, _, rfl, dk, 2, k + 1, rfl, s2, by omega, by decide, by decide, fun u H3 _ _ g3 s3 => ⟨rfl, _, _, rfl, ?_⟩⟩
    obtain ⟨_, _, _, hd2, _⟩ := id s2
    exact hK _ _ ⟨o, _, rfl, g2.trans g3, s3, (tb1.lgr hd g2).lgr hd2 g3, o, rfl, ho⟩
  obtain ⟨o, nm, rfl, g2, s2, tb2, ho⟩ := h
  refine ⟨szN (by show 5 ≤ 1000000; decide), fun M nM => ?_⟩
  have rM := (Gr.refl H2).new nM (.lst [.int 0, .int 1, .int 2, .int 3, .int 5])
  have hM : (upd H2 M (.lst [V.int 0, .int 1, .int 2, .int 3, .int 5])) M = some (.lst [.int 0, .int 1, .int 2, .int 3, .int 5]) := upd_same
  have nMd := s2.ne nM
  have s3 := s2.gr rM
  have tb3 := tb2.gr rM
  generalize upd H2 M (.lst [V.int 0, .int 1, .int 2, .int 3, .int 5]) = H3 at rM hM s3 tb3 ⊢
  refine ⟨_, rfl, dk, 5, k + 2, rfl, s3, by omega, by decide, by decide, fun t H4 t0 t1 g4 s4 => ?_⟩
  obtain ⟨_, _, _, hd3, _⟩ := id s3
  have tb4 := tb3.lgr hd3 g4
  have g14 := (g1.d dk).trans ((g2.trans (rM.d dk)).trans g4)
  obtain ⟨dn, ad, d5, d4⟩ : ∃ m : Nat, atI ([.int 0, .int 1, .int 2, .int 3, .int 5] : List V) t = some (.int ((m : Nat) : Int)) ∧ m ≤ 5 ∧ m ≠ 4 := by
    have : t = 0 ∨ t = 1 ∨ t = 2 ∨ t = 3 ∨ t = 4 := by omega
    rcases this with rfl | rfl | rfl | rfl | rfl
    · exact ⟨0, rfl, by decide, by decide⟩
    · exact ⟨1, rfl, by decide, by decide⟩
    · exact ⟨2, rfl, by decide, by decide⟩
    · exact ⟨3, rfl, by decide, by decide⟩
    · exact ⟨5, rfl, by decide, by decide⟩
  refine ⟨M, _, t, _, rfl, rfl, SqL.of (GrDL.lst g4 nMd hM), ad, _, rfl, _, rfl, dn, z, nm, rfl, d5, tb4, by omega, .inr ⟨d4, nr, fun p H5 g5 hp => ?_⟩⟩
  refine ⟨szN (by show 2 ≤ 1000000; decide), fun p2 np2 => ?_⟩
  have r5 := (Gr.refl H5).new np2 (.tup [.str "refused", .int 1])
  refine ⟨_, _, rfl, al_ref (k := 13) (r5.seqT hp) (SqT.of upd_same), fun H6 g6 => ⟨_, rfl, iteF ?_⟩⟩
  have g46 := (g5.trans r5).trans g6
  obtain ⟨o', e', ho1, ho2, ho3⟩ := ho
  cases e'
  refine ⟨_, rfl, _, rfl, 4, o, nm, rfl, by decide, tb4.gr g46, by omega, .inl ⟨rfl, ho3, fun n e p H7 g7 hp7 => ?_, fun d qs e => by rw [ho1] at e; cases e⟩⟩
  rw [ho1] at e
  cases e
  refine ⟨szN (by show 2 ≤ 1000000; decide), fun p3 np3 => ?_⟩
  have r7 := (Gr.refl H7).new np3 (.tup [.str "refused", .int 1])
  refine ⟨_, _, rfl, al_ref (k := 13) (r7.seqT hp7) (SqT.of upd_same), fun H8 g8 => ?_⟩
  have gz := (g46.trans g7).trans (r7.trans g8)
  exact q H8 (g14.trans (gz.d dk)) ((s4.gr gz).more (by omega))
end
end SB
set_option pp.maxSteps 300
namespace SB
open PySem PySem.NumText L2 GxR GA RZ RP TL
/-! ### what the law keeps of a text: what is due -/
def DueV (K : PySem.W.Frag) (H : Hp) (b : V) (z : Str) : Prop := (∃ n p, bkOut z = .no n ∧ b = .ref p ∧ SqT K H p [.str "refused", .int n]) ∨ (∃ d qs p c, bkOut z = .yes d qs ∧ b = .ref p ∧ SqT K H p [.str "told", c] ∧ BkI K H c d qs)
theorem BkI.st {K : PySem.W.Frag} {H H' : Hp} {x : V} {d : Int} {qs : List (List Int × Int)} (h : BkI K H x d qs) (t : Tst K H H') : BkI K H' x d qs := let ⟨a, b, xs, e, h1, h2, h3⟩ := h; ⟨a, b, xs, e, t _ _ h1, t _ _ h2, Paired.mapP h3 fun _ _ z => QuV.st z t⟩
theorem DueV.st {K : PySem.W.Frag} {H H' : Hp} {b : V} {z : Str} (h : DueV K H b z) (t : Tst K H H') : DueV K H' b z := by
  rcases h with ⟨n, p, e, f, s⟩ | ⟨d, qs, p, c, e, f, s, k⟩
  · exact .inl ⟨n, p, e, f, t _ _ s⟩
  · exact .inr ⟨d, qs, p, c, e, f, t _ _ s, k.st t⟩
/-- a text that the law goes on with -/
structure TxL (z : Str) : Prop where
  l : z.length ≤ 500000
  n : nls z ≤ 50
  c : cpo z
  d : ∀ d qs, bkOut z = .yes d qs → d ≤ 12
theorem yes_ok {z : Str} {d : Int} {qs : List (List Int × Int)} (e : bkOut z = .yes d qs) : bkD d qs = true ∧ qs.length + 1 = (Txt.split z "\n").length := by
  unfold bkOut at e
  cases es : Txt.split z "\n" with
  | nil => rw [es] at e; cases e
  | cons l0 rest =>
    rw [es, bkOutL_c] at e
    cases h1 : bkHead l0 with
    | none => rw [h1] at e; cases e
    | some d1 =>
      rw [h1] at e
      cases h2 : optAll (rest.map questW) with
      | none => rw [h2] at e; cases e
      | some q1 =>
        rw [h2] at e
        have e : (if bkD d1 q1 then BkO.yes d1 q1 else .no 0) = .yes d qs := e
        cases h3 : bkD d1 q1 with
        | false => rw [h3] at e; cases e
        | true =>
          rw [h3, if_pos rfl] at e
          cases e
          have l := congrArg List.length (optAll_some h2)
          rw [List.length_map, List.length_map] at l
          exact ⟨h3, by rw [List.length_cons, l]⟩
theorem al_intB {K : PySem.W.Frag} {H : Hp} (n : Nat) (i : Int) : Alike K H (n + 1) (.int i) (.int i) := .inl ⟨rfl, rfl⟩
theorem al_intsB {K : PySem.W.Frag} {H : Hp} (n : Nat) : ∀ ns : List Int, Paired (Alike K H (n + 1)) (ns.map V.int) (ns.map V.int)
  | [] => .nil
  | i :: r => .cons (al_intB n i) (al_intsB n r)
theorem al_siB {K : PySem.W.Frag} {H : Hp} (n : Nat) {x y : V} {ns : List Int} (hx : SiV K H x ns) (hy : SiV K H y ns) (hl : ns.length ≤ 1000) : Alike K H (n + 2) x y := by
  obtain ⟨a, rfl, ha⟩ := hx
  obtain ⟨b, rfl, hb⟩ := hy
  exact .inr ⟨a, b, _, _, rfl, rfl, szN (by rw [List.length_map]; omega), .inl ⟨ha, hb⟩, al_intsB n ns⟩
theorem al_quB {K : PySem.W.Frag} {H : Hp} (n : Nat) {x y : V} {q : List Int × Int} (hx : QuV K H x q) (hy : QuV K H y q) (hl : q.1.length ≤ 1000) : Alike K H (n + 3) x y := by
  obtain ⟨a, s, rfl, ha, hs⟩ := hx
  obtain ⟨b, t, rfl, hb, ht⟩ := hy
  exact .inr ⟨a, b, _, _, rfl, rfl, szN (by show 2 ≤ 1000000; decide), .inl ⟨ha, hb⟩, .cons (al_siB n hs ht hl) (.cons (al_intB (n + 1) _) .nil)⟩
theorem al_qusB {K : PySem.W.Frag} {H : Hp} (n : Nat) : ∀ {xs ys : List V} {qs : List (List Int × Int)}, (∀ q, q ∈ qs → q.1.length ≤ 1000) → Paired (QuV K H) xs qs → Paired (QuV K H) ys qs → Paired (Alike K H (n + 3)) xs ys
  | _, _, _, _, .nil, .nil => .nil
  | _, _, _, hl, .cons h1 t1, .cons h2 t2 => .cons (al_quB n h1 h2 (hl _ List.mem_cons_self)) (al_qusB n (fun q h => hl q (List.mem_cons_of_mem _ h)) t1 t2)
theorem al_bkI {K : PySem.W.Frag} {H : Hp} (n : Nat) {x y : V} {d : Int} {qs : List (List Int × Int)} (hx : BkI K H x d qs) (hy : BkI K H y d qs) (h8 : qs.length ≤ 1000) (hl : ∀ q, q ∈ qs → q.1.length ≤ 1000) : Alike K H (n + 5) x y := by
  obtain ⟨a, b, xs, rfl, ha, hb, hp⟩ := hx
  obtain ⟨a', b', ys, rfl, ha', hb', hq⟩ := hy
  have ly := paired_len hq
  exact .inr ⟨a, a', _, _, rfl, rfl, szN (by show 2 ≤ 1000000; decide), .inl ⟨ha, ha'⟩, .cons (al_intB (n + 3) _) (.cons (.inr ⟨b, b', _, _, rfl, rfl, szN (by omega), .inl ⟨hb, hb'⟩, al_qusB n hl hp hq⟩) .nil)⟩
theorem due_alike {K : PySem.W.Frag} {H : Hp} {x y : V} {z : Str} (t : TxL z) (hx : DueV K H x z) (hy : DueV K H y z) : Alike K H 15 x y := by
  rcases hx with ⟨n, p, e, rfl, s⟩ | ⟨d, qs, p, c, e, rfl, s, k⟩
  · rcases hy with ⟨n2, p2, e2, rfl, s2⟩ | ⟨d2, qs2, p2, c2, e2, _⟩
    · rw [e] at e2
      cases e2
      exact al_ref (k := 13) s s2
    · rw [e] at e2; cases e2
  · rcases hy with ⟨n2, p2, e2, _⟩ | ⟨d2, qs2, p2, c2, e2, rfl, s2, k2⟩
    · rw [e] at e2; cases e2
    · rw [e] at e2
      cases e2
      obtain ⟨b1, b2⟩ := yes_ok e
      have b3 := (bkD_iff d qs).mp b1
      have d12 := t.d d qs e
      have ln := lines_len z
      have tn := t.n
      refine .inr ⟨p, p2, _, _, rfl, rfl, szN (by show 2 ≤ 1000000; decide), .inl ⟨s, s2⟩, .cons (.inl ⟨rfl, rfl⟩) (.cons (al_bkI 9 k k2 (by omega) fun q hq => ?_) .nil)⟩
      have := b3.2.1 q hq
      omega
theorem tx_12 : TxL "book 12" := by
  have es : Txt.split ("book 12" : Str) "\n" = [("book 12" : Str)] := split_one (by decide +kernel)
  refine ⟨by decide +kernel, by decide +kernel, cpo_of (by decide +kernel), fun d qs e => ?_⟩
  have hd : bkHead ("book 12" : Str) = some 12 := by decide +kernel
  unfold bkOut at e
  rw [es, bkOutL_c, hd] at e
  have e : (if bkD 12 [] then BkO.yes 12 [] else .no 0) = .yes d qs := e
  split at e
  · cases e; decide
  · cases e
/-- a row of what was asked: a text, what is due -/
def RowB (K : PySem.W.Frag) (H : Hp) (v : V) : Prop := ∃ Tp z b, v = .ref Tp ∧ SqT K H Tp [.str z, b] ∧ TxL z ∧ DueV K H b z
theorem RowB.st {K : PySem.W.Frag} {H H' : Hp} {v : V} (t : Tst K H H') (h : RowB K H v) : RowB K H' v :=
  let ⟨Tp, z, b, e, a, x, c⟩ := h; ⟨Tp, z, b, e, t _ _ a, x, c.st t⟩
structure InB (K : PySem.W.Frag) (T : Nat → Addr) (l : Addr) (xs : List V) (Rl : Addr) (N : Addr → Prop) (n : Nat) (H : Hp) : Prop where
  rl : ∃ rs, H Rl = some (.lst rs) ∧ rs.length = n ∧ ∀ v, v ∈ rs → RowB K H v
  ls : LsV K N H l xs
  tb : Tb5 T H
section
variable {K : PySem.W.Frag} {T : Nat → Addr} {l Rl : Addr} {xs : List V} {N : Addr → Prop} {n : Nat} {H H' : Hp}
theorem InB.gr (s : InB K T l xs Rl N n H) (g : Gr H H') : InB K T l xs Rl N n H' := by
  obtain ⟨rs, a, b, c⟩ := s.rl
  exact ⟨⟨rs, g.lstK a, b, fun v h => RowB.st g.st (c v h)⟩, s.ls.gr g, s.tb.gr g⟩
theorem InB.grd {dk : Addr} {m : Nat} (s : InB K T l xs Rl N n H) (g : GrD dk H H') (sk : Stk dk m H) (nd : ∀ b, N b → b ≠ dk) (nr : Rl ≠ dk) : InB K T l xs Rl N n H' := by
  obtain ⟨rs, a, b, c⟩ := s.rl
  obtain ⟨_, _, _, hd, _⟩ := id sk
  exact ⟨⟨rs, GrDL.lst g nr a, b, fun v h => RowB.st (g.sk sk) (c v h)⟩, s.ls.grd g nd, s.tb.lgr hd g⟩
theorem InB.avoid {p : Addr} (s : InB K T l xs Rl N n H) (np : H p = none) : InB K T l xs Rl (fun b => N b ∧ b ≠ p) n H := ⟨s.rl, s.ls.avoid np, s.tb⟩
theorem InB.less {M : Addr → Prop} (s : InB K T l xs Rl N n H) (k : ∀ b, N b → M b) : InB K T l xs Rl M n H := ⟨s.rl, s.ls.less k, s.tb⟩
theorem InB.put {v : V} (s : InB K T l xs Rl N n H) (k : ∀ b, N b → b ≠ Rl) (r : RowB K H v) : ∃ acc, H Rl = some (.lst acc) ∧ acc.length = n ∧ InB K T l xs Rl N (n + 1) (upd H Rl (.lst (acc ++ [v]))) := by
  obtain ⟨rs, a, b, c⟩ := s.rl
  have g : GrD Rl H (upd H Rl (.lst (rs ++ [v]))) := (GrD.refl Rl H).set _
  have t : Tst K H (upd H Rl (.lst (rs ++ [v]))) := Tst.put a
  refine ⟨rs, a, b, ⟨rs ++ [v], upd_same, by rw [List.length_append, b]; rfl, fun w hw => ?_⟩, s.ls.grd g k, s.tb.lgr a g⟩
  rcases List.mem_append.mp hw with h | h
  · exact RowB.st t (c w h)
  · rw [List.mem_singleton.mp h]
    exact RowB.st t r
end
end SB
set_option pp.maxSteps 300
namespace SB
open PySem PySem.NumText L2 GxR GA RZ RP TL
section
variable {P : Program} {w : World} {K : PySem.W.Frag} {mg : Str → Option Value} {base : Heap} {T : Nat → Addr}
theorem bookT_tx {d : Nat} {qs : List (List Int × Int)} (d9 : d ≤ 9) (l20 : qs.length ≤ 20) (h : ∀ q, q ∈ qs → q.1.length = d ∧ (∀ z, z ∈ q.1 → z.natAbs < 10 ^ 9) ∧ q.2.natAbs < 10 ^ 9) : TxOk 2400 20 (bookT (d : Int) qs) := by
  refine ⟨?_, ?_, fun c hc => ?_⟩
  · have := join_len (a := "\n") (ys := (("book " : Str) ++ iT (d : Int)) :: qs.map quT) (b := 112) fun y hy => by
      rcases List.mem_cons.mp hy with rfl | hy
      · rw [len_app]
        have := iT_len (by decide) (d_small (show d ≤ 12 by omega))
        have e : ("book " : Str).length = 5 := rfl
        omega
      · obtain ⟨z, hz', rfl⟩ := List.mem_map.mp hy
        obtain ⟨a, b, c⟩ := h z hz'
        have h1 := quT_len (k := 9) (by decide) b c
        have h2 : z.1.length * (9 + 1 + 1) ≤ 9 * 11 := Nat.mul_le_mul (by omega) (by omega)
        omega
    have e : ("\n" : Str).length = 1 := rfl
    have e2 : ((("book " : Str) ++ iT (d : Int)) :: qs.map quT).length = qs.length + 1 := by rw [List.length_cons, List.length_map]
    rw [e2, e] at this
    have m : (qs.length + 1) * (112 + 1) ≤ 21 * 113 := Nat.mul_le_mul (by omega) (by decide)
    show (Txt.join _ _).length ≤ _
    omega
  · have es : Txt.split (bookT (d : Int) qs) "\n" = (("book " : Str) ++ iT (d : Int)) :: qs.map quT := split_join tl_nl (by decide +kernel) (List.cons_ne_nil _ _) bookT_free
    have l := lines_len (bookT (d : Int) qs)
    rw [es, List.length_cons, List.length_map] at l
    omega
  · by_cases hh : c < 1114112
    · exact hh
    · have hh : 1114112 ≤ c := by omega
      have hc : c ∈ tl (Txt.join "\n" (("book " ++ iT (d : Int)) :: qs.map quT)) := hc
      rw [join_eq, tl_join] at hc
      rcases joinL_mem hc with hc | ⟨l, hl, hc⟩
      · rw [tl_nl] at hc
        rw [List.mem_singleton.mp hc] at hh
        omega
      · obtain ⟨p, hp, rfl⟩ := List.mem_map.mp hl
        rcases List.mem_cons.mp hp with rfl | hp
        · rw [tl_append] at hc
          rcases List.mem_append.mp hc with hc | hc
          · rw [tl_bookB] at hc
            simp only [List.mem_cons, List.not_mem_nil, or_false] at hc
            omega
          · exact absurd hc (iT_free (by omega) _)
        · obtain ⟨q, _, rfl⟩ := List.mem_map.mp hp
          exact absurd hc (quT_free (.inl (by omega)) q)
def spLaw (K : PySem.W.Frag) (T : Nat → Addr) : Sp := fun vs H Q _ => ∃ (a : Addr) (ns : List Int), vs = [.ref a] ∧ SqL K H a (ns.map V.int) ∧ ns.length ≤ 63 ∧ Tb5 T H ∧ ∀ H', Q (.bl true) H'
theorem sc_lawB : FnScope ["script", "rows", "place", "well", "turn", "d", "most", "book", "text", "due"] ["script"] (defScope s_law) := ⟨rfl, rfl, rfl, by decide +kernel, rfl, by decide +kernel, by decide +kernel⟩
theorem ok_law {f : Addr} {fd : FuncData} (F : Fun K "law" "law" s_law f fd) (B : Blt mg) (CW : Cl P w K mg base 1 "_law_well" ["script", "place"] (spWell K)) (CD : Cl P w K mg base 1 "_law_draw" ["well", "many"] spPick)
    (CS : Cl P w K mg base 15 "_law_same" ["told", "due"] (spSame K 15)) (CB : Cl P w K mg base 4 "_law_book" ["well", "d", "many", "most"] (spBookB K)) (CX : Cl P w K mg base 2 "_law_said_book" ["book"] (spShBook K)) (CBE : Cl P w K mg base 4 "_law_bent" ["well", "book", "text"] (spBent K)) (CDU : Cl P w K mg base 4 "_law_due" ["text"] (spDue K)) (CT : Cl P w K mg base 40 "_law_told" ["door", "text", "named"] (spLTold K T)) (CO : Cl P w K mg base 41 "_law_others_right" ["well", "text"] (spOthers T)) :
    FnOk P w K mg base CX0 42 f fd ["script"] (spLaw K T) := by
  refine F.ok sc_lawB (fun vs H Q E h => ?_) (fun cdv A outer s H vs Q E hr h => ?_)
  · obtain ⟨a, ns, rfl, _⟩ := h
    rfl
  obtain ⟨l, ns, rfl, hS, h63, tb, q⟩ := h
  refine ⟨_, (pss_cons (ps_set (i := 1) sc_lawB.nd rfl (.inl rfl) (pe_lst pa_nil))
    (pss_cons (ps_for PassesOwn.never rfl (pi_range1 rfl B.rng (pa_cons (pe_callB (call_max2 rfl) rfl B.max PyProof.Rows.boot_max (pa_cons pe_int (pa_cons (pe_callB (call_min2 rfl) rfl B.min PyProof.Rows.boot_min (pa_cons pe_int (pa_cons (pe_len (pv 0) B.len) pa_nil))) pa_nil))) pa_nil)) (pg_name (i := 2) sc_lawB.nd rfl (Or.inl rfl))
      (pss_cons (ps_set (i := 3) sc_lawB.nd rfl (.inl rfl) (pe_cl CW (hr.mono (by decide)) (pa_cons (pv 0) (pa_cons (pv 2) pa_nil))))
      (pss_one (ps_for PassesOwn.never rfl (pi_range1 rfl B.rng (pa_cons pe_int pa_nil)) (pg_name (i := 4) sc_lawB.nd rfl (Or.inl rfl))
        (pss_cons (ps_par (i := 5) (j := 6) rfl sc_lawB.nd rfl rfl (by decide) rfl rfl (pa_cons (pe_op op_add pe_int (pe_cl CD (hr.mono (by decide)) (pa_cons (pv 3) (pa_cons (pe_ix ix_list (pe_lst (pa_cons pe_int (pa_cons pe_int pa_nil))) (pe_cl CD (hr.mono (by decide)) (pa_cons (pv 3) (pa_cons pe_int pa_nil))) (fun _ _ => rfl)) pa_nil)))) (pa_cons (pe_ix ix_list (pe_lst (pa_cons pe_int (pa_cons pe_int (pa_cons pe_int (pa_cons pe_int pa_nil))))) (pe_cl CD (hr.mono (by decide)) (pa_cons (pv 3) (pa_cons pe_int pa_nil))) (fun _ _ => rfl)) pa_nil)) rfl)
        (pss_cons (ps_set (i := 7) sc_lawB.nd rfl (.inl rfl) (pe_cl CB (hr.mono (by decide)) (pa_cons (pv 3) (pa_cons (pv 5) (pa_cons (pe_ix ix_list (pe_lst (pa_cons pe_int (pa_cons pe_int (pa_cons pe_int (pa_cons pe_int pa_nil))))) (pe_cl CD (hr.mono (by decide)) (pa_cons (pv 3) (pa_cons pe_int pa_nil))) (fun _ _ => rfl)) (pa_cons (pv 6) pa_nil))))))
        (pss_cons (ps_set (i := 8) sc_lawB.nd rfl (.inl rfl) (pe_cl CBE (hr.mono (by decide)) (pa_cons (pv 3) (pa_cons (pv 7) (pa_cons (pe_cl CX (hr.mono (by decide)) (pa_cons (pv 7) pa_nil)) pa_nil)))))
        (pss_cons (ps_if (PW.pt (by exact (pw_and (pt_cmpR op_eq (pe_ix ix_tup (pe_cl CDU (hr.mono (by decide)) (pa_cons (pv 8) pa_nil)) pe_int (fun _ _ => rfl)) pe_str (nomark _)) (pw_and1 (pt_cmpR op_gt (pe_ix ix_tup (pe_ix ix_tup (pe_cl CDU (hr.mono (by decide)) (pa_cons (pv 8) pa_nil)) pe_int (fun _ _ => rfl)) pe_int (fun _ _ => rfl)) pe_int (nomark _)))))) (pss_one (ps_set (i := 8) sc_lawB.nd rfl (.inl rfl) pe_str)) pss_nil)
        (pss_cons (ps_set (i := 9) sc_lawB.nd rfl (.inl rfl) (pe_cl CDU (hr.mono (by decide)) (pa_cons (pv 8) pa_nil)))
        (pss_cons (ps_if (pt_not (pt_val (pe_cl CS (hr.mono (by decide)) (pa_cons (pe_cl CT (hr.mono (by decide)) (pa_cons pe_int (pa_cons (pv 8) (pa_cons (pe_cmpR op_eq (pe_cl CD (hr.mono (by decide)) (pa_cons (pv 3) (pa_cons pe_int pa_nil))) pe_int (nomark _)) pa_nil)))) (pa_cons (pv 9) pa_nil))))) pss_no pss_nil)
        (pss_cons (ps_if (pt_not (pt_val (pe_cl CO (hr.mono (by decide)) (pa_cons (pv 3) (pa_cons (pe_cl CX (hr.mono (by decide)) (pa_cons (pv 7) pa_nil)) pa_nil))))) pss_no pss_nil)
        (pss_one (ps_expr (pe_bm PySem.F.plainAttrs_list PySem.F.slot_list_append PySem.F.type_list_append mt_append (pv 1) (pa_cons (pe_tup (pa_cons (pv 8) (pa_cons (pv 9) pa_nil))) pa_nil)))))))))))))))
    (pss_cons (ps_for PassesOwn.never rfl (pi_list (pe_revL (pv 1))) (pg_tup rfl (pgs_cons (pg_name (i := 8) sc_lawB.nd rfl (Or.inl rfl)) (pgs_cons (pg_name (i := 9) sc_lawB.nd rfl (Or.inl rfl)) pgs_nil)))
      (pss_one (ps_if (pt_not (pt_val (pe_cl CS (hr.mono (by decide)) (pa_cons (pe_cl CT (hr.mono (by decide)) (pa_cons pe_int (pa_cons (pv 8) (pa_cons (pe_cmpR op_lt (pe_callB call_len_str rfl B.len PySem.boot_len (pa_cons (pv 8) pa_nil)) pe_int (nomark _)) pa_nil)))) (pa_cons (pv 9) pa_nil))))) pss_no pss_nil)))
    (pss_one (ps_ret pe_bl))))), ?_⟩
  refine ⟨szL0, fun Rl nR => ?_⟩
  have r0 := (Gr.refl H).new nR (.lst [])
  have s0 : InB K T l (ns.map V.int) Rl (fun b => b ≠ Rl) 0 (upd H Rl (.lst [])) := ⟨⟨[], upd_same, rfl, fun v h => (by cases h)⟩, (LsV.of hS nR).gr r0, tb.gr r0⟩
  have e1 := s0.ls.sq
  generalize upd H Rl (.lst []) = H0 at s0 e1 ⊢
  refine ⟨_, rfl, l, _, rfl, .inl e1, _, _, rfl, _, _, rfl, _, rfl, ?_, ?_, ?_⟩
  · split <;> (try split) <;> omega
  · split <;> (try split) <;> omega
  refine for_range (lo := 0) (fun i σ H' => ∃ c2 c3 c4 c5 c6 c7 c8 c9 : Option V, σ = [some (.ref l), some (.ref Rl), c2, c3, c4, c5, c6, c7, c8, c9] ∧ i ≤ 64 ∧ InB K T l (ns.map V.int) Rl (fun b => b ≠ Rl) (4 * i) H') ⟨_, _, _, _, _, _, _, _, rfl, by omega, s0⟩ (fun i σ H1 hi h => ?_) (fun σ H1 h => ?_)
  · obtain ⟨c2, c3, c4, c5, c6, c7, c8, c9, rfl, i64, s1⟩ := h
    have hi' : i < 64 := by
      split at hi <;> (try split at hi) <;> omega
    refine ⟨_, rfl, _, rfl, l, ns, (0 : Int) + i, rfl, s1.ls.sq, h63, by omega, by omega, fun dk a b ndk b0 b1 => ?_⟩
    have sk0 : Stk dk 0 (upd H1 dk (.lst [.int a, .int b, .int 0])) := ⟨a, b, 0, upd_same, b0, b1, by decide, by decide⟩
    have nRd : Rl ≠ dk := by
      obtain ⟨rs, e, _⟩ := s1.rl
      exact ne_of_none e ndk
    have s2 := (s1.avoid ndk).gr ((Gr.refl H1).new ndk (.lst [.int a, .int b, .int 0]))
    generalize upd H1 dk (.lst [.int a, .int b, .int 0]) = H2 at sk0 s2 ⊢
    clear s1 ndk b0 b1
    have nd : ∀ b : Addr, (b ≠ Rl ∧ b ≠ dk) → b ≠ dk := fun b h => h.2
    have nr : ∀ b : Addr, (b ≠ Rl ∧ b ≠ dk) → b ≠ Rl := fun b h => h.1
    refine ⟨4, rfl, by decide, by decide, for_range (lo := 0) (fun t σ H' => ∃ c4 c5 c6 c7 c8 c9 : Option V, σ = [some (.ref l), some (.ref Rl), some (.int (0 + (i : Int))), some (.ref dk), c4, c5, c6, c7, c8, c9] ∧ InB K T l (ns.map V.int) Rl (fun b => b ≠ Rl ∧ b ≠ dk) (4 * i + t) H' ∧ Stk dk (1500 * t) H') ⟨_, _, _, _, _, _, rfl, s2, sk0.more (by omega)⟩ (fun t σ H9 ht h => ?_) (fun σ H9 h => ?_)⟩
    · obtain ⟨c4, c5, c6, c7, c8, c9, rfl, s9, sk9⟩ := h
      have ht : t < 4 := ht
      refine seq_join (fun σ' H' => ∃ (d most : Nat), σ' = [some (.ref l), some (.ref Rl), some (.int (0 + (i : Int))), some (.ref dk), some (.int (0 + (t : Int))), some (.int (d : Int)), some (.int (most : Int)), c7, c8, c9] ∧ InB K T l (ns.map V.int) Rl (fun b => b ≠ Rl ∧ b ≠ dk) (4 * i + t) H' ∧ Stk dk (1500 * t + 3) H' ∧ 1 ≤ d ∧ d ≤ 9 ∧ 1 ≤ most ∧ most ≤ 9) (fun σ' H3 h => ?_) (fun Kn hK => ?_)
      rotate_left
      · refine ⟨_, rfl, szN (by show 2 ≤ 1000000; decide), fun L1 nL1 => ?_⟩
        have rL := (Gr.refl H9).new nL1 (.lst [.int 2, .int 9])
        have eL : (upd H9 L1 (.lst [V.int 2, .int 9])) L1 = some (.lst [.int 2, .int 9]) := upd_same
        have nLd := sk9.ne nL1
        have s10 := s9.gr rL
        have sk10 := sk9.gr rL
        generalize upd H9 L1 (.lst [V.int 2, .int 9]) = H10 at eL s10 sk10 ⊢
        refine ⟨_, rfl, dk, 2, _, rfl, sk10, by omega, by decide, by decide +kernel, fun u3 H11 w0 w1 g11 sk11 => ?_⟩
        have s11 := s10.grd g11 sk10 nd nRd
        obtain ⟨m2, am2, n1, n9⟩ : ∃ m : Nat, atI ([.int 2, .int 9] : List V) u3 = some (.int ((m : Nat) : Int)) ∧ 1 ≤ m ∧ m ≤ 9 := by
          have : u3 = 0 ∨ u3 = 1 := by omega
          rcases this with rfl | rfl
          · exact ⟨2, rfl, by decide, by decide⟩
          · exact ⟨9, rfl, by decide, by decide⟩
        refine ⟨L1, _, _, _, rfl, rfl, SqL.of (GrDL.lst g11 nLd eL), am2, dk, _, _, rfl, sk11, by omega, by omega, big_take (n := m2) (by omega), fun tt H12 t0 t1 g12 sk12 => ?_⟩
        have s12 := s11.grd g12 sk11 nd nRd
        obtain ⟨dn, rfl⟩ := Int.eq_ofNat_of_zero_le t0
        refine ⟨_, _, rfl, rfl, szN (by show 4 ≤ 1000000; decide), fun L2 nL2 => ?_⟩
        have rL2 := (Gr.refl H12).new nL2 (.lst [.int 1, .int 1, .int 3, .int 9])
        have eL2 : (upd H12 L2 (.lst [V.int 1, .int 1, .int 3, .int 9])) L2 = some (.lst [.int 1, .int 1, .int 3, .int 9]) := upd_same
        have nLd2 := sk12.ne nL2
        have s13 := s12.gr rL2
        have sk13 := sk12.gr rL2
        generalize upd H12 L2 (.lst [V.int 1, .int 1, .int 3, .int 9]) = H13 at eL2 s13 sk13 ⊢
        refine ⟨_, rfl, dk, 4, _, rfl, sk13, by omega, by decide, by decide +kernel, fun u4 H14 w2 w3 g14 sk14 => ?_⟩
        have s14 := s13.grd g14 sk13 nd nRd
        obtain ⟨m3, am3, k1, k9⟩ : ∃ m : Nat, atI ([.int 1, .int 1, .int 3, .int 9] : List V) u4 = some (.int ((m : Nat) : Int)) ∧ 1 ≤ m ∧ m ≤ 9 := by
          have : u4 = 0 ∨ u4 = 1 ∨ u4 = 2 ∨ u4 = 3 := by omega
          rcases this with rfl | rfl | rfl | rfl
          · exact ⟨1, rfl, by decide, by decide⟩
          · exact ⟨1, rfl, by decide, by decide⟩
          · exact ⟨3, rfl, by decide, by decide⟩
          · exact ⟨9, rfl, by decide, by decide⟩
        refine ⟨L2, _, _, _, rfl, rfl, SqL.of (GrDL.lst g14 nLd2 eL2), am3, _, _, rfl, hK _ _ ⟨1 + dn, m3, ?_, s14, sk14.more (by omega), by omega, by omega, k1, k9⟩⟩
        rw [show (((1 + dn : Nat)) : Int) = 1 + (dn : Int) from by omega]
        rfl
      obtain ⟨d, most, rfl, s3, sk3, d1, d9, m1, m9⟩ := h
      refine seq_join (fun σ' H' => ∃ (v : V) (qs : List (List Int × Int)), σ' = [some (.ref l), some (.ref Rl), some (.int (0 + (i : Int))), some (.ref dk), some (.int (0 + (t : Int))), some (.int (d : Int)), some (.int (most : Int)), some v, c8, c9] ∧ InB K T l (ns.map V.int) Rl (fun b => b ≠ Rl ∧ b ≠ dk) (4 * i + t) H' ∧ Stk dk (1500 * t + 1304) H' ∧ BkV K H' v d qs ∧ qs.length ≤ 20 ∧ (∀ q, q ∈ qs → q.1.length = d ∧ (∀ z, z ∈ q.1 → z.natAbs < 10 ^ 9) ∧ q.2.natAbs < 10 ^ 9)) (fun σ' H4 h => ?_) (fun Kn hK => ?_)
      rotate_left
      · refine ⟨_, rfl, _, rfl, szN (by show 4 ≤ 1000000; decide), fun L1 nL1 => ?_⟩
        have rL := (Gr.refl H3).new nL1 (.lst [.int 1, .int 3, .int 6, .int 15])
        have eL : (upd H3 L1 (.lst [V.int 1, .int 3, .int 6, .int 15])) L1 = some (.lst [.int 1, .int 3, .int 6, .int 15]) := upd_same
        have nLd := sk3.ne nL1
        have s10 := s3.gr rL
        have sk10 := sk3.gr rL
        generalize upd H3 L1 (.lst [V.int 1, .int 3, .int 6, .int 15]) = H10 at eL s10 sk10 ⊢
        refine ⟨_, rfl, dk, 4, _, rfl, sk10, by omega, by decide, by decide +kernel, fun u3 H11 w0 w1 g11 sk11 => ?_⟩
        have s11 := s10.grd g11 sk10 nd nRd
        obtain ⟨m2, am2, n20⟩ : ∃ m : Nat, atI ([.int 1, .int 3, .int 6, .int 15] : List V) u3 = some (.int ((m : Nat) : Int)) ∧ m ≤ 20 := by
          have : u3 = 0 ∨ u3 = 1 ∨ u3 = 2 ∨ u3 = 3 := by omega
          rcases this with rfl | rfl | rfl | rfl
          · exact ⟨1, rfl, by decide⟩
          · exact ⟨3, rfl, by decide⟩
          · exact ⟨6, rfl, by decide⟩
          · exact ⟨15, rfl, by decide⟩
        refine ⟨L1, _, _, _, rfl, rfl, SqL.of (GrDL.lst g11 nLd eL), am2, _, rfl, dk, _, d, m2, most, rfl, sk11, by omega, d1, by omega, n20, m1, by omega, fun v qs H12 g12 sk12 hb l20 _ hq => ?_⟩
        exact hK _ _ ⟨v, qs, rfl, s11.grd g12 sk11 nd nRd, sk12.more (by omega), hb, l20, fun q h => ⟨(hq q h).2.1, fun x hx => ten9 ((hq q h).2.2.1 x hx) m9, ten9 (hq q h).2.2.2 m9⟩⟩
      obtain ⟨v, qs, rfl, s4, sk4, hb, l20, hq⟩ := h
      have hq12 : ∀ q, q ∈ qs → q.1.length ≤ 12 ∧ (∀ z, z ∈ q.1 → z.natAbs < 10 ^ 9) ∧ q.2.natAbs < 10 ^ 9 := fun q h => ⟨by have := (hq q h).1; omega, (hq q h).2⟩
      have btx := bookT_tx d9 l20 hq
      refine seq_join (fun σ' H' => ∃ z : Str, σ' = [some (.ref l), some (.ref Rl), some (.int (0 + (i : Int))), some (.ref dk), some (.int (0 + (t : Int))), some (.int (d : Int)), some (.int (most : Int)), some v, some (.str z), c9] ∧ InB K T l (ns.map V.int) Rl (fun b => b ≠ Rl ∧ b ≠ dk) (4 * i + t) H' ∧ Stk dk (1500 * t + 1400) H' ∧ BkV K H' v d qs ∧ TxOk 500000 23 z) (fun σ' H5 h => ?_) (fun Kn hK => ?_)
      rotate_left
      · refine ⟨_, rfl, _, rfl, _, rfl, v, d, qs, 9, rfl, hb, by omega, by omega, by decide, by decide, hq12, fun H5 g5 => ?_⟩
        refine ⟨dk, _, v, d, qs, _, rfl, sk4.gr g5, by omega, hb.st g5.st, d1, d9, l20, hq, btx, fun z H6 g6 sk6 tx => ?_⟩
        exact hK _ _ ⟨z, rfl, (s4.gr g5).grd g6 (sk4.gr g5) nd nRd, sk6.more (by omega), (hb.st g5.st).st (g6.sk (sk4.gr g5)), tx⟩
      obtain ⟨z0, rfl, s5, sk5, hb5, tx0⟩ := h
      have z0l := tx0.l
      have z0n := tx0.n
      have z0k := lines_len z0
      refine seq_join (fun σ' H' => ∃ z : Str, σ' = [some (.ref l), some (.ref Rl), some (.int (0 + (i : Int))), some (.ref dk), some (.int (0 + (t : Int))), some (.int (d : Int)), some (.int (most : Int)), some v, some (.str z), c9] ∧ Gr H5 H' ∧ TxL z) (fun σ' H6 h => ?_) (fun Kn hK => ?_)
      rotate_left
      · refine ⟨_, rfl, z0, rfl, by omega, by omega, tx0.c, fun n e p H6 g6 hp => ?_, fun d' qs' e p b H6 g6 hp hb6 => ?_⟩
        · refine ⟨p, _, _, _, rfl, rfl, hp, rfl, rfl, _, rfl, iteN (fun h => absurd (by injection h : ("refused" : Str) = "told") (by decide)) ?_⟩
          exact hK _ _ ⟨z0, rfl, g6, tx0.l, by omega, tx0.c, fun d2 q2 e2 => by rw [e] at e2; cases e2⟩
        · refine ⟨p, _, _, _, rfl, rfl, hp, rfl, rfl, _, rfl, iteP rfl ?_⟩
          refine ⟨_, rfl, z0, rfl, by omega, by omega, tx0.c, fun n e2 _ _ _ _ => (by rw [e] at e2; cases e2), fun d2 qs2 e2 p2 b2 H7 g7 hp2 hb7 => ?_⟩
          obtain ⟨a7, b7, xs7, rfl, ha7, _⟩ := hb7
          refine ⟨p2, _, _, _, rfl, rfl, hp2, rfl, a7, _, _, _, rfl, rfl, ha7, rfl, _, _, rfl, rfl, _, rfl, ite2 (fun c => ?_) (fun c => ?_)⟩
          · exact hK _ _ ⟨_, rfl, g6.trans g7, tx_12⟩
          · refine hK _ _ ⟨z0, rfl, g6.trans g7, tx0.l, by omega, tx0.c, fun d3 q3 e3 => ?_⟩
            rw [e2] at e3
            cases e3
            exact Int.not_lt.mp fun h => c (decide_eq_true h)
      obtain ⟨z, rfl, g6, tx⟩ := h
      have s6 := s5.gr g6
      have sk6 := sk5.gr g6
      have hb6 := hb5.st g6.st
      clear s5 sk5 s4 sk4 s3 sk3 s9 sk9 hb5 hb
      have zl := tx.l
      have zn := tx.n
      have zk := lines_len z
      refine seq_join (fun σ' H' => ∃ b : V, σ' = [some (.ref l), some (.ref Rl), some (.int (0 + (i : Int))), some (.ref dk), some (.int (0 + (t : Int))), some (.int (d : Int)), some (.int (most : Int)), some v, some (.str z), some b] ∧ Gr H6 H' ∧ DueV K H' b z) (fun σ' H7 h => ?_) (fun Kn hK => ?_)
      rotate_left
      · refine ⟨_, rfl, z, rfl, by omega, by omega, tx.c, fun n e p H7 g7 hp => ?_, fun d' qs' e p b H7 g7 hp hb7 => ?_⟩
        · exact hK _ _ ⟨_, rfl, g7, .inl ⟨n, p, e, rfl, hp⟩⟩
        · exact hK _ _ ⟨_, rfl, g7, .inr ⟨d', qs', p, b, e, rfl, hp, hb7⟩⟩
      obtain ⟨b, rfl, g7, hd7⟩ := h
      have s7 := s6.gr g7
      have sk7 := sk6.gr g7
      have hb7 := hb6.st g7.st
      clear s6 sk6 hb6
      refine seq_join (fun σ' H' => σ' = [some (.ref l), some (.ref Rl), some (.int (0 + (i : Int))), some (.ref dk), some (.int (0 + (t : Int))), some (.int (d : Int)), some (.int (most : Int)), some v, some (.str z), some b] ∧ InB K T l (ns.map V.int) Rl (fun b => b ≠ Rl ∧ b ≠ dk) (4 * i + t) H' ∧ Stk dk (1500 * t + 1401) H' ∧ BkV K H' v d qs ∧ DueV K H' b z) (fun σ' H8 h => ?_) (fun Kn hK => ?_)
      rotate_left
      · refine ⟨_, rfl, _, rfl, dk, 2, _, rfl, sk7, by omega, by decide, by decide +kernel, fun u H8 _ _ g8 sk8 => ⟨rfl, ?_⟩⟩
        have s8 := s7.grd g8 sk7 nd nRd
        have t8 := g8.sk (K := K) sk7
        refine ⟨4, z, _, rfl, by decide, s8.tb, by omega, .inl ⟨rfl, by omega, fun n e p H9 g9 hp => ?_, fun d' qs' e p c H9 g9 hp hb9 => ?_⟩⟩
        · refine ⟨_, rfl, _, b, rfl, due_alike tx (.inl ⟨n, p, e, rfl, hp⟩) ((hd7.st t8).st g9.st), fun Hx gx => ⟨_, rfl, iteF ?_⟩⟩
          have gg := g9.trans gx
          exact hK _ _ ⟨rfl, s8.gr gg, (sk8.gr gg).more (by omega), (hb7.st t8).st gg.st, (hd7.st t8).st gg.st⟩
        · refine ⟨_, rfl, _, b, rfl, due_alike tx (.inr ⟨d', qs', p, c, e, rfl, hp, hb9⟩) ((hd7.st t8).st g9.st), fun Hx gx => ⟨_, rfl, iteF ?_⟩⟩
          have gg := g9.trans gx
          exact hK _ _ ⟨rfl, s8.gr gg, (sk8.gr gg).more (by omega), (hb7.st t8).st gg.st, (hd7.st t8).st gg.st⟩
      obtain ⟨rfl, s8, sk8, hb8, hd8⟩ := h
      refine ⟨_, rfl, _, rfl, v, d, qs, 9, rfl, hb8, by omega, by omega, by decide, by decide, hq12, fun H9 g9 => ?_⟩
      have s9 := s8.gr g9
      have sk9 := sk8.gr g9
      refine ⟨dk, _, _, rfl, sk9, by omega, s9.tb, book_nord, by have := btx.l; omega, by have := btx.n; omega, fun H10 g10 sk10 => ⟨_, rfl, iteF ?_⟩⟩
      have s10 := s9.grd g10 sk9 nd nRd
      have hd10 := (hd8.st g9.st).st (g10.sk sk9)
      obtain ⟨rs, hRl, lrs, _⟩ := id s10.rl
      refine ⟨_, rfl, .inl ⟨rfl, _, SqL.of hRl⟩, _, rfl, _, rfl, szN (by show 2 ≤ 1000000; decide), fun T2 nT2 => ?_⟩
      have rT2 := (Gr.refl H10).new nT2 (.tup [.str z, b])
      have s11 := s10.gr rT2
      have sk11 := sk10.gr rT2
      have hT2 : SqT K (upd H10 T2 (.tup [.str z, b])) T2 [.str z, b] := SqT.of upd_same
      generalize upd H10 T2 (.tup [.str z, b]) = H11 at rT2 s11 sk11 hT2 ⊢
      obtain ⟨acc, ha, la, s12⟩ := s11.put nr ⟨T2, z, b, rfl, hT2, tx, hd10.st rT2.st⟩
      exact ⟨Rl, _, _, rfl, rfl, ha, small1000 (by omega), _, _, _, _, _, _, rfl, s12, (sk11.off nRd).more (by omega)⟩
    · obtain ⟨c4, c5, c6, c7, c8, c9, rfl, s9, sk9⟩ := h
      exact ⟨_, _, _, _, _, _, _, _, rfl, by omega, s9.less nr⟩
  · obtain ⟨c2, c3, c4, c5, c6, c7, c8, c9, rfl, i64, s1⟩ := h
    obtain ⟨rs, hRl, lrs, hrs⟩ := id s1.rl
    refine ⟨_, rfl, Rl, rs, rfl, SqL.of hRl, fun p np => ⟨p, rfl, ⟨_, SqL.of upd_same⟩, ?_⟩⟩
    have r1 := (Gr.refl H1).new np (.lst rs.reverse)
    have e2 : (upd H1 p (.lst rs.reverse)) p = some (.lst rs.reverse) := upd_same
    have tb1 := s1.tb
    generalize upd H1 p (.lst rs.reverse) = H2 at r1 e2 ⊢
    refine for_list (xs := rs.reverse) (fun i σ H' => ∃ c2 c3 c4 c5 c6 c7 c8 c9 : Option V, σ = [some (.ref l), some (.ref Rl), c2, c3, c4, c5, c6, c7, c8, c9] ∧ Gr H2 H') ⟨_, _, _, _, _, _, _, _, rfl, Gr.refl _⟩ (fun i σ H' _ h => ?_) (fun i v σ H' hv h => ?_) (fun σ H' h => q H')
    · obtain ⟨c2, c3, c4, c5, c6, c7, c8, c9, rfl, g⟩ := h
      exact g.seqL (SqL.of e2)
    · obtain ⟨c2, c3, c4, c5, c6, c7, c8, c9, rfl, g⟩ := h
      have g1 := r1.trans g
      obtain ⟨Tt, z, b, rfl, hT, tx, hd⟩ := RowB.st g1.st (hrs v (List.mem_reverse.mp (List.mem_of_getElem? hv)))
      have txl := tx.l
      have txn := tx.n
      have ll := lines_len z
      refine ⟨Tt, _, rfl, hT, rfl, _, _, rfl, _, _, rfl, rfl, ?_⟩
      refine ⟨_, rfl, _, rfl, z, rfl, sz15 (by omega), _, _, rfl, rfl, 4, z, _, rfl, by decide, tb1.gr g1, by omega, .inl ⟨rfl, by omega, fun n e p3 H3 g3 hp => ?_, fun d qs e p3 b3 H3 g3 hp hb => ?_⟩⟩
      · refine ⟨_, rfl, _, b, rfl, due_alike tx (.inl ⟨n, p3, e, rfl, hp⟩) (hd.st g3.st), fun H4 g4 => ⟨_, rfl, iteF ?_⟩⟩
        exact ⟨_, _, _, _, _, _, _, _, rfl, (g.trans g3).trans g4⟩
      · refine ⟨_, rfl, _, b, rfl, due_alike tx (.inr ⟨d, qs, p3, b3, e, rfl, hp, hb⟩) (hd.st g3.st), fun H4 g4 => ⟨_, rfl, iteF ?_⟩⟩
        exact ⟨_, _, _, _, _, _, _, _, rfl, (g.trans g3).trans g4⟩
end
end SB
set_option pp.maxSteps 300
namespace SB
open PySem PySem.Spec PyProof.Rows L2 PySem.HandSPX HotX
/-! ### two names at once while an error is being handled -/
section
variable {prog : Program} {w : World} {A : Around} {E : Value → Shared → Prop} {s : Shared}
theorem next_tuple_end_hot {it t x1 : Addr} {i : Nat} {items} {Q : Option Value → Shared → Prop} (hot : HotAt A x1 s.heap)
    (hit : IsTupIter s.heap it t i) (ht : IsTup s.heap t items) (hx : items[i]? = none) (hne : x1 ≠ it)
    (hQ : ∀ h', Heap.ExtBut it s.heap h' → Q none { s with heap := h' }) : wpAny (model prog w) A (pyNext (.ref it)) Q E s := by
  obtain ⟨o, ho, hc, hd⟩ := id hit
  obtain ⟨ol, hol, _, nl, hdl⟩ := ht
  obtain ⟨hh, o1, vs1, h1, d1, c1⟩ := hot
  unfold pyNext
  refine wpAny_bind (wpAny_attempt (wpAny_callSpecial?_slot (name := Str.ofString "__next__") hit.typeIs slot_tupleiter_next
    (wpAny_call_entry slot_tupleiter_next hit.typeIs entry_tupleiter_next ?_ (args_tupleiter_next _))))
  show wpAny _ _ (field (.ref it) 0 >>= _) _ _ s
  refine wpAny_bind (wpAny_field ho hd (x := .ref t) rfl ?_)
  show wpAny _ _ (if (Value.ref t == Value.none) = true then _ else _) _ _ s
  rw [if_neg (show ¬ ((Value.ref t == Value.none) = true) from Bool.false_ne_true)]
  show wpAny _ _ (field (.ref it) 1 >>= _) _ _ s
  refine wpAny_bind (wpAny_field ho hd (x := .int i 0) rfl ?_)
  show wpAny _ _ (seqItems? (.ref t) >>= _) _ _ s
  refine wpAny_bind (wpAny_seqItems hol hdl ?_)
  simp only [Int.toNat_natCast, hx]
  refine wpAny_bind (wpAny_rule (wpAny_bind (wpAny_setField ho hd (by simp) ?_)))
  show wpAny _ _ (newExc (.type "StopIteration") [] >>= _) _ _ _
  refine wpAny_bind ?_
  simp only [newExc, newTuple]
  refine wpAny_bind (wpAny_newObj_type ?_ (by size_fits))
  refine wpAny_bind (m := firstArgMember _ _) (wpAny_of_eq (a := Value.none) (by first | rfl | (simp only [firstArgMember]; rfl)) ?_)
  refine wpAny_newObj_type ?_ (by size_fits)
  have up : ∀ (f : Obj → Obj) (b : Addr) (o : Obj), b ≠ it → s.heap.get? b = some o → (s.heap.update it f).get? b = some o := fun f b o hb e => (Heap.SameBut.update s.heap it f).extBut b o hb e
  refine raiseNew_hot ⟨hh, o1, vs1, Heap.get?_push_of_some _ (Heap.get?_push_of_some _ (up _ _ _ hne h1)), d1, c1⟩ (Nat.ne_of_lt (Heap.lt_size (Heap.get?_push_of_some _ (up _ _ _ hne h1)))) (Heap.get?_push_size _ rfl) rfl (by first | (simp; done) | (simp; omega) | (simp only [Array.size_append]; simp; omega)) ?_
  refine wpAny_bind (wpAny_isInstance (T := "StopIteration") (b := true) ⟨_, Heap.get?_update_self _ (Heap.get?_push_size _ rfl) rfl, rfl⟩ isSubtype_stop ?_)
  refine wpAny_pure (hQ _ fun b o hb e => ?_)
  rw [Heap.get?_update_other _ _ (Nat.ne_of_gt (Heap.lt_size (Heap.get?_push_of_some _ (up _ _ _ hb e))))]
  exact Heap.get?_push_of_some _ (Heap.get?_push_of_some _ (up _ _ _ hb e))
theorem unpackItems_tuple_hot {t x1 : Addr} {items : Array Value} {Q : List Value → Shared → Prop} (hot : HotAt A x1 s.heap) (ht : IsTup s.heap t items)
    (hQ : ∀ h', Heap.ExtBut s.heap.objs.size s.heap h' → Q items.toList { s with heap := h' }) : wpAny (model prog w) A (unpackItems (.ref t) items.size none) Q E s := by
  have hlt : t ≠ s.heap.objs.size := by obtain ⟨o, ho, _⟩ := ht; exact Nat.ne_of_lt (Heap.lt_size ho)
  obtain ⟨hh, o1, vs1, h1, d1, c1⟩ := hot
  have hl1 : x1 ≠ s.heap.objs.size := Nat.ne_of_lt (Heap.lt_size h1)
  unfold unpackItems
  refine wpAny_bind ?_
  · unfold notIterableAtAll
    refine wpAny_bind (wpAny_specialOf ht.typeIs slot_tuple_iter.lookup ?_)
    refine wpAny_pure ?_
    simp only [Bool.false_eq_true, if_false]
    refine wpAny_bind (wpAny_holding (iter_tuple ht ?_))
    refine wpAny_bind (wpAny_holding (draw_tuple hlt items.size 0 _ _ ⟨_, Heap.get?_push_size _ rfl, rfl, rfl⟩ (ht.push _) (by omega) fun h₁ hit₁ hs₁ => ?_))
    have hall : List.take items.size (List.drop 0 items.toList) = items.toList := by
      rw [List.drop_zero]; exact List.take_of_length_le (by simp)
    rw [hall]
    rw [if_neg (by simp)]
    have ht₁ : IsTup h₁ t items := (ht.push _).extBut hs₁.extBut hlt
    refine wpAny_bind (wpAny_holding (next_tuple_end_hot ⟨hh, o1, vs1, hs₁.extBut x1 o1 hl1 (Heap.get?_push_of_some _ h1), d1, c1⟩ hit₁ ht₁ (by simp) hl1 fun h₂ he₂ => ?_))
    simp only [Option.isSome_none, Bool.false_eq_true, if_false]
    refine wpAny_pure (hQ h₂ fun b o hb e => he₂ b o hb (hs₁.extBut b o hb (Heap.get?_push_of_some _ e)))
end
end SB
set_option pp.maxSteps 300
namespace SB
open PySem PySem.Spec PyProof.Rows L2 PySem.HandSPX HotX L2H
section
variable {X : Cx}
theorem ps_parH {i j : Nat} {x y : Str} {a b : Expr} {ta : TA} {px py pt pos : Pos} {kt k2 pt2} (hc : HotC X) (hN : X.N.Nodup) (hi : X.N[i]? = some x) (hj : X.N[j]? = some y) (hij : i ≠ j)
    (hx : X.env.scope.names.lookup x = some .local) (hy : X.env.scope.names.lookup y = some .local) (ha : PA X [a, b] ta)
    (hw : swappedStores [.Tuple [.Name x px, .Name y py] kt pt] (.Tuple [a, b] k2 pt2) X.env = pure (some [x, y]))
    (hs : swapsWithSole [.Tuple [.Name x px, .Name y py] kt pt] (.Tuple [a, b] k2 pt2) pos.line X.env = pure false := by rfl) :
    PS X (.Assign [.Tuple [.Name x px, .Name y py] kt pt] (.Tuple [a, b] k2 pt2) pos) (tPar i j ta) := by
  refine ⟨fun pins s σ H D I h => ?_⟩
  rw [exec_Assign_arm]
  refine wpAny_bind (wpAny_standAt ?_)
  rw [hs]
  refine wpAny_bind (wpAny_pure ?_)
  rw [if_neg (by decide)]
  refine wpAny_bind (Tuple_ (thn (ha.run _ pins s σ H _ I h) fun us s1 ⟨vs, H1, I1, r1, q1⟩ => ?_))
  obtain ⟨v, w, e1, q1⟩ := q1
  subst e1
  obtain ⟨u1, u2, rfl, rv, rw'⟩ : ∃ u1 u2, us = [u1, u2] ∧ RelV v u1 ∧ RelV w u2 := by
    cases r1 with
    | cons p q =>
      cases q with
      | cons p' q' =>
        cases q'
        exact ⟨_, _, rfl, p, p'⟩
  refine wpAny_newObj_type ?_ (by show 2 ≤ sizeLine; decide)
  have I2 : Inv X pins σ H1 { s1 with heap := s1.heap.push { cls := .type "tuple", data := .seq [u1, u2].toArray } } := I1.kept (t' := s1.toks) fun b o e => Heap.get?_push_of_some _ e
  obtain ⟨x1, hot⟩ := hc.at I2
  rw [hw]
  refine wpAny_bind (wpAny_pure ?_)
  show wpAny (model X.prog X.w) X.A (do rule "assign.swapped-stores"; let items ← unpackItems (.ref s1.heap.objs.size) 2 none; assignInOrder [fun v => bindName X.env y v, fun v => bindName X.env x v] items.reverse; pure Flow.next) _ _ _
  refine wpAny_bind (wpAny_rule (wpAny_bind (unpackItems_tuple_hot (items := #[u1, u2]) hot (IsTup.new s1.heap _) fun h' hx' => ?_)))
  have I3 := I2.kept (h' := h') (t' := s1.toks) fun b o e => hx' b o (Nat.ne_of_lt (Heap.lt_size e)) e
  show wpAny _ _ (assignInOrder [fun v => bindName X.env y v, fun v => bindName X.env x v] [u2, u1] >>= fun _ => pure Flow.next) _ _ _
  refine wpAny_bind (assignInOrder_cons (wpAny_bindName (store_ok I3 hN hj (.inl hy) rw' (fun s2 I4 => ?_) (.inr hy))))
  refine assignInOrder_cons (wpAny_bindName (store_ok I4 hN hi (.inl hx) rv (fun s3 I5 => assignInOrder_nil (wpAny_pure ?_)) (.inr hx)))
  rw [List.set_comm _ _ (Ne.symm hij)] at I5
  exact ⟨_, H1, I5, q1⟩
end
end SB
set_option pp.maxSteps 300
namespace SB
open PySem PySem.Spec PyProof.Rows L2N L2H
open L2 hiding Takes Zc CX XE PMk MkP takes_of ps_raise
/-! ### the same, where an error's own context is kept to be none -/
inductive ClOkN (X : Cx) (n : Str) : List ExceptHandler → List (Value × (Addr → Value → Option Addr → TS)) → Prop
  | tail (hds : List ExceptHandler) : ClOkN X n hds []
  | cons {x : Str} {c : Value} {ts : Addr → Value → Option Addr → TS} {b₀ : Stmt} {suite : List Stmt} {np pos' : Pos} {hds : List ExceptHandler} {l : List (Value × (Addr → Value → Option Addr → TS))} (nm : Names X x c)
      (su : ∀ (a : Addr) (oe : Obj) (cls : Value) (d : Option Addr) (pn : List (Addr × Obj)), L2N.Zn cls d oe → (∃ vs, oe.data = .fields vs) → HotC (X.suite a ((a, oe) :: pn)) → PSs (X.suite a ((a, oe) :: pn)) (b₀ :: suite) (ts a cls d)) (r : ClOkN X n hds l) :
      ClOkN X n (.ExceptHandler (some (.Name x np)) (some n) (b₀ :: suite) pos' :: hds) ((c, ts) :: l)
section
variable {X : Cx} {n : Str} {i : Nat} {body : List Stmt} {h₀ : ExceptHandler} {hds : List ExceptHandler} {l : List (Value × (Addr → Value → Option Addr → TS))} {pos : Pos} {tb : WX → TS}
theorem ps_try_tailN (hs : X.stack = X.env :: X.outer) (hf : X.env.frame = some X.env.locals) (hN : X.N.Nodup) (hi : X.N[i]? = some n) (hln : X.env.kindOf n = some .local)
    (hb : ∀ (W : WX) (pn : List (Addr × Obj)) (xe : Value → Shared → Prop), L2N.Takes (X.tr pn xe) W → PassesOwn (model X.prog X.w) X.A X.env xe → PSs (X.tr pn xe) body (tb W))
    (hh : ClOkN X n (h₀ :: hds) l) : PS X (.Try body (h₀ :: hds) [] [] pos) (fun D σ H => tb (wNamedF X.K i D l) D σ H) := by
  refine ⟨fun pins s σ H D I h => ?_⟩
  have ok := I.ok
  have hfr : X.A.frames = some (X.env :: X.outer) := by rw [ok.frames, hs]
  refine wpAny_Try_except ?_
  refine wpAny_mono ((hb (wNamedF X.K i D l) (X.pn ++ pins) (fun e s₁ => wpAny (model X.prog X.w) X.A (noteFrame e X.env) (fun _ s₂ => wpAny (model X.prog X.w) X.A (setFlight e none) (fun _ s₃ =>
    wpAny (model X.prog X.w) X.A (handleBy e X.env (h₀ :: hds)) (SP X pins D) X.xe s₃) X.xe s₂) X.xe s₁) (fun u s' xx => ?_) PassesOwn.looking).run [] s σ H D (I.toTry _) h) (fun f s1 hsp => ?_) (fun e s1 he => he)
  · obtain ⟨a, B, sI, pins', σ', H', cls, d, rfl, J', nb, up, sky, na, os, ag, w⟩ := xx
    have J : Inv X pins σ' H' sI := J'.ofTry ok
    have sky' : Sky B (X.env :: X.outer) a (L2N.Zn cls d) X.env.locals s'.heap := by rw [← hs]; exact sky
    show wpAny (model X.prog X.w) X.A (noteFrame (.ref a) X.env) _ _ _
    refine L2N.Sky.land L2N.Zn.steady hfr hf sky' fun h3 fl3 up3 => ?_
    have J3 : Inv X pins σ' H' { s' with heap := h3 } := J.landed nb fl3.1 (up.trans up3) os ag
    obtain ⟨oe3, vs3, he3, hz3, hd3⟩ := fl3.there
    have nfr : a ∉ frs (X.env :: X.outer) := fun hm => by
      obtain ⟨_, o', e', hnf⟩ := fl3.2.2.1.mem hm
      rw [he3] at e'; cases e'
      exact hnf _ hd3
    have nL : a ≠ X.env.locals := fun z => nfr (List.mem_filterMap.mpr ⟨X.env, List.mem_cons_self, by rw [hf, z]⟩)
    have nF : a ∉ X.fs := fun hm => by
      obtain ⟨e, he, q⟩ := List.mem_filterMap.mp hm
      exact nfr (List.mem_filterMap.mpr ⟨e, List.mem_cons_of_mem _ he, q⟩)
    have S3 := J3.suite he3 hd3 na nL nF
    have go : ∀ {hds' : List ExceptHandler} {l' : List (Value × (Addr → Value → Option Addr → TS))}, ClOkN X n hds' l' → wNamedF X.K i D l' cls d σ' H' →
        wpAny (model X.prog X.w) X.A (handleBy (.ref a) X.env hds') (SP X pins D) X.xe { s' with heap := h3 } := by
      intro hds' l' hk
      induction hk with
      | tail hds0 =>
        intro w
        exact w.elim
      | @cons x c ts b₀ suite np pos' hds2 l2 nm su r ih =>
        intro w
        obtain ⟨b, hb1, hyes, hno⟩ := w
        refine wpAny_handleBy_cons (codeAny_handlers_test ?_) (by intro q; cases q)
        have LT : PySem.W.Looks (model X.prog X.w) h3 (typeOf (.ref a)) cls := fun A Q E s k q => wpAny_typeOf_ref (k _ _ he3) (by rw [hz3.1]; exact q)
        have LM := PySem.W.exm_one (M := model X.prog X.w) (J3.kIn) LT hb1
        have test : ∀ {Q : Value → Shared → Prop} {E : Value → Shared → Prop}, Q c { s' with heap := h3 } → wpAny (model X.prog X.w) (X.A.mark (some (.ref a))) (eval (.Name x np) X.env) Q E { s' with heap := h3 } := fun {Q E} q => by
          obtain ⟨hg, hdbg, hm | ⟨hm, hv, hnn⟩⟩ := nm
          · exact ld_glob (X := X.suite a ((a, oe3) :: (X.pn ++ pins))) S3 hg hm q hdbg
          · exact ld_blt (X := X.suite a ((a, oe3) :: (X.pn ++ pins))) S3 hg hm hv q hnn hdbg
        refine test (LM.here ?_)
        cases b with
        | true =>
          refine codeAny_handlers_suite_as ?_
          refine HandSPX.lands_againZ fl3 fun h4 fl4 up4 => ?_
          have J4 : Inv X pins σ' H' { s' with heap := h4 } := J.landed nb fl4.1 ((up.trans up3).trans up4) os ag
          obtain ⟨oe4, vs4, he4, hz4, hd4⟩ := fl4.there
          have S4 := J4.suite he4 hd4 na nL nF
          refine store_ok (X := X.suite a ((a, oe4) :: (X.pn ++ pins))) (v := .ref a) S4 hN hi (.inl hln) rfl (fun s5 S5 => ?_) (.inr hln)
          refine wpAny_mono ((su a oe4 cls d (X.pn ++ pins) hz4 ⟨_, hd4⟩ ⟨(a, oe4), ⟨rfl, vs4, hd4, hz4.2.2 vs4 hd4⟩, List.mem_cons_self⟩).run [] s5 _ H' _ S5 (hyes rfl a na)) (fun f s6 hsp => ?_) (fun _ _ z => False.elim z)
          have end_ : ∀ {σ6 : L2.St} {H6 : Hp} {Q : Shared → Prop}, Inv (X.suite a ((a, oe4) :: (X.pn ++ pins))) [] σ6 H6 s6 → (∀ s7, Inv X pins (σ6.set i none) H6 s7 → Q s7) →
              wpAny (model X.prog X.w) X.A (do bindName X.env n .none; unbindBehindTheSuite X.env n pos') (fun _ s7 => Q s7) X.xe s6 := fun {σ6 H6 Q} S6 hq => gone_ok (S6.unsuite ok) hN hi hln hq
          cases f with
          | next =>
            obtain ⟨σ6, H6, S6, q6⟩ := hsp
            exact end_ S6 fun s7 J7 => ⟨_, _, J7, q6⟩
          | brk =>
            obtain ⟨σ6, H6, S6, q6⟩ := hsp
            exact end_ S6 fun s7 J7 => ⟨_, _, J7, q6⟩
          | cont =>
            obtain ⟨σ6, H6, S6, q6⟩ := hsp
            exact end_ S6 fun s7 J7 => ⟨_, _, J7, q6⟩
          | ret u =>
            obtain ⟨v6, σ6, H6, S6, r6, q6⟩ := hsp
            exact end_ S6 fun s7 J7 => ⟨_, _, _, J7, r6, q6⟩
        | false =>
          show wpAny _ X.A (handleBy (.ref a) X.env hds2) _ _ _
          exact ih (hno rfl)
    exact go hh w
  · cases f with
    | next =>
      obtain ⟨σ', H', J', q⟩ := hsp
      exact wpAny_execs_nil ⟨σ', H', J'.ofTry ok, q⟩
    | brk =>
      obtain ⟨σ', H', J', q⟩ := hsp
      exact ⟨σ', H', J'.ofTry ok, q⟩
    | cont =>
      obtain ⟨σ', H', J', q⟩ := hsp
      exact ⟨σ', H', J'.ofTry ok, q⟩
    | ret u =>
      obtain ⟨v, σ', H', J', r, q⟩ := hsp
      exact ⟨v, σ', H', J'.ofTry ok, r, q⟩
end
end SB
set_option pp.maxSteps 300
namespace SB
open PySem PySem.NumText L2 GxR GA RZ RP TL
section
variable {P : Program} {w : World} {K : PySem.W.Frag} {mg : Str → Option Value} {base : Heap} {fI cU : Addr} {T : Nat → Addr}
theorem cl_ltold (D : Df K mg "_law_told" s__law_told) (R : ErrB K mg fI cU) (CR : ClXN P w K mg base 39 "_law_read" ["door", "text", "named"] (spLRdB K T cU)) : Cl P w K mg base 40 "_law_told" ["door", "text", "named"] (spLTold K T) := by
  refine D.cl (fun _ _ _ _ _ _ us hl => match us, hl with | [_, _, _], _ => rfl) fun f fd F => F.ok sc_ltold (fun vs H Q E h => ?_) (fun cdv A outer s H vs Q E hr h => ?_)
  · obtain ⟨k, z, nm, rfl, _⟩ := h
    rfl
  obtain ⟨k, z, nm, rfl, k5, tb, lz, c⟩ := h
  refine ⟨_, (pss_cons (ps_asg (pe_tup (pa_cons pe_str (pa_cons pe_non pa_nil))) (pg_tup rfl (pgs_cons (pg_name (i := 3) sc_ltold.nd rfl (Or.inl rfl)) (pgs_cons (pg_name (i := 4) sc_ltold.nd rfl (Or.inl rfl)) pgs_nil))))
    (pss_cons (ps_try_tailN (i := 5) rfl rfl sc_ltold.nd rfl rfl (fun W pn xe tk _ => pss_one (ps_set (i := 4) sc_ltold.nd rfl (.inl rfl) (pe_clXN (W := W) CR tk (hr.mono (by decide)) (pa_cons (pv 0) (pa_cons (pv 1) (pa_cons (pv 2) pa_nil))))))
      (.cons ⟨rfl, by decide, .inl R.r.c.at'⟩ (fun a oe cls d pn hz hf hot => pss_one (ps_parH (i := 3) (j := 4) hot sc_ltold.nd rfl rfl (by decide) rfl rfl (pa_cons pe_str (pa_cons (pe_errS (fI := fI) hz.zc hf (pv 5)) pa_nil)) rfl)) (.tail _)))
    (pss_one (ps_ret (pe_tup (pa_cons (pv 3) (pa_cons (pv 4) pa_nil))))))), ?_⟩
  refine ⟨szN (by show 2 ≤ 1000000; decide), fun p np => ?_⟩
  have k0 := (Gr.refl H).new np (.tup [.str "told", .non])
  have e0 : SqT K (upd H p (.tup [.str "told", .non])) p [.str "told", .non] := SqT.of upd_same
  generalize upd H p (.tup [.str "told", .non]) = H0 at k0 e0 ⊢
  refine ⟨p, _, rfl, e0, rfl, ?_⟩
  refine ⟨_, _, rfl, _, _, rfl, rfl, ?_⟩
  refine ⟨_, rfl, _, rfl, _, rfl, k, z, nm, rfl, k5, Tb5.gr tb k0, lz, ?_⟩
  rcases c with ⟨k4, ll, cn, cy⟩ | ⟨k4, no, cq⟩
  · refine .inl ⟨k4, ll, fun n e d H1 g1 hd => ?_, fun d qs e v H1 g1 hb => ?_⟩
    · exact ⟨true, R.m, fun _ a na => ⟨_, rfl, rfl, cU, d, .int n, rfl, R.r.c.txt, rfl, hd, _, _, rfl, _, rfl, _, rfl, szN (by show 2 ≤ 1000000; decide), fun q nq => cn n e q _ ((k0.trans g1).trans ((Gr.refl H1).new nq _)) (SqT.of upd_same)⟩, fun z => Bool.noConfusion z⟩
    · exact ⟨_, rfl, _, rfl, szN (by show 2 ≤ 1000000; decide), fun q nq => cy d qs e q v _ ((k0.trans g1).trans ((Gr.refl H1).new nq _)) (SqT.of upd_same) (hb.gr ((Gr.refl H1).new nq _))⟩
  · refine .inr ⟨k4, no, fun d H1 g1 hd => ?_⟩
    exact ⟨true, R.m, fun _ a na => ⟨_, rfl, rfl, cU, d, .int 1, rfl, R.r.c.txt, rfl, hd, _, _, rfl, _, rfl, _, rfl, szN (by show 2 ≤ 1000000; decide), fun q nq => cq q _ ((k0.trans g1).trans ((Gr.refl H1).new nq _)) (SqT.of upd_same)⟩, fun z => Bool.noConfusion z⟩
end
end SB
namespace SB
open PySem PySem.Spec PyProof.Rows L2
/-- the table of the code of the def of this name is empty -/
def TabE (K : PySem.W.Frag) (x : Str) (mg : Str → Option Value) (h : Heap) : Prop := ∀ (fa c Q : Addr) (o : Obj) (fd : FuncData) (e : Value) (dd : Option Addr) (vs : Array Value) (sl : Array (Option Value)),
  mg x = some (.ref fa) → K.lookup fa = some o → o.data = .func fd → fd.code = .ref c → K.lookup c = some ⟨e, dd, .fields vs, sl⟩ → vs[11]? = some (.ref Q) → h.get? Q = some { cls := .none, data := .fields #[] }
theorem lk_mem {β : Type} : ∀ {l : List (Addr × β)} {b : Addr} {o : β}, l.lookup b = some o → (b, o) ∈ l
  | [], _, _, e => by cases e
  | (k, v) :: r, b, o, e => by
    rw [List.lookup_cons] at e
    cases h : (b == k) with
    | true =>
      rw [h] at e
      cases e
      rw [beq_iff_eq.mp h]
      exact List.mem_cons_self
    | false =>
      rw [h] at e
      exact List.mem_cons_of_mem _ (lk_mem e)
theorem lk_has {β : Type} : ∀ {l : List (Addr × β)} {p : Addr × β}, p ∈ l → ∃ o, l.lookup p.1 = some o
  | (k, v) :: r, p, h => by
    rw [List.lookup_cons]
    cases e : (p.1 == k) with
    | true => exact ⟨v, rfl⟩
    | false =>
      rcases List.mem_cons.mp h with h | h
      · rw [h] at e
        simp at e
      · exact lk_has h
/-- K with the few objects besides that tell that nobody looks on -/
theorem seer_ext {K : PySem.W.Frag} {h : Heap} (X : K.In h) (N : h.NoSeer) : ∃ K2 : PySem.W.Frag, K2.In h ∧ (∀ b o, K.lookup b = some o → K2.lookup b = some o) ∧ (∀ h2 : Heap, K2.In h2 → h2.NoSeer) ∧
    ∀ b, h.get? b = some { cls := .none, data := .fields #[] } → K.lookup b = none → K2.lookup b = none := by
  obtain ⟨⟨mc, ⟨o1, es1, ep1, g1, d1, r1⟩, c1, c2⟩, ⟨mm, ⟨o2, es2, ep2, g2, d2, r2⟩, m1⟩, ⟨mb, ⟨o3, es3, ep3, g3, d3, r3⟩, b0⟩, ⟨mg, bm, ob, ⟨o4, es4, ep4, g4, d4, r4⟩, q1, g5, q3, q4⟩⟩ := N
  let ex : List (Addr × Obj) := [(cStatics, o1), (sysModules, o2), (builtinsNs, o3), (mainGlobals, o4), (bm, ob)]
  have hex : ∀ p, p ∈ ex → h.get? p.1 = some p.2 := fun p hp => by
    simp only [ex, List.mem_cons, List.not_mem_nil, or_false] at hp
    rcases hp with rfl | rfl | rfl | rfl | rfl <;> assumption
  have mem_of : ∀ {l : List (Addr × Obj)} {b : Addr} {o : Obj}, l.lookup b = some o → (b, o) ∈ l := fun {l b o} e => lk_mem e
  have In2 : (K ++ ex).In h := fun b o e => by
    rw [List.lookup_append] at e
    cases hk : K.lookup b with
    | some o' =>
      rw [hk] at e
      cases e
      exact X _ _ hk
    | none =>
      rw [hk] at e
      exact hex _ (mem_of e)
  have has : ∀ p, p ∈ ex → (K ++ ex).lookup p.1 = some p.2 := fun p hp => by
    have hm : ∀ {l : List (Addr × Obj)} {p : Addr × Obj}, p ∈ l → ∃ o, l.lookup p.1 = some o := fun {l p} h => lk_has h
    obtain ⟨o, ho⟩ := hm (List.mem_append_right K hp)
    have e1 := In2 _ _ ho
    rw [hex p hp] at e1
    rw [ho, ← e1]
  refine ⟨K ++ ex, In2, fun b o e => by rw [List.lookup_append, e]; rfl, fun h2 X2 => ?_, fun b hb hk => ?_⟩
  · have a1 := X2 _ _ (has (cStatics, o1) (by simp [ex]))
    have a2 := X2 _ _ (has (sysModules, o2) (by simp [ex]))
    have a3 := X2 _ _ (has (builtinsNs, o3) (by simp [ex]))
    have a4 := X2 _ _ (has (mainGlobals, o4) (by simp [ex]))
    have a5 := X2 _ _ (has (bm, ob) (by simp [ex]))
    exact ⟨⟨mc, ⟨o1, es1, ep1, a1, d1, r1⟩, c1, c2⟩, ⟨mm, ⟨o2, es2, ep2, a2, d2, r2⟩, m1⟩, ⟨mb, ⟨o3, es3, ep3, a3, d3, r3⟩, b0⟩, ⟨mg, bm, ob, ⟨o4, es4, ep4, a4, d4, r4⟩, q1, a5, q3, q4⟩⟩
  · rw [List.lookup_append, hk]
    cases e : ex.lookup b with
    | none => rfl
    | some o =>
      have hm := mem_of e
      have ho := hex _ hm
      have ho : h.get? b = some o := ho
      rw [hb] at ho
      have eo : o = { cls := .none, data := .fields #[] } := (Option.some.inj ho).symm
      simp only [ex, List.mem_cons, List.not_mem_nil, or_false, Prod.mk.injEq] at hm
      rcases hm with ⟨_, z⟩ | ⟨_, z⟩ | ⟨_, z⟩ | ⟨_, z⟩ | ⟨_, z⟩
      · rw [← z, eo] at d1; cases d1
      · rw [← z, eo] at d2; cases d2
      · rw [← z, eo] at d3; cases d3
      · rw [← z, eo] at d4; cases d4
      · rw [← z, eo] at q3; cases q3
theorem walk_names {l : PySem.W.OpenLaw} {n k : Nat} {q : Program} {loose : List Str} {XP : (Str → Option Value) → Heap → Prop} {YP : World → Heap → Prop} {d : DefRec} {K : Params → PySem.W.Frag} {CX : World → CXT} {x : Str} (names : List Str)
    (hn : l.most = some n) (hn2 : n ≤ sizeLine) (hdf : d.params.defaults = []) (hr : Room k callerA) (hrec : (names.all fun y => (recsOf q).any fun e => e.name == y) = true) (hi : importsNone q = true) (hY : ∀ (w : World) (h : Heap), YP w h → (K w.params).In h)
    (F : ∀ (w : World) (mg : Str → Option Value) (fa : Addr) (h : Heap) (K2 : PySem.W.Frag), (K w.params).In h → h.Ns mainGlobals mg → mg d.name = some (.ref fa) → (∀ y, names.contains y = true → TabE (K w.params) y mg h) → K2.In h → (∀ b o, (K w.params).lookup b = some o → K2.lookup b = some o) → (∀ h2 : Heap, K2.In h2 → h2.NoSeer) →
      (∀ b, h.get? b = some { cls := .none, data := .fields #[] } → (K w.params).lookup b = none → K2.lookup b = none) → LamX.LawAtS l w K2 (CX w) k n x mg fa h)
    (hCX : ∀ (w : World) (H : Hp) (s : Shared) (e : Value) (s' : Shared), CX w [] H s (fun _ _ _ => False) e s' → False) :
    PySem.W.WalkO q loose XP YP l.row.toRowW d [] (fun f vs => PySem.call f vs) := by
  refine Att.attach_callB hn hdf fun w s₀ s₁ mg mb fa o pm cd doc a vs ns G Y ho hd hcd hmg hobj hints hlen hbits hg => ?_
  have KX := hY w _ Y
  have own : ∀ y, names.contains y = true → TabE (K w.params) y mg s₁.heap := fun y hy fa2 c Q o1 fd1 e dd vs1 sl k0 k1 k2 k3 k4 k5 => by
    have hy2 := List.all_eq_true.mp hrec y (by simpa using hy)
    obtain ⟨dL, hm, hn1⟩ := List.any_eq_true.mp hy2
    have e2 : dL.name = y := beq_iff_eq.mp hn1
    obtain ⟨a', o', fd', c', P', h1, h2, h3, h4, h5, h6⟩ := G.T.tab dL hm
    rw [e2, k0] at h1
    cases h1
    have g1 := KX _ _ k1
    rw [g1] at h2
    cases h2
    rw [k2] at h3
    cases h3
    rw [k3] at h4
    cases h4
    obtain ⟨⟨oc, vc, e1, _, e3, e4⟩, hP⟩ := h6
    have g2 := KX _ _ k4
    rw [g2] at e1
    cases e1
    cases e3
    rw [k5] at e4
    cases e4
    exact hP
  obtain ⟨K2, X2, ext, seer, nT2⟩ := seer_ext KX (PyProof.Rows.Top.seer G.T hi)
  obtain ⟨fd, cs, sp, hT, nT, C, hb, hsp, hF⟩ := F w mg fa _ K2 KX G.T.g hmg own X2 ext seer nT2
  exact LamX.law_callTs X2 G.T.g G.T.b G.T.builtins G.T.nolimit hg hT nT C G.T.bmain hobj hints (Nat.le_trans hlen hn2) hr hF hb (fun H hH hS => hsp H a ns hlen hbits hH hS) fun H e s' => hCX w H s₁ e s'
theorem tabB {base : Heap} {mg : Str → Option Value} {c Q : Addr} (b : LamX.TabB base mg c Q) : GxR.TabB base mg c Q := ⟨b.code, b.bm, b.gP⟩
section
variable {K : PySem.W.Frag} {mg : Str → Option Value} {h : Heap} {x : Str} {st : Stmt}
theorem df_mk {f : Addr} {od an : Option Addr} {sl : Array (Option Value)} {oc kV dc pm cd ct : Value} (X : K.In h) (G : h.Ns mainGlobals mg) (a : PySem.W.nsIn K mainGlobals x = some (some (.ref f)))
    (l : K.lookup f = some ⟨oc, od, .func (PySem.W.fnOf x x (defArgs st) (defBody st) (defScope st) .none kV dc pm an cd ct), sl⟩) (c : PySem.W.codeIn K cd x = true) (k : PySem.W.keepIn K (.ref f) = true) : Df K mg x st :=
  ⟨⟨f, _, fun_mk l c k, PySem.W.mg_of X G a⟩⟩
/-- a def whose code object's table is empty yet -/
structure DtE (K : PySem.W.Frag) (mg : Str → Option Value) (h : Heap) (x : Str) (st : Stmt) : Prop where
  ex : ∃ c Q : Addr, DfT K mg x st c ∧ K.lookup Q = none ∧ PySem.W.CodeHd h c Q ∧ h.get? Q = some { cls := .none, data := .fields #[] }
theorem dt_mk {f c Q : Addr} {od an dd : Option Addr} {sl sl2 : Array (Option Value)} {oc kV dc pm ct e : Value} {vs : Array Value} (X : K.In h) (G : h.Ns mainGlobals mg) (T : TabE K x mg h) (a : PySem.W.nsIn K mainGlobals x = some (some (.ref f)))
    (l : K.lookup f = some ⟨oc, od, .func (PySem.W.fnOf x x (defArgs st) (defBody st) (defScope st) .none kV dc pm an (.ref c) ct), sl⟩) (c1 : PySem.W.codeIn K (.ref c) x = true) (k : PySem.W.keepIn K (.ref f) = true)
    (tl : K.lookup c = some ⟨e, dd, .fields vs, sl2⟩) (tv : vs[11]? = some (.ref Q)) (ch : PySem.W.codeHdIn K c Q = true) (tn : K.lookup Q = none) : DtE K mg h x st :=
  ⟨⟨c, Q, ⟨⟨f, _, ⟨⟨oc, od, kV, dc, pm, an, ct, sl, rfl, l, c1⟩, k⟩, PySem.W.mg_of X G a⟩⟩, tn, PySem.W.codeHd_of_K X ch, T f c Q _ _ e dd vs sl2 (PySem.W.mg_of X G a) l rfl rfl tl tv⟩⟩
/-- from K to what holds more -/
structure Ext (K K2 : PySem.W.Frag) (h : Heap) : Prop where
  up : ∀ b o, K.lookup b = some o → K2.lookup b = some o
  no : ∀ b, h.get? b = some { cls := .none, data := .fields #[] } → K.lookup b = none → K2.lookup b = none
theorem Ext.code {K2 : PySem.W.Frag} (e : Ext K K2 h) {cd : Value} {q : Str} (c : PySem.W.codeIn K cd q = true) : PySem.W.codeIn K2 cd q = true := by
  unfold PySem.W.codeIn at c ⊢
  split at c
  · rename_i a
    cases ho : K.lookup a with
    | none =>
      rw [ho] at c
      cases c
    | some o =>
      rw [ho] at c
      simp only [e.up _ _ ho]
      exact c
  · cases c
theorem keep_fn {K2 : PySem.W.Frag} {f : Addr} {oc : Value} {od : Option Addr} {fd : FuncData} {sl : Array (Option Value)} (l : K2.lookup f = some ⟨oc, od, .func fd, sl⟩) : PySem.W.keepIn K2 (.ref f) = true := by
  unfold PySem.W.keepIn
  simp only [l]
theorem Df.ext {K2 : PySem.W.Frag} (e : Ext K K2 h) (D : Df K mg x st) : Df K2 mg x st := by
  obtain ⟨f, fd, F, m⟩ := D.ex
  obtain ⟨oc, od, kV, doc, pm, an, cdv, ct, osl, rfl, lk, hcd⟩ := F.ex
  exact ⟨f, _, ⟨⟨oc, od, kV, doc, pm, an, cdv, ct, osl, rfl, e.up _ _ lk, e.code hcd⟩, keep_fn (e.up _ _ lk)⟩, m⟩
theorem DtE.ext {K2 : PySem.W.Frag} (e : Ext K K2 h) (D : DtE K mg h x st) : DtE K2 mg h x st := by
  obtain ⟨c, Q, ⟨f, fd, F, m⟩, n, ch, emp⟩ := D.ex
  obtain ⟨oc, od, kV, doc, pm, an, ct, osl, rfl, lk, hcd⟩ := F.ex
  exact ⟨c, Q, ⟨f, _, ⟨⟨oc, od, kV, doc, pm, an, ct, osl, rfl, e.up _ _ lk, e.code hcd⟩, keep_fn (e.up _ _ lk)⟩, m⟩, e.no _ emp n, ch, emp⟩
end
end SB
namespace SB
open PySem PySem.Spec PySem.W PyProof.Rows L2
section
variable {K K2 : PySem.W.Frag} {mg : Str → Option Value} {h : Heap} {w : World}
theorem ns_upU {a : Addr} {o : Obj} {x : Str} (e : Ext K K2 h) (l : K.lookup a = some o) : PySem.W.nsIn K2 a x = PySem.W.nsIn K a x := by
  unfold PySem.W.nsIn
  rw [e.up _ _ l, l]
theorem kdict_upU {d : Addr} {es : Array DictEntry} {n : Nat} (e : Ext K K2 h) (D : KDict K w d es n) : KDict K2 w d es n := ⟨e.up _ _ D.at_, D.lit, D.low⟩
theorem SignA.ext (e : Ext K K2 h) (A : SignA K w mg) : SignA K2 w mg := by
  obtain ⟨d, es, n, t1, t2, t3, h1, h2, a1, a2, a3, a4, a5⟩ := A.ex
  have u : ∀ x, PySem.W.nsIn K2 d x = PySem.W.nsIn K d x := fun x => ns_upU e h2.at_
  exact ⟨d, es, n, t1, t2, t3, h1, kdict_upU e h2, (u _).trans a1, (u _).trans a2, (u _).trans a3, (u _).trans a4, a5⟩
theorem most_mk {t : Tok} (X : K.In h) (G : h.Ns mainGlobals mg) (a : PySem.W.nsIn K mainGlobals "MOST_DIGITS" = some (some (.int 9 t))) : MostD mg := ⟨t, PySem.W.mg_of X G a⟩
theorem signA_mk {d : Addr} {es : Array DictEntry} {n : Nat} {t1 t2 t3 : Tok} (X : K.In h) (G : h.Ns mainGlobals mg) (a : PySem.W.nsIn K mainGlobals "SIGNS" = some (some (.ref d))) (l : K.lookup d = some ⟨.type "dict", none, .dict es n, #[]⟩) (k : PySem.W.KeysLit w.params es.toList) (lo : (d == sysModules) = false)
    (a1 : PySem.W.nsIn K d "-" = some (some (.int (-1) t1))) (a2 : PySem.W.nsIn K d "0" = some (some (.int 0 t2))) (a3 : PySem.W.nsIn K d "+" = some (some (.int 1 t3))) (a4 : PySem.W.nsIn K d "?" = some (some .none)) (ks : es.toList.map keyStr = ([("-" : Str), "0", "+", "?"]).map some) : SignA K w mg :=
  ⟨d, es, n, t1, t2, t3, PySem.W.mg_of X G a, ⟨l, k, lo⟩, a1, a2, a3, a4, ks⟩
/-- the class Unreadable -/
structure ErrR (K : Frag) (mg : Str → Option Value) : Prop where
  ex : ∃ fI cU, ErrB K mg fI cU
theorem ErrR.ext (e : Ext K K2 h) (F : ErrR K mg) : ErrR K2 mg := by
  obtain ⟨fI, cU, R⟩ := F.ex
  exact ⟨fI, cU, ⟨⟨R.r.u.more e.up, ⟨R.r.c.txt.more e.up, R.r.c.at'⟩⟩, up_exm e.up R.m⟩⟩
theorem errR_mk {fI B c : Addr} (X : K.In h) (G : h.Ns mainGlobals mg)
    (aB : nsIn K mainGlobals "BookError" = some (some (.ref B))) (jB : findIn K (.ref B) "__init__" = some (some (.ref fI)))
    (aC : nsIn K mainGlobals "Unreadable" = some (some (.ref c))) (lC : ClsAt K c (.ref B :: veT)) (eC : errB K c fI = true) (bC : exB K c c = true)
    {odI anI : Option Addr} {slI : Array (Option Value)} {ocI dcI pmI cdI ctI : Value} {p1 p2 q1 q2 q3 q4 : Pos}
    (tI : typeIn K (.ref fI) = some (.type "function")) (hn : specialIn K (.builtin "object.__class__") "__get__" = some (some (.builtin "getset_descriptor.__get__"))) (ht : takesIn K (.builtin "object.__class__") = some true)
    (lI : K.lookup fI = some ⟨ocI, odI, .func (fnOf "__init__" "BookError.__init__" (iA p1 p2) (iB q1 q2 q3 q4) iS .none .none dcI pmI anI cdI ctI), slI⟩) (dI : codeIn K cdI "BookError.__init__" = true) : ErrR K mg :=
  ⟨fI, c, ⟨⟨⟨tI, hn, ht, ⟨_, _, _, _, _, _, _, _, _, _, _, _, _, _, lI, dI⟩⟩, ⟨err_at eC lC rfl, mg_of X G aC⟩⟩, of_decide_eq_true bC⟩⟩
end
end SB
namespace SB
open PySem PySem.Spec PyProof.Rows L2
theorem law_at {l : PySem.W.OpenLaw} {w : World} {K : PySem.W.Frag} {mg : Str → Option Value} {h : Heap} {fa : Addr} (hmg : mg "law" = some (.ref fa)) (NS : NSK l.prog K) (B : Blt mg) (benumerate : mg "enumerate" = none)
    (MD : MostD mg)
    (SD : SignA K w mg)
    (EG : ErrR K mg)
    (E_wish_in : DtE K mg h "wish_in" s_wish_in)
    (D_is_whole : Df K mg "is_whole" s_is_whole)
    (D_are_wholes : Df K mg "are_wholes" s_are_wholes)
    (D_are_sides : Df K mg "are_sides" s_are_sides)
    (D_is_question : Df K mg "is_question" s_is_question)
    (D_is_question_of : Df K mg "is_question_of" s_is_question_of)
    (D_common_of : Df K mg "common_of" s_common_of)
    (D_begins_at : Df K mg "begins_at" s_begins_at)
    (D_normal_form : Df K mg "normal_form" s_normal_form)
    (D_is_book : Df K mg "is_book" s_is_book)
    (D__is_many : Df K mg "_is_many" s__is_many)
    (D_nought_form : Df K mg "nought_form" s_nought_form)
    (D_read_number : Df K mg "read_number" s_read_number)
    (D_read_point : Df K mg "read_point" s_read_point)
    (D_read_row : Df K mg "read_row" s_read_row)
    (D_read_wish : Df K mg "read_wish" s_read_wish)
    (D_read_book : Df K mg "read_book" s_read_book)
    (D_read_saying : Df K mg "read_saying" s_read_saying)
    (D_integer_in : Df K mg "integer_in" s_integer_in)
    (D_number_in : Df K mg "number_in" s_number_in)
    (D_point_in : Df K mg "point_in" s_point_in)
    (D_row_in : Df K mg "row_in" s_row_in)
    (D__read_alone : Df K mg "_read_alone" s__read_alone)
    (D__lines_of : Df K mg "_lines_of" s__lines_of)
    (D__all_or_none : Df K mg "_all_or_none" s__all_or_none)
    (D__sides_in : Df K mg "_sides_in" s__sides_in)
    (D__question_in : Df K mg "_question_in" s__question_in)
    (D__saying_in : Df K mg "_saying_in" s__saying_in)
    (D__opened_at : Df K mg "_opened_at" s__opened_at)
    (D__law_well : Df K mg "_law_well" s__law_well)
    (D__law_draw : Df K mg "_law_draw" s__law_draw)
    (D__law_same : Df K mg "_law_same" s__law_same)
    (D__law_divided : Df K mg "_law_divided" s__law_divided)
    (D__law_ground : Df K mg "_law_ground" s__law_ground)
    (D__law_unlike : Df K mg "_law_unlike" s__law_unlike)
    (D__law_power : Df K mg "_law_power" s__law_power)
    (D__law_integer : Df K mg "_law_integer" s__law_integer)
    (D__law_sided : Df K mg "_law_sided" s__law_sided)
    (D__law_book : Df K mg "_law_book" s__law_book)
    (D__law_said_question : Df K mg "_law_said_question" s__law_said_question)
    (D__law_said_book : Df K mg "_law_said_book" s__law_said_book)
    (D__law_sign : Df K mg "_law_sign" s__law_sign)
    (D__law_odd_word : Df K mg "_law_odd_word" s__law_odd_word)
    (D__law_bent_signs : Df K mg "_law_bent_signs" s__law_bent_signs)
    (D__law_bent_parts : Df K mg "_law_bent_parts" s__law_bent_parts)
    (D__law_integer_in : Df K mg "_law_integer_in" s__law_integer_in)
    (D__law_all_in : Df K mg "_law_all_in" s__law_all_in)
    (D__law_integers_in : Df K mg "_law_integers_in" s__law_integers_in)
    (D__law_question_in : Df K mg "_law_question_in" s__law_question_in)
    (D__law_due : Df K mg "_law_due" s__law_due)
    (D__law_read : Df K mg "_law_read" s__law_read)
    (D__law_told : Df K mg "_law_told" s__law_told)
    (D__law_odd_line : Df K mg "_law_odd_line" s__law_odd_line)
    (D__law_bent : Df K mg "_law_bent" s__law_bent)
    (D__law_others_right : Df K mg "_law_others_right" s__law_others_right)
    (D_law : Df K mg "law" s_law) :
    LamX.LawAtS l w K CX0 42 63 "script" mg fa h := by
  obtain ⟨c0, Q0, T_wish_in, n0, ch0, e0⟩ := E_wish_in.ex
  obtain ⟨f, fd, F, m⟩ := D_law.ex
  rw [m] at hmg
  cases hmg
  obtain ⟨fI, cU, R⟩ := EG.ex
  have nl : ∀ p : Addr × Addr, ¬ p ∈ ([] : List (Addr × Addr)) := fun p h => nomatch h
  refine ⟨fd, [(c0, Q0)], spLaw K (fun i => [1, Q0].getD i 0), (List.forall_mem_cons.mpr ⟨e0, (fun p h => absurd h (nl p))⟩), (List.forall_mem_cons.mpr ⟨n0, (fun p h => absurd h (nl p))⟩), (List.forall_mem_cons.mpr ⟨ch0, (fun p h => absurd h (nl p))⟩), fun s u => ?_, fun H a ns hl _ hH hS => ?_, fun base _ _ tb => ?_⟩
  · obtain ⟨oc, od, kV, doc, pm, an, cdv, ct, osl, rfl, lk, hcd⟩ := F.ex
    exact .of_eq rfl
  · refine ⟨a, ns, rfl, hS, hl, ⟨fun i hi => ?_⟩, fun _ => rfl⟩
    have hi : i < 1 := hi
    match i, hi with
    | 0, _ => exact ⟨#[], hH (c0, Q0) (List.mem_cons_self), trivial⟩
  have B0 : GxR.TabB base mg c0 Q0 := tabB (tb (c0, Q0) (List.mem_cons_self))
  have Cwhole := cl_whole (P := l.prog) (w := w) (base := base) D_is_whole B
  have Ccommon := cl_common (P := l.prog) (w := w) (base := base) D_common_of B
  have Cbegins := cl_begins (P := l.prog) (w := w) (base := base) D_begins_at
  have Cnorm := cl_norm D_normal_form B NS Ccommon Cbegins
  have Cnought := cl_nought D_nought_form Cnorm
  have CwholesD := cl_wholesD D_are_wholes Cwhole
  have CsidesD := cl_sidesD D_are_sides B CwholesD
  have CquestD := cl_questD D_is_question B Cwhole CsidesD
  have CquestOfD := cl_questOfD D_is_question_of B CquestD
  have CmanyD := cl_manyD D__is_many Cwhole
  have CbookD := cl_bookD D_is_book B CmanyD CquestOfD Cnought
  have Cwell := cl_well (P := l.prog) (w := w) (base := base) D__law_well B
  have Cdraw := cl_draw (P := l.prog) (w := w) (base := base) D__law_draw B
  have Cwsame := cl_wsame (P := l.prog) (w := w) (base := base) D__law_same B 15
  have Cwdiv := cl_wdiv (P := l.prog) (w := w) (base := base) D__law_divided B
  have Cwgr := cl_wgr D__law_ground B Cwdiv
  have Cwunl := cl_wunl D__law_unlike B Cwgr
  have Cpow := cl_power (P := l.prog) (w := w) (base := base) D__law_power B
  have Cint := cl_integer D__law_integer Cdraw Cpow
  have Csided := cl_sided D__law_sided B Cdraw Cint
  have CbookB := cl_bookB D__law_book B Cdraw Csided Cwunl
  have ClsQu := cl_lsQu (P := l.prog) (w := w) (base := base) D__law_said_question B
  have ClsBook := cl_lsBook D__law_said_book B ClsQu
  have Clsign := cl_lsign D__law_sign B Cdraw
  have Coddw := cl_oddw D__law_odd_word B Cdraw
  have Cbents := cl_bents D__law_bent_signs B Cdraw Clsign
  have Cbentp := cl_bentp D__law_bent_parts B Cdraw
  have Clint := cl_lint (P := l.prog) (w := w) (base := base) D__law_integer_in B
  have Clall := cl_lall (P := l.prog) (w := w) (base := base) D__law_all_in B
  have Clints := cl_lints D__law_integers_in Clint Clall
  have Clqu := cl_lqu D__law_question_in Clint Clall Clints
  have Cdue := cl_due D__law_due B Clint Clqu Cwunl
  have Coddl := cl_oddl D__law_odd_line B Cdraw ClsQu
  have Cbent := cl_bent D__law_bent B Cdraw Cbents Cbentp Coddl Coddw
  have CintA := cl_intA (P := l.prog) (w := w) (base := base) D_integer_in B MD
  have CallA := cl_allB (P := l.prog) (w := w) (base := base) D__all_or_none B
  have Clines := cl_lines (P := l.prog) (w := w) (base := base) D__lines_of B
  have CnumA := cl_numA D_number_in B CintA
  have CsdsA := cl_sdsA D__sides_in CintA CallA
  have CptA := cl_ptA D_point_in CnumA CallA
  have CquA := cl_quA D__question_in CintA CsdsA
  have CwishA := cl_wishA (P := l.prog) (T := fun i => [1, Q0].getD i 0) Nat.one_pos T_wish_in B0 B SD
  have CrowA := cl_rowA D_row_in CwishA
  have CopenN := cl_openN (P := l.prog) (w := w) (base := base) D__opened_at
  have CsayN := cl_sayN D__saying_in CopenN
  have X0 := rdk_of (T := fun i => [1, Q0].getD i 0) (k := 0) (cx_rdNum D_read_number D__read_alone B R.r Clines CnumA) (fun _ _ => trivial) (by decide) (fun z h l0 r e => (h l0 r e).1)
  have X1 := rdk_of (T := fun i => [1, Q0].getD i 0) (k := 1) (cx_rdPt D_read_point D__read_alone B R.r Clines CptA) (fun _ _ => trivial) (by decide) (fun z h l0 r e => (h l0 r e).2.1)
  have X2 := rdk_of (T := fun i => [1, Q0].getD i 0) (k := 2) (cx_rdRow D_read_row D__read_alone B R.r Clines CrowA) (fun _ h => h) (by decide) (fun z h l0 r e => (h l0 r e).2.2.1)
  have X3 := rdk_of (T := fun i => [1, Q0].getD i 0) (k := 3) (cx_rdWish D_read_wish D__read_alone B R.r Clines CwishA) (fun _ h => h) (by decide) (fun z h l0 r e => (h l0 r e).2.2.2.1)
  have X4 := rdk_bk (T := fun i => [1, Q0].getD i 0) (cx_rdBook D_read_book B benumerate R.r Clines CintA CquA CbookD)
  have X5 := rdk_say (T := fun i => [1, Q0].getD i 0) (cx_rdSayN D_read_saying D__read_alone B R.r Clines CsayN)
  have Y0 := clKX1a X0 D_read_number fun _ _ _ _ _ _ _ => rfl
  have Y1 := clKX1a X1 D_read_point fun _ _ _ _ _ _ _ => rfl
  have Y2 := clKX1a X2 D_read_row fun _ _ _ _ _ _ _ => rfl
  have Y3 := clKX1a X3 D_read_wish fun _ _ _ _ _ _ _ => rfl
  have Y4 := clKX1a X4 D_read_book fun _ _ _ _ _ _ _ => rfl
  have Y5 := clKX1a X5 D_read_saying fun _ _ _ _ _ _ _ => rfl
  have Clread := cx_lread D__law_read X0 X1 X2 X3 X4 X5 Y0 Y1 Y2 Y3 Y4 Y5
  have Ctold := cl_ltold D__law_told R Clread
  have Cothers := cl_others D__law_others_right B Cdraw Ctold Cwsame
  exact ok_law F B Cwell Cdraw Cwsame CbookB ClsBook Cbent Cdue Ctold Cothers
end SB
open PySem PySem.W PyProof.Rows
set_option maxRecDepth 100000 in
set_option maxHeartbeats 0 in
theorem PySem.Challenge.cw_sidebooks_k50_whole_books_bent_holds : PySem.Challenge.rw_sidebooks_k50_whole_books_bent.Holds := by
  w_on; o_law; k_head; (case hw => w_witness2)
  k_fill
  refine SB.walk_names (l := PySem.Challenge.rw_sidebooks_k50_whole_books_bent) (n := 63) (k := 42) (x := "script") (CX := fun _ => L2.CX0) ["wish_in"] rfl (by decide) rfl ⟨rfl, by decide, by decide⟩ ?R ?I (fun w h Y => PySem.W.kIn_of Y) ?F (fun _ _ _ _ _ z => z)
  case R => decide +kernel
  case I => decide +kernel
  case F =>
    intro w mg fa h K2 KX G hmg hT X2 up seer no
    refine' SB.law_at (K := K2) hmg ⟨seer, rfl⟩ ?B ?xenumerate (id ?F_MD) (SB.SignA.ext ⟨up, no⟩ ?F_SD) (SB.ErrR.ext ⟨up, no⟩ ?F_EG) (SB.DtE.ext ⟨up, no⟩ ?E_wish_in) (SB.Df.ext ⟨up, no⟩ ?D_is_whole) (SB.Df.ext ⟨up, no⟩ ?D_are_wholes) (SB.Df.ext ⟨up, no⟩ ?D_are_sides) (SB.Df.ext ⟨up, no⟩ ?D_is_question) (SB.Df.ext ⟨up, no⟩ ?D_is_question_of) (SB.Df.ext ⟨up, no⟩ ?D_common_of) (SB.Df.ext ⟨up, no⟩ ?D_begins_at) (SB.Df.ext ⟨up, no⟩ ?D_normal_form) (SB.Df.ext ⟨up, no⟩ ?D_is_book) (SB.Df.ext ⟨up, no⟩ ?D__is_many) (SB.Df.ext ⟨up, no⟩ ?D_nought_form) (SB.Df.ext ⟨up, no⟩ ?D_read_number) (SB.Df.ext ⟨up, no⟩ ?D_read_point) (SB.Df.ext ⟨up, no⟩ ?D_read_row) (SB.Df.ext ⟨up, no⟩ ?D_read_wish) (SB.Df.ext ⟨up, no⟩ ?D_read_book) (SB.Df.ext ⟨up, no⟩ ?D_read_saying) (SB.Df.ext ⟨up, no⟩ ?D_integer_in) (SB.Df.ext ⟨up, no⟩ ?D_number_in) (SB.Df.ext ⟨up, no⟩ ?D_point_in) (SB.Df.ext ⟨up, no⟩ ?D_row_in) (SB.Df.ext ⟨up, no⟩ ?D__read_alone) (SB.Df.ext ⟨up, no⟩ ?D__lines_of) (SB.Df.ext ⟨up, no⟩ ?D__all_or_none) (SB.Df.ext ⟨up, no⟩ ?D__sides_in) (SB.Df.ext ⟨up, no⟩ ?D__question_in) (SB.Df.ext ⟨up, no⟩ ?D__saying_in) (SB.Df.ext ⟨up, no⟩ ?D__opened_at) (SB.Df.ext ⟨up, no⟩ ?D__law_well) (SB.Df.ext ⟨up, no⟩ ?D__law_draw) (SB.Df.ext ⟨up, no⟩ ?D__law_same) (SB.Df.ext ⟨up, no⟩ ?D__law_divided) (SB.Df.ext ⟨up, no⟩ ?D__law_ground) (SB.Df.ext ⟨up, no⟩ ?D__law_unlike) (SB.Df.ext ⟨up, no⟩ ?D__law_power) (SB.Df.ext ⟨up, no⟩ ?D__law_integer) (SB.Df.ext ⟨up, no⟩ ?D__law_sided) (SB.Df.ext ⟨up, no⟩ ?D__law_book) (SB.Df.ext ⟨up, no⟩ ?D__law_said_question) (SB.Df.ext ⟨up, no⟩ ?D__law_said_book) (SB.Df.ext ⟨up, no⟩ ?D__law_sign) (SB.Df.ext ⟨up, no⟩ ?D__law_odd_word) (SB.Df.ext ⟨up, no⟩ ?D__law_bent_signs) (SB.Df.ext ⟨up, no⟩ ?D__law_bent_parts) (SB.Df.ext ⟨up, no⟩ ?D__law_integer_in) (SB.Df.ext ⟨up, no⟩ ?D__law_all_in) (SB.Df.ext ⟨up, no⟩ ?D__law_integers_in) (SB.Df.ext ⟨up, no⟩ ?D__law_question_in) (SB.Df.ext ⟨up, no⟩ ?D__law_due) (SB.Df.ext ⟨up, no⟩ ?D__law_read) (SB.Df.ext ⟨up, no⟩ ?D__law_told) (SB.Df.ext ⟨up, no⟩ ?D__law_odd_line) (SB.Df.ext ⟨up, no⟩ ?D__law_bent) (SB.Df.ext ⟨up, no⟩ ?D__law_others_right) (SB.Df.ext ⟨up, no⟩ ?D_law)
    case F_MD =>
      exact SB.most_mk KX G (by k_is)
    case F_SD =>
      refine' SB.signA_mk KX G ?a ?l ?k ?lo ?a1 ?a2 ?a3 ?a4 ?ks
      (case a => k_is); (case l => k_is)
      (case k => exact ⟨⟨_, _, rfl, rfl⟩, ⟨_, _, rfl, rfl⟩, ⟨_, _, rfl, rfl⟩, ⟨_, _, rfl, rfl⟩, trivial⟩); (case lo => rfl)
      (case a1 => k_is); (case a2 => k_is); (case a3 => k_is); (case a4 => k_is)
      (case ks => first | kernel_rfl | decide +kernel)
    case F_EG =>
      refine' SB.errR_mk KX G ?aB ?jB ?aC ?lC ?eC ?bC ?tI ?hn ?ht ?lI ?dI
      (case aB => k_is); (case jB => k_is); (case aC => k_is)
      (case lC => exact SB.cls_mk (by k_is))
      (case tI => k_is); (case hn => k_is); (case ht => k_is); (case lI => k_is); (case dI => k_is)
      (case eC => first | kernel_rfl | exact (by with_unfolding_all rfl)); (case bC => first | kernel_rfl | exact (by with_unfolding_all rfl))
    case E_wish_in =>
      refine' SB.dt_mk KX G (hT "wish_in" (by decide +kernel)) ?a ?l ?c ?k ?tl ?tv ?ch ?tn
      (case a => k_is)
      (case l => k_is)
      (case c => k_is)
      (case k => k_is)
      (case tl => k_is); (case tv => exact rfl)
      (case ch => kernel_rfl); (case tn => kernel_rfl)
    case D_is_whole =>
      refine' SB.df_mk KX G ?a ?l ?c ?k
      (case a => k_is)
      (case l => k_is)
      (case c => k_is)
      (case k => k_is)
    case D_are_wholes =>
      refine' SB.df_mk KX G ?a ?l ?c ?k
      (case a => k_is)
      (case l => k_is)
      (case c => k_is)
      (case k => k_is)
    case D_are_sides =>
      refine' SB.df_mk KX G ?a ?l ?c ?k
      (case a => k_is)
      (case l => k_is)
      (case c => k_is)
      (case k => k_is)
    case D_is_question =>
      refine' SB.df_mk KX G ?a ?l ?c ?k
      (case a => k_is)
      (case l => k_is)
      (case c => k_is)
      (case k => k_is)
    case D_is_question_of =>
      refine' SB.df_mk KX G ?a ?l ?c ?k
      (case a => k_is)
      (case l => k_is)
      (case c => k_is)
      (case k => k_is)
    case D_common_of =>
      refine' SB.df_mk KX G ?a ?l ?c ?k
      (case a => k_is)
      (case l => k_is)
      (case c => k_is)
      (case k => k_is)
    case D_begins_at =>
      refine' SB.df_mk KX G ?a ?l ?c ?k
      (case a => k_is)
      (case l => k_is)
      (case c => k_is)
      (case k => k_is)
    case D_normal_form =>
      refine' SB.df_mk KX G ?a ?l ?c ?k
      (case a => k_is)
      (case l => k_is)
      (case c => k_is)
      (case k => k_is)
    case D_is_book =>
      refine' SB.df_mk KX G ?a ?l ?c ?k
      (case a => k_is)
      (case l => k_is)
      (case c => k_is)
      (case k => k_is)
    case D__is_many =>
      refine' SB.df_mk KX G ?a ?l ?c ?k
      (case a => k_is)
      (case l => k_is)
      (case c => k_is)
      (case k => k_is)
    case D_nought_form =>
      refine' SB.df_mk KX G ?a ?l ?c ?k
      (case a => k_is)
      (case l => k_is)
      (case c => k_is)
      (case k => k_is)
    case D_read_number =>
      refine' SB.df_mk KX G ?a ?l ?c ?k
      (case a => k_is)
      (case l => k_is)
      (case c => k_is)
      (case k => k_is)
    case D_read_point =>
      refine' SB.df_mk KX G ?a ?l ?c ?k
      (case a => k_is)
      (case l => k_is)
      (case c => k_is)
      (case k => k_is)
    case D_read_row =>
      refine' SB.df_mk KX G ?a ?l ?c ?k
      (case a => k_is)
      (case l => k_is)
      (case c => k_is)
      (case k => k_is)
    case D_read_wish =>
      refine' SB.df_mk KX G ?a ?l ?c ?k
      (case a => k_is)
      (case l => k_is)
      (case c => k_is)
      (case k => k_is)
    case D_read_book =>
      refine' SB.df_mk KX G ?a ?l ?c ?k
      (case a => k_is)
      (case l => k_is)
      (case c => k_is)
      (case k => k_is)
    case D_read_saying =>
      refine' SB.df_mk KX G ?a ?l ?c ?k
      (case a => k_is)
      (case l => k_is)
      (case c => k_is)
      (case k => k_is)
    case D_integer_in =>
      refine' SB.df_mk KX G ?a ?l ?c ?k
      (case a => k_is)
      (case l => k_is)
      (case c => k_is)
      (case k => k_is)
    case D_number_in =>
      refine' SB.df_mk KX G ?a ?l ?c ?k
      (case a => k_is)
      (case l => k_is)
      (case c => k_is)
      (case k => k_is)
    case D_point_in =>
      refine' SB.df_mk KX G ?a ?l ?c ?k
      (case a => k_is)
      (case l => k_is)
      (case c => k_is)
      (case k => k_is)
    case D_row_in =>
      refine' SB.df_mk KX G ?a ?l ?c ?k
      (case a => k_is)
      (case l => k_is)
      (case c => k_is)
      (case k => k_is)
    case D__read_alone =>
      refine' SB.df_mk KX G ?a ?l ?c ?k
      (case a => k_is)
      (case l => k_is)
      (case c => k_is)
      (case k => k_is)
    case D__lines_of =>
      refine' SB.df_mk KX G ?a ?l ?c ?k
      (case a => k_is)
      (case l => k_is)
      (case c => k_is)
      (case k => k_is)
    case D__all_or_none =>
      refine' SB.df_mk KX G ?a ?l ?c ?k
      (case a => k_is)
      (case l => k_is)
      (case c => k_is)
      (case k => k_is)
    case D__sides_in =>
      refine' SB.df_mk KX G ?a ?l ?c ?k
      (case a => k_is)
      (case l => k_is)
      (case c => k_is)
      (case k => k_is)
    case D__question_in =>
      refine' SB.df_mk KX G ?a ?l ?c ?k
      (case a => k_is)
      (case l => k_is)
      (case c => k_is)
      (case k => k_is)
    case D__saying_in =>
      refine' SB.df_mk KX G ?a ?l ?c ?k
      (case a => k_is)
      (case l => k_is)
      (case c => k_is)
      (case k => k_is)
    case D__opened_at =>
      refine' SB.df_mk KX G ?a ?l ?c ?k
      (case a => k_is)
      (case l => k_is)
      (case c => k_is)
      (case k => k_is)
    case D__law_well =>
      refine' SB.df_mk KX G ?a ?l ?c ?k
      (case a => k_is)
      (case l => k_is)
      (case c => k_is)
      (case k => k_is)
    case D__law_draw =>
      refine' SB.df_mk KX G ?a ?l ?c ?k
      (case a => k_is)
      (case l => k_is)
      (case c => k_is)
      (case k => k_is)
    case D__law_same =>
      refine' SB.df_mk KX G ?a ?l ?c ?k
      (case a => k_is)
      (case l => k_is)
      (case c => k_is)
      (case k => k_is)
    case D__law_divided =>
      refine' SB.df_mk KX G ?a ?l ?c ?k
      (case a => k_is)
      (case l => k_is)
      (case c => k_is)
      (case k => k_is)
    case D__law_ground =>
      refine' SB.df_mk KX G ?a ?l ?c ?k
      (case a => k_is)
      (case l => k_is)
      (case c => k_is)
      (case k => k_is)
    case D__law_unlike =>
      refine' SB.df_mk KX G ?a ?l ?c ?k
      (case a => k_is)
      (case l => k_is)
      (case c => k_is)
      (case k => k_is)
    case D__law_power =>
      refine' SB.df_mk KX G ?a ?l ?c ?k
      (case a => k_is)
      (case l => k_is)
      (case c => k_is)
      (case k => k_is)
    case D__law_integer =>
      refine' SB.df_mk KX G ?a ?l ?c ?k
      (case a => k_is)
      (case l => k_is)
      (case c => k_is)
      (case k => k_is)
    case D__law_sided =>
      refine' SB.df_mk KX G ?a ?l ?c ?k
      (case a => k_is)
      (case l => k_is)
      (case c => k_is)
      (case k => k_is)
    case D__law_book =>
      refine' SB.df_mk KX G ?a ?l ?c ?k
      (case a => k_is)
      (case l => k_is)
      (case c => k_is)
      (case k => k_is)
    case D__law_said_question =>
      refine' SB.df_mk KX G ?a ?l ?c ?k
      (case a => k_is)
      (case l => k_is)
      (case c => k_is)
      (case k => k_is)
    case D__law_said_book =>
      refine' SB.df_mk KX G ?a ?l ?c ?k
      (case a => k_is)
      (case l => k_is)
      (case c => k_is)
      (case k => k_is)
    case D__law_sign =>
      refine' SB.df_mk KX G ?a ?l ?c ?k
      (case a => k_is)
      (case l => k_is)
      (case c => k_is)
      (case k => k_is)
    case D__law_odd_word =>
      refine' SB.df_mk KX G ?a ?l ?c ?k
      (case a => k_is)
      (case l => k_is)
      (case c => k_is)
      (case k => k_is)
    case D__law_bent_signs =>
      refine' SB.df_mk KX G ?a ?l ?c ?k
      (case a => k_is)
      (case l => k_is)
      (case c => k_is)
      (case k => k_is)
    case D__law_bent_parts =>
      refine' SB.df_mk KX G ?a ?l ?c ?k
      (case a => k_is)
      (case l => k_is)
      (case c => k_is)
      (case k => k_is)
    case D__law_integer_in =>
      refine' SB.df_mk KX G ?a ?l ?c ?k
      (case a => k_is)
      (case l => k_is)
      (case c => k_is)
      (case k => k_is)
    case D__law_all_in =>
      refine' SB.df_mk KX G ?a ?l ?c ?k
      (case a => k_is)
      (case l => k_is)
      (case c => k_is)
      (case k => k_is)
    case D__law_integers_in =>
      refine' SB.df_mk KX G ?a ?l ?c ?k
      (case a => k_is)
      (case l => k_is)
      (case c => k_is)
      (case k => k_is)
    case D__law_question_in =>
      refine' SB.df_mk KX G ?a ?l ?c ?k
      (case a => k_is)
      (case l => k_is)
      (case c => k_is)
      (case k => k_is)
    case D__law_due =>
      refine' SB.df_mk KX G ?a ?l ?c ?k
      (case a => k_is)
      (case l => k_is)
      (case c => k_is)
      (case k => k_is)
    case D__law_read =>
      refine' SB.df_mk KX G ?a ?l ?c ?k
      (case a => k_is)
      (case l => k_is)
      (case c => k_is)
      (case k => k_is)
    case D__law_told =>
      refine' SB.df_mk KX G ?a ?l ?c ?k
      (case a => k_is)
      (case l => k_is)
      (case c => k_is)
      (case k => k_is)
    case D__law_odd_line =>
      refine' SB.df_mk KX G ?a ?l ?c ?k
      (case a => k_is)
      (case l => k_is)
      (case c => k_is)
      (case k => k_is)
    case D__law_bent =>
      refine' SB.df_mk KX G ?a ?l ?c ?k
      (case a => k_is)
      (case l => k_is)
      (case c => k_is)
      (case k => k_is)
    case D__law_others_right =>
      refine' SB.df_mk KX G ?a ?l ?c ?k
      (case a => k_is)
      (case l => k_is)
      (case c => k_is)
      (case k => k_is)
    case D_law =>
      refine' SB.df_mk KX G ?a ?l ?c ?k
      (case a => k_is)
      (case l => k_is)
      (case c => k_is)
      (case k => k_is)
    case B =>
      refine' ⟨PySem.W.mg_none_of KX G ?z_len, PySem.W.mg_none_of KX G ?z_int, PySem.W.mg_none_of KX G ?z_isinstance, PySem.W.mg_none_of KX G ?z_tuple, PySem.W.mg_none_of KX G ?z_list, PySem.W.mg_none_of KX G ?z_str, PySem.W.mg_none_of KX G ?z_bool, PySem.W.mg_none_of KX G ?z_range, PySem.W.mg_none_of KX G ?z_abs, PySem.W.mg_none_of KX G ?z_max, PySem.W.mg_none_of KX G ?z_min, PySem.W.mg_none_of KX G ?z_any, PySem.W.mg_none_of KX G ?z_all, PySem.W.mg_none_of KX G ?z_zip, PySem.W.mg_of KX G ?z_gcd⟩
      (case z_len => k_is)
      (case z_int => k_is)
      (case z_isinstance => k_is)
      (case z_tuple => k_is)
      (case z_list => k_is)
      (case z_str => k_is)
      (case z_bool => k_is)
      (case z_range => k_is)
      (case z_abs => k_is)
      (case z_max => k_is)
      (case z_min => k_is)
      (case z_any => k_is)
      (case z_all => k_is)
      (case z_zip => k_is)
      (case z_gcd => k_is)
    case xenumerate => exact PySem.W.mg_none_of KX G (by k_is)
