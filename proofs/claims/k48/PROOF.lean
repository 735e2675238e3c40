import PyProof.Rows.All
import Wide.All
import OpenK.AllK
import Wide.FinOn
import PySem.Challenge.RW_sidebooks_k48_whole_texts_there_and_back
import HandS.ForExc
import HandS.ForMost
import HandS.Wide
import HandS.IsInst
import HandS.Flow
import HandS.Call
import PyProof.NoPylong
import PyProof.Rows.RuleB_floordiv
import HandS.TupSets
import HandS.SetBool
import KE.KeyNested
import HandS.Comp
import HandS.AnyAll
import HandS.GenOver
import PyProof.GenRules
import PyProof.GenQ
import PyProof.ConsumeS
import HandS.Gcd
import HandS.Zip
import HandS.TupMul
import HandS.TupAny
import PyProof.WalksMore
import HandS.TryOnly
import HandS.Style
import HandS.WordsDict
import HandS.List
import PyProof.Rows.SeqCalls
import PyProof.ListMulRoad
import PyProof.FactsAll.tuple_2
import HandS.Base
import PyProof.ReprRoads
import HandS.Ends
import KE.KRevSl
import HandS.SetKeys
import HandS.Deep
import HandS.More
import HandS.Text
import HandS.FStr
import HandS.NoneIn
import HandS.StrMore
import HandS.CallLocal
import PyProof.StrLawsFrom
import HandS.EndOwn
import KE.KNestM
set_option Elab.async false
set_option linter.all false
set_option maxRecDepth 100000
set_option maxHeartbeats 8000000
namespace SB
open PySem L2
def topI (i : Nat) : Stmt := PySem.Challenge.pw_sidebooks_k48_whole_texts_there_and_back.main.body.getD i (.Pass ⟨0, 0, 0, 0⟩)
abbrev s_is_whole : Stmt := topI 5
abbrev s_are_wholes : Stmt := topI 6
abbrev s_are_sides : Stmt := topI 7
abbrev s_is_question : Stmt := topI 8
abbrev s_is_question_of : Stmt := topI 9
abbrev s_common_of : Stmt := topI 10
abbrev s_begins_at : Stmt := topI 11
abbrev s_normal_form : Stmt := topI 12
abbrev s_is_book : Stmt := topI 14
abbrev s__is_many : Stmt := topI 15
abbrev s_nought_form : Stmt := topI 16
abbrev s_read_number : Stmt := topI 22
abbrev s_read_point : Stmt := topI 23
abbrev s_read_row : Stmt := topI 24
abbrev s_read_wish : Stmt := topI 25
abbrev s_read_book : Stmt := topI 26
abbrev s_read_saying : Stmt := topI 27
abbrev s_integer_in : Stmt := topI 28
abbrev s_number_in : Stmt := topI 29
abbrev s_point_in : Stmt := topI 30
abbrev s_row_in : Stmt := topI 31
abbrev s_wish_in : Stmt := topI 32
abbrev s__read_alone : Stmt := topI 33
abbrev s__lines_of : Stmt := topI 34
abbrev s__all_or_none : Stmt := topI 35
abbrev s__sides_in : Stmt := topI 36
abbrev s__question_in : Stmt := topI 37
abbrev s__saying_in : Stmt := topI 38
abbrev s__opened_at : Stmt := topI 39
abbrev s__closed : Stmt := topI 40
abbrev s_show_number : Stmt := topI 42
abbrev s_show_point : Stmt := topI 43
abbrev s_show_row : Stmt := topI 44
abbrev s_show_wish : Stmt := topI 45
abbrev s_show_question : Stmt := topI 46
abbrev s_show_book : Stmt := topI 47
abbrev s_show_saying : Stmt := topI 48
abbrev s__sign_of : Stmt := topI 49
abbrev s__show_sides : Stmt := topI 50
abbrev s__law_well : Stmt := topI 52
abbrev s__law_draw : Stmt := topI 53
abbrev s__law_same : Stmt := topI 54
abbrev s__law_low : Stmt := topI 55
abbrev s__law_divided : Stmt := topI 56
abbrev s__law_ground : Stmt := topI 57
abbrev s__law_unlike : Stmt := topI 58
abbrev s__law_power : Stmt := topI 59
abbrev s__law_integer : Stmt := topI 60
abbrev s__law_number : Stmt := topI 61
abbrev s__law_sided : Stmt := topI 62
abbrev s__law_book : Stmt := topI 63
abbrev s__law_deep : Stmt := topI 64
abbrev s__law_wish : Stmt := topI 65
abbrev s__law_thing : Stmt := topI 66
abbrev s__law_said_number : Stmt := topI 67
abbrev s__law_said_wish : Stmt := topI 68
abbrev s__law_said_question : Stmt := topI 69
abbrev s__law_said_book : Stmt := topI 70
abbrev s__law_said_saying : Stmt := topI 71
abbrev s__law_read : Stmt := topI 72
abbrev s__law_shown : Stmt := topI 73
abbrev s_law : Stmt := topI 74
end SB
namespace SB
open PySem PySem.Spec PyProof.Rows L2
/-- nobody looks on when two long integers are divided -/
structure NSK (P : Program) (K : PySem.W.Frag) : Prop where
  seer : ∀ h : Heap, K.In h → h.NoSeer
  tree : P.given.tree = none
/-- // by any number but 0 -/
theorem op_fdivP {X : Cx} {e : Env} {l : List Env} (NS : NSK X.prog X.K) (hd : X.A.depth + Builtin.pylongFrames < recursionLimit) (hst : X.stack = e :: l) (hg : e.scope.isGenerator = false) (hc : e.scope.isCoroutine = false) (hb : e.builtins = builtinsNs) (hm : e.globals = mainGlobals) :
    OpR X (binaryOp .FloorDiv) (rI (fun _ j => j ≠ 0) fun i j => .int (i.fdiv j)) := by
  intro pins s σ H x y v u Q I rx ry h
  obtain ⟨i, j, rfl, rfl, hj, q⟩ := h
  obtain ⟨t, rfl⟩ := rx
  obtain ⟨t', rfl⟩ := ry
  refine floordiv_int hj ?_ (.inr (PylongRoom.of I.nolimit hd (SeerAt.of (NS.seer _ I.kIn) NS.tree (by rw [I.ok.frames, hst]) hg hc hb hm)))
  exact ⟨.int (i.fdiv j), H, I.tok _, ⟨_, rfl⟩, q⟩
/-- // by a number above 0 -/
theorem op_fdivE {X : Cx} {e : Env} {l : List Env} (NS : NSK X.prog X.K) (hd : X.A.depth + Builtin.pylongFrames < recursionLimit) (hst : X.stack = e :: l) (hg : e.scope.isGenerator = false) (hc : e.scope.isCoroutine = false) (hb : e.builtins = builtinsNs) (hm : e.globals = mainGlobals) :
    OpR X (binaryOp .FloorDiv) (rI (fun _ j => 0 < j) fun i j => .int (i / j)) := by
  intro pins s σ H x y v u Q I rx ry h
  obtain ⟨i, j, rfl, rfl, hj, q⟩ := h
  refine op_fdivP NS hd hst hg hc hb hm pins s σ H _ _ v u Q I rx ry ⟨i, j, rfl, rfl, Int.ne_of_gt hj, ?_⟩
  have q : Q (V.int (i / j)) H := q
  rw [← Int.fdiv_eq_ediv_of_nonneg i (Int.le_of_lt hj)] at q
  exact q
theorem Room.far {k : Nat} {A : Around} (r : Room (k + 33) A) : A.depth + Builtin.pylongFrames < recursionLimit := by
  have := r.dp
  show A.depth + 100 < _
  omega
end SB
/-! Small sets whose members are objects of one sort (tuples of tuples): searched, filled. Over the table's own facts (HandS.TupSets). -/
namespace SG
open PySem PySem.Spec PyProof.Rows L2
/-- a sort of members -/
structure Kd (P : Program) (w : World) (κ : Type) [DecidableEq κ] where
  is : Heap → κ → Addr → Prop
  hash : κ → Int
  draws : κ → Nat
  keep : ∀ {h h' : Heap} {k : κ} {b : Addr}, is h k b → (∀ c o, h.get? c = some o → (∃ vs n, o.data = .seq vs n) → h'.get? c = some o) → is h' k b
  eqB : ∀ {A : Around} {E : Value → Shared → Prop} {s : Shared} {x y : κ} {a b : Addr} {Q : Bool → Shared → Prop}, A.units + 8 < cLine → is s.heap x a → is s.heap y b → Q (decide (x = y)) s → wpAny (model P w) A (eqBool (.ref a) (.ref b)) Q E s
  pyH : ∀ {A : Around} {E : Value → Shared → Prop} {s : Shared} {k : κ} {a : Addr} {Q : Int → Shared → Prop}, A.units + 8 < cLine → is s.heap k a → Q (hash k) { s with toks := s.toks + draws k } → wpAny (model P w) A (pyHash (.ref a)) Q E s
  quiet : ∀ {A : Around} {E : Value → Shared → Prop} {s : Shared} {k : κ} {a : Addr} {Q : Bool → Shared → Prop}, is s.heap k a → Q true s → wpAny (model P w) A (eqIsQuiet 8 (.ref a)) Q E s
  noCls : ∀ {A : Around} {E : Value → Shared → Prop} {s : Shared} {k : κ} {a : Addr} {Q : Bool → Shared → Prop}, is s.heap k a → Q false s → wpAny (model P w) A (ofAClassStatement 8 (.ref a)) Q E s
  byV : ∀ {A : Around} {E : Value → Shared → Prop} {s : Shared} {k : κ} {a : Addr} {Q : Bool → Shared → Prop}, is s.heap k a → Q true s → wpAny (model P w) A (hashByValue 8 (.ref a)) Q E s
section
variable {P : Program} {w : World} {κ : Type} [DecidableEq κ] (kd : Kd P w κ) {A : Around} {E : Value → Shared → Prop} {s : Shared}
theorem kd_same {h h' : Heap} {k : κ} {b a : Addr} {o : Obj} {es : Array (Int × Value)} {ep : Nat} {t : SetTable} (hb : kd.is h k b) (ho : h.get? a = some o) (hd : o.data = .set es ep t) (sb : Heap.SameBut a h h') : kd.is h' k b :=
  kd.keep hb fun c o' hc hseq => (sb.2 c fun z => by
    obtain ⟨vs, n, hs⟩ := hseq
    rw [z, ho] at hc
    cases hc
    rw [hd] at hs
    cases hs).trans hc
/-- looking among members of the sort tells nothing -/
theorem kd_unseen {x : Addr} {k : κ} {ys : List Value} {Q : Bool → Shared → Prop} (hx : kd.is s.heap k x) (hy : ∀ y ∈ ys, ∃ c k', y = Value.ref c ∧ kd.is s.heap k' c) (q : Q false s) : wpAny (model P w) A (searchCouldBeSeen (.ref x) ys) Q E s := by
  unfold searchCouldBeSeen
  refine wpAny_bind ?_
  refine wpAny_forIn_list _ (fun left r s2 => r.1 = none ∧ s2 = s ∧ ∀ y ∈ left, ∃ c k', y = Value.ref c ∧ kd.is s.heap k' c) _ ?_ ?_ _ _ ⟨rfl, rfl, hy⟩
  · rintro y left r s2 ⟨er, rfl, al⟩
    obtain ⟨c, k', rfl, hc⟩ := al _ List.mem_cons_self
    have al2 : ∀ y ∈ left, ∃ c k', y = Value.ref c ∧ kd.is s2.heap k' c := fun u hu => al u (List.mem_cons_of_mem _ hu)
    dsimp only
    by_cases same : (x == c || (carriedByValue (.ref x) && carriedByValue (.ref c))) = true
    · exact wp_if_pos same (wpAny_pure ⟨rfl, rfl, al2⟩)
    · refine wp_if_neg same (wpAny_bind (kd.quiet hx ?_))
      simp only [Bool.not_true, Bool.false_eq_true, if_false]
      refine wpAny_bind (kd.quiet hc ?_)
      simp only [Bool.not_true, Bool.false_eq_true, if_false]
      refine wpAny_bind (kd.noCls hx ?_)
      simp only [Bool.false_eq_true, if_false]
      refine wpAny_bind (kd.noCls hc ?_)
      simp only [Bool.false_eq_true, if_false]
      exact wpAny_pure ⟨rfl, rfl, al2⟩
  · rintro ⟨r1, r2⟩ s2 ⟨er, rfl, _⟩
    simp only at er
    subst er
    exact wpAny_pure q
def rowsG (L : List (Addr × κ)) : List (Int × Value) := L.map fun p => (kd.hash p.2, Value.ref p.1)
/-- a set at a that holds L, each key once -/
structure SR (h : Heap) (a : Addr) (L : List (Addr × κ)) (es : Array (Int × Value)) (ep : Nat) (t : SetTable) : Prop where
  ob : ∃ o, h.get? a = some o ∧ o.ExactSet ∧ o.data = .set es ep t
  rows : es.toList = rowsG kd L
  tab : TabOk t (L.map fun p => kd.hash p.2)
  nd : (L.map (·.2)).Nodup
  mem : ∀ p ∈ L, kd.is h p.2 p.1
  plain : t.plain = true
  led : w.params.followText "set-order" = true ∨ t.led = true
  room : L.length * 5 < t.mask * 3
  few : L.length < 64
variable {kd} {a : Addr} {L : List (Addr × κ)} {es : Array (Int × Value)} {ep : Nat} {t : SetTable}
theorem SR.size (R : SR kd s.heap a L es ep t) : es.size = L.length := by
  have e := congrArg List.length R.rows
  rwa [rowsG, Array.length_toList, List.length_map] at e
theorem SR.len (R : SR kd s.heap a L es ep t) : t.place.toList.length = L.length := by
  have e := R.tab.sz
  rwa [List.length_map, ← Array.length_toList] at e
theorem SR.fits (R : SR kd s.heap a L es ep t) : t.fits es.size = true := by
  have e1 := R.size
  have e2 := R.len
  have e3 := R.room
  rw [Array.length_toList] at e2
  unfold SetTable.fits SetTable.fill
  rw [R.tab.dm, Bool.and_eq_true, beq_iff_eq, decide_eq_true_eq]
  exact ⟨by omega, by show t.place.size + 0 ≤ t.mask; omega⟩
theorem SR.at_ (R : SR kd s.heap a L es ep t) {i : Nat} {p : Addr × κ} (h : L[i]? = some p) : es[i]? = some (kd.hash p.2, Value.ref p.1) := by
  have e : es.toList[i]? = some (kd.hash p.2, Value.ref p.1) := by rw [R.rows, rowsG, List.getElem?_map, h] <;> rfl
  rwa [Array.getElem?_toList] at e
/-- the c-th look on the way of a hash -/
abbrev look (t : SetTable) (hk : Int) (c : Nat) : SetTable.Probe := nth t.mask (runAt t.mask (SetTable.bits hk % (t.mask + 1)) (SetTable.bits hk)) c
theorem look_add (t : SetTable) (hk : Int) (c q : Nat) : nth t.mask (look t hk c) q = look t hk (c + q) := (nth_add t.mask c _ q).symm
theorem look_clean (t : SetTable) (hk : Int) (c : Nat) : (look t hk c).dummy = none := by
  have go : ∀ (n : Nat) (p : SetTable.Probe), p.dummy = none → (nth t.mask p n).dummy = none := fun n => by
    induction n with
    | zero => exact fun _ h => h
    | succ n ih => exact fun p h => ih _ (by unfold adv; split <;> exact h)
  exact go c _ rfl
/-- how the search answers where a member is met -/
def met (add : Bool) (i : Nat) : SetFound := .there (if add = true then none else some i)
theorem sr_search (R : SR kd s.heap a L es ep t) (add : Bool) {x : Addr} {k : κ} (hx : kd.is s.heap k x) (hu : A.units + 8 < cLine) {K : Nat} (hKf : K < 10 * SetTable.turns t.mask) (hK : way t.mask (kd.hash k) K ∉ t.place.toList)
    (hKb : ∀ c, c < K → way t.mask (kd.hash k) c ∈ t.place.toList) {Q : SetFound → Shared → Prop} (yes : ∀ i, k ∈ L.map (·.2) → Q (met add i) s) (no : k ∉ L.map (·.2) → Q (.free (way t.mask (kd.hash k) K) false) s) :
    ∀ (f c : Nat) (stand : Option SetTable.Probe), stand.getD (t.probeStart (kd.hash k)) = look t (kd.hash k) c → c ≤ K → K - c < f →
      (∀ (i : Nat) p, L[i]? = some p → p.2 = k → ∃ c', c ≤ c' ∧ c' < K ∧ t.place.toList[i]? = some (way t.mask (kd.hash k) c')) →
      wpAny (model P w) A (setSearchFrom a (.ref x) (kd.hash k) add f stand) Q E s
  | 0, c, stand, _, _, hf, _ => absurd hf (Nat.not_lt_zero _)
  | f + 1, c, stand, est, hc, hf, ahead => by
    obtain ⟨o, ho, hex, hd⟩ := R.ob
    have hAt : Nat → Int := fun i => (es[i]?.map (·.1)).getD 0
    have hashAt : ∀ {i : Nat} {p}, L[i]? = some p → (es[i]?.map (·.1)).getD 0 = kd.hash p.2 := fun {i p} hp => by rw [R.at_ hp] <;> rfl
    have wy : ∀ q, (nth t.mask (look t (kd.hash k) c) q).j = way t.mask (kd.hash k) (c + q) := fun q => congrArg SetTable.Probe.j (look_add t _ c q)
    rw [setSearchFrom_succ]
    refine wpAny_bind (wpAny_setState_of ho hd R.fits ?_)
    dsimp only
    refine wp_if_neg (by unfold SetTable.gaveWay; rw [mask_odd R.tab.mok]; decide) ?_
    try refine wpAny_bind (wpAny_pure ?_)
    have spec := go_spec t R.tab.ris R.tab.dm (fun i => (es[i]?.map (·.1)).getD 0) (kd.hash k) (10 * SetTable.turns t.mask) (K - c) _ (look_clean t (kd.hash k) c) (by omega)
      (fun q hq => by rw [wy]; exact hKb (c + q) (by omega)) (by rw [wy, show c + (K - c) = K by omega]; exact hK)
    rcases spec with ⟨q, i, hq, hi, hh, early, hpr⟩ | ⟨early, hpr⟩
    · rw [wy] at hi
      have hil : i < L.length := by
        have z := (List.getElem?_eq_some_iff.mp hi).1
        rwa [R.len] at z
      obtain ⟨p, hp⟩ : ∃ p, L[i]? = some p := ⟨_, List.getElem?_eq_getElem hil⟩
      have pin : p ∈ L := List.mem_of_getElem? hp
      have hsl : t.slot (way t.mask (kd.hash k) (c + q)) = .live i := slot_live R.tab.ris hi
      have probe : t.probe (fun i => (es[i]?.map (·.1)).getD 0) (kd.hash k) (stand.getD (t.probeStart (kd.hash k))) = some (.candidate (way t.mask (kd.hash k) (c + q)) i (look t (kd.hash k) (c + (q + 1)))) := by
        rw [est, ← wy, ← look_add]
        exact hpr
      rw [probe]
      dsimp only
      have behind : wpAny (model P w) A (searchRest a (.ref x) (kd.hash k) add f es t (way t.mask (kd.hash k) (c + q)) i (look t (kd.hash k) (c + (q + 1)))) Q E s := by
        unfold searchRest
        rw [R.at_ hp]
        dsimp only
        refine wpAny_bind (wpAny_holding (kd.eqB hu (R.mem p pin) hx ?_))
        refine wpAny_bind (wpAny_setState_of ho hd R.fits ?_)
        dsimp only
        by_cases eqk : p.2 = k
        · have mem : k ∈ L.map (·.2) := List.mem_map.mpr ⟨p, pin, eqk⟩
          cases add with
          | true => exact wp_if_pos (by simp [eqk]) (wpAny_pure (yes i mem))
          | false =>
            refine wp_if_neg (by simp) ?_
            try refine wpAny_bind (wpAny_pure ?_)
            rw [sameMem]
            dsimp only
            simp only [if_true, hsl, R.at_ hp]
            refine wpAny_bind (wpAny_isSame_ref_self (wpAny_bind (wpAny_pure ?_)))
            simp only [if_true]
            exact wp_if_pos (by simp [eqk]) (wpAny_pure (yes i mem))
        · refine wp_if_neg (by simp [eqk]) ?_
          try refine wpAny_bind (wpAny_pure ?_)
          rw [sameMem]
          dsimp only
          simp only [if_true, hsl, R.at_ hp]
          refine wpAny_bind (wpAny_isSame_ref_self (wpAny_bind (wpAny_pure ?_)))
          simp only [if_true]
          refine wp_if_neg (by simp [eqk]) ?_
          refine sr_search R add hx hu hKf hK hKb yes no f (c + (q + 1)) _ rfl (by omega) (by omega) fun i0 p0 h0 k0 => ?_
          obtain ⟨c', l1, l2, l3⟩ := ahead i0 p0 h0 k0
          have nlt : ¬ c' < c + q := fun z => early (c' - c) i0 (by omega) (by rw [wy, show c + (c' - c) = c' by omega]; exact l3) ((hashAt h0).trans (congrArg kd.hash k0))
          have nne : c' ≠ c + q := fun z => by
            rw [z] at l3
            have z2 := slot_live R.tab.ris l3
            rw [hsl] at z2
            injection z2 with z2
            rw [← z2, hp] at h0
            exact eqk ((congrArg Prod.snd (Option.some.inj h0)).trans k0)
          exact ⟨c', by omega, l2, l3⟩
      by_cases hl : t.led = true
      · refine wp_if_neg (by simp [hl]) ?_
        try refine wpAny_bind (wpAny_pure ?_)
        exact behind
      · refine wp_if_pos (by simp [hl]) (wpAny_bind (kd_unseen kd hx (fun y hy => ?_) ?_))
        · obtain ⟨e, he, rfl⟩ := List.mem_map.mp hy
          have he2 : e ∈ es.toList := by
            have z : e ∈ es ∧ e.1 = kd.hash k := by simpa using he
            simpa using z.1
          rw [R.rows, rowsG] at he2
          obtain ⟨p2, m2, rfl⟩ := List.mem_map.mp he2
          exact ⟨p2.1, p2.2, rfl, R.mem p2 m2⟩
        · refine wp_if_neg (by decide) ?_
          try refine wpAny_bind (wpAny_pure ?_)
          exact behind
    · have probe : t.probe (fun i => (es[i]?.map (·.1)).getD 0) (kd.hash k) (stand.getD (t.probeStart (kd.hash k))) = some (.empty (way t.mask (kd.hash k) K) none) := by
        have z : way t.mask (kd.hash k) K = (nth t.mask (look t (kd.hash k) c) (K - c)).j := by rw [wy, show c + (K - c) = K by omega]
        rw [est, z]
        exact hpr
      rw [probe]
      dsimp only
      refine wpAny_pure (no fun hm => ?_)
      obtain ⟨p0, m0, k0⟩ := List.mem_map.mp hm
      obtain ⟨i0, l0, e0⟩ := List.getElem_of_mem m0
      have h0 : L[i0]? = some p0 := by rw [List.getElem?_eq_getElem l0, e0]
      obtain ⟨c', l1, l2, l3⟩ := ahead i0 p0 h0 k0
      exact early (c' - c) i0 (by omega) (by rw [wy, show c + (c' - c) = c' by omega]; exact l3) ((hashAt h0).trans (congrArg kd.hash k0))
theorem sr_find (R : SR kd s.heap a L es ep t) (add : Bool) {x : Addr} {k : κ} (hx : kd.is s.heap k x) (hu : A.units + 8 < cLine) {Q : SetFound → Shared → Prop} (yes : ∀ i, k ∈ L.map (·.2) → Q (met add i) s)
    (no : ∀ K, k ∉ L.map (·.2) → way t.mask (kd.hash k) K ∉ t.place.toList → (∀ c, c < K → way t.mask (kd.hash k) c ∈ t.place.toList) → Q (.free (way t.mask (kd.hash k) K) false) s) :
    wpAny (model P w) A (setSearch a (.ref x) (kd.hash k) add) Q E s := by
  have hroom := R.room
  obtain ⟨K, hKf, hK, hKb⟩ := R.tab.first (by rw [List.length_map]; omega) (kd.hash k)
  have few : 10 * SetTable.turns t.mask ≤ 1420 := by
    unfold SetTable.turns
    rcases R.tab.mok with e | e | e <;> omega
  unfold setSearch
  refine sr_search R add hx hu hKf hK hKb yes (fun n => no K n hK hKb) 100000 0 none rfl (Nat.zero_le _) (by omega) fun i p hp hk => ?_
  have hi : (L.map fun p => kd.hash p.2)[i]? = some (kd.hash k) := by rw [List.getElem?_map, hp, ← hk] <;> rfl
  have hil : i < t.place.toList.length := by
    rw [R.len]
    exact (List.getElem?_eq_some_iff.mp hp).1
  obtain ⟨c, hc, e⟩ := R.tab.before hK hi (List.getElem?_eq_getElem hil)
  exact ⟨c, Nat.zero_le _, hc, by rw [List.getElem?_eq_getElem hil, e]⟩
end
end SG
namespace SG
open PySem PySem.Spec PyProof.Rows L2
section
variable {P : Program} {w : World} {κ : Type} [DecidableEq κ] {kd : Kd P w κ} {A : Around} {E : Value → Shared → Prop} {s : Shared} {a : Addr} {L : List (Addr × κ)} {es : Array (Int × Value)} {ep : Nat} {t : SetTable}
theorem rowsG_len : (rowsG kd L).length = L.length := List.length_map _
theorem rowsG_at {es : Array (Int × Value)} (hr : es.toList = rowsG kd L) {i : Nat} (h : i < L.length) : es[i]? = some (kd.hash (L[i]).2, Value.ref (L[i]).1) := by
  rw [← Array.getElem?_toList, hr, rowsG, List.getElem?_map, List.getElem?_eq_getElem h] <;> rfl
/-- the rows taken in another sequence -/
theorem rows_pick {es : Array (Int × Value)} (hr : es.toList = rowsG kd L) : ∀ l : List Nat, (∀ i ∈ l, i < L.length) →
    l.filterMap (fun i => es[i]?) = rowsG kd (l.filterMap fun i => L[i]?) ∧ ((l.filterMap fun i => L[i]?).map fun p => kd.hash p.2) = l.map fun i => (es.map (·.1)).getD i 0
  | [], _ => ⟨rfl, rfl⟩
  | i :: l, h => by
    have hi := h i List.mem_cons_self
    obtain ⟨e1, e2⟩ := rows_pick hr l fun j hj => h j (List.mem_cons_of_mem _ hj)
    have e3 := rowsG_at hr hi
    have e4 : (es.map (·.1)).getD i 0 = kd.hash (L[i]).2 := by
      have z : (es.map (·.1))[i]? = some (kd.hash (L[i]).2) := by rw [Array.getElem?_map, e3] <;> rfl
      simp [Array.getD_eq_getD_getElem?, z]
    constructor
    · rw [List.filterMap_cons_some e3, List.filterMap_cons_some (List.getElem?_eq_getElem hi), e1] <;> rfl
    · rw [List.filterMap_cons_some (List.getElem?_eq_getElem hi), List.map_cons, List.map_cons, e2, e4]
theorem pick_all : ∀ l : List (Addr × κ), (List.range l.length).filterMap (fun i => l[i]?) = l := by
  intro l
  have go : ∀ n, n ≤ l.length → (List.range n).filterMap (fun i => l[i]?) = l.take n := fun n => by
    induction n with
    | zero => exact fun _ => rfl
    | succ n ih =>
      intro hn
      rw [List.range_succ, List.filterMap_append, ih (Nat.le_of_lt hn), List.take_succ, List.getElem?_eq_getElem hn, List.filterMap_cons_some (List.getElem?_eq_getElem hn)] <;> rfl
  rw [go _ (Nat.le_refl _), List.take_length]
/-- the table is laid anew, larger -/
theorem sr_relay {o : Obj} (ho : s.heap.get? a = some o) (hex : o.ExactSet) (hd : o.data = .set es ep t) (hr : es.toList = rowsG kd L) (hps : t.place.size = es.size) (hdm : t.dummies = #[]) (hm : es.size ≤ t.mask) (nd : (L.map (·.2)).Nodup) (mem : ∀ p ∈ L, kd.is s.heap p.2 p.1)
    (pl : t.plain = true) (ld : w.params.followText "set-order" = true ∨ t.led = true) (few : L.length < 64) {wanted M : Nat} (eM : SetTable.sizeAbove wanted - 1 = M) (hM : MaskOk M) (small : SetTable.sizeAbove wanted ≤ 128) (fit : L.length * 5 < M * 3) {Q : Unit → Shared → Prop}
    (q : ∀ h' L' es' ep' t', Heap.SameBut a s.heap h' → SR kd h' a L' es' ep' t' → L'.Perm L → Q () { s with heap := h' }) : wpAny (model P w) A (setRelay a wanted) Q E s := by
  have el : es.size = L.length := by
    have z := congrArg List.length hr
    rwa [rowsG_len, Array.length_toList] at z
  have fits : t.fits es.size = true := by
    unfold SetTable.fits SetTable.fill
    rw [hdm, Bool.and_eq_true, beq_iff_eq, decide_eq_true_eq]
    exact ⟨hps, by show t.place.size + 0 ≤ t.mask; omega⟩
  obtain ⟨t', ord, e, hp, T, em, ell, epl, _⟩ := relaid_ok t (hs := es.map (·.1)) (wanted := wanted) eM hM (by rw [Array.size_map, el]; omega)
  rw [Array.size_map, el] at hp
  obtain ⟨r1, r2⟩ := rows_pick hr ord.toList fun i hi => List.mem_range.mp (hp.mem_iff.mp hi)
  have pm : (ord.toList.filterMap fun i => L[i]?).Perm L := by
    have z := hp.filterMap fun i => L[i]?
    rwa [pick_all L] at z
  rw [← r2] at T
  have rws : (ord.filterMap (es[·]?)).toList = rowsG kd (ord.toList.filterMap fun i => L[i]?) := by
    first | (rw [Array.toList_filterMap]; exact r1) | simpa using r1
  generalize ord.toList.filterMap (fun i => L[i]?) = L2 at pm T rws
  have sz2 : (ord.filterMap (es[·]?)).size = es.size := by
    have z := congrArg List.length rws
    rw [rowsG_len, Array.length_toList, pm.length_eq] at z
    rw [z, el]
  rw [setRelay_eq]
  refine wpAny_bind (wpAny_setState_of ho hd fits ?_)
  dsimp only
  refine wp_if_neg (by rw [sizeLine_eq]; omega) ?_
  try refine wpAny_bind (wpAny_pure ?_)
  rw [e]
  dsimp only
  refine wpAny_bind (wp_if_neg (by rw [sz2]; simp) ?_)
  try refine wpAny_bind (wpAny_pure ?_)
  refine wpAny_pure ?_
  dsimp only
  refine wpAny_storeSet_of ho hd ?_ (by rw [sz2, el, sizeLine_eq]; omega)
  have sb : Heap.SameBut a s.heap (s.heap.update a (Obj.putSet (ord.filterMap (es[·]?)) t')) := Heap.SameBut.update ..
  exact q _ L2 _ (ep + 1) t' sb ⟨⟨_, store_at ho hd, ⟨hex.1, hex.2.1, hex.2.2⟩, rfl⟩, rws, T, (pm.map (·.2)).nodup_iff.mpr nd, fun p hpm => kd_same kd (mem p (pm.mem_iff.mp hpm)) ho hd sb, by rw [epl]; exact pl, by rw [ell]; exact ld,
    by rw [pm.length_eq, em]; exact fit, by rw [pm.length_eq]; exact few⟩ pm
/-- a member more, or no more -/
theorem sr_add (R : SR kd s.heap a L es ep t) {x : Addr} {k : κ} (hx : kd.is s.heap k x) (hu : A.units + 8 < cLine) (few : L.length + 1 < 64) {Q : Bool → Shared → Prop}
    (q : ∀ b h' L' es' ep' t', Heap.SameBut a s.heap h' → SR kd h' a L' es' ep' t' → (k ∈ L.map (·.2) → L' = L) → (k ∉ L.map (·.2) → L'.Perm ((x, k) :: L)) → Q b { s with heap := h' }) :
    wpAny (model P w) A (setAddHashed a (.ref x) (kd.hash k)) Q E s := by
  obtain ⟨o, ho, hex, hd⟩ := R.ob
  have el := R.size
  have hroom := R.room
  unfold setAddHashed
  refine wpAny_holding ?_
  rw [show (100000 : Nat) = 99999 + 1 from rfl, setAddHashedIn_succ]
  refine wpAny_bind (wpAny_setState_of ho hd R.fits ?_)
  dsimp only
  refine wp_if_neg (by simp [byScan, Value.scannable]) ?_
  try refine wpAny_bind (wpAny_pure ?_)
  refine wpAny_bind (sr_find R true hx hu (fun i hm => ?_) fun K hm hK hb => ?_)
  · unfold met
    dsimp only
    exact wpAny_pure (q false s.heap L es ep t (Heap.SameBut.refl a s.heap) R (fun _ => rfl) fun z => absurd hm z)
  · dsimp only
    refine wpAny_bind (wpAny_setState_of ho hd R.fits ?_)
    dsimp only
    obtain ⟨q1, q2, q3, q4, q5, q6, q7, q8, q9⟩ := R.tab.put hK hb
    have pl1 : (t.put (way t.mask (kd.hash k) K)).1.plain = true := by rw [q6]; exact R.plain
    generalize ept : t.put (way t.mask (kd.hash k) K) = pt at q1 q3 q4 q5 q6 q7 q8 q9 pl1 ⊢
    obtain ⟨t1, p⟩ := pt
    dsimp only at q1 q3 q4 q5 q6 q7 q8 q9 pl1 ⊢
    subst q1
    first
      | (refine wpAny_bind ?_; refine wp_if_pos pl1 ?_; refine kd.byV hx ?_)
      | refine wp_if_pos pl1 (wpAny_bind (kd.byV hx ?_))
    simp only [if_true]
    have ein : (SetTable.insertAt es (SetTable.below t.place (way t.mask (kd.hash k) K)) (kd.hash k, Value.ref x)).toList = rowsG kd (L.take (SetTable.below t.place (way t.mask (kd.hash k) K)) ++ (x, k) :: L.drop (SetTable.below t.place (way t.mask (kd.hash k) K))) := by
      rw [SetTable.toList_insertAt, R.rows]
      unfold rowsG
      rw [List.map_append, List.map_cons, List.map_take, List.map_drop]
    generalize SetTable.below t.place (way t.mask (kd.hash k) K) = p at q2 q3 ein ⊢
    have pm : (L.take p ++ (x, k) :: L.drop p).Perm ((x, k) :: L) := put_perm L p (x, k)
    have lh : (L.take p ++ (x, k) :: L.drop p).map (fun p => kd.hash p.2) = (L.map fun p => kd.hash p.2).take p ++ kd.hash k :: (L.map fun p => kd.hash p.2).drop p := by
      rw [List.map_append, List.map_cons, List.map_take, List.map_drop]
    rw [← lh] at q3
    generalize L.take p ++ (x, k) :: L.drop p = L1 at pm q3 ein
    have l1 : L1.length = L.length + 1 := pm.length_eq
    have nd1 : (L1.map (·.2)).Nodup := (pm.map (·.2)).nodup_iff.mpr (List.nodup_cons.mpr ⟨hm, R.nd⟩)
    have es1l : (SetTable.insertAt es p (kd.hash k, Value.ref x)).size = L.length + 1 := by
      have z := congrArg List.length ein
      rwa [rowsG_len, Array.length_toList, l1] at z
    generalize SetTable.insertAt es p (kd.hash k, Value.ref x) = es1 at ein es1l ⊢
    refine wpAny_bind (wpAny_storeSet_of ho hd ?_ (by rw [es1l, sizeLine_eq]; omega))
    have sb : Heap.SameBut a s.heap (s.heap.update a (Obj.putSet es1 t1)) := Heap.SameBut.update ..
    have ho1 := store_at (es' := es1) (t' := t1) ho hd
    generalize s.heap.update a (Obj.putSet es1 t1) = h1 at sb ho1 ⊢
    have mem1 : ∀ p ∈ L1, kd.is h1 p.2 p.1 := fun p hp => by
      rcases List.mem_cons.mp (pm.mem_iff.mp hp) with e | hp
      · rw [e]
        exact kd_same kd hx ho hd sb
      · exact kd_same kd (R.mem p hp) ho hd sb
    have ld1 : w.params.followText "set-order" = true ∨ t1.led = true := by rw [q5]; exact R.led
    have ps1 : t1.place.size = es1.size := by
      have z := q3.sz
      rw [List.length_map, l1] at z
      rw [z, es1l]
    by_cases full : t1.tooFull = true
    · first
        | (refine wpAny_bind ?_; refine wp_if_pos (by simp [full]) ?_)
        | (refine wp_if_pos (by simp [full]) ?_; refine wpAny_bind ?_)
      have five : (L.length + 1) * 5 ≥ t1.mask * 3 := by
        have z := full
        unfold SetTable.tooFull at z
        rwa [decide_eq_true_eq, q9, List.length_map] at z
      rw [el]
      have two : (t.mask = 7 ∧ L.length = 4) ∨ (t.mask = 31 ∧ L.length = 18) := by
        rcases R.tab.mok with e | e | e
        · exact .inl ⟨e, by rw [q4, e] at five; rw [e] at hroom; omega⟩
        · exact .inr ⟨e, by rw [q4, e] at five; rw [e] at hroom; omega⟩
        · exact absurd five (by rw [q4, e]; omega)
      have go : ∀ M, SetTable.sizeAbove (SetTable.grown (L.length + 1)) - 1 = M → MaskOk M → SetTable.sizeAbove (SetTable.grown (L.length + 1)) ≤ 128 → (L.length + 1) * 5 < M * 3 →
          wpAny (model P w) A (setRelay a (SetTable.grown (L.length + 1))) (fun _ s' => wpAny (model P w) A (pure true) Q E s') E { s with heap := h1 } := fun M m1 m2 m3 m4 =>
        sr_relay (s := { s with heap := h1 }) ho1 ⟨hex.1, hex.2.1, hex.2.2⟩ rfl ein ps1 q3.dm (by rw [es1l, q4]; rcases two with ⟨e, e2⟩ | ⟨e, e2⟩ <;> omega) nd1 mem1 pl1 ld1 (by rw [l1]; exact few) m1 m2 m3 (by rw [l1]; exact m4)
          fun h2 L2 es2 ep2 t2 sb2 R2 pm2 => wpAny_pure (q true h2 L2 es2 ep2 t2 (sb.trans sb2) R2 (fun z => absurd z hm) fun _ => pm2.trans pm)
      rcases two with ⟨_, e2⟩ | ⟨_, e2⟩
      · exact go 31 (by rw [e2, size_20]) (.inr (.inl rfl)) (by rw [e2, size_20]; decide) (by omega)
      · exact go 127 (by rw [e2, size_76]) (.inr (.inr rfl)) (by rw [e2, size_76]; decide) (by omega)
    · first
        | refine wp_if_neg (by simp [full]) ?_
        | (refine wpAny_bind ?_; refine wp_if_neg (by simp [full]) ?_; refine wpAny_pure ?_)
      have z := full
      unfold SetTable.tooFull at z
      rw [decide_eq_true_eq, q9, List.length_map] at z
      exact wpAny_pure (q true h1 L1 es1 (ep + 1) t1 sb ⟨⟨_, ho1, ⟨hex.1, hex.2.1, hex.2.2⟩, rfl⟩, ein, q3, nd1, mem1, pl1, ld1, by rw [l1]; omega, by rw [l1]; exact few⟩ (fun y => absurd y hm) fun _ => pm)
theorem sr_fresh {h : Heap} {a : Addr} (ho : h.get? a = some { cls := .type "set", dict := none, data := .set #[] 0 (.fresh 0 0 (!w.params.followText "set-order")) }) : SR kd h a [] #[] 0 (.fresh 0 0 (!w.params.followText "set-order")) where
  ob := ⟨_, ho, ⟨rfl, rfl, rfl⟩, rfl⟩
  rows := rfl
  tab := ⟨List.Pairwise.nil, rfl, rfl, .inl rfl, (fun x hx => (nomatch hx)), (fun i h j hi => by simp at hi)⟩
  nd := List.nodup_nil
  mem := fun p hp => (nomatch hp)
  plain := rfl
  led := by
    show _ ∨ (!w.params.followText "set-order") = true
    cases w.params.followText "set-order"
    · exact .inr rfl
    · exact .inl rfl
  room := by
    show 0 * 5 < 7 * 3
    decide
  few := by
    show 0 < 64
    decide
/-- found.add(x) -/
theorem sr_add_call (R : SR kd s.heap a L es ep t) {x : Addr} {k : κ} (hx : kd.is s.heap k x) (hu : A.units + 9 < cLine) (few : L.length + 1 < 64) {Q : Value → Shared → Prop}
    (q : ∀ h' L' es' ep' t' tk, Heap.SameBut a s.heap h' → SR kd h' a L' es' ep' t' → (k ∈ L.map (·.2) → L' = L) → (k ∉ L.map (·.2) → L'.Perm ((x, k) :: L)) → Q .none { s with heap := h', toks := tk }) :
    wpAny (model P w) A (call (.builtin "set.add") [.ref a, .ref x]) Q E s := by
  have hT : s.TypeIs (.ref a) "set" := by
    obtain ⟨o, ho, hex, _⟩ := R.ob
    exact ⟨o, ho, hex.1⟩
  have hu1 : A.in1.units + 8 < cLine := by
    show A.units + 1 + 8 < cLine
    omega
  refine wpAny_call_entry F.slot_set_add hT F.entry_set_add ?_ (F.args_set_add_2 _ _)
  unfold Builtin.«set.add» Builtin.Frozenset.oneOther
  simp only [List.isEmpty_nil, bind_assoc]
  unfold Builtin.Frozenset.addrOf setAdd
  refine wpAny_bind (wpAny_pure ?_)
  try dsimp only
  refine wpAny_bind (wpAny_pure ?_)
  try dsimp only
  refine wpAny_bind (wpAny_holding ?_)
  refine wpAny_bind (kd.pyH hu1 hx ?_)
  refine sr_add (s := { s with toks := s.toks + kd.draws k }) R hx hu1 few fun b h' L' es' ep' t' sb r e1 e2 => ?_
  show wpAny _ _ (ret Value.none) _ _ _
  exact wpAny_pure ⟨_, rfl, q h' L' es' ep' t' _ sb r e1 e2⟩
end
end SG
namespace SG
open PySem PySem.Spec PyProof.Rows L2 PpSet
/-! ### members (n, .., m): a tuple of ints, the last one apart -/
abbrev Fm := List Int × Int
def emb (k : Fm) : NestedKey := .tup ((k.1 ++ [k.2]).map .num)
theorem num_inj : ∀ {a b : List Int}, a.map NestedKey.num = b.map NestedKey.num → a = b
  | [], [], _ => rfl
  | [], _ :: _, h => by cases h
  | _ :: _, [], h => by cases h
  | x :: a, y :: b, h => by
    injection h with h1 h2
    injection h1 with h1
    rw [h1, num_inj h2]
theorem emb_inj {a b : Fm} (h : emb a = emb b) : a = b := by
  unfold emb at h
  injection h with h
  have e := num_inj h
  obtain ⟨h1, h2⟩ := List.append_inj' e rfl
  injection h2 with h2 _
  exact Prod.ext h1 h2
theorem emb_dec (a b : Fm) : decide (emb a = emb b) = decide (a = b) := by
  by_cases h : a = b
  · rw [h, decide_eq_true rfl, decide_eq_true rfl]
  · rw [decide_eq_false h, decide_eq_false fun z => h (emb_inj z)]
theorem nums_depth : ∀ l : List Int, NestedKey.depthAll (l.map .num) = 0
  | [] => rfl
  | _ :: l => by
    show max 0 (NestedKey.depthAll (l.map .num)) = 0
    rw [nums_depth l]
    rfl
theorem emb_depth (k : Fm) : (emb k).depth = 1 := by
  show NestedKey.depthAll ((k.1 ++ [k.2]).map .num) + 1 = 1
  rw [nums_depth]
section
variable {P : Program} {w : World} {A : Around} {E : Value → Shared → Prop} {s : Shared}
theorem num_val {h : Heap} {i : Int} {v : Value} (x : NestedIs h (.num i) v) : carriedByValue v = true ∧ (∀ n, ofAClassStatement n v = pure false) ∧ ∀ n, hashByValue n v = pure true := by
  cases x with
  | bool e => exact ⟨rfl, fun n => by cases n <;> rfl, fun n => by cases n <;> rfl⟩
  | int _ _ => exact ⟨rfl, fun n => by cases n <;> rfl, fun n => by cases n <;> rfl⟩
theorem nums_val {h : Heap} : ∀ {l : List Int} {vs : List Value}, NestedAll h (l.map .num) vs → ∀ v ∈ vs, (∀ n, ofAClassStatement n v = pure false) ∧ ∀ n, hashByValue n v = pure true
  | [], _, x, v, hv => by cases x; cases hv
  | i :: l, _, x, v, hv => by
    cases x with
    | cons x1 x2 =>
      rcases List.mem_cons.mp hv with e | hv
      · rw [e]
        exact (num_val x1).2
      · exact nums_val x2 v hv
/-- a tuple is of no class statement, if its items are of none -/
theorem cls_tup {a : Addr} {o : Obj} {vs : Array Value} {m d : Nat} {Q : Bool → Shared → Prop} (ho : s.heap.get? a = some o) (hc : o.cls = .type "tuple") (hd : o.data = .seq vs m)
    (hi : ∀ v ∈ vs.toList, ∀ (Q' : Bool → Shared → Prop), Q' false s → wpAny (model P w) A (ofAClassStatement d v) Q' E s) (q : Q false s) : wpAny (model P w) A (ofAClassStatement (d + 1) (.ref a)) Q E s := by
  have hT : s.TypeIs (.ref a) "tuple" := ⟨o, ho, hc⟩
  unfold ofAClassStatement
  refine wpAny_bind (wpAny_typeOf hT ?_)
  dsimp only
  simp only [show (("tuple" : String) == "tuple") = true by decide, if_true, Bool.not_true, Bool.false_eq_true, if_false]
  try refine wpAny_bind (wpAny_pure ?_)
  try simp only [Bool.not_true, Bool.false_eq_true, if_false]
  show wpAny _ _ (seqItems? (.ref a) >>= _) _ _ s
  refine wpAny_bind (wpAny_seqItems ho hd ?_)
  dsimp only
  refine wpAny_bind ?_
  show wpAny _ _ (forIn vs _ _) _ _ s
  rw [← Array.forIn_toList]
  refine wpAny_forIn_list _ (fun left r s2 => r.1 = none ∧ s2 = s ∧ ∀ v ∈ left, v ∈ vs.toList) _ ?_ ?_ _ _ ⟨rfl, rfl, fun _ h => h⟩
  · rintro v left r s2 ⟨er, rfl, al⟩
    refine wpAny_bind (hi v (al v List.mem_cons_self) _ ?_)
    simp only [Bool.false_eq_true, if_false]
    exact wpAny_pure ⟨rfl, rfl, fun u hu => al u (List.mem_cons_of_mem _ hu)⟩
  · rintro ⟨r1, r2⟩ s2 ⟨er, rfl, _⟩
    simp only at er
    subst er
    exact wpAny_pure q
theorem hby_tup {a : Addr} {o : Obj} {vs : Array Value} {m d : Nat} {Q : Bool → Shared → Prop} (ho : s.heap.get? a = some o) (hc : o.cls = .type "tuple") (hd : o.data = .seq vs m)
    (hi : ∀ v ∈ vs.toList, ∀ (Q' : Bool → Shared → Prop), Q' true s → wpAny (model P w) A (hashByValue d v) Q' E s) (q : Q true s) : wpAny (model P w) A (hashByValue (d + 1) (.ref a)) Q E s := by
  have hT : s.TypeIs (.ref a) "tuple" := ⟨o, ho, hc⟩
  unfold hashByValue
  refine wpAny_bind (wpAny_specialOf hT F.slot_tuple_hash.lookup ?_)
  show wpAny _ _ (seqItems? (.ref a) >>= _) _ _ s
  refine wpAny_bind (wpAny_seqItems ho hd ?_)
  refine wpAny_bind ?_
  show wpAny _ _ (forIn vs _ _) _ _ s
  rw [← Array.forIn_toList]
  refine wpAny_forIn_list _ (fun left r s2 => r.1 = none ∧ s2 = s ∧ ∀ v ∈ left, v ∈ vs.toList) _ ?_ ?_ _ _ ⟨rfl, rfl, fun _ h => h⟩
  · rintro v left r s2 ⟨er, rfl, al⟩
    refine wpAny_bind (hi v (al v List.mem_cons_self) _ ?_)
    simp only [Bool.not_true, Bool.false_eq_true, if_false]
    exact wpAny_pure ⟨rfl, rfl, fun u hu => al u (List.mem_cons_of_mem _ hu)⟩
  · rintro ⟨r1, r2⟩ s2 ⟨er, rfl, _⟩
    simp only at er
    subst er
    exact wpAny_pure q
end
def KF (P : Program) (w : World) : Kd P w Fm where
  is := fun h k a => NestedIs h (emb k) (.ref a)
  hash := fun k => (emb k).hash w
  draws := fun k => (emb k).draws
  keep := fun x k => NestedIs.at (fun b o vs n hb hd => k b o hb ⟨vs, n, hd⟩) _ _ x
  eqB := fun {A E s x y a b Q} hu hx hy q => eqAt_key (emb x) (emb y) A s _ _ hx hy (by rw [emb_depth, emb_depth]; omega) _ _ _ _ (by rw [← NestedKey.decide_eq, emb_dec]; exact q)
  pyH := fun {A E s k a Q} hu hk q => pyHash_key _ _ _ _ _ hk (by rw [emb_depth]; omega) q
  quiet := fun {A E s k a Q} hk q => quiet_key (emb k) (.ref a) 8 s hk (by rw [emb_depth]; decide) _ _ _ q
  noCls := fun {A E s k a Q} hk q => by
    cases hk with
    | tup ho hc hd hi => exact cls_tup ho hc hd (fun v hv Q' q' => by rw [(nums_val hi v hv).1]; exact wpAny_pure q') q
  byV := fun {A E s k a Q} hk q => by
    cases hk with
    | tup ho hc hd hi => exact hby_tup ho hc hd (fun v hv Q' q' => by rw [(nums_val hi v hv).2]; exact wpAny_pure q') q
end SG
namespace SG
open PySem PySem.Spec PyProof.Rows L2 PpSet
/-- the set's own object -/
structure S0 (P : Program) (w : World) (h : Heap) (a : Addr) (L : List (Addr × Fm)) (es : Array (Int × Value)) (ep : Nat) (t : SetTable) : Prop where
  ob : ∃ o, h.get? a = some o ∧ o.ExactSet ∧ o.data = .set es ep t
  rows : es.toList = rowsG (KF P w) L
  tab : TabOk t (L.map fun p => (KF P w).hash p.2)
  nd : (L.map (·.2)).Nodup
  plain : t.plain = true
  led : w.params.followText "set-order" = true ∨ t.led = true
  room : L.length * 5 < t.mask * 3
  few : L.length < 64
theorem SR.s0 {P : Program} {w : World} {h : Heap} {a : Addr} {L : List (Addr × Fm)} {es : Array (Int × Value)} {ep : Nat} {t : SetTable} (R : SR (KF P w) h a L es ep t) : S0 P w h a L es ep t := ⟨R.ob, R.rows, R.tab, R.nd, R.plain, R.led, R.room, R.few⟩
theorem S0.sr {P : Program} {w : World} {h : Heap} {a : Addr} {L : List (Addr × Fm)} {es : Array (Int × Value)} {ep : Nat} {t : SetTable} (R : S0 P w h a L es ep t) (m : ∀ p ∈ L, (KF P w).is h p.2 p.1) : SR (KF P w) h a L es ep t := ⟨R.ob, R.rows, R.tab, R.nd, m, R.plain, R.led, R.room, R.few⟩
/-- a set of members at a: which objects, which keys -/
def SetGO (P : Program) (w : World) (a : Addr) (L : List (Addr × Fm)) : HO := .ext fun h => ∃ es ep t, S0 P w h a L es ep t
theorem setGO_ok {P : Program} {w : World} {H : Hp} {h : Heap} {a : Addr} {L : List (Addr × Fm)} {es : Array (Int × Value)} {ep : Nat} {t : SetTable} (R : S0 P w h a L es ep t) : ObjOk P w H h a (SetGO P w a L) := by
  refine ⟨⟨es, ep, t, R⟩, ?_, fun h1 h2 ⟨es, ep, t, q⟩ k => ⟨es, ep, t, ?_⟩⟩
  · obtain ⟨o, ho, _⟩ := R.ob
    exact ⟨o, ho⟩
  · obtain ⟨o, ho, r⟩ := q.ob
    exact ⟨⟨o, k o ho, r⟩, q.rows, q.tab, q.nd, q.plain, q.led, q.room, q.few⟩
/-- the tuple at a is (n, .., m) -/
def VF (K : PySem.W.Frag) (H : Hp) (a : Addr) (k : Fm) : Prop := SqT K H a ((k.1 ++ [k.2]).map V.int)
theorem nums_all {h : Heap} : ∀ {l : List Int} {us : List Value}, Vals (l.map V.int) us → NestedAll h (l.map .num) us
  | [], _, .nil => .nil
  | i :: l, _, .cons r t => by
    obtain ⟨tk, rfl⟩ := r
    exact .cons (.int i tk) (nums_all t)
section
variable {X : Cx} {pins : List (Addr × Obj)} {σ : L2.St} {H : Hp} {s : Shared}
theorem vf_is (I : Inv X pins σ H s) {a : Addr} {k : Fm} (h : VF X.K H a k) : (KF X.prog X.w).is s.heap k a := by
  obtain ⟨us, r, ⟨o, ho, hc, n, hd⟩, _⟩ := I.tuple h
  exact NestedIs.tup ho hc hd (nums_all r)
/-- a member is added -/
theorem addG_ok (hu : X.A.units + 64 < cLine) {E : Value → Shared → Prop} {D x : Addr} {k : Fm} {L : List (Addr × Fm)} {Q : Value → Shared → Prop} (I : Inv X pins σ H s) (hD : H D = some (SetGO X.prog X.w D L)) (hx : VF X.K H x k) (hm : ∀ p ∈ L, VF X.K H p.1 p.2) (few : L.length + 1 < 64)
    (q : ∀ L' s', (k ∈ L.map (·.2) → L' = L) → (k ∉ L.map (·.2) → L'.Perm ((x, k) :: L)) → Inv X pins σ (upd H D (SetGO X.prog X.w D L')) s' → Q .none s') : wpAny (model X.prog X.w) X.A (call (.builtin "set.add") [.ref D, .ref x]) Q E s := by
  obtain ⟨es, ep, t, R⟩ := (show ObjOk X.prog X.w H s.heap D (SetGO X.prog X.w D L) from I.hok D _ hD).1
  refine sr_add_call (R.sr fun p hp => vf_is I (hm p hp)) (vf_is I hx) (by omega) few fun h' L' es' ep' t' tk sb r e1 e2 => q L' _ e1 e2 ?_
  have new := r.s0
  have he : ∃ u, h'.get? D = some u := by
    obtain ⟨o, ho, _⟩ := new.ob
    exact ⟨o, ho⟩
  exact I.write (e := D) (t' := tk) (by rw [hD]; trivial) (.inl rfl) (fun b u hb hu => (sb.2 b hb).trans hu) he (setGO_ok new)
/-- {elt for target in iter if ..}, elt a member: D the new set -/
def tSg (P : Program) (w : World) (K : PySem.W.Frag) (wi : TI) (g : TG) (tt : TT) (te : TE) (vs : List Nat) : TE := fun σ H Q => wi σ H fun J H1 => ∀ D, H1 D = none → ∃ W : Nat → Nat → Hp → Prop, (∃ m, W 0 m (upd H1 D (SetGO P w D []))) ∧ ∀ i m H, W i m H →
  (J.stop i H ∧ Q (.ref D) H) ∨ (J.go i H ∧ ∃ Nx : Hp → Prop, (∀ H', Nx H' → ∃ m', m' < m ∧ W (i + 1) m' H') ∧ ∀ x H', J.yld i H x H' → g x (wipe σ vs) H' fun σ2 H2 => wipe σ2 vs = wipe σ vs ∧ tt σ2 H2 fun b H3 =>
    if b = true then te σ2 H3 fun y H4 => ∃ (x : Addr) (k : Fm) (L : List (Addr × Fm)), y = .ref x ∧ VF K H4 x k ∧ H4 D = some (SetGO P w D L) ∧ (∀ p ∈ L, VF K H4 p.1 p.2) ∧ L.length + 1 < 64 ∧
      (∀ L', (k ∈ L.map (·.2) → L' = L) → (k ∉ L.map (·.2) → L'.Perm ((x, k) :: L)) → Nx (upd H4 D (SetGO P w D L'))) else Nx H3)
theorem pe_sg {Q0 : True} {elt tg iter : Expr} {ifs : List Expr} {scope : Scope} {own : List (PySem.Str × Nat)} {pos : Pos} {wi : TI} {g : TG} {tt : TT} {te : TE} (hc : X.calm = true) (hu : X.A.units + 64 < cLine) (hN : X.N.Nodup) (hi : PI X tg iter wi) (ok : BlkOk X.N X.env.scope scope own)
    (hg : ∀ (s : Shared) (H : Hp) (C : Addr) (cl : List (PySem.Str × Addr)) (fp : List Addr), PG (X.blk s H scope (compEnvC scope cl C X.env) fp) tg g) (ht : ∀ (s : Shared) (H : Hp) (C : Addr) (cl : List (PySem.Str × Addr)) (fp : List Addr), PTs (X.blk s H scope (compEnvC scope cl C X.env) fp) ifs tt)
    (he : ∀ (s : Shared) (H : Hp) (C : Addr) (cl : List (PySem.Str × Addr)) (fp : List Addr), PE (X.blk s H scope (compEnvC scope cl C X.env) fp) elt te) (hs : ∀ x, foldedSetIterable iter X.env x = pure x := by intro _; rfl) :
    PE X (.SetComp elt [⟨tg, iter, ifs, 0⟩] scope pos) (tSg X.prog X.w X.K wi g tt te (own.map (·.2))) := by
  refine ⟨fun pins s σ H Q I h => ?_⟩
  rw [eval_SetComp]
  have hfree : ∀ y ∈ scope.names, y.2 = .free → ∃ c, X.env.cells.lookup y.1 = some c := fun y hy e => I.ok.has _ (ok.free y hy e)
  refine wpAny_comprehension_free (use := none) rfl hs (closure_ok hfree) ok.kind (fun y hy e => by rw [ok.uniq y hy, e]) (thn (hi.run pins s σ H _ I h) fun xv s1 hx => thn hx fun itv s2 h2 => ?_)
  obtain ⟨it, fp, tn, J, H2, e, I2, T, st2, f2, q⟩ := h2
  subst e
  refine newSet_ok (newEnv_comp ?_)
  obtain ⟨D, hD⟩ : ∃ D, s2.heap.objs.size = D := ⟨_, rfl⟩
  rw [hD]
  obtain ⟨W, ⟨m0, w0⟩, turn⟩ := q D (I2.hok.fresh (Nat.le_of_eq hD))
  obtain ⟨s3, hs3⟩ : ∃ s3 : Shared, s3 = { s2 with heap := s2.heap.push { cls := .type "set", dict := none, data := .set #[] 0 (.fresh 0 0 (!X.w.params.followText "set-order")) } } := ⟨_, rfl⟩
  rw [← hs3]
  have h3 : s3.heap = s2.heap.push { cls := .type "set", dict := none, data := .set #[] 0 (.fresh 0 0 (!X.w.params.followText "set-order")) } := by rw [hs3]
  have I3 : Inv X pins σ (upd H2 D (SetGO X.prog X.w D [])) s3 := by
    rw [hs3]
    refine I2.laid (t' := s2.toks) (fun b o e => Heap.get?_push_of_some _ e) (Nat.le_of_eq hD) ?_
    rw [← hD]
    exact setGO_ok (SR.s0 (sr_fresh (Heap.get?_push_size _ rfl)))
  have below : ∀ b ∈ fp, b < s2.heap.objs.size := fun b hb => by
    obtain ⟨o, e, _⟩ := T.obj _ _ st2 b hb
    exact Heap.lt_size e
  have f3 : ∀ b ∈ fp, FpOk X pins (upd H2 D (SetGO X.prog X.w D [])) b ∧ b < s3.heap.objs.size := fun b hb => by
    have hlt := below b hb
    refine ⟨⟨?_, (f2 b hb).2⟩, by rw [h3, Heap.size_push]; exact Nat.lt_succ_of_lt hlt⟩
    rw [upd_ne (by rw [← hD]; exact Nat.ne_of_lt hlt)]
    exact (f2 b hb).1
  have st3 : tn 0 s3.heap := T.keep _ _ _ st2 fun b _ o e => by rw [h3]; exact Heap.get?_push_of_some _ e
  generalize hH3 : upd H2 D (SetGO X.prog X.w D []) = H3 at I3 w0 f3
  have I4 := block_start I3 ok hN f3
  have pg := hg s3 H3 s3.heap.objs.size (cellsFrom (s3.heap.objs.size + 1) scope.names (cloFrom X.env.cells scope.names [])) fp
  have pt := ht s3 H3 s3.heap.objs.size (cellsFrom (s3.heap.objs.size + 1) scope.names (cloFrom X.env.cells scope.names [])) fp
  have pe := he s3 H3 s3.heap.objs.size (cellsFrom (s3.heap.objs.size + 1) scope.names (cloFrom X.env.cells scope.names [])) fp
  have post : ∀ s' m H', Inv X pins σ H' s' → Q (.ref D) H' → s'.heap.Ns s3.heap.objs.size m → FpOk X pins H' s3.heap.objs.size → compPost (model X.prog X.w) X.A X.xe none (EP X pins σ Q) (.ref D) s3.heap.objs.size (.ok .next) s' := fun s' m H' I' q hn f => ⟨m, hn, fun h'' sb => by
    obtain ⟨z0, z1, z2, z3, z4, z5⟩ := f
    exact ⟨.ref D, H', I'.turned (t' := s'.toks) (fun b o hb e => (sb.2 b hb).trans e) z0 z1 z3 z4 z5, rfl, q⟩⟩
  show codeAny _ _ (.compStart (.SetComp elt [⟨tg, iter, ifs, 0⟩] scope pos) 0 (.ref it) (.ref D) (compEnvC scope (cellsFrom (s3.heap.objs.size + 1) scope.names (cloFrom X.env.cells scope.names [])) s3.heap.objs.size X.env)) (compPost (model X.prog X.w) X.A X.xe none (EP X pins σ Q) (.ref D) s3.heap.objs.size) { s3 with heap := pushCells (s3.heap.push { cls := .type "dict", data := .dict #[] }) scope.names }
  have n3 : ∀ b ∈ fp, H3 b = none := fun b hb => (f3 b hb).1.1
  generalize hce : compEnvC scope (cellsFrom (s3.heap.objs.size + 1) scope.names (cloFrom X.env.cells scope.names [])) s3.heap.objs.size X.env = ce at I4 pg pt pe ⊢
  have cL : ce.locals = s3.heap.objs.size := by subst hce; rfl
  generalize hs4 : ({ s3 with heap := pushCells (s3.heap.push { cls := .type "dict", data := .dict #[] }) scope.names } : Shared) = s4 at I4 ⊢
  have st4 : tn 0 s4.heap := T.keep _ _ _ st3 fun b _ o e => by rw [← hs4]; exact pushCells_keeps _ _ _ _ (Heap.get?_push_of_some _ e)
  have stat : ∀ {σ' : L2.St} {H' : Hp} {s' : Shared}, Inv (X.blk s3 H3 scope ce fp) [] σ' H' s' → (∀ b ∈ fp, H' b = none) → ∀ b ∈ fp, FpOk (X.blk s3 H3 scope ce fp) [] H' b := fun {σ' H' s'} I' hn b hb =>
    ⟨hn b hb, (I'.ok.exf b hb).1, I'.ok.exfs b hb, .inl hb, fun x c e => (I'.ok.exf b hb).2 x c e, fun p hp => absurd (show p ∈ ([] : List (Addr × Obj)) ++ [] from hp) (by simp)⟩
  have loop : codeAny (model X.prog X.w) X.A (.compLoop (.SetComp elt [⟨tg, iter, ifs, 0⟩] scope pos) 0 (.ref it) (.ref D) ce) (compPost (model X.prog X.w) X.A X.xe none (EP X pins σ Q) (.ref D) s3.heap.objs.size) s4 := by
    refine compLoopS_any (fun n s' => ∃ i H', Inv (X.blk s3 H3 scope ce fp) [] (wipe σ (own.map (·.2))) H' s' ∧ tn i s'.heap ∧ (∀ b ∈ fp, H' b = none) ∧ W i n H') ?_ m0 ⟨0, H3, I4, st4, n3, w0⟩
    rintro n s5 ⟨i, H5, I5, st5, n5, w5⟩
    rcases turn i n H5 w5 with ⟨stop, qq⟩ | ⟨go, Nx, hNx, step⟩
    · refine thnF (T.done (X.blk s3 H3 scope ce fp) rfl rfl rfl hc i [] s5 _ H5 (fun _ _ => False) I5 (stat I5 n5) st5 stop) fun r s6 ⟨hr, I6⟩ => ?_
      subst hr
      have I7 : Inv X pins σ H5 s6 := I3.call' (ch := fp) I6.os I6.base I6.hok I6.bare fun b hb => ⟨(f3 b hb).1.2.2.2.1, (f3 b hb).1.2.1, (f3 b hb).1.2.2.2.2.1, (f3 b hb).1.2.2.2.2.2⟩
      have nC : H5 s3.heap.objs.size = none := by
        have z : H5 ce.locals = none := I6.free
        rwa [cL] at z
      obtain ⟨m, hn, _⟩ := I6.loc
      have hn2 : s6.heap.Ns ce.locals m := hn
      rw [cL] at hn2
      exact post s6 m H5 I7 qq hn2 (I3.fpOk (Nat.le_refl _) nC)
    · refine thnF (T.item (X.blk s3 H3 scope ce fp) rfl rfl rfl hc i [] s5 _ H5 (fun _ _ => False) I5 (stat I5 n5) st5 go) fun r s6 ⟨u, hr, h6⟩ => ?_
      subst hr
      refine thnF h6 fun _ s7 ⟨x, H7, I7, r7, y7, st7, n7⟩ => ?_
      refine thnF (pg.run _ s7 _ H7 x u _ (I7.pinned (stat I7 n7) (T.obj _ _ st7)) r7 (step x H7 y7)) fun _ s8 ⟨σ8, H8, I8, hw8, q8⟩ => ?_
      refine thnF (pt.run _ s8 σ8 H8 _ I8 q8) fun b s9 ⟨H9, I9, q9⟩ => ?_
      have fin : ∀ {s' : Shared} {H' : Hp}, Inv (X.blk s3 H3 scope ce fp) ([] ++ pinsAt fp s7.heap) σ8 H' s' → Nx H' → ∃ m, m < n ∧ ∃ i H', Inv (X.blk s3 H3 scope ce fp) [] (wipe σ (own.map (·.2))) H' s' ∧ tn i s'.heap ∧ (∀ b ∈ fp, H' b = none) ∧ W i m H' := fun {s' H'} I' nx => by
        obtain ⟨m', hm, w'⟩ := hNx H' nx
        have pin' : ∀ b ∈ fp, ∀ o, s7.heap.get? b = some o → s'.heap.get? b = some o ∧ H' b = none := fun b hb o e =>
          let z := I'.pin (b, o) (List.mem_append_right _ (List.mem_append_right _ (mem_pinsAt hb e)))
          ⟨z.1, z.2.1⟩
        have hl : (wipe σ (own.map (·.2))).length = σ8.length := by rw [← hw8, wipe_length]
        refine ⟨m', hm, i + 1, H', (I'.unpinned (pins := [])).weak hl (fun j v e => ?_), T.keep _ _ _ st7 fun b hb o e => (pin' b hb o e).1, fun b hb => ?_, w'⟩
        · rw [← hw8] at e
          exact (wipe_some e).1
        · obtain ⟨o, e, _⟩ := T.obj _ _ st7 b hb
          exact (pin' b hb o e).2
      cases b with
      | false =>
        simp only [Bool.false_eq_true, if_false] at q9 ⊢
        exact fin I9 q9
      | true =>
        simp only [if_true] at q9 ⊢
        refine thnF (pe.run _ s9 σ8 H9 _ I9 q9) fun z s10 ⟨yv, H10, I10, r10, xa, k, L, ey, vf, hD10, hm, few, nx⟩ => ?_
        subst ey
        cases (show z = Value.ref xa from r10)
        exact addG_ok (X := X.blk s3 H3 scope ce fp) hu I10 hD10 vf hm few fun L' s11 e1 e2 I11 => fin I11 (nx L' e1 e2)
  exact codeAny_compStart_set loop (T.self X.A 0 _ _ _ st4 loop)
end
end SG
namespace SG
open PySem PySem.Spec PyProof.Rows L2 PpSet
section
variable {X : Cx}
/-- len of a set of members -/
theorem len_setG : CallR X (.builtin "len") (fun xs H Q => ∃ (D : Addr) (L : List (Addr × Fm)), xs = [.ref D] ∧ H D = some (SetGO X.prog X.w D L) ∧ Q (.int L.length) H) := by
  intro pins s σ H xs us Q I r h
  obtain ⟨D, L, rfl, hD, q⟩ := h
  cases r with
  | cons r1 r2 =>
    cases r2
    cases r1
    obtain ⟨es, ep, t, R⟩ := (show ObjOk X.prog X.w H s.heap D (SetGO X.prog X.w D L) from I.hok D _ hD).1
    obtain ⟨o, ho, hex, hd⟩ := R.ob
    have el : es.size = L.length := by
      have z := congrArg List.length R.rows
      rwa [rowsG_len, Array.length_toList] at z
    have e2 := R.tab.sz
    rw [List.length_map] at e2
    have hroom := R.room
    have few := R.few
    have fits : t.fits es.size = true := by
      unfold SetTable.fits SetTable.fill
      rw [R.tab.dm, Bool.and_eq_true, beq_iff_eq, decide_eq_true_eq]
      exact ⟨by omega, by show t.place.size + 0 ≤ t.mask; omega⟩
    refine call_len_set ho hex hd fits (by omega) ⟨.int L.length, H, I.tok _, ⟨_, by rw [el]⟩, q⟩
end
/-- over a tuple that the block leaves as it is -/
theorem sg_tup {P : Program} {w : World} {K : PySem.W.Frag} {a : Addr} {xs : List V} {g : TG} {tt : TT} {te : TE} {vs : List Nat} {σ : L2.St} {H1 : Hp} {D : Addr} {Qd : Hp → Prop} (Pv : Nat → Hp → Prop) (h0 : Pv 0 (upd H1 D (SetGO P w D []))) (hl : ∀ i H, i ≤ xs.length → Pv i H → SqT K H a xs)
    (hs : ∀ i x H, xs[i]? = some x → Pv i H → g x (wipe σ vs) H fun σ2 H2 => wipe σ2 vs = wipe σ vs ∧ tt σ2 H2 fun b H3 =>
      if b = true then te σ2 H3 fun y H4 => ∃ (x : Addr) (k : Fm) (L : List (Addr × Fm)), y = .ref x ∧ VF K H4 x k ∧ H4 D = some (SetGO P w D L) ∧ (∀ p ∈ L, VF K H4 p.1 p.2) ∧ L.length + 1 < 64 ∧
        (∀ L', (k ∈ L.map (·.2) → L' = L) → (k ∉ L.map (·.2) → L'.Perm ((x, k) :: L)) → Pv (i + 1) (upd H4 D (SetGO P w D L'))) else Pv (i + 1) H3) (hd : ∀ H, Pv xs.length H → Qd H) :
    ∃ W : Nat → Nat → Hp → Prop, (∃ m, W 0 m (upd H1 D (SetGO P w D []))) ∧ ∀ i m H, W i m H →
      ((Itt K a).stop i H ∧ Qd H) ∨ ((Itt K a).go i H ∧ ∃ Nx : Hp → Prop, (∀ H', Nx H' → ∃ m', m' < m ∧ W (i + 1) m' H') ∧ ∀ x H', (Itt K a).yld i H x H' → g x (wipe σ vs) H' fun σ2 H2 => wipe σ2 vs = wipe σ vs ∧ tt σ2 H2 fun b H3 =>
        if b = true then te σ2 H3 fun y H4 => ∃ (x : Addr) (k : Fm) (L : List (Addr × Fm)), y = .ref x ∧ VF K H4 x k ∧ H4 D = some (SetGO P w D L) ∧ (∀ p ∈ L, VF K H4 p.1 p.2) ∧ L.length + 1 < 64 ∧
          (∀ L', (k ∈ L.map (·.2) → L' = L) → (k ∉ L.map (·.2) → L'.Perm ((x, k) :: L)) → Nx (upd H4 D (SetGO P w D L'))) else Nx H3) := by
  refine ⟨fun i m H => m = xs.length - i ∧ i ≤ xs.length ∧ Pv i H, ⟨xs.length, by simp, Nat.zero_le _, h0⟩, ?_⟩
  rintro i m H ⟨rfl, hi, p⟩
  have q := hl i H hi p
  by_cases hlt : i < xs.length
  · refine .inr ⟨⟨xs, xs[i], q, by simp [hlt]⟩, Pv (i + 1), fun H' p' => ⟨xs.length - (i + 1), by omega, rfl, hlt, p'⟩, fun x H' y => ?_⟩
    obtain ⟨e, y⟩ := y
    subst e
    exact hs i x _ (y xs q) p
  · have e : i = xs.length := by omega
    subst e
    exact .inl ⟨⟨xs, q, Nat.le_refl _⟩, hd H p⟩
end SG
namespace GA
open PySem PySem.Spec PyProof.Rows L2 GenW GxR

/-- the frame of a generator expression runs: around it, its consumer's two units -/
abbrev arG (X : Cx) (cenv : Env) : Around := X.A.in1.in1.deeper cenv
/-- the context of a generator expression's frame -/
abbrev cxG (X : Cx) (s : Shared) (H : Hp) (cenv : Env) (fp : List Addr) : Cx :=
  { X with A := arG X cenv, s_0 := s, H_0 := H, env := cenv, outer := X.stack, stack := cenv :: X.stack, ex := fp, fn := fun _ => false, calm := true, pn := [], xe := fun _ _ => False }
/-- the frame's names, its cells, its object at C -/
abbrev envG (X : Cx) (scope : Scope) (C : Addr) (code : Value) : Env := genEnv scope (cloFrom X.env.cells scope.names []) C code builtinsNs X.env
/-- the expression's own scope: no cells of its own -/
structure GenOk (N : List Str) (sc scope : Scope) (own : List (Str × Nat)) : Prop extends BlkOk N sc scope own where
  co : scope.isCoroutine = false
  cell : ∀ y ∈ scope.names, y.2 ≠ .cell
  dot : scope.names.lookup (".0" : Str) = some NameKind.local

theorem over_gen {A : Around} {elt : Expr} {cls : List Comprehension} {scope : Scope} {pos : Pos} {it acc : Value} {env : Env} : A.over (.compLoop (.GeneratorExp elt cls scope pos) 0 it acc env) [] = A.deeper env := by
  first
    | rfl
    | (obtain ⟨hd, d, fr, gs, u⟩ := A; simp [Around.over, Around.deeper, marksOver, frameCount, unitsOf, envsOf, guardsOf, pushEnvs, pushGuards, Code.envs, Code.env?, Code.isFrame, Code.guards, Code.isGuard, Code.weight, Code.frames, Code.isCreation, Code.isCaller, Code.cUnits])
theorem over_gen0 {A : Around} {elt : Expr} {cls : List Comprehension} {scope : Scope} {pos : Pos} {it acc : Value} {env : Env} : A.over (.compStart (.GeneratorExp elt cls scope pos) 0 it acc env) [] = A.deeper env := by
  first
    | rfl
    | (obtain ⟨hd, d, fr, gs, u⟩ := A; simp [Around.over, Around.deeper, marksOver, frameCount, unitsOf, envsOf, guardsOf, pushEnvs, pushGuards, Code.envs, Code.env?, Code.isFrame, Code.guards, Code.isGuard, Code.weight, Code.frames, Code.isCreation, Code.isCaller, Code.cUnits])

section
variable {X : Cx} {pins : List (Addr × Obj)} {σ : L2.St} {H : Hp} {s : Shared}
theorem gen_start {scope : Scope} {own : List (Str × Nat)} {fp : List Addr} {code : Value} {h' : Heap} {go : Obj} {m0 : Str → Option Value} {c : GenState} {tk : Nat} (hd : X.A.handled = none) (I : L2.Inv X pins σ H s) (ok : GenOk X.N X.env.scope scope own) (hN : X.N.Nodup)
    (hfp : ∀ b ∈ fp, FpOk X pins H b ∧ b < s.heap.objs.size) (hns : h'.Ns s.heap.objs.size m0) (kp : ∀ b o, s.heap.get? b = some o → h'.get? b = some o) (hsz : s.heap.objs.size < h'.objs.size) (hgo : ∀ v, go.data ≠ .cell v) (hpu : ∀ h : Heap, (h.push go).get? h.objs.size = some go) (hc : c.bare = true) :
    L2.Inv (cxG X s H (envG X scope s.heap.objs.size code) fp) [(h'.objs.size, go)] (wipe σ (own.map (·.2))) H { s with gens := s.gens.push c, toks := tk, heap := h'.push go } := by
  have hfree : ∀ y ∈ scope.names, y.2 = .free → ∃ c, X.env.cells.lookup y.1 = some c := fun y hy e => by
    rcases ok.free y hy e with k | k
    · exact I.ok.has _ (.inl k)
    · exact I.ok.has _ (.inr k)
  have kp2 : ∀ b o, s.heap.get? b = some o → (h'.push go).get? b = some o := fun b o e => Heap.get?_push_of_some _ (kp b o e)
  have cm : ∀ {y c}, (y, c) ∈ cloFrom X.env.cells scope.names [] → X.env.cells.lookup y = some c ∧ c < s.heap.objs.size := fun {y c} hm => by
    rcases cloFrom_mem hm with hm | ⟨h1, rfl⟩
    · cases hm
    · obtain ⟨c, hc⟩ := hfree _ h1 rfl
      rw [hc]
      obtain ⟨w, z⟩ := I.cell _ _ hc
      exact ⟨rfl, z.lt⟩
  have mem : ∀ {y c}, (envG X scope s.heap.objs.size code).cells.lookup y = some c → X.env.cells.lookup y = some c ∧ c < s.heap.objs.size := fun {y c} e => cm (PySem.mem_of_lookup e)
  have look : ∀ {y}, scope.names.lookup y = some .free → ∃ c, (envG X scope s.heap.objs.size code).cells.lookup y = some c ∧ X.env.cells.lookup y = some c := fun {y} hl => by
    have hy : (y, NameKind.free) ∈ scope.names := PySem.mem_of_lookup hl
    obtain ⟨c', e'⟩ := mem_lookup (cloFrom_has (cells := X.env.cells) (acc := []) hy)
    exact ⟨c', e', (mem e').1⟩
  have nofs : ∀ b, s.heap.objs.size ≤ b → b ∉ frs X.stack := fun b hb hm => by
    rcases List.mem_cons.mp (I.stkSub b hm) with z | z
    · have := I.lt
      rw [← z] at this
      exact absurd (Nat.lt_of_lt_of_le this hb) (Nat.lt_irrefl _)
    · exact I.nofs hb z
  have okG : (cxG X s H (envG X scope s.heap.objs.size code) fp).Ok := by
    refine ⟨I.ok.mod, ok.kind, I.ok.glob, rfl, Nat.le_refl _, fun y z c e1 e2 => I.ok.inj y z c (mem e1).1 (mem e2).1, fun y hy => ?_, fun y c z e => absurd z (by simp), fun _ => hd, Around.frames_deeper I.ok.frames, .inr ⟨rfl, rfl⟩,
      fun b hb => ⟨Nat.ne_of_lt (hfp b hb).2, fun y c e z => (hfp b hb).1.2.2.2.2.1 y c (mem e).1 z⟩, I.bs, Nat.le_trans I.ok.bsz I.sz, fun b o e hb => ?_, fun b hb z => ?_, I.stack, I.stkFree⟩
    · have hy : scope.names.lookup y = some .cell ∨ scope.names.lookup y = some .free := hy
      rcases hy with hy | hy
      · exact absurd rfl (ok.cell _ (PySem.mem_of_lookup hy))
      · obtain ⟨c, h1, _⟩ := look hy
        exact ⟨c, h1⟩
    · rcases (hfp b hb).1.2.2.2.1 with z | z
      · exact I.ok.noex b o e z
      · exact absurd (Nat.lt_of_lt_of_le (Heap.lt_size e) (Nat.le_trans I.ok.bsz z)) (Nat.lt_irrefl _)
    · rcases List.mem_cons.mp (I.stkSub b z) with z | z
      · exact (hfp b hb).1.2.1 z
      · exact (hfp b hb).1.2.2.1 z
  refine ⟨okG, rfl, AllBare.push I.bare hc, Un.kept kp2, ⟨m0, hns.keeps fun b o e => Heap.get?_push_of_some _ e, fun i y av e1 e2 e3 => ?_⟩, fun y c e => ?_, I.hok.fresh (Nat.le_refl _), fun y c e => I.freeC y c (mem e).1, fun p hp => ?_, I.hok.kept kp2, by rw [wipe_length]; exact I.len⟩
  · obtain ⟨e2, hne⟩ := wipe_some e2
    have hfr : scope.names.lookup y = some .free := by
      have no : ∀ k, scope.names.lookup y = some k → ¬ (k = .local ∨ k = .cell) := fun k hk hh => by
        rcases ok.own _ (PySem.mem_of_lookup hk) hh with e' | e'
        · obtain ⟨p, hp, hpy⟩ := List.mem_map.mp e'
          have e3 := ok.ix p hp
          have : p.1 = y := hpy
          rw [this] at e3
          exact hne (List.mem_map.mpr ⟨p, hp, nodup_ix hN e3 e1⟩)
        · exact e' (List.mem_of_getElem? e1)
      have e3 : Vis scope y := e3
      rcases e3 with e3 | e3 | e3
      · exact absurd (.inl rfl) (no _ e3)
      · exact absurd (.inr rfl) (no _ e3)
      · exact e3
    obtain ⟨m, hn, hl⟩ := I.loc
    have hvis : Vis X.env.scope y := (ok.free _ (PySem.mem_of_lookup hfr) rfl).elim (fun k => .inr (.inl k)) (fun k => .inr (.inr k))
    obtain ⟨w, r, q⟩ := hl i y av e1 e2 hvis
    refine ⟨w, r, .inr ⟨.inr hfr, ?_⟩⟩
    obtain ⟨c, h1, h2⟩ := look hfr
    rcases q with ⟨k, _⟩ | ⟨_, c', e', z⟩
    · have k : X.env.scope.names.lookup y = some .local := k
      rcases ok.free _ (PySem.mem_of_lookup hfr) rfl with k' | k' <;> rw [show X.env.scope.names.lookup y = _ from k'] at k <;> cases k
    · rw [h2] at e'; cases e'
      exact ⟨c, h1, z.keeps kp2⟩
  · obtain ⟨w, z⟩ := I.cell y c (mem e).1
    exact ⟨w, z.keeps kp2⟩
  · have hp : p ∈ [(h'.objs.size, go)] := hp
    rw [List.mem_singleton.mp hp]
    exact ⟨hpu _, I.hok.fresh (Nat.le_of_lt hsz), Nat.ne_of_gt hsz, nofs _ (Nat.le_of_lt hsz), hgo⟩
end
end GA
namespace GA
open PySem PySem.Spec PyProof.Rows L2 GenW GxR

theorem inv_same {X : Cx} {pins : List (Addr × Obj)} {σ : L2.St} {H : Hp} {s s' : Shared} (I : L2.Inv X pins σ H s) (hh : s'.heap = s.heap) (ho : s'.os = s.os) (hb : AllBare s'.gens) : L2.Inv X pins σ H s' := by
  obtain ⟨h', g, d, t, o⟩ := s'
  have e1 : h' = s.heap := hh
  have e2 : o = s.os := ho
  subst e1 e2
  exact ⟨I.ok, I.os, hb, I.base, I.loc, I.cell, I.free, I.freeC, I.pin, I.hok, I.len⟩

/-- the plan of a walk: W by the turn and a measure; QT behind its end, QF behind the first item that is false -/
def Plan (J : It) (g : TG) (tt : TT) (te : TE) (σ0 : L2.St) (vs : List Nat) (QT QF : Hp → Prop) (W : Nat → Nat → Hp → Prop) : Prop :=
  ∀ i m H, W i m H → (J.stop i H ∧ QT H) ∨ (J.go i H ∧ ∃ Nx : Hp → Prop, (∀ H', Nx H' → ∃ m', m' < m ∧ W (i + 1) m' H') ∧ ∀ x H', J.yld i H x H' → g x σ0 H' fun σ2 H2 => wipe σ2 vs = σ0 ∧ tt σ2 H2 fun b H3 =>
    if b = true then te σ2 H3 fun y H4 => ∃ b, y = .bl b ∧ (if b = true then Nx H4 else QF H4) else Nx H3)
def GYp (X : Cx) (pins : List (Addr × Obj)) (QF : Hp → Prop) : Protocol := fun n s₀ v s kap =>
  ∃ b σ' H', v = .bool b ∧ L2.Inv X pins σ' H' s ∧ (b = false → QF H') ∧ (b = true → ∀ s'' : Shared, s''.heap = s.heap → s''.os = s.os → AllBare s''.gens → kap (.send .none) s'')
def GPn (X : Cx) (pins : List (Addr × Obj)) (σ0 : L2.St) (QT : Hp → Prop) : Nat → Shared → Shared → Prop := fun _ _ s₁ => ∃ H', L2.Inv X pins σ0 H' s₁ ∧ QT H'

theorem wipe_wipe (σ : L2.St) (vs : List Nat) (h : wipe σ vs = σ') : σ'.length = σ.length := by rw [← h, wipe_length]

section
variable {X : Cx} {s0 : Shared} {H0 : Hp} {cenv : Env} {fp : List Addr} {elt tg iter : Expr} {ifs : List Expr} {scope : Scope} {pos : Pos} {it a : Addr} {go : Obj} {tn : Nat → Heap → Prop} {J : It} {g : TG} {tt : TT} {te : TE} {σ0 : L2.St} {vs : List Nat} {QT QF : Hp → Prop} {W : Nat → Nat → Hp → Prop}
theorem gen_loop (hd : X.A.handled = none) (hco : cenv.scope.isCoroutine = false) (T : Turn X.prog X.w X.K tg J fp it tn) (ha : a ∉ fp) (pg : PG (cxG X s0 H0 cenv fp) tg g) (pt : PTs (cxG X s0 H0 cenv fp) ifs tt) (pe : PE (cxG X s0 H0 cenv fp) elt te)
    (hW : Plan J g tt te σ0 vs QT QF W) : ∀ (m n i : Nat) (H : Hp) (s₀ s : Shared), m < n → W i m H → L2.Inv (cxG X s0 H0 cenv fp) [(a, go)] σ0 H s → tn i s.heap → (∀ b ∈ fp, H b = none) →
      Seg (model X.prog X.w) X.A.in1.in1 (fun n s₀ r s₁ => r = .ok .next ∧ GPn (cxG X s0 H0 cenv fp) [(a, go)] σ0 QT n s₀ s₁) (GYp (cxG X s0 H0 cenv fp) [(a, go)] QF) n s₀
        (.compLoop (.GeneratorExp elt [⟨tg, iter, ifs, 0⟩] scope pos) 0 (.ref it) .none cenv) ((model X.prog X.w).den (.compLoop (.GeneratorExp elt [⟨tg, iter, ifs, 0⟩] scope pos) 0 (.ref it) .none cenv)) [] s := by
  intro m
  induction m using Nat.strongRecOn with
  | ind m ih =>
    intro n i H s₀ s hmn w I st nf
    have eA : X.A.in1.in1.over (.compLoop (.GeneratorExp elt [⟨tg, iter, ifs, 0⟩] scope pos) 0 (.ref it) .none cenv) [] = (cxG X s0 H0 cenv fp).A := over_gen
    have stat : ∀ {σ' : L2.St} {H' : Hp} {s' : Shared}, L2.Inv (cxG X s0 H0 cenv fp) [(a, go)] σ' H' s' → (∀ b ∈ fp, H' b = none) → ∀ b ∈ fp, FpOk (cxG X s0 H0 cenv fp) [(a, go)] H' b := fun {σ' H' s'} I' hn b hb =>
      ⟨hn b hb, (I'.ok.exf b hb).1, I'.ok.exfs b hb, .inl hb, fun x c e => (I'.ok.exf b hb).2 x c e, fun p hp e => by
        have hp : p ∈ [(a, go)] := hp
        rw [List.mem_singleton.mp hp] at e
        exact ha (by rw [show a = b from e]; exact hb)⟩
    show Seg _ _ _ _ _ s₀ _ ((compTurn (.GeneratorExp elt [⟨tg, iter, ifs, 0⟩] scope pos) 0 (.ref it) .none cenv).onRaise (leaving cenv)) [] s
    rw [compTurn_gen, Sem.onRaise_eq_wrap]
    refine seg_bind_wrap (wpAny_standAt ?_)
    rcases hW i m H w with ⟨stop, qq⟩ | ⟨go', Nx, hNx, step⟩
    · refine seg_bind_wrap ?_
      rw [eA]
      refine thnF (T.done (cxG X s0 H0 cenv fp) rfl rfl rfl rfl i [(a, go)] s _ H (fun _ _ => False) I (stat I nf) st stop) fun r s6 ⟨hr, I6⟩ => ?_
      subst hr
      exact seg_end (.ok .next) ⟨rfl, H, I6, qq⟩
    · refine seg_bind_wrap ?_
      rw [eA]
      refine thnF (T.item (cxG X s0 H0 cenv fp) rfl rfl rfl rfl i [(a, go)] s _ H (fun _ _ => False) I (stat I nf) st go') fun r s6 ⟨u, hr, h6⟩ => ?_
      subst hr
      show Seg _ _ _ _ _ s₀ _ (Sem.wrap _ _ _ _ (letOwnedTupleGo tg (.ref it) u >>= _)) [] s6
      refine seg_bind_wrap ?_
      rw [eA]
      refine thnF h6 fun _ s7 ⟨x, H7, I7, r7, y7, st7, n7⟩ => ?_
      have I7' := I7.pinned (stat I7 n7) (T.obj _ _ st7)
      refine seg_bind_wrap ?_
      rw [eA]
      refine thnF (pg.run _ s7 _ H7 x u _ I7' r7 (step x H7 y7)) fun _ s8 ⟨σ8, H8, I8, hw8, q8⟩ => ?_
      refine seg_bind_wrap ?_
      rw [eA]
      refine thnF (pt.run _ s8 σ8 H8 _ I8 q8) fun b s9 ⟨H9, I9, q9⟩ => ?_
      -- the turn's end
      have fin : ∀ {s' : Shared} {H' : Hp}, L2.Inv (cxG X s0 H0 cenv fp) ([(a, go)] ++ pinsAt fp s7.heap) σ8 H' s' → L2.Inv (cxG X s0 H0 cenv fp) [(a, go)] σ0 H' s' ∧ tn (i + 1) s'.heap ∧ (∀ b ∈ fp, H' b = none) := fun {s' H'} I' => by
        have pin' : ∀ b ∈ fp, ∀ o, s7.heap.get? b = some o → s'.heap.get? b = some o ∧ H' b = none := fun b hb o e =>
          let z := I'.pin (b, o) (List.mem_append_right _ (List.mem_append_right _ (mem_pinsAt hb e)))
          ⟨z.1, z.2.1⟩
        have hl : σ0.length = σ8.length := by rw [← hw8, wipe_length]
        refine ⟨(I'.unpinned (pins := [(a, go)])).weak hl (fun j v e => ?_), T.keep _ _ _ st7 fun b hb o e => (pin' b hb o e).1, fun b hb => ?_⟩
        · rw [← hw8] at e
          exact (wipe_some e).1
        · obtain ⟨o, e, _⟩ := T.obj _ _ st7 b hb
          exact (pin' b hb o e).2
      cases b with
      | false =>
        simp only [Bool.false_eq_true, if_false] at q9 ⊢
        obtain ⟨m', hm, w'⟩ := hNx H9 q9
        obtain ⟨f1, f2, f3⟩ := fin I9
        exact seg_again rfl (ih m' hm n (i + 1) H9 s₀ s9 (by omega) w' f1 f2 f3)
      | true =>
        simp only [if_true] at q9 ⊢
        have hy : ∀ v, yieldOut cenv v = yieldValue v := fun v => by simp only [yieldOut, hco, Bool.false_eq_true, if_false]
        simp only [hy]
        rw [Sem.bind_eq_wrap', Sem.bind_eq_wrap', Sem.wrap_wrap, Sem.wrap_wrap]
        refine seg_wrap ?_
        rw [eA]
        refine thnF (pe.run _ s9 σ8 H9 _ I9 q9) fun z s10 ⟨yv, H10, I10, r10, bb, ey, q10⟩ => ?_
        subst ey
        have ez : z = Value.bool bb := r10
        subst ez
        obtain ⟨f1, f2, f3⟩ := fin I10
        obtain ⟨n', rfl⟩ : ∃ n', n = n' + 1 := ⟨n - 1, by omega⟩
        refine seg_at (seg_yield rfl rfl rfl ⟨bb, σ0, H10, rfl, f1, fun hb => ?_, fun hb s'' e1 e2 e3 => ?_⟩)
        · rw [hb, if_neg Bool.false_ne_true] at q10
          exact q10
        · rw [hb, if_pos rfl] at q10
          obtain ⟨m', hm, w'⟩ := hNx H10 q10
          exact seg_again rfl (ih m' hm n' (i + 1) H10 s'' s'' (by omega) w' (inv_same f1 e1 e2 e3) (T.keep _ _ _ f2 fun b hb o e => by rw [e1]; exact e) f3)

theorem gen_first (hd : X.A.handled = none) (hco : cenv.scope.isCoroutine = false) (T : Turn X.prog X.w X.K tg J fp it tn) (ha : a ∉ fp) (pg : PG (cxG X s0 H0 cenv fp) tg g) (pt : PTs (cxG X s0 H0 cenv fp) ifs tt) (pe : PE (cxG X s0 H0 cenv fp) elt te)
    (hW : Plan J g tt te σ0 vs QT QF W) (m n : Nat) (H : Hp) (s₀ s : Shared) (hmn : m < n) (w : W 0 m H) (I : L2.Inv (cxG X s0 H0 cenv fp) [(a, go)] σ0 H s) (st : tn 0 s.heap) (nf : ∀ b ∈ fp, H b = none) :
      Seg (model X.prog X.w) X.A.in1.in1 (fun n s₀ r s₁ => r = .ok .next ∧ GPn (cxG X s0 H0 cenv fp) [(a, go)] σ0 QT n s₀ s₁) (GYp (cxG X s0 H0 cenv fp) [(a, go)] QF) n s₀
        (.compStart (.GeneratorExp elt [⟨tg, iter, ifs, 0⟩] scope pos) 0 (.ref it) .none cenv) ((model X.prog X.w).den (.compStart (.GeneratorExp elt [⟨tg, iter, ifs, 0⟩] scope pos) 0 (.ref it) .none cenv)) [] s := by
  have loop := gen_loop (elt := elt) (iter := iter) (ifs := ifs) (scope := scope) (pos := pos) (go := go) hd hco T ha pg pt pe hW m n 0 H s₀ s hmn w I st nf
  show Seg _ _ _ _ _ s₀ _ ((compStart (.GeneratorExp elt [⟨tg, iter, ifs, 0⟩] scope pos) 0 (.ref it) .none cenv).onRaise (leaving cenv)) [] s
  unfold compStart
  rw [Sem.onRaise_eq_wrap]
  show Seg _ _ _ _ _ s₀ _ ((ask >>= _).wrap _ _ _ _) [] s
  refine seg_bind_wrap (wpAny_askSetting ?_)
  split
  · exact seg_again rfl loop
  · first
      | exact seg_bind_wrap (wpAny_rule (seg_bind_wrap (wpAny_standAt (seg_bind_wrap (T.self _ 0 s _ _ st (seg_again rfl loop))))))
      | (refine seg_bind_wrap (wpAny_rule ?_); show Seg _ _ _ _ _ s₀ _ ((standAt iter.pos >>= _).wrap _ _ _ _) [] s; exact seg_bind_wrap (wpAny_standAt (seg_bind_wrap (T.self _ 0 s _ _ st (seg_again rfl loop)))))
end
end GA
namespace GA
open PySem PySem.Spec PyProof.Rows L2 GenW GxR

theorem bare_set {s : Shared} {g : Nat} {gs x : GenState} (h : AllBare s.gens) (hg : s.gens[g]? = some gs) (hx : x.bare = true) : AllBare (s.setGen g x).gens :=
  AllBare.moved h (g := g) (.inr ⟨GenOnly.setGen s g x, fun z hz => by rw [setGen_self hg] at hz; cases hz; exact hx⟩)

/-- the generator's own object -/
def GoAt (go : Obj) (g : Nat) : Prop := go.cls = .type "generator" ∧ (∃ nm qn, go.data = .fields #[.int g 0, nm, qn]) ∧ go.slots = #[]

section
variable {X : Cx} {pins : List (Addr × Obj)} {σ : L2.St} {H4 : Hp} {s4 : Shared} {cenv : Env} {fp : List Addr} {a : Addr} {go : Obj} {g : Nat} {σ0 : L2.St} {QT QF : Hp → Prop} {RR : Result → Shared → Prop}
theorem all_loop (hd : X.A.handled = none) (hdp : X.A.depth < recursionLimit) (hgo : GoAt go g) (I4 : L2.Inv X pins σ H4 s4) (f4 : ∀ b ∈ fp, FpOk X pins H4 b)
    (hT : ∀ s' H', L2.Inv X pins σ H' s' → QT H' → RR (.ok (.ret (.bool true))) s') (hF : ∀ s' H', L2.Inv X pins σ H' s' → QF H' → RR (.ok (.ret (.bool false))) s') :
    ∀ (n : Nat) (gs : GenState) (s : Shared) (σ' : L2.St) (H' : Hp), L2.Inv (cxG X s4 H4 cenv fp) [(a, go)] σ' H' s → s.gens[g]? = some gs →
      (∀ s'' : Shared, s''.heap = s.heap → s''.os = s.os → AllBare s''.gens → gs.Goes (model X.prog X.w) X.A.in1.in1 (fun n s₀ r s₁ => r = .ok .next ∧ GPn (cxG X s4 H4 cenv fp) [(a, go)] σ0 QT n s₀ s₁) (GYp (cxG X s4 H4 cenv fp) [(a, go)] QF) n (.send .none) s'') →
      codeAny (model X.prog X.w) X.A (.builtin "all.loop" ⟨[.ref a], []⟩) RR s := by
  have back : ∀ {σ' : L2.St} {H' : Hp} {s1 s' : Shared}, L2.Inv (cxG X s4 H4 cenv fp) [(a, go)] σ' H' s1 → s'.heap = s1.heap → s'.os = s1.os → AllBare s'.gens → L2.Inv X pins σ H' s' := fun {σ' H' s1 s'} I6 e1 e2 e3 => by
    refine I4.call' (ch := fp) (e2.trans I6.os) (by rw [e1]; exact I6.base) (by rw [e1]; exact I6.hok) e3 fun b hb => ⟨(f4 b hb).2.2.2.1, (f4 b hb).2.1, (f4 b hb).2.2.2.2.1, (f4 b hb).2.2.2.2.2⟩
  intro n
  induction n with
  | zero =>
    intro gs s σ' H' I hg hgs
    obtain ⟨gc, ⟨nm, qn, gd⟩, gsl⟩ := hgo
    have isg : s.heap.IsGen a g := ⟨go, nm, qn, (I.pin (a, go) (List.mem_append_right _ (List.mem_singleton.mpr rfl))).1, gc, gd, gsl⟩
    refine codeAny_builtin F.entry_all_loop ?_
    rw [Around.under_plainId F.plain_all_loop _]
    show wpAny _ X.A.in1 (pyNext (.ref a) >>= _) _ _ s
    refine wpAny_bind (wpAny_gsz (Nat.le_refl s.gens.size) ?_)
    refine wpAny_pyNext_genexpQ (A := X.A.in1) (n := 0) (P := GPn (cxG X s4 H4 cenv fp) [(a, go)] σ0 QT) (Y := GYp (cxG X s4 H4 cenv fp) [(a, go)] QF) hd I.nolimit hdp isg hg
      (hgs (s.setGen g .running) rfl rfl (bare_set I.bare hg rfl)) (fun v s₁ gs' hb hv => ?_) (fun s₁ hp h' hk => ?_)
    · intro hsz
      obtain ⟨b, σ2, H2, ev, I2, q1, q2⟩ := hv
      subst ev
      have hlt : g < s.gens.size := by
        rcases Nat.lt_or_ge g s.gens.size with h | h
        · exact h
        · rw [Array.getElem?_eq_none h] at hg; cases hg
      have hsz2 : g < s₁.gens.size := by
        have e := setGen_size s₁ g gs'
        have hsz : s.gens.size ≤ (s₁.setGen g gs').gens.size := hsz
        omega
      have hg1 := Array.getElem?_eq_getElem hsz2
      refine wpAny_bind (wpAny_holding (wpAny_truthy_bool ?_))
      refine wpAny_bind (wpAny_letGo ?_)
      cases b with
      | true => exact False.elim (q2 rfl (s₁.setGen g gs') rfl rfl (bare_set I2.bare hg1 hb))
      | false =>
        simp only [Bool.false_eq_true, if_false]
        refine wpAny_bind (wpAny_rule (wpAny_pure ?_))
        exact hF _ H2 (back I2 rfl rfl (bare_set I2.bare hg1 hb)) (q1 rfl)
    · intro hsz
      obtain ⟨H2, I2, q⟩ := hp
      have hlt : g < s.gens.size := by
        rcases Nat.lt_or_ge g s.gens.size with h | h
        · exact h
        · rw [Array.getElem?_eq_none h] at hg; cases hg
      have hsz2 : g < s₁.gens.size := by
        have e := setGen_size s₁ g .finished
        have hsz : s.gens.size ≤ (s₁.setGen g .finished).gens.size := hsz
        omega
      have hg1 := Array.getElem?_eq_getElem hsz2
      refine wpAny_bind (wpAny_rule (wpAny_pure ?_))
      exact hT _ H2 ((back (s' := s₁.setGen g .finished) I2 rfl rfl (bare_set I2.bare hg1 rfl)).kept (t' := s₁.toks) hk) q
  | succ n ih =>
    intro gs s σ' H' I hg hgs
    obtain ⟨gc, ⟨nm, qn, gd⟩, gsl⟩ := hgo
    have isg : s.heap.IsGen a g := ⟨go, nm, qn, (I.pin (a, go) (List.mem_append_right _ (List.mem_singleton.mpr rfl))).1, gc, gd, gsl⟩
    refine codeAny_builtin F.entry_all_loop ?_
    rw [Around.under_plainId F.plain_all_loop _]
    show wpAny _ X.A.in1 (pyNext (.ref a) >>= _) _ _ s
    refine wpAny_bind (wpAny_gsz (Nat.le_refl s.gens.size) ?_)
    refine wpAny_pyNext_genexpQ (A := X.A.in1) (n := n + 1) (P := GPn (cxG X s4 H4 cenv fp) [(a, go)] σ0 QT) (Y := GYp (cxG X s4 H4 cenv fp) [(a, go)] QF) hd I.nolimit hdp isg hg
      (hgs (s.setGen g .running) rfl rfl (bare_set I.bare hg rfl)) (fun v s₁ gs' hb hv => ?_) (fun s₁ hp h' hk => ?_)
    · intro hsz
      obtain ⟨b, σ2, H2, ev, I2, q1, q2⟩ := hv
      subst ev
      have hlt : g < s.gens.size := by
        rcases Nat.lt_or_ge g s.gens.size with h | h
        · exact h
        · rw [Array.getElem?_eq_none h] at hg; cases hg
      have hsz2 : g < s₁.gens.size := by
        have e := setGen_size s₁ g gs'
        have hsz : s.gens.size ≤ (s₁.setGen g gs').gens.size := hsz
        omega
      have hg1 := Array.getElem?_eq_getElem hsz2
      refine wpAny_bind (wpAny_holding (wpAny_truthy_bool ?_))
      refine wpAny_bind (wpAny_letGo ?_)
      cases b with
      | true =>
        simp only [if_true]
        refine wpAny_pure ⟨plainId_quiet F.plain_all_loop _, ih gs' (s₁.setGen g gs') σ2 H2 (inv_same I2 rfl rfl (bare_set I2.bare hg1 hb)) (setGen_self hg1) fun s'' e1 e2 e3 => q2 rfl s'' e1 e2 e3⟩
      | false =>
        simp only [Bool.false_eq_true, if_false]
        refine wpAny_bind (wpAny_rule (wpAny_pure ?_))
        exact hF _ H2 (back I2 rfl rfl (bare_set I2.bare hg1 hb)) (q1 rfl)
    · intro hsz
      obtain ⟨H2, I2, q⟩ := hp
      have hlt : g < s.gens.size := by
        rcases Nat.lt_or_ge g s.gens.size with h | h
        · exact h
        · rw [Array.getElem?_eq_none h] at hg; cases hg
      have hsz2 : g < s₁.gens.size := by
        have e := setGen_size s₁ g .finished
        have hsz : s.gens.size ≤ (s₁.setGen g .finished).gens.size := hsz
        omega
      have hg1 := Array.getElem?_eq_getElem hsz2
      refine wpAny_bind (wpAny_rule (wpAny_pure ?_))
      exact hT _ H2 ((back (s' := s₁.setGen g .finished) I2 rfl rfl (bare_set I2.bare hg1 rfl)).kept (t' := s₁.toks) hk) q
end

section
variable {X : Cx} {pins : List (Addr × Obj)} {σ : L2.St} {H : Hp} {s : Shared}
/-- a generator expression is made -/
theorem gen_made {c P : Addr} {elt tg iter : Expr} {gpos : Pos} {scope : Scope} {own : List (Str × Nat)} {wi : TI} {k : Nat} {Q' : Value → Shared → Prop} {R : It → Hp → Prop}
    (hr : Room k X.A) (TB : TabB X.base X.mg c P) (hcode : X.env.code = .ref c) (hN : X.N.Nodup) (ok : GenOk X.N X.env.scope scope own) (hi : PI X tg iter wi)
    (hs : ∀ v, genFold iter X.env v = pure v) (I : L2.Inv X pins σ H s) (h : wi σ H fun J H1 => TabG H1 P ∧ R J H1)
    (hQ : ∀ J H1 H2 s4 it fp tn code g a go s5, R J H1 → Tabbed P H1 H2 → L2.Inv X pins σ H2 s4 → Turn X.prog X.w X.K tg J fp it tn → (∀ b ∈ fp, FpOk X pins H2 b) → a ∉ fp → GoAt go g →
      L2.Inv (cxG X s4 H2 (envG X scope s4.heap.objs.size code) fp) [(a, go)] (wipe σ (own.map (·.2))) H2 s5 → tn 0 s5.heap →
      s5.gens[g]? = some (.fresh (.compStart (.GeneratorExp elt [⟨tg, iter, [], 0⟩] scope gpos) 0 (.ref it) .none (envG X scope s4.heap.objs.size code))) → Q' (.ref a) s5) :
    wpAny (model X.prog X.w) X.A (eval (.GeneratorExp elt [⟨tg, iter, [], 0⟩] scope gpos) X.env) Q' X.xe s := by
  have hfree : ∀ y ∈ scope.names, y.2 = .free → ∃ c, X.env.cells.lookup y.1 = some c := fun y hy e => by
    rcases ok.free y hy e with k | k
    · exact I.ok.has _ (.inl k)
    · exact I.ok.has _ (.inr k)
  refine wpAny_GeneratorExp_make ok.co (closure_ok hfree) ok.cell ok.dot ok.kind (by have := hr.dp; omega) (thn (hi.run pins s σ H _ I h) fun xv s1 hx => thn hx fun itv s2 h2 => ?_) hs
  obtain ⟨it, fp, tn, J, H1, e, I1, T, st1, f1, ⟨ps, hP, ht⟩, q1⟩ := h2
  subst e
  have hPs : s2.heap.get? P = some { cls := .none, data := .fields ps } := I1.hok P _ hP
  have cd : PySem.W.CodeHd s2.heap c P := TB.code.keeps fun b u e => I1.bk b u e
  have cont : ∀ (code : Value) (h3 : Heap) (tk : Nat) (ps' : Array Value), Heap.ExtBut P s2.heap h3 → s2.heap.objs.size ≤ h3.objs.size → h3.get? P = some { cls := .none, data := .fields ps' } → (∃ more, ps' = ps ++ more) → TriplesOk ps'.toList →
      wpAny (model X.prog X.w) X.A (builtinsFor X.env.globals X.env.builtins) (fun bi s₄ =>
        ∀ h', h'.Ns s₄.heap.objs.size (fun y => if y = ".0" then some (.ref it) else none) → Heap.SameBut s₄.heap.objs.size (s₄.heap.push { cls := .type "frame", data := .dict #[] }) h' →
          Q' (.ref h'.objs.size) { s₄ with
            gens := s₄.gens.push (.fresh (.compStart (.GeneratorExp elt [⟨tg, iter, [], 0⟩] scope gpos) 0 (.ref it) .none (genEnv scope (cloFrom X.env.cells scope.names []) s₄.heap.objs.size code bi X.env))),
            toks := s₄.toks + 1 + 1 + 1,
            heap := h'.push { cls := .type "generator", data := .fields #[.int s₄.gens.size 0, .str "<genexpr>" (s₄.toks + 1), .str (X.env.qual ++ "<genexpr>") (s₄.toks + 1 + 1)] } }) X.xe { s2 with heap := h3, toks := tk } := by
    intro code h3 tk ps' hx hsz hP3 hmore ht3
    obtain ⟨bm, ob, e1, e2, e3, e4, e5, e6, e7, e8⟩ := TB.bm
    have keep3 : ∀ b u, b ≠ P → s2.heap.get? b = some u → h3.get? b = some u := fun b u hb e => hx b u hb e
    refine wpAny_builtinsFor (m := X.mg) (by rw [I1.ok.glob]; exact (I1.mod.glob.keeps I1.bk).extBut hx TB.gP) e1 e2 (keep3 _ _ e4 (I1.bk _ _ e5)) e6 e7 e8 ?_
    intro h' hns hsb
    obtain ⟨more, em⟩ := hmore
    have I4 := inv_tab (more := more) (h' := h3) (g' := s2.gens) (d' := s2.drawn) (t' := tk) I1 hP keep3 (by rw [← em]; exact hP3) I1.bare
    have nP : ∀ b ∈ fp, b ≠ P := fun b hb e => by
      have := (f1 b hb).1
      rw [e, hP] at this
      cases this
    have f4 : ∀ b ∈ fp, FpOk X pins (upd H1 P (.tbl (ps ++ more))) b := fun b hb => ⟨by rw [upd_ne (nP b hb)]; exact (f1 b hb).1, (f1 b hb).2⟩
    have st4 : tn 0 h3 := T.keep _ _ _ st1 fun b hb o e => keep3 b o (nP b hb) e
    have hszC : h'.objs.size = h3.objs.size + 1 := by
      have e := hsb.1
      rw [Heap.size_push] at e
      exact e
    have kp : ∀ b o, h3.get? b = some o → h'.get? b = some o := fun b o e => hsb.extBut b o (Nat.ne_of_lt (Heap.lt_size e)) (Heap.get?_push_of_some _ e)
    have lt4 : ∀ b ∈ fp, b < h3.objs.size := fun b hb => by
      obtain ⟨o, e, _⟩ := T.obj _ _ st4 b hb
      exact Heap.lt_size e
    have I5 := gen_start (scope := scope) (own := own) (fp := fp) (code := code) (h' := h') (m0 := fun y => if y = ".0" then some (.ref it) else none)
      (go := { cls := .type "generator", data := .fields #[.int s2.gens.size 0, .str "<genexpr>" (tk + 1), .str (X.env.qual ++ "<genexpr>") (tk + 1 + 1)] })
      (c := .fresh (.compStart (.GeneratorExp elt [⟨tg, iter, [], 0⟩] scope gpos) 0 (.ref it) .none (envG X scope h3.objs.size code))) (tk := tk + 1 + 1 + 1) hr.hd I4 ok hN (fun b hb => ⟨f4 b hb, lt4 b hb⟩) hns kp (by rw [hszC]; exact Nat.lt_succ_self _) (fun v q => by cases q) (fun h => Heap.get?_push_size _ rfl) rfl
    refine hQ J H1 (upd H1 P (.tbl (ps ++ more))) _ it fp tn code s2.gens.size h'.objs.size _ _ q1 ⟨⟨ps ++ more, upd_same, by rw [← em]; exact ht3⟩, fun b hb => upd_ne hb⟩ I4 T f4 (fun hm => ?_) ⟨rfl, ⟨_, _, rfl⟩, rfl⟩ I5 ?_ (Array.getElem?_push_size ..)
    · have := lt4 _ hm
      rw [hszC] at this
      exact absurd (Nat.lt_of_succ_lt this) (Nat.lt_irrefl _)
    · exact T.keep _ _ _ st4 fun b hb o e => Heap.get?_push_of_some _ (kp b o e)
  refine ⟨I1.nolimit, ?_⟩
  cases hf : codeAmong gpos ps.toList with
  | none =>
    refine wpAny_genexprCodeX hcode (cd.code hPs ht) (cd.tab hPs) hf fun c' h' tk hx hge hlt hco' _ htab' _ => ?_
    obtain ⟨o1, vs, f1, tf, fl, tg, inF, tx, tt, op, _, _, _, _, _, _, _, _, _, htr, _⟩ := hco'
    exact cont _ h' tk _ hx (Nat.le_trans hge (Nat.le_of_lt hlt)) htab'.2 ⟨_, rfl⟩ htr
  | some cv =>
    refine wpAny_genexprCode_hit hcode (cd.code hPs ht) hf ?_
    exact cont cv s2.heap s2.toks ps (Heap.ExtBut.refl _ _) (Nat.le_refl _) hPs ⟨#[], by simp⟩ ht

/-- all(elt for tg in iter), elt a truth -/
def tAllG (P : Addr) (wi : TI) (g : TG) (te : TE) (vs : List Nat) : TE := fun σ H Q => wi σ H fun J H1 => TabG H1 P ∧ ∀ H2, Tabbed P H1 H2 →
  ∃ W : Nat → Nat → Hp → Prop, (∃ m, W 0 m H2) ∧ Plan J g tYes te (wipe σ vs) vs (fun H' => Q (.bl true) H') (fun H' => Q (.bl false) H') W
theorem pe_allG {c P : Addr} {elt tg iter : Expr} {p pos gpos : Pos} {scope : Scope} {own : List (Str × Nat)} {wi : TI} {g : TG} {te : TE} {k : Nat}
    (hr : Room k X.A) (hg : Gl X "all") (hm : X.mg "all" = none) (hb : bootBuiltins "all" = some (.builtin "all")) (TB : TabB X.base X.mg c P) (hcode : X.env.code = .ref c) (hN : X.N.Nodup) (ok : GenOk X.N X.env.scope scope own) (hi : PI X tg iter wi)
    (hgt : ∀ (s : Shared) (H : Hp) (C : Addr) (code : Value) (fp : List Addr), PG (cxG X s H (envG X scope C code) fp) tg g) (he : ∀ (s : Shared) (H : Hp) (C : Addr) (code : Value) (fp : List Addr), PE (cxG X s H (envG X scope C code) fp) elt te)
    (hs : ∀ v, genFold iter X.env v = pure v := by intro _; rfl)
    (hst : starEach [.GeneratorExp elt [⟨tg, iter, [], 0⟩] scope gpos] X.env = (false, eval (.GeneratorExp elt [⟨tg, iter, [], 0⟩] scope gpos) X.env) :: starEach [] X.env := by rfl) :
    PE X (.Call (.Name "all" p) [.GeneratorExp elt [⟨tg, iter, [], 0⟩] scope gpos] [] pos) (tAllG P wi g te (own.map (·.2))) := by
  refine ⟨fun pins s σ H Q I h => ?_⟩
  refine wpAny_Call_Name_kw (ld_blt I hg hm hb ?_)
  refine PyProof.Rows.callWith_builtin1 ?_ hst (by rfl)
  rw [hst]
  show wpAny _ _ (spliced ((false, eval (.GeneratorExp elt [⟨tg, iter, [], 0⟩] scope gpos) X.env) :: backTo pos (starEach [] X.env))) _ _ s
  refine Calls.spliced_cons (gen_made (R := fun J H1 => ∀ H2, Tabbed P H1 H2 → ∃ W : Nat → Nat → Hp → Prop, (∃ m, W 0 m H2) ∧ Plan J g tYes te (wipe σ (List.map (fun q : Str × Nat => q.2) own)) (List.map (fun q : Str × Nat => q.2) own) (fun H' => Q (.bl true) H') (fun H' => Q (.bl false) H') W)
    hr TB hcode hN ok hi hs I h fun J H1 H2 s4 it fp tn code g' a go s5 hR hT I4 T f4 ha hgo I5 st5 hg5 => ?_)
  refine Calls.spliced_nil ?_
  obtain ⟨W, ⟨m, w0⟩, pl⟩ := hR H2 hT
  have cn : (envG X scope s4.heap.objs.size code).scope.isCoroutine = false := ok.co
  have nf5 : ∀ b ∈ fp, H2 b = none := fun b hb => (f4 b hb).1
  refine call_function_tree F.kind_all F.plain_all F.entry_all (F.args_all1 _) ?_
  unfold Builtin.«all»
  refine wpAny_bind (m := oneArg "all" _) (wpAny_pure ?_)
  have isg : s5.heap.IsGen a g' := by
    obtain ⟨gc, ⟨nm, qn, gd⟩, gsl⟩ := hgo
    exact ⟨go, nm, qn, (I5.pin (a, go) (List.mem_append_right _ (List.mem_singleton.mpr rfl))).1, gc, gd, gsl⟩
  refine wpAny_bind (wpAny_pyIter_gen isg ?_)
  refine wpAny_pure ⟨plainId_quiet F.plain_all_loop _, ?_⟩
  refine all_loop (σ0 := wipe σ (List.map (fun q : Str × Nat => q.2) own)) (QT := fun H' => Q (.bl true) H') (QF := fun H' => Q (.bl false) H') hr.hd (by have := hr.dp; omega) hgo I4 f4 (fun s' H' I' q => ⟨.bl true, H', I', rfl, q⟩) (fun s' H' I' q => ⟨.bl false, H', I', rfl, q⟩)
    (m + 1) _ s5 _ H2 I5 hg5 fun s'' e1 e2 e3 => ⟨rfl, ?_⟩
  exact gen_first (X := X) (go := go) hr.hd cn T ha (hgt _ _ _ _ _) pts_nil (he _ _ _ _ _) pl m (m + 1) H2 s'' s'' (Nat.lt_succ_self _) w0 (inv_same I5 e1 e2 e3) (by rw [e1]; exact st5) nf5
end
end GA
namespace SB
/-! ### numbers in lowest terms -/
def Lo (q : Int × Int) : Prop := 0 < q.2 ∧ Nat.gcd q.1.natAbs q.2.natAbs = 1
/-- the same number as N / D -/
def Eqr (r : Int × Int) (N D : Int) : Prop := r.1 * D = N * r.2
theorem gcd_pos {t b : Int} (h : b ≠ 0) : 0 < Nat.gcd t.natAbs b.natAbs := Nat.gcd_pos_of_pos_right _ (by omega)
theorem gcd_dvd_l (t b : Int) : ((Nat.gcd t.natAbs b.natAbs : Nat) : Int) ∣ t := Int.ofNat_dvd_left.mpr (Nat.gcd_dvd_left _ _)
theorem gcd_dvd_r (t b : Int) : ((Nat.gcd t.natAbs b.natAbs : Nat) : Int) ∣ b := Int.ofNat_dvd_left.mpr (Nat.gcd_dvd_right _ _)
theorem low_split {t b : Int} (h : 0 < b) : ∃ t' b' g : Int, 0 < g ∧ ((Nat.gcd t.natAbs b.natAbs : Nat) : Int) = g ∧ t = g * t' ∧ b = g * b' ∧ t / g = t' ∧ b / g = b' ∧ 0 < b' ∧ Nat.gcd t'.natAbs b'.natAbs = 1 := by
  have hg := gcd_pos (t := t) (b := b) (by omega)
  obtain ⟨t', e1⟩ := gcd_dvd_l t b
  obtain ⟨b', e2⟩ := gcd_dvd_r t b
  generalize hG : Nat.gcd t.natAbs b.natAbs = G at *
  have gp : (0 : Int) < (G : Int) := by omega
  have hb : 0 < b' := by
    rcases Int.lt_trichotomy b' 0 with z | z | z
    · have := Int.mul_neg_of_pos_of_neg gp z
      omega
    · rw [z, Int.mul_zero] at e2; omega
    · exact z
  refine ⟨t', b', G, gp, rfl, e1, e2, by rw [e1]; exact Int.mul_ediv_cancel_left _ (by omega), by rw [e2]; exact Int.mul_ediv_cancel_left _ (by omega), hb, ?_⟩
  have h1 : t.natAbs = G * t'.natAbs := by rw [e1, Int.natAbs_mul]; rfl
  have h2 : b.natAbs = G * b'.natAbs := by rw [e2, Int.natAbs_mul]; rfl
  have h3 : G * Nat.gcd t'.natAbs b'.natAbs = G * 1 := by
    rw [← Nat.gcd_mul_left, ← h1, ← h2, hG, Nat.mul_one]
  exact Nat.eq_of_mul_eq_mul_left hg h3
theorem natAbs_le_mul {g t : Int} (h : 0 < g) : t.natAbs ≤ (g * t).natAbs := by
  rw [Int.natAbs_mul]
  exact Nat.le_mul_of_pos_left _ (by omega)
theorem low_ok {t b : Int} (h : 0 < b) : ∀ g : Int, ((Nat.gcd t.natAbs b.natAbs : Nat) : Int) = g → Lo (t / g, b / g) ∧ Eqr (t / g, b / g) t b ∧ (t / g).natAbs ≤ t.natAbs ∧ (b / g).natAbs ≤ b.natAbs ∧ 0 < g ∧ g.natAbs ≤ b.natAbs := by
  intro g hg
  obtain ⟨t', b', g', gp, eg, e1, e2, e3, e4, hb, hc⟩ := low_split (t := t) h
  have : g' = g := eg.symm.trans hg
  subst this
  refine ⟨⟨by rw [e4]; exact hb, by rw [e3, e4]; exact hc⟩, ?_, ?_, ?_, gp, ?_⟩
  · show t / g' * b = t * (b / g')
    rw [e3, e4]
    conv => lhs; rw [e2]
    conv => rhs; rw [e1]
    rw [Int.mul_left_comm, Int.mul_assoc]
  · rw [e3, e1]; exact natAbs_le_mul gp
  · rw [e4, e2]; exact natAbs_le_mul gp
  · rw [e2, Int.mul_comm]; exact natAbs_le_mul hb
/-- a number has one form in lowest terms -/
theorem lo_uniq {r s : Int × Int} (hr : Lo r) (hs : Lo s) (h : r.1 * s.2 = s.1 * r.2) : r = s := by
  obtain ⟨r1, r2⟩ := hr
  obtain ⟨s1, s2⟩ := hs
  have e : r.1.natAbs * s.2.natAbs = s.1.natAbs * r.2.natAbs := by rw [← Int.natAbs_mul, ← Int.natAbs_mul, h]
  have d1 : r.2.natAbs ∣ s.2.natAbs := by
    have : r.2.natAbs ∣ r.1.natAbs * s.2.natAbs := by rw [e]; exact Nat.dvd_mul_left _ _
    exact (Nat.Coprime.symm r2).dvd_of_dvd_mul_left this
  have d2 : s.2.natAbs ∣ r.2.natAbs := by
    have : s.2.natAbs ∣ s.1.natAbs * r.2.natAbs := by rw [← e]; exact Nat.dvd_mul_left _ _
    exact (Nat.Coprime.symm s2).dvd_of_dvd_mul_left this
  have e2 : r.2 = s.2 := by
    have := Nat.dvd_antisymm d1 d2
    omega
  have e1 : r.1 = s.1 := by
    rw [e2] at h
    exact Int.eq_of_mul_eq_mul_right (by omega) h
  exact Prod.ext e1 e2
/-- unreduced -/
def fPlus (p q : Int × Int) : Int × Int := (p.1 * q.2 + q.1 * p.2, p.2 * q.2)
def fMinus (p q : Int × Int) : Int × Int := (p.1 * q.2 - q.1 * p.2, p.2 * q.2)
def fTimes (p q : Int × Int) : Int × Int := (p.1 * q.1, p.2 * q.2)
/-- both parts below 2 ^ m -/
def Wd (m : Nat) (p : Int × Int) : Prop := p.1.natAbs < 2 ^ m ∧ p.2.natAbs < 2 ^ m
theorem Wd.mono {m n : Nat} {p : Int × Int} (h : Wd m p) (k : m ≤ n) : Wd n p := ⟨Nat.lt_of_lt_of_le h.1 (Nat.pow_le_pow_right (by decide) k), Nat.lt_of_lt_of_le h.2 (Nat.pow_le_pow_right (by decide) k)⟩
theorem mul_lt2 {a b : Int} {m n : Nat} (h : a.natAbs < 2 ^ m) (k : b.natAbs < 2 ^ n) : (a * b).natAbs < 2 ^ (m + n) := by
  rw [Int.natAbs_mul, Nat.pow_add]
  exact Nat.mul_lt_mul'' h k
theorem add_lt2 {a b : Int} {m : Nat} (h : a.natAbs < 2 ^ m) (k : b.natAbs < 2 ^ m) : (a + b).natAbs < 2 ^ (m + 1) := by
  rw [Nat.pow_succ]
  omega
theorem sub_lt2 {a b : Int} {m : Nat} (h : a.natAbs < 2 ^ m) (k : b.natAbs < 2 ^ m) : (a - b).natAbs < 2 ^ (m + 1) := by
  rw [Nat.pow_succ]
  omega
theorem wd_plus {m n : Nat} {p q : Int × Int} (h : Wd m p) (k : Wd n q) : Wd (m + n + 1) (fPlus p q) :=
  ⟨add_lt2 (mul_lt2 h.1 k.2) (by rw [Nat.add_comm m n]; exact mul_lt2 k.1 h.2), Nat.lt_of_lt_of_le (mul_lt2 h.2 k.2) (Nat.pow_le_pow_right (by decide) (by omega))⟩
theorem wd_minus {m n : Nat} {p q : Int × Int} (h : Wd m p) (k : Wd n q) : Wd (m + n + 1) (fMinus p q) :=
  ⟨sub_lt2 (mul_lt2 h.1 k.2) (by rw [Nat.add_comm m n]; exact mul_lt2 k.1 h.2), Nat.lt_of_lt_of_le (mul_lt2 h.2 k.2) (Nat.pow_le_pow_right (by decide) (by omega))⟩
theorem wd_times {m n : Nat} {p q : Int × Int} (h : Wd m p) (k : Wd n q) : Wd (m + n) (fTimes p q) := ⟨mul_lt2 h.1 k.1, mul_lt2 h.2 k.2⟩
/-- a reduced form keeps the sign of its numerator -/
theorem eqr_sign {r : Int × Int} {N D : Int} (h : Eqr r N D) (hr : 0 < r.2) (hD : 0 < D) : (0 < r.1 ↔ 0 < N) ∧ (r.1 = 0 ↔ N = 0) ∧ (r.1 < 0 ↔ N < 0) := by
  have h : r.1 * D = N * r.2 := h
  have key : ∀ {a b c d : Int}, a * b = c * d → 0 < b → 0 < d → (0 < a → 0 < c) ∧ (a < 0 → c < 0) := fun {a b c d} e hb hd => by
    constructor
    · intro ha
      rcases Int.lt_trichotomy c 0 with z | z | z
      · have h1 := Int.mul_pos ha hb
        have h2 := Int.mul_neg_of_neg_of_pos z hd
        omega
      · have h1 := Int.mul_pos ha hb
        rw [z, Int.zero_mul] at e
        omega
      · exact z
    · intro ha
      rcases Int.lt_trichotomy c 0 with z | z | z
      · exact z
      · have h1 := Int.mul_neg_of_neg_of_pos ha hb
        rw [z, Int.zero_mul] at e
        omega
      · have h1 := Int.mul_neg_of_neg_of_pos ha hb
        have h2 := Int.mul_pos z hd
        omega
  obtain ⟨a1, a2⟩ := key h hD hr
  obtain ⟨b1, b2⟩ := key h.symm hr hD
  refine ⟨⟨a1, b1⟩, ⟨fun z => ?_, fun z => ?_⟩, ⟨a2, b2⟩⟩
  · rcases Int.lt_trichotomy N 0 with y | y | y
    · have := b2 y; omega
    · exact y
    · have := b1 y; omega
  · rcases Int.lt_trichotomy r.1 0 with y | y | y
    · have := a2 y; omega
    · exact y
    · have := a1 y; omega
end SB
namespace SB
theorem eqr_plus {r g h : Int × Int} {G Hh : Int × Int} (g2 : 0 < g.2) (h2 : 0 < h.2) (eg : Eqr g G.1 G.2) (eh : Eqr h Hh.1 Hh.2) (er : Eqr r (fPlus g h).1 (fPlus g h).2) : Eqr r (fPlus G Hh).1 (fPlus G Hh).2 := by
  unfold Eqr fPlus at *
  dsimp only at *
  have hne : g.2 * h.2 ≠ 0 := Int.ne_of_gt (Int.mul_pos g2 h2)
  refine Int.eq_of_mul_eq_mul_right hne ?_
  grind
theorem eqr_minus {r g h : Int × Int} {G Hh : Int × Int} (g2 : 0 < g.2) (h2 : 0 < h.2) (eg : Eqr g G.1 G.2) (eh : Eqr h Hh.1 Hh.2) (er : Eqr r (fMinus g h).1 (fMinus g h).2) : Eqr r (fMinus G Hh).1 (fMinus G Hh).2 := by
  unfold Eqr fMinus at *
  dsimp only at *
  have hne : g.2 * h.2 ≠ 0 := Int.ne_of_gt (Int.mul_pos g2 h2)
  refine Int.eq_of_mul_eq_mul_right hne ?_
  grind
theorem eqr_times {r g h : Int × Int} {G Hh : Int × Int} (g2 : 0 < g.2) (h2 : 0 < h.2) (eg : Eqr g G.1 G.2) (eh : Eqr h Hh.1 Hh.2) (er : Eqr r (fTimes g h).1 (fTimes g h).2) : Eqr r (fTimes G Hh).1 (fTimes G Hh).2 := by
  unfold Eqr fTimes at *
  dsimp only at *
  have hne : g.2 * h.2 ≠ 0 := Int.ne_of_gt (Int.mul_pos g2 h2)
  refine Int.eq_of_mul_eq_mul_right hne ?_
  grind
end SB
namespace SB
/-- one step of a sum of sides times numbers -/
def stepU (g : Int × Int) (p : Int × (Int × Int)) : Int × Int := fPlus g (fTimes (p.1, 1) p.2)
def sumU (ns : List Int) (us : List (Int × Int)) (g : Int × Int) : Int × Int := (ns.zip us).foldl stepU g
theorem fold_take {α β : Type} (f : β → α → β) (g : β) {l : List α} {i : Nat} {x : α} (h : l[i]? = some x) : (l.take (i + 1)).foldl f g = f ((l.take i).foldl f g) x := by
  rw [List.take_add_one, h, Option.toList_some, List.foldl_append]
  rfl
theorem zip_at {α β : Type} {xs : List α} {ys : List β} {i : Nat} {x : α} {y : β} (h : xs[i]? = some x) (k : ys[i]? = some y) : (xs.zip ys)[i]? = some (x, y) := by
  rw [List.getElem?_zip_eq_some]
  exact ⟨h, k⟩
theorem stepU_pos {g : Int × Int} {p : Int × (Int × Int)} (h : 0 < g.2) (k : 0 < p.2.2) : 0 < (stepU g p).2 := by
  unfold stepU fPlus fTimes
  dsimp only
  rw [Int.one_mul]
  exact Int.mul_pos h k
theorem sumU_pos : ∀ {l : List (Int × (Int × Int))} {g : Int × Int}, 0 < g.2 → (∀ p, p ∈ l → 0 < p.2.2) → 0 < (l.foldl stepU g).2
  | [], _, h, _ => h
  | p :: r, g, h, k => by
    rw [List.foldl_cons]
    exact sumU_pos (stepU_pos h (k p List.mem_cons_self)) fun q hq => k q (List.mem_cons_of_mem _ hq)
/-- the sum less the wall -/
theorem sumU_less (w : Int) : ∀ (l : List (Int × (Int × Int))) (g g' : Int × Int), g'.2 = g.2 → g'.1 = g.1 - w * g.2 → (l.foldl stepU g').2 = (l.foldl stepU g).2 ∧ (l.foldl stepU g').1 = (l.foldl stepU g).1 - w * (l.foldl stepU g).2
  | [], _, _, h1, h2 => ⟨h1, h2⟩
  | p :: r, g, g', h1, h2 => by
    rw [List.foldl_cons, List.foldl_cons]
    refine sumU_less w r _ _ ?_ ?_
    · unfold stepU fPlus fTimes
      dsimp only
      rw [h1]
    · unfold stepU fPlus fTimes
      dsimp only
      rw [h1, h2]
      grind
/-- the sum of the sides, each times the number, less the wall -/
def worthU (q : List Int × Int) (us : List (Int × Int)) : Int × Int := sumU q.1 us (-q.2, 1)
theorem worth_of (q : List Int × Int) (us : List (Int × Int)) : fMinus (sumU q.1 us (0, 1)) (q.2, 1) = worthU q us := by
  obtain ⟨h1, h2⟩ := sumU_less q.2 (q.1.zip us) (0, 1) (-q.2, 1) rfl (by show -q.2 = 0 - q.2 * 1; omega)
  refine Prod.ext ?_ ?_
  · show (sumU q.1 us (0, 1)).1 * 1 - q.2 * (sumU q.1 us (0, 1)).2 = _
    exact (by rw [Int.mul_one]; exact h2.symm)
  · show (sumU q.1 us (0, 1)).2 * 1 = _
    exact (by rw [Int.mul_one]; exact h1.symm)
end SB
namespace SB
def gcdL (l : List Int) : Nat := l.foldl (fun c z => Nat.gcd c z.natAbs) 0
theorem gcdF_dvd : ∀ (l : List Int) (c : Nat), (l.foldl (fun c z => Nat.gcd c z.natAbs) c) ∣ c ∧ ∀ z, z ∈ l → (l.foldl (fun c z => Nat.gcd c z.natAbs) c) ∣ z.natAbs
  | [], c => ⟨Nat.dvd_refl c, fun z h => by simp at h⟩
  | x :: r, c => by
    obtain ⟨h1, h2⟩ := gcdF_dvd r (Nat.gcd c x.natAbs)
    rw [List.foldl_cons]
    refine ⟨Nat.dvd_trans h1 (Nat.gcd_dvd_left _ _), fun z hz => ?_⟩
    rcases List.mem_cons.mp hz with rfl | hz
    · exact Nat.dvd_trans h1 (Nat.gcd_dvd_right _ _)
    · exact h2 z hz
theorem gcdL_dvd {l : List Int} {z : Int} (h : z ∈ l) : gcdL l ∣ z.natAbs := (gcdF_dvd l 0).2 z h
theorem gcdL_pos {l : List Int} {z : Int} (h : z ∈ l) (n : z ≠ 0) : 0 < gcdL l := by
  have d := gcdL_dvd h
  rcases Nat.eq_zero_or_pos (gcdL l) with e | e
  · rw [e] at d
    have := Nat.eq_zero_of_zero_dvd d
    omega
  · exact e
theorem gcdL_le {l : List Int} {z : Int} (h : z ∈ l) (n : z ≠ 0) : gcdL l ≤ z.natAbs := Nat.le_of_dvd (by omega) (gcdL_dvd h)
theorem div_le {z : Int} {g : Nat} (hg : 0 < g) (h : g ∣ z.natAbs) : (z / (g : Int)).natAbs ≤ z.natAbs ∧ (z ≠ 0 → z / (g : Int) ≠ 0) := by
  obtain ⟨t, e⟩ := Int.ofNat_dvd_left.mpr h
  have gp : (0 : Int) < (g : Int) := by omega
  have e2 : z / (g : Int) = t := by rw [e]; exact Int.mul_ediv_cancel_left _ (by omega)
  rw [e2]
  refine ⟨?_, fun n q => ?_⟩
  · rw [e]
    exact natAbs_le_mul gp
  · rw [q, Int.mul_zero] at e
    exact n e
def NonZ (ns : List Int) : Prop := (ns.any fun z => decide (z ≠ 0)) = true
theorem NonZ.ex {ns : List Int} (h : NonZ ns) : ∃ z, z ∈ ns ∧ z ≠ 0 := by
  obtain ⟨z, h1, h2⟩ := List.any_eq_true.mp h
  exact ⟨z, h1, of_decide_eq_true h2⟩
theorem nonZ_of {ns : List Int} {z : Int} (h : z ∈ ns) (n : z ≠ 0) : NonZ ns := List.any_eq_true.mpr ⟨z, h, decide_eq_true n⟩
def NsOk (ns : List Int) : Prop := ∀ z, z ∈ ns → z.natAbs < 2 ^ 10000
/-- a question's form -/
def divU (q : List Int × Int) : List Int × Int := (q.1.map fun z => z / ((gcdL (q.1 ++ [q.2]) : Nat) : Int), q.2 / ((gcdL (q.1 ++ [q.2]) : Nat) : Int))
def negU (q : List Int × Int) : List Int × Int := (q.1.map fun z => -z, -q.2)
/-- the first place that is not 0, and what stands there -/
def firstNZ (ns : List Int) : Nat := ns.findIdx fun z => decide (z ≠ 0)
def lead (ns : List Int) : Int := ns.getD (firstNZ ns) 0
def nfU (q : List Int × Int) : List Int × Int := if 0 < lead (divU q).1 then divU q else negU (divU q)
theorem firstNZ_at {ns : List Int} (h : NonZ ns) : ns[firstNZ ns]? = some (lead ns) ∧ lead ns ≠ 0 ∧ ∀ j z, j < firstNZ ns → ns[j]? = some z → z = 0 := by
  have hl : firstNZ ns < ns.length := by
    obtain ⟨z, h1, h2⟩ := h.ex
    exact List.findIdx_lt_length_of_exists ⟨z, h1, decide_eq_true h2⟩
  have e : ns[firstNZ ns]? = some ns[firstNZ ns] := List.getElem?_eq_getElem hl
  have e2 : lead ns = ns[firstNZ ns] := by
    unfold lead
    rw [List.getD_eq_getElem?_getD, e] <;> rfl
  refine ⟨by rw [e2]; exact e, ?_, fun j z hj hz => ?_⟩
  · rw [e2]
    have := List.findIdx_getElem (p := fun z : Int => decide (z ≠ 0)) (xs := ns) (w := hl)
    exact of_decide_eq_true this
  · have := List.not_of_lt_findIdx (p := fun z : Int => decide (z ≠ 0)) (xs := ns) hj
    have hjl := (List.getElem?_eq_some_iff.mp hz)
    obtain ⟨hjl, ez⟩ := hjl
    rw [← ez]
    simpa using this
/-- bounds -/
structure QOk (q : List Int × Int) : Prop where
  nz : NonZ q.1
  ns : NsOk q.1
  wl : q.2.natAbs < 2 ^ 10000
theorem QOk.g {q : List Int × Int} (h : QOk q) : 0 < gcdL (q.1 ++ [q.2]) ∧ gcdL (q.1 ++ [q.2]) < 2 ^ 10000 := by
  obtain ⟨z, h1, h2⟩ := h.nz.ex
  have hm : z ∈ q.1 ++ [q.2] := List.mem_append_left _ h1
  exact ⟨gcdL_pos hm h2, Nat.lt_of_le_of_lt (gcdL_le hm h2) (h.ns z h1)⟩
theorem QOk.div {q : List Int × Int} (h : QOk q) : QOk (divU q) := by
  obtain ⟨g0, _⟩ := h.g
  have dv : ∀ z, z ∈ q.1 ++ [q.2] → (z / ((gcdL (q.1 ++ [q.2]) : Nat) : Int)).natAbs ≤ z.natAbs ∧ (z ≠ 0 → z / ((gcdL (q.1 ++ [q.2]) : Nat) : Int) ≠ 0) := fun z hz => div_le g0 (gcdL_dvd hz)
  refine ⟨?_, fun z hz => ?_, ?_⟩
  · obtain ⟨z, h1, h2⟩ := h.nz.ex
    exact nonZ_of (List.mem_map.mpr ⟨z, h1, rfl⟩) ((dv z (List.mem_append_left _ h1)).2 h2)
  · obtain ⟨y, hy, rfl⟩ := List.mem_map.mp hz
    exact Nat.lt_of_le_of_lt (dv y (List.mem_append_left _ hy)).1 (h.ns y hy)
  · exact Nat.lt_of_le_of_lt (dv q.2 (List.mem_append_right _ List.mem_cons_self)).1 h.wl
theorem QOk.neg {q : List Int × Int} (h : QOk q) : QOk (negU q) := by
  refine ⟨?_, fun z hz => ?_, by show (-q.2).natAbs < _; rw [Int.natAbs_neg]; exact h.wl⟩
  · obtain ⟨z, h1, h2⟩ := h.nz.ex
    exact nonZ_of (List.mem_map.mpr ⟨z, h1, rfl⟩) (by omega)
  · obtain ⟨y, hy, rfl⟩ := List.mem_map.mp hz
    rw [Int.natAbs_neg]
    exact h.ns y hy
/-! ### the flat normal form -/
theorem zlead_cons (z : Int) (r : List Int) : lead (z :: r) = if z = 0 then lead r else z := by
  unfold lead firstNZ
  rw [List.findIdx_cons]
  by_cases h : z = 0
  · rw [if_pos h, h]
    simp
  · rw [if_neg h]
    simp [h]
theorem znonZ_tail {z : Int} {r : List Int} (h : NonZ (z :: r)) (e : z = 0) : NonZ r := by
  obtain ⟨y, hy, ny⟩ := h.ex
  rcases List.mem_cons.mp hy with z1 | z1
  · exact absurd (z1.trans e) ny
  · exact nonZ_of z1 ny
theorem zlead_app : ∀ {a : List Int} (b : List Int), NonZ a → lead (a ++ b) = lead a
  | [], _, h => absurd (show false = true from h) Bool.false_ne_true
  | z :: r, b, h => by
    rw [List.cons_append, zlead_cons, zlead_cons]
    by_cases hz : z = 0
    · rw [if_pos hz, if_pos hz]
      exact zlead_app b (znonZ_tail h hz)
    · rw [if_neg hz, if_neg hz]
theorem zlead_map (f : Int → Int) : ∀ {a : List Int}, NonZ a → (∀ z, z ∈ a → (f z = 0 ↔ z = 0)) → lead (a.map f) = f (lead a)
  | [], h, _ => absurd (show false = true from h) Bool.false_ne_true
  | z :: r, h, k => by
    rw [List.map_cons, zlead_cons, zlead_cons]
    have kz := k z List.mem_cons_self
    by_cases hz : z = 0
    · rw [if_pos hz, if_pos (kz.mpr hz)]
      exact zlead_map f (znonZ_tail h hz) fun y hy => k y (List.mem_cons_of_mem _ hy)
    · rw [if_neg hz, if_neg (fun e => hz (kz.mp e))]
/-- exact division -/
theorem zex_div {z : Int} {g : Nat} (hg : 0 < g) (h : g ∣ z.natAbs) : z.fdiv (g : Int) = z / (g : Int) ∧ z.fdiv (-(g : Int)) = -(z / (g : Int)) ∧ (z / (g : Int) = 0 ↔ z = 0) ∧ (0 < z / (g : Int) ↔ 0 < z) := by
  obtain ⟨t, e⟩ := Int.ofNat_dvd_left.mpr h
  have gp : (0 : Int) < (g : Int) := by omega
  have e2 : z / (g : Int) = t := by rw [e]; exact Int.mul_ediv_cancel_left _ (by omega)
  rw [e2]
  refine ⟨by rw [Int.fdiv_eq_ediv_of_nonneg _ (Int.le_of_lt gp), e2], ?_, ?_, ?_⟩
  · have : z = (-(g : Int)) * (-t) := by rw [e, Int.neg_mul_neg]
    rw [this]
    exact Int.mul_fdiv_cancel_left _ (by omega)
  · constructor
    · intro q
      rw [e, q, Int.mul_zero]
    · intro q
      rw [e] at q
      rcases Int.mul_eq_zero.mp q with q | q
      · omega
      · exact q
  · constructor
    · intro q
      rw [e]
      exact Int.mul_pos gp q
    · intro q
      rw [e] at q
      exact Int.pos_of_mul_pos_right q gp
/-- what the integers of a question are divided by -/
def nfC (q : List Int × Int) : Int := if lead (q.1 ++ [q.2]) < 0 then -((gcdL (q.1 ++ [q.2]) : Nat) : Int) else ((gcdL (q.1 ++ [q.2]) : Nat) : Int)
theorem nf_flat {q : List Int × Int} (h : NonZ q.1) : (nfU q).1 ++ [(nfU q).2] = (q.1 ++ [q.2]).map (fun z => z.fdiv (nfC q)) ∧ nfC q ≠ 0 := by
  obtain ⟨y, hy, ny⟩ := h.ex
  have g0 : 0 < gcdL (q.1 ++ [q.2]) := gcdL_pos (List.mem_append_left _ hy) ny
  have dv : ∀ z, z ∈ q.1 ++ [q.2] → gcdL (q.1 ++ [q.2]) ∣ z.natAbs := fun z hz => gcdL_dvd hz
  have el : lead (q.1 ++ [q.2]) = lead q.1 := zlead_app _ h
  obtain ⟨k1, k2, _⟩ := firstNZ_at h
  have lm : lead q.1 ∈ q.1 := List.mem_of_getElem? k1
  have ed : lead (divU q).1 = lead q.1 / ((gcdL (q.1 ++ [q.2]) : Nat) : Int) := zlead_map _ h fun z hz => (zex_div g0 (dv z (List.mem_append_left _ hz))).2.2.1
  have sg := (zex_div g0 (dv _ (List.mem_append_left _ lm))).2.2.2
  rw [← ed] at sg
  by_cases hn : lead q.1 < 0
  · have ec : nfC q = -((gcdL (q.1 ++ [q.2]) : Nat) : Int) := by unfold nfC; rw [el, if_pos hn]
    have en : nfU q = negU (divU q) := if_neg fun z => by have := sg.mp z; omega
    refine ⟨?_, by rw [ec]; omega⟩
    rw [en, ec]
    have e1 : (negU (divU q)).1 ++ [(negU (divU q)).2] = (q.1 ++ [q.2]).map (fun z => -(z / ((gcdL (q.1 ++ [q.2]) : Nat) : Int))) := by
      unfold negU divU
      dsimp only
      rw [List.map_map, List.map_append, List.map_singleton]
      rfl
    rw [e1]
    exact List.map_congr_left fun z hz => ((zex_div g0 (dv z hz)).2.1).symm
  · have ec : nfC q = ((gcdL (q.1 ++ [q.2]) : Nat) : Int) := by unfold nfC; rw [el, if_neg hn]
    have en : nfU q = divU q := if_pos (sg.mpr (by omega))
    refine ⟨?_, by rw [ec]; omega⟩
    rw [en, ec]
    have e1 : (divU q).1 ++ [(divU q).2] = (q.1 ++ [q.2]).map (fun z => z / ((gcdL (q.1 ++ [q.2]) : Nat) : Int)) := by
      unfold divU
      dsimp only
      rw [List.map_append, List.map_singleton]
    rw [e1]
    exact List.map_congr_left fun z hz => ((zex_div g0 (dv z hz)).1).symm
theorem znonZ_app {a : List Int} (b : List Int) (h : NonZ a) : NonZ (a ++ b) := by
  obtain ⟨y, hy, ny⟩ := h.ex
  exact nonZ_of (List.mem_append_left _ hy) ny
end SB
namespace SB
theorem pair_ok {up lo : Int} (h : lo ≠ 0) : ∀ g c : Int, ((Nat.gcd up.natAbs lo.natAbs : Nat) : Int) = g → c = (if lo < 0 then -g else g) →
    Lo (up.fdiv c, lo.fdiv c) ∧ Eqr (up.fdiv c, lo.fdiv c) up lo ∧ (up.fdiv c).natAbs ≤ up.natAbs ∧ (lo.fdiv c).natAbs ≤ lo.natAbs ∧ c ≠ 0 ∧ c.natAbs ≤ lo.natAbs := by
  intro g c hg hc
  have d1 : g ∣ up := by rw [← hg]; exact gcd_dvd_l up lo
  have d2 : g ∣ lo := by rw [← hg]; exact gcd_dvd_r up lo
  by_cases hn : lo < 0
  · rw [if_pos hn] at hc
    subst hc
    have e1 : up.fdiv (-g) = (-up) / g := by
      rw [Int.fdiv_eq_ediv_of_dvd (Int.neg_dvd.mpr d1), Int.ediv_neg, Int.neg_ediv_of_dvd d1]
    have e2 : lo.fdiv (-g) = (-lo) / g := by
      rw [Int.fdiv_eq_ediv_of_dvd (Int.neg_dvd.mpr d2), Int.ediv_neg, Int.neg_ediv_of_dvd d2]
    obtain ⟨a1, a2, a3, a4, a5, a6⟩ := low_ok (t := -up) (b := -lo) (by omega) g (by rw [Int.natAbs_neg, Int.natAbs_neg]; exact hg)
    rw [e1, e2]
    refine ⟨a1, ?_, by rw [Int.natAbs_neg] at a3; exact a3, by rw [Int.natAbs_neg] at a4; exact a4, by omega, by rw [Int.natAbs_neg] at a6; rw [Int.natAbs_neg]; exact a6⟩
    unfold Eqr at *
    dsimp only at *
    rw [Int.mul_neg, Int.neg_mul] at a2
    omega
  · rw [if_neg hn] at hc
    subst hc
    obtain ⟨a1, a2, a3, a4, a5, a6⟩ := low_ok (t := up) (b := lo) (by omega) c hg
    rw [Int.fdiv_eq_ediv_of_nonneg _ (by omega), Int.fdiv_eq_ediv_of_nonneg _ (by omega)]
    exact ⟨a1, a2, a3, a4, by omega, a6⟩
theorem abs_nat (i : Int) : (if i < 0 then -i else i) = ((i.natAbs : Nat) : Int) := by
  by_cases h : i < 0
  · rw [if_pos h]; omega
  · rw [if_neg h]; omega
end SB
namespace SB
theorem lead_cons (z : Int) (r : List Int) : lead (z :: r) = if z = 0 then lead r else z := by
  unfold lead firstNZ
  rw [List.findIdx_cons]
  by_cases h : z = 0
  · rw [if_pos h, show decide (z ≠ 0) = false from decide_eq_false (fun n => n h)]
    rfl
  · rw [if_neg h, show decide (z ≠ 0) = true from decide_eq_true h]
    rfl
theorem lead_nil : lead [] = 0 := rfl
theorem lead_map {f : Int → Int} (h0 : f 0 = 0) : ∀ {ns : List Int}, (∀ z, z ∈ ns → z ≠ 0 → f z ≠ 0) → lead (ns.map f) = f (lead ns)
  | [], _ => by rw [List.map_nil, lead_nil, h0]
  | z :: r, h => by
    rw [List.map_cons, lead_cons, lead_cons]
    by_cases hz : z = 0
    · rw [if_pos hz, hz, h0, if_pos rfl]
      exact lead_map h0 fun y hy => h y (List.mem_cons_of_mem _ hy)
    · rw [if_neg hz, if_neg (h z List.mem_cons_self hz)]
theorem lead_filter : ∀ {ns t : List Int}, NonZ ns → ((ns ++ t).filter fun z => decide (z ≠ 0))[0]? = some (lead ns)
  | [], _, h => absurd (show false = true from h) Bool.false_ne_true
  | z :: r, t, h => by
    rw [lead_cons, List.cons_append]
    by_cases hz : z = 0
    · rw [if_pos hz, List.filter_cons_of_neg (by simp [hz])]
      refine lead_filter ?_
      have h2 : (decide (z ≠ 0) || r.any fun z => decide (z ≠ 0)) = true := h
      rw [show decide (z ≠ 0) = false from decide_eq_false (fun n => n hz), Bool.false_or] at h2
      exact h2
    · rw [if_neg hz, List.filter_cons_of_pos (by simp [hz])]
      rfl
/-- a question's form in one row -/
def grU (q : List Int × Int) : List Int := (nfU q).1 ++ [(nfU q).2]
theorem grU_inj {p q : List Int × Int} (h : grU p = grU q) : nfU p = nfU q := by
  unfold grU at h
  obtain ⟨h1, h2⟩ := List.append_inj' h rfl
  exact Prod.ext h1 (by simpa using h2)
theorem neg_div {x : Int} {g : Nat} (h : g ∣ x.natAbs) : (-x) / (g : Int) = -(x / (g : Int)) := Int.neg_ediv_of_dvd (Int.ofNat_dvd_left.mpr h)
theorem grU_eq {q : List Int × Int} (h : QOk q) : grU q = (q.1 ++ [q.2]).map fun x => if 0 < lead q.1 then x / ((gcdL (q.1 ++ [q.2]) : Nat) : Int) else (-x) / ((gcdL (q.1 ++ [q.2]) : Nat) : Int) := by
  obtain ⟨g0, _⟩ := h.g
  generalize hG : gcdL (q.1 ++ [q.2]) = G at *
  have dv : ∀ z, z ∈ q.1 ++ [q.2] → G ∣ z.natAbs := fun z hz => by rw [← hG]; exact gcdL_dvd hz
  have e1 : divU q = (q.1.map fun z => z / (G : Int), q.2 / (G : Int)) := by unfold divU; rw [hG]
  have gp : (0 : Int) < (G : Int) := by omega
  have el : lead (q.1.map fun z => z / (G : Int)) = lead q.1 / (G : Int) := lead_map (f := fun z => z / (G : Int)) (Int.zero_ediv _) fun z hz n => (div_le g0 (dv z (List.mem_append_left _ hz))).2 n
  have sg : 0 < lead q.1 / (G : Int) ↔ 0 < lead q.1 := by
    have hm : lead q.1 ∈ q.1 := List.mem_of_getElem? (firstNZ_at h.nz).1
    obtain ⟨t, et⟩ := Int.ofNat_dvd_left.mpr (dv _ (List.mem_append_left _ hm))
    rw [et, Int.mul_ediv_cancel_left _ (by omega)]
    constructor
    · exact fun z => Int.mul_pos gp z
    · intro z
      rcases Int.lt_trichotomy t 0 with y | y | y
      · have := Int.mul_neg_of_pos_of_neg gp y
        omega
      · rw [y, Int.mul_zero] at z
        omega
      · exact y
  unfold grU nfU
  rw [e1]
  dsimp only
  rw [el]
  by_cases hc : 0 < lead q.1
  · rw [if_pos (sg.mpr hc)]
    simp only [if_pos hc, List.map_append, List.map_cons, List.map_nil]
  · rw [if_neg (fun z => hc (sg.mp z))]
    simp only [if_neg hc, List.map_append, List.map_cons, List.map_nil, negU, List.map_map]
    rw [neg_div (dv q.2 (List.mem_append_right _ List.mem_cons_self))]
    refine congrArg (· ++ _) (List.map_congr_left fun z hz => ?_)
    exact (neg_div (dv z (List.mem_append_left _ hz))).symm
end SB
namespace SB
theorem gcdF_neg : ∀ (l : List Int) (c : Nat), (l.map fun z => -z).foldl (fun c z => Nat.gcd c z.natAbs) c = l.foldl (fun c z => Nat.gcd c z.natAbs) c
  | [], _ => rfl
  | z :: r, c => by
    rw [List.map_cons, List.foldl_cons, List.foldl_cons, Int.natAbs_neg]
    exact gcdF_neg r _
theorem gcdL_neg (l : List Int) : gcdL (l.map fun z => -z) = gcdL l := gcdF_neg l 0
theorem lead_neg (ns : List Int) : lead (ns.map fun z => -z) = -lead ns := lead_map (f := fun z => -z) rfl fun z _ h => by omega
theorem nfU_neg {q : List Int × Int} (h : QOk q) : nfU (negU q) = nfU q := by
  refine grU_inj ?_
  obtain ⟨_, n0, _⟩ := firstNZ_at h.nz
  rw [grU_eq h, grU_eq h.neg]
  have e : (negU q).1 ++ [(negU q).2] = (q.1 ++ [q.2]).map fun z => -z := by
    rw [List.map_append]
    rfl
  have el : lead (negU q).1 = -lead q.1 := lead_neg q.1
  rw [e, gcdL_neg, List.map_map, el]
  refine List.map_congr_left fun x _ => ?_
  show (if 0 < -lead q.1 then (-x) / _ else (-(-x)) / _) = _
  by_cases c : 0 < lead q.1
  · rw [if_pos c, if_neg (by omega), Int.neg_neg]
  · rw [if_neg c, if_pos (by omega)]
theorem foldU_neg : ∀ (ns : List Int) (us : List (Int × Int)) (g : Int × Int), sumU (ns.map fun z => -z) us (-g.1, g.2) = (-(sumU ns us g).1, (sumU ns us g).2)
  | [], _, _ => rfl
  | _ :: _, [], _ => rfl
  | z :: r, u :: t, g => by
    have h := foldU_neg r t (stepU g (z, u))
    have e : stepU (-g.1, g.2) (-z, u) = (-(stepU g (z, u)).1, (stepU g (z, u)).2) := by
      unfold stepU fPlus fTimes
      dsimp only
      refine Prod.ext ?_ rfl
      dsimp only
      grind
    show sumU (r.map fun z => -z) t (stepU (-g.1, g.2) (-z, u)) = _
    rw [e, h]
    rfl
theorem worth_neg (q : List Int × Int) (us : List (Int × Int)) : (worthU (negU q) us).1 = -(worthU q us).1 := by
  have h := foldU_neg q.1 us (-q.2, 1)
  have : worthU (negU q) us = sumU (q.1.map fun z => -z) us (-(-q.2, (1:Int)).1, (-q.2, (1:Int)).2) := rfl
  rw [this, h]
  rfl
theorem set_take {α : Type} {l : List α} {i : Nat} (a : α) (h : i < l.length) : (l.take i ++ [a]) ++ l.drop (i + 1) = l.set i a := by
  rw [List.set_eq_take_append_cons_drop, if_pos h, List.append_assoc]
  rfl
end SB
namespace SB
/-! ### numbers as fractions -/
def qv (p : Int × Int) : Rat := (p.1 : Rat) / (p.2 : Rat)
theorem rpos {b : Int} (h : 0 < b) : (0 : Rat) < (b : Rat) := Rat.intCast_pos.mpr h
theorem rne {b : Int} (h : 0 < b) : (b : Rat) ≠ 0 := fun e => by
  have := Rat.intCast_eq_zero_iff.mp e
  omega
theorem rne0 {b : Int} (h : b ≠ 0) : (b : Rat) ≠ 0 := fun e => h (Rat.intCast_eq_zero_iff.mp e)
theorem qv_mul {p : Int × Int} (h : 0 < p.2) : qv p * (p.2 : Rat) = (p.1 : Rat) := by
  have := rne h
  unfold qv
  grind
theorem qv_of {p : Int × Int} {x : Rat} (h : 0 < p.2) (e : x * (p.2 : Rat) = (p.1 : Rat)) : qv p = x := by
  have := rne h
  unfold qv
  grind
theorem qv_eqr {r : Int × Int} {N D : Int} (e : Eqr r N D) (h : 0 < r.2) (hD : 0 < D) : qv r = qv (N, D) := by
  refine qv_of h ?_
  have h1 := qv_mul (p := (N, D)) hD
  have e : r.1 * D = N * r.2 := e
  have e2 : (r.1 : Rat) * (D : Rat) = (N : Rat) * (r.2 : Rat) := by rw [← Rat.intCast_mul, e, Rat.intCast_mul]
  have := rne hD
  have h1 : qv (N, D) * (D : Rat) = (N : Rat) := h1
  grind
theorem qv_eqr' {r p : Int × Int} (e : Eqr r p.1 p.2) (h : 0 < r.2) (hD : 0 < p.2) : qv r = qv p := qv_eqr e h hD
theorem qv_inj {p q : Int × Int} (hp : Lo p) (hq : Lo q) (e : qv p = qv q) : p = q := by
  have h1 := qv_mul hp.1
  have h2 := qv_mul hq.1
  have e2 : (p.1 : Rat) * (q.2 : Rat) = (q.1 : Rat) * (p.2 : Rat) := by rw [e] at h1; grind
  rw [← Rat.intCast_mul, ← Rat.intCast_mul] at e2
  exact lo_uniq hp hq (Rat.intCast_inj.mp e2)
theorem qv_plus {p q : Int × Int} (hp : 0 < p.2) (hq : 0 < q.2) : qv (fPlus p q) = qv p + qv q := by
  refine qv_of (Int.mul_pos hp hq) ?_
  have h1 := qv_mul hp
  have h2 := qv_mul hq
  show _ * ((p.2 * q.2 : Int) : Rat) = ((p.1 * q.2 + q.1 * p.2 : Int) : Rat)
  rw [Rat.intCast_add, Rat.intCast_mul, Rat.intCast_mul, Rat.intCast_mul]
  grind
theorem qv_minus {p q : Int × Int} (hp : 0 < p.2) (hq : 0 < q.2) : qv (fMinus p q) = qv p - qv q := by
  refine qv_of (Int.mul_pos hp hq) ?_
  have h1 := qv_mul hp
  have h2 := qv_mul hq
  show _ * ((p.2 * q.2 : Int) : Rat) = ((p.1 * q.2 - q.1 * p.2 : Int) : Rat)
  rw [Rat.intCast_sub, Rat.intCast_mul, Rat.intCast_mul, Rat.intCast_mul]
  grind
theorem qv_times {p q : Int × Int} (hp : 0 < p.2) (hq : 0 < q.2) : qv (fTimes p q) = qv p * qv q := by
  refine qv_of (Int.mul_pos hp hq) ?_
  have h1 := qv_mul hp
  have h2 := qv_mul hq
  show _ * ((p.2 * q.2 : Int) : Rat) = ((p.1 * q.1 : Int) : Rat)
  rw [Rat.intCast_mul, Rat.intCast_mul]
  grind
theorem qv_int (z : Int) : qv (z, 1) = (z : Rat) := qv_of Int.one_pos (by show _ * ((1 : Int) : Rat) = (z : Rat); rw [Rat.intCast_one]; grind)
theorem qv_pos {p : Int × Int} (h : 0 < p.2) : 0 < qv p ↔ 0 < p.1 := by
  have h1 := qv_mul h
  have h2 := rpos h
  rw [← Rat.intCast_pos, ← h1]
  exact (Rat.mul_pos_iff_of_pos_right h2).symm
theorem qv_neg {p : Int × Int} (h : 0 < p.2) : qv p < 0 ↔ p.1 < 0 := by
  have h1 := qv_pos (p := (-p.1, p.2)) h
  have e : qv (-p.1, p.2) = -qv p := qv_of h (by
    have := qv_mul h
    show -qv p * (p.2 : Rat) = ((-p.1 : Int) : Rat)
    rw [Rat.intCast_neg]
    grind)
  rw [e] at h1
  have h1 : 0 < -qv p ↔ 0 < -p.1 := h1
  constructor
  · intro z
    have := h1.mp (by grind)
    omega
  · intro z
    have := h1.mpr (by omega)
    grind
/-- the sign of a fraction -/
def sgQ (x : Rat) : Int := if 0 < x then 1 else if x < 0 then -1 else 0
theorem sgQ_pos {x : Rat} (h : 0 < x) : sgQ x = 1 := if_pos h
theorem sgQ_neg {x : Rat} (h : x < 0) : sgQ x = -1 := by
  unfold sgQ
  rw [if_neg (by grind), if_pos h]
theorem sgQ_zero : sgQ 0 = 0 := by decide +kernel
theorem sgQ_mul {x c : Rat} (h : 0 < c) : sgQ (c * x) = sgQ x := by
  by_cases h1 : 0 < x
  · rw [sgQ_pos h1, sgQ_pos (Rat.mul_pos h h1)]
  · by_cases h2 : x < 0
    · have := Rat.mul_pos h (show 0 < -x by grind)
      rw [sgQ_neg h2, sgQ_neg (by grind)]
    · have : x = 0 := by grind
      rw [this, Rat.mul_zero]
/-- a sum of sides times numbers -/
def dotQ : List Int → List Rat → Rat
  | n :: r, x :: t => (n : Rat) * x + dotQ r t
  | _, _ => 0
theorem sumU_qv : ∀ (ns : List Int) (us : List (Int × Int)) (g : Int × Int), 0 < g.2 → (∀ u, u ∈ us → 0 < u.2) → qv (sumU ns us g) = qv g + dotQ ns (us.map qv)
  | [], us, g, _, _ => by
    show qv g = qv g + dotQ [] _
    cases us <;> (unfold dotQ; grind)
  | _ :: _, [], g, _, _ => by
    show qv g = qv g + 0
    grind
  | n :: r, u :: t, g, hg, hu => by
    have h2 := hu u List.mem_cons_self
    have h := sumU_qv r t (stepU g (n, u)) (stepU_pos hg h2) fun v hv => hu v (List.mem_cons_of_mem _ hv)
    show qv (sumU r t (stepU g (n, u))) = qv g + ((n : Rat) * qv u + dotQ r (t.map qv))
    have e : qv (stepU g (n, u)) = qv g + (n : Rat) * qv u := by
      show qv (fPlus g (fTimes (n, 1) u)) = _
      rw [qv_plus hg (Int.mul_pos Int.one_pos h2), qv_times Int.one_pos h2, qv_int]
    rw [h, e]
    grind
theorem worth_qv {q : List Int × Int} {us : List (Int × Int)} (h : ∀ u, u ∈ us → 0 < u.2) : qv (worthU q us) = dotQ q.1 (us.map qv) - (q.2 : Rat) := by
  unfold worthU
  rw [sumU_qv _ _ _ Int.one_pos h, qv_int, Rat.intCast_neg]
  grind
/-- on the way from xs to ys -/
def mixQ (s : Rat) (xs ys : List Rat) : List Rat := List.zipWith (fun x y => x + s * (y - x)) xs ys
theorem dot_mix (s : Rat) : ∀ (ns : List Int) (xs ys : List Rat), xs.length = ys.length → dotQ ns (mixQ s xs ys) = dotQ ns xs + s * (dotQ ns ys - dotQ ns xs)
  | [], xs, ys, _ => by
    have h : ∀ l : List Rat, dotQ [] l = 0 := fun l => by cases l <;> rfl
    rw [h, h, h]
    grind
  | n :: r, [], [], _ => by
    show (0 : Rat) = 0 + s * (0 - 0)
    grind
  | n :: r, x :: xs, y :: ys, h => by
    have := dot_mix s r xs ys (by simpa using h)
    show (n : Rat) * (x + s * (y - x)) + dotQ r (mixQ s xs ys) = ((n : Rat) * x + dotQ r xs) + s * (((n : Rat) * y + dotQ r ys) - ((n : Rat) * x + dotQ r xs))
    rw [this]
    grind
theorem mix_at {s : Rat} {xs ys : List Rat} {i : Nat} {x y : Rat} (h : xs[i]? = some x) (k : ys[i]? = some y) : (mixQ s xs ys)[i]? = some (x + s * (y - x)) := by
  unfold mixQ
  rw [List.getElem?_zipWith, h, k]
theorem qvs_inj : ∀ {ps qs : List (Int × Int)}, (∀ p, p ∈ ps → Lo p) → (∀ q, q ∈ qs → Lo q) → ps.map qv = qs.map qv → ps = qs
  | [], [], _, _, _ => rfl
  | [], _ :: _, _, _, e => by cases e
  | _ :: _, [], _, _, e => by cases e
  | p :: r, q :: t, hp, hq, e => by
    rw [List.map_cons, List.map_cons] at e
    obtain ⟨e1, e2⟩ := List.cons.inj e
    rw [qv_inj (hp p List.mem_cons_self) (hq q List.mem_cons_self) e1, qvs_inj (fun x h => hp x (List.mem_cons_of_mem _ h)) (fun x h => hq x (List.mem_cons_of_mem _ h)) e2]
/-- the one's answers, where these are 0 the other's -/
def aheadU (zs ws : List Int) : List Int := List.zipWith (fun z w => if z = 0 then w else z) zs ws
theorem ahead_len {zs ws : List Int} (h : zs.length = ws.length) : (aheadU zs ws).length = zs.length := by
  unfold aheadU
  rw [List.length_zipWith]
  omega
theorem ahead_at {zs ws : List Int} {i : Nat} {z w : Int} (h : zs[i]? = some z) (k : ws[i]? = some w) : (aheadU zs ws)[i]? = some (if z = 0 then w else z) := by
  unfold aheadU
  rw [List.getElem?_zipWith, h, k]
/-- near enough to the one point the answer is the one's, or where this is 0 the other's -/
theorem sg_ahead {a b s : Rat} (h0 : 0 < s) (h1 : s < 1) (hp : 0 < a → b < 0 → s * (a - b) < a) (hn : a < 0 → 0 < b → s * (b - a) < -a) : sgQ (a + s * (b - a)) = if sgQ a = 0 then sgQ b else sgQ a := by
  by_cases a1 : 0 < a
  · rw [sgQ_pos a1, if_neg (by decide)]
    refine sgQ_pos ?_
    by_cases b1 : b < 0
    · have := hp a1 b1
      grind
    · have h2 : 0 < (1 - s) * a := Rat.mul_pos (by grind) a1
      have h3 : 0 ≤ s * b := Rat.mul_nonneg (by grind) (by grind)
      grind
  · by_cases a2 : a < 0
    · rw [sgQ_neg a2, if_neg (by decide)]
      refine sgQ_neg ?_
      by_cases b1 : 0 < b
      · have := hn a2 b1
        grind
      · have h2 : 0 < (1 - s) * (-a) := Rat.mul_pos (by grind) (by grind)
        have h3 : 0 ≤ s * (-b) := Rat.mul_nonneg (by grind) (by grind)
        grind
    · have : a = 0 := by grind
      subst this
      rw [sgQ_zero, if_pos rfl]
      have : (0 : Rat) + s * (b - 0) = s * b := by grind
      rw [this, sgQ_mul h0]
end SB
namespace SB
/-! ### questions with the same noughts; a question moved -/
def scU (k : Int) (q : List Int × Int) : List Int × Int := (q.1.map fun z => k * z, k * q.2)
theorem scU_sc (a b : Int) (q : List Int × Int) : scU a (scU b q) = scU (a * b) q := by
  unfold scU
  refine Prod.ext ?_ ?_
  · show (q.1.map _).map _ = _
    rw [List.map_map]
    refine List.map_congr_left fun z _ => ?_
    show a * (b * z) = a * b * z
    rw [Int.mul_assoc]
  · show a * (b * q.2) = a * b * q.2
    rw [Int.mul_assoc]
theorem scU_cells (k : Int) (q : List Int × Int) : (scU k q).1 ++ [(scU k q).2] = (q.1 ++ [q.2]).map fun z => k * z := by
  rw [List.map_append]
  rfl
theorem gcdF_mul (k : Int) : ∀ (l : List Int) (c : Nat), (l.map fun z => k * z).foldl (fun c z => Nat.gcd c z.natAbs) (k.natAbs * c) = k.natAbs * l.foldl (fun c z => Nat.gcd c z.natAbs) c
  | [], _ => rfl
  | z :: r, c => by
    rw [List.map_cons, List.foldl_cons, List.foldl_cons, Int.natAbs_mul, Nat.gcd_mul_left]
    exact gcdF_mul k r _
theorem gcdL_mul (k : Int) (l : List Int) : gcdL (l.map fun z => k * z) = k.natAbs * gcdL l := gcdF_mul k l 0
theorem nonZ_g {q : List Int × Int} (h : NonZ q.1) : 0 < gcdL (q.1 ++ [q.2]) := by
  obtain ⟨z, h1, h2⟩ := h.ex
  exact gcdL_pos (List.mem_append_left _ h1) h2
theorem NonZ.sc {q : List Int × Int} (h : NonZ q.1) {k : Int} (hk : k ≠ 0) : NonZ (scU k q).1 := by
  obtain ⟨z, h1, h2⟩ := h.ex
  exact nonZ_of (List.mem_map.mpr ⟨z, h1, rfl⟩) (Int.mul_ne_zero hk h2)
theorem divU_sc {k : Int} (hk : 0 < k) {q : List Int × Int} (h : NonZ q.1) : divU (scU k q) = divU q := by
  have g0 := nonZ_g h
  have eg : ((gcdL ((scU k q).1 ++ [(scU k q).2]) : Nat) : Int) = k * ((gcdL (q.1 ++ [q.2]) : Nat) : Int) := by
    rw [scU_cells, gcdL_mul, Int.natCast_mul]
    congr 1
    omega
  unfold divU
  rw [eg]
  refine Prod.ext ?_ ?_
  · show (q.1.map _).map _ = _
    rw [List.map_map]
    refine List.map_congr_left fun z _ => ?_
    show (k * z) / (k * _) = z / _
    rw [Int.mul_ediv_mul_of_pos _ _ hk]
  · show (k * q.2) / (k * _) = q.2 / _
    rw [Int.mul_ediv_mul_of_pos _ _ hk]
/-- what the greatest divisor takes out -/
theorem scU_divU (q : List Int × Int) : scU ((gcdL (q.1 ++ [q.2]) : Nat) : Int) (divU q) = q := by
  unfold scU divU
  refine Prod.ext ?_ ?_
  · show (q.1.map _).map _ = q.1
    rw [List.map_map]
    have : ∀ l : List Int, (∀ z, z ∈ l → z ∈ q.1 ++ [q.2]) → l.map ((fun z => ((gcdL (q.1 ++ [q.2]) : Nat) : Int) * z) ∘ fun z => z / ((gcdL (q.1 ++ [q.2]) : Nat) : Int)) = l := fun l => by
      induction l with
      | nil => exact fun _ => rfl
      | cons z r ih =>
        intro h
        rw [List.map_cons, ih fun y hy => h y (List.mem_cons_of_mem _ hy)]
        congr 1
        exact Int.mul_ediv_cancel' (Int.ofNat_dvd_left.mpr (gcdL_dvd (h z List.mem_cons_self)))
    exact this q.1 fun z h => List.mem_append_left _ h
  · exact Int.mul_ediv_cancel' (Int.ofNat_dvd_left.mpr (gcdL_dvd (List.mem_append_right _ List.mem_cons_self)))
theorem divU_same {p q : List Int × Int} {u v : Int} (hu : 0 < u) (hv : 0 < v) (hp : NonZ p.1) (hq : NonZ q.1) (e : scU v p = scU u q) : divU p = divU q := by
  rw [← divU_sc hv hp, e, divU_sc hu hq]
theorem nonZ_div {q : List Int × Int} (h : NonZ q.1) : NonZ (divU q).1 := by
  have g0 := nonZ_g h
  obtain ⟨z, h1, h2⟩ := h.ex
  exact nonZ_of (List.mem_map.mpr ⟨z, h1, rfl⟩) ((div_le g0 (gcdL_dvd (List.mem_append_left _ h1))).2 h2)
theorem negU_sc (q : List Int × Int) : negU q = scU (-1) q := by
  unfold negU scU
  refine Prod.ext (List.map_congr_left fun z _ => ?_) ?_
  · show -z = -1 * z
    omega
  · show -q.2 = -1 * q.2
    omega
/-- the form is a multiple -/
theorem nf_sc {q : List Int × Int} (h : NonZ q.1) : ∃ a : Int, a ≠ 0 ∧ scU a (nfU q) = q := by
  have g0 := nonZ_g h
  unfold nfU
  by_cases c : 0 < lead (divU q).1
  · rw [if_pos c]
    exact ⟨_, by omega, scU_divU q⟩
  · rw [if_neg c, negU_sc]
    refine ⟨-((gcdL (q.1 ++ [q.2]) : Nat) : Int), by omega, ?_⟩
    rw [scU_sc]
    have : -((gcdL (q.1 ++ [q.2]) : Nat) : Int) * -1 = ((gcdL (q.1 ++ [q.2]) : Nat) : Int) := by omega
    rw [this, scU_divU]
theorem nf_of {p q : List Int × Int} (hp : NonZ p.1) (hq : NonZ q.1) (e : nfU p = nfU q) : ∃ u v : Int, u ≠ 0 ∧ v ≠ 0 ∧ scU v p = scU u q := by
  obtain ⟨a, a0, ea⟩ := nf_sc hp
  obtain ⟨b, b0, eb⟩ := nf_sc hq
  refine ⟨a, b, a0, b0, ?_⟩
  rw [← ea, e, scU_sc]
  conv => rhs; rw [← eb, scU_sc]
  rw [Int.mul_comm]
theorem nf_same {p q : List Int × Int} (hp : QOk p) (hq : QOk q) {u v : Int} (u0 : u ≠ 0) (v0 : v ≠ 0) (e : scU v p = scU u q) : nfU p = nfU q := by
  -- both factors above 0, perhaps with a question turned
  have key : ∀ {p q : List Int × Int} {u v : Int}, NonZ p.1 → NonZ q.1 → 0 < u → 0 < v → scU v p = scU u q → nfU p = nfU q := fun {p q u v} hp hq hu hv e => by
    unfold nfU
    rw [divU_same hu hv hp hq e]
  have neg : ∀ {p q : List Int × Int} {u v : Int}, scU v p = scU u q → scU (-v) p = scU (-u) q := fun {p q u v} e => by
    have := congrArg (scU (-1)) e
    rw [scU_sc, scU_sc] at this
    rw [show -v = -1 * v by omega, show -u = -1 * u by omega]
    exact this
  have pos : ∀ {p q : List Int × Int} {u v : Int}, QOk p → QOk q → u ≠ 0 → 0 < v → scU v p = scU u q → nfU p = nfU q := fun {p q u v} hp hq hu hv e => by
    by_cases c : 0 < u
    · exact key hp.nz hq.nz c hv e
    · rw [← nfU_neg hq]
      refine key hp.nz hq.neg.nz (u := -u) (v := v) (by omega) hv ?_
      rw [negU_sc, scU_sc, e]
      congr 1
      omega
  by_cases c : 0 < v
  · exact pos hp hq u0 c e
  · exact pos hp hq (u := -u) (v := -v) (by omega) (by omega) (neg e)
/-- in lowest terms -/
def lowU (p : Int × Int) : Int × Int := (p.1 / ((Nat.gcd p.1.natAbs p.2.natAbs : Nat) : Int), p.2 / ((Nat.gcd p.1.natAbs p.2.natAbs : Nat) : Int))
theorem lowU_ok {p : Int × Int} (h : 0 < p.2) : Lo (lowU p) ∧ Eqr (lowU p) p.1 p.2 := by
  obtain ⟨a, b, _⟩ := low_ok (t := p.1) h _ rfl
  exact ⟨a, b⟩
theorem lowU_is {p r : Int × Int} (h : 0 < p.2) (hr : Lo r) (e : Eqr r p.1 p.2) : r = lowU p := by
  obtain ⟨a, b⟩ := lowU_ok h
  refine qv_inj hr a ?_
  rw [qv_eqr' e hr.1 h, qv_eqr' b a.1 h]
/-- what the sides come to at a point, and the wall -/
def shiftU (q : List Int × Int) (us : List (Int × Int)) : Int × Int := lowU (fPlus (sumU q.1 us (0, 1)) (q.2, 1))
def rawU (q : List Int × Int) (r : Int × Int) : List Int × Int := (q.1.map fun z => z * r.2, r.1)
def movU (q : List Int × Int) (us : List (Int × Int)) : List Int × Int := divU (rawU q (shiftU q us))
theorem shift_pos {q : List Int × Int} {us : List (Int × Int)} (h : ∀ u, u ∈ us → Lo u) : 0 < (fPlus (sumU q.1 us (0, 1)) (q.2, 1)).2 := by
  refine Int.mul_pos (sumU_pos (by show (0 : Int) < 1; decide) fun p hp => ?_) Int.one_pos
  exact (h p.2 (List.of_mem_zip (a := p.1) (b := p.2) hp).2).1
theorem shift_lo {q : List Int × Int} {us : List (Int × Int)} (h : ∀ u, u ∈ us → Lo u) : Lo (shiftU q us) := (lowU_ok (shift_pos h)).1
theorem shift_qv {q : List Int × Int} {us : List (Int × Int)} (h : ∀ u, u ∈ us → Lo u) : qv (shiftU q us) = dotQ q.1 (us.map qv) + (q.2 : Rat) := by
  have p := shift_pos (q := q) h
  obtain ⟨a, b⟩ := lowU_ok p
  have h0 : 0 < (sumU q.1 us (0, 1)).2 := sumU_pos (by show (0 : Int) < 1; decide) fun p hp => (h p.2 (List.of_mem_zip (a := p.1) (b := p.2) hp).2).1
  show qv (lowU _) = _
  rw [qv_eqr' b a.1 p, qv_plus h0 Int.one_pos, sumU_qv _ _ _ Int.one_pos fun u hu => (h u hu).1, qv_int, qv_int, Rat.intCast_zero]
  grind
theorem raw_nz {q : List Int × Int} {r : Int × Int} (h : NonZ q.1) (hr : 0 < r.2) : NonZ (rawU q r).1 := by
  obtain ⟨z, h1, h2⟩ := h.ex
  exact nonZ_of (List.mem_map.mpr ⟨z, h1, rfl⟩) (Int.mul_ne_zero h2 (by omega))
theorem dot_sc (k : Int) : ∀ (ns : List Int) (xs : List Rat), dotQ (ns.map fun z => k * z) xs = (k : Rat) * dotQ ns xs
  | [], _ => by
    show dotQ [] _ = _ * dotQ [] _
    have h : ∀ l : List Rat, dotQ [] l = 0 := fun l => by cases l <;> rfl
    rw [h]
    grind
  | _ :: _, [] => by
    show (0 : Rat) = _ * 0
    grind
  | n :: r, x :: t => by
    show ((k * n : Int) : Rat) * x + dotQ (r.map _) t = (k : Rat) * ((n : Rat) * x + dotQ r t)
    rw [dot_sc k r t, Rat.intCast_mul]
    grind
/-- moved questions with the same noughts come of such -/
theorem mov_nf {p q : List Int × Int} {us : List (Int × Int)} (hp : QOk p) (hq : QOk q) (h : ∀ u, u ∈ us → Lo u) (e : nfU (movU p us) = nfU (movU q us)) : nfU p = nfU q := by
  have lp := shift_lo (q := p) h
  have lq := shift_lo (q := q) h
  have vp := shift_qv (q := p) h
  have vq := shift_qv (q := q) h
  generalize hrp : shiftU p us = rp at *
  generalize hrq : shiftU q us = rq at *
  have np := raw_nz (r := rp) hp.nz lp.1
  have nq := raw_nz (r := rq) hq.nz lq.1
  have ep : movU p us = divU (rawU p rp) := by unfold movU; rw [hrp]
  have eq : movU q us = divU (rawU q rq) := by unfold movU; rw [hrq]
  rw [ep, eq] at e
  obtain ⟨u, v, u0, v0, e2⟩ := nf_of (nonZ_div np) (nonZ_div nq) e
  have gp := nonZ_g np
  have gq := nonZ_g nq
  have sp := scU_divU (rawU p rp)
  have sq := scU_divU (rawU q rq)
  generalize ((gcdL ((rawU p rp).1 ++ [(rawU p rp).2]) : Nat) : Int) = a at sp
  generalize ((gcdL ((rawU q rq).1 ++ [(rawU q rq).2]) : Nat) : Int) = b at sq
  have a0 : a ≠ 0 := fun z => by
    rw [z] at sp
    obtain ⟨y, h1, h2⟩ := np.ex
    rw [← sp] at h1
    obtain ⟨x, _, hx⟩ := List.mem_map.mp h1
    rw [← hx, Int.zero_mul] at h2
    exact h2 rfl
  have b0 : b ≠ 0 := fun z => by
    rw [z] at sq
    obtain ⟨y, h1, h2⟩ := nq.ex
    rw [← sq] at h1
    obtain ⟨x, _, hx⟩ := List.mem_map.mp h1
    rw [← hx, Int.zero_mul] at h2
    exact h2 rfl
  -- the raw ones are multiples of one another
  have e3 : scU (v * b) (rawU p rp) = scU (u * a) (rawU q rq) := by
    rw [← sp, scU_sc]
    conv => rhs; rw [← sq, scU_sc]
    have := congrArg (scU (a * b)) e2
    rw [scU_sc, scU_sc] at this
    rw [show v * b * a = a * b * v by grind, show u * a * b = a * b * u by grind]
    exact this
  have V0 : v * b ≠ 0 := Int.mul_ne_zero v0 b0
  have U0 : u * a ≠ 0 := Int.mul_ne_zero u0 a0
  generalize v * b = V at e3 V0
  generalize u * a = U at e3 U0
  have es : p.1.map (fun z => V * rp.2 * z) = q.1.map fun z => U * rq.2 * z := by
    have h1 : (p.1.map fun z => z * rp.2).map (fun z => V * z) = (q.1.map fun z => z * rq.2).map fun z => U * z := congrArg Prod.fst e3
    rw [List.map_map, List.map_map] at h1
    have c1 : (fun z => V * rp.2 * z) = (fun z => V * z) ∘ fun z => z * rp.2 := funext fun z => by show V * rp.2 * z = V * (z * rp.2); grind
    have c2 : (fun z => U * rq.2 * z) = (fun z => U * z) ∘ fun z => z * rq.2 := funext fun z => by show U * rq.2 * z = U * (z * rq.2); grind
    rw [c1, c2]
    exact h1
  have ew : V * rp.1 = U * rq.1 := congrArg Prod.snd e3
  refine nf_same hp hq (u := U * rq.2) (v := V * rp.2) (Int.mul_ne_zero U0 (by have := lq.1; omega)) (Int.mul_ne_zero V0 (by have := lp.1; omega)) (Prod.ext es ?_)
  show V * rp.2 * p.2 = U * rq.2 * q.2
  have d1 := dot_sc (V * rp.2) p.1 (us.map qv)
  have d2 := dot_sc (U * rq.2) q.1 (us.map qv)
  rw [es, d2] at d1
  have m1 := qv_mul lp.1
  have m2 := qv_mul lq.1
  rw [vp] at m1
  rw [vq] at m2
  have ew2 : (V : Rat) * (rp.1 : Rat) = (U : Rat) * (rq.1 : Rat) := by rw [← Rat.intCast_mul, ew, Rat.intCast_mul]
  rw [Rat.intCast_mul, Rat.intCast_mul] at d1
  refine Rat.intCast_inj.mp ?_
  rw [Rat.intCast_mul, Rat.intCast_mul, Rat.intCast_mul, Rat.intCast_mul]
  grind
end SB
namespace SB
def lineQ (q : List Int × Int) (xs : List Rat) : Rat := dotQ q.1 xs - (q.2 : Rat)
theorem line_sc (k : Int) (q : List Int × Int) (xs : List Rat) : lineQ (scU k q) xs = (k : Rat) * lineQ q xs := by
  have h := dot_sc k q.1 xs
  show dotQ (q.1.map fun z => k * z) xs - ((k * q.2 : Int) : Rat) = (k : Rat) * (dotQ q.1 xs - (q.2 : Rat))
  rw [h, Rat.intCast_mul]
  grind
theorem line_raw (q : List Int × Int) (r : Int × Int) (xs : List Rat) : lineQ (rawU q r) xs = (r.2 : Rat) * dotQ q.1 xs - (r.1 : Rat) := by
  have h := dot_sc r.2 q.1 xs
  have e : (q.1.map fun z => z * r.2) = q.1.map fun z => r.2 * z := List.map_congr_left fun z _ => Int.mul_comm _ _
  show dotQ (q.1.map fun z => z * r.2) xs - (r.1 : Rat) = _
  rw [e, h]
theorem raw_g {q : List Int × Int} {r : Int × Int} (h : NonZ q.1) (hr : 0 < r.2) : ∃ g : Int, 0 < g ∧ scU g (divU (rawU q r)) = rawU q r := by
  have g0 := nonZ_g (raw_nz h hr)
  exact ⟨_, by omega, scU_divU _⟩
/-- a moved question at any point -/
theorem mov_line {q : List Int × Int} {us : List (Int × Int)} (hq : NonZ q.1) (h : ∀ u, u ∈ us → Lo u) : ∃ c : Rat, 0 < c ∧ ∀ xs, lineQ (movU q us) xs = c * (dotQ q.1 xs - dotQ q.1 (us.map qv) - (q.2 : Rat)) := by
  have lo := shift_lo (q := q) h
  have vs := shift_qv (q := q) h
  have e : movU q us = divU (rawU q (shiftU q us)) := rfl
  generalize shiftU q us = r at *
  obtain ⟨g, g0, eg⟩ := raw_g hq lo.1
  have gp := rpos g0
  have gn := rne g0
  have rp := rpos lo.1
  have m := qv_mul lo.1
  rw [vs] at m
  refine ⟨(r.2 : Rat) * (g : Rat)⁻¹, Rat.mul_pos rp (Rat.inv_pos.mpr gp), fun xs => ?_⟩
  have h1 := line_sc g (divU (rawU q r)) xs
  rw [eg, line_raw, ← e] at h1
  have h2 : (g : Rat) * (g : Rat)⁻¹ = 1 := Rat.mul_inv_cancel _ gn
  generalize (g : Rat)⁻¹ = i at h2 ⊢
  grind
def addQ (xs ys : List Rat) : List Rat := List.zipWith (fun x y => x + y) xs ys
theorem dot_add : ∀ (ns : List Int) (xs ys : List Rat), xs.length = ys.length → dotQ ns (addQ xs ys) = dotQ ns xs + dotQ ns ys
  | [], xs, ys, _ => by
    have h : ∀ l : List Rat, dotQ [] l = 0 := fun l => by cases l <;> rfl
    rw [h, h, h]
    grind
  | n :: r, [], [], _ => by
    show (0 : Rat) = 0 + 0
    grind
  | n :: r, x :: xs, y :: ys, h => by
    have := dot_add r xs ys (by simpa using h)
    show (n : Rat) * (x + y) + dotQ r (addQ xs ys) = ((n : Rat) * x + dotQ r xs) + ((n : Rat) * y + dotQ r ys)
    rw [this]
    grind
theorem add_at {xs ys : List Rat} {i : Nat} {x y : Rat} (h : xs[i]? = some x) (k : ys[i]? = some y) : (addQ xs ys)[i]? = some (x + y) := by
  unfold addQ
  rw [List.getElem?_zipWith, h, k]
theorem sg_same {a b s : Rat} (h0 : 0 ≤ s) (h1 : s ≤ 1) (e : sgQ a = sgQ b) : sgQ (a + s * (b - a)) = sgQ a := by
  have key : a + s * (b - a) = (1 - s) * a + s * b := by grind
  rw [key]
  by_cases a1 : 0 < a
  · rw [sgQ_pos a1] at e ⊢
    have b1 : 0 < b := by
      by_cases b1 : 0 < b
      · exact b1
      · unfold sgQ at e
        rw [if_neg b1] at e
        split at e <;> omega
    have h2 : 0 ≤ (1 - s) * a := Rat.mul_nonneg (by grind) (by grind)
    have h3 : 0 ≤ s * b := Rat.mul_nonneg h0 (by grind)
    refine sgQ_pos ?_
    by_cases hs : s = 0
    · subst hs
      grind
    · have : 0 < s * b := Rat.mul_pos (by grind) b1
      grind
  · by_cases a2 : a < 0
    · rw [sgQ_neg a2] at e ⊢
      have b1 : b < 0 := by
        by_cases b1 : b < 0
        · exact b1
        · unfold sgQ at e
          rw [if_neg b1] at e
          split at e <;> omega
      have h2 : 0 ≤ (1 - s) * (-a) := Rat.mul_nonneg (by grind) (by grind)
      have h3 : 0 ≤ s * (-b) := Rat.mul_nonneg h0 (by grind)
      refine sgQ_neg ?_
      by_cases hs : s = 0
      · subst hs
        grind
      · have : 0 < s * (-b) := Rat.mul_pos (by grind) (by grind)
        grind
    · have a0 : a = 0 := by grind
      subst a0
      have b0 : b = 0 := by
        rw [sgQ_zero] at e
        unfold sgQ at e
        split at e
        · omega
        · split at e
          · omega
          · grind
      subst b0
      have : (1 - s) * 0 + s * 0 = (0 : Rat) := by grind
      rw [this]
/-- moved there and back -/
theorem divU_raw1 (q : List Int × Int) : rawU q (q.2, 1) = q := by
  unfold rawU
  refine Prod.ext ?_ rfl
  show (q.1.map fun z => z * 1) = q.1
  have : (fun z : Int => z * 1) = id := funext fun z => Int.mul_one z
  rw [this, List.map_id]
theorem scU_inj {k : Int} (hk : k ≠ 0) {p q : List Int × Int} (e : scU k p = scU k q) : p = q := by
  have inj : ∀ {l m : List Int}, (l.map fun z => k * z) = (m.map fun z => k * z) → l = m := fun {l} => by
    induction l with
    | nil =>
      intro m h
      cases m with
      | nil => rfl
      | cons y t => cases h
    | cons z r ih =>
      intro m h
      cases m with
      | nil => cases h
      | cons y t =>
        rw [List.map_cons, List.map_cons] at h
        obtain ⟨h1, h2⟩ := List.cons.inj h
        rw [Int.eq_of_mul_eq_mul_left hk h1, ih h2]
  exact Prod.ext (inj (congrArg Prod.fst e)) (Int.eq_of_mul_eq_mul_left hk (congrArg Prod.snd e))
theorem mov_zero {q : List Int × Int} {us : List (Int × Int)} (h : ∀ u, u ∈ us → Lo u) (hz : dotQ q.1 (us.map qv) = 0) : movU q us = divU q := by
  have lo := shift_lo (q := q) h
  have vs := shift_qv (q := q) h
  rw [hz] at vs
  have : shiftU q us = (q.2, 1) := qv_inj lo ⟨Int.one_pos, by show Nat.gcd q.2.natAbs 1 = 1; exact Nat.gcd_one_right _⟩ (by rw [vs, qv_int]; grind)
  unfold movU
  rw [this, divU_raw1]
theorem mov_back {q : List Int × Int} {us vs : List (Int × Int)} (hq : NonZ q.1) (h : ∀ u, u ∈ us → Lo u) (k : ∀ u, u ∈ vs → Lo u) (e : dotQ q.1 (vs.map qv) = -dotQ q.1 (us.map qv)) : movU (movU q us) vs = divU q := by
  have lo := shift_lo (q := q) h
  have v1 := shift_qv (q := q) h
  have e1 : movU q us = divU (rawU q (shiftU q us)) := rfl
  generalize shiftU q us = r at *
  obtain ⟨g, g0, eg⟩ := raw_g hq lo.1
  rw [← e1] at eg
  have nm : NonZ (movU q us).1 := by rw [e1]; exact nonZ_div (raw_nz hq lo.1)
  generalize movU q us = p at *
  have lo2 := shift_lo (q := p) k
  have v2 := shift_qv (q := p) k
  have e2 : movU p vs = divU (rawU p (shiftU p vs)) := rfl
  generalize shiftU p vs = t at *
  rw [e2]
  have m1 := qv_mul lo.1
  have m2 := qv_mul lo2.1
  rw [v1] at m1
  rw [v2] at m2
  have gn := rne g0
  -- g times what p's sides come to
  have d1 := dot_sc g p.1 (vs.map qv)
  have s1 : (p.1.map fun z => g * z) = q.1.map fun z => z * r.2 := congrArg Prod.fst eg
  have w1 : g * p.2 = r.1 := congrArg Prod.snd eg
  have d2 := dot_sc r.2 q.1 (vs.map qv)
  have s2 : (q.1.map fun z => z * r.2) = q.1.map fun z => r.2 * z := List.map_congr_left fun z _ => Int.mul_comm _ _
  rw [s1, s2, d2, e] at d1
  have w2 : (g : Rat) * (p.2 : Rat) = (r.1 : Rat) := by rw [← Rat.intCast_mul, w1]
  refine divU_same (u := r.2 * t.2) (v := g) (Int.mul_pos lo.1 lo2.1) g0 (raw_nz nm lo2.1) hq (Prod.ext ?_ ?_)
  · show ((p.1.map fun z => z * t.2).map fun z => g * z) = q.1.map fun z => r.2 * t.2 * z
    have c1 : ((p.1.map fun z => z * t.2).map fun z => g * z) = (p.1.map fun z => g * z).map fun z => z * t.2 := by
      rw [List.map_map, List.map_map]
      exact List.map_congr_left fun z _ => by show g * (z * t.2) = g * z * t.2; rw [Int.mul_assoc]
    rw [c1, s1, List.map_map]
    exact List.map_congr_left fun z _ => by show z * r.2 * t.2 = r.2 * t.2 * z; grind
  · show g * t.1 = r.2 * t.2 * q.2
    refine Rat.intCast_inj.mp ?_
    rw [Rat.intCast_mul, Rat.intCast_mul, Rat.intCast_mul]
    grind
end SB
namespace SB
open PySem L2 GxR GA
/-! ### what the built-in names are -/
structure Blt (mg : Str → Option Value) : Prop where
  len : mg "len" = none
  int : mg "int" = none
  isi : mg "isinstance" = none
  tup : mg "tuple" = none
  lst : mg "list" = none
  str : mg "str" = none
  bool : mg "bool" = none
  rng : mg "range" = none
  abs : mg "abs" = none
  max : mg "max" = none
  min : mg "min" = none
  any : mg "any" = none
  all : mg "all" = none
  zip : mg "zip" = none
  gcd : mg "gcd" = some (.builtin "math.gcd")
theorem bootTup : bootBuiltins "tuple" = some (.type "tuple") := by decide +kernel
theorem bootLst : bootBuiltins "list" = some (.type "list") := by decide +kernel
theorem bootStr : bootBuiltins "str" = some (.type "str") := by decide +kernel
theorem bootBool : bootBuiltins "bool" = some (.type "bool") := by decide +kernel
theorem bootAll : bootBuiltins "all" = some (.builtin "all") := by decide +kernel
theorem bootAny : bootBuiltins "any" = some (.builtin "any") := by decide +kernel
theorem kTL {K : PySem.W.Frag} {T : String} {b1 b2 : Bool} (h1 : kitB T "tuple" = some b1) (h2 : kitB T "list" = some b2) : PySem.W.kitAny K (.type T) [.type "tuple", .type "list"] = some (b1 || b2) := by
  cases b1 with
  | true => exact kitAny_cons (kit_ty h1) (fun z => nomatch z) (fun _ => rfl)
  | false =>
    cases b2 with
    | true => exact kitAny_cons (kit_ty h1) (fun _ => kitAny_cons (kit_ty h2) (fun z => nomatch z) (fun _ => rfl)) (fun z => nomatch z)
    | false => exact kitAny_cons (kit_ty h1) (fun _ => kitAny_cons (kit_ty h2) (fun _ => kitAny_nil) (fun z => nomatch z)) (fun z => nomatch z)
theorem clsTL : Paired ClsV [.ty "tuple", .ty "list"] [.type "tuple", .type "list"] := .cons (.ty _) (.cons (.ty _) .nil)
theorem szN {n : Nat} (h : n ≤ 1000000) : n ≤ sizeLine := Nat.le_trans h (by decide)
theorem iteP {p A B : Prop} [Decidable p] (h : p) (a : A) : if decide p = true then A else B := by
  rw [decide_eq_true h]
  exact iteT a
theorem iteN {p A B : Prop} [Decidable p] (h : ¬ p) (b : B) : if decide p = true then A else B := by
  rw [decide_eq_false h]
  exact iteF b
theorem qd {Q : VK} {H : Hp} {x y : V} (e : x = y) (q : Q (.bl true) H) : Q (.bl (decide (x = y))) H := by
  rw [decide_eq_true e]
  exact q
theorem qe {Q : VK} {H : Hp} {b c : Bool} (e : b = c) (q : Q (.bl c) H) : Q (.bl b) H := by
  rw [e]
  exact q
theorem len_rng {n : Nat} (h : n ≤ sizeLine) : -(2 ^ 62) ≤ ((n : Nat) : Int) ∧ ((n : Nat) : Int) < 2 ^ 62 := by
  have e : sizeLine = 16777216 := sizeLine_eq
  omega
/-! ### never reached -/
theorem pe_no {X : Cx} {e : Expr} : PE X e (fun _ _ _ => False) := ⟨fun _ _ _ _ _ _ h => h.elim⟩
theorem ps_no {X : Cx} {st : Stmt} : PS X st (fun _ _ _ => False) := ⟨fun _ _ _ _ _ _ h => h.elim⟩
theorem pss_no {X : Cx} {st : List Stmt} : PSs X st (fun _ _ _ => False) := ⟨fun _ _ _ _ _ _ h => h.elim⟩
/-! ### how the heap grows: all that was tracked is as it was, tables may be longer -/
structure Gr (H H' : Hp) : Prop where
  keep : ∀ b o, (∀ ps, o ≠ .tbl ps) → H b = some o → H' b = some o
  tab : ∀ P, TabG H P → TabG H' P
/-- .. but what stands at d -/
structure GrD (d : Addr) (H H' : Hp) : Prop where
  keep : ∀ b o, b ≠ d → (∀ ps, o ≠ .tbl ps) → H b = some o → H' b = some o
  tab : ∀ P, P ≠ d → TabG H P → TabG H' P
theorem Gr.refl (H : Hp) : Gr H H := ⟨fun _ _ _ e => e, fun _ h => h⟩
theorem Gr.trans {H H1 H2 : Hp} (a : Gr H H1) (b : Gr H1 H2) : Gr H H2 := ⟨fun c o n e => b.keep c o n (a.keep c o n e), fun P h => b.tab P (a.tab P h)⟩
theorem Gr.new {H H1 : Hp} {p : Addr} (a : Gr H H1) (h : H1 p = none) (o : HO) : Gr H (upd H1 p o) := by
  refine ⟨fun b u n e => ?_, fun P t => ?_⟩
  · have e1 := a.keep b u n e
    rw [upd_ne (ne_of_none e1 h)]
    exact e1
  · obtain ⟨ps, e1, t1⟩ := a.tab P t
    exact ⟨ps, by rw [upd_ne (ne_of_none e1 h)]; exact e1, t1⟩
theorem Gr.tabbed {H H1 H2 : Hp} {P : Addr} (a : Gr H H1) (hP : TabG H1 P) (h : Tabbed P H1 H2) : Gr H H2 := by
  refine ⟨fun b u n e => ?_, fun Q t => ?_⟩
  · have e1 := a.keep b u n e
    rw [h.2 b fun z => ?_]
    · exact e1
    · obtain ⟨ps, e2, _⟩ := hP
      rw [z, e2] at e1
      exact n ps (Option.some.inj e1).symm
  · by_cases z : Q = P
    · rw [z]
      exact h.1
    · obtain ⟨ps, e1, t1⟩ := a.tab Q t
      exact ⟨ps, by rw [h.2 Q z]; exact e1, t1⟩
theorem Gr.d {H H' : Hp} (a : Gr H H') (d : Addr) : GrD d H H' := ⟨fun b o _ n e => a.keep b o n e, fun P _ h => a.tab P h⟩
theorem GrD.refl (d : Addr) (H : Hp) : GrD d H H := (Gr.refl H).d d
theorem GrD.trans {d : Addr} {H H1 H2 : Hp} (a : GrD d H H1) (b : GrD d H1 H2) : GrD d H H2 := ⟨fun c o z n e => b.keep c o z n (a.keep c o z n e), fun P z h => b.tab P z (a.tab P z h)⟩
theorem GrD.gr {d : Addr} {H H1 H2 : Hp} (a : GrD d H H1) (b : Gr H1 H2) : GrD d H H2 := a.trans (b.d d)
theorem GrD.set {d : Addr} {H H1 : Hp} (a : GrD d H H1) (o : HO) : GrD d H (upd H1 d o) := ⟨fun c u z n e => by rw [upd_ne z]; exact a.keep c u z n e, fun P z h => by
  obtain ⟨ps, e, t⟩ := a.tab P z h
  exact ⟨ps, by rw [upd_ne z]; exact e, t⟩⟩
theorem Gr.seqT {K : PySem.W.Frag} {H H' : Hp} {a : Addr} {xs : List V} (e : Gr H H') (h : SqT K H a xs) : SqT K H' a xs := by
  rcases h with (h | ⟨o, h⟩) | h
  · exact .inl (.inl (e.keep _ _ (fun _ z => nomatch z) h))
  · exact .inl (.inr ⟨o, e.keep _ _ (fun _ z => nomatch z) h⟩)
  · exact .inr h
theorem Gr.seqL {K : PySem.W.Frag} {H H' : Hp} {a : Addr} {xs : List V} (e : Gr H H') (h : SqL K H a xs) : SqL K H' a xs := by
  rcases h with (h | ⟨o, h⟩) | h
  · exact .inl (.inl (e.keep _ _ (fun _ z => nomatch z) h))
  · exact .inl (.inr ⟨o, e.keep _ _ (fun _ z => nomatch z) h⟩)
  · exact .inr h
/-- the deck is a list: no tuple stands there -/
theorem GrD.seqT {K : PySem.W.Frag} {d : Addr} {H H' : Hp} {a : Addr} {xs ys : List V} (e : GrD d H H') (hd : H d = some (.lst ys)) (h : SqT K H a xs) : SqT K H' a xs := by
  rcases h with (h | ⟨o, h⟩) | h
  · exact .inl (.inl (e.keep _ _ (ne_of h hd (fun z => nomatch z)) (fun _ z => nomatch z) h))
  · exact .inl (.inr ⟨o, e.keep _ _ (ne_of h hd (fun z => nomatch z)) (fun _ z => nomatch z) h⟩)
  · exact .inr h
/-- tables there -/
def Tbs (ts : List Addr) (H : Hp) : Prop := ∀ P ∈ ts, TabG H P
theorem Tbs.gr {ts : List Addr} {H H' : Hp} (t : Tbs ts H) (g : Gr H H') : Tbs ts H' := fun P h => g.tab P (t P h)
/-! ### kinds of values -/
def scB : V → Bool
  | .non => true
  | .bl _ => true
  | .int _ => true
  | .str _ => true
  | _ => false
def isInt : V → Bool
  | .int _ => true
  | _ => false
theorem tyL {K : PySem.W.Frag} {H : Hp} {a : Addr} {xs : List V} (h : SqL K H a xs) : TyX K H (.ref a) (.type "list") := by
  rcases h with (h | ⟨o, h⟩) | ⟨o, its, n, h, c, _⟩
  · exact .base (.lst h)
  · exact .base (.frz h)
  · exact .kList h c
theorem tyT {K : PySem.W.Frag} {H : Hp} {a : Addr} {xs : List V} (h : SqT K H a xs) : TyX K H (.ref a) (.type "tuple") := by
  rcases h with (h | ⟨o, h⟩) | ⟨o, its, n, h, c, _⟩
  · exact .base (.tup h)
  · exact .fTuple h
  · exact .kTuple h c
/-- the types that are looked at, of a known value -/
inductive Kn (K : PySem.W.Frag) (H : Hp) : V → String → Prop where
  | non : Kn K H .non "NoneType"
  | bl (b : Bool) : Kn K H (.bl b) "bool"
  | int (i : Int) : Kn K H (.int i) "int"
  | str (x : Str) : Kn K H (.str x) "str"
  | lst {a : Addr} {xs : List V} (h : SqL K H a xs) : Kn K H (.ref a) "list"
  | tup {a : Addr} {xs : List V} (h : SqT K H a xs) : Kn K H (.ref a) "tuple"
theorem Kn.ty {K : PySem.W.Frag} {H : Hp} {x : V} {t : String} (k : Kn K H x t) : TyX K H x (.type t) := by
  cases k with
  | non => exact .base .non
  | bl b => exact .base (.bl b)
  | int i => exact .base (.int i)
  | str x => exact .base (.str x)
  | lst h => exact tyL h
  | tup h => exact tyT h
/-! ### any(..) of a tuple, a list of ints -/
section
variable {X : Cx}
theorem truth_ints {prog : Program} {w : World} {A : Around} {ns : List Int} {its : List Value} (e : Vals (ns.map V.int) its) :
    PySem.TruthOf prog w A (fun i v => its.toArray[i]? = some v) (fun i => (ns.map fun z => decide (z ≠ 0)).getD i false) := fun i v s Q E hv hq => by
  have hv' : its[i]? = some v := by simpa using hv
  have hl := Vals.length e
  rw [List.length_map] at hl
  have hi : i < ns.length := by
    have := (List.getElem?_eq_some_iff.mp hv').1
    omega
  obtain ⟨u, hu, ru⟩ := Vals.get e (i := i) (x := .int ns[i]) (by rw [List.getElem?_map, List.getElem?_eq_getElem hi] <;> rfl)
  rw [hv'] at hu
  obtain ⟨t, et⟩ := ru
  cases hu
  subst et
  have hg : (ns.map fun z => decide (z ≠ 0)).getD i false = decide (ns[i] ≠ 0) := by
    rw [List.getD_eq_getElem?_getD, List.getElem?_map, List.getElem?_eq_getElem hi] <;> rfl
  have hq : Q ((ns.map fun z => decide (z ≠ 0)).getD i false) s := hq
  rw [hg] at hq
  refine PySem.P.truthy_int ?_
  first
    | exact hq
    | (have e2 : (ns[i] != 0) = decide (ns[i] ≠ 0) := by rw [bne, Bool.eq_iff_iff]; simp
       rw [e2]; exact hq)
theorem any_ints : ∀ ns : List Int, (List.range ns.length).any (fun i => (ns.map fun z => decide (z ≠ 0)).getD i false) = ns.any fun z => decide (z ≠ 0) := fun ns => by
  have h := any_range (ns.map fun z => decide (z ≠ 0))
  rw [List.length_map, List.any_map] at h
  exact h
def rAnyT (K : PySem.W.Frag) : List V → Hp → VK → Prop := fun vs H Q => ∃ (a : Addr) (ns : List Int), vs = [V.ref a] ∧ SqT K H a (ns.map V.int) ∧ Q (.bl (ns.any fun z => decide (z ≠ 0))) H
theorem cr_anyT (hc : X.calm = true) : CallR X (.builtin "any") (rAnyT X.K) := by
  intro pins s σ H vs us Q I r h
  obtain ⟨a, ns, rfl, hs, q⟩ := h
  obtain ⟨its, rv, hl, _⟩ := I.tuple hs
  rw [Vals.ref1 r]
  have hlt : a < s.heap.objs.size := by obtain ⟨_, e, _⟩ := hl; exact Heap.lt_size e
  refine PySem.call_any_walk (PySem.wpAny_pyIter_tuple (show s.heap.IsTuple a its.toArray from hl) ?_)
  refine ⟨_, _, _, _, _, _, _, rfl, PySem.Walks.tuple (A := X.A.in1) (I.ok.hd hc) _ a (Nat.ne_of_lt hlt) its.toArray, ⟨⟨_, Heap.get?_push_size _ rfl, rfl, rfl⟩, (show s.heap.IsTuple a its.toArray from hl).push _⟩, truth_ints rv, fun h' tk hk => ?_⟩
  refine ⟨.bl _, H, I.kept fun b o eo => hk b o (fun hmem => ?_) (Heap.get?_push_of_some _ eo), ?_, q⟩
  · rcases List.mem_cons.mp hmem with e1 | hmem
    · exact absurd (e1 ▸ Heap.lt_size eo) (Nat.lt_irrefl _)
    · cases hmem
  · show Value.bool _ = Value.bool _
    have hl2 := Vals.length rv
    rw [List.length_map] at hl2
    rw [← any_ints, List.size_toArray, hl2]
end
/-! ### a def whose code object is known, with its table -/
structure FunT (K : PySem.W.Frag) (x : Str) (st : Stmt) (f : Addr) (fd : FuncData) (c : Addr) : Prop where
  ex : ∃ (oc : Value) (od : Option Addr) (kV doc pm : Value) (an : Option Addr) (ct : Value) (osl : Array (Option Value)),
    fd = PySem.W.fnOf x x (defArgs st) (defBody st) (defScope st) .none kV doc pm an (.ref c) ct ∧ K.lookup f = some ⟨oc, od, .func fd, osl⟩ ∧ PySem.W.codeIn K (.ref c) x = true
  kp : PySem.W.keepIn K (.ref f) = true
theorem FunT.fn {K : PySem.W.Frag} {x : Str} {st : Stmt} {f : Addr} {fd : FuncData} {c : Addr} (F : FunT K x st f fd c) : Fun K x x st f fd := by
  obtain ⟨oc, od, kV, doc, pm, an, ct, osl, h1, h2, h3⟩ := F.ex
  exact ⟨⟨oc, od, kV, doc, pm, an, _, ct, osl, h1, h2, h3⟩, F.kp⟩
theorem FunT.ok {P : Program} {w : World} {K : PySem.W.Frag} {mg : Str → Option Value} {base : Heap} {x : Str} {st : Stmt} {f : Addr} {fd : FuncData} {c : Addr} {N ps : List Str} {k : Nat} {sp : Sp} (F : FunT K x st f fd c) (S : FnScope N ps (defScope st)) (len : ∀ vs H Q E, sp vs H Q E → vs.length = ps.length)
    (hbody : ∀ (A : Around) (outer : List Env) (s : Shared) (H : Hp) (vs : List V) (Q : VK) (E : XK), Room k (A.deeper (PyProof.Rows.envOfC x (defScope st) s.heap.objs.size f (.ref c))) → sp vs H Q E →
      ∃ t, PSs (cxOf CX0 P w K mg base N x (defScope st) f (.ref c) A outer s H E).nox (defBody st) t ∧ t { nx := fun _ H' => Q .non H', rt := Q } (start N vs) H) : FnOk P w K mg base CX0 (k + 1) f fd ps sp := by
  obtain ⟨oc, od, kV, doc, pm, an, ct, osl, rfl, lk, hcd⟩ := F.ex
  refine fn_of lk hcd S len fun A outer s H vs Q E hr hsp => ?_
  obtain ⟨t, h, q⟩ := hbody A outer s H vs Q E hr hsp
  exact ⟨t, h.nox, q⟩
/-- a look at the names of a generator expression -/
def genC (N : List Str) (sc scope : Scope) (own : List (Str × Nat)) : Bool :=
  blkC N sc scope own && !scope.isCoroutine && scope.names.all (fun y => !decide (y.2 = .cell)) && decide (scope.names.lookup (".0" : Str) = some NameKind.local)
theorem genOk_by {N : List Str} {sc scope : Scope} {own : List (Str × Nat)} (h : genC N sc scope own = true) : GenOk N sc scope own := by
  unfold genC at h
  simp only [Bool.and_eq_true, Bool.not_eq_true', decide_eq_true_eq, List.all_eq_true, decide_eq_false_iff_not] at h
  obtain ⟨⟨⟨h1, h2⟩, h3⟩, h4⟩ := h
  exact { toBlkOk := blkOk_by h1, co := h2, cell := h3, dot := h4 }
theorem Room.gen {k : Nat} {X : Cx} {cenv : Env} (r : Room (k + 1) X.A) : Room k (arG X cenv) :=
  ⟨r.hd, by have := r.dp; show X.A.depth + 1 + 3 * k + 5 < _; omega, by have := r.un; show X.A.units + 1 + 1 + 3 + 16 * k + 200 < _; omega⟩
/-- a walk over a tuple, each item told (p: what is known of an item that was true) -/
theorem plan_tup {K : PySem.W.Frag} {a : Addr} {xs : List V} {g : TG} {te : TE} {σ0 : L2.St} {vs : List Nat} {QT QF : Hp → Prop} {H2 : Hp} (p : Nat → Prop) (hS : SqT K H2 a xs)
    (step : ∀ i x H, xs[i]? = some x → Gr H2 H → g x σ0 H fun σ2 H3 => wipe σ2 vs = σ0 ∧ te σ2 H3 fun y H4 => ∃ b, y = .bl b ∧ (if b = true then Gr H2 H4 ∧ p i else QF H4))
    (fin : ∀ H, Gr H2 H → (∀ i, i < xs.length → p i) → QT H) : ∃ W : Nat → Nat → Hp → Prop, (∃ m, W 0 m H2) ∧ Plan (Itt K a) g tYes te σ0 vs QT QF W := by
  refine ⟨fun i m H => Gr H2 H ∧ i + m = xs.length ∧ ∀ j, j < i → p j, ⟨xs.length, Gr.refl _, Nat.zero_add _, fun j hj => absurd hj (Nat.not_lt_zero _)⟩, fun i m H w => ?_⟩
  obtain ⟨gr, hm, hp⟩ := w
  have hSi := gr.seqT hS
  cases m with
  | zero => exact .inl ⟨⟨xs, hSi, by omega⟩, fin H gr fun j hj => hp j (by omega)⟩
  | succ m =>
    have hi : i < xs.length := by omega
    refine .inr ⟨⟨xs, xs[i], hSi, List.getElem?_eq_getElem hi⟩, fun H' => Gr H2 H' ∧ p i, fun H' h => ⟨m, Nat.lt_succ_self _, h.1, by omega, fun j hj => ?_⟩, fun x H' hy => ?_⟩
    · by_cases e : j = i
      · rw [e]
        exact h.2
      · exact hp j (by omega)
    · obtain ⟨rfl, hx⟩ := hy
      have ex := step i x H' (hx xs hSi) gr
      exact ex
end SB
namespace SB
open PySem L2 GxR GA
/-! ### short rules -/
section
variable {X : Cx} {e e2 : Expr} {te te2 : TE} {p p1 p2 pos : Pos}
def tMo (te : TE) : TE := fun σ H Q => ∃ K2 : VK, te σ H K2 ∧ ∀ x H1, K2 x H1 → Q x H1
theorem pe_mo (he : PE X e te) : PE X e (tMo te) := ⟨fun pins s σ H Q I ⟨K2, w, m⟩ => thn (he.run pins s σ H K2 I w) fun v s1 ⟨x, H1, I1, r1, q1⟩ => ⟨x, H1, I1, r1, m _ _ q1⟩⟩
theorem pe_imp {te' : TE} (he : PE X e te) (i : ∀ σ H Q, te' σ H Q → te σ H Q) : PE X e te' := ⟨fun pins s σ H Q I w => he.run pins s σ H Q I (i _ _ _ w)⟩
/-- isinstance(e, T) -/
def tIsi (K : PySem.W.Frag) (te : TE) (T : String) : TE := fun σ H Q => te σ H fun x H1 => ∃ t b, Kn K H1 x t ∧ kitB t T = some b ∧ Q (.bl b) H1
theorem pe_isi {x : Str} (T : String) (he : PE X e te) (hb : bootBuiltins x = some (.type T)) (hm : X.mg x = none) (hi : X.mg "isinstance" = none) (hg : Gl X "isinstance" := by rfl) (hgx : Gl X x := by rfl) (hn : x ≠ "__name__" := by decide) (hd : (x == ("__debug__" : Str)) = false := by decide)
    (hst : starEach [e, .Name x p1] X.env = (false, eval e X.env) :: starEach [.Name x p1] X.env := by rfl) (hst2 : starEach [.Name x p1] X.env = (false, eval (.Name x p1) X.env) :: starEach [] X.env := by rfl) (hpl : (backTo pos (starEach [.Name x p1] X.env)).any (·.1) = false := by rfl) :
    PE X (.Call (.Name "isinstance" p) [e, .Name x p1] [] pos) (tIsi X.K te T) :=
  pe_imp (pe_callB (X := X) (p := p) (pos := pos) call_isi hg hi PyProof.Rows.boot_isinstance (pa_cons (pe_mo he) (pa_cons (pe_bltn (v := .ty T) (pos := p1) hgx hm hb rfl hn hd) pa_nil hst2) hst) (by decide) (by decide) hst hpl)
    fun σ H Q w => ⟨_, w, fun x H1 ⟨t, b, k, kb, q⟩ => ⟨x, .ty T, .type t, .type T, b, rfl, .ty _, k.ty, kit_ty kb, q⟩⟩
/-- len(e) of a tuple, a list -/
def tLen (K : PySem.W.Frag) (te : TE) : TE := fun σ H Q => te σ H fun x H1 => ∃ a xs, x = .ref a ∧ (SqL K H1 a xs ∨ SqT K H1 a xs) ∧ Q (.int ((xs.length : Nat) : Int)) H1
theorem pe_len (he : PE X e te) (hm : X.mg "len" = none) (hg : Gl X "len" := by rfl) (hst : starEach [e] X.env = (false, eval e X.env) :: starEach [] X.env := by rfl) (hpl : (backTo pos (starEach [] X.env)).any (·.1) = false := by rfl) :
    PE X (.Call (.Name "len" p) [e] [] pos) (tLen X.K te) :=
  pe_imp (pe_callB (X := X) (p := p) (pos := pos) call_len_seq hg hm PySem.boot_len (pa_cons (pe_mo he) pa_nil hst) (by decide) (by decide) hst hpl)
    fun σ H Q w => ⟨_, w, fun x H1 ⟨a, xs, ex, k, q⟩ => ⟨a, xs, by rw [ex], k, q⟩⟩
/-- e[k] of a tuple, k written or known -/
def tAt (K : PySem.W.Frag) (te ti : TE) : TE := fun σ H Q => te σ H fun x H1 => ti σ H1 fun y H2 => ∃ a xs i v, x = .ref a ∧ y = .int i ∧ (SqL K H2 a xs ∨ SqT K H2 a xs) ∧ atI xs i = some v ∧ Q v H2
/-- gcd(a, b) -/
def tGcd (ta tb : TE) : TE := fun σ H Q => ta σ H fun x H1 => tb σ H1 fun y H2 => ∃ i j : Int, x = .int i ∧ y = .int j ∧ Q (.int ((Nat.gcd i.natAbs j.natAbs : Nat) : Int)) H2
def tMo2 (ta tb : TE) : TA := fun σ H Q => ta σ H fun x H1 => tb σ H1 fun y H2 => Q [x, y] H2
end
/-! ### a def that may be called by its name -/
structure Cl (P : Program) (w : World) (K : PySem.W.Frag) (mg : Str → Option Value) (base : Heap) (k : Nat) (x : Str) (ps : List Str) (sp : Sp) : Prop where
  ex : ∃ (f : Addr) (fd : FuncData), FnOk P w K mg base CX0 k f fd ps sp ∧ mg x = some (.ref f) ∧ PySem.W.keepIn K (.ref f) = true ∧ Binds K fd ps []
  lk : ∀ f : Addr, mg x = some (.ref f) → ∃ (fd : FuncData), FnOk P w K mg base CX0 k f fd ps sp ∧ ∃ (oc : Value) (od : Option Addr) (osl : Array (Option Value)), K.lookup f = some ⟨oc, od, .func fd, osl⟩
theorem pe_cl {X : Cx} {k : Nat} {x : Str} {ps : List Str} {sp : Sp} {p pos : Pos} {e : Expr} {es : List Expr} {t : TA} (c : Cl X.prog X.w X.K X.mg X.base k x ps sp) (hr : Room k X.A) (ha : PA X (e :: es) t) (hg : Gl X x := by rfl) (hdb : (x == ("__debug__" : Str)) = false := by decide)
    (he : starEach (e :: es) X.env = (false, eval e X.env) :: starEach es X.env := by rfl) (hpl : (backTo pos (starEach es X.env)).any (·.1) = false := by rfl) :
    PE X (.Call (.Name x p) (e :: es) [] pos) (tCall sp [] E0 t) := by
  obtain ⟨f, fd, F, hm, hk, hb⟩ := c.ex
  exact pe_call F hr hg hm hk hb .nil pass0 ha hdb he hpl
theorem Cl.mono {P : Program} {w : World} {K : PySem.W.Frag} {mg : Str → Option Value} {base : Heap} {j k : Nat} {x : Str} {ps : List Str} {sp : Sp} (c : Cl P w K mg base j x ps sp) (h : j ≤ k) : Cl P w K mg base k x ps sp := by
  obtain ⟨f, fd, F, r⟩ := c.ex
  exact ⟨⟨f, fd, F.mono h, r⟩, fun g hg => let ⟨gd, G, z⟩ := c.lk g hg; ⟨gd, G.mono h, z⟩⟩
theorem fn_imp {P : Program} {w : World} {K : PySem.W.Frag} {mg : Str → Option Value} {base : Heap} {CX : CXT} {k : Nat} {f : Addr} {fd : FuncData} {ps : List Str} {sp sp2 : Sp} (F : FnOk P w K mg base CX k f fd ps sp) (i : ∀ vs H Q E, sp2 vs H Q E → sp vs H Q E) : FnOk P w K mg base CX k f fd ps sp2 :=
  ⟨fun vs H Q E h => F.len vs H Q E (i _ _ _ _ h), fun A outer s H args us vs Q E hr e b r h => F.run A outer s H args us vs Q E hr e b r (i _ _ _ _ h)⟩
/-- a promise that asks more -/
theorem Cl.imp {P : Program} {w : World} {K : PySem.W.Frag} {mg : Str → Option Value} {base : Heap} {k : Nat} {x : Str} {ps : List Str} {sp sp2 : Sp} (c : Cl P w K mg base k x ps sp) (i : ∀ vs H Q E, sp2 vs H Q E → sp vs H Q E) : Cl P w K mg base k x ps sp2 := by
  obtain ⟨f, fd, F, r⟩ := c.ex
  exact ⟨⟨f, fd, fn_imp F i, r⟩, fun g hg => let ⟨gd, G, z⟩ := c.lk g hg; ⟨gd, fn_imp G i, z⟩⟩
/-- a def of the text, under its name -/
structure Df (K : PySem.W.Frag) (mg : Str → Option Value) (x : Str) (st : Stmt) : Prop where
  ex : ∃ (f : Addr) (fd : FuncData), Fun K x x st f fd ∧ mg x = some (.ref f)
/-- .. with its code object at c -/
structure DfT (K : PySem.W.Frag) (mg : Str → Option Value) (x : Str) (st : Stmt) (c : Addr) : Prop where
  ex : ∃ (f : Addr) (fd : FuncData), FunT K x st f fd c ∧ mg x = some (.ref f)
section
variable {P : Program} {w : World} {K : PySem.W.Frag} {mg : Str → Option Value} {base : Heap} {k : Nat} {x : Str} {st : Stmt} {ps : List Str} {sp : Sp} {c : Addr}
theorem Df.cl (D : Df K mg x st) (hb : ∀ (kV doc pm : Value) (an : Option Addr) (cdv ct : Value) (us : List Value), us.length = ps.length → bindArgs (PySem.W.fnOf x x (defArgs st) (defBody st) (defScope st) .none kV doc pm an cdv ct) ⟨us, []⟩ = pure (ps.zip us))
    (h : ∀ f fd, Fun K x x st f fd → FnOk P w K mg base CX0 k f fd ps sp) : Cl P w K mg base k x ps sp := by
  obtain ⟨f, fd, F, m⟩ := D.ex
  obtain ⟨oc, od, kV, doc, pm, an, cdv, ct, osl, e, lk, hcd⟩ := F.ex
  exact ⟨⟨f, fd, h f fd F, m, F.kp, F.binds hb⟩, fun g hg => by
    rw [m] at hg
    cases hg
    exact ⟨fd, h f fd F, oc, od, osl, lk⟩⟩
theorem DfT.cl (D : DfT K mg x st c) (hb : ∀ (kV doc pm : Value) (an : Option Addr) (cdv ct : Value) (us : List Value), us.length = ps.length → bindArgs (PySem.W.fnOf x x (defArgs st) (defBody st) (defScope st) .none kV doc pm an cdv ct) ⟨us, []⟩ = pure (ps.zip us))
    (h : ∀ f fd, FunT K x st f fd c → FnOk P w K mg base CX0 k f fd ps sp) : Cl P w K mg base k x ps sp := by
  obtain ⟨f, fd, F, m⟩ := D.ex
  obtain ⟨oc, od, kV, doc, pm, an, ct, osl, e, lk, hcd⟩ := F.ex
  exact ⟨⟨f, fd, h f fd F, m, F.kp, F.fn.binds hb⟩, fun g hg => by
    rw [m] at hg
    cases hg
    exact ⟨fd, h f fd F, oc, od, osl, lk⟩⟩
end
/-! ### the things -/
/-- a number: its top and bottom -/
def NuV (K : PySem.W.Frag) (H : Hp) (x : V) (q : Int × Int) : Prop := ∃ a, x = .ref a ∧ SqT K H a [.int q.1, .int q.2]
def PtV (K : PySem.W.Frag) (H : Hp) (x : V) (us : List (Int × Int)) : Prop := ∃ a xs, x = .ref a ∧ SqT K H a xs ∧ Paired (NuV K H) xs us
def SiV (K : PySem.W.Frag) (H : Hp) (x : V) (ns : List Int) : Prop := ∃ a, x = .ref a ∧ SqT K H a (ns.map V.int)
/-- a question: its sides, its wall -/
def QuV (K : PySem.W.Frag) (H : Hp) (x : V) (q : List Int × Int) : Prop := ∃ a s, x = .ref a ∧ SqT K H a [s, .int q.2] ∧ SiV K H s q.1
/-- a book -/
def BkV (K : PySem.W.Frag) (H : Hp) (x : V) (d : Nat) (qs : List (List Int × Int)) : Prop := ∃ a b xs, x = .ref a ∧ SqT K H a [.int d, .ref b] ∧ SqT K H b xs ∧ Paired (QuV K H) xs qs
section
variable {K : PySem.W.Frag} {H H' : Hp} {x : V}
theorem NuV.gr {q : Int × Int} (h : NuV K H x q) (g : Gr H H') : NuV K H' x q := let ⟨a, e, s⟩ := h; ⟨a, e, g.seqT s⟩
theorem PtV.gr {q : List (Int × Int)} (h : PtV K H x q) (g : Gr H H') : PtV K H' x q := let ⟨a, xs, e, s, p⟩ := h; ⟨a, xs, e, g.seqT s, Paired.mapP p fun _ _ z => NuV.gr z g⟩
theorem SiV.gr {q : List Int} (h : SiV K H x q) (g : Gr H H') : SiV K H' x q := let ⟨a, e, s⟩ := h; ⟨a, e, g.seqT s⟩
theorem QuV.gr {q : List Int × Int} (h : QuV K H x q) (g : Gr H H') : QuV K H' x q := let ⟨a, t, e, s, z⟩ := h; ⟨a, t, e, g.seqT s, z.gr g⟩
theorem BkV.gr {d : Nat} {q : List (List Int × Int)} (h : BkV K H x d q) (g : Gr H H') : BkV K H' x d q := let ⟨a, b, xs, e, s, t, p⟩ := h; ⟨a, b, xs, e, g.seqT s, g.seqT t, Paired.mapP p fun _ _ z => QuV.gr z g⟩
/-- its items fit the length of a line (what the heap's own facts give) -/
theorem paired_len {α β : Type} {F : α → β → Prop} {xs : List α} {ys : List β} (h : Paired F xs ys) : xs.length = ys.length := Paired.length h
theorem paired_get {α β : Type} {F : α → β → Prop} : ∀ {xs : List α} {ys : List β}, Paired F xs ys → ∀ {i : Nat} {x : α}, xs[i]? = some x → ∃ y, ys[i]? = some y ∧ F x y
  | _, _, .nil, i, x, e => by simp at e
  | _, _, .cons r _, 0, x, e => by simp at e; subst e; exact ⟨_, rfl, r⟩
  | _, _, .cons _ t, i + 1, x, e => by
    obtain ⟨y, h1, h2⟩ := paired_get t (i := i) (x := x) (by simpa using e)
    exact ⟨y, by simpa using h1, h2⟩
end
/-! ### is_whole -/
def spWhole (K : PySem.W.Frag) : Sp := fun vs H Q _ => ∃ x t, vs = [x] ∧ Kn K H x t ∧ Q (.bl (isInt x)) H
section
variable {P : Program} {w : World} {K : PySem.W.Frag} {mg : Str → Option Value} {base : Heap}
theorem sc_whole : FnScope ["told"] ["told"] (defScope s_is_whole) := ⟨rfl, rfl, rfl, by decide +kernel, rfl, by decide +kernel, by decide +kernel⟩
theorem cl_whole (D : Df K mg "is_whole" s_is_whole) (B : Blt mg) : Cl P w K mg base 1 "is_whole" ["told"] (spWhole K) := by
  refine D.cl (fun _ _ _ _ _ _ us hl => match us, hl with | [_], _ => rfl) fun f fd F => F.ok sc_whole (fun vs H Q E h => ?_) (fun cdv A outer s H vs Q E hr h => ?_)
  · obtain ⟨x, t, rfl, _⟩ := h
    rfl
  obtain ⟨x, t, rfl, k, q⟩ := h
  refine ⟨_, pss_one (ps_ret (pe_and (pe_isi "int" (pv 0) PyProof.Rows.boot_int B.int B.isi) (pe_one (pe_not (pe_isi "bool" (pv 0) bootBool B.bool B.isi))))), ?_⟩
  cases k with
  | non => exact ⟨_, rfl, _, false, .non, by decide +kernel, _, rfl, iteF q⟩
  | bl b => exact ⟨_, rfl, _, true, .bl b, by decide +kernel, _, rfl, iteT ⟨_, rfl, _, true, .bl b, by decide +kernel, _, rfl, q⟩⟩
  | int i => exact ⟨_, rfl, _, true, .int i, by decide +kernel, _, rfl, iteT ⟨_, rfl, _, false, .int i, by decide +kernel, _, rfl, q⟩⟩
  | str z => exact ⟨_, rfl, _, false, .str z, by decide +kernel, _, rfl, iteF q⟩
  | lst h => exact ⟨_, rfl, _, false, .lst h, by decide +kernel, _, rfl, iteF q⟩
  | tup h => exact ⟨_, rfl, _, false, .tup h, by decide +kernel, _, rfl, iteF q⟩
end
end SB
namespace SB
open PySem L2 GxR GA
section
variable {P : Program} {w : World} {K : PySem.W.Frag} {mg : Str → Option Value} {base : Heap}
theorem kTT : kitB "tuple" "tuple" = some true := by decide +kernel
def spNumber (K : PySem.W.Frag) : Sp := fun vs H Q _ => ∃ x q, vs = [x] ∧ NuV K H x q ∧ Lo q ∧ Q (.bl true) H
theorem at_ {α : Type} {xs : List α} {i : Nat} (h : i < xs.length) : xs[i]? = some xs[i] := List.getElem?_eq_getElem h
/-! ### are_numbers, is_point -/
def spNumbers (K : PySem.W.Frag) : Sp := fun vs H Q _ => ∃ a xs us, vs = [.ref a] ∧ SqT K H a xs ∧ Paired (NuV K H) xs us ∧ (∀ q, q ∈ us → Lo q) ∧ Q (.bl true) H
def spPoint (K : PySem.W.Frag) : Sp := fun vs H Q _ => ∃ x us, vs = [x] ∧ PtV K H x us ∧ us ≠ [] ∧ (∀ q, q ∈ us → Lo q) ∧ ∀ H', Gr H H' → Q (.bl true) H'
end
end SB
namespace SB
open PySem L2 GxR GA
section
variable {P : Program} {w : World} {K : PySem.W.Frag} {mg : Str → Option Value} {base : Heap}
/-! ### are_wholes, are_sides, is_question -/
def spWholes (K : PySem.W.Frag) : Sp := fun vs H Q _ => ∃ x ns, vs = [x] ∧ SiV K H x ns ∧ Q (.bl true) H
theorem sc_wholes : FnScope ["told", "item"] ["told"] (defScope s_are_wholes) := ⟨rfl, rfl, rfl, by decide +kernel, rfl, by decide +kernel, by decide +kernel⟩
theorem cl_wholes (D : Df K mg "are_wholes" s_are_wholes) (CW : Cl P w K mg base 1 "is_whole" ["told"] (spWhole K)) : Cl P w K mg base 2 "are_wholes" ["told"] (spWholes K) := by
  refine D.cl (fun _ _ _ _ _ _ us hl => match us, hl with | [_], _ => rfl) fun f fd F => F.ok sc_wholes (fun vs H Q E h => ?_) (fun cdv A outer s H vs Q E hr h => ?_)
  · obtain ⟨x, ns, rfl, _⟩ := h
    rfl
  obtain ⟨x, ns, rfl, ⟨a, rfl, hs⟩, hq⟩ := h
  refine ⟨_, pss_cons (ps_for PassesOwn.never rfl (pi_tup (pv 0)) (pg_name (i := 1) sc_wholes.nd rfl (Or.inl rfl))
    (pss_one (ps_if (pt_not (pt_val (pe_cl CW (hr.mono (by decide)) (pa_cons (pv 1) pa_nil)))) pss_no pss_nil))) (pss_one (ps_ret pe_bl)), ?_⟩
  refine ⟨_, rfl, a, rfl, ⟨_, hs⟩, for_tup (xs := ns.map V.int) (fun i σ H1 => ∃ c, σ = [some (.ref a), c] ∧ H1 = H) ⟨_, rfl, rfl⟩ (fun i σ H1 _ h => ?_) (fun i x σ H1 hx h => ?_) (fun σ H1 h => ?_)⟩
  · obtain ⟨c, rfl, rfl⟩ := h
    exact hs
  · obtain ⟨c, rfl, rfl⟩ := h
    rw [List.getElem?_map] at hx
    obtain ⟨z, hz, rfl⟩ := Option.map_eq_some_iff.mp hx
    exact ⟨_, rfl, _, _, rfl, .int z, _, rfl, iteF ⟨some (.int z), rfl, rfl⟩⟩
  · obtain ⟨c, rfl, rfl⟩ := h
    exact hq
def spSides (K : PySem.W.Frag) : Sp := fun vs H Q _ => ∃ x ns, vs = [x] ∧ SiV K H x ns ∧ NonZ ns ∧ ∀ H', Gr H H' → Q (.bl true) H'
theorem sc_sides : FnScope ["told"] ["told"] (defScope s_are_sides) := ⟨rfl, rfl, rfl, by decide +kernel, rfl, by decide +kernel, by decide +kernel⟩
theorem cl_sides (D : Df K mg "are_sides" s_are_sides) (B : Blt mg) (CW : Cl P w K mg base 2 "are_wholes" ["told"] (spWholes K)) : Cl P w K mg base 3 "are_sides" ["told"] (spSides K) := by
  refine D.cl (fun _ _ _ _ _ _ us hl => match us, hl with | [_], _ => rfl) fun f fd F => F.ok sc_sides (fun vs H Q E h => ?_) (fun cdv A outer s H vs Q E hr h => ?_)
  · obtain ⟨x, t, rfl, _⟩ := h
    rfl
  obtain ⟨x, ns, rfl, ⟨a, rfl, hs⟩, hne, hq⟩ := h
  refine ⟨_, pss_one (ps_ret (pe_and (pe_isi "tuple" (pv 0) bootTup B.tup B.isi) (pe_and (pe_cl CW (hr.mono (by decide)) (pa_cons (pv 0) pa_nil)) (pe_one (pe_callB (cr_anyT rfl) rfl B.any bootAny (pa_cons (pv 0) pa_nil)))))), ?_⟩
  refine ⟨_, rfl, _, _, .tup hs, kTT, _, rfl, iteT ⟨_, rfl, _, ns, rfl, ⟨a, rfl, hs⟩, _, rfl, iteT ⟨_, rfl, a, ns, rfl, hs, qe hne (hq H (Gr.refl H))⟩⟩⟩
def spQuest (K : PySem.W.Frag) : Sp := fun vs H Q _ => ∃ x q, vs = [x] ∧ QuV K H x q ∧ NonZ q.1 ∧ ∀ H', Gr H H' → Q (.bl true) H'
theorem sc_quest : FnScope ["told", "sides", "wall"] ["told"] (defScope s_is_question) := ⟨rfl, rfl, rfl, by decide +kernel, rfl, by decide +kernel, by decide +kernel⟩
theorem cl_quest (D : Df K mg "is_question" s_is_question) (B : Blt mg) (CW : Cl P w K mg base 1 "is_whole" ["told"] (spWhole K)) (CS : Cl P w K mg base 3 "are_sides" ["told"] (spSides K)) : Cl P w K mg base 4 "is_question" ["told"] (spQuest K) := by
  refine D.cl (fun _ _ _ _ _ _ us hl => match us, hl with | [_], _ => rfl) fun f fd F => F.ok sc_quest (fun vs H Q E h => ?_) (fun cdv A outer s H vs Q E hr h => ?_)
  · obtain ⟨x, t, rfl, _⟩ := h
    rfl
  obtain ⟨x, q, rfl, ⟨a, t, rfl, hs, hst⟩, hne, hq⟩ := h
  refine ⟨_, pss_cons (ps_if (PW.pt (by exact (pw_or (pt_not (pt_val (pe_isi "tuple" (pv 0) bootTup B.tup B.isi))) (pw_or1 (pt_cmpR op_ne (pe_len (pv 0) B.len) pe_int (nomark _)))))) pss_no pss_nil)
    (pss_cons (ps_asg (pv 0) (pg_tup rfl (pgs_cons (pg_name (i := 1) sc_quest.nd rfl (Or.inl rfl)) (pgs_cons (pg_name (i := 2) sc_quest.nd rfl (Or.inl rfl)) pgs_nil))))
    (pss_one (ps_ret (pe_and (pe_cl CS (hr.mono (by decide)) (pa_cons (pv 1) pa_nil)) (pe_one (pe_cl CW (hr.mono (by decide)) (pa_cons (pv 2) pa_nil))))))), ?_⟩
  refine ⟨_, rfl, _, _, .tup hs, kTT, _, rfl, iteF ⟨_, rfl, a, _, rfl, .inr hs, rfl, _, rfl, iteNS rfl ⟨_, rfl, a, _, rfl, hs, rfl, _, _, rfl, _, _, rfl, rfl, ?_⟩⟩⟩
  exact ⟨_, rfl, _, _, rfl, hst, hne, fun H' g => ⟨_, rfl, iteT ⟨_, rfl, _, _, rfl, .int _, hq H' g⟩⟩⟩
def spQuestOf (K : PySem.W.Frag) : Sp := fun vs H Q _ => ∃ x q, vs = [x, .int ((q.1.length : Nat) : Int)] ∧ QuV K H x q ∧ NonZ q.1 ∧ ∀ H', Gr H H' → Q (.bl true) H'
theorem sc_questOf : FnScope ["told", "d"] ["told", "d"] (defScope s_is_question_of) := ⟨rfl, rfl, rfl, by decide +kernel, rfl, by decide +kernel, by decide +kernel⟩
theorem cl_questOf (D : Df K mg "is_question_of" s_is_question_of) (B : Blt mg) (CQ : Cl P w K mg base 4 "is_question" ["told"] (spQuest K)) : Cl P w K mg base 5 "is_question_of" ["told", "d"] (spQuestOf K) := by
  refine D.cl (fun _ _ _ _ _ _ us hl => match us, hl with | [_, _], _ => rfl) fun f fd F => F.ok sc_questOf (fun vs H Q E h => ?_) (fun cdv A outer s H vs Q E hr h => ?_)
  · obtain ⟨x, t, rfl, _⟩ := h
    rfl
  obtain ⟨x, q, rfl, hx, hne, hq⟩ := h
  refine ⟨_, pss_one (ps_ret (pe_and (pe_cl CQ (hr.mono (by decide)) (pa_cons (pv 0) pa_nil)) (pe_one (pe_cmpR op_eq (pe_len (pe_ix ix_tup (pv 0) pe_int (fun _ _ => rfl)) B.len) (pv 1) (nomark _))))), ?_⟩
  refine ⟨_, rfl, _, _, rfl, hx, hne, fun H' g => ⟨_, rfl, iteT ?_⟩⟩
  obtain ⟨a, t, rfl, hs, b, rfl, hb⟩ := hx.gr g
  refine ⟨_, rfl, a, _, _, _, rfl, rfl, hs, rfl, b, _, rfl, .inr hb, _, rfl, rfl, ?_⟩
  exact qd (by rw [List.length_map]) (hq H' g)
/-! ### is_answer, is_wish_of, is_index -/
def spAnsw (K : PySem.W.Frag) : Sp := fun vs H Q _ => ∃ i : Int, vs = [.int i] ∧ -1 ≤ i ∧ i ≤ 1 ∧ Q (.bl true) H
def spIndex : Sp := fun vs H Q _ => ∃ i n : Int, vs = [.int i, .int n] ∧ 0 ≤ i ∧ i < n ∧ Q (.bl true) H
/-- a wish's item: none, or an answer -/
def Hope (x : V) : Prop := x = .non ∨ ∃ i : Int, x = .int i ∧ -1 ≤ i ∧ i ≤ 1
def spWish (K : PySem.W.Frag) : Sp := fun vs H Q _ => ∃ a xs, vs = [.ref a, .int ((xs.length : Nat) : Int)] ∧ SqT K H a xs ∧ (∀ x, x ∈ xs → Hope x) ∧ ∀ H', Gr H H' → Q (.bl true) H'
end
end SB
namespace SB
open PySem L2 GxR GA
section
variable {P : Program} {w : World} {K : PySem.W.Frag} {mg : Str → Option Value} {base : Heap}
/-! ### check_point, check_index, sign -/
def spChkPt (K : PySem.W.Frag) : Sp := fun vs H Q _ => ∃ x us, vs = [x, .int ((us.length : Nat) : Int)] ∧ PtV K H x us ∧ us ≠ [] ∧ (∀ q, q ∈ us → Lo q) ∧ ∀ H', Gr H H' → Q .non H'
def spChkIx : Sp := fun vs H Q _ => ∃ i n : Int, vs = [.int i, .int n] ∧ 0 ≤ i ∧ i < n ∧ Q .non H
def spChkWish (K : PySem.W.Frag) : Sp := fun vs H Q _ => ∃ a xs, vs = [.ref a, .int ((xs.length : Nat) : Int)] ∧ SqT K H a xs ∧ (∀ x, x ∈ xs → Hope x) ∧ ∀ H', Gr H H' → Q .non H'
def sgn (i : Int) : Int := if 0 < i then 1 else if i < 0 then -1 else 0
def spSign : Sp := fun vs H Q _ => ∃ i : Int, vs = [.int i] ∧ Q (.int (sgn i)) H
/-! ### numbers -/
/-- what comes is the number N / D -/
def spLowest (K : PySem.W.Frag) : Sp := fun vs H Q _ => ∃ t b : Int, vs = [.int t, .int b] ∧ 0 < b ∧ Wd 310000 (t, b) ∧ ∀ v r H', Gr H H' → NuV K H' v r → Lo r → Eqr r t b → r.1.natAbs ≤ t.natAbs → r.2.natAbs ≤ b.natAbs → Q v H'
/-- two numbers put together by f -/
def spBin (K : PySem.W.Frag) (f : Int × Int → Int × Int → Int × Int) : Sp := fun vs H Q _ => ∃ x y p q m n, vs = [x, y] ∧ NuV K H x p ∧ NuV K H y q ∧ 0 < p.2 ∧ 0 < q.2 ∧ Wd m p ∧ Wd n q ∧ m + n ≤ 300000 ∧
  ∀ v r H', Gr H H' → NuV K H' v r → Lo r → Eqr r (f p q).1 (f p q).2 → Wd (m + n + 1) r → Q v H'
theorem wd_le {m : Nat} {r : Int × Int} {t b : Int} (h : Wd m (t, b)) (h1 : r.1.natAbs ≤ t.natAbs) (h2 : r.2.natAbs ≤ b.natAbs) : Wd m r := ⟨Nat.lt_of_le_of_lt h1 h.1, Nat.lt_of_le_of_lt h2 h.2⟩
theorem cmw {i j : Int} {m n : Nat} (h : i.natAbs < 2 ^ m) (k : j.natAbs < 2 ^ n) (z : m + n ≤ 300000) : CMulW i j := by
  refine wide_mul (a := m + 1) (b := n + 1) (Nat.lt_of_lt_of_le h (Nat.pow_le_pow_right (by decide) (Nat.le_succ _))) (Nat.lt_of_lt_of_le k (Nat.pow_le_pow_right (by decide) (Nat.le_succ _))) (Nat.succ_pos _) (Nat.succ_pos _) ?_
  omega
end
end SB
namespace SB
open PySem L2 GxR GA RZ
/-- the numbers of a point: in bounds -/
def UsOk (us : List (Int × Int)) : Prop := us ≠ [] ∧ us.length ≤ 4 ∧ (∀ q, q ∈ us → Lo q) ∧ ∀ q, q ∈ us → Wd 20000 q
theorem wd_one {z : Int} (h : z.natAbs < 2 ^ 10000) : Wd 10000 (z, 1) := ⟨h, by show (1 : Nat) < 2 ^ 10000; exact Nat.one_lt_two_pow (by decide)⟩
section
variable {P : Program} {w : World} {K : PySem.W.Frag} {mg : Str → Option Value} {base : Heap}
def spCome (K : PySem.W.Frag) : Sp := fun vs H Q _ => ∃ x y ns us, vs = [x, y] ∧ SiV K H x ns ∧ PtV K H y us ∧ ns.length = us.length ∧ UsOk us ∧ NsOk ns ∧
  ∀ v r H', Gr H H' → NuV K H' v r → 0 < r.2 → Eqr r (sumU ns us (0, 1)).1 (sumU ns us (0, 1)).2 → Wd 121000 r → Q v H'
/-- .. with sides of width k, numbers of width m -/
def spComeP (K : PySem.W.Frag) : Sp := fun vs H Q _ => ∃ x y ns us k m, vs = [x, y] ∧ SiV K H x ns ∧ PtV K H y us ∧ ns.length = us.length ∧ us.length ≤ 4 ∧ (∀ u, u ∈ us → Lo u) ∧ (∀ u, u ∈ us → Wd m u) ∧ (∀ z, z ∈ ns → z.natAbs < 2 ^ k) ∧ 4 * (m + k + 3) ≤ 290000 ∧
  ∀ v r H', Gr H H' → NuV K H' v r → 0 < r.2 → Eqr r (sumU ns us (0, 1)).1 (sumU ns us (0, 1)).2 → Wd (1 + us.length * (m + k + 3)) r → Q v H'
/-- the sum itself, not divided -/
def spSumAt (K : PySem.W.Frag) : Sp := fun vs H Q _ => ∃ x y ns us k m, vs = [x, y] ∧ SiV K H x ns ∧ PtV K H y us ∧ ns.length = us.length ∧ us.length ≤ 4 ∧ (∀ u, u ∈ us → Wd m u) ∧ (∀ z, z ∈ ns → z.natAbs < 2 ^ k) ∧ 4 * (m + k + 3) ≤ 290000 ∧
  ∀ v H', Gr H H' → NuV K H' v (sumU ns us (0, 1)) → Wd (1 + us.length * (m + k + 3)) (sumU ns us (0, 1)) → Q v H'
theorem stepU_is (g : Int × Int) (z : Int) (u : Int × Int) : stepU g (z, u) = (g.1 * u.2 + z * u.1 * g.2, g.2 * u.2) := by
  unfold stepU fPlus fTimes
  dsimp only
  rw [Int.one_mul]
theorem wd_step {m k n : Nat} {g u : Int × Int} {z : Int} (hg : Wd n g) (hu : Wd m u) (hz : z.natAbs < 2 ^ k) : Wd (n + (m + k + 3)) (stepU g (z, u)) := by
  have wz : Wd (k + 1) (z, 1) := ⟨Nat.lt_of_lt_of_le hz (Nat.pow_le_pow_right (by decide) (Nat.le_succ k)), Nat.one_lt_two_pow (Nat.succ_ne_zero k)⟩
  exact (wd_plus hg (wd_times wz hu)).mono (by omega)
theorem sum_pos {ns : List Int} {us : List (Int × Int)} (h : ∀ u, u ∈ us → Lo u) : 0 < (sumU ns us (0, 1)).2 := by
  refine sumU_pos (by show (0 : Int) < 1; decide) fun p hp => ?_
  exact (h p.2 (List.of_mem_zip (a := p.1) (b := p.2) hp).2).1
end
end SB
namespace SB
open PySem L2 GxR GA RZ
/-! ### tuples stay -/
def Tst (K : PySem.W.Frag) (H H' : Hp) : Prop := ∀ a xs, SqT K H a xs → SqT K H' a xs
section
variable {K : PySem.W.Frag} {H H' H1 : Hp} {x : V} {D : Addr}
theorem Gr.st (g : Gr H H') : Tst K H H' := fun _ _ h => g.seqT h
theorem Tst.trans {H2 : Hp} (a : Tst K H H') (b : Tst K H' H2) : Tst K H H2 := fun c xs h => b c xs (a c xs h)
theorem Tst.put {ys : List V} {o : HO} (hD : H D = some (.lst ys)) : Tst K H (upd H D o) := fun a xs h => by
  rcases h with (h | ⟨u, h⟩) | h
  · exact .inl (.inl (by rw [upd_ne (ne_of h hD (fun z => nomatch z))]; exact h))
  · exact .inl (.inr ⟨u, by rw [upd_ne (ne_of h hD (fun z => nomatch z))]; exact h⟩)
  · exact .inr h
theorem NuV.st {q : Int × Int} (h : NuV K H x q) (g : Tst K H H') : NuV K H' x q := let ⟨a, e, s⟩ := h; ⟨a, e, g _ _ s⟩
theorem SiV.st {q : List Int} (h : SiV K H x q) (g : Tst K H H') : SiV K H' x q := let ⟨a, e, s⟩ := h; ⟨a, e, g _ _ s⟩
theorem QuV.st {q : List Int × Int} (h : QuV K H x q) (g : Tst K H H') : QuV K H' x q := let ⟨a, t, e, s, z⟩ := h; ⟨a, t, e, g _ _ s, z.st g⟩
theorem PtV.st {q : List (Int × Int)} (h : PtV K H x q) (g : Tst K H H') : PtV K H' x q := let ⟨a, xs, e, s, p⟩ := h; ⟨a, xs, e, g _ _ s, Paired.mapP p fun _ _ z => NuV.st z g⟩
theorem BkV.st {d : Nat} {q : List (List Int × Int)} (h : BkV K H x d q) (g : Tst K H H') : BkV K H' x d q := let ⟨a, b, xs, e, s, t, p⟩ := h; ⟨a, b, xs, e, g _ _ s, g _ _ t, Paired.mapP p fun _ _ z => QuV.st z g⟩
theorem GrD.to (g : GrD D H H') (n : H D = none) : Gr H H' := by
  refine ⟨fun b o z e => g.keep b o (ne_of_none e n) z e, fun P h => ?_⟩
  obtain ⟨ps, e, t⟩ := id h
  exact g.tab P (ne_of_none e n) h
end
/-- a list of what comes of each item of a tuple, of a list -/
theorem lc_mapT {K : PySem.W.Frag} {a : Addr} {xs : List V} {g : TG} {te : TE} {vs : List Nat} {σ : L2.St} {H1 : Hp} {D : Addr} {Qd : Hp → Prop} (R : Nat → V → Hp → Prop) (hst : ∀ i y H H', R i y H → Tst K H H' → R i y H') (nD : H1 D = none) (hs : SqT K H1 a xs) (hz : xs.length ≤ 1000)
    (step : ∀ i x H (Kc : VK), xs[i]? = some x → Gr H1 H → (∀ y H4, Gr H H4 → R i y H4 → Kc y H4) → g x (wipe σ vs) H fun σ2 H2 => wipe σ2 vs = wipe σ vs ∧ te σ2 H2 Kc)
    (fin : ∀ ys H, H D = some (.lst ys) → ys.length = xs.length → Gr H1 H → (∀ i y, ys[i]? = some y → R i y H) → Qd H) :
    ∃ W : Nat → Nat → Hp → Prop, (∃ m, W 0 m (upd H1 D (.lst []))) ∧ ∀ i m H, W i m H →
      ((Itt K a).stop i H ∧ Qd H) ∨ ((Itt K a).go i H ∧ ∃ Nx : Hp → Prop, (∀ H', Nx H' → ∃ m', m' < m ∧ W (i + 1) m' H') ∧ ∀ x H', (Itt K a).yld i H x H' → g x (wipe σ vs) H' fun σ2 H2 => wipe σ2 vs = wipe σ vs ∧ tYes σ2 H2 fun b H3 =>
        if b = true then te σ2 H3 fun y H4 => ∃ acc, H4 D = some (.lst acc) ∧ acc.length < sizeLine ∧ Nx (upd H4 D (.lst (acc ++ [y]))) else Nx H3) := by
  refine ⟨fun i m H => i + m = xs.length ∧ ∃ ys, H D = some (.lst ys) ∧ ys.length = i ∧ GrD D H1 H ∧ ∀ j y, ys[j]? = some y → R j y H, ⟨xs.length, Nat.zero_add _, [], upd_same, rfl, (GrD.refl D H1).set _, fun j y h => by simp at h⟩, fun i m H w => ?_⟩
  obtain ⟨hm, ys, hD, hy, gr, hR⟩ := w
  have g1 := gr.to nD
  have hSi := g1.seqT hs
  cases m with
  | zero => exact .inl ⟨⟨xs, hSi, by omega⟩, fin ys H hD (by omega) g1 hR⟩
  | succ m =>
    have hi : i < xs.length := by omega
    refine .inr ⟨⟨xs, xs[i], hSi, List.getElem?_eq_getElem hi⟩, fun H' => ∃ ys, H' D = some (.lst ys) ∧ ys.length = i + 1 ∧ GrD D H1 H' ∧ ∀ j y, ys[j]? = some y → R j y H', fun H' h => ⟨m, Nat.lt_succ_self _, by omega, h⟩, fun x H' hyl => ?_⟩
    obtain ⟨rfl, hx⟩ := hyl
    have key : ∀ y H4, Gr H' H4 → R i y H4 → ∃ acc, H4 D = some (.lst acc) ∧ acc.length < sizeLine ∧ (∃ ys, (upd H4 D (.lst (acc ++ [y]))) D = some (.lst ys) ∧ ys.length = i + 1 ∧ GrD D H1 (upd H4 D (.lst (acc ++ [y]))) ∧ ∀ j z, ys[j]? = some z → R j z (upd H4 D (.lst (acc ++ [y])))) := fun y H4 g4 r4 => by
      have hD4 : H4 D = some (.lst ys) := g4.keep D _ (fun _ z => nomatch z) hD
      have tp : Tst K H4 (upd H4 D (.lst (ys ++ [y]))) := Tst.put hD4
      refine ⟨ys, hD4, small1000 (by omega), ys ++ [y], upd_same, by rw [List.length_append, hy]; rfl, (gr.trans (g4.d D)).set _, fun j z hz2 => ?_⟩
      by_cases hj : j < ys.length
      · rw [List.getElem?_append_left hj] at hz2
        exact hst _ _ _ _ (hR j z hz2) (g4.st.trans tp)
      · have hl := (List.getElem?_eq_some_iff.mp hz2).1
        rw [List.length_append] at hl
        have hl' : j < ys.length + 1 := hl
        have ej : j = ys.length := by omega
        subst ej
        rw [List.getElem?_append_right (Nat.le_refl _), Nat.sub_self] at hz2
        cases hz2
        rw [hy]
        exact hst _ _ _ _ r4 tp
    exact step i x H' _ (hx xs hSi) g1 key

theorem lc_mapL {K : PySem.W.Frag} {a : Addr} {xs : List V} {g : TG} {te : TE} {vs : List Nat} {σ : L2.St} {H1 : Hp} {D : Addr} {Qd : Hp → Prop} (R : Nat → V → Hp → Prop) (hst : ∀ i y H H', R i y H → Tst K H H' → R i y H') (nD : H1 D = none) (hs : SqL K H1 a xs) (hz : xs.length ≤ 1000)
    (step : ∀ i x H (Kc : VK), xs[i]? = some x → Gr H1 H → (∀ y H4, Gr H H4 → R i y H4 → Kc y H4) → g x (wipe σ vs) H fun σ2 H2 => wipe σ2 vs = wipe σ vs ∧ te σ2 H2 Kc)
    (fin : ∀ ys H, H D = some (.lst ys) → ys.length = xs.length → Gr H1 H → (∀ i y, ys[i]? = some y → R i y H) → Qd H) :
    ∃ W : Nat → Nat → Hp → Prop, (∃ m, W 0 m (upd H1 D (.lst []))) ∧ ∀ i m H, W i m H →
      ((Itl K a).stop i H ∧ Qd H) ∨ ((Itl K a).go i H ∧ ∃ Nx : Hp → Prop, (∀ H', Nx H' → ∃ m', m' < m ∧ W (i + 1) m' H') ∧ ∀ x H', (Itl K a).yld i H x H' → g x (wipe σ vs) H' fun σ2 H2 => wipe σ2 vs = wipe σ vs ∧ tYes σ2 H2 fun b H3 =>
        if b = true then te σ2 H3 fun y H4 => ∃ acc, H4 D = some (.lst acc) ∧ acc.length < sizeLine ∧ Nx (upd H4 D (.lst (acc ++ [y]))) else Nx H3) := by
  refine ⟨fun i m H => i + m = xs.length ∧ ∃ ys, H D = some (.lst ys) ∧ ys.length = i ∧ GrD D H1 H ∧ ∀ j y, ys[j]? = some y → R j y H, ⟨xs.length, Nat.zero_add _, [], upd_same, rfl, (GrD.refl D H1).set _, fun j y h => by simp at h⟩, fun i m H w => ?_⟩
  obtain ⟨hm, ys, hD, hy, gr, hR⟩ := w
  have g1 := gr.to nD
  have hSi := g1.seqL hs
  cases m with
  | zero => exact .inl ⟨⟨xs, hSi, by omega⟩, fin ys H hD (by omega) g1 hR⟩
  | succ m =>
    have hi : i < xs.length := by omega
    refine .inr ⟨⟨xs, xs[i], hSi, List.getElem?_eq_getElem hi⟩, fun H' => ∃ ys, H' D = some (.lst ys) ∧ ys.length = i + 1 ∧ GrD D H1 H' ∧ ∀ j y, ys[j]? = some y → R j y H', fun H' h => ⟨m, Nat.lt_succ_self _, by omega, h⟩, fun x H' hyl => ?_⟩
    obtain ⟨rfl, hx⟩ := hyl
    have key : ∀ y H4, Gr H' H4 → R i y H4 → ∃ acc, H4 D = some (.lst acc) ∧ acc.length < sizeLine ∧ (∃ ys, (upd H4 D (.lst (acc ++ [y]))) D = some (.lst ys) ∧ ys.length = i + 1 ∧ GrD D H1 (upd H4 D (.lst (acc ++ [y]))) ∧ ∀ j z, ys[j]? = some z → R j z (upd H4 D (.lst (acc ++ [y])))) := fun y H4 g4 r4 => by
      have hD4 : H4 D = some (.lst ys) := g4.keep D _ (fun _ z => nomatch z) hD
      have tp : Tst K H4 (upd H4 D (.lst (ys ++ [y]))) := Tst.put hD4
      refine ⟨ys, hD4, small1000 (by omega), ys ++ [y], upd_same, by rw [List.length_append, hy]; rfl, (gr.trans (g4.d D)).set _, fun j z hz2 => ?_⟩
      by_cases hj : j < ys.length
      · rw [List.getElem?_append_left hj] at hz2
        exact hst _ _ _ _ (hR j z hz2) (g4.st.trans tp)
      · have hl := (List.getElem?_eq_some_iff.mp hz2).1
        rw [List.length_append] at hl
        have hl' : j < ys.length + 1 := hl
        have ej : j = ys.length := by omega
        subst ej
        rw [List.getElem?_append_right (Nat.le_refl _), Nat.sub_self] at hz2
        cases hz2
        rw [hy]
        exact hst _ _ _ _ r4 tp
    exact step i x H' _ (hx xs hSi) g1 key
/-- a list of ints known item by item -/
theorem ints_at {ys : List V} {zs : List Int} (hl : ys.length = zs.length) (h : ∀ (i : Nat) (y : V), ys[i]? = some y → ∃ z : Int, zs[i]? = some z ∧ y = V.int z) : ys = zs.map V.int := by
  refine List.ext_getElem? fun i => ?_
  rw [List.getElem?_map]
  cases e : ys[i]? with
  | none =>
    have : ys.length ≤ i := List.getElem?_eq_none_iff.mp e
    rw [List.getElem?_eq_none (by omega)]
    rfl
  | some y =>
    obtain ⟨z, hz, rfl⟩ := h i y e
    rw [hz]
    rfl
theorem paired_at2 {α β : Type} {F : α → β → Prop} : ∀ {xs : List α} {ys : List β}, xs.length = ys.length → (∀ (i : Nat) (x : α) (y : β), xs[i]? = some x → ys[i]? = some y → F x y) → Paired F xs ys
  | [], [], _, _ => .nil
  | [], _ :: _, h, _ => by simp at h
  | _ :: _, [], h, _ => by simp at h
  | x :: xs, y :: ys, h, f => .cons (f 0 x y rfl rfl) (paired_at2 (by simpa using h) fun i a b ha hb => f (i + 1) a b (by simpa using ha) (by simpa using hb))
end SB
namespace SB
open PySem L2 GxR GA RZ
section
variable {P : Program} {w : World} {K : PySem.W.Frag} {mg : Str → Option Value} {base : Heap}
def spCommon (K : PySem.W.Frag) : Sp := fun vs H Q _ => ∃ a ns, vs = [.ref a] ∧ SqT K H a (ns.map V.int) ∧ Q (.int ((gcdL ns : Nat) : Int)) H
theorem sc_common : FnScope ["wholes", "common", "whole"] ["wholes"] (defScope s_common_of) := ⟨rfl, rfl, rfl, by decide +kernel, rfl, by decide +kernel, by decide +kernel⟩
theorem cl_common (D : Df K mg "common_of" s_common_of) (B : Blt mg) : Cl P w K mg base 1 "common_of" ["wholes"] (spCommon K) := by
  refine D.cl (fun _ _ _ _ _ _ us hl => match us, hl with | [_], _ => rfl) fun f fd F => F.ok sc_common (fun vs H Q E h => ?_) (fun cdv A outer s H vs Q E hr h => ?_)
  · obtain ⟨a, ns, rfl, _⟩ := h
    rfl
  obtain ⟨a, ns, rfl, ha, q⟩ := h
  refine ⟨_, pss_cons (ps_set (i := 1) sc_common.nd rfl (.inl rfl) pe_int) (pss_cons (ps_for PassesOwn.never rfl (pi_tup (pv 0)) (pg_name (i := 2) sc_common.nd rfl (Or.inl rfl))
    (pss_one (ps_set (i := 1) sc_common.nd rfl (.inl rfl) (pe_callBfun cr_gcd rfl B.gcd (pa_cons (pv 1) (pa_cons (pv 2) pa_nil)))))) (pss_one (ps_ret (pv 1)))), ?_⟩
  refine ⟨_, rfl, a, rfl, ⟨_, ha⟩, for_tup (xs := ns.map V.int) (fun i σ H1 => ∃ c, σ = [some (.ref a), some (.int ((gcdL (ns.take i) : Nat) : Int)), c] ∧ H1 = H) ⟨_, rfl, rfl⟩ (fun i σ H1 _ h => ?_) (fun i x σ H1 hx h => ?_) (fun σ H1 h => ?_)⟩
  · obtain ⟨c, rfl, rfl⟩ := h
    exact ha
  · obtain ⟨c, rfl, rfl⟩ := h
    rw [List.getElem?_map] at hx
    obtain ⟨z, hz, rfl⟩ := Option.map_eq_some_iff.mp hx
    refine ⟨_, rfl, _, rfl, _, _, rfl, some (.int z), ?_, rfl⟩
    have e : gcdL (ns.take (i + 1)) = Nat.gcd (gcdL (ns.take i)) z.natAbs := fold_take (fun c (z : Int) => Nat.gcd c z.natAbs) 0 hz
    rw [e, Int.natAbs_natCast]
    rfl
  · obtain ⟨c, rfl, rfl⟩ := h
    have e : ns.take (ns.map V.int).length = ns := List.take_of_length_le (by rw [List.length_map]; exact Nat.le_refl _)
    rw [e]
    exact ⟨_, rfl, q⟩
def spBegins (K : PySem.W.Frag) : Sp := fun vs H Q _ => ∃ a ns, vs = [.ref a] ∧ SqT K H a (ns.map V.int) ∧ NonZ ns ∧ Q (.int ((firstNZ ns : Nat) : Int)) H
theorem sc_begins : FnScope ["wholes", "at"] ["wholes"] (defScope s_begins_at) := ⟨rfl, rfl, rfl, by decide +kernel, rfl, by decide +kernel, by decide +kernel⟩
theorem cl_begins (D : Df K mg "begins_at" s_begins_at) : Cl P w K mg base 1 "begins_at" ["wholes"] (spBegins K) := by
  refine D.cl (fun _ _ _ _ _ _ us hl => match us, hl with | [_], _ => rfl) fun f fd F => F.ok sc_begins (fun vs H Q E h => ?_) (fun cdv A outer s H vs Q E hr h => ?_)
  · obtain ⟨a, ns, rfl, _⟩ := h
    rfl
  obtain ⟨a, ns, rfl, ha, nz, q⟩ := h
  obtain ⟨k1, k2, k3⟩ := firstNZ_at nz
  refine ⟨_, pss_cons (ps_set (i := 1) sc_begins.nd rfl (.inl rfl) pe_int) (pss_cons (ps_while PassesOwn.never (pt_cmpR op_eq (pe_ix ix_tup (pv 0) (pv 1) (fun _ _ => rfl)) pe_int (nomark _)) (pss_one (ps_aug (i := 1) sc_begins.nd rfl (.inl rfl) pe_int ip_add))) (pss_one (ps_ret (pv 1)))), ?_⟩
  refine ⟨fun m σ H1 => ∃ i : Nat, σ = [some (.ref a), some (.int (i : Int))] ∧ H1 = H ∧ i + m = firstNZ ns, ⟨firstNZ ns, 0, rfl, rfl, Nat.zero_add _⟩, fun m σ H1 hw => ?_⟩
  obtain ⟨i, rfl, rfl, hm⟩ := hw
  have hl := (List.getElem?_eq_some_iff.mp k1).1
  have hi : i < ns.length := by omega
  have ei : ns[i]? = some ns[i] := List.getElem?_eq_getElem hi
  refine ⟨_, rfl, _, rfl, a, _, _, .int ns[i], rfl, rfl, ha, atI_nat (by rw [List.getElem?_map, ei]; rfl), rfl, _, rfl, ?_⟩
  cases m with
  | zero =>
    have e : i = firstNZ ns := by omega
    subst e
    rw [ei] at k1
    have : ns[firstNZ ns] = lead ns := Option.some.inj k1
    exact iteN (fun z => k2 (by rw [← this]; injection z)) ⟨_, rfl, q⟩
  | succ m =>
    have z0 := k3 i _ (by omega) ei
    refine iteP (by rw [z0]) ⟨fun σ H' => ∃ i' : Nat, σ = [some (.ref a), some (.int (i' : Int))] ∧ H' = H1 ∧ i' + m = firstNZ ns, fun σ' H' h => ⟨m, Nat.lt_succ_self _, h⟩, ?_⟩
    refine ⟨_, rfl, _, _, rfl, rfl, i + 1, ?_, rfl, by omega⟩
    simp
def spMany : Sp := fun vs H Q _ => ∃ d : Int, vs = [.int d] ∧ 1 ≤ d ∧ Q (.bl true) H
theorem sc_many : FnScope ["d"] ["d"] (defScope s__is_many) := ⟨rfl, rfl, rfl, by decide +kernel, rfl, by decide +kernel, by decide +kernel⟩
theorem cl_many (D : Df K mg "_is_many" s__is_many) (CW : Cl P w K mg base 1 "is_whole" ["told"] (spWhole K)) : Cl P w K mg base 2 "_is_many" ["d"] spMany := by
  refine D.cl (fun _ _ _ _ _ _ us hl => match us, hl with | [_], _ => rfl) fun f fd F => F.ok sc_many (fun vs H Q E h => ?_) (fun cdv A outer s H vs Q E hr h => ?_)
  · obtain ⟨d, rfl, _⟩ := h
    rfl
  obtain ⟨d, rfl, h1, q⟩ := h
  refine ⟨_, pss_one (ps_ret (pe_and (pe_cl CW (hr.mono (by decide)) (pa_cons (pv 0) pa_nil)) (pe_one (pe_cmpR op_ge (pv 0) pe_int (nomark _))))), ?_⟩
  exact ⟨_, rfl, _, _, rfl, .int d, _, rfl, iteT ⟨_, rfl, _, _, rfl, rfl, qe (decide_eq_true h1) q⟩⟩
end
end SB
namespace SB
open PySem L2 GxR GA RZ SG PpSet
section
variable {P : Program} {w : World} {K : PySem.W.Frag} {mg : Str → Option Value} {base : Heap}
def spDiv (K : PySem.W.Frag) : Sp := fun vs H Q _ => ∃ x q, vs = [x] ∧ QuV K H x q ∧ NonZ q.1 ∧ q.1.length ≤ 20 ∧ ∀ v H', Gr H H' → QuV K H' v (divU q) → Q v H'
theorem ne_of_nonZ {ns : List Int} (h : NonZ ns) : ns.map V.int ≠ [] := fun e => by
  rw [List.map_eq_nil_iff] at e
  rw [e] at h
  exact absurd (show false = true from h) Bool.false_ne_true
def spTurnQ (K : PySem.W.Frag) : Sp := fun vs H Q _ => ∃ x q, vs = [x] ∧ QuV K H x q ∧ q.1.length ≤ 20 ∧ ∀ v H', Gr H H' → QuV K H' v (negU q) → Q v H'
/-- the flat normal form -/
def spNorm (K : PySem.W.Frag) : Sp := fun vs H Q _ => ∃ a q, vs = [.ref a] ∧ SqT K H a ((q.1 ++ [q.2]).map V.int) ∧ NonZ q.1 ∧ q.1.length ≤ 20 ∧ ∀ b H', Gr H H' → VF K H' b (nfU q) → Q (.ref b) H'
theorem sc_norm : FnScope ["wholes", "common", "whole"] ["wholes"] (defScope s_normal_form) := ⟨rfl, rfl, rfl, by decide +kernel, rfl, by decide +kernel, by decide +kernel⟩
theorem cl_norm (D : Df K mg "normal_form" s_normal_form) (B : Blt mg) (NS : NSK P K) (CC : Cl P w K mg base 1 "common_of" ["wholes"] (spCommon K)) (CB : Cl P w K mg base 1 "begins_at" ["wholes"] (spBegins K)) : Cl P w K mg base 34 "normal_form" ["wholes"] (spNorm K) := by
  refine D.cl (fun _ _ _ _ _ _ us hl => match us, hl with | [_], _ => rfl) fun f fd F => F.ok sc_norm (fun vs H Q E h => ?_) (fun cdv A outer s H vs Q E hr h => ?_)
  · obtain ⟨a, q, rfl, _⟩ := h
    rfl
  obtain ⟨a, q, rfl, hs, nz, l8, hq⟩ := h
  refine ⟨_, pss_cons (ps_set (i := 1) sc_norm.nd rfl (.inr rfl) (pe_cl CC (hr.mono (by decide)) (pa_cons (pv 0) pa_nil)))
    (pss_cons (ps_if (pt_cmpR op_lt (pe_ix ix_tup (pv 0) (pe_cl CB (hr.mono (by decide)) (pa_cons (pv 0) pa_nil)) (fun _ _ => rfl)) pe_int (nomark _)) (pss_one (ps_set (i := 1) sc_norm.nd rfl (.inr rfl) (pe_un un_neg (pv 1)))) pss_nil)
    (pss_one (ps_ret (pe_ifExp (pt_cmpR op_eq (pv 1) pe_int (nomark _)) (pe_callTy call_tuple_of rfl B.tup bootTup (pa_cons (pv 0) pa_nil)) (pe_callTy call_tuple_of rfl B.tup bootTup (pa_cons (pe_lc (own := [("whole", 2)]) (g := gName 2) rfl sc_norm.nd (pi_tup (pv 0)) (blkOk_by (N := ["wholes", "common", "whole"]) (sc := defScope s_normal_form) (by decide +kernel)) (fun _ _ _ _ _ => pg_name (i := 2) sc_norm.nd rfl (Or.inl rfl)) (fun _ _ _ _ _ => pts_nil) (fun _ _ _ _ _ => pe_op (op_fdivP NS (Room.far hr) rfl rfl rfl rfl rfl) (pv 2) (pv 1))) pa_nil)))))), ?_⟩
  obtain ⟨nf, nc⟩ := nf_flat nz
  have nl := znonZ_app [q.2] nz
  obtain ⟨k1, k2, _⟩ := firstNZ_at nl
  refine ⟨_, rfl, a, q.1 ++ [q.2], rfl, hs, ?_⟩
  refine ⟨_, rfl, _, rfl, a, q.1 ++ [q.2], rfl, hs, nl, a, _, _, .int (lead (q.1 ++ [q.2])), rfl, rfl, hs, atI_nat (by rw [List.getElem?_map, k1]; rfl), _, _, rfl, rfl, _, rfl, ?_⟩
  by_cases hn : lead (q.1 ++ [q.2]) < 0
  · refine iteP hn ⟨_, rfl, _, rfl, ?_⟩
    have ec : -((gcdL (q.1 ++ [q.2]) : Nat) : Int) = nfC q := by unfold nfC; rw [if_pos hn]
    refine ⟨_, rfl, rfl, _, rfl, ?_⟩
    by_cases h1 : -((gcdL (q.1 ++ [q.2]) : Nat) : Int) = 1
    · refine iteP (show V.int (-((gcdL (q.1 ++ [q.2]) : Nat) : Int)) = V.int 1 by rw [h1]) ⟨_, rfl, a, _, rfl, .inr ⟨hs, hq a H (Gr.refl H) ?_⟩⟩
      show SqT K H a _
      rw [nf, ← ec, h1]
      have e1 : (q.1 ++ [q.2]).map (fun z => z.fdiv 1) = q.1 ++ [q.2] := by
        conv => rhs; rw [← List.map_id (q.1 ++ [q.2])]
        exact List.map_congr_left fun z _ => Int.fdiv_one z
      rw [e1]
      exact hs
    · refine iteN (fun z => h1 (by injection z)) ⟨_, rfl, a, rfl, ⟨_, hs⟩, fun D nD => lc_mapT (xs := (q.1 ++ [q.2]).map V.int) (fun i y _ => ∃ z : Int, (q.1 ++ [q.2])[i]? = some z ∧ y = .int (z.fdiv (-((gcdL (q.1 ++ [q.2]) : Nat) : Int)))) (fun _ _ _ _ h _ => h) nD hs (by rw [List.length_map, List.length_append]; show q.1.length + 1 ≤ 1000; omega) (fun i x H5 Kc hx g5 kc => ?_) (fun ys H5 hD hl g5 hR => ?_)⟩
      · rw [List.getElem?_map] at hx
        obtain ⟨z, hz, rfl⟩ := Option.map_eq_some_iff.mp hx
        exact ⟨rfl, _, rfl, _, rfl, _, _, rfl, rfl, by rw [ec]; exact nc, kc _ _ (Gr.refl _) ⟨z, hz, rfl⟩⟩
      · have ey : ys = ((nfU q).1 ++ [(nfU q).2]).map V.int := by
          rw [nf]
          refine ints_at (by rw [hl, List.length_map, List.length_map]) fun i y hy => ?_
          obtain ⟨z, hz, rfl⟩ := hR i y hy
          exact ⟨_, by rw [List.getElem?_map, hz]; rfl, by rw [ec]⟩
        subst ey
        exact ⟨D, _, rfl, .inl ⟨SqL.of hD, fun p2 n2 => hq _ _ (g5.new n2 _) (SqT.of upd_same)⟩⟩
  · refine iteN hn ?_
    have ec : ((gcdL (q.1 ++ [q.2]) : Nat) : Int) = nfC q := by unfold nfC; rw [if_neg hn]
    refine ⟨_, rfl, rfl, _, rfl, ?_⟩
    by_cases h1 : ((gcdL (q.1 ++ [q.2]) : Nat) : Int) = 1
    · refine iteP (show V.int ((gcdL (q.1 ++ [q.2]) : Nat) : Int) = V.int 1 by rw [h1]) ⟨_, rfl, a, _, rfl, .inr ⟨hs, hq a H (Gr.refl H) ?_⟩⟩
      show SqT K H a _
      rw [nf, ← ec, h1]
      have e1 : (q.1 ++ [q.2]).map (fun z => z.fdiv 1) = q.1 ++ [q.2] := by
        conv => rhs; rw [← List.map_id (q.1 ++ [q.2])]
        exact List.map_congr_left fun z _ => Int.fdiv_one z
      rw [e1]
      exact hs
    · refine iteN (fun z => h1 (by injection z)) ⟨_, rfl, a, rfl, ⟨_, hs⟩, fun D nD => lc_mapT (xs := (q.1 ++ [q.2]).map V.int) (fun i y _ => ∃ z : Int, (q.1 ++ [q.2])[i]? = some z ∧ y = .int (z.fdiv ((gcdL (q.1 ++ [q.2]) : Nat) : Int))) (fun _ _ _ _ h _ => h) nD hs (by rw [List.length_map, List.length_append]; show q.1.length + 1 ≤ 1000; omega) (fun i x H5 Kc hx g5 kc => ?_) (fun ys H5 hD hl g5 hR => ?_)⟩
      · rw [List.getElem?_map] at hx
        obtain ⟨z, hz, rfl⟩ := Option.map_eq_some_iff.mp hx
        exact ⟨rfl, _, rfl, _, rfl, _, _, rfl, rfl, by rw [ec]; exact nc, kc _ _ (Gr.refl _) ⟨z, hz, rfl⟩⟩
      · have ey : ys = ((nfU q).1 ++ [(nfU q).2]).map V.int := by
          rw [nf]
          refine ints_at (by rw [hl, List.length_map, List.length_map]) fun i y hy => ?_
          obtain ⟨z, hz, rfl⟩ := hR i y hy
          exact ⟨_, by rw [List.getElem?_map, hz]; rfl, by rw [ec]⟩
        subst ey
        exact ⟨D, _, rfl, .inl ⟨SqL.of hD, fun p2 n2 => hq _ _ (g5.new n2 _) (SqT.of upd_same)⟩⟩
def spNought (K : PySem.W.Frag) : Sp := fun vs H Q _ => ∃ x q, vs = [x] ∧ QuV K H x q ∧ QOk q ∧ q.1.length ≤ 20 ∧ ∀ b H', Gr H H' → VF K H' b (nfU q) → Q (.ref b) H'
theorem sc_nought : FnScope ["question", "sides", "wall"] ["question"] (defScope s_nought_form) := ⟨rfl, rfl, rfl, by decide +kernel, rfl, by decide +kernel, by decide +kernel⟩
theorem cl_nought (D : Df K mg "nought_form" s_nought_form) (CN : Cl P w K mg base 34 "normal_form" ["wholes"] (spNorm K)) : Cl P w K mg base 35 "nought_form" ["question"] (spNought K) := by
  refine D.cl (fun _ _ _ _ _ _ us hl => match us, hl with | [_], _ => rfl) fun f fd F => F.ok sc_nought (fun vs H Q E h => ?_) (fun cdv A outer s H vs Q E hr h => ?_)
  · obtain ⟨x, q, rfl, _⟩ := h
    rfl
  obtain ⟨x, q, rfl, ⟨a, t, rfl, hs, b, rfl, hb⟩, ok, l8, hq⟩ := h
  refine ⟨_, pss_cons (ps_asg (pv 0) (pg_tup rfl (pgs_cons (pg_name (i := 1) sc_nought.nd rfl (Or.inl rfl)) (pgs_cons (pg_name (i := 2) sc_nought.nd rfl (Or.inl rfl)) pgs_nil))))
    (pss_one (ps_ret (pe_cl CN (hr.mono (by decide)) (pa_cons (pe_op op_catT (pv 1) (pe_tup (pa_cons (pv 2) pa_nil))) pa_nil)))), ?_⟩
  refine ⟨_, rfl, a, _, rfl, hs, rfl, _, _, rfl, _, _, rfl, rfl, ?_⟩
  refine ⟨_, rfl, _, rfl, szN (by show 1 ≤ 1000000; decide), fun p0 n0 => ?_⟩
  have k0 := (Gr.refl H).new n0 (.tup [.int q.2])
  refine ⟨_, _, _, _, rfl, rfl, k0.seqT hb, SqT.of upd_same, ne_of_nonZ ok.nz, ?_, fun z => absurd z (List.cons_ne_nil _ _), fun _ p1 n1 => ?_⟩
  · rw [List.length_map]
    exact szN (by show q.1.length + 1 ≤ 1000000; omega)
  have k1 := k0.new n1 (.tup (q.1.map V.int ++ [.int q.2]))
  exact ⟨p1, q, rfl, SqT.of (by rw [upd_same, List.map_append]; rfl), ok.nz, l8, fun b H' g v => hq b H' (k1.trans g) v⟩
end
end SB
namespace SB
open PySem L2 GxR GA RZ SG PpSet
section
variable {P : Program} {w : World} {K : PySem.W.Frag} {mg : Str → Option Value} {base : Heap}
structure BOk (d : Nat) (qs : List (List Int × Int)) : Prop where
  d1 : 1 ≤ d
  d8 : d ≤ 8
  l8 : qs.length ≤ 8
  ok : ∀ q, q ∈ qs → QOk q ∧ q.1.length = d
  nd : (qs.map nfU).Nodup
theorem Tst.put2 {H : Hp} {D : Addr} {o o0 : HO} (hD : H D = some o0) (n1 : ∀ xs, o0 ≠ .tup xs) (n2 : ∀ u xs, o0 ≠ .frz u (.tup xs)) : Tst K H (upd H D o) := fun a xs h => by
  have ne : ∀ {o1 : HO}, H a = some o1 → o1 ≠ o0 → a ≠ D := fun e z q => by
    rw [q, hD] at e
    exact z (Option.some.inj e).symm
  rcases h with (h | ⟨u, h⟩) | h
  · exact .inl (.inl (by rw [upd_ne (ne h (Ne.symm (n1 xs)))]; exact h))
  · exact .inl (.inr ⟨u, by rw [upd_ne (ne h (Ne.symm (n2 u xs)))]; exact h⟩)
  · exact .inr h
theorem vf_st {H H' : Hp} {a : Addr} {k : Fm} (h : VF K H a k) (g : Tst K H H') : VF K H' a k := g _ _ h
/-- the members' keys of a set that is built -/
theorem nd_at {α β : Type} [DecidableEq β] {f : α → β} {l : List α} {i : Nat} {x : α} (h : (l.map f).Nodup) (e : l[i]? = some x) : f x ∉ (l.take i).map f := fun hm => by
  obtain ⟨hi, ex⟩ := List.getElem?_eq_some_iff.mp e
  obtain ⟨y, hy, ef⟩ := List.mem_map.mp hm
  obtain ⟨j, hj, ey⟩ := List.getElem_of_mem hy
  have hj' : j < i := by
    rw [List.length_take] at hj
    omega
  rw [List.getElem_take] at ey
  have h1 : (l.map f)[j]'(by rw [List.length_map]; omega) = (l.map f)[i]'(by rw [List.length_map]; exact hi) := by
    rw [List.getElem_map, List.getElem_map, ey, ef, ex]
  exact List.pairwise_iff_getElem.mp h j i (by rw [List.length_map]; omega) (by rw [List.length_map]; exact hi) hj' h1
def spBook (K : PySem.W.Frag) : Sp := fun vs H Q _ => ∃ x d qs, vs = [x] ∧ BkV K H x d qs ∧ BOk d qs ∧ ∀ H', Gr H H' → Q (.bl true) H'
theorem sc_book : FnScope ["told", "d", "questions", "question"] ["told"] (defScope s_is_book) := ⟨rfl, rfl, rfl, by decide +kernel, rfl, by decide +kernel, by decide +kernel⟩
theorem cl_book (D : Df K mg "is_book" s_is_book) (B : Blt mg) (CM : Cl P w K mg base 2 "_is_many" ["d"] spMany) (CQ : Cl P w K mg base 5 "is_question_of" ["told", "d"] (spQuestOf K)) (CN : Cl P w K mg base 35 "nought_form" ["question"] (spNought K)) :
    Cl P w K mg base 37 "is_book" ["told"] (spBook K) := by
  refine D.cl (fun _ _ _ _ _ _ us hl => match us, hl with | [_], _ => rfl) fun f fd F => F.ok sc_book (fun vs H Q E h => ?_) (fun cdv A outer s H vs Q E hr h => ?_)
  · obtain ⟨x, d, qs, rfl, _⟩ := h
    rfl
  obtain ⟨x, d, qs, rfl, ⟨a, b, xs, rfl, ha, hb, hp⟩, ok, hq⟩ := h
  refine ⟨_, pss_cons (ps_if (PW.pt (by exact (pw_or (pt_not (pt_val (pe_isi "tuple" (pv 0) bootTup B.tup B.isi))) (pw_or1 (pt_cmpR op_ne (pe_len (pv 0) B.len) pe_int (nomark _)))))) pss_no pss_nil)
    (pss_cons (ps_asg (pv 0) (pg_tup rfl (pgs_cons (pg_name (i := 1) sc_book.nd rfl (Or.inl rfl)) (pgs_cons (pg_name (i := 2) sc_book.nd rfl (Or.inl rfl)) pgs_nil))))
    (pss_cons (ps_if (PW.pt (by exact (pw_or (pt_not (pt_val (pe_cl CM (hr.mono (by decide)) (pa_cons (pv 1) pa_nil)))) (pw_or1 (pt_not (pt_val (pe_isi "tuple" (pv 2) bootTup B.tup B.isi))))))) pss_no pss_nil)
    (pss_cons (ps_for PassesOwn.never rfl (pi_tup (pv 2)) (pg_name (i := 3) sc_book.nd rfl (Or.inl rfl))
      (pss_one (ps_if (pt_not (pt_val (pe_cl CQ (hr.mono (by decide)) (pa_cons (pv 3) (pa_cons (pv 1) pa_nil))))) pss_no pss_nil)))
    (pss_one (ps_ret (pe_cmpR op_eq (pe_callB len_setG rfl B.len PySem.boot_len (pa_cons (pe_sg (Q0 := trivial) (own := [("question", 3)]) (g := gName 3) rfl hr.units sc_book.nd (pi_tup (pv 2)) (blkOk_by (N := ["told", "d", "questions", "question"]) (sc := defScope s_is_book) (by decide +kernel)) (fun _ _ _ _ _ => pg_name (i := 3) sc_book.nd rfl (Or.inl rfl)) (fun _ _ _ _ _ => pts_nil)
      (fun _ _ _ _ _ => pe_cl CN (hr.mono (by decide)) (pa_cons (pv 3) pa_nil))) pa_nil)) (pe_len (pv 2) B.len) (nomark _))))))), ?_⟩
  refine ⟨_, rfl, _, _, .tup ha, kTT, _, rfl, iteF ⟨_, rfl, a, _, rfl, .inr ha, rfl, _, rfl, iteNS rfl ⟨_, rfl, a, _, rfl, ha, rfl, _, _, rfl, _, _, rfl, rfl, ?_⟩⟩⟩
  refine ⟨_, rfl, _, rfl, by have := ok.d1; omega, _, rfl, iteF ⟨_, rfl, _, _, .tup hb, kTT, _, rfl, iteF ?_⟩⟩
  have lx : xs.length = qs.length := paired_len hp
  refine ⟨_, rfl, b, rfl, ⟨_, hb⟩, for_tup (xs := xs) (fun i σ H1 => ∃ c, σ = [some (.ref a), some (.int (d : Int)), some (.ref b), c] ∧ Gr H H1) ⟨_, rfl, Gr.refl H⟩ (fun i σ H1 _ h => ?_) (fun i x σ H1 hx h => ?_) (fun σ H3 h => ?_)⟩
  · obtain ⟨c, rfl, gr⟩ := h
    exact gr.seqT hb
  · obtain ⟨c, rfl, gr⟩ := h
    obtain ⟨q, hq1, hn⟩ := paired_get hp hx
    obtain ⟨qo, ql⟩ := ok.ok q (List.mem_of_getElem? hq1)
    exact ⟨_, rfl, _, rfl, x, q, by rw [ql]; rfl, hn.gr gr, qo.nz, fun H' g4 => ⟨_, rfl, iteF ⟨some x, rfl, gr.trans g4⟩⟩⟩
  obtain ⟨c, rfl, g4⟩ := h
  have hb3 := g4.seqT hb
  refine ⟨_, rfl, b, rfl, ⟨_, hb3⟩, fun D nD => ?_⟩
  refine sg_tup (xs := xs) (fun i H => ∃ L : List (Addr × Fm), H D = some (SetGO P w D L) ∧ L.length = i ∧ GrD D H3 H ∧ (∀ p ∈ L, VF K H p.1 p.2) ∧ ∀ k, k ∈ L.map (·.2) ↔ k ∈ (qs.take i).map nfU)
    ⟨[], upd_same, rfl, (GrD.refl D H3).set _, fun p h => by simp at h, fun k => by simp⟩ (fun i H h1 h => ?_) (fun i x H hx h => ?_) (fun H h => ?_)
  · obtain ⟨L, hD, hl, gr, _⟩ := h
    exact (gr.to nD).seqT hb3
  · obtain ⟨L, hD, hl, gr, hv, hk⟩ := h
    obtain ⟨q, hq1, hn⟩ := paired_get hp hx
    have hi := (List.getElem?_eq_some_iff.mp hq1).1
    have l8 := ok.l8
    obtain ⟨qo, ql⟩ := ok.ok q (List.mem_of_getElem? hq1)
    have d8 := ok.d8
    have g5 := gr.to nD
    refine ⟨rfl, _, rfl, x, q, rfl, hn.gr (g4.trans g5), qo, by omega, fun a4 H4 g6 vf => ?_⟩
    have hD4 : H4 D = some (SetGO P w D L) := g6.keep D _ (fun _ z => by unfold SetGO at z; cases z) hD
    refine ⟨a4, nfU q, L, rfl, vf, hD4, fun p hp' => vf_st (hv p hp') g6.st, by omega, fun L' h1 h2 => ?_⟩
    have nin : nfU q ∉ L.map (·.2) := fun z => nd_at ok.nd hq1 ((hk _).mp z)
    have pm := h2 nin
    have tp : Tst K H4 (upd H4 D (SetGO P w D L')) := Tst.put2 hD4 (fun _ z => by unfold SetGO at z; cases z) (fun _ _ z => by unfold SetGO at z; cases z)
    refine ⟨L', upd_same, by rw [pm.length_eq, List.length_cons, hl], (gr.trans (g6.d D)).set _, fun p hp' => ?_, fun k => ?_⟩
    · rcases List.mem_cons.mp (pm.mem_iff.mp hp') with rfl | hp2
      · exact vf_st vf tp
      · exact vf_st (vf_st (hv p hp2) g6.st) tp
    · have e1 : k ∈ L'.map (·.2) ↔ k = nfU q ∨ k ∈ L.map (·.2) := by
        rw [(pm.map _).mem_iff, List.map_cons, List.mem_cons]
      rw [e1, hk k, List.take_add_one, hq1, Option.toList_some, List.map_append, List.mem_append, List.map_singleton, List.mem_singleton]
      exact Or.comm
  · obtain ⟨L, hD, hl, gr, _⟩ := h
    have g5 := gr.to nD
    refine ⟨D, L, rfl, hD, _, rfl, b, _, rfl, .inr (g5.seqT hb3), rfl, ?_⟩
    exact qd (by rw [hl]) (hq H (g4.trans g5))
end
end SB
namespace SB
open PySem L2 GxR GA RZ
section
variable {P : Program} {w : World} {K : PySem.W.Frag} {mg : Str → Option Value} {base : Heap}
/-- the tables that the program's defs want: how many, which -/
structure Tb5 (T : Nat → Addr) (H : Hp) : Prop where
  t : ∀ i, i < T 0 → TabG H (T (i + 1))
theorem Tb5.gr {T : Nat → Addr} {H H' : Hp} (t : Tb5 T H) (g : Gr H H') : Tb5 T H' := ⟨fun i h => g.tab _ (t.t i h)⟩
def spChkBk (K : PySem.W.Frag) (T : Nat → Addr) : Sp := fun vs H Q _ => ∃ x d qs, vs = [x] ∧ Tb5 T H ∧ BkV K H x d qs ∧ BOk d qs ∧ ∀ H', Gr H H' → Q .non H'
/-- the answer of a question at a point -/
def ansU (q : List Int × Int) (us : List (Int × Int)) : Int := sgn (worthU q us).1
def spAnsAt (K : PySem.W.Frag) : Sp := fun vs H Q _ => ∃ x y q us, vs = [x, y] ∧ QuV K H x q ∧ PtV K H y us ∧ QOk q ∧ UsOk us ∧ q.1.length = us.length ∧ ∀ H', Gr H H' → Q (.int (ansU q us)) H'
theorem worth_pos {q : List Int × Int} {us : List (Int × Int)} (h : ∀ u, u ∈ us → Lo u) : 0 < (worthU q us).2 := by
  refine sumU_pos (by show (0 : Int) < 1; decide) fun p hp => ?_
  exact (h p.2 (List.of_mem_zip (a := p.1) (b := p.2) hp).2).1
theorem sgn_eqr {r : Int × Int} {N D : Int} (h : Eqr r N D) (hr : 0 < r.2) (hD : 0 < D) : sgn r.1 = sgn N := by
  obtain ⟨a, _, b⟩ := eqr_sign h hr hD
  unfold sgn
  by_cases h1 : 0 < r.1
  · rw [if_pos h1, if_pos (a.mp h1)]
  · rw [if_neg h1, if_neg (fun z => h1 (a.mpr z))]
    by_cases h2 : r.1 < 0
    · rw [if_pos h2, if_pos (b.mp h2)]
    · rw [if_neg h2, if_neg (fun z => h2 (b.mpr z))]
def rowU (qs : List (List Int × Int)) (us : List (Int × Int)) : List Int := qs.map fun q => ansU q us
def spRowAt (K : PySem.W.Frag) : Sp := fun vs H Q _ => ∃ x y d qs us, vs = [x, y] ∧ BkV K H x d qs ∧ PtV K H y us ∧ BOk d qs ∧ UsOk us ∧ us.length = d ∧ ∀ v H', Gr H H' → SiV K H' v (rowU qs us) → Q v H'
def spAnswer (K : PySem.W.Frag) (T : Nat → Addr) : Sp := fun vs H Q _ => ∃ x y q us, vs = [x, y] ∧ Tb5 T H ∧ QuV K H x q ∧ PtV K H y us ∧ QOk q ∧ UsOk us ∧ q.1.length = us.length ∧ ∀ H', Gr H H' → Q (.int (ansU q us)) H'
def spRowOf (K : PySem.W.Frag) (T : Nat → Addr) : Sp := fun vs H Q _ => ∃ x y d qs us, vs = [x, y] ∧ Tb5 T H ∧ BkV K H x d qs ∧ PtV K H y us ∧ BOk d qs ∧ UsOk us ∧ us.length = d ∧ ∀ v H', Gr H H' → SiV K H' v (rowU qs us) → Q v H'
end
end SB
namespace SB
open PySem L2 GxR GA RZ
/-- a walk over two tuples side by side -/
theorem plan_zipT {K : PySem.W.Frag} {a b : Addr} {xs ys : List V} {g : TG} {te : TE} {σ0 : L2.St} {vs : List Nat} {QT QF : Hp → Prop} {H2 : Hp} (p : Nat → Prop) (hl : xs.length = ys.length) (hS : SqT K H2 a xs) (hS2 : SqT K H2 b ys)
    (step : ∀ i x y T H, xs[i]? = some x → ys[i]? = some y → Gr H2 H → H T = none → (∀ j, j < i → p j) → g (.ref T) σ0 (upd H T (.tup [x, y])) fun σ2 H3 => wipe σ2 vs = σ0 ∧ te σ2 H3 fun z H4 => ∃ b, z = .bl b ∧ (if b = true then Gr H2 H4 ∧ p i else QF H4))
    (fin : ∀ H, Gr H2 H → (∀ i, i < xs.length → p i) → QT H) : ∃ W : Nat → Nat → Hp → Prop, (∃ m, W 0 m H2) ∧ Plan (ItzT K a b) g tYes te σ0 vs QT QF W := by
  refine ⟨fun i m H => Gr H2 H ∧ i + m = xs.length ∧ ∀ j, j < i → p j, ⟨xs.length, Gr.refl _, Nat.zero_add _, fun j hj => absurd hj (Nat.not_lt_zero _)⟩, fun i m H w => ?_⟩
  obtain ⟨gr, hm, hp⟩ := w
  have hSi := gr.seqT hS
  have hSi2 := gr.seqT hS2
  cases m with
  | zero => exact .inl ⟨⟨xs, ys, hSi, hSi2, .inl (by omega)⟩, fin H gr fun j hj => hp j (by omega)⟩
  | succ m =>
    have hi : i < xs.length := by omega
    have hi2 : i < ys.length := by omega
    refine .inr ⟨⟨xs, ys, xs[i], ys[i], hSi, hSi2, List.getElem?_eq_getElem hi, List.getElem?_eq_getElem hi2⟩, fun H' => Gr H2 H' ∧ p i, fun H' h => ⟨m, Nat.lt_succ_self _, h.1, by omega, fun j hj => ?_⟩, fun v H' hy => ?_⟩
    · by_cases e : j = i
      · rw [e]
        exact h.2
      · exact hp j (by omega)
    · obtain ⟨T, x, y, rfl, nT, rfl, hx, hy2⟩ := hy
      exact step i x y T H (hx xs hSi) (hy2 ys hSi2) gr nT hp
section
variable {P : Program} {w : World} {K : PySem.W.Frag} {mg : Str → Option Value} {base : Heap}
def hopeV : Option Int → V
  | none => .non
  | some i => .int i
def fit1 (h : Option Int) (z : Int) : Bool := match h with
  | none => true
  | some i => decide (i = z)
def fitU (hs : List (Option Int)) (zs : List Int) : Bool := (hs.zip zs).all fun p => fit1 p.1 p.2
def HpOk (hs : List (Option Int)) : Prop := ∀ i, some i ∈ hs → -1 ≤ i ∧ i ≤ 1
def spFits (K : PySem.W.Frag) (T : Nat → Addr) : Sp := fun vs H Q _ => ∃ x a y d qs us hs, vs = [x, .ref a, y] ∧ Tb5 T H ∧ BkV K H x d qs ∧ SqT K H a (hs.map hopeV) ∧ PtV K H y us ∧ BOk d qs ∧ hs.length = qs.length ∧ HpOk hs ∧ UsOk us ∧ us.length = d ∧ ∀ H', Gr H H' → Q (.bl (fitU hs (rowU qs us))) H'
/-- two tuples put together -/
theorem rcat {H : Hp} {a b : Addr} {xs ys : List V} {Kc : VK} (ha : SqT K H a xs) (hb : SqT K H b ys) (hz : xs.length + ys.length ≤ 1000) (k : ∀ c H', Gr H H' → SqT K H' c (xs ++ ys) → Kc (.ref c) H') : L2.rCatA K (.ref a) (.ref b) H Kc := by
  refine ⟨a, b, xs, ys, rfl, rfl, ha, hb, szN (by omega), fun e => ?_, fun _ e => ?_, fun _ _ p np => ?_⟩
  · subst e
    exact k b H (Gr.refl _) hb
  · subst e
    exact k a H (Gr.refl _) (by rw [List.append_nil]; exact ha)
  · exact k p _ ((Gr.refl _).new np _) (SqT.of upd_same)
end
end SB
namespace SB
open PySem L2 GxR GA RZ
section
variable {P : Program} {w : World} {K : PySem.W.Frag} {mg : Str → Option Value} {base : Heap}
theorem cut_to (xs : List V) (i : Nat) (h : i ≤ xs.length) : cutV xs none (some (i : Int)) = xs.take i := by
  unfold cutV
  rw [HT.sIx_none, HT.sIx_nat, List.drop_zero, Nat.sub_zero, Nat.min_eq_left h]
theorem cut_from (xs : List V) (i : Nat) (h : i ≤ xs.length) : cutV xs (some (i : Int)) none = xs.drop i := by
  unfold cutV
  rw [HT.sIx_none, HT.sIx_nat, Nat.min_eq_left h, List.take_of_length_le]
  rw [List.length_drop]
  exact Nat.le_refl _
/-- the book with a question turned -/
def turnU (qs : List (List Int × Int)) (i : Nat) : List (List Int × Int) := match qs[i]? with
  | some q => (qs.take i ++ [negU q]) ++ qs.drop (i + 1)
  | none => qs
theorem paired_app {α β : Type} {F : α → β → Prop} : ∀ {xs xs' : List α} {ys ys' : List β}, Paired F xs ys → Paired F xs' ys' → Paired F (xs ++ xs') (ys ++ ys')
  | _, _, _, _, .nil, h => h
  | _, _, _, _, .cons r t, h => .cons r (paired_app t h)
theorem paired_take {α β : Type} {F : α → β → Prop} : ∀ {xs : List α} {ys : List β} (n : Nat), Paired F xs ys → Paired F (xs.take n) (ys.take n)
  | _, _, 0, _ => by simp only [List.take_zero]; exact .nil
  | _, _, _ + 1, .nil => .nil
  | _, _, n + 1, .cons r t => .cons r (paired_take n t)
theorem paired_drop {α β : Type} {F : α → β → Prop} : ∀ {xs : List α} {ys : List β} (n : Nat), Paired F xs ys → Paired F (xs.drop n) (ys.drop n)
  | _, _, 0, h => h
  | _, _, _ + 1, .nil => .nil
  | _, _, n + 1, .cons r t => paired_drop n t
def spTurned (K : PySem.W.Frag) (T : Nat → Addr) : Sp := fun vs H Q _ => ∃ x d qs i, vs = [x, .int ((i : Nat) : Int)] ∧ Tb5 T H ∧ BkV K H x d qs ∧ BOk d qs ∧ i < qs.length ∧ ∀ v H', Gr H H' → BkV K H' v d (turnU qs i) → Q v H'
end
end SB
namespace SB
open PySem L2 GxR GA
/-- the same data, of nesting n at most -/
def Alike (K : PySem.W.Frag) (H : Hp) : Nat → V → V → Prop
  | 0 => fun _ _ => False
  | n + 1 => fun x y => (x = y ∧ scB x = true) ∨ ∃ (a b : Addr) (xs ys : List V), x = .ref a ∧ y = .ref b ∧ ys.length ≤ sizeLine ∧ ((SqT K H a xs ∧ SqT K H b ys) ∨ (SqL K H a xs ∧ SqL K H b ys)) ∧ Paired (Alike K H n) xs ys
theorem Alike.gr {K : PySem.W.Frag} {H H' : Hp} (e : Gr H H') : ∀ {n : Nat} {x y : V}, Alike K H n x y → Alike K H' n x y
  | 0, _, _, h => h.elim
  | n + 1, x, y, h => by
    rcases h with h | ⟨a, b, xs, ys, rfl, rfl, hz, h, p⟩
    · exact .inl h
    · refine .inr ⟨a, b, xs, ys, rfl, rfl, hz, ?_, Paired.mapP p fun _ _ q => Alike.gr e q⟩
      rcases h with ⟨h1, h2⟩ | ⟨h1, h2⟩
      · exact .inl ⟨Gr.seqT e h1, Gr.seqT e h2⟩
      · exact .inr ⟨e.seqL h1, e.seqL h2⟩
theorem Alike.more {K : PySem.W.Frag} {H : Hp} : ∀ {n : Nat} {x y : V}, Alike K H n x y → Alike K H (n + 1) x y
  | 0, _, _, h => h.elim
  | n + 1, x, y, h => by
    rcases h with h | ⟨a, b, xs, ys, rfl, rfl, hz, h, p⟩
    · exact .inl h
    · exact .inr ⟨a, b, xs, ys, rfl, rfl, hz, h, Paired.mapP p fun _ _ q => Alike.more q⟩
theorem paired_at {α β : Type} {F : α → β → Prop} : ∀ {xs : List α} {ys : List β}, Paired F xs ys → ∀ i, i < ys.length → ∃ x y, xs[i]? = some x ∧ ys[i]? = some y ∧ F x y
  | _, _, .nil, i, h => absurd h (Nat.not_lt_zero i)
  | _, _, .cons r t, 0, _ => ⟨_, _, rfl, rfl, r⟩
  | _, _, .cons r t, i + 1, h => by
    obtain ⟨x, y, e1, e2, q⟩ := paired_at t i (Nat.lt_of_succ_lt_succ h)
    exact ⟨x, y, by simpa using e1, by simpa using e2, q⟩
/-- the two are the same data: the answer is True -/
def spSame (K : PySem.W.Frag) (n : Nat) : Sp := fun vs H Q _ => ∃ x y : V, vs = [x, y] ∧ Alike K H n x y ∧ ∀ H', Gr H H' → Q (.bl true) H'
section
variable {P : Program} {w : World} {K : PySem.W.Frag} {mg : Str → Option Value} {base : Heap}
theorem szL2 : (2 : Nat) ≤ sizeLine := by decide
theorem qt {Q : VK} {H : Hp} {b : Bool} (e : b = true) (q : Q (.bl true) H) : Q (.bl b) H := by
  rw [e]
  exact q
theorem szL0 : (0 : Nat) ≤ sizeLine := by decide
end
end SB
namespace SB
open PySem L2 GxR GA
/-- the deck as it may stand at d -/
def DeckAt (d : Addr) (H : Hp) : Prop := ∃ a b : Int, H d = some (.lst [.int a, .int b]) ∧ 0 ≤ b ∧ b < 2 ^ 64
theorem DeckAt.gr {d : Addr} {H H' : Hp} (h : DeckAt d H) (g : Gr H H') : DeckAt d H' := let ⟨a, b, e, r⟩ := h; ⟨a, b, g.keep _ _ (fun _ z => nomatch z) e, r⟩
theorem GrD.st {K : PySem.W.Frag} {d : Addr} {H H' : Hp} (g : GrD d H H') (h : DeckAt d H) : Tst K H H' := fun a xs q => by
  obtain ⟨u, v, e, _⟩ := h
  exact g.seqT e q
/-- a deck: a new list of two ints -/
def spDeck (K : PySem.W.Frag) : Sp := fun vs H Q _ => ∃ (l : Addr) (ns : List Int) (k : Int), vs = [.ref l, .int k] ∧ SqL K H l (ns.map V.int) ∧ ns.length ≤ 63 ∧ 0 ≤ k ∧ k < 1000 ∧
  ∀ (p : Addr) (a b : Int), H p = none → 0 ≤ b → b < 2305843009213693951 → Q (.ref p) (upd H p (.lst [.int a, .int b]))
def spTake : Sp := fun vs H Q _ => ∃ (d : Addr) (many : Int), vs = [.ref d, .int many] ∧ DeckAt d H ∧ 1 ≤ many ∧ many.natAbs < 2 ^ 8000 ∧
  ∀ (t : Int) H', 0 ≤ t → t < many → GrD d H H' → DeckAt d H' → Q (.int t) H'
section
variable {P : Program} {w : World} {K : PySem.W.Frag} {mg : Str → Option Value} {base : Heap}
theorem modB (x : Int) {m : Int} (h : 0 < m) : 0 ≤ x % m ∧ x % m < m := ⟨Int.emod_nonneg _ (by omega), Int.emod_lt_of_pos _ h⟩
theorem atL {ns : List Int} {k : Int} (h0 : 0 ≤ k) (h : k < (ns.length : Int)) : ∃ z : Int, atI (ns.map V.int) k = some (.int z) := by
  have hk : k.toNat < ns.length := by omega
  have ek : ((k.toNat : Nat) : Int) = k := Int.toNat_of_nonneg h0
  refine ⟨ns[k.toNat], ?_⟩
  have q : atI (ns.map V.int) ((k.toNat : Nat) : Int) = some (.int ns[k.toNat]) := atI_nat (by rw [List.getElem?_map, List.getElem?_eq_getElem hk] <;> rfl)
  rwa [ek] at q
end
section
variable {P : Program} {w : World} {K : PySem.W.Frag} {mg : Str → Option Value} {base : Heap}
end
end SB
namespace SB
open PySem L2 GxR GA
section
variable {P : Program} {w : World} {K : PySem.W.Frag} {mg : Str → Option Value} {base : Heap}
def spGcd : Sp := fun vs H Q _ => ∃ u v : Nat, vs = [.int (u : Int), .int (v : Int)] ∧ Q (.int ((Nat.gcd u v : Nat) : Int)) H
def spPair (K : PySem.W.Frag) : Sp := fun vs H Q _ => ∃ t b : Int, vs = [.int t, .int b] ∧ b ≠ 0 ∧ Wd 310000 (t, b) ∧ ∀ v r H', Gr H H' → NuV K H' v r → Lo r → Eqr r t b → r.1.natAbs ≤ t.natAbs → r.2.natAbs ≤ b.natAbs → Q v H'
def spTenth : Sp := fun vs H Q _ => ∃ k : Nat, vs = [.int (k : Int)] ∧ k ≤ 64 ∧ Q (.int ((10 : Int) ^ k)) H
end
end SB
namespace ZM
open PySem PySem.Spec L2 RZ
/-- what an iterator over a row of items must do: It, the iterator; Sq, the row -/
structure Runs1 (prog : Program) (w : World) (It : Heap → Addr → Addr → Nat → Prop) (Sq : Heap → Addr → Array Value → Prop) : Prop where
  stay : ∀ {h h' : Heap} {i l b : Addr} {k : Nat}, It h i l k → Heap.ExtBut b h h' → i ≠ b → It h' i l k
  sits : ∀ {h h' : Heap} {l b : Addr} {v : Array Value}, Sq h l v → Heap.ExtBut b h h' → l ≠ b → Sq h' l v
  here : ∀ {h : Heap} {i l : Addr} {k : Nat}, It h i l k → ∃ o, h.get? i = some o ∧ ∀ z, o.data ≠ .cell z
  same : ∀ {h h' : Heap} {i l : Addr} {k : Nat}, It h i l k → (∀ o, h.get? i = some o → h'.get? i = some o) → It h' i l k
  more : ∀ {A : Around} {E : Value → Shared → Prop} {s : Shared} {i l : Addr} {k : Nat} {v : Array Value} {x : Value} {Q : Value → Shared → Prop}, It s.heap i l k → Sq s.heap l v → v[k]? = some x →
    (∀ h', It h' i l (k + 1) → Heap.SameBut i s.heap h' → Q x { s with heap := h' }) → wpAny (model prog w) A (Builtin.SmallTypes.nextOf (.ref i)) Q E s
  ends : ∀ {A : Around} {E : Value → Shared → Prop} {s : Shared} {i l : Addr} {k : Nat} {v : Array Value} {Q : Value → Shared → Prop}, A.handled = none → It s.heap i l k → Sq s.heap l v → v[k]? = none →
    (∀ h' e, Heap.ExtBut i s.heap h' → (∃ o, h'.get? e = some o ∧ o.cls = .type "StopIteration") → E (.ref e) { s with heap := h' }) → wpAny (model prog w) A (Builtin.SmallTypes.nextOf (.ref i)) Q E s
theorem runs_list {prog : Program} {w : World} : Runs1 prog w (fun h i l k => h.IsListIter i l k) (fun h l v => h.IsList l v) :=
  ⟨fun x e n => x.extBut e n, fun x e n => x.extBut e n, fun ⟨o, e, _, d⟩ => ⟨o, e, fun z q => by rw [d] at q; cases q⟩, fun x k => x.at k, fun a b c d => wpAny_nextOf_list_item a b c d, fun hh a b c d => wpAny_nextOf_list_end hh a b c d⟩
theorem runs_tup {prog : Program} {w : World} : Runs1 prog w (fun h i l k => h.IsTupleIter i l k) (fun h l v => h.IsTuple l v) :=
  ⟨fun x e n => x.extBut e n, fun x e n => x.extBut e n, fun ⟨o, e, _, d⟩ => ⟨o, e, fun z q => by rw [d] at q; cases q⟩, fun x k => x.at k, fun a b c d => nextOf_tuple_item a b c d, fun hh a b c d => nextOf_tuple_end hh a b c d⟩
/-- nothing but the zip, its own pair and the two iterators has changed -/
abbrev Kept (z TO i1 i2 : Addr) (h h' : Heap) : Prop := ∀ c o, c ≠ z → c ≠ TO → c ≠ i1 → c ≠ i2 → h.get? c = some o → h'.get? c = some o
section
variable {prog : Program} {w : World} {A : Around} {E : Value → Shared → Prop} {s : Shared} {I1 I2 : Heap → Addr → Addr → Nat → Prop} {S1 S2 : Heap → Addr → Array Value → Prop}
  {z TI TO i1 i2 l1 l2 : Addr} {k1 k2 : Nat} {xs ys : Array Value} {x y a b : Value}
theorem zip_more (r1 : Runs1 prog w I1 S1) (r2 : Runs1 prog w I2 S2) {Q : Value → Shared → Prop} (D : ZipApart z TI TO i1 i2 l1 l2) (hz : IsZip s.heap z TI TO .none) (hTI : IsPair s.heap TI (.ref i1) (.ref i2)) (hTO : IsPair s.heap TO a b)
    (h1 : I1 s.heap i1 l1 k1) (h2 : I2 s.heap i2 l2 k2) (hl1 : S1 s.heap l1 xs) (hl2 : S2 s.heap l2 ys) (hx : xs[k1]? = some x) (hy : ys[k2]? = some y)
    (hQ : ∀ h', IsZip h' z TI TO (rawInt s.heap.objs.size) → IsPair h' TO x y → I1 h' i1 l1 (k1 + 1) → I2 h' i2 l2 (k2 + 1) → IsPair h' s.heap.objs.size x y → h'.objs.size = s.heap.objs.size + 1 → Kept z TO i1 i2 s.heap h' → Q (.ref s.heap.objs.size) { s with heap := h' }) :
    wpAny (model prog w) A (Builtin.«zip.__next__» ⟨[.ref z], []⟩) (fun fin s' => ∃ v, fin = .done (.ret v) ∧ Q v s') E s := by
  show wpAny _ _ (field (.ref z) 2 >>= _) _ _ _
  refine wpAny_bind (wpAny_field hz rfl (x := .bool false) rfl ?_)
  show wpAny _ _ (field (.ref z) 3 >>= _) _ _ _
  refine wpAny_bind (wpAny_field hz rfl (x := .ref TI) rfl (wpAny_bind (wpAny_seqItems hTI rfl ?_)))
  show wpAny _ _ (Builtin.SmallTypes.ownedTupleIsFree (.ref z) >>= _) _ _ _
  unfold Builtin.SmallTypes.ownedTupleIsFree
  refine wpAny_bind (wpAny_bind (wpAny_field hz rfl (x := .none) rfl (wpAny_pure ?_)))
  simp only [if_true]
  refine wpAny_bind (wpAny_rule (wpAny_bind (wpAny_field hz rfl (x := .ref TO) rfl (wpAny_bind (wpAny_setField_rec hz (by simp) fun g1 z1 e1 => ?_)))))
  have z1' : IsZip g1 z TI TO .ellipsis := z1
  refine wpAny_bind ?_
  simp only [List.zipIdx_cons, List.zipIdx_nil, List.forIn_cons, List.forIn_nil]
  refine wpAny_bind (wpAny_bind (wpAny_onRaise ?_))
  show wpAny _ _ (Builtin.SmallTypes.nextOf (.ref i1) >>= _) _ _ _
  refine wpAny_bind (r1.more (r1.stay h1 e1.extBut D.i1z) (r1.sits hl1 e1.extBut D.l1z) hx fun g2 n2 e2 => wpAny_pure ?_)
  have o2 : IsPair g2 TO a b := e2.extBut _ _ D.TOi1 (e1.extBut _ _ D.TOz hTO)
  refine wpAny_bind (wpAny_seqItems o2 rfl (wpAny_bind (wpAny_updateSeq_pair o2 fun g3 o3 e3 => wpAny_bind (wpAny_letGo (wpAny_pure ?_)))))
  have o3' : IsPair g3 TO x b := o3
  refine wpAny_bind (wpAny_bind (wpAny_onRaise ?_))
  show wpAny _ _ (Builtin.SmallTypes.nextOf (.ref i2) >>= _) _ _ _
  refine wpAny_bind (r2.more (r2.stay (r2.stay (r2.stay h2 e1.extBut D.i2z) e2.extBut D.i12.symm) e3.extBut D.TOi2.symm) (r2.sits (r2.sits (r2.sits hl2 e1.extBut D.l2z) e2.extBut D.l2i1) e3.extBut D.l2TO) hy fun g4 n4 e4 => wpAny_pure ?_)
  have o4 : IsPair g4 TO x b := e4.extBut _ _ D.TOi2 o3'
  refine wpAny_bind (wpAny_seqItems o4 rfl (wpAny_bind (wpAny_updateSeq_pair o4 fun g5 o5 e5 => wpAny_bind (wpAny_letGo (wpAny_pure (wpAny_pure ?_))))))
  have o5' : IsPair g5 TO x y := o5
  refine wpAny_bind (wpAny_seqItems o5' rfl (wpAny_bind (wpAny_newTuple ?_)))
  have sz : g5.objs.size = s.heap.objs.size := by rw [e5.1, e4.1, e3.1, e2.1, e1.1]
  have z5 : IsZip g5 z TI TO .ellipsis := e5.extBut _ _ D.TOz.symm (e4.extBut _ _ D.i2z.symm (e3.extBut _ _ D.TOz.symm (e2.extBut _ _ D.i1z.symm z1')))
  have kp : Kept z TO i1 i2 s.heap g5 := fun c o c1 c2 c3 c4 e => e5.extBut _ _ c2 (e4.extBut _ _ c4 (e3.extBut _ _ c2 (e2.extBut _ _ c3 (e1.extBut _ _ c1 e))))
  have m1 : I1 g5 i1 l1 (k1 + 1) := r1.stay (r1.stay (r1.stay n2 e3.extBut D.TOi1.symm) e4.extBut D.i12) e5.extBut D.TOi1.symm
  have m2 : I2 g5 i2 l2 (k2 + 1) := r2.stay n4 e5.extBut D.TOi2.symm
  have zl : z < g5.objs.size := Heap.lt_size z5
  show wpAny _ _ (Builtin.SmallTypes.ownedTupleHandOut (.ref z) (.ref g5.objs.size) >>= _) _ _ _
  unfold Builtin.SmallTypes.ownedTupleHandOut
  have z6 : IsZip (g5.push { cls := .type "tuple", data := .seq #[x, y] }) z TI TO .ellipsis := Heap.get?_push_of_some _ z5
  refine wpAny_bind (wpAny_bind (wpAny_setField_rec z6 (by simp) fun g7 z7 e7 => ?_))
  have z7' : IsZip g7 z TI TO (rawInt g5.objs.size) := z7
  refine wpAny_setField_rec z7' (by simp) fun g8 z8 e8 => ?_
  have z8' : IsZip g8 z TI TO (rawInt g5.objs.size) := z8
  have up : ∀ c o, c ≠ z → g5.get? c = some o → g8.get? c = some o := fun c o n e => e8.extBut _ _ n (e7.extBut _ _ n (Heap.get?_push_of_some _ e))
  have pr : IsPair g8 g5.objs.size x y := e8.extBut _ _ (Nat.ne_of_gt zl) (e7.extBut _ _ (Nat.ne_of_gt zl) (Heap.get?_push_size _ rfl))
  have s8 : g8.objs.size = g5.objs.size + 1 := by rw [e8.1, e7.1, Heap.size_push]
  rw [sz] at z8' pr s8
  refine wpAny_pure ⟨_, rfl, ?_⟩
  show Q (.ref g5.objs.size) _
  rw [sz]
  exact hQ g8 z8' (up _ _ D.TOz o5') (r1.same m1 fun o e => up _ o D.i1z e) (r2.same m2 fun o e => up _ o D.i2z e) pr s8 fun c o c1 c2 c3 c4 e => up c o c1 (kp c o c1 c2 c3 c4 e)
theorem zip_ends (r1 : Runs1 prog w I1 S1) (r2 : Runs1 prog w I2 S2) {Q : Fin → Shared → Prop} (hh : A.handled = none) (D : ZipApart z TI TO i1 i2 l1 l2) (hz : IsZip s.heap z TI TO .none) (hTI : IsPair s.heap TI (.ref i1) (.ref i2)) (hTO : IsPair s.heap TO a b)
    (h1 : I1 s.heap i1 l1 k1) (h2 : I2 s.heap i2 l2 k2) (hl1 : S1 s.heap l1 xs) (hl2 : S2 s.heap l2 ys) (hend : xs[k1]? = none ∨ ys[k2]? = none)
    (hE : ∀ h' e, Kept z TO i1 i2 s.heap h' → (∃ o, h'.get? e = some o ∧ o.cls = .type "StopIteration") → E (.ref e) { s with heap := h' }) : wpAny (model prog w) A (Builtin.«zip.__next__» ⟨[.ref z], []⟩) Q E s := by
  show wpAny _ _ (field (.ref z) 2 >>= _) _ _ _
  refine wpAny_bind (wpAny_field hz rfl (x := .bool false) rfl ?_)
  show wpAny _ _ (field (.ref z) 3 >>= _) _ _ _
  refine wpAny_bind (wpAny_field hz rfl (x := .ref TI) rfl (wpAny_bind (wpAny_seqItems hTI rfl ?_)))
  show wpAny _ _ (Builtin.SmallTypes.ownedTupleIsFree (.ref z) >>= _) _ _ _
  unfold Builtin.SmallTypes.ownedTupleIsFree
  refine wpAny_bind (wpAny_bind (wpAny_field hz rfl (x := .none) rfl (wpAny_pure ?_)))
  simp only [if_true]
  refine wpAny_bind (wpAny_rule (wpAny_bind (wpAny_field hz rfl (x := .ref TO) rfl (wpAny_bind (wpAny_setField_rec hz (by simp) fun g1 z1 e1 => ?_)))))
  have z1' : IsZip g1 z TI TO .ellipsis := z1
  have noz : ∀ {g : Heap} {e : Addr} {o : Obj}, IsZip g z TI TO .ellipsis → g.get? e = some o → o.cls = .type "StopIteration" → e ≠ z := fun {g e o} hg ho hc q => by
    rw [q, hg] at ho
    cases ho
    simp at hc
  refine wpAny_bind ?_
  simp only [List.zipIdx_cons, List.zipIdx_nil, List.forIn_cons, List.forIn_nil]
  refine wpAny_bind (wpAny_bind (wpAny_onRaise ?_))
  show wpAny _ _ (Builtin.SmallTypes.nextOf (.ref i1) >>= _) _ _ _
  cases hx : xs[k1]? with
  | none =>
    refine wpAny_bind (r1.ends hh (r1.stay h1 e1.extBut D.i1z) (r1.sits hl1 e1.extBut D.l1z) hx fun g2 e e2 ⟨oe, ho, hc⟩ => ?_)
    have z2 : IsZip g2 z TI TO .ellipsis := e2 _ _ D.i1z.symm z1'
    exact wpAny_setField_rec z2 (by simp) fun g3 _ e3 => hE g3 e (fun c o c1 _ c3 _ q => e3.extBut _ _ c1 (e2 _ _ c3 (e1.extBut _ _ c1 q))) ⟨oe, e3.extBut _ _ (noz z2 ho hc) ho, hc⟩
  | some x =>
    have hy : ys[k2]? = none := hend.elim (fun q => by rw [hx] at q; cases q) id
    refine wpAny_bind (r1.more (r1.stay h1 e1.extBut D.i1z) (r1.sits hl1 e1.extBut D.l1z) hx fun g2 n2 e2 => wpAny_pure ?_)
    have o2 : IsPair g2 TO a b := e2.extBut _ _ D.TOi1 (e1.extBut _ _ D.TOz hTO)
    refine wpAny_bind (wpAny_seqItems o2 rfl (wpAny_bind (wpAny_updateSeq_pair o2 fun g3 o3 e3 => wpAny_bind (wpAny_letGo (wpAny_pure ?_)))))
    refine wpAny_bind (wpAny_bind (wpAny_onRaise ?_))
    show wpAny _ _ (Builtin.SmallTypes.nextOf (.ref i2) >>= _) _ _ _
    refine wpAny_bind (r2.ends hh (r2.stay (r2.stay (r2.stay h2 e1.extBut D.i2z) e2.extBut D.i12.symm) e3.extBut D.TOi2.symm) (r2.sits (r2.sits (r2.sits hl2 e1.extBut D.l2z) e2.extBut D.l2i1) e3.extBut D.l2TO) hy fun g4 e e4 ⟨oe, ho, hc⟩ => ?_)
    have z4 : IsZip g4 z TI TO .ellipsis := e4 _ _ D.i2z.symm (e3.extBut _ _ D.TOz.symm (e2.extBut _ _ D.i1z.symm z1'))
    exact wpAny_setField_rec z4 (by simp) fun g5 _ e5 => hE g5 e (fun c o c1 c2 c3 c4 q => e5.extBut _ _ c1 (e4 _ _ c4 (e3.extBut _ _ c2 (e2.extBut _ _ c3 (e1.extBut _ _ c1 q))))) ⟨oe, e5.extBut _ _ (noz z4 ho hc) ho, hc⟩
end
end ZM
namespace ZM
open PySem PySem.Spec L2 RZ
section
variable {prog : Program} {w : World} {A : Around} {E : Value → Shared → Prop} {s : Shared} {z TI TO i1 i2 l1 l2 : Addr} {k1 k2 : Nat} {xs ys : Array Value} {x y a b : Value}
/-- the zip's next, a tuple beside a list -/
theorem next_more {Q : Option Value → Shared → Prop} (D : ZipApart z TI TO i1 i2 l1 l2) (hz : IsZip s.heap z TI TO .none) (hTI : IsPair s.heap TI (.ref i1) (.ref i2)) (hTO : IsPair s.heap TO a b)
    (h1 : s.heap.IsTupleIter i1 l1 k1) (h2 : s.heap.IsListIter i2 l2 k2) (hl1 : s.heap.IsTuple l1 xs) (hl2 : s.heap.IsList l2 ys) (hx : xs[k1]? = some x) (hy : ys[k2]? = some y)
    (hQ : ∀ h', IsZip h' z TI TO (rawInt s.heap.objs.size) → IsPair h' TO x y → h'.IsTupleIter i1 l1 (k1 + 1) → h'.IsListIter i2 l2 (k2 + 1) → IsPair h' s.heap.objs.size x y → Kept z TO i1 i2 s.heap h' → Q (some (.ref s.heap.objs.size)) { s with heap := h' }) :
    wpAny (model prog w) A (pyNext (.ref z)) Q E s := by
  have hT : s.TypeIs (.ref z) "zip" := ⟨_, hz, rfl⟩
  unfold pyNext
  refine wpAny_bind (wpAny_attempt (wpAny_callSpecial?_slot (name := Str.ofString "__next__") hT F.slot_zip_next (wpAny_call_entry F.slot_zip_next hT F.entry_zip_next ?_ (F.args_zip_next_1 _))))
  exact zip_more runs_tup runs_list D hz hTI hTO h1 h2 hl1 hl2 hx hy fun h' a1 a2 a3 a4 a5 _ a7 => wpAny_pure (hQ h' a1 a2 a3 a4 a5 a7)
theorem next_ends {Q : Option Value → Shared → Prop} (hh : A.handled = none) (D : ZipApart z TI TO i1 i2 l1 l2) (hz : IsZip s.heap z TI TO .none) (hTI : IsPair s.heap TI (.ref i1) (.ref i2)) (hTO : IsPair s.heap TO a b)
    (h1 : s.heap.IsTupleIter i1 l1 k1) (h2 : s.heap.IsListIter i2 l2 k2) (hl1 : s.heap.IsTuple l1 xs) (hl2 : s.heap.IsList l2 ys) (hend : xs[k1]? = none ∨ ys[k2]? = none)
    (hQ : ∀ h', Kept z TO i1 i2 s.heap h' → Q none { s with heap := h' }) : wpAny (model prog w) A (pyNext (.ref z)) Q E s := by
  have hT : s.TypeIs (.ref z) "zip" := ⟨_, hz, rfl⟩
  unfold pyNext
  refine wpAny_bind (wpAny_attempt (wpAny_callSpecial?_slot (name := Str.ofString "__next__") hT F.slot_zip_next (wpAny_call_entry F.slot_zip_next hT F.entry_zip_next ?_ (F.args_zip_next_1 _))))
  refine zip_ends runs_tup runs_list hh D hz hTI hTO h1 h2 hl1 hl2 hend fun h' e hk ⟨o, ho, hc⟩ => ?_
  exact wpAny_bind (wpAny_isInstance (T := "StopIteration") (b := true) ⟨o, ho, hc⟩ isSubtype_stop (wpAny_pure (hQ _ hk)))
end
abbrev mH1 (h : Heap) (a : Addr) : Heap := h.push { cls := .type "tuple_iterator", data := .fields #[.ref a, .int 0 0] }
abbrev mH2 (h : Heap) (a b : Addr) : Heap := (mH1 h a).push { cls := .type "list_iterator", data := .fields #[.ref b, .int 0 0] }
abbrev mH3 (h : Heap) (a b : Addr) : Heap := (mH2 h a b).push { cls := .type "tuple", data := .seq #[.ref h.objs.size, .ref (mH1 h a).objs.size] }
abbrev mH4 (h : Heap) (a b : Addr) : Heap := (mH3 h a b).push { cls := .type "tuple", data := .seq #[.none, .none] }
abbrev mH5 (h : Heap) (a b : Addr) : Heap := (mH4 h a b).push { cls := .type "zip", data := .fields #[.none, .bool false, .bool false, .ref (mH2 h a b).objs.size, .ref (mH3 h a b).objs.size] }
theorem meets_mixed (a b : Addr) (xs ys : Array Value) :
    Meets (Builtin.«zip.__new__» ⟨[.type "zip", .ref a, .ref b], []⟩) (fun _ R s => s.heap.IsTuple a xs ∧ s.heap.IsList b ys ∧ R (.ok (.ret (.ref (mH4 s.heap a b).objs.size))) { s with heap := mH5 s.heap a b }) :=
  .of_wp fun prog w A R s h => by
    obtain ⟨hp, g, d, tk, os⟩ := s
    obtain ⟨q1, q2, h⟩ := h
    have hsub := sub_zip
    have r1 : Heap.IsTuple (Shared.heap ⟨hp, g, d, tk, os⟩) a xs := q1
    have r2 : Heap.IsList (Shared.heap ⟨hp.push { cls := .type "tuple_iterator", data := .fields #[.ref a, .int 0 0] }, g, d, tk, os⟩) b ys := Heap.IsList.push q2 _
    wp_walk using wpAny_pyIter_tuple r1, wpAny_pyIter_list r2
    exact ⟨_, rfl, h⟩
theorem call_mixed {prog : Program} {w : World} {A : Around} {E : Value → Shared → Prop} {s : Shared} {a b : Addr} {xs ys : Array Value} {Q : Value → Shared → Prop} (ha : s.heap.IsTuple a xs) (hb : s.heap.IsList b ys)
    (h : ∀ h', IsZip h' (s.heap.objs.size + 4) (s.heap.objs.size + 2) (s.heap.objs.size + 3) .none → IsPair h' (s.heap.objs.size + 2) (.ref s.heap.objs.size) (.ref (s.heap.objs.size + 1)) → IsPair h' (s.heap.objs.size + 3) .none .none →
      h'.IsTupleIter s.heap.objs.size a 0 → h'.IsListIter (s.heap.objs.size + 1) b 0 → (∀ c o, s.heap.get? c = some o → h'.get? c = some o) → Q (.ref (s.heap.objs.size + 4)) { s with heap := h' }) :
    wpAny (model prog w) A (call (.type "zip") [.ref a, .ref b]) Q E s := by
  refine callType_new F.called_zip (by decide) (F.typeCall_zip_2 _ _) (F.newCall_zip_2 _ _) (fun obj => F.args_object_init_3 obj _ _) F.entry_zip_new (meets_mixed a b xs ys) ⟨ha, hb, ?_⟩
  have n1 : (mH1 s.heap a).objs.size = s.heap.objs.size + 1 := Heap.size_push ..
  have n2 : (mH2 s.heap a b).objs.size = s.heap.objs.size + 2 := by rw [Heap.size_push, n1]
  have n3 : (mH3 s.heap a b).objs.size = s.heap.objs.size + 3 := by rw [Heap.size_push, n2]
  have n4 : (mH4 s.heap a b).objs.size = s.heap.objs.size + 4 := by rw [Heap.size_push, n3]
  have up : ∀ {h : Heap} {c : Addr} {o : Obj} (u : Obj), h.get? c = some o → (h.push u).get? c = some o := fun u e => Heap.get?_push_of_some _ e
  have p5 : (mH5 s.heap a b).get? (mH4 s.heap a b).objs.size = some _ := Heap.get?_push_size _ rfl
  have p4 : (mH5 s.heap a b).get? (mH3 s.heap a b).objs.size = some _ := up _ (Heap.get?_push_size _ rfl)
  have p3 : (mH5 s.heap a b).get? (mH2 s.heap a b).objs.size = some _ := up _ (up _ (Heap.get?_push_size _ rfl))
  have p2 : (mH5 s.heap a b).get? (mH1 s.heap a).objs.size = some _ := up _ (up _ (up _ (Heap.get?_push_size _ rfl)))
  have p1 : (mH5 s.heap a b).get? s.heap.objs.size = some _ := up _ (up _ (up _ (up _ (Heap.get?_push_size _ rfl))))
  show _ ∧ _
  rw [n2, n3, n4] at p5
  rw [n1, n2] at p3
  rw [n3] at p4
  rw [n1] at p2
  rw [n4]
  exact ⟨⟨_, p5, rfl⟩, h _ p5 p3 p4 ⟨_, p1, rfl, rfl⟩ ⟨_, p2, rfl, rfl⟩ fun c o e => up _ (up _ (up _ (up _ (up _ e))))⟩
/-- a tuple and a list, side by side -/
def ItzM (K : PySem.W.Frag) (a b : Addr) : It where
  go := fun i H => ∃ (xs ys : List V) (x y : V), SqT K H a xs ∧ SqL K H b ys ∧ xs[i]? = some x ∧ ys[i]? = some y
  yld := fun i H v H' => ∃ T x y, v = .ref T ∧ H T = none ∧ H' = upd H T (.tup [x, y]) ∧ (∀ xs, SqT K H a xs → xs[i]? = some x) ∧ ∀ ys, SqL K H b ys → ys[i]? = some y
  stop := fun i H => ∃ xs ys : List V, SqT K H a xs ∧ SqL K H b ys ∧ (xs.length ≤ i ∨ ys.length ≤ i)
theorem five {c z TI TO i1 i2 : Addr} (h : c ∈ [z, TI, TO, i1, i2]) : c = z ∨ c = TI ∨ c = TO ∨ c = i1 ∨ c = i2 := by simpa using h
theorem turn_mixed {P : Program} {w : World} {K : PySem.W.Frag} {elts : List Expr} {kk : Nat} {tpos : Pos} {a b z TI TO i1 i2 : Addr} (D : ZipApart z TI TO i1 i2 a b) :
    Turn P w K (.Tuple elts kk tpos) (ItzM K a b) [z, TI, TO, i1, i2] z (fun i h => IsZip h z TI TO .none ∧ IsPair h TI (.ref i1) (.ref i2) ∧ (∃ x y, IsPair h TO x y) ∧ h.IsTupleIter i1 a i ∧ h.IsListIter i2 b i) := by
  refine ⟨by simp, fun i h st c hc => ?_, fun i h h' st k => ?_, fun X hP hw hK hc i pins s σ H E I hf st hg => ?_, fun X hP hw hK hc i pins s σ H E I hf st hg => ?_, fun A i s Q E st h => wpAny_pyIter_zip st.1 h⟩
  · obtain ⟨q1, q2, ⟨x, y, q3⟩, ⟨o1, e1, _, d1⟩, ⟨o2, e2, _, d2⟩⟩ := st
    rcases five hc with q | q | q | q | q <;> subst q
    · exact ⟨_, q1, fun v r => nomatch r⟩
    · exact ⟨_, q2, fun v r => nomatch r⟩
    · exact ⟨_, q3, fun v r => nomatch r⟩
    · exact ⟨o1, e1, fun v r => by rw [d1] at r; cases r⟩
    · exact ⟨o2, e2, fun v r => by rw [d2] at r; cases r⟩
  · obtain ⟨q1, q2, ⟨x, y, q3⟩, q4, q5⟩ := st
    exact ⟨k z (by simp) _ q1, k TI (by simp) _ q2, ⟨x, y, k TO (by simp) _ q3⟩, q4.at fun o q => k i1 (by simp) o q, q5.at fun o q => k i2 (by simp) o q⟩
  · subst hP hw hK
    obtain ⟨q1, q2, ⟨x0, y0, q3⟩, q4, q5⟩ := st
    obtain ⟨xs, ys, x, y, sx, sy, hx, hy⟩ := hg
    obtain ⟨its, rv, p, _⟩ := I.tuple sx
    obtain ⟨its2, rv2, p2, _⟩ := I.list sy
    obtain ⟨u, hu, ru⟩ := rv.get hx
    obtain ⟨u2, hu2, ru2⟩ := rv2.get hy
    have zl : z < s.heap.objs.size := Heap.lt_size q1
    have tp : s.heap.IsTuple a its.toArray := p
    refine next_more D q1 q2 q3 q4 q5 tp p2.isList (x := u) (y := u2) (by simpa using hu) (by simpa using hu2) fun h' z' TO' n1 n2 pr kp => ?_
    refine ⟨_, rfl, wpAny_letOwnedTupleGo_zip (s := { s with heap := h' }) z' fun h'' z'' sb => ?_⟩
    have pr2 : h''.get? s.heap.objs.size = some { cls := .type "tuple", data := .seq #[u, u2] } := (sb.2 _ (Nat.ne_of_gt zl)).trans pr
    have new : ObjOk X.prog X.w (upd H s.heap.objs.size (.tup [x, y])) h'' s.heap.objs.size (.tup [x, y]) := ⟨by show 2 ≤ sizeLine; decide, [u, u2], .cons ru (.cons ru2 .nil), ⟨_, pr2, rfl, _, rfl⟩⟩
    have J := I.turnedNew (t' := s.toks) (ch := [z, TI, TO, i1, i2]) (h' := h'') (fun c o hb q => by
      have hb : ¬ (c = z ∨ c = TI ∨ c = TO ∨ c = i1 ∨ c = i2) := fun r => hb (by simpa using r)
      exact (sb.2 c fun r => hb (.inl r)).trans (kp c o (fun r => hb (.inl r)) (fun r => hb (.inr (.inr (.inl r)))) (fun r => hb (.inr (.inr (.inr (.inl r))))) (fun r => hb (.inr (.inr (.inr (.inr r))))) q)) hf (Nat.le_refl _) new
    refine ⟨.ref s.heap.objs.size, _, J, rfl, ⟨_, x, y, rfl, I.hok.fresh (Nat.le_refl _), rfl, fun l hl => by rw [I.tuple_inj hl sx]; exact hx, fun l hl => by rw [I.list_inj hl sy]; exact hy⟩, ⟨z'', (sb.2 _ D.TIz).trans (kp _ _ D.TIz D.TITO D.TIi1 D.TIi2 q2), ⟨u, u2, (sb.2 _ D.TOz).trans TO'⟩,
      n1.at fun o q => (sb.2 _ D.i1z).trans q, n2.at fun o q => (sb.2 _ D.i2z).trans q⟩, fun c hcm => ?_⟩
    have hlt : c < s.heap.objs.size := by
      obtain ⟨_, e1, _⟩ := q4
      obtain ⟨_, e2, _⟩ := q5
      rcases five hcm with q | q | q | q | q <;> subst q
      · exact zl
      · exact Heap.lt_size q2
      · exact Heap.lt_size q3
      · exact Heap.lt_size e1
      · exact Heap.lt_size e2
    rw [upd_ne (Nat.ne_of_lt hlt)]
    exact (hf c hcm).1
  · subst hP hw hK
    obtain ⟨q1, q2, ⟨x0, y0, q3⟩, q4, q5⟩ := st
    obtain ⟨xs, ys, sx, sy, he⟩ := hg
    obtain ⟨its, rv, p, _⟩ := I.tuple sx
    obtain ⟨its2, rv2, p2, _⟩ := I.list sy
    have m1 := rv.length
    have m2 := rv2.length
    have tp : s.heap.IsTuple a its.toArray := p
    have he' : its.toArray[i]? = none ∨ its2.toArray[i]? = none := he.imp (fun q => by simp; omega) fun q => by simp; omega
    refine next_ends (I.ok.hd hc) D q1 q2 q3 q4 q5 tp p2.isList he' fun h' kp => ⟨rfl, I.turnedL (t' := s.toks) (ch := [z, TI, TO, i1, i2]) (fun c o hb q => ?_) hf⟩
    have hb : ¬ (c = z ∨ c = TI ∨ c = TO ∨ c = i1 ∨ c = i2) := fun r => hb (by simpa using r)
    exact kp c o (fun r => hb (.inl r)) (fun r => hb (.inr (.inr (.inl r)))) (fun r => hb (.inr (.inr (.inr (.inl r))))) (fun r => hb (.inr (.inr (.inr (.inr r))))) q
/-- zip of a tuple and a tuple, or of a tuple and a list -/
def iZipM (K : PySem.W.Frag) (ta : TA) : TI := fun σ H R => ta σ H fun vs H1 => ∃ a b xs ys, vs = [.ref a, .ref b] ∧ SqT K H1 a xs ∧ ((SqT K H1 b ys ∧ R (ItzT K a b) H1) ∨ (SqL K H1 b ys ∧ R (ItzM K a b) H1))
theorem pi_zipM {X : Cx} {e e2 : Expr} {ta : TA} {p pos tpos : Pos} {elts : List Expr} {kk : Nat} (hg : Gl X "zip") (hm : X.mg "zip" = none) (ha : PA X [e, e2] ta)
    (hs : starEach [e, e2] X.env = (false, eval e X.env) :: starEach [e2] X.env := by rfl) (hpl : (backTo pos (starEach [e2] X.env)).any (·.1) = false := by rfl) : PI X (.Tuple elts kk tpos) (.Call (.Name "zip" p) [e, e2] [] pos) (iZipM X.K ta) := by
  refine ⟨fun pins s σ H R I h => PyProof.Rows.Call_ (ld_blt I hg hm PyProof.Rows.boot_zip (PyProof.Rows.callWith_type1 (thn (ha.run pos pins s σ H _ I h) fun us s1 ⟨vs, H1, I1, r1, a, b, xs, ys, ex, sx, q1⟩ => ?_) hs hpl))⟩
  subst ex
  obtain ⟨u1, u2, rfl, e1, e2⟩ := vals2 r1
  cases e1
  cases e2
  obtain ⟨its, rv, p1, _⟩ := I1.tuple sx
  have t1 : s1.heap.IsTuple a its.toArray := p1
  have la : a < s1.heap.objs.size := by obtain ⟨_, e, _⟩ := t1; exact Heap.lt_size e
  have fr : ∀ c, c ∈ [s1.heap.objs.size + 4, s1.heap.objs.size + 2, s1.heap.objs.size + 3, s1.heap.objs.size, s1.heap.objs.size + 1] → FpOk X pins H1 c := fun c hc => by
    have hle : s1.heap.objs.size ≤ c := by
      rcases five hc with q | q | q | q | q <;> rw [q]
      · exact Nat.le_add_right _ _
      · exact Nat.le_add_right _ _
      · exact Nat.le_add_right _ _
      · exact Nat.le_refl _
      · exact Nat.le_add_right _ _
    exact I1.fpOk hle (I1.hok.fresh hle)
  rcases q1 with ⟨sy, q⟩ | ⟨sy, q⟩
  · obtain ⟨its2, rv2, p2, _⟩ := I1.tuple sy
    have t2 : s1.heap.IsTuple b its2.toArray := p2
    have lb : b < s1.heap.objs.size := by obtain ⟨_, e, _⟩ := t2; exact Heap.lt_size e
    exact call_zipT t1 t2 fun h' hz hTI hTO h1 h2 hsz hk => wpAny_pyIter_zip hz ⟨_, _, _, _, H1, rfl, I1.kept (t' := s1.toks) hk, turn_zipT (PySem.W.ktu_apart s1.heap.objs.size a b la lb), ⟨hz, hTI, ⟨_, _, hTO⟩, h1, h2⟩, fr, q⟩
  · obtain ⟨its2, rv2, p2, _⟩ := I1.list sy
    have lb : b < s1.heap.objs.size := by obtain ⟨_, _, e, _⟩ := p2; exact Heap.lt_size e
    exact call_mixed t1 p2.isList fun h' hz hTI hTO h1 h2 hk => wpAny_pyIter_zip hz ⟨_, _, _, _, H1, rfl, I1.kept (t' := s1.toks) hk, turn_mixed (PySem.W.ktu_apart s1.heap.objs.size a b la lb), ⟨hz, hTI, ⟨_, _, hTO⟩, h1, h2⟩, fr, q⟩
/-- a loop over them -/
theorem for_zipM {K : PySem.W.Frag} {a b : Addr} {xs ys : List V} {g : TG} {tb : TS} {D : Ends} {σ : L2.St} {H : Hp} (hl : xs.length = ys.length) (Pv : Nat → L2.St → Hp → Prop) (h0 : Pv 0 σ H) (hq : ∀ i σ H, Pv i σ H → SqT K H a xs ∧ SqL K H b ys)
    (hs : ∀ (i : Nat) (x y : V) (T : Addr) (σ : L2.St) (H : Hp), xs[i]? = some x → ys[i]? = some y → Pv i σ H → H T = none → g (.ref T) σ (upd H T (.tup [x, y])) fun σ2 H2 => tb { D with nx := Pv (i + 1), ct := Pv (i + 1), bk := D.nx } σ2 H2) (hd : ∀ σ H, Pv xs.length σ H → D.nx σ H) :
    ∃ W : Nat → Nat → L2.St → Hp → Prop, (∃ m, W 0 m σ H) ∧ ∀ i m σ H, W i m σ H → ((ItzM K a b).stop i H ∧ D.nx σ H) ∨
      ((ItzM K a b).go i H ∧ ∃ N : L2.St → Hp → Prop, (∀ σ' H', N σ' H' → ∃ m', m' < m ∧ W (i + 1) m' σ' H') ∧ ∀ v H', (ItzM K a b).yld i H v H' → g v σ H' fun σ2 H2 => tb { D with nx := N, ct := N, bk := D.nx } σ2 H2) := by
  refine ⟨fun i m σ H => i + m = xs.length ∧ Pv i σ H, ⟨xs.length, Nat.zero_add _, h0⟩, fun i m σ H ⟨hm, p⟩ => ?_⟩
  obtain ⟨sx, sy⟩ := hq i σ H p
  cases m with
  | zero =>
    have e : i = xs.length := by omega
    subst e
    exact .inl ⟨⟨xs, ys, sx, sy, .inl (Nat.le_refl _)⟩, hd σ H p⟩
  | succ m =>
    have i1 : i < xs.length := by omega
    have i2 : i < ys.length := by omega
    refine .inr ⟨⟨xs, ys, xs[i], ys[i], sx, sy, List.getElem?_eq_getElem i1, List.getElem?_eq_getElem i2⟩, Pv (i + 1), fun σ' H' q => ⟨m, Nat.lt_succ_self _, by omega, q⟩, fun v H' ⟨T, x, y, ev, nT, eH, hx, hy⟩ => ?_⟩
    subst ev eH
    exact hs i x y T σ H (hx xs sx) (hy ys sy) p nT
end ZM
namespace SB
open PySem L2 GxR GA RZ
/-- numbers in a tuple or a list -/
def SpV (K : PySem.W.Frag) (H : Hp) (x : V) (us : List (Int × Int)) : Prop := ∃ a xs, x = .ref a ∧ (SqT K H a xs ∨ SqL K H a xs) ∧ Paired (NuV K H) xs us
theorem SpV.gr {K : PySem.W.Frag} {H H' : Hp} {x : V} {us : List (Int × Int)} (h : SpV K H x us) (g : Gr H H') : SpV K H' x us := let ⟨a, xs, e, s, p⟩ := h; ⟨a, xs, e, s.imp (fun q => g.seqT q) (fun q => g.seqL q), Paired.mapP p fun _ _ z => NuV.gr z g⟩
theorem PtV.sp {K : PySem.W.Frag} {H : Hp} {x : V} {us : List (Int × Int)} (h : PtV K H x us) : SpV K H x us := let ⟨a, xs, e, s, p⟩ := h; ⟨a, xs, e, .inl s, p⟩
/-- a drawn question: small -/
structure Q9 (q : List Int × Int) : Prop where
  nz : NonZ q.1
  ns : ∀ z, z ∈ q.1 → z.natAbs < 2 ^ 4
  wl : q.2.natAbs < 2 ^ 4
theorem Q9.g {q : List Int × Int} (h : Q9 q) : gcdL (q.1 ++ [q.2]) < 2 ^ 64 := by
  obtain ⟨z, h1, h2⟩ := h.nz.ex
  exact Nat.lt_of_le_of_lt (gcdL_le (List.mem_append_left _ h1) h2) (Nat.lt_of_lt_of_le (h.ns z h1) (by decide))
theorem two_le {a b : Nat} (h : a ≤ b) : 2 ^ a ≤ 2 ^ b := Nat.pow_le_pow_right (by decide) h
theorem Q9.ok {q : List Int × Int} (h : Q9 q) : QOk q := ⟨h.nz, fun z hz => Nat.lt_of_lt_of_le (h.ns z hz) (two_le (by decide)), Nat.lt_of_lt_of_le h.wl (two_le (by decide))⟩
section
variable {P : Program} {w : World} {K : PySem.W.Frag} {mg : Str → Option Value} {base : Heap}
def spWorth (K : PySem.W.Frag) : Sp := fun vs H Q _ => ∃ x y q us m, vs = [x, y] ∧ QuV K H x q ∧ SpV K H y us ∧ Q9 q ∧ q.1.length = us.length ∧ us.length ≤ 4 ∧ (∀ u, u ∈ us → Lo u) ∧ (∀ u, u ∈ us → Wd m u) ∧ m ≤ 20000 ∧
  ∀ v r H', Gr H H' → NuV K H' v r → 0 < r.2 → Eqr r (worthU q us).1 (worthU q us).2 → Wd (5 + us.length * (m + 6)) r → Q v H'
end
end SB
namespace SB
open PySem L2 GxR GA RZ
section
variable {P : Program} {w : World} {K : PySem.W.Frag} {mg : Str → Option Value} {base : Heap}
/-! ### the law's own row of a point -/
def spLRow (K : PySem.W.Frag) : Sp := fun vs H Q _ => ∃ x y d qs us m, vs = [x, y] ∧ BkV K H x d qs ∧ SpV K H y us ∧ qs.length ≤ 8 ∧ (∀ q, q ∈ qs → Q9 q ∧ q.1.length = us.length) ∧ us.length ≤ 4 ∧ (∀ u, u ∈ us → Lo u) ∧ (∀ u, u ∈ us → Wd m u) ∧ m ≤ 20000 ∧
  ∀ v H', Gr H H' → SiV K H' v (rowU qs us) → Q v H'
theorem sgn_two (i : Int) : (if decide (i > 0) = true then (1 : Int) else 0) - (if decide (i < 0) = true then (1 : Int) else 0) = sgn i := by
  unfold sgn
  by_cases h1 : 0 < i
  · rw [if_pos (decide_eq_true h1), if_neg (by simp; omega), if_pos h1]
    rfl
  · rw [if_neg (by simp; omega), if_neg h1]
    by_cases h2 : i < 0
    · rw [if_pos (decide_eq_true h2), if_pos h2]
      rfl
    · rw [if_neg (by simp; omega), if_neg h2]
      rfl
/-! ### whether a row fits -/
def spDoesFit (K : PySem.W.Frag) : Sp := fun vs H Q _ => ∃ a b zs hs, vs = [.ref a, .ref b] ∧ SqT K H a (zs.map V.int) ∧ SqT K H b (hs.map hopeV) ∧ hs.length = zs.length ∧ zs.length ≤ 8 ∧ ∀ H', Gr H H' → Q (.bl (fitU hs zs)) H'
end
end SB
namespace SB
open PySem L2 GxR GA RZ
section
variable {P : Program} {w : World} {K : PySem.W.Frag} {mg : Str → Option Value} {base : Heap}
theorem DeckAt.ne {d p : Addr} {H : Hp} (h : DeckAt d H) (n : H p = none) : p ≠ d := by
  obtain ⟨a, b, e, _⟩ := h
  exact Ne.symm (ne_of_none e n)
def spLNum (K : PySem.W.Frag) : Sp := fun vs H Q _ => ∃ d, vs = [.ref d] ∧ DeckAt d H ∧ ∀ v r H', GrD d H H' → DeckAt d H' → NuV K H' v r → Lo r → Wd 134 r → Q v H'
theorem lnum_wd {F L t u : Int} (hF : 0 ≤ F) (hF2 : F ≤ 10 ^ 40) (hL2 : L ≤ 10 ^ 40) (t0 : 0 ≤ t) (t1 : t < 2 * F + 1) (u0 : 0 ≤ u) (u1 : u < L) : (1 + u) ≠ 0 ∧ Wd 134 (t - F, 1 + u) := by
  have e : (10 : Int) ^ 40 < 2 ^ 133 := by decide
  have e2 : (2 : Nat) ^ 134 = 2 * 2 ^ 133 := by decide
  have e3 : ((2 ^ 133 : Nat) : Int) = (2 : Int) ^ 133 := by decide
  refine ⟨by omega, ?_, ?_⟩
  · show (t - F).natAbs < 2 ^ 134
    omega
  · show (1 + u).natAbs < 2 ^ 134
    omega
end
end SB
namespace SB
open PySem L2 GxR GA RZ
theorem dp_ints {K : PySem.W.Frag} {H : Hp} : ∀ js : List Int, DpAll K H (js.map V.int) (js.map PyData.int)
  | [] => .nil
  | j :: r => .cons (.int j) (dp_ints r)
theorem lay_ints : ∀ js : List Int, PyData.canLayAll0 (js.map PyData.int) = true
  | [] => rfl
  | j :: r => by
    show (PyData.canLay0 (.int j) && PyData.canLayAll0 (r.map PyData.int)) = true
    rw [lay_ints r]
    rfl
theorem dep_ints : ∀ js : List Int, PyData.depthAll (js.map PyData.int) = 0
  | [] => rfl
  | j :: r => by
    have h := dep_ints r
    rw [List.map_cons]
    simp [PyData.depthAll, PyData.depth, h]
theorem shp_ints (js : List Int) : SeqAt.shaped (.list (js.map PyData.int)) = true := by
  unfold SeqAt.shaped
  rw [Bool.and_eq_true]
  refine ⟨lay_ints js, decide_eq_true ?_⟩
  have h := dep_ints js
  simp [PyData.depth, h]
theorem eqv_nil (js : List Int) : PyData.eqv (.list (js.map PyData.int)) (.list []) = js.isEmpty := by
  cases js with
  | nil => decide
  | cons j r => rfl
section
variable {P : Program} {w : World} {K : PySem.W.Frag} {mg : Str → Option Value} {base : Heap}
theorem fit_all {hs : List (Option Int)} {zs : List Int} (hl : hs.length = zs.length) (h : ∀ (i : Nat) (h : Option Int) (z : Int), hs[i]? = some h → zs[i]? = some z → fit1 h z = true) : fitU hs zs = true := by
  refine List.all_eq_true.mpr fun p hp => ?_
  obtain ⟨i, hi⟩ := List.getElem?_of_mem hp
  have hz := List.getElem?_zip_eq_some.mp hi
  exact h i p.1 p.2 hz.1 hz.2
theorem fit_not {hs : List (Option Int)} {zs : List Int} {i : Nat} {h : Option Int} {z : Int} (e1 : hs[i]? = some h) (e2 : zs[i]? = some z) (n : fit1 h z = false) : fitU hs zs = false := by
  rw [Bool.eq_false_iff]
  intro q
  have := List.all_eq_true.mp q (h, z) (List.mem_of_getElem? (zip_at e1 e2))
  rw [n] at this
  cases this
end
end SB
namespace SB
open PySem L2 GxR GA RZ
section
variable {P : Program} {w : World} {K : PySem.W.Frag} {mg : Str → Option Value} {base : Heap}
def spGround (K : PySem.W.Frag) : Sp := fun vs H Q _ => ∃ x q, vs = [x] ∧ QuV K H x q ∧ Q9 q ∧ q.1.length ≤ 8 ∧ ∀ b H', Gr H H' → H' b = some (.tup ((grU q).map V.int)) → Q (.ref b) H'
end
end SB
namespace SB
open PySem L2 GxR GA RZ
theorem GrD.put {d D : Addr} {H1 H : Hp} (g : GrD d H1 H) (nD : H1 D = none) (o : HO) : GrD d H1 (upd H D o) := ⟨fun b u n z e => by
  rw [upd_ne (ne_of_none e nD)]
  exact g.keep b u n z e, fun P n t => by
  obtain ⟨ps, e, tr⟩ := id t
  obtain ⟨qs, e2, t2⟩ := g.tab P n t
  exact ⟨qs, by rw [upd_ne (ne_of_none e nD)]; exact e2, t2⟩⟩
theorem DeckAt.put {d D : Addr} {H : Hp} (h : DeckAt d H) (n : D ≠ d) (o : HO) : DeckAt d (upd H D o) := let ⟨a, b, e, r⟩ := h; ⟨a, b, by rw [upd_ne (Ne.symm n)]; exact e, r⟩
/-- one item more -/
theorem deck_more {K : PySem.W.Frag} {d D : Addr} {H1 H H4 : Hp} {ys : List V} {y : V} {i : Nat} (R : Nat → V → Hp → Prop) (hst : ∀ i y H H', R i y H → Tst K H H' → R i y H') (nD : H1 D = none) (nd : D ≠ d) (hD : H D = some (.lst ys)) (hy : ys.length = i) (hi : i < 1000)
    (gr : GrD d H1 H) (dk : DeckAt d H) (hR : ∀ j z, ys[j]? = some z → R j z H) (g4 : GrD d H H4) (dk4 : DeckAt d H4) (r4 : R i y H4) :
    ∃ acc, H4 D = some (.lst acc) ∧ acc.length < sizeLine ∧ ∃ zs, (upd H4 D (.lst (acc ++ [y]))) D = some (.lst zs) ∧ zs.length = i + 1 ∧ GrD d H1 (upd H4 D (.lst (acc ++ [y]))) ∧ DeckAt d (upd H4 D (.lst (acc ++ [y]))) ∧ ∀ j z, zs[j]? = some z → R j z (upd H4 D (.lst (acc ++ [y]))) := by
  have hD4 : H4 D = some (.lst ys) := g4.keep D _ nd (fun _ z => nomatch z) hD
  have tp : Tst K H4 (upd H4 D (.lst (ys ++ [y]))) := Tst.put hD4
  refine ⟨ys, hD4, small1000 (by omega), ys ++ [y], upd_same, by rw [List.length_append, hy]; rfl, (gr.trans g4).put nD _, dk4.put nd _, fun j z hz => ?_⟩
  by_cases hj : j < ys.length
  · rw [List.getElem?_append_left hj] at hz
    exact hst _ _ _ _ (hR j z hz) ((g4.st dk).trans tp)
  · have hl := (List.getElem?_eq_some_iff.mp hz).1
    rw [List.length_append] at hl
    have hl : j < ys.length + 1 := hl
    have ej : j = ys.length := by omega
    subst ej
    rw [List.getElem?_append_right (Nat.le_refl _), Nat.sub_self] at hz
    cases hz
    rw [hy]
    exact hst _ _ _ _ r4 tp
/-- a list of n things drawn -/
theorem lc_deckR {K : PySem.W.Frag} {d : Addr} {lo : Int} {n : Nat} {g : TG} {te : TE} {vs : List Nat} {σ : L2.St} {H1 : Hp} {D : Addr} {Qd : Hp → Prop} (R : Nat → V → Hp → Prop) (hst : ∀ i y H H', R i y H → Tst K H H' → R i y H') (nD : H1 D = none) (dk : DeckAt d H1) (hz : n ≤ 1000)
    (step : ∀ (i : Nat) H (Kc : VK), i < n → GrD d H1 H → DeckAt d H → (∀ y H4, GrD d H H4 → DeckAt d H4 → R i y H4 → Kc y H4) → g (.int (lo + i)) (wipe σ vs) H fun σ2 H2 => wipe σ2 vs = wipe σ vs ∧ te σ2 H2 Kc)
    (fin : ∀ ys H, H D = some (.lst ys) → ys.length = n → GrD d H1 H → DeckAt d H → (∀ i y, ys[i]? = some y → R i y H) → Qd H) :
    ∃ W : Nat → Nat → Hp → Prop, (∃ m, W 0 m (upd H1 D (.lst []))) ∧ ∀ i m H, W i m H → ((Itr lo n).stop i H ∧ Qd H) ∨
      ((Itr lo n).go i H ∧ ∃ Nx : Hp → Prop, (∀ H', Nx H' → ∃ m', m' < m ∧ W (i + 1) m' H') ∧ ∀ x H', (Itr lo n).yld i H x H' → g x (wipe σ vs) H' fun σ2 H2 => wipe σ2 vs = wipe σ vs ∧ tYes σ2 H2 fun b H3 =>
        if b = true then te σ2 H3 fun y H4 => ∃ acc, H4 D = some (.lst acc) ∧ acc.length < sizeLine ∧ Nx (upd H4 D (.lst (acc ++ [y]))) else Nx H3) := by
  have nd := dk.ne nD
  refine ⟨fun i m H => i + m = n ∧ ∃ ys, H D = some (.lst ys) ∧ ys.length = i ∧ GrD d H1 H ∧ DeckAt d H ∧ ∀ j y, ys[j]? = some y → R j y H, ⟨n, Nat.zero_add _, [], upd_same, rfl, (GrD.refl d H1).put nD _, dk.put nd _, fun j y h => by simp at h⟩, fun i m H ⟨hm, ys, hD, hy, gr, dk', hR⟩ => ?_⟩
  cases m with
  | zero => exact .inl ⟨(by show n ≤ i; omega), fin ys H hD (by omega) gr dk' hR⟩
  | succ m =>
    refine .inr ⟨(by show i < n; omega), fun H' => ∃ ys, H' D = some (.lst ys) ∧ ys.length = i + 1 ∧ GrD d H1 H' ∧ DeckAt d H' ∧ ∀ j y, ys[j]? = some y → R j y H', fun H' h => ⟨m, Nat.lt_succ_self _, by omega, h⟩, fun x H' hyl => ?_⟩
    obtain ⟨rfl, rfl⟩ := hyl
    exact step i H' _ (by omega) gr dk' fun y H4 g4 dk4 r4 => deck_more R hst nD nd hD hy (by omega) gr dk' hR g4 dk4 r4
/-- one for each of a tuple's items -/
theorem lc_deckT {K : PySem.W.Frag} {d a : Addr} {xs : List V} {g : TG} {te : TE} {vs : List Nat} {σ : L2.St} {H1 : Hp} {D : Addr} {Qd : Hp → Prop} (R : Nat → V → Hp → Prop) (hst : ∀ i y H H', R i y H → Tst K H H' → R i y H') (nD : H1 D = none) (dk : DeckAt d H1) (hs : SqT K H1 a xs) (hz : xs.length ≤ 1000)
    (step : ∀ (i : Nat) x H (Kc : VK), xs[i]? = some x → GrD d H1 H → DeckAt d H → (∀ y H4, GrD d H H4 → DeckAt d H4 → R i y H4 → Kc y H4) → g x (wipe σ vs) H fun σ2 H2 => wipe σ2 vs = wipe σ vs ∧ te σ2 H2 Kc)
    (fin : ∀ ys H, H D = some (.lst ys) → ys.length = xs.length → GrD d H1 H → DeckAt d H → (∀ i y, ys[i]? = some y → R i y H) → Qd H) :
    ∃ W : Nat → Nat → Hp → Prop, (∃ m, W 0 m (upd H1 D (.lst []))) ∧ ∀ i m H, W i m H → ((Itt K a).stop i H ∧ Qd H) ∨
      ((Itt K a).go i H ∧ ∃ Nx : Hp → Prop, (∀ H', Nx H' → ∃ m', m' < m ∧ W (i + 1) m' H') ∧ ∀ x H', (Itt K a).yld i H x H' → g x (wipe σ vs) H' fun σ2 H2 => wipe σ2 vs = wipe σ vs ∧ tYes σ2 H2 fun b H3 =>
        if b = true then te σ2 H3 fun y H4 => ∃ acc, H4 D = some (.lst acc) ∧ acc.length < sizeLine ∧ Nx (upd H4 D (.lst (acc ++ [y]))) else Nx H3) := by
  have nd := dk.ne nD
  refine ⟨fun i m H => i + m = xs.length ∧ ∃ ys, H D = some (.lst ys) ∧ ys.length = i ∧ GrD d H1 H ∧ DeckAt d H ∧ ∀ j y, ys[j]? = some y → R j y H, ⟨xs.length, Nat.zero_add _, [], upd_same, rfl, (GrD.refl d H1).put nD _, dk.put nd _, fun j y h => by simp at h⟩, fun i m H ⟨hm, ys, hD, hy, gr, dk', hR⟩ => ?_⟩
  have sx := gr.st dk a xs hs
  cases m with
  | zero => exact .inl ⟨⟨xs, sx, by omega⟩, fin ys H hD (by omega) gr dk' hR⟩
  | succ m =>
    have hi : i < xs.length := by omega
    refine .inr ⟨⟨xs, xs[i], sx, List.getElem?_eq_getElem hi⟩, fun H' => ∃ ys, H' D = some (.lst ys) ∧ ys.length = i + 1 ∧ GrD d H1 H' ∧ DeckAt d H' ∧ ∀ j y, ys[j]? = some y → R j y H', fun H' h => ⟨m, Nat.lt_succ_self _, by omega, h⟩, fun x H' hyl => ?_⟩
    obtain ⟨rfl, hx⟩ := hyl
    exact step i x H' _ (hx xs sx) gr dk' fun y H4 g4 dk4 r4 => deck_more R hst nD nd hD hy (by omega) gr dk' hR g4 dk4 r4
end SB
namespace SB
open PySem L2 GxR GA RZ
def hopeP : Option Int → PyData
  | none => .none
  | some i => .int i
theorem dp_hopes {K : PySem.W.Frag} {H : Hp} : ∀ hs : List (Option Int), DpAll K H (hs.map hopeV) (hs.map hopeP)
  | [] => .nil
  | none :: r => .cons .non (dp_hopes r)
  | some i :: r => .cons (.int i) (dp_hopes r)
theorem shp_hopes (hs : List (Option Int)) : SeqAt.shaped (.list (hs.map hopeP)) = true := by
  have l : ∀ hs : List (Option Int), PyData.canLayAll0 (hs.map hopeP) = true := fun hs => by
    induction hs with
    | nil => rfl
    | cons h r ih =>
      rw [List.map_cons]
      cases h <;> simp [PyData.canLayAll0, hopeP, PyData.canLay0, ih]
  have d : ∀ hs : List (Option Int), PyData.depthAll (hs.map hopeP) = 0 := fun hs => by
    induction hs with
    | nil => rfl
    | cons h r ih =>
      rw [List.map_cons]
      cases h <;> simp [PyData.depthAll, PyData.depth, hopeP, ih]
  unfold SeqAt.shaped
  rw [Bool.and_eq_true]
  refine ⟨l hs, decide_eq_true ?_⟩
  have h := d hs
  simp [PyData.depth, h]
theorem eqv_nilP (hs : List (Option Int)) : PyData.eqv (.list (hs.map hopeP)) (.list []) = hs.isEmpty := by
  cases hs with
  | nil => decide
  | cons j r => rfl
theorem hopes_of {Pr : Option Int → Prop} : ∀ {ys : List V}, (∀ (i : Nat) (y : V), ys[i]? = some y → ∃ h, y = hopeV h ∧ Pr h) → ∃ hs : List (Option Int), ys = hs.map hopeV ∧ ∀ h, h ∈ hs → Pr h
  | [], _ => ⟨[], rfl, fun h hm => by simp at hm⟩
  | y :: r, f => by
    obtain ⟨h, rfl, ph⟩ := f 0 y rfl
    obtain ⟨hs, rfl, pr⟩ := hopes_of (ys := r) fun i z e => f (i + 1) z (by simpa using e)
    refine ⟨h :: hs, rfl, fun k hk => ?_⟩
    rcases List.mem_cons.mp hk with rfl | hk
    · exact ph
    · exact pr k hk
theorem ixN_nat {n j : Nat} (h : j < n) : ixN n (j : Int) = some j := by
  unfold ixN
  rw [if_pos (by omega), if_pos (by omega)]
  rfl
theorem big_take {n : Nat} (h : n ≤ 64) : ((n : Nat) : Int).natAbs < 2 ^ 8000 := Nat.lt_of_le_of_lt (by omega) (show 64 < 2 ^ 8000 by decide +kernel)
theorem three_less {c : Int} (h0 : -1 ≤ c) (h1 : c ≤ 1) : (([-1, 0, 1] : List Int).filter fun z => decide (z ≠ c)).length = 2 := by
  have : c = -1 ∨ c = 0 ∨ c = 1 := by omega
  rcases this with rfl | rfl | rfl <;> decide
section
variable {P : Program} {w : World} {K : PySem.W.Frag} {mg : Str → Option Value} {base : Heap}
/-- a row's cells: each -1, 0 or 1 -/
def CeOk (zs : List Int) : Prop := ∀ z, z ∈ zs → -1 ≤ z ∧ z ≤ 1
def spLWish (K : PySem.W.Frag) : Sp := fun vs H Q _ => ∃ d a zs, vs = [.ref d, .ref a] ∧ DeckAt d H ∧ SqT K H a (zs.map V.int) ∧ CeOk zs ∧ zs.length ≤ 8 ∧ ∀ p hs H', GrD d H H' → DeckAt d H' → SqT K H' p (hs.map hopeV) → hs.length = zs.length → HpOk hs → Q (.ref p) H'
end
end SB
namespace SB
open PySem L2 GxR GA RZ
/-- a question as data -/
def quP (q : List Int × Int) : PyData := .tuple [.tuple (q.1.map PyData.int), .int q.2]
theorem dp_qus {K : PySem.W.Frag} {H : Hp} : ∀ {xs : List V} {qs : List (List Int × Int)}, Paired (QuV K H) xs qs → DpAll K H xs (qs.map quP)
  | _, _, .nil => .nil
  | _, _, .cons ⟨a, t, ea, hs, b, et, hb⟩ r => by
    subst ea et
    exact .cons (.tup hs (.cons (.tup hb (dp_ints _)) (.cons (.int _) .nil))) (dp_qus r)
theorem shp_qus (qs : List (List Int × Int)) : SeqAt.shaped (.tuple (qs.map quP)) = true := by
  have l : ∀ qs : List (List Int × Int), PyData.canLayAll0 (qs.map quP) = true := fun qs => by
    induction qs with
    | nil => rfl
    | cons q r ih =>
      rw [List.map_cons]
      have h := lay_ints q.1
      simp [PyData.canLayAll0, quP, PyData.canLay0, ih, h]
  have d : ∀ qs : List (List Int × Int), PyData.depthAll (qs.map quP) ≤ 2 := fun qs => by
    induction qs with
    | nil => decide
    | cons q r ih =>
      rw [List.map_cons]
      have h := dep_ints q.1
      simp [PyData.depthAll, PyData.depth, quP, h]
      omega
  unfold SeqAt.shaped
  rw [Bool.and_eq_true]
  refine ⟨l qs, decide_eq_true ?_⟩
  have h := d qs
  simp [PyData.depth]
  omega
theorem eqv_nilT (ds : List PyData) : PyData.eqv (.tuple ds) (.tuple []) = ds.isEmpty := by
  cases ds with
  | nil => decide
  | cons j r => rfl
theorem nums_of {K : PySem.W.Frag} {H : Hp} {Pr : Int × Int → Prop} : ∀ {ys : List V}, (∀ (i : Nat) (y : V), ys[i]? = some y → ∃ u, NuV K H y u ∧ Pr u) → ∃ us : List (Int × Int), Paired (NuV K H) ys us ∧ ∀ u, u ∈ us → Pr u
  | [], _ => ⟨[], .nil, fun h hm => by simp at hm⟩
  | y :: r, f => by
    obtain ⟨u, nu, pu⟩ := f 0 y rfl
    obtain ⟨us, pa, pr⟩ := nums_of (ys := r) fun i z e => f (i + 1) z (by simpa using e)
    refine ⟨u :: us, .cons nu pa, fun k hk => ?_⟩
    rcases List.mem_cons.mp hk with rfl | hk
    · exact pu
    · exact pr k hk
theorem paired_set {α β : Type} {F : α → β → Prop} {x : α} {y : β} : ∀ {xs : List α} {ys : List β}, Paired F xs ys → F x y → ∀ i : Nat, Paired F (xs.set i x) (ys.set i y)
  | _, _, .nil, _, _ => .nil
  | _, _, .cons _ t, h, 0 => .cons h t
  | _, _, .cons r t, h, i + 1 => .cons r (paired_set t h i)
section
variable {P : Program} {w : World} {K : PySem.W.Frag} {mg : Str → Option Value} {base : Heap}
/-- a drawn page: its questions small, of one length -/
structure Pg9 (n : Nat) (qs : List (List Int × Int)) : Prop where
  n1 : 1 ≤ n
  n4 : n ≤ 4
  l8 : qs.length ≤ 8
  q9 : ∀ q, q ∈ qs → Q9 q ∧ q.1.length = n
def spSpot (K : PySem.W.Frag) : Sp := fun vs H Q _ => ∃ d x n qs, vs = [.ref d, x] ∧ DeckAt d H ∧ BkV K H x n qs ∧ Pg9 n qs ∧
  ∀ v us H', GrD d H H' → DeckAt d H' → PtV K H' v us → us.length = n → (∀ u, u ∈ us → Lo u) → (∀ u, u ∈ us → Wd 1000 u) → Q v H'
end
end SB
namespace SB
open PySem L2
theorem eqv_intsA : ∀ a b : List Int, PyData.eqvAll (a.map PyData.int) (b.map PyData.int) = decide (a = b)
  | [], [] => by decide
  | [], _ :: _ => by simp [PyData.eqvAll]
  | _ :: _, [] => by simp [PyData.eqvAll]
  | x :: r, y :: t => by
    have h := eqv_intsA r t
    simp only [List.map_cons, PyData.eqvAll, h, PyData.eqv]
    by_cases e : x = y <;> by_cases e2 : r = t <;> simp [e, e2]
theorem eqv_ints (a b : List Int) : PyData.eqv (.list (a.map PyData.int)) (.list (b.map PyData.int)) = decide (a = b) := by
  have h := eqv_intsA a b
  simp only [PyData.eqv, h]
theorem nonZ_or (zs : List Int) : NonZ zs ∨ zs = List.replicate zs.length 0 := by
  by_cases h : ∃ z, z ∈ zs ∧ z ≠ 0
  · obtain ⟨z, h1, h2⟩ := h
    exact .inl (nonZ_of h1 h2)
  · refine .inr (List.eq_replicate_iff.mpr ⟨rfl, fun z hz => ?_⟩)
    by_cases e : z = 0
    · exact e
    · exact absurd ⟨z, hz, e⟩ h
end SB
namespace SB
open PySem L2 GxR GA RZ
theorem shp_qusL (qs : List (List Int × Int)) : SeqAt.shaped (.list (qs.map quP)) = true := by
  have h := shp_qus qs
  unfold SeqAt.shaped at h ⊢
  rw [Bool.and_eq_true] at h ⊢
  refine ⟨h.1, decide_eq_true ?_⟩
  have h2 := of_decide_eq_true h.2
  simp [PyData.depth] at h2 ⊢
  omega
theorem eqv_nilL (ds : List PyData) : PyData.eqv (.list ds) (.list []) = ds.isEmpty := by
  cases ds with
  | nil => decide
  | cons j r => rfl
theorem ints_of {b : Nat} : ∀ {l : List V}, (∀ (i : Nat) (y : V), l[i]? = some y → ∃ z : Int, y = .int z ∧ z.natAbs ≤ b) → ∃ zs : List Int, l = zs.map V.int ∧ ∀ z, z ∈ zs → z.natAbs ≤ b
  | [], _ => ⟨[], rfl, fun z h => by simp at h⟩
  | y :: r, f => by
    obtain ⟨z, rfl, hz⟩ := f 0 y rfl
    obtain ⟨zs, rfl, hr⟩ := ints_of (l := r) fun i y e => f (i + 1) y (by simpa using e)
    refine ⟨z :: zs, rfl, fun k hk => ?_⟩
    rcases List.mem_cons.mp hk with rfl | hk
    · exact hz
    · exact hr k hk
/-- a list of what comes of two tuples side by side -/
theorem lc_mapZ {K : PySem.W.Frag} {a b : Addr} {xs zs : List V} {g : TG} {te : TE} {vs : List Nat} {σ : L2.St} {H1 : Hp} {D : Addr} {Qd : Hp → Prop} (R : Nat → V → Prop) (nD : H1 D = none) (hl : xs.length = zs.length) (hs : SqT K H1 a xs) (hs2 : SqT K H1 b zs) (hz : xs.length ≤ 1000)
    (step : ∀ (i : Nat) x y (T : Addr) H (Kc : VK), xs[i]? = some x → zs[i]? = some y → Gr H1 H → H T = none → (∀ v H4, Gr (upd H T (.tup [x, y])) H4 → R i v → Kc v H4) → g (.ref T) (wipe σ vs) (upd H T (.tup [x, y])) fun σ2 H2 => wipe σ2 vs = wipe σ vs ∧ te σ2 H2 Kc)
    (fin : ∀ ys H, H D = some (.lst ys) → ys.length = xs.length → Gr H1 H → (∀ i y, ys[i]? = some y → R i y) → Qd H) :
    ∃ W : Nat → Nat → Hp → Prop, (∃ m, W 0 m (upd H1 D (.lst []))) ∧ ∀ i m H, W i m H → ((ItzT K a b).stop i H ∧ Qd H) ∨
      ((ItzT K a b).go i H ∧ ∃ Nx : Hp → Prop, (∀ H', Nx H' → ∃ m', m' < m ∧ W (i + 1) m' H') ∧ ∀ x H', (ItzT K a b).yld i H x H' → g x (wipe σ vs) H' fun σ2 H2 => wipe σ2 vs = wipe σ vs ∧ tYes σ2 H2 fun b H3 =>
        if b = true then te σ2 H3 fun y H4 => ∃ acc, H4 D = some (.lst acc) ∧ acc.length < sizeLine ∧ Nx (upd H4 D (.lst (acc ++ [y]))) else Nx H3) := by
  refine ⟨fun i m H => i + m = xs.length ∧ ∃ ys, H D = some (.lst ys) ∧ ys.length = i ∧ GrD D H1 H ∧ ∀ j y, ys[j]? = some y → R j y, ⟨xs.length, Nat.zero_add _, [], upd_same, rfl, (GrD.refl D H1).set _, fun j y h => by simp at h⟩, fun i m H ⟨hm, ys, hD, hy, gr, hR⟩ => ?_⟩
  have g1 := gr.to nD
  have q1 := g1.seqT hs
  have q2 := g1.seqT hs2
  cases m with
  | zero => exact .inl ⟨⟨xs, zs, q1, q2, .inl (by omega)⟩, fin ys H hD (by omega) g1 hR⟩
  | succ m =>
    have i1 : i < xs.length := by omega
    have i2 : i < zs.length := by omega
    refine .inr ⟨⟨xs, zs, xs[i], zs[i], q1, q2, List.getElem?_eq_getElem i1, List.getElem?_eq_getElem i2⟩, fun H' => ∃ ys, H' D = some (.lst ys) ∧ ys.length = i + 1 ∧ GrD D H1 H' ∧ ∀ j y, ys[j]? = some y → R j y, fun H' h => ⟨m, Nat.lt_succ_self _, by omega, h⟩, fun v H' hyl => ?_⟩
    obtain ⟨T, x, y, rfl, nT, rfl, hx, hy2⟩ := hyl
    refine step i x y T H _ (hx xs q1) (hy2 zs q2) g1 nT fun v H4 g4 rv => ?_
    have gT : Gr H (upd H T (.tup [x, y])) := (Gr.refl H).new nT _
    have hD4 : H4 D = some (.lst ys) := (gT.trans g4).keep D _ (fun _ z => nomatch z) hD
    refine ⟨ys, hD4, small1000 (by omega), ys ++ [v], upd_same, by rw [List.length_append, hy]; rfl, (gr.trans ((gT.trans g4).d D)).set _, fun j z hz2 => ?_⟩
    by_cases hj : j < ys.length
    · rw [List.getElem?_append_left hj] at hz2
      exact hR j z hz2
    · have hl2 := (List.getElem?_eq_some_iff.mp hz2).1
      rw [List.length_append] at hl2
      have hl2 : j < ys.length + 1 := hl2
      have ej : j = ys.length := by omega
      subst ej
      rw [List.getElem?_append_right (Nat.le_refl _), Nat.sub_self] at hz2
      cases hz2
      rw [hy]
      exact rv
theorem flat_zero : ∀ n : Nat, (List.replicate n [V.int 0]).flatten = (List.replicate n (0 : Int)).map V.int
  | 0 => rfl
  | n + 1 => by
    rw [List.replicate_succ, List.flatten_cons, flat_zero n, List.replicate_succ, List.map_cons]
    rfl
/-- ways that come together again: Pst, what holds where they meet -/
theorem seq_join {t u : TS} {D : Ends} {σ : L2.St} {H : Hp} (Pst : L2.St → Hp → Prop) (h2 : ∀ σ' H', Pst σ' H' → u D σ' H') (h1 : ∀ Kn : L2.St → Hp → Prop, (∀ σ' H', Pst σ' H' → Kn σ' H') → t { D with nx := Kn } σ H) : tSeq t u D σ H := h1 (fun σ' H' => u D σ' H') h2
section
variable {P : Program} {w : World} {K : PySem.W.Frag} {mg : Str → Option Value} {base : Heap}
/-- questions in a list -/
def QlV (K : PySem.W.Frag) (H : Hp) (a : Addr) (n : Nat) (qs : List (List Int × Int)) : Prop := ∃ xs, H a = some (.lst xs) ∧ Paired (QuV K H) xs qs ∧ qs.length ≤ 8 ∧ ∀ q, q ∈ qs → Q9 q ∧ q.1.length = n
def spLine (K : PySem.W.Frag) : Sp := fun vs H Q _ => ∃ d a n qs, vs = [.ref d, .int ((n : Nat) : Int), .ref a] ∧ DeckAt d H ∧ a ≠ d ∧ 1 ≤ n ∧ n ≤ 4 ∧ QlV K H a n qs ∧ ∀ v q H', GrD d H H' → DeckAt d H' → QuV K H' v q → Q9 q → q.1.length = n → Q v H'
end
end SB
namespace SB
open PySem L2 GxR GA RZ
/-- a ground as a dict's key -/
def grK (q : List Int × Int) : List Key := (grU q).map Sum.inl
theorem grK_kV (q : List Int × Int) : (grK q).map kV = (grU q).map V.int := by
  unfold grK
  rw [List.map_map]
  rfl
theorem nfU_gr {p q : List Int × Int} (h : nfU p = nfU q) : grK p = grK q := by
  unfold grK grU
  rw [h]
theorem new_none {H : Hp} {a b : Addr} {o : HO} (h : (upd H a o) b = none) : b ≠ a ∧ H b = none := by
  have n : b ≠ a := fun e => by
    rw [e, upd_same] at h
    cases h
  rw [upd_ne n] at h
  exact ⟨n, h⟩
section
variable {P : Program} {w : World} {K : PySem.W.Frag} {mg : Str → Option Value} {base : Heap}
def spPage (K : PySem.W.Frag) : Sp := fun vs H Q _ => ∃ (d : Addr) (m : Nat), vs = [.ref d, .int ((m : Nat) : Int)] ∧ DeckAt d H ∧ m ≤ 7 ∧ ∀ v n qs H', GrD d H H' → DeckAt d H' → BkV K H' v n qs → BOk n qs → Pg9 n qs → Q v H'
end
end SB
namespace SB
open PySem L2 GxR GA RZ
/-- a list of what comes of two tuples side by side, with what stands in the heap -/
theorem lc_mapZH {K : PySem.W.Frag} {a b : Addr} {xs zs : List V} {g : TG} {te : TE} {vs : List Nat} {σ : L2.St} {H1 : Hp} {D : Addr} {Qd : Hp → Prop} (R : Nat → V → Hp → Prop) (hst : ∀ i y H H', R i y H → Tst K H H' → R i y H') (nD : H1 D = none) (hl : xs.length = zs.length) (hs : SqT K H1 a xs) (hs2 : SqT K H1 b zs) (hz : xs.length ≤ 1000)
    (step : ∀ (i : Nat) x y (T : Addr) H (Kc : VK), xs[i]? = some x → zs[i]? = some y → Gr H1 H → H T = none → (∀ v H4, Gr (upd H T (.tup [x, y])) H4 → R i v H4 → Kc v H4) → g (.ref T) (wipe σ vs) (upd H T (.tup [x, y])) fun σ2 H2 => wipe σ2 vs = wipe σ vs ∧ te σ2 H2 Kc)
    (fin : ∀ ys H, H D = some (.lst ys) → ys.length = xs.length → Gr H1 H → (∀ i y, ys[i]? = some y → R i y H) → Qd H) :
    ∃ W : Nat → Nat → Hp → Prop, (∃ m, W 0 m (upd H1 D (.lst []))) ∧ ∀ i m H, W i m H → ((ItzT K a b).stop i H ∧ Qd H) ∨
      ((ItzT K a b).go i H ∧ ∃ Nx : Hp → Prop, (∀ H', Nx H' → ∃ m', m' < m ∧ W (i + 1) m' H') ∧ ∀ x H', (ItzT K a b).yld i H x H' → g x (wipe σ vs) H' fun σ2 H2 => wipe σ2 vs = wipe σ vs ∧ tYes σ2 H2 fun b H3 =>
        if b = true then te σ2 H3 fun y H4 => ∃ acc, H4 D = some (.lst acc) ∧ acc.length < sizeLine ∧ Nx (upd H4 D (.lst (acc ++ [y]))) else Nx H3) := by
  refine ⟨fun i m H => i + m = xs.length ∧ ∃ ys, H D = some (.lst ys) ∧ ys.length = i ∧ GrD D H1 H ∧ ∀ j y, ys[j]? = some y → R j y H, ⟨xs.length, Nat.zero_add _, [], upd_same, rfl, (GrD.refl D H1).set _, fun j y h => by simp at h⟩, fun i m H ⟨hm, ys, hD, hy, gr, hR⟩ => ?_⟩
  have g1 := gr.to nD
  have q1 := g1.seqT hs
  have q2 := g1.seqT hs2
  cases m with
  | zero => exact .inl ⟨⟨xs, zs, q1, q2, .inl (by omega)⟩, fin ys H hD (by omega) g1 hR⟩
  | succ m =>
    have i1 : i < xs.length := by omega
    have i2 : i < zs.length := by omega
    refine .inr ⟨⟨xs, zs, xs[i], zs[i], q1, q2, List.getElem?_eq_getElem i1, List.getElem?_eq_getElem i2⟩, fun H' => ∃ ys, H' D = some (.lst ys) ∧ ys.length = i + 1 ∧ GrD D H1 H' ∧ ∀ j y, ys[j]? = some y → R j y H', fun H' h => ⟨m, Nat.lt_succ_self _, by omega, h⟩, fun v H' hyl => ?_⟩
    obtain ⟨T, x, y, rfl, nT, rfl, hx, hy2⟩ := hyl
    refine step i x y T H _ (hx xs q1) (hy2 zs q2) g1 nT fun v H4 g4 rv => ?_
    have gT : Gr H (upd H T (.tup [x, y])) := (Gr.refl H).new nT _
    have hD4 : H4 D = some (.lst ys) := (gT.trans g4).keep D _ (fun _ z => nomatch z) hD
    have t4 : Tst K H4 (upd H4 D (.lst (ys ++ [v]))) := Tst.put hD4
    refine ⟨ys, hD4, small1000 (by omega), ys ++ [v], upd_same, by rw [List.length_append, hy]; rfl, (gr.trans ((gT.trans g4).d D)).set _, fun j z hz2 => ?_⟩
    by_cases hj : j < ys.length
    · rw [List.getElem?_append_left hj] at hz2
      exact hst _ _ _ _ (hR j z hz2) ((gT.trans g4).st.trans t4)
    · have hl2 := (List.getElem?_eq_some_iff.mp hz2).1
      rw [List.length_append] at hl2
      have hl2 : j < ys.length + 1 := hl2
      have ej : j = ys.length := by omega
      subst ej
      rw [List.getElem?_append_right (Nat.le_refl _), Nat.sub_self] at hz2
      cases hz2
      rw [hy]
      exact hst _ _ _ _ rv t4
/-- numbers in a row, told place by place -/
theorem nums_at {K : PySem.W.Frag} {H : Hp} : ∀ {ys : List V} {Pr : Nat → Int × Int → Prop}, (∀ (i : Nat) (y : V), ys[i]? = some y → ∃ u, NuV K H y u ∧ Pr i u) → ∃ us : List (Int × Int), Paired (NuV K H) ys us ∧ ∀ i u, us[i]? = some u → Pr i u
  | [], _, _ => ⟨[], .nil, fun i u h => by simp at h⟩
  | y :: r, Pr, f => by
    obtain ⟨u, nu, pu⟩ := f 0 y rfl
    obtain ⟨us, pa, pr⟩ := nums_at (ys := r) (Pr := fun i => Pr (i + 1)) fun i z e => f (i + 1) z (by simpa using e)
    refine ⟨u :: us, .cons nu pa, fun i k hk => ?_⟩
    cases i with
    | zero =>
      have : u = k := by simpa using hk
      rw [← this]
      exact pu
    | succ i => exact pr i k (by simpa using hk)
/-- a number on the way from u to w -/
def OnWay (s u w : Int × Int) (m : Nat) (r : Int × Int) : Prop := Lo r ∧ Wd m r ∧ qv r = qv u + qv s * (qv w - qv u)
theorem mix_of {s : Int × Int} {us ws rs : List (Int × Int)} {m : Nat} (hl : us.length = ws.length) (lr : rs.length = us.length) (h : ∀ (i : Nat) (r : Int × Int), rs[i]? = some r → ∃ u w, us[i]? = some u ∧ ws[i]? = some w ∧ OnWay s u w m r) :
    (∀ r, r ∈ rs → Lo r) ∧ (∀ r, r ∈ rs → Wd m r) ∧ rs.map qv = mixQ (qv s) (us.map qv) (ws.map qv) := by
  refine ⟨fun r hr => ?_, fun r hr => ?_, List.ext_getElem? fun i => ?_⟩
  · obtain ⟨i, e⟩ := List.getElem?_of_mem hr
    obtain ⟨u, w, _, _, o⟩ := h i r e
    exact o.1
  · obtain ⟨i, e⟩ := List.getElem?_of_mem hr
    obtain ⟨u, w, _, _, o⟩ := h i r e
    exact o.2.1
  · rw [List.getElem?_map]
    cases e : rs[i]? with
    | none =>
      have : rs.length ≤ i := List.getElem?_eq_none_iff.mp e
      rw [Option.map_none]
      refine (List.getElem?_eq_none ?_).symm
      unfold mixQ
      rw [List.length_zipWith, List.length_map, List.length_map]
      omega
    | some r =>
      obtain ⟨u, w, eu, ew, o⟩ := h i r e
      rw [Option.map_some, mix_at (by rw [List.getElem?_map, eu]; rfl) (by rw [List.getElem?_map, ew]; rfl), o.2.2]
section
variable {P : Program} {w : World} {K : PySem.W.Frag} {mg : Str → Option Value} {base : Heap}
def spPutA (K : PySem.W.Frag) : Sp := fun vs H Q _ => ∃ a b zs ws, vs = [.ref a, .ref b] ∧ SqT K H a (zs.map V.int) ∧ SqT K H b (ws.map V.int) ∧ zs.length = ws.length ∧ zs.length ≤ 8 ∧ ∀ v H', Gr H H' → SiV K H' v (aheadU zs ws) → Q v H'
def spRowB (K : PySem.W.Frag) (T : Nat → Addr) : Sp := fun vs H Q _ => ∃ x y z d qs us ws, vs = [x, y, z] ∧ Tb5 T H ∧ BkV K H x d qs ∧ PtV K H y us ∧ PtV K H z ws ∧ BOk d qs ∧ UsOk us ∧ UsOk ws ∧ us.length = d ∧ ws.length = d ∧ ∀ v H', Gr H H' → SiV K H' v (aheadU (rowU qs us) (rowU qs ws)) → Q v H'
def spBetween (K : PySem.W.Frag) : Sp := fun vs H Q _ => ∃ x y z us ws s m n k, vs = [x, y, z] ∧ PtV K H x us ∧ PtV K H y ws ∧ NuV K H z s ∧ us ≠ [] ∧ us.length = ws.length ∧ us.length ≤ 8 ∧ (∀ u, u ∈ us → Lo u) ∧ (∀ u, u ∈ ws → Lo u) ∧ Lo s ∧ (∀ u, u ∈ us → Wd m u) ∧ (∀ u, u ∈ ws → Wd n u) ∧ Wd k s ∧ 2 * m + n + k ≤ 200000 ∧
  ∀ v rs H', Gr H H' → PtV K H' v rs → rs.length = us.length → (∀ r, r ∈ rs → Lo r) → (∀ r, r ∈ rs → Wd (2 * m + n + k + 4) r) → rs.map qv = mixQ (qv s) (us.map qv) (ws.map qv) → Q v H'
end
end SB
namespace SB
open PySem L2 GxR GA RZ
theorem paired_of {α β : Type} {F : α → β → Prop} : ∀ {ys : List α} {zs : List β}, ys.length = zs.length → (∀ (i : Nat) (y : α) (z : β), ys[i]? = some y → zs[i]? = some z → F y z) → Paired F ys zs
  | [], [], _, _ => .nil
  | [], _ :: _, h, _ => by cases h
  | _ :: _, [], h, _ => by cases h
  | y :: r, z :: t, h, f => .cons (f 0 y z rfl rfl) (paired_of (by simpa using h) fun i a b e1 e2 => f (i + 1) a b (by simpa using e1) (by simpa using e2))
/-- sides and wall of width k -/
def QW (k : Nat) (q : List Int × Int) : Prop := (∀ z, z ∈ q.1 → z.natAbs < 2 ^ k) ∧ q.2.natAbs < 2 ^ k
section
variable {P : Program} {w : World} {K : PySem.W.Frag} {mg : Str → Option Value} {base : Heap}
def spWithout (K : PySem.W.Frag) (T : Nat → Addr) : Sp := fun vs H Q _ => ∃ x d qs i, vs = [x, .int ((i : Nat) : Int)] ∧ Tb5 T H ∧ BkV K H x d qs ∧ BOk d qs ∧ i < qs.length ∧ ∀ v H', Gr H H' → BkV K H' v d (qs.take i ++ qs.drop (i + 1)) → Q v H'
/-! ### moved -/
def spMovQ (K : PySem.W.Frag) : Sp := fun vs H Q _ => ∃ x y q us k m, vs = [x, y] ∧ QuV K H x q ∧ PtV K H y us ∧ NonZ q.1 ∧ q.1.length = us.length ∧ us.length ≤ 4 ∧ (∀ u, u ∈ us → Lo u) ∧ (∀ u, u ∈ us → Wd m u) ∧ QW k q ∧ 4 * (m + k + 3) + 2 * k ≤ 200000 ∧
  ∀ v H', Gr H H' → QuV K H' v (movU q us) → Wd (3 + us.length * (m + k + 3) + k) (shiftU q us) → Q v H'
def spMoved (K : PySem.W.Frag) (T : Nat → Addr) : Sp := fun vs H Q _ => ∃ x y d qs us k m, vs = [x, y] ∧ Tb5 T H ∧ BkV K H x d qs ∧ PtV K H y us ∧ BOk d qs ∧ us.length = d ∧ us ≠ [] ∧ us.length ≤ 4 ∧ (∀ u, u ∈ us → Lo u) ∧ (∀ u, u ∈ us → Wd m u) ∧ (∀ q, q ∈ qs → QW k q) ∧ 4 * (m + k + 3) + 2 * k ≤ 200000 ∧
  ∀ v H', Gr H H' → BkV K H' v d (qs.map fun q => movU q us) → (∀ q, q ∈ qs → Wd (3 + us.length * (m + k + 3) + k) (shiftU q us)) → Q v H'
end
end SB
namespace SB
open PySem L2 GxR GA RZ
/-- a list of what comes of a tuple and a list side by side -/
theorem lc_mapM {K : PySem.W.Frag} {a b : Addr} {xs zs : List V} {g : TG} {te : TE} {vs : List Nat} {σ : L2.St} {H1 : Hp} {D : Addr} {Qd : Hp → Prop} (R : Nat → V → Prop) (nD : H1 D = none) (hl : xs.length = zs.length) (hs : SqT K H1 a xs) (hs2 : SqL K H1 b zs) (hz : xs.length ≤ 1000)
    (step : ∀ (i : Nat) x y (T : Addr) H (Kc : VK), xs[i]? = some x → zs[i]? = some y → Gr H1 H → H T = none → (∀ v H4, Gr (upd H T (.tup [x, y])) H4 → R i v → Kc v H4) → g (.ref T) (wipe σ vs) (upd H T (.tup [x, y])) fun σ2 H2 => wipe σ2 vs = wipe σ vs ∧ te σ2 H2 Kc)
    (fin : ∀ ys H, H D = some (.lst ys) → ys.length = xs.length → Gr H1 H → (∀ i y, ys[i]? = some y → R i y) → Qd H) :
    ∃ W : Nat → Nat → Hp → Prop, (∃ m, W 0 m (upd H1 D (.lst []))) ∧ ∀ i m H, W i m H → ((ZM.ItzM K a b).stop i H ∧ Qd H) ∨
      ((ZM.ItzM K a b).go i H ∧ ∃ Nx : Hp → Prop, (∀ H', Nx H' → ∃ m', m' < m ∧ W (i + 1) m' H') ∧ ∀ x H', (ZM.ItzM K a b).yld i H x H' → g x (wipe σ vs) H' fun σ2 H2 => wipe σ2 vs = wipe σ vs ∧ tYes σ2 H2 fun b H3 =>
        if b = true then te σ2 H3 fun y H4 => ∃ acc, H4 D = some (.lst acc) ∧ acc.length < sizeLine ∧ Nx (upd H4 D (.lst (acc ++ [y]))) else Nx H3) := by
  refine ⟨fun i m H => i + m = xs.length ∧ ∃ ys, H D = some (.lst ys) ∧ ys.length = i ∧ GrD D H1 H ∧ ∀ j y, ys[j]? = some y → R j y, ⟨xs.length, Nat.zero_add _, [], upd_same, rfl, (GrD.refl D H1).set _, fun j y h => by simp at h⟩, fun i m H ⟨hm, ys, hD, hy, gr, hR⟩ => ?_⟩
  have g1 := gr.to nD
  have q1 := g1.seqT hs
  have q2 := g1.seqL hs2
  cases m with
  | zero => exact .inl ⟨⟨xs, zs, q1, q2, .inl (by omega)⟩, fin ys H hD (by omega) g1 hR⟩
  | succ m =>
    have i1 : i < xs.length := by omega
    have i2 : i < zs.length := by omega
    refine .inr ⟨⟨xs, zs, xs[i], zs[i], q1, q2, List.getElem?_eq_getElem i1, List.getElem?_eq_getElem i2⟩, fun H' => ∃ ys, H' D = some (.lst ys) ∧ ys.length = i + 1 ∧ GrD D H1 H' ∧ ∀ j y, ys[j]? = some y → R j y, fun H' h => ⟨m, Nat.lt_succ_self _, by omega, h⟩, fun v H' hyl => ?_⟩
    obtain ⟨T, x, y, rfl, nT, rfl, hx, hy2⟩ := hyl
    refine step i x y T H _ (hx xs q1) (hy2 zs q2) g1 nT fun v H4 g4 rv => ?_
    have gT : Gr H (upd H T (.tup [x, y])) := (Gr.refl H).new nT _
    have hD4 : H4 D = some (.lst ys) := (gT.trans g4).keep D _ (fun _ z => nomatch z) hD
    refine ⟨ys, hD4, small1000 (by omega), ys ++ [v], upd_same, by rw [List.length_append, hy]; rfl, (gr.trans ((gT.trans g4).d D)).set _, fun j z hz2 => ?_⟩
    by_cases hj : j < ys.length
    · rw [List.getElem?_append_left hj] at hz2
      exact hR j z hz2
    · have hl2 := (List.getElem?_eq_some_iff.mp hz2).1
      rw [List.length_append] at hl2
      have hl2 : j < ys.length + 1 := hl2
      have ej : j = ys.length := by omega
      subst ej
      rw [List.getElem?_append_right (Nat.le_refl _), Nat.sub_self] at hz2
      cases hz2
      rw [hy]
      exact rv
/-- what the sides come to at a point, less the wall -/
def wq (q : List Int × Int) (us : List (Int × Int)) : Rat := qv (worthU q us)
/-- a share below the one at which the sign changes -/
def Near (s a b : Rat) : Prop := (0 < a → b < 0 → s * (a - b) < a) ∧ (a < 0 → 0 < b → s * (b - a) < -a)
def Upto (s a b : Rat) : Prop := (0 < a → b < 0 → s * (a - b) ≤ a) ∧ (a < 0 → 0 < b → s * (b - a) ≤ -a)
theorem Upto.less {s t a b : Rat} (h : Upto s a b) (hl : t ≤ s) : Upto t a b := by
  refine ⟨fun h1 h2 => ?_, fun h1 h2 => ?_⟩
  · have := h.1 h1 h2
    have : 0 ≤ (s - t) * (a - b) := Rat.mul_nonneg (by grind) (by grind)
    grind
  · have := h.2 h1 h2
    have : 0 ≤ (s - t) * (b - a) := Rat.mul_nonneg (by grind) (by grind)
    grind
theorem Upto.near {s t a b : Rat} (h : Upto s a b) (hl : t < s) : Near t a b := by
  refine ⟨fun h1 h2 => ?_, fun h1 h2 => ?_⟩
  · have := h.1 h1 h2
    have : 0 < (s - t) * (a - b) := Rat.mul_pos (by grind) (by grind)
    grind
  · have := h.2 h1 h2
    have : 0 < (s - t) * (b - a) := Rat.mul_pos (by grind) (by grind)
    grind
theorem qv_inv {r w : Int × Int} (e : Eqr r w.2 w.1) (h : 0 < r.2) (hw : 0 < w.2) (h0 : w.1 ≠ 0) : qv r * qv w = 1 := by
  have e : r.1 * w.1 = w.2 * r.2 := e
  have e2 : (r.1 : Rat) * (w.1 : Rat) = (w.2 : Rat) * (r.2 : Rat) := by rw [← Rat.intCast_mul, e, Rat.intCast_mul]
  have h1 := qv_mul h
  have h2 := qv_mul hw
  have n1 := rne h
  have n2 := rne hw
  have n3 := rne0 h0
  have key : (qv r * qv w - 1) * ((r.2 : Rat) * (w.2 : Rat)) = 0 := by grind
  rcases Rat.mul_eq_zero.mp key with z | z
  · grind
  · rcases Rat.mul_eq_zero.mp z with z | z
    · exact absurd z n1
    · exact absurd z n2
theorem less_qv {p q : Int × Int} (hp : 0 < p.2) (hq : 0 < q.2) : p.1 * q.2 - q.1 * p.2 < 0 ↔ qv p < qv q := by
  have h := qv_neg (p := fMinus p q) (Int.mul_pos hp hq)
  rw [qv_minus hp hq] at h
  have h : qv p - qv q < 0 ↔ p.1 * q.2 - q.1 * p.2 < 0 := h
  rw [← h]
  constructor <;> intro z <;> grind
section
variable {P : Program} {w : World} {K : PySem.W.Frag} {mg : Str → Option Value} {base : Heap}
def spLess (K : PySem.W.Frag) : Sp := fun vs H Q _ => ∃ x y p q m n, vs = [x, y] ∧ NuV K H x p ∧ NuV K H y q ∧ Wd m p ∧ Wd n q ∧ m + n ≤ 300000 ∧ Q (.bl (decide (p.1 * q.2 - q.1 * p.2 < 0))) H
def spLBet (K : PySem.W.Frag) : Sp := fun vs H Q _ => ∃ x y z us ws s m n k, vs = [x, y, z] ∧ PtV K H x us ∧ PtV K H y ws ∧ NuV K H z s ∧ us.length = ws.length ∧ us.length ≤ 8 ∧ (∀ u, u ∈ us → Lo u) ∧ (∀ u, u ∈ ws → Lo u) ∧ Lo s ∧ (∀ u, u ∈ us → Wd m u) ∧ (∀ u, u ∈ ws → Wd n u) ∧ Wd k s ∧ 2 * m + n + k ≤ 200000 ∧
  ∀ v rs H', Gr H H' → PtV K H' v rs → rs.length = us.length → (∀ r, r ∈ rs → Lo r) → (∀ r, r ∈ rs → Wd (2 * m + n + k + 4) r) → rs.map qv = mixQ (qv s) (us.map qv) (ws.map qv) → Q v H'
/-! ### a share -/
def spLPart (K : PySem.W.Frag) : Sp := fun vs H Q _ => ∃ d, vs = [.ref d] ∧ DeckAt d H ∧ ∀ v r H', GrD d H H' → DeckAt d H' → NuV K H' v r → Lo r → Wd 134 r → Q v H'
end
end SB
namespace SB
open PySem L2 GxR GA RZ
/-- the signs of two fractions are unlike -/
theorem two_sides {p q : Int × Int} (hp : 0 < p.2) (hq : 0 < q.2) : p.1 * q.1 < 0 ↔ (0 < qv p ∧ qv q < 0) ∨ (qv p < 0 ∧ 0 < qv q) := by
  rw [qv_pos hp, qv_pos hq, qv_neg hp, qv_neg hq]
  constructor
  · intro h
    rcases Int.lt_trichotomy p.1 0 with z | z | z
    · refine .inr ⟨z, ?_⟩
      rcases Int.lt_trichotomy q.1 0 with y | y | y
      · have := Int.mul_pos_of_neg_of_neg z y
        omega
      · rw [y, Int.mul_zero] at h
        omega
      · exact y
    · rw [z, Int.zero_mul] at h
      omega
    · refine .inl ⟨z, ?_⟩
      rcases Int.lt_trichotomy q.1 0 with y | y | y
      · exact y
      · rw [y, Int.mul_zero] at h
        omega
      · have := Int.mul_pos z y
        omega
  · rintro (⟨h1, h2⟩ | ⟨h1, h2⟩)
    · exact Int.mul_neg_of_pos_of_neg h1 h2
    · exact Int.mul_neg_of_neg_of_pos h1 h2
theorem not_near {s a b : Rat} (h : ¬ ((0 < a ∧ b < 0) ∨ (a < 0 ∧ 0 < b))) : Upto s a b := ⟨fun h1 h2 => absurd (.inl ⟨h1, h2⟩) h, fun h1 h2 => absurd (.inr ⟨h1, h2⟩) h⟩
section
variable {P : Program} {w : World} {K : PySem.W.Frag} {mg : Str → Option Value} {base : Heap}
def spLeast (K : PySem.W.Frag) : Sp := fun vs H Q _ => ∃ x y z d qs us ws, vs = [x, y, z] ∧ BkV K H x d qs ∧ PtV K H y us ∧ PtV K H z ws ∧ (∀ q, q ∈ qs → Q9 q ∧ q.1.length = us.length) ∧ us.length = ws.length ∧ us.length ≤ 4 ∧ (∀ u, u ∈ us → Lo u) ∧ (∀ u, u ∈ ws → Lo u) ∧ (∀ u, u ∈ us → Wd 1000 u) ∧ (∀ u, u ∈ ws → Wd 1000 u) ∧
  ∀ v r H', Gr H H' → NuV K H' v r → Lo r → Wd 12300 r → 0 < qv r → qv r < 1 → (∀ q, q ∈ qs → Near (qv r) (wq q us) (wq q ws)) → Q v H'
end
end SB
namespace SB
open PySem L2 GxR GA RZ
section
variable {P : Program} {w : World} {K : PySem.W.Frag} {mg : Str → Option Value} {base : Heap}
def spThr (K : PySem.W.Frag) : Sp := fun vs H Q _ => ∃ d x n qs, vs = [.ref d, x] ∧ DeckAt d H ∧ BkV K H x n qs ∧ Pg9 n qs ∧ ∀ v qs' H', GrD d H H' → DeckAt d H' → BkV K H' v n qs' → BOk n qs' → Pg9 n qs' → Q v H'
end
end SB
namespace RP
open PySem PySem.Spec PyProof.Rows L2
theorem mulOne (l : Addr) (items : Array Value) (n : Nat) (dd : Option Addr) (sl : Array (Option Value)) (u : Tok) :
    Meets (Builtin.«tuple.__mul__» ⟨[.ref l, .int 1 u], []⟩) (fun _ R s => s.heap.get? l = some { cls := .type "tuple", dict := dd, data := .seq items n, slots := sl } ∧ R (.ok (.ret (Value.ref l))) s) :=
  .of_wp fun prog w A R s h => by
    obtain ⟨hp, g, d, tk, os⟩ := s
    obtain ⟨hl, h⟩ := h
    have f1 := AutoSeq1.idx_int
    wp_walk using wpAny_loadPart' hl
    repeat (first
      | (refine wpAny_ite_false (decide_eq_false (by decide)) ?_; wp_walk using wpAny_loadPart' hl)
      | (refine wpAny_ite_true (decide_eq_true (by simp)) ?_; wp_walk using wpAny_loadPart' hl))
    exact ⟨_, rfl, h⟩
theorem mulNone (l : Addr) (items : Array Value) (n : Nat) (dd : Option Addr) (sl : Array (Option Value)) (u : Tok) (hi : items.isEmpty = false) :
    Meets (Builtin.«tuple.__mul__» ⟨[.ref l, .int 0 u], []⟩) (fun _ R s => s.heap.get? l = some { cls := .type "tuple", dict := dd, data := .seq items n, slots := sl } ∧
      R (.ok (.ret (Value.ref s.heap.objs.size))) { s with heap := s.heap.push { cls := Value.type "tuple", data := Data.seq #[] }, toks := s.toks }) :=
  .of_wp fun prog w A R s h => by
    obtain ⟨hp, g, d, tk, os⟩ := s
    obtain ⟨hl, h⟩ := h
    have f1 := AutoSeq1.idx_int
    wp_walk using wpAny_loadPart' hl
    repeat (first
      | (refine wpAny_ite_false (decide_eq_false (by decide)) ?_; wp_walk using wpAny_loadPart' hl)
      | (refine wpAny_ite_false (decide_eq_false (by rw [hi]; decide)) ?_; wp_walk using wpAny_loadPart' hl)
      | (refine wpAny_ite_true (decide_eq_true (by simp)) ?_; wp_walk using wpAny_loadPart' hl))
    exact ⟨_, rfl, h⟩
/-- tuple * k, k from 0 on -/
def rRepA (K : PySem.W.Frag) : R2 := fun x y H Q => ∃ l k xs, x = .ref l ∧ y = .int k ∧ SqT K H l xs ∧ xs ≠ [] ∧ 0 ≤ k ∧ k ≤ 1000 ∧ xs.length ≤ 1000 ∧ (k = 1 → Q (.ref l) H) ∧ (k ≠ 1 → ∀ p, H p = none → Q (.ref p) (upd H p (.tup (List.replicate k.toNat xs).flatten)))
theorem op_repA {X : Cx} : OpR X (binaryOp .Mult) (rRepA X.K) := by
  intro pins s σ H x y v u Q I rx ry h
  obtain ⟨l, k, xs, rfl, rfl, hT, hne, h1, h2, hz, qa, qb⟩ := h
  by_cases c : 2 ≤ k
  · exact op_repT pins s σ H _ _ v u Q I rx ry ⟨l, k, xs, rfl, rfl, hT, hne, c, h2, hz, qb (by omega)⟩
  cases rx
  obtain ⟨t, rfl⟩ := ry
  obtain ⟨its, r, ⟨⟨cls, dd, data, sl⟩, ho, hc, n, hd⟩, hs⟩ := I.tuple hT
  simp only at hc hd
  subst hc hd
  have hle : its.length = xs.length := r.length.symm
  have hn : its ≠ [] := fun e => hne (by
    rw [e] at hle
    exact List.eq_nil_of_length_eq_zero hle.symm)
  have hi : its.toArray.isEmpty = false := by
    cases its with
    | nil => exact absurd rfl hn
    | cons a b => rfl
  have c2 : k = 0 ∨ k = 1 := by omega
  rcases c2 with rfl | rfl
  · refine wpAny_binaryOp_repeat_ref (T := "tuple") (U := "int") (by decide) ⟨_, ho, rfl⟩ (fun s' => typeIs_int s' 0 t) noFill_tuple_mul F.fills_int_mul F.slot_int_rmul repeat_tuple F.slot_int_index.lookup
      (call_meets F.slot_int_rmul (typeIs_int s 0 t) F.entry_int_rmul (F.args_int_rmul_2 _ _) (int_rmul_tuple 0 t l its.toArray n dd sl)
        ⟨ho, rfl, ⟨_, ho, rfl⟩, call_meets F.slot_tuple_mul ⟨_, ho, rfl⟩ F.entry_tuple_mul (F.args_tuple_mul_2 _ _) (mulNone l its.toArray n dd sl t hi) ⟨ho, ?_⟩⟩)
    refine ⟨.ref s.heap.objs.size, _, I.laid (t' := s.toks) (o := .tup []) (fun b ob q => Heap.get?_push_of_some _ q) (Nat.le_refl _) ?_, rfl, qb (by decide) _ (I.hok.fresh (Nat.le_refl _))⟩
    exact ⟨by decide, _, .nil, IsTup.new _ _⟩
  · refine wpAny_binaryOp_repeat_ref (T := "tuple") (U := "int") (by decide) ⟨_, ho, rfl⟩ (fun s' => typeIs_int s' 1 t) noFill_tuple_mul F.fills_int_mul F.slot_int_rmul repeat_tuple F.slot_int_index.lookup
      (call_meets F.slot_int_rmul (typeIs_int s 1 t) F.entry_int_rmul (F.args_int_rmul_2 _ _) (int_rmul_tuple 1 t l its.toArray n dd sl)
        ⟨ho, rfl, ⟨_, ho, rfl⟩, call_meets F.slot_tuple_mul ⟨_, ho, rfl⟩ F.entry_tuple_mul (F.args_tuple_mul_2 _ _) (mulOne l its.toArray n dd sl t) ⟨ho, ?_⟩⟩)
    exact ⟨.ref l, H, I, rfl, qa rfl⟩
end RP
namespace SB
open PySem L2 GxR GA RZ
/-! ### a call by names alone -/
structure ClK (P : Program) (w : World) (K : PySem.W.Frag) (mg : Str → Option Value) (base : Heap) (k : Nat) (x : Str) (ps ks : List Str) (g : List Value → List Value → List Value) (gV : List V → List V → List V) (sp : Sp) : Prop where
  ex : ∃ (f : Addr) (fd : FuncData), FnOk P w K mg base CX0 k f fd ps sp ∧ mg x = some (.ref f) ∧ PySem.W.keepIn K (.ref f) = true ∧ KBinds K fd ps ks g gV
theorem ClK.mono {P : Program} {w : World} {K : PySem.W.Frag} {mg : Str → Option Value} {base : Heap} {j k : Nat} {x : Str} {ps ks : List Str} {g : List Value → List Value → List Value} {gV : List V → List V → List V} {sp : Sp} (c : ClK P w K mg base j x ps ks g gV sp) (h : j ≤ k) : ClK P w K mg base k x ps ks g gV sp := by
  obtain ⟨f, fd, F, r⟩ := c.ex
  exact ⟨f, fd, F.mono h, r⟩
def tCallK0 (sp : Sp) (gV : List V → List V → List V) (tk : TA) : TE := fun σ H Q => tk σ H fun zs H2 => sp (gV [] zs) H2 Q E0
theorem pe_clK {X : Cx} {k : Nat} {x : Str} {ps ks : List Str} {g : List Value → List Value → List Value} {gV : List V → List V → List V} {sp : Sp} {p pos : Pos} {kws : List Keyword} {tk : TA} (c : ClK X.prog X.w X.K X.mg X.base k x ps ks g gV sp) (hr : Room k X.A) (hkw : PK X kws tk) (hg : Gl X x := by rfl)
    (hall : (backToKw pos (keywordEach kws X.env)).all (·.1.isSome) = true := by rfl) (hks : (backToKw pos (keywordEach kws X.env)).filterMap (·.1) = ks := by rfl) (hdb : (x == ("__debug__" : Str)) = false := by decide)
    (hpl : ((backTo pos (starEach [] X.env)).any (·.1) || (backToKw pos (keywordEach kws X.env)).any (·.1.isNone)) = false := by rfl) : PE X (.Call (.Name x p) [] kws pos) (tCallK0 sp gV tk) := by
  obtain ⟨f, fd, F, hm, hk, hb⟩ := c.ex
  refine ⟨fun pins s σ H Q I h => ?_⟩
  refine wpAny_Call_Name_kw (ld_glob I hg hm ?_ hdb)
  refine PySem.W.callWith_KW0 (h₀ := X.base) I.ok.mod.kin hk hall (thn (hkw.run pos pins s σ H _ I h) fun ws s2 ⟨zs, H2, I2, rz, q2⟩ => ⟨I2.kIn, ?_⟩) hpl
  rw [hks]
  exact run_fnk (us := []) (vs := []) F hr hb pass0 I2 .nil rz q2
/-- two, three, four names the other way round -/
def gR2 {α : Type} : List α → List α → List α
  | [], [a, b] => [b, a]
  | _, _ => []
def gR3 {α : Type} : List α → List α → List α
  | [], [a, b, c] => [c, b, a]
  | _, _ => []
theorem gR2_rel {vs : List V} {us : List Value} {zs : List V} {ws : List Value} (r : Vals vs us) (q : Vals zs ws) : Vals (gR2 vs zs) (gR2 us ws) := by
  cases r with
  | cons _ _ => exact .nil
  | nil =>
    cases q with
    | nil => exact .nil
    | cons h1 q =>
      cases q with
      | nil => exact .nil
      | cons h2 q =>
        cases q with
        | nil => exact .cons h2 (.cons h1 .nil)
        | cons h3 q => exact .nil
theorem gR3_rel {vs : List V} {us : List Value} {zs : List V} {ws : List Value} (r : Vals vs us) (q : Vals zs ws) : Vals (gR3 vs zs) (gR3 us ws) := by
  cases r with
  | cons _ _ => exact .nil
  | nil =>
    cases q with
    | nil => exact .nil
    | cons h1 q =>
      cases q with
      | nil => exact .nil
      | cons h2 q =>
        cases q with
        | nil => exact .nil
        | cons h3 q =>
          cases q with
          | nil => exact .cons h3 (.cons h2 (.cons h1 .nil))
          | cons h4 q => exact .nil
theorem gR2_len {us ws : List Value} (h : (gR2 us ws).length = 2) : ∃ a b, us = [] ∧ ws = [a, b] := by
  match us, ws, h with
  | [], [a, b], _ => exact ⟨a, b, rfl, rfl⟩
theorem gR3_len {us ws : List Value} (h : (gR3 us ws).length = 3) : ∃ a b c, us = [] ∧ ws = [a, b, c] := by
  match us, ws, h with
  | [], [a, b, c], _ => exact ⟨a, b, c, rfl, rfl⟩
section
variable {P : Program} {w : World} {K : PySem.W.Frag} {mg : Str → Option Value} {base : Heap} {k : Nat} {x : Str} {st : Stmt} {sp : Sp} {c : Addr}
/-- from a call by places, where the def is known -/
theorem clK_of {ps ks : List Str} {g : List Value → List Value → List Value} {gV : List V → List V → List V} (C : Cl P w K mg base k x ps sp) (D : Df K mg x st)
    (hb : ∀ (kV doc pm : Value) (an : Option Addr) (cdv ct : Value), KBinds K (PySem.W.fnOf x x (defArgs st) (defBody st) (defScope st) .none kV doc pm an cdv ct) ps ks g gV) : ClK P w K mg base k x ps ks g gV sp := by
  obtain ⟨f, fd, F, m⟩ := D.ex
  obtain ⟨oc, od, kV, doc, pm, an, cdv, ct, osl, rfl, lk, hcd⟩ := F.ex
  obtain ⟨fd2, G, oc2, od2, osl2, lk2⟩ := C.lk f m
  rw [lk] at lk2
  cases lk2
  exact ⟨f, _, G, m, F.kp, hb kV doc pm an cdv ct⟩
theorem DfT.df (D : DfT K mg x st c) : Df K mg x st := by
  obtain ⟨f, fd, F, m⟩ := D.ex
  exact ⟨f, fd, F.fn, m⟩
theorem clK2 {a b : Str} (C : Cl P w K mg base k x [a, b] sp) (D : Df K mg x st)
    (hb : ∀ (kV doc pm : Value) (an : Option Addr) (cdv ct : Value) (u v : Value), bindArgs (PySem.W.fnOf x x (defArgs st) (defBody st) (defScope st) .none kV doc pm an cdv ct) ⟨[], [(b, v), (a, u)]⟩ = pure [(a, u), (b, v)]) : ClK P w K mg base k x [a, b] [b, a] gR2 gR2 sp :=
  clK_of C D fun kV doc pm an cdv ct => ⟨fun s us ws _ hl => by
    obtain ⟨u, v, rfl, rfl⟩ := gR2_len hl
    exact .of_eq (hb kV doc pm an cdv ct v u), fun r q => gR2_rel r q⟩
theorem clK3 {a b d : Str} (C : Cl P w K mg base k x [a, b, d] sp) (D : Df K mg x st)
    (hb : ∀ (kV doc pm : Value) (an : Option Addr) (cdv ct : Value) (u v z : Value), bindArgs (PySem.W.fnOf x x (defArgs st) (defBody st) (defScope st) .none kV doc pm an cdv ct) ⟨[], [(d, z), (b, v), (a, u)]⟩ = pure [(a, u), (b, v), (d, z)]) : ClK P w K mg base k x [a, b, d] [d, b, a] gR3 gR3 sp :=
  clK_of C D fun kV doc pm an cdv ct => ⟨fun s us ws _ hl => by
    obtain ⟨u, v, z, rfl, rfl⟩ := gR3_len hl
    exact .of_eq (hb kV doc pm an cdv ct z v u), fun r q => gR3_rel r q⟩
end
def gR1 {α : Type} : List α → List α → List α
  | [], [a] => [a]
  | _, _ => []
theorem gR1_rel {vs : List V} {us : List Value} {zs : List V} {ws : List Value} (r : Vals vs us) (q : Vals zs ws) : Vals (gR1 vs zs) (gR1 us ws) := by
  cases r with
  | cons _ _ => exact .nil
  | nil =>
    cases q with
    | nil => exact .nil
    | cons h1 q =>
      cases q with
      | nil => exact .cons h1 .nil
      | cons h2 q => exact .nil
theorem gR1_len {us ws : List Value} (h : (gR1 us ws).length = 1) : ∃ a, us = [] ∧ ws = [a] := by
  match us, ws, h with
  | [], [a], _ => exact ⟨a, rfl, rfl⟩
section
variable {P : Program} {w : World} {K : PySem.W.Frag} {mg : Str → Option Value} {base : Heap} {k : Nat} {x : Str} {st : Stmt} {sp : Sp} {c : Addr}
theorem clK1 {a : Str} (C : Cl P w K mg base k x [a] sp) (D : Df K mg x st)
    (hb : ∀ (kV doc pm : Value) (an : Option Addr) (cdv ct : Value) (u : Value), bindArgs (PySem.W.fnOf x x (defArgs st) (defBody st) (defScope st) .none kV doc pm an cdv ct) ⟨[], [(a, u)]⟩ = pure [(a, u)]) : ClK P w K mg base k x [a] [a] gR1 gR1 sp :=
  clK_of C D fun kV doc pm an cdv ct => ⟨fun s us ws _ hl => by
    obtain ⟨u, rfl, rfl⟩ := gR1_len hl
    exact .of_eq (hb kV doc pm an cdv ct u), fun r q => gR1_rel r q⟩
end
end SB
namespace SB
open PySem L2 GxR GA RZ
theorem sgn_neg (i : Int) : sgn (-i) = -sgn i := by
  unfold sgn
  by_cases h1 : 0 < i
  · rw [if_pos h1, if_neg (by omega), if_pos (by omega)]
  · rw [if_neg h1]
    by_cases h2 : i < 0
    · rw [if_pos h2, if_pos (by omega)]
      rfl
    · rw [if_neg h2, if_neg (by omega), if_neg (by omega)]
      rfl
theorem sgn_in (i : Int) : -1 ≤ sgn i ∧ sgn i ≤ 1 := by
  unfold sgn
  by_cases h1 : 0 < i
  · rw [if_pos h1]; decide
  · rw [if_neg h1]
    by_cases h2 : i < 0
    · rw [if_pos h2]; decide
    · rw [if_neg h2]; decide
theorem ans_neg (q : List Int × Int) (us : List (Int × Int)) : ansU (negU q) us = -ansU q us := by
  unfold ansU
  rw [worth_neg, sgn_neg]
theorem row_len (qs : List (List Int × Int)) (us : List (Int × Int)) : (rowU qs us).length = qs.length := List.length_map _
theorem row_at {qs : List (List Int × Int)} {us : List (Int × Int)} {i : Nat} {q : List Int × Int} (e : qs[i]? = some q) : (rowU qs us)[i]? = some (ansU q us) := by
  unfold rowU
  rw [List.getElem?_map, e]
  rfl
theorem row_ce (qs : List (List Int × Int)) (us : List (Int × Int)) : CeOk (rowU qs us) := fun z hz => by
  obtain ⟨q, _, rfl⟩ := List.mem_map.mp hz
  exact sgn_in _
theorem turn_set {qs : List (List Int × Int)} {i : Nat} {q : List Int × Int} (e : qs[i]? = some q) : turnU qs i = qs.set i (negU q) := by
  unfold turnU
  rw [e]
  exact set_take _ (List.getElem?_eq_some_iff.mp e).1
theorem row_turn {qs : List (List Int × Int)} {i : Nat} {q : List Int × Int} (us : List (Int × Int)) (e : qs[i]? = some q) : rowU (turnU qs i) us = (rowU qs us).set i (-ansU q us) := by
  rw [turn_set e]
  unfold rowU
  rw [List.map_set, ans_neg]
theorem BOk.turn {d : Nat} {qs : List (List Int × Int)} {i : Nat} (ok : BOk d qs) (hi : i < qs.length) : BOk d (turnU qs i) := by
  have e : qs[i]? = some qs[i] := List.getElem?_eq_getElem hi
  obtain ⟨qo, ql⟩ := ok.ok qs[i] (List.getElem_mem hi)
  rw [turn_set e]
  refine ⟨ok.d1, ok.d8, by rw [List.length_set]; exact ok.l8, fun q hq => ?_, ?_⟩
  · rcases List.mem_or_eq_of_mem_set hq with h | h
    · exact ok.ok q h
    · rw [h]
      exact ⟨qo.neg, by show (List.map _ _).length = _; rw [List.length_map]; exact ql⟩
  · rw [List.map_set, nfU_neg qo]
    have : (qs.map nfU).set i (nfU qs[i]) = qs.map nfU := by
      refine List.ext_getElem? fun j => ?_
      rw [List.getElem?_set]
      by_cases h : i = j
      · subst h
        rw [if_pos rfl, if_pos (by rw [List.length_map]; exact hi), List.getElem?_map, e]
        rfl
      · rw [if_neg h]
    rw [this]
    exact ok.nd
theorem fit_none (n : Nat) (zs : List Int) : fitU (List.replicate n none) zs = true := by
  unfold fitU
  refine List.all_eq_true.mpr fun p hp => ?_
  have := (List.of_mem_zip (a := p.1) (b := p.2) hp).1
  rw [(List.mem_replicate.mp this).2]
  rfl
theorem Tb5.grd {T : Nat → Addr} {d : Addr} {H H' : Hp} (t : Tb5 T H) (dk : DeckAt d H) (g : GrD d H H') : Tb5 T H' := ⟨fun i h => by
  have z := t.t i h
  refine g.tab _ (fun e => ?_) z
  obtain ⟨ps, e1, _⟩ := z
  obtain ⟨a, b, e2, _⟩ := dk
  rw [e, e2] at e1
  cases e1⟩
/-! ### the same data -/
section
variable {K : PySem.W.Frag} {H : Hp}
theorem al_int (n : Nat) (i : Int) : Alike K H (n + 1) (.int i) (.int i) := .inl ⟨rfl, rfl⟩
theorem al_bl (n : Nat) (b : Bool) : Alike K H (n + 1) (.bl b) (.bl b) := .inl ⟨rfl, rfl⟩
theorem al_ints (n : Nat) : ∀ zs : List Int, Paired (Alike K H (n + 1)) (zs.map V.int) (zs.map V.int)
  | [] => .nil
  | z :: r => .cons (al_int n z) (al_ints n r)
theorem al_si (n : Nat) {x y : V} {zs : List Int} (hx : SiV K H x zs) (hy : SiV K H y zs) (hl : zs.length ≤ 1000) : Alike K H (n + 2) x y := by
  obtain ⟨a, rfl, ha⟩ := hx
  obtain ⟨b, rfl, hb⟩ := hy
  exact .inr ⟨a, b, _, _, rfl, rfl, szN (by rw [List.length_map]; omega), .inl ⟨ha, hb⟩, al_ints n zs⟩
theorem al_l2 {n : Nat} {p q : Addr} {x1 x2 y1 y2 : V} (hp : SqL K H p [x1, x2]) (hq : SqL K H q [y1, y2]) (h1 : Alike K H n x1 y1) (h2 : Alike K H n x2 y2) : Alike K H (n + 1) (.ref p) (.ref q) :=
  .inr ⟨p, q, _, _, rfl, rfl, szN (by show 2 ≤ 1000000; decide), .inr ⟨hp, hq⟩, .cons h1 (.cons h2 .nil)⟩
end
/-- what stands while the law looks at one point -/
structure RSt (K : PySem.W.Frag) (T : Nat → Addr) (d : Addr) (n : Nat) (qs : List (List Int × Int)) (us : List (Int × Int)) (x y : V) (r : Addr) (H0 H : Hp) : Prop where
  g : GrD d H0 H
  dk : DeckAt d H
  tb : Tb5 T H
  hx : BkV K H x n qs
  hy : PtV K H y us
  hr : SqT K H r ((rowU qs us).map V.int)
theorem RSt.grd {K : PySem.W.Frag} {T : Nat → Addr} {d : Addr} {n : Nat} {qs : List (List Int × Int)} {us : List (Int × Int)} {x y : V} {r : Addr} {H0 H H' : Hp} (s : RSt K T d n qs us x y r H0 H) (g : GrD d H H') (dk : DeckAt d H') : RSt K T d n qs us x y r H0 H' :=
  ⟨s.g.trans g, dk, s.tb.grd s.dk g, s.hx.st (g.st s.dk), s.hy.st (g.st s.dk), g.st s.dk _ _ s.hr⟩
theorem RSt.gr {K : PySem.W.Frag} {T : Nat → Addr} {d : Addr} {n : Nat} {qs : List (List Int × Int)} {us : List (Int × Int)} {x y : V} {r : Addr} {H0 H H' : Hp} (s : RSt K T d n qs us x y r H0 H) (g : Gr H H') : RSt K T d n qs us x y r H0 H' := s.grd (g.d d) (s.dk.gr g)
end SB
namespace SB
open PySem L2 GxR GA RZ
theorem sgn_qv {p : Int × Int} (h : 0 < p.2) : sgn p.1 = sgQ (qv p) := by
  unfold sgn sgQ
  by_cases h1 : 0 < p.1
  · rw [if_pos h1, if_pos ((qv_pos h).mpr h1)]
  · rw [if_neg h1, if_neg fun z => h1 ((qv_pos h).mp z)]
    by_cases h2 : p.1 < 0
    · rw [if_pos h2, if_pos ((qv_neg h).mpr h2)]
    · rw [if_neg h2, if_neg fun z => h2 ((qv_neg h).mp z)]
theorem ans_qv {q : List Int × Int} {us : List (Int × Int)} (h : ∀ u, u ∈ us → Lo u) : ansU q us = sgQ (wq q us) := sgn_qv (worth_pos h)
/-- the row of a point near enough to the one -/
theorem row_mix {qs : List (List Int × Int)} {us ws rs : List (Int × Int)} {s : Rat} (hu : ∀ u, u ∈ us → Lo u) (hw : ∀ u, u ∈ ws → Lo u) (hr : ∀ u, u ∈ rs → Lo u) (hl : us.length = ws.length) (e : rs.map qv = mixQ s (us.map qv) (ws.map qv)) (s0 : 0 < s) (s1 : s < 1) (hN : ∀ q, q ∈ qs → Near s (wq q us) (wq q ws)) :
    rowU qs rs = aheadU (rowU qs us) (rowU qs ws) := by
  refine List.ext_getElem? fun i => ?_
  cases eq : qs[i]? with
  | none =>
    have : qs.length ≤ i := List.getElem?_eq_none_iff.mp eq
    rw [List.getElem?_eq_none (by rw [row_len]; omega), List.getElem?_eq_none (by rw [ahead_len (by rw [row_len, row_len]), row_len]; omega)]
  | some q =>
    have nq := hN q (List.mem_of_getElem? eq)
    rw [row_at eq, ahead_at (row_at (us := us) eq) (row_at (us := ws) eq), ans_qv hu, ans_qv hw, ans_qv hr]
    have h1 : wq q rs = wq q us + s * (wq q ws - wq q us) := by
      have a1 := worth_qv (q := q) (us := us) fun u h => (hu u h).1
      have a2 := worth_qv (q := q) (us := ws) fun u h => (hw u h).1
      have a3 := worth_qv (q := q) (us := rs) fun u h => (hr u h).1
      unfold wq
      rw [a1, a2, a3, e, dot_mix _ _ _ _ (by rw [List.length_map, List.length_map, hl])]
      grind
    rw [h1, sg_ahead s0 s1 nq.1 nq.2]
theorem ahead_self (zs : List Int) : aheadU zs zs = zs := by
  refine List.ext_getElem? fun i => ?_
  cases e : zs[i]? with
  | none => rw [List.getElem?_eq_none (by rw [ahead_len rfl]; exact List.getElem?_eq_none_iff.mp e)]
  | some z =>
    rw [ahead_at e e]
    by_cases h : z = 0
    · rw [if_pos h]
    · rw [if_neg h]
section
variable {K : PySem.W.Frag} {H : Hp}
theorem al_nu (n : Nat) {x y : V} {q : Int × Int} (hx : NuV K H x q) (hy : NuV K H y q) : Alike K H (n + 2) x y := by
  obtain ⟨a, rfl, ha⟩ := hx
  obtain ⟨b, rfl, hb⟩ := hy
  exact .inr ⟨a, b, _, _, rfl, rfl, szN (by show 2 ≤ 1000000; decide), .inl ⟨ha, hb⟩, .cons (al_int n _) (.cons (al_int n _) .nil)⟩
theorem al_nus (n : Nat) : ∀ {xs ys : List V} {us : List (Int × Int)}, Paired (NuV K H) xs us → Paired (NuV K H) ys us → Paired (Alike K H (n + 2)) xs ys
  | _, _, _, .nil, .nil => .nil
  | _, _, _, .cons h1 t1, .cons h2 t2 => .cons (al_nu n h1 h2) (al_nus n t1 t2)
theorem al_pt (n : Nat) {x y : V} {us : List (Int × Int)} (hx : PtV K H x us) (hy : PtV K H y us) (hl : us.length ≤ 1000) : Alike K H (n + 3) x y := by
  obtain ⟨a, xs, rfl, ha, hp⟩ := hx
  obtain ⟨b, ys, rfl, hb, hq⟩ := hy
  have := paired_len hq
  exact .inr ⟨a, b, _, _, rfl, rfl, szN (by omega), .inl ⟨ha, hb⟩, al_nus n hp hq⟩
end
/-- what stands while the law looks at two points -/
structure RS5 (K : PySem.W.Frag) (T : Nat → Addr) (d : Addr) (n : Nat) (qs : List (List Int × Int)) (us ws : List (Int × Int)) (x y v : V) (H0 H : Hp) : Prop where
  g : GrD d H0 H
  dk : DeckAt d H
  tb : Tb5 T H
  hx : BkV K H x n qs
  hy : PtV K H y us
  hv : PtV K H v ws
theorem RS5.grd {K : PySem.W.Frag} {T : Nat → Addr} {d : Addr} {n : Nat} {qs : List (List Int × Int)} {us ws : List (Int × Int)} {x y v : V} {H0 H H' : Hp} (s : RS5 K T d n qs us ws x y v H0 H) (g : GrD d H H') (dk : DeckAt d H') : RS5 K T d n qs us ws x y v H0 H' :=
  ⟨s.g.trans g, dk, s.tb.grd s.dk g, s.hx.st (g.st s.dk), s.hy.st (g.st s.dk), s.hv.st (g.st s.dk)⟩
theorem RS5.gr {K : PySem.W.Frag} {T : Nat → Addr} {d : Addr} {n : Nat} {qs : List (List Int × Int)} {us ws : List (Int × Int)} {x y v : V} {H0 H H' : Hp} (s : RS5 K T d n qs us ws x y v H0 H) (g : Gr H H') : RS5 K T d n qs us ws x y v H0 H' := s.grd (g.d d) (s.dk.gr g)
/-! ### moved, turned, left out -/
theorem wq_line {q : List Int × Int} {us : List (Int × Int)} (h : ∀ u, u ∈ us → Lo u) : wq q us = lineQ q (us.map qv) := worth_qv fun u hu => (h u hu).1
theorem ans_mov {q : List Int × Int} {us by_ es : List (Int × Int)} (hq : NonZ q.1) (hu : ∀ u, u ∈ us → Lo u) (hb : ∀ u, u ∈ by_ → Lo u) (he : ∀ u, u ∈ es → Lo u) (hl : us.length = by_.length) (e : es.map qv = addQ (us.map qv) (by_.map qv)) : ansU (movU q by_) es = ansU q us := by
  obtain ⟨c, c0, hc⟩ := mov_line hq hb
  rw [ans_qv he, ans_qv hu, wq_line he, wq_line hu, hc, e, dot_add _ _ _ (by rw [List.length_map, List.length_map, hl])]
  have : c * (dotQ q.1 (us.map qv) + dotQ q.1 (by_.map qv) - dotQ q.1 (by_.map qv) - (q.2 : Rat)) = c * lineQ q (us.map qv) := by
    unfold lineQ
    grind
  rw [this, sgQ_mul c0]
theorem row_mov {qs : List (List Int × Int)} {us by_ es : List (Int × Int)} (hq : ∀ q, q ∈ qs → NonZ q.1) (hu : ∀ u, u ∈ us → Lo u) (hb : ∀ u, u ∈ by_ → Lo u) (he : ∀ u, u ∈ es → Lo u) (hl : us.length = by_.length) (e : es.map qv = addQ (us.map qv) (by_.map qv)) : rowU (qs.map fun q => movU q by_) es = rowU qs us := by
  unfold rowU
  rw [List.map_map]
  exact List.map_congr_left fun q h => ans_mov (hq q h) hu hb he hl e
theorem mov_wd {q : List Int × Int} {us : List (Int × Int)} {k W : Nat} (hq : NonZ q.1) (hu : ∀ u, u ∈ us → Lo u) (qw : QW k q) (w : Wd W (shiftU q us)) : QW (k + W) (movU q us) := by
  have lo := shift_lo (q := q) hu
  have e : movU q us = divU (rawU q (shiftU q us)) := rfl
  generalize shiftU q us = r at *
  have nz := raw_nz (r := r) hq lo.1
  have g0 := nonZ_g nz
  have le : ∀ z, z ∈ (rawU q r).1 ++ [(rawU q r).2] → (z / ((gcdL ((rawU q r).1 ++ [(rawU q r).2]) : Nat) : Int)).natAbs ≤ z.natAbs := fun z hz => (div_le g0 (gcdL_dvd hz)).1
  rw [e]
  refine ⟨fun z hz => ?_, ?_⟩
  · obtain ⟨y, hy, rfl⟩ := List.mem_map.mp hz
    refine Nat.lt_of_le_of_lt (le y (List.mem_append_left _ hy)) ?_
    obtain ⟨x, hx, rfl⟩ := List.mem_map.mp hy
    exact mul_lt2 (qw.1 x hx) w.2
  · refine Nat.lt_of_le_of_lt (le _ (List.mem_append_right _ List.mem_cons_self)) ?_
    exact Nat.lt_of_lt_of_le w.1 (Nat.pow_le_pow_right (by decide) (by omega))
theorem mov_len (q : List Int × Int) (us : List (Int × Int)) : (movU q us).1.length = q.1.length := by
  show (List.map _ (List.map _ q.1)).length = _
  rw [List.length_map, List.length_map]
theorem mov_ok {q : List Int × Int} {us : List (Int × Int)} {k W : Nat} (hq : NonZ q.1) (hu : ∀ u, u ∈ us → Lo u) (qw : QW k q) (w : Wd W (shiftU q us)) (h : k + W ≤ 10000) : QOk (movU q us) := by
  have m := mov_wd hq hu qw w
  have le : (2 : Nat) ^ (k + W) ≤ 2 ^ 10000 := Nat.pow_le_pow_right (by decide) h
  exact ⟨nonZ_div (raw_nz hq (shift_lo hu).1), fun z hz => Nat.lt_of_lt_of_le (m.1 z hz) le, Nat.lt_of_lt_of_le m.2 le⟩
theorem BOk.mov {d : Nat} {qs : List (List Int × Int)} {us : List (Int × Int)} {k W : Nat} (ok : BOk d qs) (hu : ∀ u, u ∈ us → Lo u) (qw : ∀ q, q ∈ qs → QW k q) (w : ∀ q, q ∈ qs → Wd W (shiftU q us)) (h : k + W ≤ 10000) : BOk d (qs.map fun q => movU q us) := by
  refine ⟨ok.d1, ok.d8, by rw [List.length_map]; exact ok.l8, fun q hq => ?_, ?_⟩
  · obtain ⟨p, hp, rfl⟩ := List.mem_map.mp hq
    obtain ⟨po, pl⟩ := ok.ok p hp
    exact ⟨mov_ok po.nz hu (qw p hp) (w p hp) h, by rw [mov_len]; exact pl⟩
  · have : ∀ l : List (List Int × Int), (∀ q, q ∈ l → QOk q) → (l.map nfU).Nodup → ((l.map fun q => movU q us).map nfU).Nodup := fun l => by
      induction l with
      | nil => exact fun _ _ => List.nodup_nil
      | cons p r ih =>
        intro ho hn
        rw [List.map_cons, List.nodup_cons] at hn
        rw [List.map_cons, List.map_cons, List.nodup_cons]
        refine ⟨fun hm => hn.1 ?_, ih (fun q h => ho q (List.mem_cons_of_mem _ h)) hn.2⟩
        obtain ⟨q', hq', e⟩ := List.mem_map.mp hm
        obtain ⟨q, hq, rfl⟩ := List.mem_map.mp hq'
        have := mov_nf (ho q (List.mem_cons_of_mem _ hq)) (ho p List.mem_cons_self) hu e
        exact List.mem_map.mpr ⟨q, hq, this⟩
    exact this qs (fun q h => (ok.ok q h).1) ok.nd
theorem BOk.wo {d : Nat} {qs : List (List Int × Int)} (ok : BOk d qs) (i : Nat) : BOk d (qs.take i ++ qs.drop (i + 1)) := by
  have sub : List.Sublist (qs.take i ++ qs.drop (i + 1)) qs := by
    rw [← List.eraseIdx_eq_take_drop_succ]
    exact List.eraseIdx_sublist qs i
  exact ⟨ok.d1, ok.d8, Nat.le_trans sub.length_le ok.l8, fun q hq => ok.ok q (sub.subset hq), ok.nd.sublist (sub.map nfU)⟩
theorem row_wo (qs : List (List Int × Int)) (us : List (Int × Int)) (i : Nat) : rowU (qs.take i ++ qs.drop (i + 1)) us = (rowU qs us).take i ++ (rowU qs us).drop (i + 1) := by
  unfold rowU
  rw [List.map_append, List.map_take, List.map_drop]
theorem zw_take {α : Type} (f : α → α → α) : ∀ (n : Nat) (xs ys : List α), (List.zipWith f xs ys).take n = List.zipWith f (xs.take n) (ys.take n)
  | 0, _, _ => rfl
  | _ + 1, [], _ => by simp
  | _ + 1, _ :: _, [] => by simp
  | n + 1, x :: r, y :: t => by simp [zw_take f n r t]
theorem zw_drop {α : Type} (f : α → α → α) : ∀ (n : Nat) (xs ys : List α), (List.zipWith f xs ys).drop n = List.zipWith f (xs.drop n) (ys.drop n)
  | 0, _, _ => rfl
  | _ + 1, [], _ => by simp
  | _ + 1, _ :: _, [] => by simp
  | n + 1, x :: r, y :: t => by simp [zw_drop f n r t]
theorem ahead_wo {zs ws : List Int} (h : zs.length = ws.length) (i : Nat) : aheadU (zs.take i ++ zs.drop (i + 1)) (ws.take i ++ ws.drop (i + 1)) = (aheadU zs ws).take i ++ (aheadU zs ws).drop (i + 1) := by
  unfold aheadU
  rw [zw_take, zw_drop, List.zipWith_append (by rw [List.length_take, List.length_take, h])]
theorem ahead_set {zs ws : List Int} {i : Nat} {z w : Int} (hz : zs[i]? = some z) (hw : ws[i]? = some w) : aheadU (zs.set i (-z)) (ws.set i (-w)) = (aheadU zs ws).set i (-(if z = 0 then w else z)) := by
  refine List.ext_getElem? fun j => ?_
  have iz := (List.getElem?_eq_some_iff.mp hz).1
  have iw := (List.getElem?_eq_some_iff.mp hw).1
  have il : i < (aheadU zs ws).length := by unfold aheadU; rw [List.length_zipWith]; omega
  rw [List.getElem?_set]
  by_cases e : i = j
  · subst e
    rw [if_pos rfl, if_pos il, ahead_at (z := -z) (w := -w) (by rw [List.getElem?_set, if_pos rfl, if_pos iz]) (by rw [List.getElem?_set, if_pos rfl, if_pos iw])]
    by_cases c : z = 0
    · rw [if_pos c, if_pos (by omega)]
    · rw [if_neg c, if_neg (by omega)]
  · rw [if_neg e]
    unfold aheadU
    rw [List.getElem?_zipWith, List.getElem?_zipWith, List.getElem?_set_ne e, List.getElem?_set_ne e]
/-- between two points the answers that both have -/
theorem row_same {qs : List (List Int × Int)} {us ws rs : List (Int × Int)} {s : Rat} (hu : ∀ u, u ∈ us → Lo u) (hw : ∀ u, u ∈ ws → Lo u) (hr : ∀ u, u ∈ rs → Lo u) (hl : us.length = ws.length) (e : rs.map qv = mixQ s (us.map qv) (ws.map qv)) (s0 : 0 ≤ s) (s1 : s ≤ 1) {i : Nat} {q : List Int × Int} (hq : qs[i]? = some q) (ha : ansU q us = ansU q ws) : ansU q rs = ansU q us := by
  rw [ans_qv hu, ans_qv hw] at ha
  rw [ans_qv hu, ans_qv hr]
  have h1 : wq q rs = wq q us + s * (wq q ws - wq q us) := by
    rw [wq_line hr, wq_line hu, wq_line hw]
    unfold lineQ
    rw [e, dot_mix _ _ _ _ (by rw [List.length_map, List.length_map, hl])]
    grind
  rw [h1, sg_same s0 s1 ha]
end SB
namespace SB
open PySem PySem.Spec PyProof.Rows L2 GxR GA RZ
/-! ### a def's promise where nothing is being shown yet (no repr under way) -/
structure FnG (P : Program) (w : World) (K : PySem.W.Frag) (mg : Str → Option Value) (base : Heap) (k : Nat) (f : Addr) (fd : FuncData) (ps : List Str) (sp : Sp) : Prop where
  len : ∀ vs H Q E, sp vs H Q E → vs.length = ps.length
  run : ∀ (A : Around) (out : List Env) (s : Shared) (H : Hp) (args : Args) (us : List Value) (vs : List V) (Q : VK) (E : XK), A.guards = some [] → Room k A → Env0 P w K mg base A out s H →
    BindsTo s fd args (ps.zip us) → Vals vs us → sp vs H Q E → codeAny (model P w) A (.call (.ref f) args) (CR CX0 out P w H s Q E) s
theorem FnG.mono {P : Program} {w : World} {K : PySem.W.Frag} {mg : Str → Option Value} {base : Heap} {j k : Nat} {f : Addr} {fd : FuncData} {ps : List Str} {sp : Sp} (F : FnG P w K mg base j f fd ps sp) (h : j ≤ k) : FnG P w K mg base k f fd ps sp :=
  ⟨F.len, fun A out s H args us vs Q E g r => F.run A out s H args us vs Q E g (r.mono h)⟩
section
variable {P : Program} {w : World} {K : PySem.W.Frag} {mg : Str → Option Value} {base : Heap}
theorem okG {x : Str} {st : Stmt} {f : Addr} {fd : FuncData} {N ps : List Str} {k : Nat} {sp : Sp} (F : Fun K x x st f fd) (S : FnScope N ps (defScope st)) (len : ∀ vs H Q E, sp vs H Q E → vs.length = ps.length)
    (B : ∀ (cdv : Value) (A : Around) (out : List Env) (s : Shared) (H : Hp) (vs : List V) (Q : VK) (E : XK), A.guards = some [] → Room k (A.deeper (envOfC x (defScope st) s.heap.objs.size f cdv)) → sp vs H Q E →
      ∃ t, PSs (cxOf CX0 P w K mg base N x (defScope st) f cdv A out s H E).nox (defBody st) t ∧ t { nx := fun _ H' => Q .non H', rt := Q } (start N vs) H) : FnG P w K mg base (k + 1) f fd ps sp := by
  obtain ⟨oc, od, kV, dc, pm, an, cdv, ct, sl, rfl, lk, cin⟩ := F.ex
  refine ⟨len, fun A out s0 H0 args us vs Q E gd rm env bnd rel hs => ?_⟩
  have kin : K.In s0.heap := env.mod.kin.keeps fun b o z => (env.bs b o z).1
  have knd : ∀ y ∈ ps.zip us, (defScope st).names.lookup y.1 = some .local ∨ ((defScope st).names.lookup y.1 = some .cell ∧ ((cellsFrom (s0.heap.objs.size + 1) (defScope st).names []).lookup y.1).isSome = true) := by
    intro y hy
    have hm := (List.of_mem_zip (a := y.1) (b := y.2) hy).1
    exact (S.par y.1 hm).imp id fun z => ⟨z, PySem.W.cellsFrom_some _ _ _ (.inl z)⟩
  refine codeAny_call_function rm.depth (kin _ _ lk) rfl S.co S.gen rfl (PySem.W.codeRec_of kin cin) (bnd _ _ _ _ (wpAny_newFunctionEnv_cells S.kind knd ?_))
  intro e0 ee sh inn
  cases ee
  have lim : s0.heap.NoLimit := env.mod.nolimit.keeps fun b o z => (env.bs b o z).1
  refine ⟨lim.keeps inn.toInCall.keep, codeAny_func ?_⟩
  obtain ⟨t, pt, rd⟩ := B cdv A out s0 H0 vs Q E gd (rm.deeper _) hs
  have inv : Inv (cxOf CX0 P w K mg base N x (defScope st) f cdv A out s0 H0 E) [] (start N vs) H0 sh := inv_start S rm.hd env (len _ _ _ _ hs) rel inn
  refine wpAny_mono (pt.nox.run [] sh (start N vs) H0 _ inv rd) (fun fl s' z => ?_) fun _ _ z => z
  match fl, z with
  | .ret u, ⟨v, σ', H', J, rv, q⟩ => exact ⟨v, H', J.os, J.bare, J.base, J.hok, rv, q⟩
  | .next, ⟨σ', H', J, q⟩ => exact ⟨V.non, H', J.os, J.bare, J.base, J.hok, rfl, q⟩
  | .brk, ⟨_, _, _, q⟩ => exact q.elim
  | .cont, ⟨_, _, _, q⟩ => exact q.elim
end
/-- a def of such a promise, by its name -/
structure ClG (P : Program) (w : World) (K : PySem.W.Frag) (mg : Str → Option Value) (base : Heap) (k : Nat) (x : Str) (ps : List Str) (sp : Sp) : Prop where
  ex : ∃ (f : Addr) (fd : FuncData), FnG P w K mg base k f fd ps sp ∧ mg x = some (.ref f) ∧ PySem.W.keepIn K (.ref f) = true ∧ Binds K fd ps []
theorem clG {P : Program} {w : World} {K : PySem.W.Frag} {mg : Str → Option Value} {base : Heap} {k : Nat} {x : Str} {st : Stmt} {ps : List Str} {sp : Sp} (D : Df K mg x st)
    (hb : ∀ (kV doc pm : Value) (an : Option Addr) (cdv ct : Value) (us : List Value), us.length = ps.length → bindArgs (PySem.W.fnOf x x (defArgs st) (defBody st) (defScope st) .none kV doc pm an cdv ct) ⟨us, []⟩ = pure (ps.zip us))
    (h : ∀ f fd, Fun K x x st f fd → FnG P w K mg base k f fd ps sp) : ClG P w K mg base k x ps sp := by
  obtain ⟨f, fd, F, m⟩ := D.ex
  exact ⟨f, fd, h f fd F, m, F.kp, F.binds hb⟩
theorem pe_clG {X : Cx} {k : Nat} {x : Str} {ps : List Str} {sp : Sp} {p pos : Pos} {e : Expr} {es : List Expr} {t : TA} (c : ClG X.prog X.w X.K X.mg X.base k x ps sp) (gd : X.A.guards = some []) (hr : Room k X.A) (ha : PA X (e :: es) t) (hg : Gl X x := by rfl) (hdb : (x == ("__debug__" : Str)) = false := by decide)
    (he : starEach (e :: es) X.env = (false, eval e X.env) :: starEach es X.env := by rfl) (hpl : (backTo pos (starEach es X.env)).any (·.1) = false := by rfl) :
    PE X (.Call (.Name x p) (e :: es) [] pos) (tCall sp [] E0 t) := by
  obtain ⟨f, fd, F, hm, hk, hb⟩ := c.ex
  refine ⟨fun pins s0 σ H0 Q I z => wpAny_Call_Name_kw (ld_glob I hg hm (PySem.W.callWith_K (h₀ := X.base) I.ok.mod.kin hk (thn (ha.run pos pins s0 σ H0 _ I z) fun us s1 y => ?_) he hpl) hdb)⟩
  obtain ⟨vs, H1, J, rel, q⟩ := y
  refine ⟨J.kIn, wpAny_call ?_⟩
  have q : sp vs H1 Q E0 := by
    have : vs ++ [] = vs := List.append_nil vs
    rw [← this]
    exact q
  have hl : us.length = ps.length := by rw [← rel.length]; exact F.len _ _ _ _ q
  have bd := hb s1 us J.kIn (by rw [List.append_nil]; exact hl)
  rw [List.append_nil] at bd
  refine codeAny_mono (F.run X.A X.stack s1 H1 ⟨us, []⟩ us vs Q E0 gd hr J.env0 bd rel q) fun r s' z => ?_
  match r, z with
  | .error e, z => exact pass0 pins σ H1 s1 e s' J z
  | .ok (.ret u), z => exact J.after z
  | .ok .next, z => exact z.elim
  | .ok .brk, z => exact z.elim
  | .ok .cont, z => exact z.elim
/-- repr of a list, a tuple of data -/
def rRepr (K : PySem.W.Frag) : List V → Hp → VK → Prop := fun xs H Q => ∃ a d, xs = [.ref a] ∧ Dp K H (.ref a) d ∧ d.showable = true ∧ d.hasDict = false ∧ d.depth ≤ 8 ∧ d.shown.length ≤ sizeLine ∧ Q (.str d.shown) H
theorem cr_repr {X : Cx} (gd : X.A.guards = some []) (hu : X.A.units + 64 < cLine) : CallR X (.builtin "repr") (rRepr X.K) := by
  intro pins s0 σ H0 xs us Q I r h
  obtain ⟨a, d, rfl, hd, h1, h2, h3, h4, q⟩ := h
  obtain ⟨u, rfl, rx⟩ := vals1 r
  cases rx
  obtain ⟨as, rd⟩ := Dp.reads I d _ _ hd rfl
  exact repr_of_reads' rd h1 (PyData.noDict_hsm h2) gd (by omega) (fun _ _ e => e) (fun h' u tk hk => ⟨.str d.shown, H0, I.kept hk, ⟨u, rfl⟩, q⟩) h4
end SB
/-! t[::-1] of a tuple -/
namespace HT
open PySem PySem.Spec PyProof.Rows L2
section
variable {prog : Program} {w : World} {A : Around} {E : Value → Shared → Prop} {s : Shared}
theorem rev_places (n : Nat) : Builtin.Slice.slicePlaces ((n : Int) - 1) (-1) (-1) = n := by
  unfold Builtin.Slice.slicePlaces
  rw [if_neg (by decide)]
  by_cases h : (n : Int) - 1 > -1
  · rw [if_pos h]
    have e : ((n : Int) - 1 - -1 - 1) / (- -1) + 1 = (n : Int) := by
      rw [show (- -1 : Int) = 1 by decide, Int.ediv_one]
      omega
    rw [e, Int.toNat_natCast]
  · rw [if_neg h]
    have : n = 0 := by omega
    rw [this]
    rfl
theorem rev_applied {c : Addr} {m : Tok} {n : Nat} {Q : Int × Int × Nat → Shared → Prop} (so : s.heap.IsSliceOf c .none .none (.int (-1) m)) (q : Q ((n : Int) - 1, -1, n) s) :
    wpAny (model prog w) A (Builtin.Slice.sliceApplied (.ref c) (pure (n : Int))) Q E s := by
  obtain ⟨o, hget, hcls, hfl⟩ := so
  unfold Builtin.Slice.sliceApplied Builtin.Slice.sliceFields
  refine wpAny_bind (wpAny_bind ?_)
  refine wpAny_field hget hfl (x := Value.none) rfl (wpAny_bind ?_)
  refine wpAny_field hget hfl (x := Value.none) rfl (wpAny_bind ?_)
  refine wpAny_field hget hfl (x := Value.int (-1) m) rfl (wpAny_pure ?_)
  refine wpAny_bind (slicePart_int (i := -1) (u := m) ?_)
  show wpAny _ _ (if ((-1 : Int) == 0) = true then _ else _) _ _ s
  rw [if_neg (by decide)]
  refine wpAny_bind (slicePart_none (wpAny_bind (slicePart_none (wpAny_bind (wpAny_pure ?_)))))
  show wpAny _ _ (pure ((n : Int) - 1, (-1 : Int), Builtin.Slice.slicePlaces ((n : Int) - 1) (-1) (-1))) _ _ s
  rw [rev_places]
  exact wpAny_pure q
theorem fm_congr {α β : Type} {f g : α → Option β} : ∀ {l : List α}, (∀ x, x ∈ l → f x = g x) → l.filterMap f = l.filterMap g
  | [], _ => rfl
  | x :: r, h => by rw [List.filterMap_cons, List.filterMap_cons, h x List.mem_cons_self, fm_congr (l := r) fun y hy => h y (List.mem_cons_of_mem _ hy)]
theorem rev_pick (xs : Array Value) : ((List.range xs.size).filterMap fun (k : Nat) => xs[(((xs.size : Nat) : Int) - 1 + (k : Int) * -1).toNat]?).toArray = xs.toList.reverse.toArray := by
  have h := PySem.W.krv_pick xs
  unfold slicePick at h
  rw [PySem.W.krv_bounds] at h
  have h : ((sliceRange ((xs.size : Int) - 1) (-1) (-1)).filterMap (xs[·]?)).toArray = xs.toList.reverse.toArray := h
  rw [PySem.W.krv_sliceRange, List.filterMap_map] at h
  rw [← h]
  congr 1
  refine fm_congr fun k hk => ?_
  have hk := List.mem_range.mp hk
  have e : (((xs.size : Nat) : Int) - 1 + (k : Int) * -1).toNat = xs.size - 1 - k := by omega
  show _ = xs[xs.size - 1 - k]?
  rw [e]
theorem rev_getItem {t c : Addr} {xs : Array Value} {m : Tok} {Q : Value → Shared → Prop} (it : IsTup s.heap t xs) (so : s.heap.IsSliceOf c .none .none (.int (-1) m)) (small : xs.size ≤ sizeLine)
    (q : Q (.ref s.heap.objs.size) { s with heap := s.heap.push { cls := .type "tuple", data := .seq xs.toList.reverse.toArray } }) : wpAny (model prog w) A (getItem (.ref t) (.ref c)) Q E s := by
  obtain ⟨o, hget, hcls, hfl⟩ := id so
  unfold getItem
  try with_reducible refine wpAny_holding ?_
  first | refine wpAny_bind (wpAny_pure ?_) | skip
  refine wpAny_bind (wpAny_sequenceKey it.typeIs (by decide) (wpAny_bind (wpAny_callSpecial?_slot (name := Str.ofString "__getitem__") it.typeIs slot_tuple_getitem
    (wpAny_call_entry slot_tuple_getitem it.typeIs entry_tuple_getitem ?_ (args_tuple_getitem _ _)))))
  show wpAny _ _ (Builtin.Tuple.tupleItemsOf (.ref t) >>= _) _ _ s
  refine wpAny_bind (tupleItemsOf_ it (wpAny_bind (wpAny_typeOf (T := "slice") ⟨o, hget, hcls⟩ ?_)))
  rw [if_pos (by decide)]
  refine wpAny_bind (rev_applied so ?_)
  have no : ¬ (((((xs.size : Nat) : Int) - 1) == 0 && (-1 : Int) == 1 && xs.size == xs.size) = true) := by
    intro z
    rw [Bool.and_eq_true, Bool.and_eq_true] at z
    exact absurd z.1.2 (by decide)
  show wpAny _ _ (if ((((xs.size : Nat) : Int) - 1) == 0 && (-1 : Int) == 1 && xs.size == xs.size) = true then _ else _) _ _ s
  rw [if_neg no, rev_pick]
  have sz : sizeOk (.seq xs.toList.reverse.toArray) := by
    show xs.toList.reverse.toArray.size ≤ sizeLine
    rw [List.size_toArray, List.length_reverse, Array.length_toList]
    exact small
  first
    | exact wpAny_bind (m := Builtin.Tuple.tupleExact _) (wpAny_newObj_type (wpAny_pure ⟨_, rfl, wpAny_pure q⟩) sz)
    | exact wpAny_bind (wpAny_bind (m := Builtin.Tuple.tupleExact _) (wpAny_newObj_type (wpAny_pure (wpAny_pure ⟨_, rfl, wpAny_pure q⟩)) sz))
end
end HT
namespace L2
open PySem PySem.Spec PyProof.Rows
section
variable {X : Cx}
def tRevT (K : PySem.W.Frag) (te : TE) : TE := fun σ H Q => te σ H fun x H1 => ∃ a xs, x = .ref a ∧ SqT K H1 a xs ∧ ∀ p, H1 p = none → Q (.ref p) (upd H1 p (.tup xs.reverse))
theorem pe_revT {e : Expr} {te : TE} {k : Nat} {p1 p2 p3 pos : Pos} (he : PE X e te) : PE X (.Subscript e (.Slice none none (some (.UnaryOp .USub (.Constant (.int 1) k p1) p2)) p3) pos) (tRevT X.K te) := by
  refine ⟨fun pins s0 σ H0 Q I0 z => Subscript_ (thn (he.run pins s0 σ H0 _ I0 z) fun v s1 y => ?_)⟩
  obtain ⟨x, H1, I1, rv, a, xs, rfl, sq, q⟩ := y
  cases rv
  have neg1 : PO X (some (.UnaryOp .USub (.Constant (.int 1) k p1) p2)) (tPart (tUn (rU fun i => .int (-i)) (tC (.int 1)))) := po_some (pe_un un_neg pe_int)
  refine wpAny_Slice (thn (po_none.run pins s1 σ H1 (fun o J => o = none ∧ J = H1) I1 ⟨rfl, rfl⟩) fun v1 s2 ⟨o1, J1, K1, b1, c1, d1⟩ => ?_)
  subst c1 d1
  refine thn (po_none.run pins s2 σ J1 (fun o J => o = none ∧ J = J1) K1 ⟨rfl, rfl⟩) fun v2 s3 ⟨o2, J2, K2, b2, c2, d2⟩ => ?_
  subst c2 d2
  refine thn (neg1.run pins s3 σ J2 (fun o J => o = some (-1) ∧ J = J2) K2 ⟨1, rfl, -1, rfl, rfl, rfl⟩) fun v3 s4 ⟨o3, J3, K3, b3, c3, d3⟩ => ?_
  subst c3 d3
  cases b1
  cases b2
  cases b3 with
  | int i m =>
    have K4 : Inv X pins σ J3 { s4 with heap := s4.heap.push { cls := .type "slice", data := .fields #[.none, .none, .int (-1) m] } } := K3.kept (t' := s4.toks) fun b ob q => Heap.get?_push_of_some _ q
    obtain ⟨its, r, it, few⟩ := K4.tuple sq
    have len := r.length
    show wpAny (model X.prog X.w) X.A (subscriptTail e (.Slice none none (some (.UnaryOp .USub (.Constant (.int 1) k p1) p2)) p3) (.ref a) (.ref s4.heap.objs.size)) (EP X pins σ Q) X.xe { s4 with heap := s4.heap.push { cls := .type "slice", data := .fields #[.none, .none, .int (-1) m] } }
    refine tail_any (ops := [.ref a, .ref s4.heap.objs.size]) it.typeIs (PyProof.Rows.slot_tuple_getitem.lookup) (HT.rev_getItem it (Heap.IsSliceOf.new _ _ _ _) (by rw [List.size_toArray]; omega) ?_) (by with_unfolding_all rfl)
    refine ⟨.ref _, _, K4.laid (t' := s4.toks) (o := .tup xs.reverse) (fun b ob q => Heap.get?_push_of_some _ q) (Nat.le_refl _) ?_, rfl, q _ (K4.hok.fresh (Nat.le_refl _))⟩
    exact ⟨by rw [List.length_reverse]; exact few, _, r.reverse, IsTup.new _ _⟩
end
end L2
namespace GA
open PySem PySem.Spec PyProof.Rows L2 GenW GxR
/-- the plan of a walk: W by the turn and a measure; QT behind its end, QF behind the first item that is true -/
def PlanN (J : It) (g : TG) (tt : TT) (te : TE) (σ0 : L2.St) (vs : List Nat) (QT QF : Hp → Prop) (W : Nat → Nat → Hp → Prop) : Prop :=
  ∀ i m H, W i m H → (J.stop i H ∧ QT H) ∨ (J.go i H ∧ ∃ Nx : Hp → Prop, (∀ H', Nx H' → ∃ m', m' < m ∧ W (i + 1) m' H') ∧ ∀ x H', J.yld i H x H' → g x σ0 H' fun σ2 H2 => wipe σ2 vs = σ0 ∧ tt σ2 H2 fun b H3 =>
    if b = true then te σ2 H3 fun y H4 => ∃ b, y = .bl b ∧ (if b = true then QF H4 else Nx H4) else Nx H3)
def GYn (X : Cx) (pins : List (Addr × Obj)) (QF : Hp → Prop) : Protocol := fun n s₀ v s kap =>
  ∃ b σ' H', v = .bool b ∧ L2.Inv X pins σ' H' s ∧ (b = true → QF H') ∧ (b = false → ∀ s'' : Shared, s''.heap = s.heap → s''.os = s.os → AllBare s''.gens → kap (.send .none) s'')
section
variable {X : Cx} {s0 : Shared} {H0 : Hp} {cenv : Env} {fp : List Addr} {elt tg iter : Expr} {ifs : List Expr} {scope : Scope} {pos : Pos} {it a : Addr} {go : Obj} {tn : Nat → Heap → Prop} {J : It} {g : TG} {tt : TT} {te : TE} {σ0 : L2.St} {vs : List Nat} {QT QF : Hp → Prop} {W : Nat → Nat → Hp → Prop}
theorem genN_loop (hd : X.A.handled = none) (hco : cenv.scope.isCoroutine = false) (T : Turn X.prog X.w X.K tg J fp it tn) (ha : a ∉ fp) (pg : PG (cxG X s0 H0 cenv fp) tg g) (pt : PTs (cxG X s0 H0 cenv fp) ifs tt) (pe : PE (cxG X s0 H0 cenv fp) elt te)
    (hW : PlanN J g tt te σ0 vs QT QF W) : ∀ (m n i : Nat) (H : Hp) (s₀ s : Shared), m < n → W i m H → L2.Inv (cxG X s0 H0 cenv fp) [(a, go)] σ0 H s → tn i s.heap → (∀ b ∈ fp, H b = none) →
      Seg (model X.prog X.w) X.A.in1.in1 (fun n s₀ r s₁ => r = .ok .next ∧ GPn (cxG X s0 H0 cenv fp) [(a, go)] σ0 QT n s₀ s₁) (GYn (cxG X s0 H0 cenv fp) [(a, go)] QF) n s₀
        (.compLoop (.GeneratorExp elt [⟨tg, iter, ifs, 0⟩] scope pos) 0 (.ref it) .none cenv) ((model X.prog X.w).den (.compLoop (.GeneratorExp elt [⟨tg, iter, ifs, 0⟩] scope pos) 0 (.ref it) .none cenv)) [] s := by
  intro m
  induction m using Nat.strongRecOn with
  | ind m ih =>
    intro n i H s₀ s hmn w I st nf
    have eA : X.A.in1.in1.over (.compLoop (.GeneratorExp elt [⟨tg, iter, ifs, 0⟩] scope pos) 0 (.ref it) .none cenv) [] = (cxG X s0 H0 cenv fp).A := over_gen
    have stat : ∀ {σ' : L2.St} {H' : Hp} {s' : Shared}, L2.Inv (cxG X s0 H0 cenv fp) [(a, go)] σ' H' s' → (∀ b ∈ fp, H' b = none) → ∀ b ∈ fp, FpOk (cxG X s0 H0 cenv fp) [(a, go)] H' b := fun {σ' H' s'} I' hn b hb =>
      ⟨hn b hb, (I'.ok.exf b hb).1, I'.ok.exfs b hb, .inl hb, fun x c e => (I'.ok.exf b hb).2 x c e, fun p hp e => by
        have hp : p ∈ [(a, go)] := hp
        rw [List.mem_singleton.mp hp] at e
        exact ha (by rw [show a = b from e]; exact hb)⟩
    show Seg _ _ _ _ _ s₀ _ ((compTurn (.GeneratorExp elt [⟨tg, iter, ifs, 0⟩] scope pos) 0 (.ref it) .none cenv).onRaise (leaving cenv)) [] s
    rw [compTurn_gen, Sem.onRaise_eq_wrap]
    refine seg_bind_wrap (wpAny_standAt ?_)
    rcases hW i m H w with ⟨stop, qq⟩ | ⟨go', Nx, hNx, step⟩
    · refine seg_bind_wrap ?_
      rw [eA]
      refine thnF (T.done (cxG X s0 H0 cenv fp) rfl rfl rfl rfl i [(a, go)] s _ H (fun _ _ => False) I (stat I nf) st stop) fun r s6 ⟨hr, I6⟩ => ?_
      subst hr
      exact seg_end (.ok .next) ⟨rfl, H, I6, qq⟩
    · refine seg_bind_wrap ?_
      rw [eA]
      refine thnF (T.item (cxG X s0 H0 cenv fp) rfl rfl rfl rfl i [(a, go)] s _ H (fun _ _ => False) I (stat I nf) st go') fun r s6 ⟨u, hr, h6⟩ => ?_
      subst hr
      show Seg _ _ _ _ _ s₀ _ (Sem.wrap _ _ _ _ (letOwnedTupleGo tg (.ref it) u >>= _)) [] s6
      refine seg_bind_wrap ?_
      rw [eA]
      refine thnF h6 fun _ s7 ⟨x, H7, I7, r7, y7, st7, n7⟩ => ?_
      have I7' := I7.pinned (stat I7 n7) (T.obj _ _ st7)
      refine seg_bind_wrap ?_
      rw [eA]
      refine thnF (pg.run _ s7 _ H7 x u _ I7' r7 (step x H7 y7)) fun _ s8 ⟨σ8, H8, I8, hw8, q8⟩ => ?_
      refine seg_bind_wrap ?_
      rw [eA]
      refine thnF (pt.run _ s8 σ8 H8 _ I8 q8) fun b s9 ⟨H9, I9, q9⟩ => ?_
      -- the turn's end
      have fin : ∀ {s' : Shared} {H' : Hp}, L2.Inv (cxG X s0 H0 cenv fp) ([(a, go)] ++ pinsAt fp s7.heap) σ8 H' s' → L2.Inv (cxG X s0 H0 cenv fp) [(a, go)] σ0 H' s' ∧ tn (i + 1) s'.heap ∧ (∀ b ∈ fp, H' b = none) := fun {s' H'} I' => by
        have pin' : ∀ b ∈ fp, ∀ o, s7.heap.get? b = some o → s'.heap.get? b = some o ∧ H' b = none := fun b hb o e =>
          let z := I'.pin (b, o) (List.mem_append_right _ (List.mem_append_right _ (mem_pinsAt hb e)))
          ⟨z.1, z.2.1⟩
        have hl : σ0.length = σ8.length := by rw [← hw8, wipe_length]
        refine ⟨(I'.unpinned (pins := [(a, go)])).weak hl (fun j v e => ?_), T.keep _ _ _ st7 fun b hb o e => (pin' b hb o e).1, fun b hb => ?_⟩
        · rw [← hw8] at e
          exact (wipe_some e).1
        · obtain ⟨o, e, _⟩ := T.obj _ _ st7 b hb
          exact (pin' b hb o e).2
      cases b with
      | false =>
        simp only [Bool.false_eq_true, if_false] at q9 ⊢
        obtain ⟨m', hm, w'⟩ := hNx H9 q9
        obtain ⟨f1, f2, f3⟩ := fin I9
        exact seg_again rfl (ih m' hm n (i + 1) H9 s₀ s9 (by omega) w' f1 f2 f3)
      | true =>
        simp only [if_true] at q9 ⊢
        have hy : ∀ v, yieldOut cenv v = yieldValue v := fun v => by simp only [yieldOut, hco, Bool.false_eq_true, if_false]
        simp only [hy]
        rw [Sem.bind_eq_wrap', Sem.bind_eq_wrap', Sem.wrap_wrap, Sem.wrap_wrap]
        refine seg_wrap ?_
        rw [eA]
        refine thnF (pe.run _ s9 σ8 H9 _ I9 q9) fun z s10 ⟨yv, H10, I10, r10, bb, ey, q10⟩ => ?_
        subst ey
        have ez : z = Value.bool bb := r10
        subst ez
        obtain ⟨f1, f2, f3⟩ := fin I10
        obtain ⟨n', rfl⟩ : ∃ n', n = n' + 1 := ⟨n - 1, by omega⟩
        refine seg_at (seg_yield rfl rfl rfl ⟨bb, σ0, H10, rfl, f1, fun hb => ?_, fun hb s'' e1 e2 e3 => ?_⟩)
        · rw [hb, if_pos rfl] at q10
          exact q10
        · rw [hb, if_neg Bool.false_ne_true] at q10
          obtain ⟨m', hm, w'⟩ := hNx H10 q10
          exact seg_again rfl (ih m' hm n' (i + 1) H10 s'' s'' (by omega) w' (inv_same f1 e1 e2 e3) (T.keep _ _ _ f2 fun b hb o e => by rw [e1]; exact e) f3)

theorem genN_first (hd : X.A.handled = none) (hco : cenv.scope.isCoroutine = false) (T : Turn X.prog X.w X.K tg J fp it tn) (ha : a ∉ fp) (pg : PG (cxG X s0 H0 cenv fp) tg g) (pt : PTs (cxG X s0 H0 cenv fp) ifs tt) (pe : PE (cxG X s0 H0 cenv fp) elt te)
    (hW : PlanN J g tt te σ0 vs QT QF W) (m n : Nat) (H : Hp) (s₀ s : Shared) (hmn : m < n) (w : W 0 m H) (I : L2.Inv (cxG X s0 H0 cenv fp) [(a, go)] σ0 H s) (st : tn 0 s.heap) (nf : ∀ b ∈ fp, H b = none) :
      Seg (model X.prog X.w) X.A.in1.in1 (fun n s₀ r s₁ => r = .ok .next ∧ GPn (cxG X s0 H0 cenv fp) [(a, go)] σ0 QT n s₀ s₁) (GYn (cxG X s0 H0 cenv fp) [(a, go)] QF) n s₀
        (.compStart (.GeneratorExp elt [⟨tg, iter, ifs, 0⟩] scope pos) 0 (.ref it) .none cenv) ((model X.prog X.w).den (.compStart (.GeneratorExp elt [⟨tg, iter, ifs, 0⟩] scope pos) 0 (.ref it) .none cenv)) [] s := by
  have loop := genN_loop (elt := elt) (iter := iter) (ifs := ifs) (scope := scope) (pos := pos) (go := go) hd hco T ha pg pt pe hW m n 0 H s₀ s hmn w I st nf
  show Seg _ _ _ _ _ s₀ _ ((compStart (.GeneratorExp elt [⟨tg, iter, ifs, 0⟩] scope pos) 0 (.ref it) .none cenv).onRaise (leaving cenv)) [] s
  unfold compStart
  rw [Sem.onRaise_eq_wrap]
  show Seg _ _ _ _ _ s₀ _ ((ask >>= _).wrap _ _ _ _) [] s
  refine seg_bind_wrap (wpAny_askSetting ?_)
  split
  · exact seg_again rfl loop
  · first
      | exact seg_bind_wrap (wpAny_rule (seg_bind_wrap (wpAny_standAt (seg_bind_wrap (T.self _ 0 s _ _ st (seg_again rfl loop))))))
      | (refine seg_bind_wrap (wpAny_rule ?_); show Seg _ _ _ _ _ s₀ _ ((standAt iter.pos >>= _).wrap _ _ _ _) [] s; exact seg_bind_wrap (wpAny_standAt (seg_bind_wrap (T.self _ 0 s _ _ st (seg_again rfl loop)))))
end
section
variable {X : Cx} {pins : List (Addr × Obj)} {σ : L2.St} {H4 : Hp} {s4 : Shared} {cenv : Env} {fp : List Addr} {a : Addr} {go : Obj} {g : Nat} {σ0 : L2.St} {QT QF : Hp → Prop} {RR : Result → Shared → Prop}
theorem any_loop (hd : X.A.handled = none) (hdp : X.A.depth < recursionLimit) (hgo : GoAt go g) (I4 : L2.Inv X pins σ H4 s4) (f4 : ∀ b ∈ fp, FpOk X pins H4 b)
    (hT : ∀ s' H', L2.Inv X pins σ H' s' → QT H' → RR (.ok (.ret (.bool false))) s') (hF : ∀ s' H', L2.Inv X pins σ H' s' → QF H' → RR (.ok (.ret (.bool true))) s') :
    ∀ (n : Nat) (gs : GenState) (s : Shared) (σ' : L2.St) (H' : Hp), L2.Inv (cxG X s4 H4 cenv fp) [(a, go)] σ' H' s → s.gens[g]? = some gs →
      (∀ s'' : Shared, s''.heap = s.heap → s''.os = s.os → AllBare s''.gens → gs.Goes (model X.prog X.w) X.A.in1.in1 (fun n s₀ r s₁ => r = .ok .next ∧ GPn (cxG X s4 H4 cenv fp) [(a, go)] σ0 QT n s₀ s₁) (GYn (cxG X s4 H4 cenv fp) [(a, go)] QF) n (.send .none) s'') →
      codeAny (model X.prog X.w) X.A (.builtin "any.loop" ⟨[.ref a], []⟩) RR s := by
  have back : ∀ {σ' : L2.St} {H' : Hp} {s1 s' : Shared}, L2.Inv (cxG X s4 H4 cenv fp) [(a, go)] σ' H' s1 → s'.heap = s1.heap → s'.os = s1.os → AllBare s'.gens → L2.Inv X pins σ H' s' := fun {σ' H' s1 s'} I6 e1 e2 e3 => by
    refine I4.call' (ch := fp) (e2.trans I6.os) (by rw [e1]; exact I6.base) (by rw [e1]; exact I6.hok) e3 fun b hb => ⟨(f4 b hb).2.2.2.1, (f4 b hb).2.1, (f4 b hb).2.2.2.2.1, (f4 b hb).2.2.2.2.2⟩
  intro n
  induction n with
  | zero =>
    intro gs s σ' H' I hg hgs
    obtain ⟨gc, ⟨nm, qn, gd⟩, gsl⟩ := hgo
    have isg : s.heap.IsGen a g := ⟨go, nm, qn, (I.pin (a, go) (List.mem_append_right _ (List.mem_singleton.mpr rfl))).1, gc, gd, gsl⟩
    refine codeAny_builtin F.entry_any_loop ?_
    rw [Around.under_plainId F.plain_any_loop _]
    show wpAny _ X.A.in1 (pyNext (.ref a) >>= _) _ _ s
    refine wpAny_bind (wpAny_gsz (Nat.le_refl s.gens.size) ?_)
    refine wpAny_pyNext_genexpQ (A := X.A.in1) (n := 0) (P := GPn (cxG X s4 H4 cenv fp) [(a, go)] σ0 QT) (Y := GYn (cxG X s4 H4 cenv fp) [(a, go)] QF) hd I.nolimit hdp isg hg
      (hgs (s.setGen g .running) rfl rfl (bare_set I.bare hg rfl)) (fun v s₁ gs' hb hv => ?_) (fun s₁ hp h' hk => ?_)
    · intro hsz
      obtain ⟨b, σ2, H2, ev, I2, q1, q2⟩ := hv
      subst ev
      have hlt : g < s.gens.size := by
        rcases Nat.lt_or_ge g s.gens.size with h | h
        · exact h
        · rw [Array.getElem?_eq_none h] at hg; cases hg
      have hsz2 : g < s₁.gens.size := by
        have e := setGen_size s₁ g gs'
        have hsz : s.gens.size ≤ (s₁.setGen g gs').gens.size := hsz
        omega
      have hg1 := Array.getElem?_eq_getElem hsz2
      refine wpAny_bind (wpAny_holding (wpAny_truthy_bool ?_))
      refine wpAny_bind (wpAny_letGo ?_)
      cases b with
      | false => exact False.elim (q2 rfl (s₁.setGen g gs') rfl rfl (bare_set I2.bare hg1 hb))
      | true =>
        simp only [if_true]
        refine wpAny_bind (wpAny_rule (wpAny_pure ?_))
        exact hF _ H2 (back I2 rfl rfl (bare_set I2.bare hg1 hb)) (q1 rfl)
    · intro hsz
      obtain ⟨H2, I2, q⟩ := hp
      have hlt : g < s.gens.size := by
        rcases Nat.lt_or_ge g s.gens.size with h | h
        · exact h
        · rw [Array.getElem?_eq_none h] at hg; cases hg
      have hsz2 : g < s₁.gens.size := by
        have e := setGen_size s₁ g .finished
        have hsz : s.gens.size ≤ (s₁.setGen g .finished).gens.size := hsz
        omega
      have hg1 := Array.getElem?_eq_getElem hsz2
      refine wpAny_bind (wpAny_rule (wpAny_pure ?_))
      exact hT _ H2 ((back (s' := s₁.setGen g .finished) I2 rfl rfl (bare_set I2.bare hg1 rfl)).kept (t' := s₁.toks) hk) q
  | succ n ih =>
    intro gs s σ' H' I hg hgs
    obtain ⟨gc, ⟨nm, qn, gd⟩, gsl⟩ := hgo
    have isg : s.heap.IsGen a g := ⟨go, nm, qn, (I.pin (a, go) (List.mem_append_right _ (List.mem_singleton.mpr rfl))).1, gc, gd, gsl⟩
    refine codeAny_builtin F.entry_any_loop ?_
    rw [Around.under_plainId F.plain_any_loop _]
    show wpAny _ X.A.in1 (pyNext (.ref a) >>= _) _ _ s
    refine wpAny_bind (wpAny_gsz (Nat.le_refl s.gens.size) ?_)
    refine wpAny_pyNext_genexpQ (A := X.A.in1) (n := n + 1) (P := GPn (cxG X s4 H4 cenv fp) [(a, go)] σ0 QT) (Y := GYn (cxG X s4 H4 cenv fp) [(a, go)] QF) hd I.nolimit hdp isg hg
      (hgs (s.setGen g .running) rfl rfl (bare_set I.bare hg rfl)) (fun v s₁ gs' hb hv => ?_) (fun s₁ hp h' hk => ?_)
    · intro hsz
      obtain ⟨b, σ2, H2, ev, I2, q1, q2⟩ := hv
      subst ev
      have hlt : g < s.gens.size := by
        rcases Nat.lt_or_ge g s.gens.size with h | h
        · exact h
        · rw [Array.getElem?_eq_none h] at hg; cases hg
      have hsz2 : g < s₁.gens.size := by
        have e := setGen_size s₁ g gs'
        have hsz : s.gens.size ≤ (s₁.setGen g gs').gens.size := hsz
        omega
      have hg1 := Array.getElem?_eq_getElem hsz2
      refine wpAny_bind (wpAny_holding (wpAny_truthy_bool ?_))
      refine wpAny_bind (wpAny_letGo ?_)
      cases b with
      | false =>
        simp only [Bool.false_eq_true, if_false]
        refine wpAny_pure ⟨plainId_quiet F.plain_any_loop _, ih gs' (s₁.setGen g gs') σ2 H2 (inv_same I2 rfl rfl (bare_set I2.bare hg1 hb)) (setGen_self hg1) fun s'' e1 e2 e3 => q2 rfl s'' e1 e2 e3⟩
      | true =>
        simp only [if_true]
        refine wpAny_bind (wpAny_rule (wpAny_pure ?_))
        exact hF _ H2 (back I2 rfl rfl (bare_set I2.bare hg1 hb)) (q1 rfl)
    · intro hsz
      obtain ⟨H2, I2, q⟩ := hp
      have hlt : g < s.gens.size := by
        rcases Nat.lt_or_ge g s.gens.size with h | h
        · exact h
        · rw [Array.getElem?_eq_none h] at hg; cases hg
      have hsz2 : g < s₁.gens.size := by
        have e := setGen_size s₁ g .finished
        have hsz : s.gens.size ≤ (s₁.setGen g .finished).gens.size := hsz
        omega
      have hg1 := Array.getElem?_eq_getElem hsz2
      refine wpAny_bind (wpAny_rule (wpAny_pure ?_))
      exact hT _ H2 ((back (s' := s₁.setGen g .finished) I2 rfl rfl (bare_set I2.bare hg1 rfl)).kept (t' := s₁.toks) hk) q
end

section
variable {X : Cx} {pins : List (Addr × Obj)} {σ : L2.St} {H : Hp} {s : Shared}
/-- any(elt for tg in iter), elt a truth -/
def tAnyG (P : Addr) (wi : TI) (g : TG) (te : TE) (vs : List Nat) : TE := fun σ H Q => wi σ H fun J H1 => TabG H1 P ∧ ∀ H2, Tabbed P H1 H2 →
  ∃ W : Nat → Nat → Hp → Prop, (∃ m, W 0 m H2) ∧ PlanN J g tYes te (wipe σ vs) vs (fun H' => Q (.bl false) H') (fun H' => Q (.bl true) H') W
theorem pe_anyG {c P : Addr} {elt tg iter : Expr} {p pos gpos : Pos} {scope : Scope} {own : List (Str × Nat)} {wi : TI} {g : TG} {te : TE} {k : Nat}
    (hr : Room k X.A) (hg : Gl X "any") (hm : X.mg "any" = none) (hb : bootBuiltins "any" = some (.builtin "any")) (TB : TabB X.base X.mg c P) (hcode : X.env.code = .ref c) (hN : X.N.Nodup) (ok : GenOk X.N X.env.scope scope own) (hi : PI X tg iter wi)
    (hgt : ∀ (s : Shared) (H : Hp) (C : Addr) (code : Value) (fp : List Addr), PG (cxG X s H (envG X scope C code) fp) tg g) (he : ∀ (s : Shared) (H : Hp) (C : Addr) (code : Value) (fp : List Addr), PE (cxG X s H (envG X scope C code) fp) elt te)
    (hs : ∀ v, genFold iter X.env v = pure v := by intro _; rfl)
    (hst : starEach [.GeneratorExp elt [⟨tg, iter, [], 0⟩] scope gpos] X.env = (false, eval (.GeneratorExp elt [⟨tg, iter, [], 0⟩] scope gpos) X.env) :: starEach [] X.env := by rfl) :
    PE X (.Call (.Name "any" p) [.GeneratorExp elt [⟨tg, iter, [], 0⟩] scope gpos] [] pos) (tAnyG P wi g te (own.map (·.2))) := by
  refine ⟨fun pins s σ H Q I h => ?_⟩
  refine wpAny_Call_Name_kw (ld_blt I hg hm hb ?_)
  refine PyProof.Rows.callWith_builtin1 ?_ hst (by rfl)
  rw [hst]
  show wpAny _ _ (spliced ((false, eval (.GeneratorExp elt [⟨tg, iter, [], 0⟩] scope gpos) X.env) :: backTo pos (starEach [] X.env))) _ _ s
  refine Calls.spliced_cons (gen_made (R := fun J H1 => ∀ H2, Tabbed P H1 H2 → ∃ W : Nat → Nat → Hp → Prop, (∃ m, W 0 m H2) ∧ PlanN J g tYes te (wipe σ (List.map (fun q : Str × Nat => q.2) own)) (List.map (fun q : Str × Nat => q.2) own) (fun H' => Q (.bl false) H') (fun H' => Q (.bl true) H') W)
    hr TB hcode hN ok hi hs I h fun J H1 H2 s4 it fp tn code g' a go s5 hR hT I4 T f4 ha hgo I5 st5 hg5 => ?_)
  refine Calls.spliced_nil ?_
  obtain ⟨W, ⟨m, w0⟩, pl⟩ := hR H2 hT
  have cn : (envG X scope s4.heap.objs.size code).scope.isCoroutine = false := ok.co
  have nf5 : ∀ b ∈ fp, H2 b = none := fun b hb => (f4 b hb).1
  refine call_function_tree F.kind_any F.plain_any F.entry_any (F.args_any1 _) ?_
  unfold Builtin.«any»
  refine wpAny_bind (m := oneArg "any" _) (wpAny_pure ?_)
  have isg : s5.heap.IsGen a g' := by
    obtain ⟨gc, ⟨nm, qn, gd⟩, gsl⟩ := hgo
    exact ⟨go, nm, qn, (I5.pin (a, go) (List.mem_append_right _ (List.mem_singleton.mpr rfl))).1, gc, gd, gsl⟩
  refine wpAny_bind (wpAny_pyIter_gen isg ?_)
  refine wpAny_pure ⟨plainId_quiet F.plain_any_loop _, ?_⟩
  refine any_loop (σ0 := wipe σ (List.map (fun q : Str × Nat => q.2) own)) (QT := fun H' => Q (.bl false) H') (QF := fun H' => Q (.bl true) H') hr.hd (by have := hr.dp; omega) hgo I4 f4 (fun s' H' I' q => ⟨.bl false, H', I', rfl, q⟩) (fun s' H' I' q => ⟨.bl true, H', I', rfl, q⟩)
    (m + 1) _ s5 _ H2 I5 hg5 fun s'' e1 e2 e3 => ⟨rfl, ?_⟩
  exact genN_first (X := X) (go := go) hr.hd cn T ha (hgt _ _ _ _ _) pts_nil (he _ _ _ _ _) pl m (m + 1) H2 s'' s'' (Nat.lt_succ_self _) w0 (inv_same I5 e1 e2 e3) (by rw [e1]; exact st5) nf5
end
end GA
namespace SB
open PySem L2 GxR GA RZ
/-! ### the program's judgements of any data -/
mutual
theorem dp_gr {K : PySem.W.Frag} {H H' : Hp} (g : Gr H H') : ∀ {v : V} {d : PyData}, Dp K H v d → Dp K H' v d
  | _, _, .non => .non
  | _, _, .bl b => .bl b
  | _, _, .int i => .int i
  | _, _, .str x => .str x
  | _, _, .lst h p => .lst (g.seqL h) (dpa_gr g p)
  | _, _, .tup h p => .tup (g.seqT h) (dpa_gr g p)
theorem dpa_gr {K : PySem.W.Frag} {H H' : Hp} (g : Gr H H') : ∀ {vs : List V} {ds : List PyData}, DpAll K H vs ds → DpAll K H' vs ds
  | _, _, .nil => .nil
  | _, _, .cons h t => .cons (dp_gr g h) (dpa_gr g t)
end
theorem dpa_len {K : PySem.W.Frag} {H : Hp} : ∀ {vs : List V} {ds : List PyData}, DpAll K H vs ds → vs.length = ds.length
  | _, _, .nil => rfl
  | _, _, .cons _ t => congrArg (· + 1) (dpa_len t)
theorem dpa_get {K : PySem.W.Frag} {H : Hp} : ∀ {vs : List V} {ds : List PyData} {i : Nat} {v : V}, DpAll K H vs ds → vs[i]? = some v → ∃ d, ds[i]? = some d ∧ Dp K H v d
  | _, _, _, _, .nil, h => by simp at h
  | _, _, 0, _, .cons h _, e => by
    have e := Option.some.inj e
    subst e
    exact ⟨_, rfl, h⟩
  | _, _, i + 1, _, .cons _ t, e => dpa_get (i := i) t e
def isIntD : PyData → Bool
  | .int _ => true
  | _ => false
def isTupD : PyData → Bool
  | .tuple _ => true
  | _ => false
theorem dp_kn {K : PySem.W.Frag} {H : Hp} {v : V} {d : PyData} (h : Dp K H v d) : ∃ t, Kn K H v t ∧ isInt v = isIntD d ∧ kitB t "tuple" = some (isTupD d) := by
  cases h with
  | non => exact ⟨_, .non, rfl, by show kitB _ "tuple" = some false; decide +kernel⟩
  | bl b => exact ⟨_, .bl b, rfl, by show kitB _ "tuple" = some false; decide +kernel⟩
  | int i => exact ⟨_, .int i, rfl, by show kitB _ "tuple" = some false; decide +kernel⟩
  | str x => exact ⟨_, .str x, rfl, by show kitB _ "tuple" = some false; decide +kernel⟩
  | lst h _ => exact ⟨_, .lst h, rfl, by show kitB _ "tuple" = some false; decide +kernel⟩
  | tup h _ => exact ⟨_, .tup h, rfl, by show kitB _ "tuple" = some true; decide +kernel⟩
theorem dp_ofInt {K : PySem.W.Frag} {H : Hp} {v : V} {d : PyData} (h : Dp K H v d) (i : isIntD d = true) : ∃ z : Int, v = .int z ∧ d = .int z := by
  cases h with
  | int z => exact ⟨z, rfl, rfl⟩
  | non => cases i
  | bl b => cases i
  | str x => cases i
  | lst h _ => cases i
  | tup h _ => cases i
theorem dp_ofTup {K : PySem.W.Frag} {H : Hp} {v : V} {d : PyData} (h : Dp K H v d) (i : isTupD d = true) : ∃ a xs ds, v = .ref a ∧ d = .tuple ds ∧ SqT K H a xs ∧ DpAll K H xs ds := by
  cases h with
  | tup h p => exact ⟨_, _, _, rfl, rfl, h, p⟩
  | non => cases i
  | bl b => cases i
  | str x => cases i
  | int h => cases i
  | lst h _ => cases i
def intD : PyData → Int
  | .int z => z
  | _ => 0
theorem dpa_ints {K : PySem.W.Frag} {H : Hp} : ∀ {vs : List V} {ds : List PyData}, DpAll K H vs ds → (∀ (i : Nat) (d : PyData), ds[i]? = some d → isIntD d = true) → vs = (ds.map intD).map V.int ∧ ds = (ds.map intD).map PyData.int
  | _, _, .nil, _ => ⟨rfl, rfl⟩
  | _, _, .cons h t, f => by
    obtain ⟨z, rfl, rfl⟩ := dp_ofInt h (f 0 _ rfl)
    obtain ⟨e1, e2⟩ := dpa_ints t fun i d e => f (i + 1) d e
    exact ⟨by rw [List.map_cons, List.map_cons, ← e1]; rfl, by rw [List.map_cons, List.map_cons, ← e2]; rfl⟩
def sidesD : PyData → Bool
  | .tuple ds => ds.all isIntD && (ds.map intD).any fun z => decide (z ≠ 0)
  | _ => false
def questD : PyData → Bool
  | .tuple [s, w] => sidesD s && isIntD w
  | _ => false
def lenD : PyData → Int
  | .tuple (.tuple ss :: _) => ss.length
  | _ => 0
def manyD : PyData → Bool
  | .int i => decide (1 ≤ i)
  | _ => false
section
variable {P : Program} {w : World} {K : PySem.W.Frag} {mg : Str → Option Value} {base : Heap}
def spWholesD (K : PySem.W.Frag) : Sp := fun vs H Q _ => ∃ a xs ds, vs = [.ref a] ∧ SqT K H a xs ∧ DpAll K H xs ds ∧ Q (.bl (ds.all isIntD)) H
theorem all_not {ds : List PyData} {p : PyData → Bool} {d : PyData} (h : d ∈ ds) (n : p d = false) : ds.all p = false := by
  rw [Bool.eq_false_iff]
  intro z
  have := List.all_eq_true.mp z d h
  rw [n] at this
  cases this
theorem cl_wholesD (D : Df K mg "are_wholes" s_are_wholes) (CW : Cl P w K mg base 1 "is_whole" ["told"] (spWhole K)) : Cl P w K mg base 2 "are_wholes" ["told"] (spWholesD K) := by
  refine D.cl (fun _ _ _ _ _ _ us hl => match us, hl with | [_], _ => rfl) fun f fd F => F.ok sc_wholes (fun vs H Q E h => ?_) (fun cdv A outer s H vs Q E hr h => ?_)
  · obtain ⟨a, xs, ds, rfl, _⟩ := h
    rfl
  obtain ⟨a, xs, ds, rfl, hs, hp, hq⟩ := h
  refine ⟨_, pss_cons (ps_for PassesOwn.never rfl (pi_tup (pv 0)) (pg_name (i := 1) sc_wholes.nd rfl (Or.inl rfl))
    (pss_one (ps_if (pt_not (pt_val (pe_cl CW (hr.mono (by decide)) (pa_cons (pv 1) pa_nil)))) (pss_one (ps_ret pe_bl)) pss_nil))) (pss_one (ps_ret pe_bl)), ?_⟩
  refine ⟨_, rfl, a, rfl, ⟨_, hs⟩, for_tup (xs := xs) (fun i σ H1 => ∃ c, σ = [some (.ref a), c] ∧ H1 = H ∧ ∀ j d, j < i → ds[j]? = some d → isIntD d = true) ⟨_, rfl, rfl, fun j d h => absurd h (Nat.not_lt_zero _)⟩ (fun i σ H1 _ h => ?_) (fun i x σ H1 hx h => ?_) (fun σ H1 h => ?_)⟩
  · obtain ⟨c, rfl, rfl, _⟩ := h
    exact hs
  · obtain ⟨c, rfl, rfl, hall⟩ := h
    obtain ⟨d, ed, hdx⟩ := dpa_get hp hx
    obtain ⟨t, kn, ki, _⟩ := dp_kn hdx
    refine ⟨_, rfl, _, t, rfl, kn, _, rfl, ?_⟩
    rw [ki]
    cases hi : isIntD d with
    | true =>
      refine iteF ⟨some x, rfl, rfl, fun j d' hj e' => ?_⟩
      by_cases e : j = i
      · rw [e, ed] at e'
        cases e'
        exact hi
      · exact hall j d' (by omega) e'
    | false =>
      rw [all_not (List.mem_of_getElem? ed) hi] at hq
      exact iteT hq
  · obtain ⟨c, rfl, rfl, hall⟩ := h
    have : ds.all isIntD = true := List.all_eq_true.mpr fun d hd => by
      obtain ⟨i, e⟩ := List.getElem?_of_mem hd
      exact hall i d (by rw [dpa_len hp]; exact (List.getElem?_eq_some_iff.mp e).1) e
    rw [this] at hq
    exact hq
def spSidesD (K : PySem.W.Frag) : Sp := fun vs H Q _ => ∃ x d, vs = [x] ∧ Dp K H x d ∧ ∀ H', Gr H H' → Q (.bl (sidesD d)) H'
theorem cl_sidesD (D : Df K mg "are_sides" s_are_sides) (B : Blt mg) (CW : Cl P w K mg base 2 "are_wholes" ["told"] (spWholesD K)) : Cl P w K mg base 3 "are_sides" ["told"] (spSidesD K) := by
  refine D.cl (fun _ _ _ _ _ _ us hl => match us, hl with | [_], _ => rfl) fun f fd F => F.ok sc_sides (fun vs H Q E h => ?_) (fun cdv A outer s H vs Q E hr h => ?_)
  · obtain ⟨x, d, rfl, _⟩ := h
    rfl
  obtain ⟨x, d, rfl, hd, hq⟩ := h
  have hq := hq H (Gr.refl H)
  refine ⟨_, pss_one (ps_ret (pe_and (pe_isi "tuple" (pv 0) bootTup B.tup B.isi) (pe_and (pe_cl CW (hr.mono (by decide)) (pa_cons (pv 0) pa_nil)) (pe_one (pe_callB (cr_anyT rfl) rfl B.any bootAny (pa_cons (pv 0) pa_nil)))))), ?_⟩
  obtain ⟨t, kn, _, kt⟩ := dp_kn hd
  refine ⟨_, rfl, _, _, kn, kt, _, rfl, ?_⟩
  cases ht : isTupD d with
  | false =>
    have : sidesD d = false := by
      cases d <;> first | rfl | cases ht
    rw [this] at hq
    exact iteF hq
  | true =>
    obtain ⟨a, xs, ds, rfl, rfl, hs, hp⟩ := dp_ofTup hd ht
    refine iteT ⟨_, rfl, a, xs, ds, rfl, hs, hp, _, rfl, ?_⟩
    have e0 : sidesD (.tuple ds) = (ds.all isIntD && (ds.map intD).any fun z => decide (z ≠ 0)) := rfl
    rw [e0] at hq
    cases ha : ds.all isIntD with
    | false =>
      rw [ha] at hq
      exact iteF hq
    | true =>
      rw [ha] at hq
      obtain ⟨e1, e2⟩ := dpa_ints hp fun i d e => List.all_eq_true.mp ha d (List.mem_of_getElem? e)
      rw [e1] at hs
      exact iteT ⟨_, rfl, a, _, rfl, hs, hq⟩
end
end SB
namespace SB
open PySem L2 GxR GA RZ
def questOfD (n : Int) (d : PyData) : Bool := questD d && decide (lenD d = n)
theorem isTup_ex {d : PyData} (h : isTupD d = true) : ∃ ds, d = .tuple ds := by
  cases d <;> first | exact ⟨_, rfl⟩ | cases h
theorem dpa_two {K : PySem.W.Frag} {H : Hp} {xs : List V} {ds : List PyData} (h : DpAll K H xs ds) (l : xs.length = 2) : ∃ x1 x2 d1 d2, xs = [x1, x2] ∧ ds = [d1, d2] ∧ Dp K H x1 d1 ∧ Dp K H x2 d2 := by
  cases h with
  | nil => cases l
  | cons h1 p =>
    cases p with
    | nil => cases l
    | cons h2 p =>
      cases p with
      | nil => exact ⟨_, _, _, _, rfl, rfl, h1, h2⟩
      | cons h3 p => simp at l
theorem questD_two {ds : List PyData} (l : ds.length ≠ 2) : questD (.tuple ds) = false := by
  match ds, l with
  | [], _ => rfl
  | [_], _ => rfl
  | [_, _], l => exact absurd rfl l
  | _ :: _ :: _ :: _, _ => rfl
theorem questD_not {d : PyData} (h : isTupD d = false) : questD d = false := by
  cases d <;> first | rfl | cases h
theorem questD_at (d1 d2 : PyData) : questD (.tuple [d1, d2]) = (sidesD d1 && isIntD d2) := rfl
section
variable {P : Program} {w : World} {K : PySem.W.Frag} {mg : Str → Option Value} {base : Heap}
def spQuestD (K : PySem.W.Frag) : Sp := fun vs H Q _ => ∃ x d, vs = [x] ∧ Dp K H x d ∧ ∀ H', Gr H H' → Q (.bl (questD d)) H'
theorem cl_questD (D : Df K mg "is_question" s_is_question) (B : Blt mg) (CW : Cl P w K mg base 1 "is_whole" ["told"] (spWhole K)) (CS : Cl P w K mg base 3 "are_sides" ["told"] (spSidesD K)) : Cl P w K mg base 4 "is_question" ["told"] (spQuestD K) := by
  refine D.cl (fun _ _ _ _ _ _ us hl => match us, hl with | [_], _ => rfl) fun f fd F => F.ok sc_quest (fun vs H Q E h => ?_) (fun cdv A outer s H vs Q E hr h => ?_)
  · obtain ⟨x, d, rfl, _⟩ := h
    rfl
  obtain ⟨x, d, rfl, hd, hq⟩ := h
  refine ⟨_, pss_cons (ps_if (PW.pt (by exact (pw_or (pt_not (pt_val (pe_isi "tuple" (pv 0) bootTup B.tup B.isi))) (pw_or1 (pt_cmpR op_ne (pe_len (pv 0) B.len) pe_int (nomark _)))))) (pss_one (ps_ret pe_bl)) pss_nil)
    (pss_cons (ps_asg (pv 0) (pg_tup rfl (pgs_cons (pg_name (i := 1) sc_quest.nd rfl (Or.inl rfl)) (pgs_cons (pg_name (i := 2) sc_quest.nd rfl (Or.inl rfl)) pgs_nil))))
    (pss_one (ps_ret (pe_and (pe_cl CS (hr.mono (by decide)) (pa_cons (pv 1) pa_nil)) (pe_one (pe_cl CW (hr.mono (by decide)) (pa_cons (pv 2) pa_nil))))))), ?_⟩
  obtain ⟨t, kn, _, kt⟩ := dp_kn hd
  refine ⟨_, rfl, _, _, kn, kt, _, rfl, ?_⟩
  have q0 := hq H (Gr.refl H)
  cases ht : isTupD d with
  | false =>
    rw [questD_not ht] at q0
    exact iteT (iteT q0)
  | true =>
    obtain ⟨a, xs, ds, rfl, rfl, hs, hp⟩ := dp_ofTup hd ht
    have lx := dpa_len hp
    refine iteF ⟨_, rfl, a, xs, rfl, .inr hs, rfl, _, rfl, ?_⟩
    by_cases l2 : xs.length = 2
    · refine iteNS (by rw [l2]; rfl) ?_
      obtain ⟨x1, x2, d1, d2, rfl, rfl, h1, h2⟩ := dpa_two hp l2
      refine ⟨_, rfl, a, _, rfl, hs, rfl, _, _, rfl, _, _, rfl, rfl, ?_⟩
      refine ⟨_, rfl, _, _, rfl, h1, fun H' g => ⟨_, rfl, ?_⟩⟩
      obtain ⟨t2, kn2, ki2, _⟩ := dp_kn (dp_gr g h2)
      have q1 := hq H' g
      rw [questD_at] at q1
      cases hs1 : sidesD d1 with
      | false =>
        rw [hs1] at q1
        exact iteF q1
      | true =>
        rw [hs1] at q1
        refine iteT ⟨_, rfl, _, t2, rfl, kn2, ?_⟩
        rw [ki2]
        exact q1
    · rw [questD_two (by omega)] at q0
      rw [decide_eq_false (show ¬ V.int ((xs.length : Nat) : Int) = V.int 2 from fun z => l2 (by injection z with z; omega))]
      exact iteT q0
end
end SB
namespace SB
open PySem L2 GxR GA RZ
theorem questOfD_not {n : Int} {d : PyData} (h : questD d = false) : questOfD n d = false := by
  unfold questOfD
  rw [h]
  rfl
theorem questD_yes {K : PySem.W.Frag} {H : Hp} {x : V} {d : PyData} (h : Dp K H x d) (q : questD d = true) : ∃ a b ys ss w x2, x = .ref a ∧ d = .tuple [.tuple ss, w] ∧ SqT K H a [.ref b, x2] ∧ SqT K H b ys ∧ ys.length = ss.length ∧ ∀ n : Int, questOfD n d = decide (((ss.length : Nat) : Int) = n) := by
  cases ht : isTupD d with
  | false =>
    rw [questD_not ht] at q
    cases q
  | true =>
    obtain ⟨a, xs, ds, rfl, rfl, hs, hp⟩ := dp_ofTup h ht
    by_cases l : ds.length = 2
    · obtain ⟨x1, x2, d1, d2, rfl, rfl, h1, h2⟩ := dpa_two hp (by rw [dpa_len hp, l])
      rw [questD_at] at q
      have q1 : sidesD d1 = true := by
        cases e : sidesD d1 with
        | true => rfl
        | false => rw [e] at q; cases q
      have t1 : isTupD d1 = true := by
        cases d1 <;> first | rfl | cases q1
      obtain ⟨b, ys, ss, rfl, rfl, hb, hbp⟩ := dp_ofTup h1 t1
      refine ⟨a, b, ys, ss, d2, x2, rfl, rfl, hs, hb, dpa_len hbp, fun n => ?_⟩
      show (questD (.tuple [.tuple ss, d2]) && _) = _
      rw [questD_at, q]
      rfl
    · rw [questD_two l] at q
      cases q
section
variable {P : Program} {w : World} {K : PySem.W.Frag} {mg : Str → Option Value} {base : Heap}
def spQuestOfD (K : PySem.W.Frag) : Sp := fun vs H Q _ => ∃ x d n, vs = [x, .int n] ∧ Dp K H x d ∧ ∀ H', Gr H H' → Q (.bl (questOfD n d)) H'
theorem cl_questOfD (D : Df K mg "is_question_of" s_is_question_of) (B : Blt mg) (CQ : Cl P w K mg base 4 "is_question" ["told"] (spQuestD K)) : Cl P w K mg base 5 "is_question_of" ["told", "d"] (spQuestOfD K) := by
  refine D.cl (fun _ _ _ _ _ _ us hl => match us, hl with | [_, _], _ => rfl) fun f fd F => F.ok sc_questOf (fun vs H Q E h => ?_) (fun cdv A outer s H vs Q E hr h => ?_)
  · obtain ⟨x, d, n, rfl, _⟩ := h
    rfl
  obtain ⟨x, d, n, rfl, hd, hq⟩ := h
  refine ⟨_, pss_one (ps_ret (pe_and (pe_cl CQ (hr.mono (by decide)) (pa_cons (pv 0) pa_nil)) (pe_one (pe_cmpR op_eq (pe_len (pe_ix ix_tup (pv 0) pe_int (fun _ _ => rfl)) B.len) (pv 1) (nomark _))))), ?_⟩
  refine ⟨_, rfl, _, d, rfl, hd, fun H' g => ⟨_, rfl, ?_⟩⟩
  have q1 := hq H' g
  cases hQ : questD d with
  | false =>
    rw [questOfD_not hQ] at q1
    exact iteF q1
  | true =>
    obtain ⟨a, b, ys, ss, w1, x2, rfl, ed, hs, hb, ly, hn⟩ := questD_yes (dp_gr g hd) hQ
    rw [hn] at q1
    refine iteT ⟨_, rfl, a, _, _, _, rfl, rfl, hs, rfl, b, _, rfl, .inr hb, _, rfl, rfl, ?_⟩
    rw [ly]
    have e2 : decide (V.int ((ss.length : Nat) : Int) = V.int n) = decide (((ss.length : Nat) : Int) = n) := by
      by_cases c : ((ss.length : Nat) : Int) = n
      · rw [c, decide_eq_true rfl, decide_eq_true rfl]
      · rw [decide_eq_false c, decide_eq_false fun z => c (by injection z)]
    rw [e2]
    exact q1
def spManyD (K : PySem.W.Frag) : Sp := fun vs H Q _ => ∃ x d, vs = [x] ∧ Dp K H x d ∧ Q (.bl (manyD d)) H
theorem cl_manyD (D : Df K mg "_is_many" s__is_many) (CW : Cl P w K mg base 1 "is_whole" ["told"] (spWhole K)) : Cl P w K mg base 2 "_is_many" ["d"] (spManyD K) := by
  refine D.cl (fun _ _ _ _ _ _ us hl => match us, hl with | [_], _ => rfl) fun f fd F => F.ok sc_many (fun vs H Q E h => ?_) (fun cdv A outer s H vs Q E hr h => ?_)
  · obtain ⟨x, d, rfl, _⟩ := h
    rfl
  obtain ⟨x, d, rfl, hd, q⟩ := h
  refine ⟨_, pss_one (ps_ret (pe_and (pe_cl CW (hr.mono (by decide)) (pa_cons (pv 0) pa_nil)) (pe_one (pe_cmpR op_ge (pv 0) pe_int (nomark _))))), ?_⟩
  obtain ⟨t, kn, ki, _⟩ := dp_kn hd
  refine ⟨_, rfl, _, t, rfl, kn, _, rfl, ?_⟩
  rw [ki]
  cases hi : isIntD d with
  | false =>
    have : manyD d = false := by
      cases d <;> first | rfl | cases hi
    rw [this] at q
    exact iteF q
  | true =>
    obtain ⟨z, rfl, rfl⟩ := dp_ofInt hd hi
    exact iteT ⟨_, rfl, _, _, rfl, rfl, q⟩
end
end SB
namespace SB
open PySem L2 GxR GA RZ SG PpSet
def quD : PyData → List Int × Int
  | .tuple [.tuple ss, w] => (ss.map intD, intD w)
  | _ => ([], 0)
def partD : PyData → List PyData
  | .tuple ds => ds
  | _ => []
def bookD : PyData → Bool
  | .tuple [n, qs] => manyD n && (isTupD qs && ((partD qs).all (questOfD (intD n)) && decide ((((partD qs).map quD).map nfU).Nodup)))
  | _ => false
/-- not too great to be looked at -/
def SmallD : PyData → Prop
  | .tuple [_, qs] => (partD qs).length ≤ 60 ∧ ∀ q, q ∈ partD qs → questD q = true → (quD q).1.length ≤ 20 ∧ (∀ z, z ∈ (quD q).1 → z.natAbs < 2 ^ 10000) ∧ (quD q).2.natAbs < 2 ^ 10000
  | _ => True
theorem questD_qu {K : PySem.W.Frag} {H : Hp} {x : V} {d : PyData} (h : Dp K H x d) (q : questD d = true) : QuV K H x (quD d) ∧ NonZ (quD d).1 := by
  cases ht : isTupD d with
  | false =>
    rw [questD_not ht] at q
    cases q
  | true =>
    obtain ⟨a, xs, ds, rfl, rfl, hs, hp⟩ := dp_ofTup h ht
    by_cases l : ds.length = 2
    · obtain ⟨x1, x2, d1, d2, rfl, rfl, h1, h2⟩ := dpa_two hp (by rw [dpa_len hp, l])
      rw [questD_at] at q
      have q1 : sidesD d1 = true := by
        cases e : sidesD d1 with
        | true => rfl
        | false => rw [e] at q; cases q
      rw [q1] at q
      have q2 : isIntD d2 = true := q
      have t1 : isTupD d1 = true := by
        cases d1 <;> first | rfl | cases q1
      obtain ⟨b, ys, ss, rfl, rfl, hb, hbp⟩ := dp_ofTup h1 t1
      obtain ⟨z, rfl, rfl⟩ := dp_ofInt h2 q2
      have q3 : (ss.all isIntD && (ss.map intD).any fun z => decide (z ≠ 0)) = true := q1
      have q4 : ss.all isIntD = true := by
        cases e : ss.all isIntD with
        | true => rfl
        | false => rw [e] at q3; cases q3
      rw [q4] at q3
      obtain ⟨e1, e2⟩ := dpa_ints hbp fun i d e => List.all_eq_true.mp q4 d (List.mem_of_getElem? e)
      rw [e1] at hb
      exact ⟨⟨a, _, rfl, hs, b, rfl, hb⟩, q3⟩
    · rw [questD_two l] at q
      cases q
theorem bookD_two {ds : List PyData} (l : ds.length ≠ 2) : bookD (.tuple ds) = false := by
  match ds, l with
  | [], _ => rfl
  | [_], _ => rfl
  | [_, _], l => exact absurd rfl l
  | _ :: _ :: _ :: _, _ => rfl
theorem bookD_not {d : PyData} (h : isTupD d = false) : bookD d = false := by
  cases d <;> first | rfl | cases h
theorem bookD_at (d1 d2 : PyData) : bookD (.tuple [d1, d2]) = (manyD d1 && (isTupD d2 && ((partD d2).all (questOfD (intD d1)) && decide ((((partD d2).map quD).map nfU).Nodup)))) := rfl
theorem nodup_snoc {α : Type} {l : List α} {a : α} : (l ++ [a]).Nodup ↔ l.Nodup ∧ a ∉ l := by
  rw [List.nodup_append]
  constructor
  · rintro ⟨h1, _, h3⟩
    exact ⟨h1, fun z => h3 a z a (List.mem_singleton.mpr rfl) rfl⟩
  · rintro ⟨h1, h2⟩
    refine ⟨h1, by simp, fun b hb c hc e => ?_⟩
    rw [List.mem_singleton.mp hc] at e
    rw [e] at hb
    exact h2 hb
section
variable {P : Program} {w : World} {K : PySem.W.Frag} {mg : Str → Option Value} {base : Heap}
def spBookD (K : PySem.W.Frag) : Sp := fun vs H Q _ => ∃ x d, vs = [x] ∧ Dp K H x d ∧ SmallD d ∧ ∀ H', Gr H H' → Q (.bl (bookD d)) H'
theorem cl_bookD (D : Df K mg "is_book" s_is_book) (B : Blt mg) (CM : Cl P w K mg base 2 "_is_many" ["d"] (spManyD K)) (CQ : Cl P w K mg base 5 "is_question_of" ["told", "d"] (spQuestOfD K)) (CN : Cl P w K mg base 35 "nought_form" ["question"] (spNought K)) :
    Cl P w K mg base 37 "is_book" ["told"] (spBookD K) := by
  refine D.cl (fun _ _ _ _ _ _ us hl => match us, hl with | [_], _ => rfl) fun f fd F => F.ok sc_book (fun vs H Q E h => ?_) (fun cdv A outer s H vs Q E hr h => ?_)
  · obtain ⟨x, d, rfl, _⟩ := h
    rfl
  obtain ⟨x, d, rfl, hd, sm, hq⟩ := h
  refine ⟨_, pss_cons (ps_if (PW.pt (by exact (pw_or (pt_not (pt_val (pe_isi "tuple" (pv 0) bootTup B.tup B.isi))) (pw_or1 (pt_cmpR op_ne (pe_len (pv 0) B.len) pe_int (nomark _)))))) (pss_one (ps_ret pe_bl)) pss_nil)
    (pss_cons (ps_asg (pv 0) (pg_tup rfl (pgs_cons (pg_name (i := 1) sc_book.nd rfl (Or.inl rfl)) (pgs_cons (pg_name (i := 2) sc_book.nd rfl (Or.inl rfl)) pgs_nil))))
    (pss_cons (ps_if (PW.pt (by exact (pw_or (pt_not (pt_val (pe_cl CM (hr.mono (by decide)) (pa_cons (pv 1) pa_nil)))) (pw_or1 (pt_not (pt_val (pe_isi "tuple" (pv 2) bootTup B.tup B.isi))))))) (pss_one (ps_ret pe_bl)) pss_nil)
    (pss_cons (ps_for PassesOwn.never rfl (pi_tup (pv 2)) (pg_name (i := 3) sc_book.nd rfl (Or.inl rfl))
      (pss_one (ps_if (pt_not (pt_val (pe_cl CQ (hr.mono (by decide)) (pa_cons (pv 3) (pa_cons (pv 1) pa_nil))))) (pss_one (ps_ret pe_bl)) pss_nil)))
    (pss_one (ps_ret (pe_cmpR op_eq (pe_callB len_setG rfl B.len PySem.boot_len (pa_cons (pe_sg (Q0 := trivial) (own := [("question", 3)]) (g := gName 3) rfl hr.units sc_book.nd (pi_tup (pv 2)) (blkOk_by (N := ["told", "d", "questions", "question"]) (sc := defScope s_is_book) (by decide +kernel)) (fun _ _ _ _ _ => pg_name (i := 3) sc_book.nd rfl (Or.inl rfl)) (fun _ _ _ _ _ => pts_nil)
      (fun _ _ _ _ _ => pe_cl CN (hr.mono (by decide)) (pa_cons (pv 3) pa_nil))) pa_nil)) (pe_len (pv 2) B.len) (nomark _))))))), ?_⟩
  obtain ⟨t, kn, _, kt⟩ := dp_kn hd
  refine ⟨_, rfl, _, _, kn, kt, _, rfl, ?_⟩
  have q0 := hq H (Gr.refl H)
  cases ht : isTupD d with
  | false =>
    rw [bookD_not ht] at q0
    exact iteT (iteT q0)
  | true =>
  obtain ⟨a, xs0, ds, rfl, rfl, ha, hp⟩ := dp_ofTup hd ht
  have lx := dpa_len hp
  refine iteF ⟨_, rfl, a, xs0, rfl, .inr ha, rfl, _, rfl, ?_⟩
  by_cases l2 : xs0.length = 2
  case neg =>
    rw [bookD_two (by omega)] at q0
    rw [decide_eq_false (show ¬ V.int ((xs0.length : Nat) : Int) = V.int 2 from fun z => l2 (by injection z with z; omega))]
    exact iteT q0
  refine iteNS (by rw [l2]; rfl) ?_
  obtain ⟨x1, x2, d1, d2, rfl, rfl, h1, h2⟩ := dpa_two hp l2
  rw [bookD_at] at q0
  refine ⟨_, rfl, a, _, rfl, ha, rfl, _, _, rfl, _, _, rfl, rfl, ?_⟩
  refine ⟨_, rfl, _, d1, rfl, h1, _, rfl, ?_⟩
  cases hm : manyD d1 with
  | false =>
    rw [hm] at q0
    exact iteT (iteT q0)
  | true =>
  rw [hm] at q0
  obtain ⟨t2', kn2, _, kt2⟩ := dp_kn h2
  refine iteF ⟨_, rfl, _, _, kn2, kt2, _, rfl, ?_⟩
  cases ht2 : isTupD d2 with
  | false =>
    rw [ht2] at q0
    exact iteT q0
  | true =>
  refine iteF ?_
  clear q0
  obtain ⟨b, xs, qd, rfl, rfl, hb, hbp⟩ := dp_ofTup h2 ht2
  have im : isIntD d1 = true := by
    cases d1 <;> first | rfl | cases hm
  obtain ⟨n, rfl, rfl⟩ := dp_ofInt h1 im
  have hq : ∀ H', Gr H H' → Q (.bl (qd.all (questOfD n) && decide (((qd.map quD).map nfU).Nodup))) H' := fun H' g => by
    have q := hq H' g
    rw [bookD_at, hm, ht2] at q
    exact q
  obtain ⟨s60, sall⟩ := sm
  have s60 : qd.length ≤ 60 := s60
  have lxq : xs.length = qd.length := dpa_len hbp
  refine ⟨_, rfl, b, rfl, ⟨_, hb⟩, for_tup (xs := xs) (fun i σ H1 => ∃ c, σ = [some (.ref a), some (.int n), some (.ref b), c] ∧ Gr H H1 ∧ ∀ j q, j < i → qd[j]? = some q → questOfD n q = true) ⟨_, rfl, Gr.refl H, fun j q h => absurd h (Nat.not_lt_zero _)⟩ (fun i σ H1 _ h => ?_) (fun i x σ H1 hx h => ?_) (fun σ H3 h => ?_)⟩
  · obtain ⟨c, rfl, gr, _⟩ := h
    exact gr.seqT hb
  · obtain ⟨c, rfl, gr, hall⟩ := h
    obtain ⟨q, eq, hdx⟩ := dpa_get hbp hx
    refine ⟨_, rfl, _, rfl, x, q, n, rfl, dp_gr gr hdx, fun H' g4 => ⟨_, rfl, ?_⟩⟩
    cases hQ : questOfD n q with
    | true =>
      refine iteF ⟨some x, rfl, gr.trans g4, fun j q' hj e' => ?_⟩
      by_cases e : j = i
      · rw [e, eq] at e'
        cases e'
        exact hQ
      · exact hall j q' (by omega) e'
    | false =>
      refine iteT ?_
      have q1 := hq H' (gr.trans g4)
      rw [all_not (List.mem_of_getElem? eq) hQ] at q1
      exact q1
  obtain ⟨c, rfl, g4, hall⟩ := h
  have hb3 := g4.seqT hb
  have hA : ∀ q, q ∈ qd → questOfD n q = true := fun q hq' => by
    obtain ⟨i, e⟩ := List.getElem?_of_mem hq'
    exact hall i q (by rw [lxq]; exact (List.getElem?_eq_some_iff.mp e).1) e
  have hQ1 : ∀ q, q ∈ qd → questD q = true := fun q hq' => by
    have h := hA q hq'
    unfold questOfD at h
    cases e : questD q with
    | true => rfl
    | false => rw [e] at h; cases h
  have all1 : qd.all (questOfD n) = true := List.all_eq_true.mpr hA
  refine ⟨_, rfl, b, rfl, ⟨_, hb3⟩, fun D nD => ?_⟩
  refine sg_tup (xs := xs) (fun i H => ∃ L : List (Addr × Fm), H D = some (SetGO P w D L) ∧ L.length ≤ i ∧ (L.length = i ↔ (((qd.take i).map quD).map nfU).Nodup) ∧ GrD D H3 H ∧ (∀ p ∈ L, VF K H p.1 p.2) ∧ ∀ k, k ∈ L.map (·.2) ↔ k ∈ ((qd.take i).map quD).map nfU)
    ⟨[], upd_same, Nat.le_refl _, by simp, (GrD.refl D H3).set _, fun p h => by simp at h, fun k => by simp⟩ (fun i H h1 h => ?_) (fun i x H hx h => ?_) (fun H h => ?_)
  · obtain ⟨L, hD, hl, hn, gr, _⟩ := h
    exact (gr.to nD).seqT hb3
  · obtain ⟨L, hD, hl, hn, gr, hv, hk⟩ := h
    obtain ⟨qx, hq1, hdx⟩ := dpa_get hbp hx
    have hi := (List.getElem?_eq_some_iff.mp hq1).1
    have mem := List.mem_of_getElem? hq1
    obtain ⟨b1, b2, b3⟩ := sall qx mem (hQ1 qx mem)
    have g5 := gr.to nD
    obtain ⟨hqu, nzq⟩ := questD_qu (dp_gr (g4.trans g5) hdx) (hQ1 qx mem)
    refine ⟨rfl, _, rfl, x, quD qx, rfl, hqu, ⟨nzq, b2, b3⟩, b1, fun a4 H4 g6 vf => ?_⟩
    have hD4 : H4 D = some (SetGO P w D L) := g6.keep D _ (fun _ z => by unfold SetGO at z; cases z) hD
    have tk : ((qd.take (i + 1)).map quD).map nfU = ((qd.take i).map quD).map nfU ++ [nfU (quD qx)] := by
      rw [List.take_add_one, hq1, Option.toList_some, List.map_append, List.map_append]
      rfl
    refine ⟨a4, nfU (quD qx), L, rfl, vf, hD4, fun p hp' => vf_st (hv p hp') g6.st, by omega, fun L' e1 e2 => ?_⟩
    have tp : Tst K H4 (upd H4 D (SetGO P w D L')) := Tst.put2 hD4 (fun _ z => by unfold SetGO at z; cases z) (fun _ _ z => by unfold SetGO at z; cases z)
    by_cases nin : nfU (quD qx) ∈ L.map (·.2)
    · have := e1 nin
      subst this
      refine ⟨L', upd_same, by omega, ?_, (gr.trans (g6.d D)).set _, fun p hp' => vf_st (vf_st (hv p hp') g6.st) tp, fun k => ?_⟩
      · rw [tk, nodup_snoc]
        constructor
        · intro z
          omega
        · rintro ⟨_, z⟩
          exact absurd ((hk _).mp nin) z
      · rw [tk, List.mem_append, List.mem_singleton, hk k]
        constructor
        · exact .inl
        · rintro (z | rfl)
          · exact z
          · exact (hk _).mp nin
    · have pm := e2 nin
      refine ⟨L', upd_same, by rw [pm.length_eq, List.length_cons]; omega, ?_, (gr.trans (g6.d D)).set _, fun p hp' => ?_, fun k => ?_⟩
      · rw [tk, nodup_snoc, pm.length_eq, List.length_cons, ← hn]
        constructor
        · intro z
          exact ⟨by omega, fun y => nin ((hk _).mpr y)⟩
        · rintro ⟨z, _⟩
          omega
      · rcases List.mem_cons.mp (pm.mem_iff.mp hp') with rfl | hp2
        · exact vf_st vf tp
        · exact vf_st (vf_st (hv p hp2) g6.st) tp
      · have e1 : k ∈ L'.map (·.2) ↔ k = nfU (quD qx) ∨ k ∈ L.map (·.2) := by
          rw [(pm.map _).mem_iff, List.map_cons, List.mem_cons]
        rw [e1, hk k, tk, List.mem_append, List.mem_singleton]
        exact Or.comm
  · obtain ⟨L, hD, hl, hn, gr, _⟩ := h
    have g5 := gr.to nD
    refine ⟨D, L, rfl, hD, _, rfl, b, _, rfl, .inr (g5.seqT hb3), rfl, ?_⟩
    have q1 := hq H (g4.trans g5)
    rw [all1] at q1
    rw [lxq, List.take_length] at hn
    rw [lxq]
    have e2 : decide (V.int ((L.length : Nat) : Int) = V.int ((qd.length : Nat) : Int)) = decide (((qd.map quD).map nfU).Nodup) := by
      by_cases c : L.length = qd.length
      · rw [decide_eq_true (hn.mp c), c, decide_eq_true rfl]
      · rw [decide_eq_false (fun z => c (hn.mpr z)), decide_eq_false fun z => c (by injection z with z; omega)]
    rw [e2]
    exact q1
end
end SB
namespace SG
open PySem PySem.Spec PyProof.Rows L2 PpSet
section
variable {P : Program} {w : World} {κ : Type} [DecidableEq κ] {kd : Kd P w κ} {A : Around} {E : Value → Shared → Prop} {s : Shared} {a : Addr} {L : List (Addr × κ)} {es : Array (Int × Value)} {ep : Nat} {t : SetTable}
theorem sr_lookup (R : SR kd s.heap a L es ep t) {x : Addr} {k : κ} (hx : kd.is s.heap k x) (hu : A.units + 8 < cLine) {Q : Option Nat → Shared → Prop} (q : ∀ r : Option Nat, (r.isSome = true ↔ k ∈ L.map (·.2)) → Q r s) :
    wpAny (model P w) A (setFind a (.ref x) (kd.hash k)) Q E s := by
  obtain ⟨o, ho, hex, hd⟩ := R.ob
  unfold setFind
  rw [show (100000 : Nat) = 99999 + 1 from rfl, setFindIn]
  refine wpAny_bind (wpAny_setState_of ho hd R.fits ?_)
  dsimp only
  refine wp_if_neg (by simp [byScan, Value.scannable]) ?_
  try refine wpAny_bind (wpAny_pure ?_)
  refine wpAny_bind (sr_find R false hx hu (fun i hm => ?_) fun K hm hK hb => ?_)
  · unfold met
    dsimp only
    exact wpAny_pure (q _ ⟨fun _ => hm, fun _ => rfl⟩)
  · dsimp only
    exact wpAny_pure (q none ⟨fun z => (by cases z), fun z => absurd z hm⟩)
theorem sr_notin (R : SR kd s.heap a L es ep t) {x : Addr} {k : κ} (hx : kd.is s.heap k x) (hu : A.units + 16 < cLine) {Q : Value → Shared → Prop}
    (h : Q (.bool (!decide (k ∈ L.map (·.2)))) { s with toks := s.toks + kd.draws k }) : wpAny (model P w) A (compareOp .NotIn (.ref x) (.ref a)) Q E s := by
  have hT : s.TypeIs (.ref a) "set" := by
    obtain ⟨o, ho, hex, _⟩ := R.ob
    exact ⟨o, ho, hex.1⟩
  show wpAny _ _ (do return .bool (!(← contains (.ref a) (.ref x)))) Q E s
  refine wpAny_bind ?_
  unfold contains
  try with_reducible refine wpAny_holding ?_
  refine wpAny_bind (wpAny_specialOf hT F.slot_set_contains.lookup ?_)
  show wpAny _ _ (if (some (Value.builtin "set.__contains__") == some Value.none) = true then _ else _) _ E s
  rw [if_neg (by rw [beq_builtin_none]; exact Bool.false_ne_true)]
  refine wpAny_bind (wpAny_callSpecialUnlessNone?_slot (name := Str.ofString "__contains__") hT F.slot_set_contains
    (wpAny_call_entry F.slot_set_contains hT entry_set_contains ?_ (F.args_set_contains_2 _ _)))
  unfold Builtin.«frozenset.__contains__» Builtin.Frozenset.oneOther
  simp only [List.isEmpty_nil, bind_assoc]
  unfold Builtin.Frozenset.addrOf Builtin.Frozenset.withSetAsKey setContains
  refine wpAny_bind (wpAny_pure ?_)
  try dsimp only
  refine wpAny_bind (wpAny_pure ?_)
  try dsimp only
  refine wpAny_bind (wpAny_tryCatch ?_)
  refine wpAny_holding ?_
  have hu1 : ∀ n, n ≤ 4 → A.units + n + 8 < cLine := fun n hn => by omega
  refine wpAny_bind (kd.pyH (by first | exact hu1 0 (by decide) | exact hu1 1 (by decide) | exact hu1 2 (by decide) | (show A.units + 1 + 8 < cLine; omega) | (show A.units + 1 + 1 + 8 < cLine; omega)) hx ?_)
  refine wpAny_bind (sr_lookup (s := { s with toks := s.toks + kd.draws k }) R hx (by first | exact hu1 0 (by decide) | exact hu1 1 (by decide) | exact hu1 2 (by decide) | (show A.units + 1 + 8 < cLine; omega) | (show A.units + 1 + 1 + 8 < cLine; omega)) fun r hr => ?_)
  refine wpAny_pure ?_
  show wpAny _ _ (ret (Value.bool r.isSome)) _ _ _
  have e : r.isSome = decide (k ∈ L.map (·.2)) := by
    by_cases c : k ∈ L.map (·.2)
    · rw [hr.mpr c, decide_eq_true c]
    · rw [decide_eq_false c, Bool.eq_false_iff]
      exact fun z => c (hr.mp z)
  rw [e]
  exact wpAny_pure ⟨_, rfl, wpAny_truthy_bool (wpAny_pure h)⟩
end
end SG
namespace SG
open PySem PySem.Spec PyProof.Rows L2 PpSet
section
variable {X : Cx}
theorem dec_iff {p : Prop} {i : Decidable p} : (@decide p i) = true ↔ p := @decide_eq_true_iff p i
/-- form not in seen -/
def rSNotG (P : Program) (w : World) (K : PySem.W.Frag) : V → V → Hp → VK → Prop := fun x y H Q => ∃ (b D : Addr) (k : Fm) (L : List (Addr × Fm)), x = V.ref b ∧ y = V.ref D ∧ VF K H b k ∧ H D = some (SetGO P w D L) ∧ (∀ p ∈ L, VF K H p.1 p.2) ∧ (k ∈ L.map (·.2) → Q (.bl false) H) ∧ (k ∉ L.map (·.2) → Q (.bl true) H)
theorem or_notinG (hu : X.A.units + 64 < cLine) : OpR X (compareOp .NotIn) (rSNotG X.prog X.w X.K) := by
  intro pins s σ H x y v u Q I rx ry h
  obtain ⟨b, D, k, L, rfl, rfl, hb, hD, hm, q1, q2⟩ := h
  cases rx
  cases ry
  obtain ⟨es, ep, t, R⟩ := (show ObjOk X.prog X.w H s.heap D (SetGO X.prog X.w D L) from I.hok D _ hD).1
  have f : ∀ bb : Bool, (bb = true ↔ k ∈ L.map (·.2)) → Q (.bl (!bb)) H := fun bb e => by
    cases bb with
    | true => exact q1 (e.mp rfl)
    | false =>
      exact q2 fun z => by
        have := e.mpr z
        cases this
  exact sr_notin (R.sr fun p hp => vf_is I (hm p hp)) (vf_is I hb) (by omega) ⟨.bl _, H, I.tok _, rfl, f _ dec_iff⟩
/-- set() -/
def rSet0G (P : Program) (w : World) : List V → Hp → VK → Prop := fun xs H Q => xs = [] ∧ ∀ p, H p = none → Q (.ref p) (upd H p (SetGO P w p []))
theorem cr_set0G : CallR X (.type "set") (rSet0G X.prog X.w) := by
  intro pins s σ H xs us Q I r h
  obtain ⟨rfl, q⟩ := h
  cases r
  refine setR_new fun _ => ?_
  have new : S0 X.prog X.w (s.heap.push { cls := .type "set", dict := none, data := .set #[] 0 (.fresh 0 0 (!X.w.params.followText "set-order")) }) s.heap.objs.size [] #[] 0 (.fresh 0 0 (!X.w.params.followText "set-order")) :=
    (sr_fresh (kd := KF X.prog X.w) (Heap.get?_push_size _ rfl)).s0
  exact ⟨.ref _, upd H s.heap.objs.size (SetGO X.prog X.w s.heap.objs.size []), I.laid (t' := s.toks) (fun b u e => Heap.get?_push_of_some _ e) (Nat.le_refl _) (setGO_ok new), rfl, q _ (I.hok.fresh (Nat.le_refl _))⟩
/-- seen.add(form) -/
def rSAddG (P : Program) (w : World) (K : PySem.W.Frag) : V → List V → Hp → VK → Prop := fun x xs H Q => ∃ (b D : Addr) (k : Fm) (L : List (Addr × Fm)), x = V.ref D ∧ xs = [.ref b] ∧ VF K H b k ∧ H D = some (SetGO P w D L) ∧ (∀ p ∈ L, VF K H p.1 p.2) ∧ L.length + 1 < 64 ∧
  ∀ L', (k ∈ L.map (·.2) → L' = L) → (k ∉ L.map (·.2) → L'.Perm ((b, k) :: L)) → Q .non (upd H D (SetGO P w D L'))
theorem mt_saddG (hu : X.A.units + 64 < cLine) : MtR X "set.add" (rSAddG X.prog X.w X.K) := by
  intro pins s σ H x xs v us Q I rx rxs h
  obtain ⟨b, D, k, L, rfl, rfl, hb, hD, hm, few, q⟩ := h
  cases rx
  cases rxs with
  | cons ry rt =>
    cases rt
    cases ry
    exact addG_ok hu I hD hb hm few fun L' s' e1 e2 I' => ⟨.non, _, I', rfl, q L' e1 e2⟩
end
end SG
namespace SG
open PySem PySem.Spec PyProof.Rows L2 PpSet
section
variable {X : Cx}
def tSAddG (P : Program) (w : World) (K : PySem.W.Frag) (to : TE) (t : TA) : TE := fun σ H Q => to σ H fun x H1 => (∃ a L, x = V.ref a ∧ H1 a = some (SetGO P w a L)) ∧ t σ H1 fun xs H2 => rSAddG P w K x xs H2 Q
variable {o e : Expr} {es : List Expr} {to : TE} {t : TA} {apos cpos : Pos}
theorem pe_saddG (hu : X.A.units + 64 < cLine) (ho : PE X o to) (ha : PA X (e :: es) t)
    (hbase : attributeBase o "add" X.env (eval o X.env) = eval o X.env := by rfl)
    (hfew : ((backTo cpos (starEach (e :: es) X.env)).all (fun x => !x.1) && (backToKw cpos (keywordEach [] X.env)).all (fun x => x.1.isSome)
      && decide ((e :: es).length + ([] : List Keyword).length + (if ([] : List Keyword).isEmpty then 0 else 1) < 30)) = true := by rfl)
    (hline : (apos.endLine == cpos.line) = true := by rfl) (hs : starEach (e :: es) X.env = (false, eval e X.env) :: starEach es X.env := by rfl) (hplain : (backTo cpos (starEach es X.env)).any (·.1) = false := by rfl) :
    PE X (.Call (.Attribute o "add" apos) (e :: es) [] cpos) (tSAddG X.prog X.w X.K to t) := by
  refine ⟨fun pins s σ H Q I h => ?_⟩
  refine wpAny_Call_method_late hbase hfew hline rfl (thn (ho.run pins s σ H _ I h) fun v s1 ⟨x, H1, I1, r1, ty, q1⟩ => ?_)
  obtain ⟨a, L, rfl, hka⟩ := ty
  obtain ⟨es', ep, t', R⟩ := (show ObjOk X.prog X.w H1 s1.heap a (SetGO X.prog X.w a L) from I1.hok a _ hka).1
  obtain ⟨ob, hob, hex, _⟩ := R.ob
  cases r1
  refine ⟨"set", "set.add", F.plainAttrs_set, F.slot_set_add, F.type_set_add, ⟨ob, hob, hex.1⟩, (fun b eb => by cases eb; exact ⟨ob, hob, hex.2.1⟩), ?_⟩
  have hA := ha.run cpos pins s1 σ H1 _ I1 q1
  rw [hs] at hA ⊢
  refine Calls.callWith_builtin (by show (false || (backTo cpos (starEach es X.env)).any (·.1)) = false; rw [hplain] <;> rfl) (Calls.evalArgs_plain ?_)
  exact thn hA fun us s2 ⟨vs, H2, I2, r2, q2⟩ => mt_saddG hu pins s2 σ H2 (.ref a) vs (.ref a) us Q I2 rfl r2 q2
end
end SG
namespace L2
open PySem PySem.Spec PyProof.Rows
section
variable {X : Cx} {tg : Expr}
/-- a list or a tuple -/
def iSeq (K : PySem.W.Frag) (tl : TE) : TI := fun σ H R => tl σ H fun x H1 => ∃ a, x = .ref a ∧ (((∃ xs, SqL K H1 a xs) ∧ R (Itl K a) H1) ∨ ((∃ xs, SqT K H1 a xs) ∧ R (Itt K a) H1))
theorem pi_seq {l : Expr} {tl : TE} (hl : PE X l tl) : PI X tg l (iSeq X.K tl) := by
  refine ⟨fun pins s σ H R I h => ?_⟩
  refine thn (hl.run pins s σ H _ I h) fun v s1 ⟨x, H1, I1, r1, q1⟩ => ?_
  obtain ⟨a, e, q1⟩ := q1
  subst e
  cases r1
  rcases q1 with ⟨⟨xs, hq⟩, q⟩ | ⟨⟨xs, hq⟩, q⟩
  · obtain ⟨its, rv, p, hz⟩ := I1.list hq
    refine wpAny_pyIter_list p.isList ?_
    refine ⟨s1.heap.objs.size, [s1.heap.objs.size], _, _, H1, rfl, I1.kept (t' := s1.toks) fun b o e => Heap.get?_push_of_some _ e, turn_list a _, ⟨_, Heap.get?_push_size _ rfl, rfl, rfl⟩, fun b hb => ?_, q⟩
    have e : b = s1.heap.objs.size := by simpa using hb
    subst e
    exact I1.fpOk (Nat.le_refl _) (I1.hok.fresh (Nat.le_refl _))
  · obtain ⟨its, rv, p, hz⟩ := I1.tuple hq
    refine wpAny_pyIter_tuple (show s1.heap.IsTuple a its.toArray from p) ?_
    refine ⟨s1.heap.objs.size, [s1.heap.objs.size], _, _, H1, rfl, I1.kept (t' := s1.toks) fun b o e => Heap.get?_push_of_some _ e, turn_tuple a _, ⟨_, Heap.get?_push_size _ rfl, rfl, rfl⟩, fun b hb => ?_, q⟩
    have e : b = s1.heap.objs.size := by simpa using hb
    subst e
    exact I1.fpOk (Nat.le_refl _) (I1.hok.fresh (Nat.le_refl _))
end
end L2
namespace SB
open PySem L2 GxR GA RZ SG PpSet
theorem bootSetB : bootBuiltins "set" = some (.type "set") := by decide +kernel
theorem paired_join {α β : Type} {F : α → β → Prop} : ∀ {a c : List α} {b d : List β}, Paired F a b → Paired F c d → Paired F (a ++ c) (b ++ d)
  | _, _, _, _, .nil, q => q
  | _, _, _, _, .cons h t, q => .cons h (paired_join t q)
/-- those left that are new -/
def keptU (qs : List (List Int × Int)) : List (List Int × Int) := qs.foldl (fun acc q => if nfU q ∈ acc.map nfU then acc else acc ++ [q]) []
theorem kept_snoc (qs : List (List Int × Int)) (q : List Int × Int) : keptU (qs ++ [q]) = if nfU q ∈ (keptU qs).map nfU then keptU qs else keptU qs ++ [q] := by
  unfold keptU
  rw [List.foldl_append]
  rfl
section
variable {P : Program} {w : World} {K : PySem.W.Frag} {mg : Str → Option Value} {base : Heap}
def spMade (K : PySem.W.Frag) : Sp := fun vs H Q _ => ∃ n a xs qs, vs = [.int ((n : Nat) : Int), .ref a] ∧ (SqL K H a xs ∨ SqT K H a xs) ∧ Paired (QuV K H) xs qs ∧ (∀ q, q ∈ qs → QOk q ∧ q.1.length ≤ 8) ∧ qs.length ≤ 60 ∧ ∀ v H', Gr H H' → BkV K H' v n ((keptU qs).map divU) → Q v H'
end
end SB
namespace SB
open PySem L2 GxR GA RZ
theorem nf_div {q : List Int × Int} (h : QOk q) : nfU (divU q) = nfU q := by
  have g0 := nonZ_g h.nz
  refine nf_same h.div h (u := 1) (v := ((gcdL (q.1 ++ [q.2]) : Nat) : Int)) (by decide) (by omega) ?_
  rw [scU_divU]
  unfold scU
  refine Prod.ext ?_ (Int.one_mul _).symm
  show q.1 = q.1.map fun z => 1 * z
  have : (fun z : Int => 1 * z) = id := funext fun z => Int.one_mul z
  rw [this, List.map_id]
theorem kept_sub : ∀ (qs : List (List Int × Int)) (q : List Int × Int), q ∈ keptU qs → q ∈ qs := fun qs => by
  have : ∀ (rs acc : List (List Int × Int)) (q : List Int × Int), q ∈ rs.foldl (fun acc q => if nfU q ∈ acc.map nfU then acc else acc ++ [q]) acc → q ∈ acc ∨ q ∈ rs := fun rs => by
    induction rs with
    | nil => exact fun acc q h => .inl h
    | cons r t ih =>
      intro acc q h
      rw [List.foldl_cons] at h
      rcases ih _ q h with z | z
      · split at z
        · exact .inl z
        · rcases List.mem_append.mp z with y | y
          · exact .inl y
          · rw [List.mem_singleton.mp y]
            exact .inr List.mem_cons_self
      · exact .inr (List.mem_cons_of_mem _ z)
  intro q h
  rcases this qs [] q h with z | z
  · simp at z
  · exact z
theorem kept_nd (qs : List (List Int × Int)) : ((keptU qs).map nfU).Nodup := by
  have : ∀ (rs acc : List (List Int × Int)), (acc.map nfU).Nodup → ((rs.foldl (fun acc q => if nfU q ∈ acc.map nfU then acc else acc ++ [q]) acc).map nfU).Nodup := fun rs => by
    induction rs with
    | nil => exact fun acc h => h
    | cons r t ih =>
      intro acc h
      rw [List.foldl_cons]
      refine ih _ ?_
      split
      · exact h
      · rename_i nin
        rw [List.map_append]
        exact nodup_snoc.mpr ⟨h, nin⟩
  exact this qs [] List.nodup_nil
theorem kept_len (qs : List (List Int × Int)) : (keptU qs).length ≤ qs.length := by
  have : ∀ (rs acc : List (List Int × Int)), (rs.foldl (fun acc q => if nfU q ∈ acc.map nfU then acc else acc ++ [q]) acc).length ≤ acc.length + rs.length := fun rs => by
    induction rs with
    | nil => exact fun acc => Nat.le_refl _
    | cons r t ih =>
      intro acc
      rw [List.foldl_cons]
      refine Nat.le_trans (ih _) ?_
      split
      · rw [List.length_cons]; omega
      · rw [List.length_append, List.length_cons, List.length_cons]; show acc.length + 1 + _ ≤ _; omega
  have := this qs []
  simpa [keptU] using this
/-- what is told is a book -/
theorem made_ok {n : Nat} {qs : List (List Int × Int)} (n1 : 1 ≤ n) (n8 : n ≤ 8) (h : ∀ q, q ∈ qs → QOk q ∧ q.1.length = n) (l8 : qs.length ≤ 8) : BOk n ((keptU qs).map divU) := by
  refine ⟨n1, n8, by rw [List.length_map]; exact Nat.le_trans (kept_len qs) l8, fun q hq => ?_, ?_⟩
  · obtain ⟨p, hp, rfl⟩ := List.mem_map.mp hq
    obtain ⟨po, pl⟩ := h p (kept_sub qs p hp)
    exact ⟨po.div, by show (List.map _ p.1).length = n; rw [List.length_map]; exact pl⟩
  · have : ((keptU qs).map divU).map nfU = (keptU qs).map nfU := by
      rw [List.map_map]
      exact List.map_congr_left fun q hq => nf_div (h q (kept_sub qs q hq)).1
    rw [this]
    exact kept_nd qs
/-- of a book made before it is the same -/
theorem kept_book {qs : List (List Int × Int)} (h : (qs.map nfU).Nodup) : keptU qs = qs := by
  have : ∀ (rs acc : List (List Int × Int)), ((acc ++ rs).map nfU).Nodup → rs.foldl (fun acc q => if nfU q ∈ acc.map nfU then acc else acc ++ [q]) acc = acc ++ rs := fun rs => by
    induction rs with
    | nil => intro acc _; simp
    | cons r t ih =>
      intro acc hn
      rw [List.foldl_cons, if_neg ?_, ih (acc ++ [r]) (by rw [List.append_assoc]; exact hn), List.append_assoc]
      · rfl
      · rw [List.map_append, List.nodup_append] at hn
        exact fun z => hn.2.2 _ z _ (List.mem_map.mpr ⟨r, List.mem_cons_self, rfl⟩) rfl
  exact this qs [] h
end SB
namespace SB
open PySem L2 GxR GA RZ
/-! ### powers of wide ints -/
def CPowW (i j : Int) : Prop := 0 ≤ j ∧ j ≤ 100 ∧ i.natAbs.log2 < 10000
theorem op_powW {X : Cx} : OpR X (binaryOp .Pow) (rI CPowW fun i j => .int (i ^ j.toNat)) := opI fun i j _ _ _ _ _ hc q => PyProof.Rows.pow_int hc.1 (by
  have b : (Builtin.Int.intBits i : Nat) ≤ i.natAbs.log2 + 1 := by
    unfold Builtin.Int.intBits
    split <;> omega
  have l := hc.2.2
  have h0 := hc.1
  have h1 := hc.2.1
  have h2 : ((Builtin.Int.intBits i : Nat) : Int) ≤ 10000 := by omega
  calc ((Builtin.Int.intBits i : Nat) : Int) * j ≤ 10000 * j := Int.mul_le_mul_of_nonneg_right h2 h0
    _ ≤ 10000 * 100 := Int.mul_le_mul_of_nonneg_left h1 (by decide)
    _ ≤ 2 ^ 27 := by decide) q
theorem wide_pow {i : Int} {a : Nat} {j : Int} (ha : i.natAbs < 2 ^ a) (h0 : 0 < a) (h : a ≤ 9000) (j0 : 0 ≤ j) (j1 : j ≤ 100) : CPowW i j := ⟨j0, j1, Nat.lt_of_lt_of_le (PySem.Flt.log2_lt_of h0 ha) (by omega)⟩
/-! ### the stock: what draws come from -/
def Stk (d : Addr) (m : Nat) (H : Hp) : Prop := ∃ a b c : Int, H d = some (.lst [.int a, .int b, .int c]) ∧ 0 ≤ b ∧ b < 2 ^ 94 ∧ 0 ≤ c ∧ c ≤ m
theorem Stk.more {d : Addr} {m k : Nat} {H : Hp} (h : Stk d m H) (l : m ≤ k) : Stk d k H := let ⟨a, b, c, e, h0, h1, h2, h3⟩ := h; ⟨a, b, c, e, h0, h1, h2, by omega⟩
theorem Stk.gr {d : Addr} {m : Nat} {H H' : Hp} (h : Stk d m H) (g : Gr H H') : Stk d m H' := let ⟨a, b, c, e, r⟩ := h; ⟨a, b, c, g.keep _ _ (fun _ z => nomatch z) e, r⟩
theorem Stk.ne {d p : Addr} {m : Nat} {H : Hp} (h : Stk d m H) (n : H p = none) : p ≠ d := fun e => by
  obtain ⟨a, b, c, z, _⟩ := h
  rw [← e, n] at z
  cases z
theorem Stk.off {d p : Addr} {m : Nat} {H : Hp} {o : HO} (h : Stk d m H) (n : p ≠ d) : Stk d m (upd H p o) := let ⟨a, b, c, e, r⟩ := h; ⟨a, b, c, by rw [upd_ne (Ne.symm n)]; exact e, r⟩
theorem GrD.sk {K : PySem.W.Frag} {d : Addr} {m : Nat} {H H' : Hp} (g : GrD d H H') (h : Stk d m H) : Tst K H H' := fun a xs q => by
  obtain ⟨u, v, c, e, _⟩ := h
  exact g.seqT e q
def spPick : Sp := fun vs H Q _ => ∃ (d : Addr) (many : Int) (m : Nat), vs = [.ref d, .int many] ∧ Stk d m H ∧ m ≤ 1000000 ∧ 1 ≤ many ∧ many.natAbs < 2 ^ 8000 ∧
  ∀ (t : Int) H', 0 ≤ t → t < many → GrD d H H' → Stk d (m + 1) H' → Q (.int t) H'

theorem GrDL.lst {d : Addr} {H H' : Hp} (g : GrD d H H') {a : Addr} {xs : List V} (n : a ≠ d) (h : H a = some (.lst xs)) : H' a = some (.lst xs) := g.keep a _ n (fun _ z => nomatch z) h
theorem Gr.lstK {H H' : Hp} (g : Gr H H') {a : Addr} {xs : List V} (h : H a = some (.lst xs)) : H' a = some (.lst xs) := g.keep a _ (fun _ z => nomatch z) h
theorem op_isB {X : Cx} : OpR X (compareOp .Is) (fun x y H Q => ∃ c d, x = .bl c ∧ y = .bl d ∧ Q (.bl (decide (c = d))) H) := by
  intro pins s σ H x y v u Q I rx ry h
  obtain ⟨c, d, rfl, rfl, q⟩ := h
  cases rx
  cases ry
  refine PyProof.Rows.is_bool ?_
  have e : (c == d) = decide (c = d) := by cases c <;> cases d <;> rfl
  rw [e]
  exact ⟨.bl _, H, I, rfl, q⟩
theorem all_true : ∀ {ys : List V}, (∀ (i : Nat) (y : V), ys[i]? = some y → y = .bl true) → ys = (List.replicate ys.length true).map V.bl
  | [], _ => rfl
  | y :: r, h => by
    have e := h 0 y rfl
    have t := all_true (ys := r) fun i y e => h (i + 1) y (by simpa using e)
    rw [List.length_cons, List.replicate_succ, List.map_cons, ← t, e]
theorem rep_all (n : Nat) : (List.replicate n true).all id = true := by
  rw [List.all_eq_true]
  intro x hx
  exact (List.mem_replicate.mp hx).2
end SB
namespace SB
open PySem L2 GxR GA RZ
/-! ### the well: what draws come from -/
def spWell (K : PySem.W.Frag) : Sp := fun vs H Q _ => ∃ (l : Addr) (ns : List Int) (k : Int), vs = [.ref l, .int k] ∧ SqL K H l (ns.map V.int) ∧ ns.length ≤ 63 ∧ 0 ≤ k ∧ k < 1000 ∧
  ∀ (p : Addr) (a b : Int), H p = none → 0 ≤ b → b < 2 ^ 94 → Q (.ref p) (upd H p (.lst [.int a, .int b, .int 0]))
section
variable {P : Program} {w : World} {K : PySem.W.Frag} {mg : Str → Option Value} {base : Heap}
theorem sc_well : FnScope ["script", "place", "cell"] ["script", "place"] (defScope s__law_well) := ⟨rfl, rfl, rfl, by decide +kernel, rfl, by decide +kernel, by decide +kernel⟩
theorem cl_well (D : Df K mg "_law_well" s__law_well) (B : Blt mg) : Cl P w K mg base 1 "_law_well" ["script", "place"] (spWell K) := by
  refine D.cl (fun _ _ _ _ _ _ us hl => match us, hl with | [_, _], _ => rfl) fun f fd F => F.ok sc_well (fun vs H Q E h => ?_) (fun cdv A outer s H vs Q E hr h => ?_)
  · obtain ⟨l, ns, k, rfl, _⟩ := h
    rfl
  obtain ⟨l, ns, k, rfl, hS, h63, h0, h1, q⟩ := h
  refine ⟨_, (pss_cons (ps_set (i := 2) sc_well.nd rfl (.inl rfl) (pe_ifExp (pt_cmpR op_lt (pv 1) (pe_len (pv 0) B.len) (nomark _)) (pe_callTy call_int1 rfl B.int PyProof.Rows.boot_int (pa_cons (pe_ix ix_list (pv 0) (pv 1) (fun _ _ => rfl)) pa_nil)) (pe_op op_add (pe_op op_mul (pv 1) pe_int) (pe_op op_mul (pe_len (pv 0) B.len) pe_int))))
    (pss_one (ps_ret (pe_lst (pa_cons (pe_callB (call_max2 rfl) rfl B.max PyProof.Rows.boot_max (pa_cons pe_int (pa_cons (pe_op op_sub (pe_callB call_abs rfl B.abs PyProof.Rows.boot_abs (pa_cons (pv 2) pa_nil)) (pe_op op_pow pe_int pe_int)) pa_nil))) (pa_cons (pe_op op_mod (pe_callTy call_int1 rfl B.int PyProof.Rows.boot_int (pa_cons (pe_op op_add (pe_op op_add (pe_op op_mul (pv 2) pe_int) (pe_op op_mul (pv 1) pe_int)) pe_int) pa_nil)) (pe_op op_add (pe_op op_pow pe_int pe_int) pe_int)) (pa_cons pe_int pa_nil))))))), ?_⟩
  have hl : (ns.map V.int).length = ns.length := List.length_map _
  have fin : ∀ z m : Int, ∀ p, H p = none → Q (.ref p) (upd H p (.lst [.int m, .int ((z * 86028157 + k * 179424691 + 7919) % (10 ^ (25 : Int).toNat + 13)), .int 0])) := fun z m p hp => q p _ _ hp (modB _ (by decide)).1 (Int.lt_trans (modB _ (by decide)).2 (by decide))
  refine ⟨_, rfl, _, rfl, l, _, rfl, .inl hS, _, _, rfl, rfl, _, rfl, ?_⟩
  refine ite2 (fun c => ?_) (fun c => ?_)
  · have c' : k < (((ns.map V.int).length : Nat) : Int) := of_decide_eq_true c
    rw [hl] at c'
    obtain ⟨z, hz⟩ := atL h0 c'
    refine ⟨_, rfl, _, rfl, l, _, _, _, rfl, rfl, hS, hz, .inl ⟨_, rfl, ?_⟩⟩
    refine ⟨_, rfl, _, rfl, _, _, rfl, rfl, ⟨by decide, by decide, by decide⟩, _, _, rfl, rfl, _, _, rfl, ?_⟩
    refine ⟨_, rfl, _, _, rfl, rfl, .inr ⟨by decide, by decide⟩, _, rfl, _, _, rfl, rfl, .inr ⟨by decide, by decide⟩, _, _, rfl, rfl, _, _, rfl, rfl, .inl ⟨_, rfl, _, _, rfl, rfl, ⟨by decide, by decide, by decide⟩, _, _, rfl, rfl, _, _, rfl, rfl, (by show (0 : Int) < _; decide), (by show 3 ≤ sizeLine; decide), fun p hp => fin z _ p hp⟩⟩
  · refine ⟨_, rfl, _, _, rfl, rfl, .inr (by decide), _, rfl, l, _, rfl, .inl hS, _, _, rfl, rfl, .inr (by decide), _, _, rfl, rfl, ?_⟩
    refine ⟨_, rfl, _, rfl, _, _, rfl, rfl, ⟨by decide, by decide, by decide⟩, _, _, rfl, rfl, _, _, rfl, ?_⟩
    refine ⟨_, rfl, _, _, rfl, rfl, .inr ⟨by decide, by decide⟩, _, rfl, _, _, rfl, rfl, .inr ⟨by decide, by decide⟩, _, _, rfl, rfl, _, _, rfl, rfl, .inl ⟨_, rfl, _, _, rfl, rfl, ⟨by decide, by decide, by decide⟩, _, _, rfl, rfl, _, _, rfl, rfl, (by show (0 : Int) < _; decide), (by show 3 ≤ sizeLine; decide), fun p hp => fin _ _ p hp⟩⟩
theorem sc_draw : FnScope ["well", "many", "found", "mixed"] ["well", "many"] (defScope s__law_draw) := ⟨rfl, rfl, rfl, by decide +kernel, rfl, by decide +kernel, by decide +kernel⟩
theorem cl_draw (D : Df K mg "_law_draw" s__law_draw) (B : Blt mg) : Cl P w K mg base 1 "_law_draw" ["well", "many"] spPick := by
  refine D.cl (fun _ _ _ _ _ _ us hl => match us, hl with | [_, _], _ => rfl) fun f fd F => F.ok sc_draw (fun vs H Q E h => ?_) (fun cdv A outer s H vs Q E hr h => ?_)
  · obtain ⟨d, many, m, rfl, _⟩ := h
    rfl
  obtain ⟨d, many, m, rfl, ⟨a, b, c, hd, hb0, hb1, hc0, hc1⟩, mm, m1, mb, q2⟩ := h
  have q : ∀ t a' c' : Int, 0 ≤ t → t < many → 0 ≤ c' → c' ≤ c + 1 → Q (.int t) (upd H d (.lst [.int a', .int b, .int c'])) := fun t a' c' t0 t1 h0 h1 => q2 t _ t0 t1 ((GrD.refl d H).set _) ⟨a', b, c', upd_same, hb0, hb1, h0, by omega⟩
  have hdL : SqL K H d [.int a, .int b, .int c] := SqL.of hd
  refine ⟨_, (pss_cons (ps_if (pt_cmpR op_gt (pe_ix ix_list (pv 0) pe_int (fun _ _ => rfl)) pe_int (nomark _)) (pss_cons (ps_set (i := 2) sc_draw.nd rfl (.inl rfl) (pe_op op_mod (pe_callTy call_int1 rfl B.int PyProof.Rows.boot_int (pa_cons (pe_ix ix_list (pv 0) pe_int (fun _ _ => rfl)) pa_nil)) (pv 1)))
      (pss_cons (ps_asg (pe_op op_fdivW (pe_ix ix_list (pv 0) pe_int (fun _ _ => rfl)) (pv 1)) (pg_sub (pv 0) pe_int set_list))
      (pss_one (ps_ret (pv 2))))) pss_nil)
    (pss_cons (ps_asg (pe_op op_add (pe_ix ix_list (pv 0) pe_int (fun _ _ => rfl)) pe_int) (pg_sub (pv 0) pe_int set_list))
    (pss_cons (ps_set (i := 3) sc_draw.nd rfl (.inl rfl) (pe_op op_mod (pe_callTy call_int1 rfl B.int PyProof.Rows.boot_int (pa_cons (pe_op op_powW (pe_op op_add (pe_ix ix_list (pv 0) pe_int (fun _ _ => rfl)) (pe_op op_mul pe_int (pe_ix ix_list (pv 0) pe_int (fun _ _ => rfl)))) pe_int) pa_nil)) (pe_op op_add (pe_op op_pow pe_int pe_int) pe_int)))
    (pss_cons (ps_set (i := 3) sc_draw.nd rfl (.inl rfl) (pe_op op_mod (pe_callTy call_int1 rfl B.int PyProof.Rows.boot_int (pa_cons (pe_op op_powW (pe_op op_add (pv 3) pe_int) pe_int) pa_nil)) (pe_op op_add (pe_op op_pow pe_int pe_int) pe_int)))
    (pss_one (ps_ret (pe_op op_mod (pe_callTy call_int1 rfl B.int PyProof.Rows.boot_int (pa_cons (pe_op op_fdivW (pv 3) (pe_op op_pow pe_int pe_int)) pa_nil)) (pv 1)))))))), ?_⟩
  have mw : CDivW 0 many := wide_div (b := 8000) (by omega) mb (by decide) (by decide)
  refine ⟨_, rfl, d, _, _, _, rfl, rfl, hdL, rfl, _, _, rfl, rfl, _, rfl, ?_⟩
  refine ite2 (fun c0 => ?_) (fun c0 => ?_)
  · refine ⟨_, rfl, d, _, _, _, rfl, rfl, hdL, rfl, .inl ⟨_, rfl, _, rfl, _, _, rfl, rfl, (by show (0 : Int) < many; omega), ?_⟩⟩
    refine ⟨_, rfl, d, _, _, _, rfl, rfl, hdL, rfl, _, rfl, _, _, rfl, rfl, mw, ?_⟩
    refine ⟨_, rfl, d, _, _, _, rfl, rfl, hd, rfl, _, rfl, ?_⟩
    obtain ⟨t0, t1⟩ := modB a (m := many) (by omega)
    exact q _ _ _ t0 t1 hc0 (by omega)
  · refine ⟨_, rfl, d, _, _, _, rfl, rfl, hdL, rfl, _, _, rfl, rfl, ?_⟩
    refine ⟨_, rfl, d, _, _, _, rfl, rfl, hd, rfl, ?_⟩
    refine ⟨_, rfl, d, _, _, _, rfl, rfl, SqL.of upd_same, rfl, _, rfl, d, _, _, _, rfl, rfl, SqL.of upd_same, rfl, _, _, rfl, rfl, .inl (by decide), _, _, rfl, rfl, _, _, rfl, rfl, wide_pow (a := 100) ?_ (by decide) (by decide) (by decide) (by decide), .inl ⟨_, rfl, _, _, rfl, rfl, ⟨by decide, by decide, by decide⟩, _, _, rfl, rfl, _, _, rfl, rfl, (by show (0 : Int) < _; decide), ?_⟩⟩
    · omega
    have u0 := (modB ((b + 49979693 * (c + 1)) ^ (3 : Int).toNat) (m := 10 ^ (29 : Int).toNat + 319) (by decide)).1
    have u1 := (modB ((b + 49979693 * (c + 1)) ^ (3 : Int).toNat) (m := 10 ^ (29 : Int).toNat + 319) (by decide)).2
    have u2 : (10 ^ (29 : Int).toNat + 319 : Int) < 2 ^ 98 := by decide
    refine ⟨_, rfl, _, _, rfl, rfl, _, _, rfl, rfl, wide_pow (a := 100) ?_ (by decide) (by decide) (by decide) (by decide), .inl ⟨_, rfl, _, _, rfl, rfl, ⟨by decide, by decide, by decide⟩, _, _, rfl, rfl, _, _, rfl, rfl, (by show (0 : Int) < _; decide), ?_⟩⟩
    · generalize (b + 49979693 * (c + 1)) ^ (3 : Int).toNat % (10 ^ (29 : Int).toNat + 319) = y at u0 u1
      omega
    refine ⟨_, rfl, _, _, rfl, rfl, ⟨by decide, by decide, by decide⟩, _, _, rfl, rfl, wide_div (b := 34) (by decide) (by decide) (by decide) (by decide), .inl ⟨_, rfl, _, rfl, _, _, rfl, rfl, (by show (0 : Int) < many; omega), ?_⟩⟩
    exact q _ _ _ (modB _ (by omega)).1 (modB _ (by omega)).2 (by omega) (by omega)
end
end SB
namespace SB
open PySem L2 GxR GA RZ
/-- a list of n things told one by one -/
theorem lc_rng {K : PySem.W.Frag} {lo : Int} {n : Nat} {g : TG} {te : TE} {vs : List Nat} {σ : L2.St} {H1 : Hp} {D : Addr} {Qd : Hp → Prop} (R : Nat → V → Hp → Prop) (hst : ∀ i y H H', R i y H → Tst K H H' → R i y H') (nD : H1 D = none) (hz : n ≤ 1000)
    (step : ∀ (i : Nat) H (Kc : VK), i < n → Gr H1 H → (∀ y H4, Gr H H4 → R i y H4 → Kc y H4) → g (.int (lo + i)) (wipe σ vs) H fun σ2 H2 => wipe σ2 vs = wipe σ vs ∧ te σ2 H2 Kc)
    (fin : ∀ ys H, H D = some (.lst ys) → ys.length = n → Gr H1 H → (∀ i y, ys[i]? = some y → R i y H) → Qd H) :
    ∃ W : Nat → Nat → Hp → Prop, (∃ m, W 0 m (upd H1 D (.lst []))) ∧ ∀ i m H, W i m H → ((Itr lo n).stop i H ∧ Qd H) ∨
      ((Itr lo n).go i H ∧ ∃ Nx : Hp → Prop, (∀ H', Nx H' → ∃ m', m' < m ∧ W (i + 1) m' H') ∧ ∀ x H', (Itr lo n).yld i H x H' → g x (wipe σ vs) H' fun σ2 H2 => wipe σ2 vs = wipe σ vs ∧ tYes σ2 H2 fun b H3 =>
        if b = true then te σ2 H3 fun y H4 => ∃ acc, H4 D = some (.lst acc) ∧ acc.length < sizeLine ∧ Nx (upd H4 D (.lst (acc ++ [y]))) else Nx H3) := by
  refine ⟨fun i m H => i + m = n ∧ ∃ ys, H D = some (.lst ys) ∧ ys.length = i ∧ GrD D H1 H ∧ ∀ j y, ys[j]? = some y → R j y H, ⟨n, Nat.zero_add _, [], upd_same, rfl, (GrD.refl D H1).set _, fun j y h => by simp at h⟩, fun i m H ⟨hm, ys, hD, hy, gr, hR⟩ => ?_⟩
  cases m with
  | zero => exact .inl ⟨(by show n ≤ i; omega), fin ys H hD (by omega) (gr.to nD) hR⟩
  | succ m =>
    refine .inr ⟨(by show i < n; omega), fun H' => ∃ ys, H' D = some (.lst ys) ∧ ys.length = i + 1 ∧ GrD D H1 H' ∧ ∀ j y, ys[j]? = some y → R j y H', fun H' h => ⟨m, Nat.lt_succ_self _, by omega, h⟩, fun x H' hyl => ?_⟩
    obtain ⟨rfl, rfl⟩ := hyl
    refine step i H' _ (by omega) (gr.to nD) fun y H4 g4 r4 => ?_
    have hD4 : H4 D = some (.lst ys) := g4.keep D _ (fun _ z => nomatch z) hD
    have tp : Tst K H4 (upd H4 D (.lst (ys ++ [y]))) := Tst.put hD4
    refine ⟨ys, hD4, small1000 (by omega), ys ++ [y], upd_same, by rw [List.length_append, hy]; rfl, (gr.trans (g4.d D)).set _, fun j z hz => ?_⟩
    by_cases hj : j < ys.length
    · rw [List.getElem?_append_left hj] at hz
      exact hst _ _ _ _ (hR j z hz) ((Gr.st g4).trans tp)
    · have hl := (List.getElem?_eq_some_iff.mp hz).1
      rw [List.length_append] at hl
      have hl : j < ys.length + 1 := hl
      have ej : j = ys.length := by omega
      subst ej
      rw [List.getElem?_append_right (Nat.le_refl _), Nat.sub_self] at hz
      cases hz
      rw [hy]
      exact hst _ _ _ _ r4 tp
/-- a list of n things drawn, c draws each -/
theorem lc_stkR {K : PySem.W.Frag} {d : Addr} {k c : Nat} {lo : Int} {n : Nat} {g : TG} {te : TE} {vs : List Nat} {σ : L2.St} {H1 : Hp} {D : Addr} {Qd : Hp → Prop} (R : Nat → V → Hp → Prop) (hst : ∀ i y H H', R i y H → Tst K H H' → R i y H') (nD : H1 D = none) (dk : Stk d k H1) (hz : n ≤ 1000)
    (step : ∀ (i : Nat) H (Kc : VK), i < n → GrD d H1 H → Stk d (k + c * i) H → (∀ y H4, GrD d H H4 → Stk d (k + c * i + c) H4 → R i y H4 → Kc y H4) → g (.int (lo + i)) (wipe σ vs) H fun σ2 H2 => wipe σ2 vs = wipe σ vs ∧ te σ2 H2 Kc)
    (fin : ∀ ys H, H D = some (.lst ys) → ys.length = n → GrD d H1 H → Stk d (k + c * n) H → (∀ i y, ys[i]? = some y → R i y H) → Qd H) :
    ∃ W : Nat → Nat → Hp → Prop, (∃ m, W 0 m (upd H1 D (.lst []))) ∧ ∀ i m H, W i m H → ((Itr lo n).stop i H ∧ Qd H) ∨
      ((Itr lo n).go i H ∧ ∃ Nx : Hp → Prop, (∀ H', Nx H' → ∃ m', m' < m ∧ W (i + 1) m' H') ∧ ∀ x H', (Itr lo n).yld i H x H' → g x (wipe σ vs) H' fun σ2 H2 => wipe σ2 vs = wipe σ vs ∧ tYes σ2 H2 fun b H3 =>
        if b = true then te σ2 H3 fun y H4 => ∃ acc, H4 D = some (.lst acc) ∧ acc.length < sizeLine ∧ Nx (upd H4 D (.lst (acc ++ [y]))) else Nx H3) := by
  have nd := dk.ne nD
  refine ⟨fun i m H => i + m = n ∧ ∃ ys, H D = some (.lst ys) ∧ ys.length = i ∧ GrD d H1 H ∧ Stk d (k + c * i) H ∧ ∀ j y, ys[j]? = some y → R j y H, ⟨n, Nat.zero_add _, [], upd_same, rfl, (GrD.refl d H1).put nD _, dk.off nd, fun j y h => by simp at h⟩, fun i m H ⟨hm, ys, hD, hy, gr, dk', hR⟩ => ?_⟩
  cases m with
  | zero =>
    have e : i = n := by omega
    subst e
    exact .inl ⟨(by show i ≤ i; omega), fin ys H hD (by omega) gr dk' hR⟩
  | succ m =>
    refine .inr ⟨(by show i < n; omega), fun H' => ∃ ys, H' D = some (.lst ys) ∧ ys.length = i + 1 ∧ GrD d H1 H' ∧ Stk d (k + c * (i + 1)) H' ∧ ∀ j y, ys[j]? = some y → R j y H', fun H' h => ⟨m, Nat.lt_succ_self _, by omega, h⟩, fun x H' hyl => ?_⟩
    obtain ⟨rfl, rfl⟩ := hyl
    refine step i H' _ (by omega) gr dk' fun y H4 g4 dk4 r4 => ?_
    have hD4 : H4 D = some (.lst ys) := g4.keep D _ nd (fun _ z => nomatch z) hD
    have tp : Tst K H4 (upd H4 D (.lst (ys ++ [y]))) := Tst.put hD4
    refine ⟨ys, hD4, small1000 (by omega), ys ++ [y], upd_same, by rw [List.length_append, hy]; rfl, (gr.trans g4).put nD _, (dk4.off nd).more (by rw [Nat.mul_succ]; omega), fun j z hz => ?_⟩
    by_cases hj : j < ys.length
    · rw [List.getElem?_append_left hj] at hz
      exact hst _ _ _ _ (hR j z hz) ((g4.sk dk').trans tp)
    · have hl := (List.getElem?_eq_some_iff.mp hz).1
      rw [List.length_append] at hl
      have hl : j < ys.length + 1 := hl
      have ej : j = ys.length := by omega
      subst ej
      rw [List.getElem?_append_right (Nat.le_refl _), Nat.sub_self] at hz
      cases hz
      rw [hy]
      exact hst _ _ _ _ r4 tp
/-- a list of n truths, each True -/
theorem lc_rngB {K : PySem.W.Frag} {lo : Int} {n : Nat} {g : TG} {te : TE} {vs : List Nat} {σ : L2.St} {H1 : Hp} {D : Addr} {Qd : Hp → Prop} (nD : H1 D = none) (hz : n ≤ sizeLine)
    (step : ∀ (i : Nat) H (Kc : VK), i < n → Gr H1 H → (∀ H4, Gr H H4 → Kc (.bl true) H4) → g (.int (lo + i)) (wipe σ vs) H fun σ2 H2 => wipe σ2 vs = wipe σ vs ∧ te σ2 H2 Kc)
    (fin : ∀ H, H D = some (.lst ((List.replicate n true).map V.bl)) → Gr H1 H → Qd H) :
    ∃ W : Nat → Nat → Hp → Prop, (∃ m, W 0 m (upd H1 D (.lst []))) ∧ ∀ i m H, W i m H → ((Itr lo n).stop i H ∧ Qd H) ∨
      ((Itr lo n).go i H ∧ ∃ Nx : Hp → Prop, (∀ H', Nx H' → ∃ m', m' < m ∧ W (i + 1) m' H') ∧ ∀ x H', (Itr lo n).yld i H x H' → g x (wipe σ vs) H' fun σ2 H2 => wipe σ2 vs = wipe σ vs ∧ tYes σ2 H2 fun b H3 =>
        if b = true then te σ2 H3 fun y H4 => ∃ acc, H4 D = some (.lst acc) ∧ acc.length < sizeLine ∧ Nx (upd H4 D (.lst (acc ++ [y]))) else Nx H3) := by
  refine ⟨fun i m H => i + m = n ∧ H D = some (.lst ((List.replicate i true).map V.bl)) ∧ GrD D H1 H, ⟨n, Nat.zero_add _, upd_same, (GrD.refl D H1).set _⟩, fun i m H ⟨hm, hD, gr⟩ => ?_⟩
  cases m with
  | zero =>
    have e : i = n := by omega
    subst e
    exact .inl ⟨(by show i ≤ i; omega), fin H hD (gr.to nD)⟩
  | succ m =>
    refine .inr ⟨(by show i < n; omega), fun H' => H' D = some (.lst ((List.replicate (i + 1) true).map V.bl)) ∧ GrD D H1 H', fun H' h => ⟨m, Nat.lt_succ_self _, by omega, h⟩, fun x H' hyl => ?_⟩
    obtain ⟨rfl, rfl⟩ := hyl
    refine step i H' _ (by omega) (gr.to nD) fun H4 g4 => ?_
    have hD4 : H4 D = some (.lst ((List.replicate i true).map V.bl)) := g4.keep D _ (fun _ z => nomatch z) hD
    refine ⟨_, hD4, by rw [List.length_map, List.length_replicate]; omega, ?_, (gr.trans (g4.d D)).set _⟩
    rw [upd_same, List.replicate_succ', List.map_append]
    rfl
section
variable {P : Program} {w : World} {K : PySem.W.Frag} {mg : Str → Option Value} {base : Heap}
theorem sc_wsame : FnScope ["told", "due", "k"] ["told", "due"] (defScope s__law_same) := ⟨rfl, rfl, rfl, by decide +kernel, rfl, by decide +kernel, by decide +kernel⟩
theorem len_rngZ {n : Nat} (h : n ≤ 1000) : -(2 ^ 62) ≤ ((n : Nat) : Int) ∧ ((n : Nat) : Int) < 2 ^ 62 := len_rng (szN (by omega))
theorem ok_wsame {n : Nat} {f g : Addr} {fd gd : FuncData} (F : Fun K "_law_same" "_law_same" s__law_same f fd) (B : Blt mg) (G : FnOk P w K mg base CX0 n g gd ["told", "due"] (spSame K n)) (bG : Binds K gd ["told", "due"] []) (kG : PySem.W.keepIn K (.ref g) = true) (mG : mg "_law_same" = some (.ref g)) :
    FnOk P w K mg base CX0 (n + 1) f fd ["told", "due"] (spSame K (n + 1)) := by
  refine F.ok sc_wsame (fun vs H Q E h => ?_) (fun cdv A outer s H vs Q E hr h => ?_)
  · obtain ⟨x, y, rfl, _⟩ := h
    rfl
  obtain ⟨x, y, rfl, ha, q⟩ := h
  refine ⟨_, (pss_cons (ps_if (pt_cmp (pc_isN (pv 1))) (pss_one (ps_ret (pe_cmp (pc_isN (pv 0))))) pss_nil)
    (pss_cons (ps_if (pt_val (pe_callB call_isi rfl B.isi PyProof.Rows.boot_isinstance (pa_cons (pv 1) (pa_cons (pe_bltn (v := .ty "bool") rfl B.bool bootBool rfl) pa_nil)))) (pss_one (ps_ret (pe_ifExp (pt_val (pv 1)) (pe_cmpR op_isB (pv 0) pe_bl (nomark _)) (pe_cmpR op_isB (pv 0) pe_bl (nomark _))))) pss_nil)
    (pss_cons (ps_if (pt_val (pe_callB call_isi rfl B.isi PyProof.Rows.boot_isinstance (pa_cons (pv 1) (pa_cons (pe_bltn (v := .ty "int") rfl B.int PyProof.Rows.boot_int rfl) pa_nil)))) (pss_one (ps_ret (pe_and (pe_callB call_isi rfl B.isi PyProof.Rows.boot_isinstance (pa_cons (pv 0) (pa_cons (pe_bltn (v := .ty "int") rfl B.int PyProof.Rows.boot_int rfl) pa_nil))) (pe_and (pe_not (pe_callB call_isi rfl B.isi PyProof.Rows.boot_isinstance (pa_cons (pv 0) (pa_cons (pe_bltn (v := .ty "bool") rfl B.bool bootBool rfl) pa_nil)))) (pe_one (pe_cmpR op_eq (pv 0) (pv 1) (nomark _))))))) pss_nil)
    (pss_cons (ps_if (pt_val (pe_callB call_isi rfl B.isi PyProof.Rows.boot_isinstance (pa_cons (pv 1) (pa_cons (pe_bltn (v := .ty "str") rfl B.str bootStr rfl) pa_nil)))) (pss_one (ps_ret (pe_and (pe_callB call_isi rfl B.isi PyProof.Rows.boot_isinstance (pa_cons (pv 0) (pa_cons (pe_bltn (v := .ty "str") rfl B.str bootStr rfl) pa_nil))) (pe_one (pe_cmpR op_eq (pv 0) (pv 1) (nomark _)))))) pss_nil)
    (pss_cons (ps_if (PW.pt (by exact (pw_or (pt_cmpR op_ne (pe_callB call_isi rfl B.isi PyProof.Rows.boot_isinstance (pa_cons (pv 1) (pa_cons (pe_bltn (v := .ty "tuple") rfl B.tup bootTup rfl) pa_nil))) (pe_callB call_isi rfl B.isi PyProof.Rows.boot_isinstance (pa_cons (pv 0) (pa_cons (pe_bltn (v := .ty "tuple") rfl B.tup bootTup rfl) pa_nil))) (nomark _)) (pw_or1 (pt_cmpR op_ne (pe_callB call_isi rfl B.isi PyProof.Rows.boot_isinstance (pa_cons (pv 1) (pa_cons (pe_bltn (v := .ty "list") rfl B.lst bootLst rfl) pa_nil))) (pe_callB call_isi rfl B.isi PyProof.Rows.boot_isinstance (pa_cons (pv 0) (pa_cons (pe_bltn (v := .ty "list") rfl B.lst bootLst rfl) pa_nil))) (nomark _)))))) (pss_one (ps_ret pe_bl)) pss_nil)
    (pss_one (ps_ret (pe_and (pe_cmpR op_eq (pe_len (pv 0) B.len) (pe_len (pv 1) B.len) (nomark _)) (pe_one (pe_callB (cr_all rfl) rfl B.all PyProof.Rows.boot_all (pa_cons (pe_lc (own := [("k", 2)]) (g := gName 2) rfl sc_wsame.nd (pi_range1 rfl B.rng (pa_cons (pe_len (pv 1) B.len) pa_nil)) (blkOk_by (N := ["told", "due", "k"]) (sc := defScope s__law_same) (by decide +kernel)) (fun _ _ _ _ _ => (pg_name (i := 2) sc_wsame.nd rfl (Or.inl rfl))) (fun _ _ _ _ _ => pts_nil) (fun _ _ _ _ _ => (pe_call G hr rfl mG kG bG .nil pass0 (pa_cons (pe_ix (r := rIx K) ix_seq (pv 0) (pv 2) (fun _ _ => rfl)) (pa_cons (pe_ix (r := rIx K) ix_seq (pv 1) (pv 2) (fun _ _ => rfl)) pa_nil))))) pa_nil))))))))))), ?_⟩
  rcases ha with ⟨rfl, hs⟩ | ⟨a, b, xs, ys, rfl, rfl, hsz, hsq, hp⟩
  · cases x with
    | non => exact ⟨_, rfl, _, rfl, iteP rfl ⟨_, rfl, qd rfl (q _ (Gr.refl _))⟩⟩
    | bl c =>
      refine ⟨_, rfl, _, rfl, iteN (fun z => nomatch z) ?_⟩
      refine ⟨_, rfl, _, _, _, _, _, rfl, .ty _, .base (.bl c), kit_ty (r := true) (by decide +kernel), _, rfl, iteT ?_⟩
      refine ⟨_, rfl, _, rfl, ?_⟩
      cases c with
      | true => exact iteT ⟨_, rfl, _, _, rfl, rfl, qe (by decide +kernel) (q _ (Gr.refl _))⟩
      | false => exact iteF ⟨_, rfl, _, _, rfl, rfl, qe (by decide +kernel) (q _ (Gr.refl _))⟩
    | int i =>
      refine ⟨_, rfl, _, rfl, iteN (fun z => nomatch z) ?_⟩
      refine ⟨_, rfl, _, _, _, _, _, rfl, .ty _, .base (.int i), kit_ty (r := false) (by decide +kernel), _, rfl, iteF ?_⟩
      refine ⟨_, rfl, _, _, _, _, _, rfl, .ty _, .base (.int i), kit_ty (r := true) (by decide +kernel), _, rfl, iteT ?_⟩
      refine ⟨_, rfl, _, _, _, _, _, rfl, .ty _, .base (.int i), kit_ty (r := true) (by decide +kernel), _, rfl, iteT ?_⟩
      refine ⟨_, rfl, _, _, _, _, _, rfl, .ty _, .base (.int i), kit_ty (r := false) (by decide +kernel), _, rfl, _, rfl, iteT ⟨_, rfl, _, rfl, rfl, qd rfl (q _ (Gr.refl _))⟩⟩
    | str z =>
      refine ⟨_, rfl, _, rfl, iteN (fun z => nomatch z) ?_⟩
      refine ⟨_, rfl, _, _, _, _, _, rfl, .ty _, .base (.str z), kit_ty (r := false) (by decide +kernel), _, rfl, iteF ?_⟩
      refine ⟨_, rfl, _, _, _, _, _, rfl, .ty _, .base (.str z), kit_ty (r := false) (by decide +kernel), _, rfl, iteF ?_⟩
      refine ⟨_, rfl, _, _, _, _, _, rfl, .ty _, .base (.str z), kit_ty (r := true) (by decide +kernel), _, rfl, iteT ?_⟩
      exact ⟨_, rfl, _, _, _, _, _, rfl, .ty _, .base (.str z), kit_ty (r := true) (by decide +kernel), _, rfl, iteT ⟨_, rfl, _, rfl, rfl, qd rfl (q _ (Gr.refl _))⟩⟩
    | byt _ => cases hs
    | flt _ => cases hs
    | ref _ => cases hs
    | ty _ => cases hs
  have hl : xs.length = ys.length := Paired.length hp
  rcases hsq with ⟨h1, h2⟩ | ⟨h1, h2⟩
  · refine ⟨_, rfl, _, rfl, iteN (fun z => nomatch z) ?_⟩
    refine ⟨_, rfl, _, _, _, _, _, rfl, .ty _, tyT h2, kit_ty (r := false) (by decide +kernel), _, rfl, iteF ?_⟩
    refine ⟨_, rfl, _, _, _, _, _, rfl, .ty _, tyT h2, kit_ty (r := false) (by decide +kernel), _, rfl, iteF ?_⟩
    refine ⟨_, rfl, _, _, _, _, _, rfl, .ty _, tyT h2, kit_ty (r := false) (by decide +kernel), _, rfl, iteF ?_⟩
    refine ⟨_, rfl, _, _, _, _, _, rfl, .ty _, tyT h2, kit_ty (r := true) (by decide +kernel), _, rfl, _, _, _, _, _, rfl, .ty _, tyT h1, kit_ty (r := true) (by decide +kernel), rfl, _, rfl, iteNS rfl ?_⟩
    refine ⟨_, rfl, _, _, _, _, _, rfl, .ty _, tyT h2, kit_ty (r := false) (by decide +kernel), _, rfl, _, _, _, _, _, rfl, .ty _, tyT h1, kit_ty (r := false) (by decide +kernel), rfl, _, rfl, iteNS rfl ?_⟩
    refine ⟨_, rfl, _, _, rfl, .inr h1, _, rfl, _, _, rfl, .inr h2, rfl, _, rfl, iteP (congrArg (fun n : Nat => V.int n) hl) ?_⟩
    refine ⟨_, rfl, _, _, rfl, .inr h2, _, rfl, (len_rng hsz).1, (len_rng hsz).2, fun D nD => ?_⟩
    rw [Int.toNat_natCast]
    refine lc_rngB (K := K) (lo := 0) nD hsz (fun i H5 Kc hi g5 kc => ?_) (fun H5 hD g5 => ?_)
    · obtain ⟨v, u, e1, e2, al⟩ := paired_at hp i hi
      have e0 : (0 : Int) + (i : Int) = ((i : Nat) : Int) := Int.zero_add _
      refine ⟨rfl, _, rfl, _, rfl, .inr (.inl ⟨_, _, _, _, rfl, rfl, g5.seqT h1, at_of e0 e1, ?_⟩)⟩
      refine ⟨_, rfl, _, rfl, .inr (.inl ⟨_, _, _, _, rfl, rfl, g5.seqT h2, at_of e0 e2, ?_⟩)⟩
      exact ⟨_, _, rfl, al.gr g5, fun H6 g6 => kc H6 g6⟩
    · exact ⟨D, _, rfl, SqL.of hD, by rw [rep_all]; exact q _ g5⟩
  · refine ⟨_, rfl, _, rfl, iteN (fun z => nomatch z) ?_⟩
    refine ⟨_, rfl, _, _, _, _, _, rfl, .ty _, tyL h2, kit_ty (r := false) (by decide +kernel), _, rfl, iteF ?_⟩
    refine ⟨_, rfl, _, _, _, _, _, rfl, .ty _, tyL h2, kit_ty (r := false) (by decide +kernel), _, rfl, iteF ?_⟩
    refine ⟨_, rfl, _, _, _, _, _, rfl, .ty _, tyL h2, kit_ty (r := false) (by decide +kernel), _, rfl, iteF ?_⟩
    refine ⟨_, rfl, _, _, _, _, _, rfl, .ty _, tyL h2, kit_ty (r := false) (by decide +kernel), _, rfl, _, _, _, _, _, rfl, .ty _, tyL h1, kit_ty (r := false) (by decide +kernel), rfl, _, rfl, iteNS rfl ?_⟩
    refine ⟨_, rfl, _, _, _, _, _, rfl, .ty _, tyL h2, kit_ty (r := true) (by decide +kernel), _, rfl, _, _, _, _, _, rfl, .ty _, tyL h1, kit_ty (r := true) (by decide +kernel), rfl, _, rfl, iteNS rfl ?_⟩
    refine ⟨_, rfl, _, _, rfl, .inl h1, _, rfl, _, _, rfl, .inl h2, rfl, _, rfl, iteP (congrArg (fun n : Nat => V.int n) hl) ?_⟩
    refine ⟨_, rfl, _, _, rfl, .inl h2, _, rfl, (len_rng hsz).1, (len_rng hsz).2, fun D nD => ?_⟩
    rw [Int.toNat_natCast]
    refine lc_rngB (K := K) (lo := 0) nD hsz (fun i H5 Kc hi g5 kc => ?_) (fun H5 hD g5 => ?_)
    · obtain ⟨v, u, e1, e2, al⟩ := paired_at hp i hi
      have e0 : (0 : Int) + (i : Int) = ((i : Nat) : Int) := Int.zero_add _
      refine ⟨rfl, _, rfl, _, rfl, .inl ⟨_, _, _, _, rfl, rfl, g5.seqL h1, at_of e0 e1, ?_⟩⟩
      refine ⟨_, rfl, _, rfl, .inl ⟨_, _, _, _, rfl, rfl, g5.seqL h2, at_of e0 e2, ?_⟩⟩
      exact ⟨_, _, rfl, al.gr g5, fun H6 g6 => kc H6 g6⟩
    · exact ⟨D, _, rfl, SqL.of hD, by rw [rep_all]; exact q _ g5⟩
theorem wsame_all {f : Addr} {fd : FuncData} (F : Fun K "_law_same" "_law_same" s__law_same f fd) (B : Blt mg) (bF : Binds K fd ["told", "due"] []) (mF : mg "_law_same" = some (.ref f)) : ∀ n : Nat, FnOk P w K mg base CX0 n f fd ["told", "due"] (spSame K n)
  | 0 => by
    have no : ∀ vs H Q E, ¬ spSame K 0 vs H Q E := fun vs H Q E h => by
      obtain ⟨x, y, _, h, _⟩ := h
      exact h
    exact ⟨fun vs H Q E h => absurd h (no vs H Q E), fun A outer s H args us vs Q E _ _ _ _ h => absurd h (no vs H Q E)⟩
  | n + 1 => ok_wsame F B (wsame_all F B bF mF n) bF F.kp mF
theorem cl_wsame (D : Df K mg "_law_same" s__law_same) (B : Blt mg) (n : Nat) : Cl P w K mg base n "_law_same" ["told", "due"] (spSame K n) := by
  obtain ⟨f, fd, F, m⟩ := D.ex
  have bF : Binds K fd ["told", "due"] [] := F.binds fun _ _ _ _ _ _ us hl => match us, hl with | [_, _], _ => rfl
  obtain ⟨oc, od, kV, doc, pm, an, cdv, ct, osl, e, lk, hcd⟩ := F.ex
  exact ⟨⟨f, fd, wsame_all F B bF m n, m, F.kp, bF⟩, fun g hg => by
    rw [m] at hg
    cases hg
    exact ⟨fd, wsame_all F B bF m n, oc, od, osl, lk⟩⟩
end
end SB
namespace SB
open PySem L2 GxR GA RZ
section
variable {P : Program} {w : World} {K : PySem.W.Frag} {mg : Str → Option Value} {base : Heap}
theorem sc_low : FnScope ["top", "bottom", "one", "two"] ["top", "bottom"] (defScope s__law_low) := ⟨rfl, rfl, rfl, by decide +kernel, rfl, by decide +kernel, by decide +kernel⟩
theorem cl_low (D : Df K mg "_law_low" s__law_low) (B : Blt mg) (NS : NSK P K) : Cl P w K mg base 34 "_law_low" ["top", "bottom"] (spLowest K) := by
  refine D.cl (fun _ _ _ _ _ _ us hl => match us, hl with | [_, _], _ => rfl) fun f fd F => F.ok sc_low (fun vs H Q E h => ?_) (fun cdv A outer s H vs Q E hr h => ?_)
  · obtain ⟨t, b, rfl, _⟩ := h
    rfl
  obtain ⟨t, b, rfl, hb, ⟨h1, h2⟩, q⟩ := h
  refine ⟨_, (pss_cons (ps_par (i := 2) (j := 3) rfl sc_low.nd rfl rfl (by decide) rfl rfl (pa_cons (pe_callB call_abs rfl B.abs PyProof.Rows.boot_abs (pa_cons (pv 0) pa_nil)) (pa_cons (pv 1) pa_nil)) rfl)
    (pss_cons (ps_while PassesOwn.never (pt_cmpR op_ne (pv 3) pe_int (nomark _)) (pss_one (ps_par (i := 2) (j := 3) rfl sc_low.nd rfl rfl (by decide) rfl rfl (pa_cons (pv 3) (pa_cons (pe_op op_mod (pe_callTy call_int1 rfl B.int PyProof.Rows.boot_int (pa_cons (pv 2) pa_nil)) (pv 3)) pa_nil)) rfl)))
    (pss_one (ps_ret (pe_tup (pa_cons (pe_op (op_fdivE NS (Room.far hr) rfl rfl rfl rfl rfl) (pv 0) (pv 2)) (pa_cons (pe_op (op_fdivE NS (Room.far hr) rfl rfl rfl rfl rfl) (pv 1) (pv 2)) pa_nil))))))), ?_⟩
  obtain ⟨e1, e2, e3, e4, e5, e6⟩ := low_ok (t := t) hb _ rfl
  have cd : ∀ i : Int, (0 : Int) < ((Nat.gcd t.natAbs b.natAbs : Nat) : Int) := fun _ => e5
  refine ⟨_, rfl, _, rfl, _, rfl, _, _, rfl, ?_⟩
  refine ⟨fun m σ H1 => ∃ x y : Nat, σ = [some (.int t), some (.int b), some (.int (x : Int)), some (.int (y : Int))] ∧ H1 = H ∧ m = y ∧ Nat.gcd x y = Nat.gcd t.natAbs b.natAbs, ⟨b.natAbs, t.natAbs, b.natAbs, ?_, rfl, rfl, rfl⟩, fun m σ H1 hw => ?_⟩
  · have eb : ((b.natAbs : Nat) : Int) = b := by omega
    rw [eb]
    exact congrArg (fun z => [some (V.int t), some (V.int b), some (V.int z), some (V.int b)]) (abs_nat t)
  obtain ⟨x, y, rfl, rfl, rfl, hg⟩ := hw
  refine ⟨_, rfl, rfl, _, rfl, ?_⟩
  by_cases hy : m = 0
  · subst hy
    rw [Nat.gcd_zero_right] at hg
    subst hg
    exact iteNS rfl ⟨_, rfl, _, rfl, _, _, rfl, rfl, cd 0, _, rfl, _, rfl, _, _, rfl, rfl, cd 0, szN (by show 2 ≤ 1000000; decide), fun p hp => q _ _ _ ((Gr.refl H1).new hp _) ⟨p, rfl, SqT.of upd_same⟩ e1 e2 e3 e4⟩
  · have hne : V.int ((m : Nat) : Int) ≠ V.int 0 := fun z => hy (by injection z with z; omega)
    rw [decide_eq_false hne]
    refine iteT ⟨fun σ H' => ∃ m', m' < m ∧ ∃ x y : Nat, σ = [some (.int t), some (.int b), some (.int (x : Int)), some (.int (y : Int))] ∧ H' = H1 ∧ m' = y ∧ Nat.gcd x y = Nat.gcd t.natAbs b.natAbs, fun σ' H' h => h, ?_⟩
    refine ⟨_, rfl, _, rfl, .inl ⟨_, rfl, _, rfl, _, _, rfl, rfl, by omega, _, _, rfl, x % m, Nat.mod_lt _ (by omega), m, x % m, ?_, rfl, rfl, ?_⟩⟩
    · simp
    · rw [← hg, Nat.gcd_comm x m, Nat.gcd_rec m x, Nat.gcd_comm]
/-- sides, a wall, a point as the law's own sums take them -/
def Val (K : PySem.W.Frag) (H : Hp) (vs : List V) (ns : List Int) (wl : Int) (us : List (Int × Int)) (m : Nat) : Prop := ∃ x y, vs = [x, .int wl, y] ∧ SiV K H x ns ∧ PtV K H y us ∧ (∀ z, z ∈ ns → z.natAbs < 2 ^ 4) ∧ wl.natAbs < 2 ^ 4 ∧ ns.length = us.length ∧ us.length ≤ 4 ∧ (∀ u, u ∈ us → Lo u) ∧ (∀ u, u ∈ us → Wd m u) ∧ m ≤ 20000
def spValue (K : PySem.W.Frag) : Sp := fun vs H Q _ => ∃ ns wl us m, Val K H vs ns wl us m ∧
  ∀ v r H', Gr H H' → NuV K H' v r → 0 < r.2 → Eqr r (worthU (ns, wl) us).1 (worthU (ns, wl) us).2 → Wd (5 + us.length * (m + 6)) r → Q v H'
def spLAns (K : PySem.W.Frag) : Sp := fun vs H Q _ => ∃ ns wl us m, Val K H vs ns wl us m ∧ ∀ H', Gr H H' → Q (.int (ansU (ns, wl) us)) H'
end
end SB
namespace SB
open PySem L2 GxR GA RZ
theorem gcdF_acc : ∀ (l : List Int) (c : Nat), l.foldl (fun c z => Nat.gcd c z.natAbs) c = Nat.gcd c (l.foldl (fun c z => Nat.gcd c z.natAbs) 0)
  | [], c => by simp
  | z :: r, c => by
    rw [List.foldl_cons, List.foldl_cons, gcdF_acc r (Nat.gcd c z.natAbs), gcdF_acc r (Nat.gcd 0 z.natAbs), Nat.gcd_zero_left, Nat.gcd_assoc]
theorem gcdL_last (ns : List Int) (w : Int) : ns.foldl (fun c z => Nat.gcd c z.natAbs) w.natAbs = gcdL (ns ++ [w]) := by
  unfold gcdL
  rw [List.foldl_append, gcdF_acc ns w.natAbs, Nat.gcd_comm]
  rfl
theorem iteNZ {z : Int} {A B : Prop} (h1 : z ≠ 0 → A) (h2 : z = 0 → B) : if (!decide (V.int z = V.int 0)) = true then A else B := by
  by_cases h : z = 0
  · rw [decide_eq_true (show V.int z = V.int 0 by rw [h])]
    exact h2 h
  · rw [decide_eq_false (show ¬ V.int z = V.int 0 from fun y => h (by injection y))]
    exact iteT (h1 h)
/-- the numbers that are not 0, of a tuple of ints -/
theorem lc_nz {K : PySem.W.Frag} {a : Addr} {ns : List Int} {g : TG} {tt : TT} {te : TE} {vs : List Nat} {σ : L2.St} {H1 : Hp} {D : Addr} {Qd : Hp → Prop} (nD : H1 D = none) (hs : SqT K H1 a (ns.map V.int)) (hz : ns.length ≤ 1000)
    (step : ∀ (z : Int) H (Ky : VK) (Nx : Hp → Prop), (z ≠ 0 → Ky (.int z) H) → (z = 0 → Nx H) → g (.int z) (wipe σ vs) H fun σ2 H2 => wipe σ2 vs = wipe σ vs ∧ tt σ2 H2 fun b H3 => if b = true then te σ2 H3 Ky else Nx H3)
    (fin : ∀ H, H D = some (.lst ((ns.filter fun z => decide (z ≠ 0)).map V.int)) → Gr H1 H → Qd H) :
    ∃ W : Nat → Nat → Hp → Prop, (∃ m, W 0 m (upd H1 D (.lst []))) ∧ ∀ i m H, W i m H →
      ((Itt K a).stop i H ∧ Qd H) ∨ ((Itt K a).go i H ∧ ∃ Nx : Hp → Prop, (∀ H', Nx H' → ∃ m', m' < m ∧ W (i + 1) m' H') ∧ ∀ x H', (Itt K a).yld i H x H' → g x (wipe σ vs) H' fun σ2 H2 => wipe σ2 vs = wipe σ vs ∧ tt σ2 H2 fun b H3 =>
        if b = true then te σ2 H3 fun y H4 => ∃ acc, H4 D = some (.lst acc) ∧ acc.length < sizeLine ∧ Nx (upd H4 D (.lst (acc ++ [y]))) else Nx H3) := by
  refine ⟨fun i m H => i + m = ns.length ∧ H D = some (.lst (((ns.take i).filter fun z => decide (z ≠ 0)).map V.int)) ∧ GrD D H1 H, ⟨ns.length, Nat.zero_add _, upd_same, (GrD.refl D H1).set _⟩, fun i m H ⟨hm, hD, gr⟩ => ?_⟩
  have g1 := gr.to nD
  have hSi := g1.seqT hs
  cases m with
  | zero =>
    have e : i = ns.length := by omega
    subst e
    rw [List.take_length] at hD
    exact .inl ⟨⟨_, hSi, by rw [List.length_map]; exact Nat.le_refl _⟩, fin H hD g1⟩
  | succ m =>
    have hi : i < ns.length := by omega
    have ez : ns[i]? = some ns[i] := List.getElem?_eq_getElem hi
    refine .inr ⟨⟨_, .int ns[i], hSi, by rw [List.getElem?_map, ez]; rfl⟩, fun H' => H' D = some (.lst (((ns.take (i + 1)).filter fun z => decide (z ≠ 0)).map V.int)) ∧ GrD D H1 H', fun H' h => ⟨m, Nat.lt_succ_self _, by omega, h⟩, fun x H' hyl => ?_⟩
    obtain ⟨rfl, hx⟩ := hyl
    have hx2 := hx _ hSi
    rw [List.getElem?_map, ez] at hx2
    cases hx2
    refine step _ _ _ _ (fun n0 => ⟨_, hD, ?_, ?_, gr.set _⟩) fun z0 => ⟨?_, gr⟩
    · rw [List.length_map]
      have := List.length_filter_le (fun z : Int => decide (z ≠ 0)) (ns.take i)
      rw [List.length_take] at this
      exact small1000 (by omega)
    · rw [upd_same, List.take_add_one, ez, Option.toList_some, List.filter_append, List.filter_cons_of_pos (by simp [n0]), List.filter_nil, List.map_append]
      rfl
    · rw [hD, List.take_add_one, ez, Option.toList_some, List.filter_append, List.filter_cons_of_neg (by simp [z0]), List.filter_nil, List.append_nil]
theorem small2000 {n : Nat} (h : n ≤ 1000) : n < 2 ^ 2000 := Nat.lt_of_lt_of_le (Nat.lt_of_le_of_lt h (by decide : 1000 < 2 ^ 10)) (two_le (by decide))
/-- small sides and a wall -/
def Q16 (ns : List Int) (wl : Int) : Prop := (∀ z, z ∈ ns → z.natAbs < 2 ^ 2000) ∧ wl.natAbs < 2 ^ 2000 ∧ ns.length ≤ 20
theorem Q16.ok {ns : List Int} {wl : Int} (h : Q16 ns wl) (nz : NonZ ns) : QOk (ns, wl) := ⟨nz, fun z hz => Nat.lt_of_lt_of_le (h.1 z hz) (two_le (by decide)), Nat.lt_of_lt_of_le h.2.1 (two_le (by decide))⟩
theorem Q16.g {ns : List Int} {wl : Int} (h : Q16 ns wl) (nz : NonZ ns) : 0 < gcdL (ns ++ [wl]) ∧ gcdL (ns ++ [wl]) < 2 ^ 2000 := by
  obtain ⟨z, h1, h2⟩ := nz.ex
  exact ⟨nonZ_g (q := (ns, wl)) nz, Nat.lt_of_le_of_lt (gcdL_le (List.mem_append_left _ h1) h2) (h.1 z h1)⟩
section
variable {P : Program} {w : World} {K : PySem.W.Frag} {mg : Str → Option Value} {base : Heap}
def spWDiv (K : PySem.W.Frag) (f : List Int × Int → List Int × Int) : Sp := fun vs H Q _ => ∃ x ns wl, vs = [x, .int wl] ∧ SiV K H x ns ∧ NonZ ns ∧ Q16 ns wl ∧ ∀ v H', Gr H H' → QuV K H' v (f (ns, wl)) → Q v H'
theorem sc_wdiv : FnScope ["sides", "wall", "one", "side", "two"] ["sides", "wall"] (defScope s__law_divided) := ⟨rfl, rfl, rfl, by decide +kernel, rfl, by decide +kernel, by decide +kernel⟩
theorem cl_wdiv (D : Df K mg "_law_divided" s__law_divided) (B : Blt mg) : Cl P w K mg base 1 "_law_divided" ["sides", "wall"] (spWDiv K divU) := by
  refine D.cl (fun _ _ _ _ _ _ us hl => match us, hl with | [_, _], _ => rfl) fun f fd F => F.ok sc_wdiv (fun vs H Q E h => ?_) (fun cdv A outer s H vs Q E hr h => ?_)
  · obtain ⟨x, ns, wl, rfl, _⟩ := h
    rfl
  obtain ⟨x, ns, wl, rfl, ⟨a, rfl, hS⟩, nz, q16, hQ⟩ := h
  refine ⟨_, (pss_cons (ps_set (i := 2) sc_wdiv.nd rfl (.inr rfl) (pe_callB call_abs rfl B.abs PyProof.Rows.boot_abs (pa_cons (pv 1) pa_nil)))
    (pss_cons (ps_for PassesOwn.never rfl (pi_tup (pv 0)) (pg_name (i := 3) sc_wdiv.nd rfl (Or.inl rfl))
      (pss_cons (ps_set (i := 4) sc_wdiv.nd rfl (.inl rfl) (pe_callB call_abs rfl B.abs PyProof.Rows.boot_abs (pa_cons (pv 3) pa_nil)))
      (pss_one (ps_while PassesOwn.never (pt_cmpR op_ne (pv 4) pe_int (nomark _)) (pss_one (ps_asg (pe_tup (pa_cons (pv 4) (pa_cons (pe_op op_mod (pe_callTy call_int1 rfl B.int PyProof.Rows.boot_int (pa_cons (pv 2) pa_nil)) (pv 4)) pa_nil))) (pg_tup rfl (pgs_cons (pg_name (i := 2) sc_wdiv.nd rfl (Or.inr rfl)) (pgs_cons (pg_name (i := 4) sc_wdiv.nd rfl (Or.inl rfl)) pgs_nil)))))))))
    (pss_one (ps_ret (pe_tup (pa_cons (pe_callTy call_tuple_of rfl B.tup bootTup (pa_cons (pe_lc (own := [("side", 3)]) (g := gName 3) rfl sc_wdiv.nd (pi_tup (pv 0)) (blkOk_by (N := ["sides", "wall", "one", "side", "two"]) (sc := defScope s__law_divided) (by decide +kernel)) (fun _ _ _ _ _ => (pg_name (i := 3) sc_wdiv.nd rfl (Or.inl rfl))) (fun _ _ _ _ _ => pts_nil) (fun _ _ _ _ _ => (pe_op op_fdivW (pv 3) (pv 2)))) pa_nil)) (pa_cons (pe_op op_fdivW (pv 1) (pv 2)) pa_nil))))))), ?_⟩
  refine ⟨_, rfl, _, rfl, ?_⟩
  have ini : (V.int (if wl < 0 then -wl else wl)) = V.int ((wl.natAbs : Nat) : Int) := by rw [abs_nat]
  refine ⟨_, rfl, a, rfl, ⟨_, hS⟩, for_tup (xs := ns.map V.int) (fun i σ H' => ∃ c3 c4 : Option V, σ = [some (.ref a), some (.int wl), some (.int (((ns.take i).foldl (fun c z => Nat.gcd c z.natAbs) wl.natAbs : Nat) : Int)), c3, c4] ∧ Gr H H') ⟨_, _, congrArg (fun z => [some (V.ref a), some (V.int wl), some z, none, none]) ini, Gr.refl _⟩ (fun i σ H' _ h => ?_) (fun i x σ H' hx h => ?_) (fun σ H' h => ?_)⟩
  · obtain ⟨c3, c4, rfl, g⟩ := h
    exact g.seqT hS
  · obtain ⟨c3, c4, rfl, g⟩ := h
    rw [List.getElem?_map] at hx
    obtain ⟨z, hz, rfl⟩ := Option.map_eq_some_iff.mp hx
    have e : (ns.take (i + 1)).foldl (fun c (z : Int) => Nat.gcd c z.natAbs) wl.natAbs = Nat.gcd ((ns.take i).foldl (fun c (z : Int) => Nat.gcd c z.natAbs) wl.natAbs) z.natAbs := fold_take (fun c (z : Int) => Nat.gcd c z.natAbs) wl.natAbs hz
    refine ⟨_, rfl, z, rfl, ?_⟩
    refine ⟨fun m σ H1 => ∃ x y : Nat, σ = [some (.ref a), some (.int wl), some (.int (x : Int)), some (.int z), some (.int (y : Int))] ∧ Gr H H1 ∧ m = y ∧ Nat.gcd x y = (ns.take (i + 1)).foldl (fun c (z : Int) => Nat.gcd c z.natAbs) wl.natAbs, ⟨z.natAbs, (ns.take i).foldl (fun c z => Nat.gcd c z.natAbs) wl.natAbs, z.natAbs, ?_, g, rfl, by rw [e]⟩, fun m σ H1 hw => ?_⟩
    · exact congrArg (fun v => [some (V.ref a), some (V.int wl), some (V.int (((ns.take i).foldl (fun c z => Nat.gcd c z.natAbs) wl.natAbs : Nat) : Int)), some (V.int z), some (V.int v)]) (abs_nat z)
    obtain ⟨x, y, rfl, g1, rfl, hg⟩ := hw
    refine ⟨_, rfl, rfl, _, rfl, ?_⟩
    by_cases hy : m = 0
    · subst hy
      rw [Nat.gcd_zero_right] at hg
      subst hg
      exact iteNS rfl ⟨_, _, rfl, g1⟩
    · have hne : V.int ((m : Nat) : Int) ≠ V.int 0 := fun z => hy (by injection z with z; omega)
      rw [decide_eq_false hne]
      refine iteT ⟨fun σ H' => ∃ m', m' < m ∧ ∃ x y : Nat, σ = [some (.ref a), some (.int wl), some (.int (x : Int)), some (.int z), some (.int (y : Int))] ∧ Gr H H' ∧ m' = y ∧ Nat.gcd x y = (ns.take (i + 1)).foldl (fun c (z : Int) => Nat.gcd c z.natAbs) wl.natAbs, fun σ' H' h => h, ?_⟩
      refine ⟨_, rfl, _, rfl, .inl ⟨_, rfl, _, rfl, _, _, rfl, rfl, by omega, szN (by show 2 ≤ 1000000; decide), fun p np => ?_⟩⟩
      refine ⟨p, _, rfl, SqT.of upd_same, rfl, _, _, rfl, _, _, rfl, rfl, x % m, Nat.mod_lt _ (by omega), m, x % m, ?_, g1.new np _, rfl, ?_⟩
      · simp
      · rw [← hg, Nat.gcd_comm x m, Nat.gcd_rec m x, Nat.gcd_comm]
  · obtain ⟨c3, c4, rfl, g⟩ := h
    rw [List.length_map, List.take_length, gcdL_last]
    obtain ⟨g0, g64⟩ := q16.g nz
    have cd : ∀ i : Int, CDivW i ((gcdL (ns ++ [wl]) : Nat) : Int) := fun i => wide_div (b := 2000) (by omega) (by rw [Int.natAbs_natCast]; exact g64) (by decide) (by decide)
    have hS1 := g.seqT hS
    refine ⟨_, rfl, a, rfl, ⟨_, hS1⟩, fun D nD => lc_mapT (xs := ns.map V.int) (fun i y _ => ∃ z : Int, ns[i]? = some z ∧ y = .int (z / ((gcdL (ns ++ [wl]) : Nat) : Int))) (fun _ _ _ _ h _ => h) nD hS1 (by rw [List.length_map]; have := q16.2.2; omega) (fun i x H5 Kc hx g5 kc => ?_) (fun ys H5 hD hl5 g5 hR => ?_)⟩
    · rw [List.getElem?_map] at hx
      obtain ⟨z, hz, rfl⟩ := Option.map_eq_some_iff.mp hx
      exact ⟨rfl, _, rfl, _, rfl, _, _, rfl, rfl, cd _, kc _ _ (Gr.refl _) ⟨z, hz, rfl⟩⟩
    · have ey : ys = (divU (ns, wl)).1.map V.int := by
        refine ints_at (by rw [hl5, List.length_map]; show _ = (List.map _ ns).length; rw [List.length_map]) fun i y hy => ?_
        obtain ⟨z, hz, rfl⟩ := hR i y hy
        refine ⟨_, ?_, rfl⟩
        show (List.map _ ns)[i]? = _
        rw [List.getElem?_map, hz]
        rfl
      subst ey
      refine ⟨D, _, rfl, .inl ⟨SqL.of hD, fun p np => ?_⟩⟩
      refine ⟨_, rfl, _, rfl, _, _, rfl, rfl, cd _, szN (by show 2 ≤ 1000000; decide), fun p2 np2 => ?_⟩
      have k1 := (g.trans g5).new np (.tup ((divU (ns, wl)).1.map V.int))
      exact hQ _ _ (k1.new np2 _) ⟨p2, .ref p, rfl, SqT.of upd_same, p, rfl, ((Gr.refl _).new np2 _).seqT (SqT.of upd_same)⟩
theorem sc_wgr : FnScope ["sides", "wall", "side", "first"] ["sides", "wall"] (defScope s__law_ground) := ⟨rfl, rfl, rfl, by decide +kernel, rfl, by decide +kernel, by decide +kernel⟩
theorem cl_wgr (D : Df K mg "_law_ground" s__law_ground) (B : Blt mg) (CLD : Cl P w K mg base 1 "_law_divided" ["sides", "wall"] (spWDiv K divU)) : Cl P w K mg base 2 "_law_ground" ["sides", "wall"] (spWDiv K nfU) := by
  refine D.cl (fun _ _ _ _ _ _ us hl => match us, hl with | [_, _], _ => rfl) fun f fd F => F.ok sc_wgr (fun vs H Q E h => ?_) (fun cdv A outer s H vs Q E hr h => ?_)
  · obtain ⟨x, ns, wl, rfl, _⟩ := h
    rfl
  obtain ⟨x, ns, wl, rfl, hx, nz, q16, hQ⟩ := h
  refine ⟨_, (pss_cons (ps_asg (pe_cl CLD (hr.mono (by decide)) (pa_cons (pv 0) (pa_cons (pv 1) pa_nil))) (pg_tup rfl (pgs_cons (pg_name (i := 0) sc_wgr.nd rfl (Or.inl rfl)) (pgs_cons (pg_name (i := 1) sc_wgr.nd rfl (Or.inl rfl)) pgs_nil))))
    (pss_cons (ps_set (i := 3) sc_wgr.nd rfl (.inl rfl) (pe_ix ix_list (pe_lc (own := [("side", 2)]) (g := gName 2) rfl sc_wgr.nd (pi_tup (pv 0)) (blkOk_by (N := ["sides", "wall", "side", "first"]) (sc := defScope s__law_ground) (by decide +kernel)) (fun _ _ _ _ _ => (pg_name (i := 2) sc_wgr.nd rfl (Or.inl rfl))) (fun _ _ _ _ _ => pts_one (pt_cmpR op_ne (pv 2) pe_int (nomark _))) (fun _ _ _ _ _ => (pv 2))) pe_int (fun _ _ => rfl)))
    (pss_one (ps_ret (pe_ifExp (pt_cmpR op_gt (pv 3) pe_int (nomark _)) (pe_tup (pa_cons (pv 0) (pa_cons (pv 1) pa_nil))) (pe_tup (pa_cons (pe_callTy call_tuple_of rfl B.tup bootTup (pa_cons (pe_lc (own := [("side", 2)]) (g := gName 2) rfl sc_wgr.nd (pi_tup (pv 0)) (blkOk_by (N := ["sides", "wall", "side", "first"]) (sc := defScope s__law_ground) (by decide +kernel)) (fun _ _ _ _ _ => (pg_name (i := 2) sc_wgr.nd rfl (Or.inl rfl))) (fun _ _ _ _ _ => pts_nil) (fun _ _ _ _ _ => (pe_op op_sub pe_int (pv 2)))) pa_nil)) (pa_cons (pe_op op_sub pe_int (pv 1)) pa_nil)))))))), ?_⟩
  have qo := q16.ok nz
  have l8 : ns.length ≤ 20 := q16.2.2
  refine ⟨_, rfl, _, rfl, x, ns, wl, rfl, hx, nz, q16, fun v H1 g1 hv => ?_⟩
  obtain ⟨p, t, rfl, hp, a, rfl, ha⟩ := hv
  refine ⟨p, _, rfl, hp, rfl, _, _, rfl, _, _, rfl, rfl, ?_⟩
  have ld : (divU (ns, wl)).1.length = ns.length := by show (List.map _ ns).length = _; rw [List.length_map]
  refine ⟨_, rfl, a, rfl, ⟨_, ha⟩, fun D nD => lc_nz (ns := (divU (ns, wl)).1) nD ha (by omega) (fun z H5 Ky Nx h1 h2 => ?_) (fun H5 hD g5 => ?_)⟩
  · exact ⟨rfl, _, rfl, rfl, _, rfl, iteNZ (fun n0 => ⟨_, rfl, h1 n0⟩) h2⟩
  have lf := lead_filter (t := []) (nonZ_div (q := (ns, wl)) nz)
  rw [List.append_nil] at lf
  refine ⟨D, _, _, .int (lead (divU (ns, wl)).1), rfl, rfl, SqL.of hD, atI_nat (j := 0) (by rw [List.getElem?_map, lf]; rfl), ?_⟩
  refine ⟨_, rfl, _, _, rfl, rfl, _, rfl, ?_⟩
  have g15 := g1.trans g5
  by_cases c : 0 < lead (divU (ns, wl)).1
  · refine iteP c ⟨_, rfl, _, rfl, szN (by show 2 ≤ 1000000; decide), fun p2 np2 => ?_⟩
    refine hQ _ _ (g15.new np2 _) ?_
    have e : nfU (ns, wl) = divU (ns, wl) := if_pos c
    rw [e]
    exact ⟨p2, _, rfl, SqT.of upd_same, a, rfl, (g5.new np2 _).seqT ha⟩
  · refine iteN c ?_
    have ha5 := g5.seqT ha
    refine ⟨_, rfl, a, rfl, ⟨_, ha5⟩, fun D2 nD2 => lc_mapT (xs := (divU (ns, wl)).1.map V.int) (fun i y _ => ∃ z : Int, (divU (ns, wl)).1[i]? = some z ∧ y = .int (0 - z)) (fun _ _ _ _ h _ => h) nD2 ha5 (by rw [List.length_map]; omega) (fun i x H6 Kc hx g6 kc => ?_) (fun ys H6 hD6 hl6 g6 hR => ?_)⟩
    · rw [List.getElem?_map] at hx
      obtain ⟨z, hz, rfl⟩ := Option.map_eq_some_iff.mp hx
      exact ⟨rfl, _, rfl, _, _, rfl, rfl, kc _ _ (Gr.refl _) ⟨z, hz, rfl⟩⟩
    · have e : nfU (ns, wl) = negU (divU (ns, wl)) := if_neg c
      have ey : ys = (negU (divU (ns, wl))).1.map V.int := by
        refine ints_at (by rw [hl6, List.length_map]; show _ = (List.map _ _).length; rw [List.length_map]) fun i y hy => ?_
        obtain ⟨z, hz, rfl⟩ := hR i y hy
        refine ⟨_, ?_, rfl⟩
        show (List.map _ _)[i]? = _
        rw [List.getElem?_map, hz, Int.zero_sub]
        rfl
      subst ey
      refine ⟨D2, _, rfl, .inl ⟨SqL.of hD6, fun p1 np1 => ?_⟩⟩
      have k1 := (g15.trans g6).new np1 (.tup ((negU (divU (ns, wl))).1.map V.int))
      have cont : ∀ r : Int, r = (negU (divU (ns, wl))).2 → ∀ p2, (upd H6 p1 (.tup ((negU (divU (ns, wl))).1.map V.int))) p2 = none → Q (.ref p2) (upd (upd H6 p1 (.tup ((negU (divU (ns, wl))).1.map V.int))) p2 (.tup [.ref p1, .int r])) := fun r hr p2 np2 => by
        subst hr
        refine hQ _ _ (k1.new np2 _) ?_
        rw [e]
        exact ⟨p2, .ref p1, rfl, SqT.of upd_same, p1, rfl, ((Gr.refl _).new np2 _).seqT (SqT.of upd_same)⟩
      exact ⟨_, rfl, _, _, rfl, rfl, szN (by show 2 ≤ 1000000; decide), fun p2 np2 => cont _ (Int.zero_sub _) p2 np2⟩
end
end SB
namespace SB
open PySem L2 GxR GA RZ
theorem yunits {k : Nat} {A : Around} (r : Room k A) : A.units + 65 < cLine := by have := r.un; omega
theorem ynzf_take {ms : List (List Int × Int)} {u : Nat} {q : List Int × Int} (h : ms[u]? = some q) : (ms.take (u + 1)).filter (fun q => q.1.any fun z => decide (z ≠ 0)) = (ms.take u).filter (fun q => q.1.any fun z => decide (z ≠ 0)) ++ (if (q.1.any fun z => decide (z ≠ 0)) = true then [q] else []) := by
  rw [List.take_add_one, h, Option.toList_some, List.filter_append]
  cases e : (q.1.any fun z => decide (z ≠ 0)) with
  | true => simp only [List.filter_cons, e, if_true, List.filter_nil]
  | false =>
    simp only [List.filter_cons, e, List.filter_nil]
theorem yfilt_nz {l : List Int} : (l.filter fun z => decide (z ≠ 0)).isEmpty = true ↔ ¬ NonZ l := by
  unfold NonZ
  rw [List.isEmpty_iff, List.filter_eq_nil_iff, List.any_eq_true]
  constructor
  · rintro h ⟨z, hz, e⟩
    exact h z hz e
  · intro h z hz e
    exact h ⟨z, hz, e⟩
theorem eqvT_intsY (a b : List Int) : PyData.eqv (.tuple (a.map PyData.int)) (.tuple (b.map PyData.int)) = decide (a = b) := by
  have h := eqv_intsA a b
  simp only [PyData.eqv, h]
theorem eqv_qu (p q : List Int × Int) : PyData.eqv (quP p) (quP q) = decide (p = q) := by
  have h := eqvT_intsY p.1 q.1
  unfold quP
  simp only [PyData.eqv, PyData.eqvAll]
  simp only [PyData.eqv] at h
  rw [h]
  by_cases e1 : p.1 = q.1
  · by_cases e2 : p.2 = q.2
    · simp [e1, e2, Prod.ext_iff]
    · simp [e1, e2, Prod.ext_iff]
  · simp [e1, Prod.ext_iff]
theorem any_qu (gs : List (List Int × Int)) (z : List Int × Int) : ((gs.map quP).any fun y => PyData.eqv y (quP z)) = decide (z ∈ gs) := by
  induction gs with
  | nil => simp
  | cons g r ih =>
    rw [List.map_cons, List.any_cons, ih, eqv_qu]
    by_cases e : g = z
    · simp [e]
    · by_cases m : z ∈ r
      · simp [e, m]
      · simp [e, m, Ne.symm e]
theorem shp_qu (q : List Int × Int) : SeqAt.shaped (quP q) = true := by
  have h := lay_ints q.1
  have d := dep_ints q.1
  unfold SeqAt.shaped
  rw [Bool.and_eq_true]
  refine ⟨by simp [PyData.canLayAll0, quP, PyData.canLay0, h], decide_eq_true ?_⟩
  simp [PyData.depthAll, PyData.depth, quP, d]
theorem dp_qu {K : PySem.W.Frag} {H : Hp} {x : V} {q : List Int × Int} (h : QuV K H x q) : Dp K H x (quP q) := by
  obtain ⟨a, t, rfl, hs, b, rfl, hb⟩ := h
  exact .tup hs (.cons (.tup hb (dp_ints _)) (.cons (.int _) .nil))
/-- those with sides -/
def nzU (qs : List (List Int × Int)) : List (List Int × Int) := qs.filter fun q => q.1.any fun z => decide (z ≠ 0)
def unlikeU (qs : List (List Int × Int)) : List (List Int × Int) := keptU (nzU qs)
theorem nzU_mem {qs : List (List Int × Int)} {q : List Int × Int} (h : q ∈ nzU qs) : q ∈ qs ∧ NonZ q.1 := ⟨(List.mem_filter.mp h).1, (List.mem_filter.mp h).2⟩
theorem unlike_mem {qs : List (List Int × Int)} {q : List Int × Int} (h : q ∈ unlikeU qs) : q ∈ qs ∧ NonZ q.1 := nzU_mem (kept_sub _ _ h)
theorem unlike_len (qs : List (List Int × Int)) : (unlikeU qs).length ≤ qs.length := Nat.le_trans (kept_len _) (List.length_filter_le _ _)
section
variable {P : Program} {w : World} {K : PySem.W.Frag} {mg : Str → Option Value} {base : Heap}
def spUnl (K : PySem.W.Frag) : Sp := fun vs H Q _ => ∃ a xs qs, vs = [.ref a] ∧ SqL K H a xs ∧ Paired (QuV K H) xs qs ∧ (∀ q, q ∈ qs → Q16 q.1 q.2) ∧ qs.length ≤ 60 ∧
  ∀ F zs H', Gr H H' → H F = none → H' F = some (.lst zs) → Paired (QuV K H') zs (unlikeU qs) → Q (.ref F) H'
theorem sc_wunl : FnScope ["questions", "found", "grounds", "sides", "wall", "side"] ["questions"] (defScope s__law_unlike) := ⟨rfl, rfl, rfl, by decide +kernel, rfl, by decide +kernel, by decide +kernel⟩
theorem cl_wunl (D : Df K mg "_law_unlike" s__law_unlike) (B : Blt mg) (CG : Cl P w K mg base 2 "_law_ground" ["sides", "wall"] (spWDiv K nfU)) : Cl P w K mg base 3 "_law_unlike" ["questions"] (spUnl K) := by
  refine D.cl (fun _ _ _ _ _ _ us hl => match us, hl with | [_], _ => rfl) fun f fd F => F.ok sc_wunl (fun vs H Q E h => ?_) (fun cdv A outer s H vs Q E hr h => ?_)
  · obtain ⟨a, xs, qs, rfl, _⟩ := h
    rfl
  obtain ⟨a, xs, qs, rfl, hS, hp, hq, l60, hQ⟩ := h
  refine ⟨_, (pss_cons (ps_par (i := 1) (j := 2) rfl sc_wunl.nd rfl rfl (by decide) rfl rfl (pa_cons (pe_lst pa_nil) (pa_cons (pe_lst pa_nil) pa_nil)) rfl)
    (pss_cons (ps_for PassesOwn.never rfl (pi_list (pv 0)) (pg_tup rfl (pgs_cons (pg_name (i := 3) sc_wunl.nd rfl (Or.inl rfl)) (pgs_cons (pg_name (i := 4) sc_wunl.nd rfl (Or.inl rfl)) pgs_nil)))
      (pss_one (ps_if (pt_cmpR (op_neD hr.units) (pe_lc (own := [("side", 5)]) (g := gName 5) rfl sc_wunl.nd (pi_tup (pv 3)) (blkOk_by (N := ["questions", "found", "grounds", "sides", "wall", "side"]) (sc := defScope s__law_unlike) (by decide +kernel)) (fun _ _ _ _ _ => (pg_name (i := 5) sc_wunl.nd rfl (Or.inl rfl))) (fun _ _ _ _ _ => pts_one (pt_cmpR op_ne (pv 5) pe_int (nomark _))) (fun _ _ _ _ _ => (pv 5))) (pe_lst pa_nil) (nomark _)) (pss_one (ps_if (pt_cmpR (op_notInD (yunits hr)) (pe_cl CG (hr.mono (by decide)) (pa_cons (pv 3) (pa_cons (pv 4) pa_nil))) (pv 2) rfl) (pss_cons (ps_expr (pe_bm PySem.F.plainAttrs_list PySem.F.slot_list_append PySem.F.type_list_append mt_append (pv 2) (pa_cons (pe_cl CG (hr.mono (by decide)) (pa_cons (pv 3) (pa_cons (pv 4) pa_nil))) pa_nil)))
          (pss_one (ps_expr (pe_bm PySem.F.plainAttrs_list PySem.F.slot_list_append PySem.F.type_list_append mt_append (pv 1) (pa_cons (pe_tup (pa_cons (pv 3) (pa_cons (pv 4) pa_nil))) pa_nil))))) pss_nil)) pss_nil)))
    (pss_one (ps_ret (pv 1))))), ?_⟩
  have lx : xs.length = qs.length := paired_len hp
  refine ⟨szL0, fun F nF => ⟨szL0, fun G nG => ⟨_, _, rfl, ?_⟩⟩⟩
  have neFG : F ≠ G := fun e => by rw [← e, upd_same] at nG; cases nG
  have nG0 : H G = none := by rw [upd_ne (Ne.symm neFG)] at nG; exact nG
  have g0 : Gr H (upd (upd H F (.lst [])) G (.lst [])) := ((Gr.refl H).new nF _).new nG _
  have eF : (upd (upd H F (.lst [])) G (.lst [])) F = some (.lst []) := by rw [upd_ne neFG]; exact upd_same
  have eG : (upd (upd H F (.lst [])) G (.lst [])) G = some (.lst []) := upd_same
  let Pv : Nat → L2.St → Hp → Prop := fun i σ H1 => ∃ (zs gs : List V) (c3 c4 c5 : Option V), σ = [some (.ref a), some (.ref F), some (.ref G), c3, c4, c5] ∧ Gr H H1 ∧ H1 F = some (.lst zs) ∧ H1 G = some (.lst gs) ∧ Paired (QuV K H1) zs (unlikeU (qs.take i)) ∧ Paired (QuV K H1) gs ((unlikeU (qs.take i)).map nfU)
  refine ⟨_, rfl, a, rfl, ⟨xs, g0.seqL hS⟩, for_list (xs := xs) Pv ⟨[], [], _, _, _, rfl, g0, eF, eG, .nil, .nil⟩ (fun i σ H1 _ h => ?_) (fun i x σ H1 hx h => ?_) (fun σ H1 h => ?_)⟩
  · obtain ⟨zs, gs, c3, c4, c5, rfl, g, _⟩ := h
    exact g.seqL hS
  · obtain ⟨zs, gs, c3, c4, c5, rfl, g, hF, hG, pz, pg⟩ := h
    obtain ⟨q, eq, hn⟩ := paired_get hp hx
    have iq := (List.getElem?_eq_some_iff.mp eq).1
    have q16 := hq q (List.mem_of_getElem? eq)
    obtain ⟨p, t, rfl, ht, b, rfl, hb⟩ := hn.gr g
    have e3 : nzU (qs.take (i + 1)) = nzU (qs.take i) ++ (if (q.1.any fun z => decide (z ≠ 0)) = true then [q] else []) := ynzf_take eq
    refine ⟨p, _, rfl, ht, rfl, _, _, rfl, _, _, rfl, rfl, ?_⟩
    refine ⟨_, rfl, b, rfl, ⟨_, hb⟩, fun D nD => lc_nz (ns := q.1) nD hb (by have := q16.2.2; omega) (fun z H5 Ky Nx h1 h2 => ⟨rfl, _, rfl, rfl, _, rfl, iteNZ (fun n0 => ⟨_, rfl, h1 n0⟩) h2⟩) (fun H5 hD g5 => ?_)⟩
    refine ⟨szL0, fun N nN => ?_⟩
    have k5 := (Gr.refl H5).new nN (.lst [])
    have kall := g5.trans k5
    refine ⟨_, _, .lst (k5.seqL (SqL.of hD)) (dp_ints _), .lst (SqL.of upd_same) .nil, shp_ints _, by decide, _, rfl, ?_⟩
    rw [eqv_nil]
    have hF5 := kall.lstK hF
    have hG5 := kall.lstK hG
    have g6 := g.trans kall
    have hb6 : SiV K (upd H5 N (.lst [])) (.ref b) q.1 := ⟨b, rfl, kall.seqT hb⟩
    have pz6 : Paired (QuV K (upd H5 N (.lst []))) zs (unlikeU (qs.take i)) := Paired.mapP pz fun _ _ z => QuV.gr z kall
    have pg6 : Paired (QuV K (upd H5 N (.lst []))) gs ((unlikeU (qs.take i)).map nfU) := Paired.mapP pg fun _ _ z => QuV.gr z kall
    generalize upd H5 N (.lst []) = H6 at hF5 hG5 g6 hb6 pz6 pg6 ⊢
    by_cases nz : NonZ q.1
    · have ef : (q.1.filter fun z => decide (z ≠ 0)).isEmpty = false := by
        cases e : (q.1.filter fun z => decide (z ≠ 0)).isEmpty with
        | false => rfl
        | true => exact absurd nz (yfilt_nz.mp e)
      rw [ef]
      refine iteT ?_
      rw [if_pos (show (q.1.any fun z => decide (z ≠ 0)) = true from nz)] at e3
      have tk : unlikeU (qs.take (i + 1)) = if nfU q ∈ (unlikeU (qs.take i)).map nfU then unlikeU (qs.take i) else unlikeU (qs.take i) ++ [q] := by
        unfold unlikeU
        rw [e3, kept_snoc]
      refine ⟨_, rfl, _, rfl, .ref b, q.1, q.2, rfl, hb6, nz, q16, fun v H7 g7 hv => ?_⟩
      have hF7 := g7.lstK hF5
      have hG7 := g7.lstK hG5
      have pg7 : Paired (QuV K H7) gs ((unlikeU (qs.take i)).map nfU) := Paired.mapP pg6 fun _ _ z => QuV.gr z g7
      have pz7 : Paired (QuV K H7) zs (unlikeU (qs.take i)) := Paired.mapP pz6 fun _ _ z => QuV.gr z g7
      refine ⟨_, rfl, _, _, dp_qu hv, .lst (SqL.of hG7) (dp_qus pg7), shp_qu _, shp_qusL _, _, rfl, ?_⟩
      rw [any_qu]
      by_cases hin : nfU q ∈ (unlikeU (qs.take i)).map nfU
      · rw [if_pos hin] at tk
        rw [show (nfU (q.1, q.2)) = nfU q from rfl, decide_eq_true hin]
        exact iteF ⟨zs, gs, _, _, _, rfl, g6.trans g7, hF7, hG7, by rw [tk]; exact pz7, by rw [tk]; exact pg7⟩
      · rw [if_neg hin] at tk
        rw [show (nfU (q.1, q.2)) = nfU q from rfl, decide_eq_false hin]
        refine iteT ⟨_, rfl, .inl ⟨rfl, _, SqL.of hG7⟩, _, rfl, _, rfl, .ref b, q.1, q.2, rfl, (show SiV K H6 (.ref b) q.1 from hb6).gr g7, nz, q16, fun v2 H8 g8 hv2 => ?_⟩
        have hF8 := g8.lstK hF7
        have hG8 := g8.lstK hG7
        have lz : zs.length = (unlikeU (qs.take i)).length := paired_len pz
        have lg : gs.length = (unlikeU (qs.take i)).length := by rw [paired_len pg, List.length_map]
        have lu : (unlikeU (qs.take i)).length ≤ i := Nat.le_trans (unlike_len _) (by rw [List.length_take]; omega)
        refine ⟨G, _, _, rfl, rfl, hG8, small1000 (by omega), ?_⟩
        have t9 : Tst K H8 (upd H8 G (.lst (gs ++ [v2]))) := Tst.put hG8
        have g9 : Gr H (upd H8 G (.lst (gs ++ [v2]))) := ((((g6.trans g7).trans g8).d G).set _).to nG0
        have hF9 : (upd H8 G (.lst (gs ++ [v2]))) F = some (.lst zs) := by rw [upd_ne neFG]; exact hF8
        have hG9 : (upd H8 G (.lst (gs ++ [v2]))) G = some (.lst (gs ++ [v2])) := upd_same
        have t79 := g8.st.trans t9
        have hb9 : SqT K (upd H8 G (.lst (gs ++ [v2]))) b (q.1.map V.int) := t79 _ _ ((g7.seqT (by obtain ⟨b', e, h⟩ := hb6; cases e; exact h)))
        have pz9 : Paired (QuV K (upd H8 G (.lst (gs ++ [v2])))) zs (unlikeU (qs.take i)) := Paired.mapP pz7 fun _ _ z => QuV.st z t79
        have pg9 : Paired (QuV K (upd H8 G (.lst (gs ++ [v2])))) (gs ++ [v2]) ((unlikeU (qs.take i)).map nfU ++ [nfU q]) := paired_app (Paired.mapP pg7 fun _ _ z => QuV.st z t79) (.cons (QuV.st hv2 t9) .nil)
        generalize upd H8 G (.lst (gs ++ [v2])) = H9 at g9 hF9 hG9 hb9 pz9 pg9 ⊢
        refine ⟨_, rfl, .inl ⟨rfl, _, SqL.of hF9⟩, _, rfl, _, rfl, szN (by show 2 ≤ 1000000; decide), fun T nT => ?_⟩
        have kT := (Gr.refl H9).new nT (.tup [.ref b, .int q.2])
        have hF10 := kT.lstK hF9
        have hG10 := kT.lstK hG9
        refine ⟨F, _, _, rfl, rfl, hF10, small1000 (by omega), ?_⟩
        have t11 : Tst K (upd H9 T (.tup [.ref b, .int q.2])) (upd (upd H9 T (.tup [.ref b, .int q.2])) F (.lst (zs ++ [.ref T]))) := Tst.put hF10
        have t9b := kT.st.trans t11
        refine ⟨zs ++ [.ref T], gs ++ [v2], _, _, _, rfl, (((g9.trans kT).d F).set _).to nF, upd_same, by rw [upd_ne (Ne.symm neFG)]; exact hG10, ?_, ?_⟩
        · rw [tk]
          exact paired_app (Paired.mapP pz9 fun _ _ z => QuV.st z t9b) (.cons ⟨T, .ref b, rfl, t11 _ _ (SqT.of upd_same), b, rfl, t9b _ _ hb9⟩ .nil)
        · rw [tk, List.map_append]
          exact Paired.mapP pg9 fun _ _ z => QuV.st z t9b
    · have ef : (q.1.filter fun z => decide (z ≠ 0)).isEmpty = true := yfilt_nz.mpr nz
      rw [ef]
      rw [if_neg (show ¬ (q.1.any fun z => decide (z ≠ 0)) = true from nz), List.append_nil] at e3
      have tk : unlikeU (qs.take (i + 1)) = unlikeU (qs.take i) := by
        unfold unlikeU
        rw [e3]
      exact iteF ⟨zs, gs, _, _, _, rfl, g6, hF5, hG5, by rw [tk]; exact pz6, by rw [tk]; exact pg6⟩
  · obtain ⟨zs, gs, c3, c4, c5, rfl, g, hF, hG, pz, pg⟩ := h
    rw [lx, List.take_length] at pz
    exact ⟨_, rfl, hQ F zs H1 g nF hF pz⟩
end
end SB
namespace SB
open PySem PySem.Spec PyProof.Rows L2 GxR GA RZ
/-! ### d.get(k, x) of a written dict -/
def tKGet2 (K : PySem.W.Frag) (d : Addr) (td ty tx : TE) : TE := fun σ H Q => td σ H fun x H1 => x = .ref d ∧ ty σ H1 fun y H2 => tx σ H2 fun z H3 => ∃ (k : Str) (r : Option Value) (v : V), y = .str k ∧ PySem.W.nsIn K d k = some r ∧ (match r with | some u => RelV v u | none => v = z) ∧ Q v H3
theorem pe_kget2 {X : Cx} {o e f : Expr} {apos cpos : Pos} {td ty tx : TE} {d : Addr} {es : Array DictEntry} {n : Nat} (D : KDict X.K X.w d es n) (ho : PE X o td) (he : PE X e ty) (hf : PE X f tx) (m : M2 X o "get" apos e f cpos) : PE X (.Call (.Attribute o "get" apos) [e, f] [] cpos) (tKGet2 X.K d td ty tx) := by
  refine ⟨fun pins s σ H Q I h => ?_⟩
  refine wpAny_Call_method m.base m.few m.line PySem.F.plainAttrs_dict PySem.F.slot_dict_get PySem.F.type_dict_get (thn (ho.run pins s σ H _ I h) fun u s1 ⟨x, H1, I1, rx, ex, q1⟩ => ?_)
  subst ex
  obtain rfl : u = Value.ref d := rx
  refine ⟨kd_type D I1, fun b q => ?_, ?_⟩
  · cases q
    exact ⟨_, I1.kIn _ _ D.at_, rfl⟩
  rw [m.trees]
  refine Calls.callWith_builtin rfl (Calls.evalArgs_plain (Calls.spliced_cons (thn (he.run pins s1 σ H1 _ I1 q1) fun iv s2 ⟨y, H2, I2, ry, q2⟩ =>
    Calls.spliced_cons (thn (hf.run pins s2 σ H2 _ I2 q2) fun fv s3 ⟨z, H3, I3, rz, k, r, v, ey, en, hv, q3⟩ => Calls.spliced_nil ?_))))
  subst ey
  obtain ⟨t, rfl⟩ := ry
  have mo := PySem.W.mapOf_K (prog := X.prog) (w := X.w) I3.kIn D.at_ D.lit
  refine call_meetsIn PySem.F.slot_dict_get mo.typeIs PySem.F.entry_dict_get (PySem.F.args_dict_get_3 _ _ _) (meets_dict_get_default (strKind X.prog X.w) d (strKind_is X.prog X.w k t) D.low fv) ⟨_, mo, ?_⟩
  rw [PySem.W.find_K D.at_ en]
  refine ⟨v, H3, I3.tok _, ?_, q3⟩
  cases r with
  | some u => exact hv
  | none =>
    have hv : v = z := hv
    rw [hv]
    exact rz
end SB
namespace SB
open PySem L2 GxR GA RZ
/-! ### sayings -/
inductive Say where
  | q (a : Int) (ns : List Int) (wl : Int)
  | nt (s : Say)
  | bo (s t : Say)
  | ei (s t : Say)
def wordA (a : Int) : Str := if a = -1 then "less" else if a = 0 then "is" else "more"
def wordS : Say → Str
  | .q a _ _ => wordA a
  | .nt _ => "not"
  | .bo _ _ => "both"
  | .ei _ _ => "either"
def partsS : Say → List Say
  | .q _ _ _ => []
  | .nt s => [s]
  | .bo s t => [s, t]
  | .ei s t => [s, t]
def isQ : Say → Bool
  | .q _ _ _ => true
  | _ => false
def SayV (K : PySem.W.Frag) (H : Hp) : Say → V → Prop
  | .q a ns wl => fun x => ∃ p s, x = .ref p ∧ SqT K H p [.str (wordA a), s, .int wl] ∧ SiV K H s ns
  | .nt s => fun x => ∃ p y, x = .ref p ∧ SqT K H p [.str "not", y] ∧ SayV K H s y
  | .bo s t => fun x => ∃ p y z, x = .ref p ∧ SqT K H p [.str "both", y, z] ∧ SayV K H s y ∧ SayV K H t z
  | .ei s t => fun x => ∃ p y z, x = .ref p ∧ SqT K H p [.str "either", y, z] ∧ SayV K H s y ∧ SayV K H t z
theorem SayV.st {K : PySem.W.Frag} {H H' : Hp} (t : Tst K H H') : ∀ {s : Say} {x : V}, SayV K H s x → SayV K H' s x
  | .q a ns wl, x, h => let ⟨p, s, e, h1, h2⟩ := h; ⟨p, s, e, t _ _ h1, h2.st t⟩
  | .nt s, x, h => let ⟨p, y, e, h1, h2⟩ := h; ⟨p, y, e, t _ _ h1, SayV.st t h2⟩
  | .bo s u, x, h => let ⟨p, y, z, e, h1, h2, h3⟩ := h; ⟨p, y, z, e, t _ _ h1, SayV.st t h2, SayV.st t h3⟩
  | .ei s u, x, h => let ⟨p, y, z, e, h1, h2, h3⟩ := h; ⟨p, y, z, e, t _ _ h1, SayV.st t h2, SayV.st t h3⟩
theorem SayV.gr {K : PySem.W.Frag} {H H' : Hp} (g : Gr H H') {s : Say} {x : V} (h : SayV K H s x) : SayV K H' s x := SayV.st g.st h
theorem SayV.parts {K : PySem.W.Frag} {H : Hp} : ∀ {s : Say} {x : V}, SayV K H s x → isQ s = false → ∃ p ys, x = .ref p ∧ SqT K H p (.str (wordS s) :: ys) ∧ Paired (fun y t => SayV K H t y) ys (partsS s)
  | .q _ _ _, _, _, e => by cases e
  | .nt s, x, h, _ => let ⟨p, y, e, h1, h2⟩ := h; ⟨p, [y], e, h1, .cons h2 .nil⟩
  | .bo s u, x, h, _ => let ⟨p, y, z, e, h1, h2, h3⟩ := h; ⟨p, [y, z], e, h1, .cons h2 (.cons h3 .nil)⟩
  | .ei s u, x, h, _ => let ⟨p, y, z, e, h1, h2, h3⟩ := h; ⟨p, [y, z], e, h1, .cons h2 (.cons h3 .nil)⟩
def SayB (N d : Nat) : Say → Prop
  | .q a ns wl => -1 ≤ a ∧ a ≤ 1 ∧ ns.length = d ∧ (∀ z, z ∈ ns → z.natAbs < N) ∧ wl.natAbs < N
  | .nt s => SayB N d s
  | .bo s t => SayB N d s ∧ SayB N d t
  | .ei s t => SayB N d s ∧ SayB N d t
abbrev SayOk (d : Nat) : Say → Prop := SayB (2 ^ 4) d
def depS : Say → Nat
  | .q _ _ _ => 1
  | .nt s => depS s + 1
  | .bo s t => max (depS s) (depS t) + 1
  | .ei s t => max (depS s) (depS t) + 1
/-- how many words stand in a saying -/
def szS : Say → Nat
  | .q _ _ _ => 1
  | .nt s => szS s + 1
  | .bo s t => szS s + szS t + 1
  | .ei s t => szS s + szS t + 1
def askU : Say → List (List Int × Int)
  | .q _ ns wl => [(ns, wl)]
  | .nt s => askU s
  | .bo s t => askU s ++ askU t
  | .ei s t => askU s ++ askU t
def holdU (us : List (Int × Int)) : Say → Bool
  | .q a ns wl => decide (ansU (ns, wl) us = a)
  | .nt s => !holdU us s
  | .bo s t => holdU us s && holdU us t
  | .ei s t => holdU us s || holdU us t
theorem askU_parts : ∀ {s : Say}, isQ s = false → askU s = (partsS s).flatMap askU
  | .q _ _ _, e => by cases e
  | .nt s, _ => by simp [askU, partsS]
  | .bo s t, _ => by simp [askU, partsS]
  | .ei s t, _ => by simp [askU, partsS]
theorem part_dep : ∀ {s t : Say}, t ∈ partsS s → depS t < depS s
  | .q _ _ _, t, h => by cases h
  | .nt s, t, h => by
    rw [List.mem_singleton.mp h]
    exact Nat.lt_succ_self _
  | .bo s u, t, h => by
    simp only [partsS, List.mem_cons, List.not_mem_nil, or_false] at h
    show depS t < max (depS s) (depS u) + 1
    rcases h with rfl | rfl <;> omega
  | .ei s u, t, h => by
    simp only [partsS, List.mem_cons, List.not_mem_nil, or_false] at h
    show depS t < max (depS s) (depS u) + 1
    rcases h with rfl | rfl <;> omega
theorem part_ok {N d : Nat} : ∀ {s t : Say}, SayB N d s → t ∈ partsS s → SayB N d t
  | .q _ _ _, t, _, h => by cases h
  | .nt s, t, k, h => by
    rw [List.mem_singleton.mp h]
    exact k
  | .bo s u, t, k, h => by
    simp only [partsS, List.mem_cons, List.not_mem_nil, or_false] at h
    rcases h with rfl | rfl
    · exact k.1
    · exact k.2
  | .ei s u, t, k, h => by
    simp only [partsS, List.mem_cons, List.not_mem_nil, or_false] at h
    rcases h with rfl | rfl
    · exact k.1
    · exact k.2
theorem part_len {s t : Say} (h : t ∈ partsS s) : (askU t).length ≤ (askU s).length := by
  cases s with
  | q => cases h
  | nt s =>
    rw [List.mem_singleton.mp h]
    exact Nat.le_refl _
  | bo s u =>
    simp only [partsS, List.mem_cons, List.not_mem_nil, or_false] at h
    simp only [askU, List.length_append]
    rcases h with rfl | rfl <;> omega
  | ei s u =>
    simp only [partsS, List.mem_cons, List.not_mem_nil, or_false] at h
    simp only [askU, List.length_append]
    rcases h with rfl | rfl <;> omega
theorem dep_pos : ∀ s : Say, 1 ≤ depS s
  | .q _ _ _ => Nat.le_refl _
  | .nt s => Nat.succ_le_succ (Nat.zero_le _)
  | .bo s t => Nat.succ_le_succ (Nat.zero_le _)
  | .ei s t => Nat.succ_le_succ (Nat.zero_le _)
theorem ask_ok {N d : Nat} : ∀ {s : Say}, SayB N d s → ∀ q, q ∈ askU s → q.1.length = d ∧ (∀ z, z ∈ q.1 → z.natAbs < N) ∧ q.2.natAbs < N
  | .q a ns wl, h, q, hq => by
    rw [List.mem_singleton.mp hq]
    exact ⟨h.2.2.1, h.2.2.2.1, h.2.2.2.2⟩
  | .nt s, h, q, hq => ask_ok (s := s) h q hq
  | .bo s t, h, q, hq => (List.mem_append.mp hq).elim (ask_ok (s := s) h.1 q) (ask_ok (s := t) h.2 q)
  | .ei s t, h, q, hq => (List.mem_append.mp hq).elim (ask_ok (s := s) h.1 q) (ask_ok (s := t) h.2 q)
theorem wordA_ne (a : Int) : wordA a ≠ ("not" : Str) ∧ wordA a ≠ ("both" : Str) ∧ wordA a ≠ ("either" : Str) := by
  unfold wordA
  split
  · decide
  · split <;> decide
theorem str_ne {a b : Str} (h : a ≠ b) : ¬ V.str a = V.str b := fun e => h (by injection e)
theorem in_word (s : Say) : inV (.str (wordS s)) [.str "less", .str "is", .str "more"] = isQ s := by
  cases s with
  | q a ns wl =>
    show inV (.str (wordA a)) _ = true
    unfold wordA
    split
    · decide +kernel
    · split <;> decide +kernel
  | nt s => exact (by decide +kernel : inV (.str ("not" : Str)) [.str "less", .str "is", .str "more"] = false)
  | bo s t => exact (by decide +kernel : inV (.str ("both" : Str)) [.str "less", .str "is", .str "more"] = false)
  | ei s t => exact (by decide +kernel : inV (.str ("either" : Str)) [.str "less", .str "is", .str "more"] = false)
theorem cut_tail (x : V) (ys : List V) : cutV (x :: ys) (some 1) none = ys := by
  have := cut_from (x :: ys) 1 (by rw [List.length_cons]; omega)
  exact this
theorem yrsl {K : PySem.W.Frag} {H : Hp} {a : Addr} {xs : List V} {lo hi : Option Int} {Kc : VK} (ha : SqT K H a xs) (cont : ∀ c H', Gr H H' → SqT K H' c (cutV xs lo hi) → Kc (.ref c) H') : L2.rSlA K (.ref a) lo hi H Kc :=
  ⟨a, xs, rfl, ha, fun e => cont a H (Gr.refl H) (by
    have : cutV xs lo hi = xs := by
      unfold cutV
      rw [e.1, e.2]
      simp
    rw [this]
    exact ha), fun _ p np => cont p _ ((Gr.refl H).new np _) (SqT.of upd_same)⟩
theorem yrslF {K : PySem.W.Frag} {σ : L2.St} {H : Hp} {a : Addr} {xs : List V} {lo : Option Int} {Kc : VK} (ha : SqT K H a xs) (cont : ∀ c H', Gr H H' → SqT K H' c (cutV xs lo none) → Kc (.ref c) H') : L2.tNoPart σ H (fun u H3 => L2.rSlA K (.ref a) lo u H3 Kc) := yrsl (lo := lo) (hi := none) ha cont
/-- the script, apart from what changes -/
def LsV (K : PySem.W.Frag) (N : Addr → Prop) (H : Hp) (l : Addr) (xs : List V) : Prop := ((H l = some (.lst xs) ∨ ∃ o, H l = some (.frz o (.lst xs))) ∧ N l) ∨ ∀ H', SqL K H' l xs
theorem LsV.of {K : PySem.W.Frag} {H : Hp} {l p : Addr} {xs : List V} (h : SqL K H l xs) (n : H p = none) : LsV K (fun b => b ≠ p) H l xs := by
  rcases h with (h | ⟨o, h⟩) | h
  · exact .inl ⟨.inl h, ne_of_none h n⟩
  · exact .inl ⟨.inr ⟨o, h⟩, ne_of_none h n⟩
  · exact .inr fun H' => .inr h
theorem LsV.sq {K : PySem.W.Frag} {N : Addr → Prop} {H : Hp} {l : Addr} {xs : List V} (h : LsV K N H l xs) : SqL K H l xs := by
  rcases h with ⟨h | h, _⟩ | h
  · exact .inl (.inl h)
  · exact .inl (.inr h)
  · exact h H
theorem LsV.grd {K : PySem.W.Frag} {N : Addr → Prop} {e : Addr} {H H' : Hp} {l : Addr} {xs : List V} (h : LsV K N H l xs) (g : GrD e H H') (n : ∀ b, N b → b ≠ e) : LsV K N H' l xs := by
  rcases h with ⟨h | ⟨o, h⟩, c⟩ | h
  · exact .inl ⟨.inl (g.keep l _ (n _ c) (fun _ z => nomatch z) h), c⟩
  · exact .inl ⟨.inr ⟨o, g.keep l _ (n _ c) (fun _ z => nomatch z) h⟩, c⟩
  · exact .inr h
theorem LsV.gr {K : PySem.W.Frag} {N : Addr → Prop} {H H' : Hp} {l : Addr} {xs : List V} (h : LsV K N H l xs) (g : Gr H H') : LsV K N H' l xs := by
  rcases h with ⟨h | ⟨o, h⟩, c⟩ | h
  · exact .inl ⟨.inl (g.lstK h), c⟩
  · exact .inl ⟨.inr ⟨o, g.keep l _ (fun _ z => nomatch z) h⟩, c⟩
  · exact .inr h
theorem LsV.avoid {K : PySem.W.Frag} {N : Addr → Prop} {H : Hp} {l p : Addr} {xs : List V} (h : LsV K N H l xs) (n : H p = none) : LsV K (fun b => N b ∧ b ≠ p) H l xs := by
  rcases h with ⟨h | ⟨o, h⟩, c⟩ | h
  · exact .inl ⟨.inl h, c, ne_of_none h n⟩
  · exact .inl ⟨.inr ⟨o, h⟩, c, ne_of_none h n⟩
  · exact .inr h
theorem LsV.less {K : PySem.W.Frag} {N M : Addr → Prop} {H : Hp} {l : Addr} {xs : List V} (h : LsV K N H l xs) (n : ∀ b, N b → M b) : LsV K M H l xs := by
  rcases h with ⟨h, c⟩ | h
  · exact .inl ⟨h, n _ c⟩
  · exact .inr h
theorem Tb5.lgr {T : Nat → Addr} {d : Addr} {H H' : Hp} {ys : List V} (t : Tb5 T H) (hd : H d = some (.lst ys)) (g : GrD d H H') : Tb5 T H' := ⟨fun i h => by
  obtain ⟨ps, e, r⟩ := id (t.t i h)
  exact g.tab _ (ne_of e hd (fun z => nomatch z)) (t.t i h)⟩
end SB
namespace SB
open PySem L2 GxR GA RZ TL
/-! ### {k: v, ..}[e], None may be a key -/
def nkV : Option Key → V
  | none => .non
  | some k => kV k
theorem nkV_is {P : Program} {w : World} {k : Option Key} {u : Value} (r : RelV (nkV k) u) : (noneKind P w).is k u = true := by
  cases k with
  | none =>
    obtain rfl : u = Value.none := r
    rfl
  | some k => exact kV_is (P := P) (w := w) r
def mergeN (kvs more : List (Option Key × V)) : List (Option Key × V) := more.foldl (fun acc kv => putK acc kv.1 kv.2) kvs
theorem KVN.merge : ∀ {more : List (Option Key × V)} {rs : List (Option Key × Value)} {kvs : List (Option Key × V)} {vs : List (Option Key × Value)}, KV more rs → KV kvs vs → KV (mergeN kvs more) (merged vs rs) := by
  intro more rs kvs vs r
  unfold KV at r
  induction r generalizing kvs vs with
  | nil => intro q; exact q
  | @cons p q ps qs h t ih =>
    intro r0
    have e : KV (putK kvs p.1 p.2) (stored vs q.1 q.2) := by
      have := r0.put p.1 h.2
      rw [← h.1]; exact this
    exact ih e
theorem carriesN_of {P : Program} {w : World} : ∀ {kvs : List (Option Key × V)} {ws : List (Value × Value)}, VV (kvs.map fun kv => (nkV kv.1, kv.2)) ws → ∃ rs, Carries (noneKind P w) ws rs ∧ KV kvs rs
  | [], _, r => by rw [List.map_nil] at r; cases r; exact ⟨[], True.intro, .nil⟩
  | p :: kvs, _, r => by
    rw [List.map_cons] at r
    cases r with
    | @cons a b as bs h t =>
      obtain ⟨rs, c, q⟩ := carriesN_of (P := P) (w := w) t
      obtain ⟨b1, b2⟩ := b
      exact ⟨(p.1, b2) :: rs, ⟨nkV_is h.1, rfl, c⟩, .cons ⟨rfl, h.2⟩ q⟩
def tSigns (trs : List (TE × TE)) (ti : TE) : TE := fun σ H Q => tPairs trs σ H fun ps H1 => ∃ kvs : List (Option Key × V), ps = kvs.map (fun kv => (nkV kv.1, kv.2)) ∧
  ti σ H1 fun y H2 => ∃ k v, y = nkV k ∧ valV (mergeN [] kvs) k = some v ∧ Q v H2
theorem pe_signs {X : Cx} {pos dpos : Pos} {keys : List (Option Expr)} {values : List Expr} {i : Expr} {trs : List (TE × TE)} {ti : TE} (h : PPs X dpos keys values trs) (hi : PE X i ti) (hall : keys.all (·.isSome) = true) (hl : keys.length = values.length) (h0 : keys ≠ [])
    (h15 : keys.length ≤ 15) (hs : NoSl i) : PE X (.Subscript (.Dict keys values dpos) i pos) (tSigns trs ti) := by
  refine ⟨fun pins s σ H Q I q => ?_⟩
  refine subD_of PySem.F.slot_dict_getitem.lookup hs (PySem.wpAny_Dict_walk (knd := noneKind X.prog X.w) hall hl h0 h15 ?_)
  have hn : H s.heap.objs.size = none := I.fresh
  have f0 := I.fpOk (Nat.le_refl s.heap.objs.size) hn
  have I0 : Inv X pins σ H { s with heap := s.heap.push { cls := .type "dict", data := .dict #[] } } := I.kept (t' := s.toks) (fun _ _ q => Heap.get?_push_of_some _ q)
  have g0 : (s.heap.push { cls := .type "dict", data := .dict #[] }).get? s.heap.objs.size = some { cls := .type "dict", data := .dict #[] } := Heap.get?_push_size _ rfl
  have I1 := I0.pinned (fp := [s.heap.objs.size]) (fun b hb => by rw [List.mem_singleton.mp hb]; exact f0) (fun b hb => by rw [List.mem_singleton.mp hb]; exact ⟨_, g0, fun v z => nomatch z⟩)
  refine thn (h.run _ _ σ H _ I1 q) fun ws s1 ⟨ps, H1, I2, rel, kvs, ep, q1⟩ => ?_
  subst ep
  obtain ⟨rs, c, rk⟩ := carriesN_of (P := X.prog) (w := X.w) rel
  have p2 := I2.pin (s.heap.objs.size, { cls := .type "dict", data := .dict #[] }) (List.mem_append_right _ (List.mem_append_right _ (mem_pinsAt (by simp) g0)))
  have I3 := I2.unpinned
  refine ⟨rs, c, ⟨_, #[], _, p2.1, ?_, rfl, ?_, .nil, List.nodup_nil⟩, fun h' dd' hsb => ?_⟩
  · exact ⟨rfl, rfl, rfl⟩
  · intro e he
    simp at he
  have f1 : FpOk X pins H1 s.heap.objs.size := ⟨p2.2.1, f0.2⟩
  have I4 : Inv X pins σ H1 { s1 with heap := h', toks := s1.toks + ws.length } := I3.turned (fun b o hb e => by rw [hsb.2 b hb]; exact e) f1.1 f1.2.1 f1.2.2.2.1 f1.2.2.2.2.1 f1.2.2.2.2.2
  obtain ⟨o, es, ep, ho, hx, hdt, hk, hp, hnd⟩ := dd'
  have I5 := I4.pinned (fp := [s.heap.objs.size]) (fun b hb => by rw [List.mem_singleton.mp hb]; exact f1) (fun b hb => by rw [List.mem_singleton.mp hb]; exact ⟨o, ho, fun v z => by rw [hdt] at z; exact nomatch z⟩)
  refine thn (hi.run _ _ σ H1 _ I5 q1) fun iv s2 ⟨y, H2, I6, ry, k, v, ey, hv, q2⟩ => ?_
  subst ey
  have p6 := I6.pin (s.heap.objs.size, o) (List.mem_append_right _ (List.mem_append_right _ (mem_pinsAt (by simp) ho)))
  have dd2 : s2.heap.DictOf (noneKind X.prog X.w) s.heap.objs.size (merged [] rs) := ⟨o, es, ep, p6.1, hx, hdt, hk, hp, hnd⟩
  have kv := KVN.merge rk (kvs := []) (vs := []) .nil
  obtain ⟨w', hw, rw'⟩ := RelO.some_of (v := v) (o := valueAt (merged [] rs) k) (by rw [← hv]; exact kv.val k)
  exact ⟨dd2.typeIs, PySem.wpAny_getItem_of (nkV_is ry) dd2.mapOf hw ⟨v, H2, (I6.unpinned).tok _, rw', q2⟩⟩
theorem ten_lt {k : Nat} (h : k ≤ 300) : (10 : Nat) ^ k < 2 ^ 1201 := by
  have h1 : (10 : Nat) ^ k ≤ 16 ^ k := Nat.pow_le_pow_left (by decide) k
  have h2 : (16 : Nat) ^ k = 2 ^ (4 * k) := by rw [Nat.pow_mul]
  have h3 : (2 : Nat) ^ (4 * k) ≤ 2 ^ 1200 := Nat.pow_le_pow_right (by decide) (by omega)
  exact Nat.lt_of_le_of_lt (Nat.le_trans h1 (by rw [h2]; exact h3)) (Nat.pow_lt_pow_right (by decide) (by decide))
theorem dg_big {z : Int} {k : Nat} (h : z.natAbs < 10 ^ k) (k3 : k ≤ 300) : z.natAbs < 2 ^ 1201 := Nat.lt_trans h (ten_lt k3)
/-! ### texts -/
def iT (n : Int) : Str := Str.ofString (toString n)
theorem emp_app (x : Str) : Str.empty ++ x = x := ext_tl (by rw [tl_append]; rfl)
theorem len_app (x y : Str) : (x ++ y).length = x.length + y.length := by rw [len_tl, len_tl, len_tl, tl_append, List.length_append]
theorem joinL_len (S : List Nat) : ∀ L : List (List Nat), (joinL S L).length ≤ (L.map List.length).sum + L.length * S.length
  | [] => Nat.zero_le _
  | [p] => by
    show p.length ≤ p.length + 0 + 1 * S.length
    omega
  | p :: q :: r => by
    have h := joinL_len S (q :: r)
    have e : (joinL S (p :: q :: r)).length = p.length + (S.length + (joinL S (q :: r)).length) := by
      show (p ++ (S ++ joinL S (q :: r))).length = _
      rw [List.length_append, List.length_append]
    rw [e, List.map_cons, List.sum_cons, List.length_cons, Nat.add_mul]
    omega
theorem sum_le {b : Nat} : ∀ {ys : List Str}, (∀ y, y ∈ ys → y.length ≤ b) → (ys.map (·.length)).sum ≤ ys.length * b
  | [], _ => Nat.zero_le _
  | y :: r, h => by
    have h1 := h y List.mem_cons_self
    have h2 := sum_le (ys := r) fun z hz => h z (List.mem_cons_of_mem _ hz)
    rw [List.map_cons, List.sum_cons, List.length_cons, Nat.add_mul]
    omega
theorem join_sum {a : Str} {ys : List Str} {b : Nat} (h : ∀ y, y ∈ ys → y.length ≤ b) : (ys.map (·.length)).sum + ys.length * a.length ≤ ys.length * (b + a.length) := by
  have := sum_le h
  rw [Nat.mul_add]
  omega
theorem join_len0 (a : Str) (ys : List Str) : (Txt.join a ys).length ≤ (ys.map (·.length)).sum + ys.length * a.length := by
  have h := joinL_len (tl a) (ys.map tl)
  rw [join_eq, len_tl, tl_join]
  have e : ((ys.map tl).map List.length) = ys.map (·.length) := by
    rw [List.map_map]
    exact List.map_congr_left fun y _ => (len_tl y).symm
  rw [e, List.length_map, ← len_tl] at h
  exact h
theorem join_len {a : Str} {ys : List Str} {b : Nat} (h : ∀ y, y ∈ ys → y.length ≤ b) : (Txt.join a ys).length ≤ ys.length * (b + a.length) := Nat.le_trans (join_len0 a ys) (join_sum h)
theorem iT_len {z : Int} {k : Nat} (hk : 1 ≤ k) (h : z.natAbs < 10 ^ k) : (iT z).length ≤ k + 1 := by
  unfold iT
  rw [ofString_length]
  exact int_text_length_le10 hk h
theorem iT_log {z : Int} {k : Nat} (h : z.natAbs < 10 ^ k) (k3 : k ≤ 300) : z.natAbs.log2 < 1920 := Nat.lt_of_lt_of_le (PySem.Flt.log2_lt_of (by decide) (dg_big h k3)) (by decide)
def numT (r : Int × Int) : Str := if r.2 = 1 then iT r.1 else iT r.1 ++ "/" ++ iT r.2
def sidesT (ns : List Int) : Str := Txt.join " " (ns.map iT)
def quT (q : List Int × Int) : Str := sidesT q.1 ++ " : " ++ iT q.2
def bookT (d : Int) (qs : List (List Int × Int)) : Str := Txt.join "\n" (("book " ++ iT d) :: qs.map quT)
def pointT (rs : List (Int × Int)) : Str := Txt.join " " (rs.map numT)
def sgnT : Option Int → Str
  | none => "?"
  | some a => if a = -1 then ("-" : Str) else if a = 0 then ("0" : Str) else ("+" : Str)
def wishT (hs : List (Option Int)) : Str := if hs = [] then "." else Txt.join "" (hs.map sgnT)
def sayT : Say → Str
  | .q a ns wl => "(" ++ wordA a ++ " [" ++ sidesT ns ++ "] " ++ iT wl ++ ")"
  | .nt s => "(" ++ Txt.join " " (("not" : Str) :: [sayT s]) ++ ")"
  | .bo s t => "(" ++ Txt.join " " (("both" : Str) :: [sayT s, sayT t]) ++ ")"
  | .ei s t => "(" ++ Txt.join " " (("either" : Str) :: [sayT s, sayT t]) ++ ")"
def HopeOk (h : Option Int) : Prop := h = none ∨ h = some (-1) ∨ h = some 0 ∨ h = some 1
theorem numT_len {r : Int × Int} {k : Nat} (hk : 1 ≤ k) (h1 : r.1.natAbs < 10 ^ k) (h2 : r.2.natAbs < 10 ^ k) : (numT r).length ≤ 2 * k + 3 := by
  have a := iT_len hk h1
  have b := iT_len hk h2
  unfold numT
  split
  · omega
  · rw [len_app, len_app]
    have : ("/" : Str).length = 1 := rfl
    omega
theorem sidesT_len {ns : List Int} {k : Nat} (hk : 1 ≤ k) (h : ∀ z, z ∈ ns → z.natAbs < 10 ^ k) : (sidesT ns).length ≤ ns.length * (k + 1 + 1) := by
  have := join_len (a := " ") (ys := ns.map iT) (b := k + 1) fun y hy => by
    obtain ⟨z, hz, rfl⟩ := List.mem_map.mp hy
    exact iT_len hk (h z hz)
  rw [List.length_map] at this
  exact this
theorem quT_len {q : List Int × Int} {k : Nat} (hk : 1 ≤ k) (h : ∀ z, z ∈ q.1 → z.natAbs < 10 ^ k) (hw : q.2.natAbs < 10 ^ k) : (quT q).length ≤ q.1.length * (k + 1 + 1) + k + 4 := by
  have a := sidesT_len hk h
  have b := iT_len hk hw
  unfold quT
  rw [len_app, len_app]
  have : (" : " : Str).length = 3 := rfl
  omega
theorem sgnT_len (h : Option Int) : (sgnT h).length = 1 := by
  cases h with
  | none => rfl
  | some a =>
    rw [show sgnT (some a) = if a = -1 then ("-" : Str) else if a = 0 then ("0" : Str) else ("+" : Str) from rfl]
    split
    · decide +kernel
    · split <;> decide +kernel
theorem wordA_len (a : Int) : (wordA a).length ≤ 4 := by
  unfold wordA
  split
  · decide
  · split <;> decide
theorem sz_pos : ∀ s : Say, 1 ≤ szS s
  | .q _ _ _ => Nat.le_refl _
  | .nt s => Nat.succ_le_succ (Nat.zero_le _)
  | .bo s t => Nat.succ_le_succ (Nat.zero_le _)
  | .ei s t => Nat.succ_le_succ (Nat.zero_le _)
theorem sayT_len {k d : Nat} (hk : 1 ≤ k) (k6 : k ≤ 60) (d12 : d ≤ 12) : ∀ {s : Say}, SayB (10 ^ k) d s → (sayT s).length ≤ 1000 * szS s
  | .q a ns wl, h => by
    obtain ⟨_, _, l, z, w⟩ := h
    have x1 := sidesT_len hk z
    have x2 := iT_len hk w
    have x3 := wordA_len a
    have x4 : ns.length * (k + 1 + 1) ≤ 12 * 62 := Nat.mul_le_mul (by omega) (by omega)
    have e1 : ("(" : Str).length = 1 := rfl
    have e2 : (" [" : Str).length = 2 := rfl
    have e3 : ("] " : Str).length = 2 := rfl
    have e4 : (")" : Str).length = 1 := rfl
    simp only [sayT, szS, len_app]
    omega
  | .nt s, h => by
    have x := sayT_len hk k6 d12 (s := s) h
    have j := join_len0 " " (("not" : Str) :: [sayT s])
    have e : ((("not" : Str) :: [sayT s]).map (·.length)).sum = 3 + ((sayT s).length + 0) := rfl
    have e0 : (("not" : Str) :: [sayT s]).length * (" " : Str).length = 2 := rfl
    have e1 : ("(" : Str).length = 1 := rfl
    have e4 : (")" : Str).length = 1 := rfl
    rw [e, e0] at j
    simp only [sayT, szS, len_app]
    omega
  | .bo s t, h => by
    have x := sayT_len hk k6 d12 (s := s) h.1
    have y := sayT_len hk k6 d12 (s := t) h.2
    have j := join_len0 " " (("both" : Str) :: [sayT s, sayT t])
    have e : ((("both" : Str) :: [sayT s, sayT t]).map (·.length)).sum = 4 + ((sayT s).length + ((sayT t).length + 0)) := rfl
    have e0 : (("both" : Str) :: [sayT s, sayT t]).length * (" " : Str).length = 3 := rfl
    have e1 : ("(" : Str).length = 1 := rfl
    have e4 : (")" : Str).length = 1 := rfl
    rw [e, e0] at j
    simp only [sayT, szS, len_app]
    omega
  | .ei s t, h => by
    have x := sayT_len hk k6 d12 (s := s) h.1
    have y := sayT_len hk k6 d12 (s := t) h.2
    have j := join_len0 " " (("either" : Str) :: [sayT s, sayT t])
    have e : ((("either" : Str) :: [sayT s, sayT t]).map (·.length)).sum = 6 + ((sayT s).length + ((sayT t).length + 0)) := rfl
    have e0 : (("either" : Str) :: [sayT s, sayT t]).length * (" " : Str).length = 3 := rfl
    have e1 : ("(" : Str).length = 1 := rfl
    have e4 : (")" : Str).length = 1 := rfl
    rw [e, e0] at j
    simp only [sayT, szS, len_app]
    omega
theorem sayT_parts : ∀ {s : Say}, isQ s = false → sayT s = "(" ++ Txt.join " " (wordS s :: (partsS s).map sayT) ++ ")"
  | .q _ _ _, e => by cases e
  | .nt s, _ => rfl
  | .bo s t, _ => rfl
  | .ei s t, _ => rfl
theorem sayT_q (a : Int) (ns : List Int) (wl : Int) : sayT (.q a ns wl) = "(" ++ Txt.join " " (wordA a :: [Str.empty ++ "[" ++ sidesT ns ++ "]", iT wl]) ++ ")" := by
  refine ext_tl ?_
  show tl ("(" ++ wordA a ++ " [" ++ sidesT ns ++ "] " ++ iT wl ++ ")") = tl ("(" ++ Txt.join " " (wordA a :: [Str.empty ++ "[" ++ sidesT ns ++ "]", iT wl]) ++ ")")
  rw [join_eq]
  simp only [tl_append, tl_join, List.map_cons, List.map_nil, List.cons_append, List.nil_append, joinL]
  have e1 : tl (" [" : Str) = [32, 91] := by decide +kernel
  have e2 : tl ("] " : Str) = [93, 32] := by decide +kernel
  have e3 : tl (" " : Str) = [32] := by decide +kernel
  have e4 : tl ("[" : Str) = [91] := by decide +kernel
  have e5 : tl ("]" : Str) = [93] := by decide +kernel
  have e6 : tl Str.empty = [] := rfl
  rw [e1, e2, e3, e4, e5, e6]
  simp
/-- a list of texts -/
theorem lc_txts {K : PySem.W.Frag} {a : Addr} {xs : List V} {g : TG} {te : TE} {vs : List Nat} {σ : L2.St} {H1 : Hp} {D : Addr} {Qd : Hp → Prop} (zs : List Str) (hl : zs.length = xs.length) (nD : H1 D = none) (hs : SqT K H1 a xs) (hz : xs.length ≤ 1000)
    (step : ∀ (i : Nat) (x : V) (z : Str) (H : Hp) (Kc : VK), xs[i]? = some x → zs[i]? = some z → Gr H1 H → (∀ H4, Gr H H4 → Kc (.str z) H4) → g x (wipe σ vs) H fun σ2 H2 => wipe σ2 vs = wipe σ vs ∧ te σ2 H2 Kc)
    (fin : ∀ H, H D = some (.lst (zs.map V.str)) → Gr H1 H → Qd H) :
    ∃ W : Nat → Nat → Hp → Prop, (∃ m, W 0 m (upd H1 D (.lst []))) ∧ ∀ i m H, W i m H →
      ((Itt K a).stop i H ∧ Qd H) ∨ ((Itt K a).go i H ∧ ∃ Nx : Hp → Prop, (∀ H', Nx H' → ∃ m', m' < m ∧ W (i + 1) m' H') ∧ ∀ x H', (Itt K a).yld i H x H' → g x (wipe σ vs) H' fun σ2 H2 => wipe σ2 vs = wipe σ vs ∧ tYes σ2 H2 fun b H3 =>
        if b = true then te σ2 H3 fun y H4 => ∃ acc, H4 D = some (.lst acc) ∧ acc.length < sizeLine ∧ Nx (upd H4 D (.lst (acc ++ [y]))) else Nx H3) := by
  refine lc_mapT (fun i y _ => ∃ z, zs[i]? = some z ∧ y = .str z) (fun _ _ _ _ h _ => h) nD hs hz (fun i x H Kc hx g1 kc => ?_) (fun ys H hD hy g1 hR => ?_)
  · have hi : i < zs.length := by
      have := (List.getElem?_eq_some_iff.mp hx).1
      omega
    have ez := List.getElem?_eq_getElem hi
    exact step i x _ H Kc hx ez g1 fun H4 g4 => kc _ H4 g4 ⟨_, ez, rfl⟩
  · have e : ys = zs.map V.str := by
      refine List.ext_getElem? fun i => ?_
      by_cases hi : i < ys.length
      · obtain ⟨z, e1, e2⟩ := hR i ys[i] (List.getElem?_eq_getElem hi)
        rw [List.getElem?_eq_getElem hi, List.getElem?_map, e1, e2]
        rfl
      · rw [List.getElem?_eq_none (by omega), List.getElem?_eq_none (by rw [List.length_map]; omega)]
    rw [e] at hD
    exact fin H hD g1
end SB
namespace SB
open PySem L2 GxR GA RZ RP
theorem ten_abs (k : Nat) : ((10 : Int) ^ k).natAbs = 10 ^ k := by rw [Int.natAbs_pow]; rfl
theorem ten_cast (k : Nat) : ((10 : Int) ^ k) = (((10 : Nat) ^ k : Nat) : Int) := by rw [Int.natCast_pow]; rfl
theorem znonZ_orY (zs : List Int) : NonZ zs ∨ zs = List.replicate zs.length 0 := by
  induction zs with
  | nil => exact .inr rfl
  | cons z r ih =>
    by_cases h : z = 0
    · rcases ih with k | k
      · exact .inl (by unfold NonZ; rw [List.any_cons, Bool.or_eq_true]; exact .inr k)
      · refine .inr ?_
        rw [List.length_cons, List.replicate_succ, ← k, h]
    · exact .inl (nonZ_of List.mem_cons_self h)
theorem ints_lt {b : Nat} : ∀ {l : List V}, (∀ (i : Nat) (y : V), l[i]? = some y → ∃ z : Int, y = .int z ∧ z.natAbs < b) → ∃ zs : List Int, l = zs.map V.int ∧ ∀ z, z ∈ zs → z.natAbs < b
  | [], _ => ⟨[], rfl, fun z h => by simp at h⟩
  | y :: r, f => by
    obtain ⟨z, e, hz⟩ := f 0 y rfl
    obtain ⟨zs, e2, h2⟩ := ints_lt (l := r) fun i y h => f (i + 1) y (by simpa using h)
    refine ⟨z :: zs, by rw [e, e2, List.map_cons], fun x hx => ?_⟩
    rcases List.mem_cons.mp hx with rfl | hx
    · exact hz
    · exact h2 x hx
section
variable {P : Program} {w : World} {K : PySem.W.Frag} {mg : Str → Option Value} {base : Heap}
def spPow10 : Sp := fun vs H Q _ => ∃ k : Nat, vs = [.int (k : Int)] ∧ k ≤ 300 ∧ Q (.int ((10 : Int) ^ k)) H
theorem sc_power : FnScope ["many", "found", "turn"] ["many"] (defScope s__law_power) := ⟨rfl, rfl, rfl, by decide +kernel, rfl, by decide +kernel, by decide +kernel⟩
theorem cl_power (D : Df K mg "_law_power" s__law_power) (B : Blt mg) : Cl P w K mg base 1 "_law_power" ["many"] spPow10 := by
  refine D.cl (fun _ _ _ _ _ _ us hl => match us, hl with | [_], _ => rfl) fun f fd F => F.ok sc_power (fun vs H Q E h => ?_) (fun cdv A outer s H vs Q E hr h => ?_)
  · obtain ⟨k, rfl, _⟩ := h
    rfl
  obtain ⟨k, rfl, k3, q⟩ := h
  refine ⟨_, (pss_cons (ps_set (i := 1) sc_power.nd rfl (.inl rfl) pe_int)
    (pss_cons (ps_for PassesOwn.never rfl (pi_range1 rfl B.rng (pa_cons (pv 0) pa_nil)) (pg_name (i := 2) sc_power.nd rfl (Or.inl rfl))
      (pss_one (ps_set (i := 1) sc_power.nd rfl (.inl rfl) (pe_op op_mul (pv 1) pe_int))))
    (pss_one (ps_ret (pv 1))))), ?_⟩
  refine ⟨_, rfl, _, rfl, by omega, by omega, for_range (lo := 0) (fun i σ H' => ∃ c2 : Option V, σ = [some (.int (k : Int)), some (.int ((10 : Int) ^ i)), c2] ∧ H' = H) ⟨_, rfl, rfl⟩ (fun i σ H' hi h => ?_) (fun σ H' h => ?_)⟩
  · obtain ⟨c2, rfl, rfl⟩ := h
    refine ⟨_, rfl, _, _, rfl, rfl, .inr ⟨by decide, by decide⟩, some (.int (0 + (i : Int))), ?_, rfl⟩
    rw [Int.pow_succ]
    rfl
  · obtain ⟨c2, rfl, rfl⟩ := h
    rw [Int.toNat_natCast]
    exact ⟨_, rfl, q⟩
def spInt : Sp := fun vs H Q _ => ∃ (dk : Addr) (k most : Nat), vs = [.ref dk, .int (most : Int)] ∧ Stk dk k H ∧ k ≤ 900000 ∧ 1 ≤ most ∧ most ≤ 300 ∧
  ∀ (z : Int) H', GrD dk H H' → Stk dk (k + 4) H' → z.natAbs < 10 ^ most → Q (.int z) H'
theorem sc_integer : FnScope ["well", "most", "kind", "side"] ["well", "most"] (defScope s__law_integer) := ⟨rfl, rfl, rfl, by decide +kernel, rfl, by decide +kernel, by decide +kernel⟩
theorem cl_integer (D : Df K mg "_law_integer" s__law_integer) (CDR : Cl P w K mg base 1 "_law_draw" ["well", "many"] spPick) (CPO : Cl P w K mg base 1 "_law_power" ["many"] spPow10) : Cl P w K mg base 2 "_law_integer" ["well", "most"] spInt := by
  refine D.cl (fun _ _ _ _ _ _ us hl => match us, hl with | [_, _], _ => rfl) fun f fd F => F.ok sc_integer (fun vs H Q E h => ?_) (fun cdv A outer s H vs Q E hr h => ?_)
  · obtain ⟨dk, k, most, rfl, _⟩ := h
    rfl
  obtain ⟨dk, k, most, rfl, sk, k9, m1, m3, hQ⟩ := h
  refine ⟨_, (pss_cons (ps_par (i := 2) (j := 3) rfl sc_integer.nd rfl rfl (by decide) rfl rfl (pa_cons (pe_cl CDR (hr.mono (by decide)) (pa_cons (pv 0) (pa_cons pe_int pa_nil))) (pa_cons (pe_op op_sub pe_int (pe_op op_mul pe_int (pe_cl CDR (hr.mono (by decide)) (pa_cons (pv 0) (pa_cons pe_int pa_nil))))) pa_nil)) rfl)
    (pss_cons (ps_if (pt_cmpR op_lt (pv 2) pe_int (nomark _)) (pss_one (ps_ret (pe_op op_mul (pv 3) (pe_cl CDR (hr.mono (by decide)) (pa_cons (pv 0) (pa_cons pe_int pa_nil)))))) pss_nil)
    (pss_cons (ps_if (pt_cmpR op_eq (pv 2) pe_int (nomark _)) (pss_one (ps_ret (pe_op op_mul (pv 3) (pe_op op_sub (pe_op op_sub (pe_cl CPO (hr.mono (by decide)) (pa_cons (pv 1) pa_nil)) pe_int) (pe_cl CDR (hr.mono (by decide)) (pa_cons (pv 0) (pa_cons pe_int pa_nil))))))) pss_nil)
    (pss_cons (ps_if (pt_cmpR op_eq (pv 2) pe_int (nomark _)) (pss_one (ps_ret (pe_op op_mul (pv 3) (pe_cl CDR (hr.mono (by decide)) (pa_cons (pv 0) (pa_cons (pe_cl CPO (hr.mono (by decide)) (pa_cons (pv 1) pa_nil)) pa_nil)))))) pss_nil)
    (pss_one (ps_ret (pe_op op_mul (pv 3) (pe_op op_add (pe_cl CPO (hr.mono (by decide)) (pa_cons (pe_cl CDR (hr.mono (by decide)) (pa_cons (pv 0) (pa_cons (pv 1) pa_nil))) pa_nil)) (pe_cl CDR (hr.mono (by decide)) (pa_cons (pv 0) (pa_cons pe_int pa_nil))))))))))), ?_⟩
  have big : ∀ z : Int, z.natAbs < 2 ^ 1201 → z.natAbs < 2 ^ 8000 := fun z h => Nat.lt_of_lt_of_le h (two_le (by decide))
  have big10 : ∀ z : Int, z.natAbs ≤ 1000 → z.natAbs < 2 ^ 8000 := fun z h => Nat.lt_of_lt_of_le (small2000 h) (two_le (by decide))
  have ten1 : 10 ≤ 10 ^ most := by
    have := Nat.pow_le_pow_right (show 0 < 10 by decide) m1
    omega
  have pos10 : ∀ n : Nat, (1 : Int) ≤ (10 : Int) ^ n := fun n => by
    rw [ten_cast]
    have := Nat.pow_pos (n := n) (show 0 < 10 by decide)
    omega
  refine ⟨_, rfl, dk, 6, _, rfl, sk, by omega, by decide, big10 6 (by decide), fun kd H1 _ _ g1 s1 => ?_⟩
  refine ⟨_, rfl, dk, 2, _, rfl, s1, by omega, by decide, big10 2 (by decide), fun sg H2 sg0 sg1 g2 s2 => ⟨_, _, rfl, rfl, .inl ⟨by decide, by decide⟩, _, _, rfl, rfl, _, _, rfl, ?_⟩⟩
  have sn : ((1 : Int) - 2 * sg).natAbs = 1 := by omega
  have sb : -(2 ^ 64) < (1 : Int) - 2 * sg ∧ (1 : Int) - 2 * sg < 2 ^ 64 := by omega
  have mulS : ∀ z : Int, ((1 - 2 * sg) * z).natAbs = z.natAbs := fun z => by rw [Int.natAbs_mul, sn, Nat.one_mul]
  have g12 := g1.trans g2
  have fin : ∀ (z : Int) (m : Nat) H', GrD dk H2 H' → Stk dk m H' → m ≤ k + 4 → z.natAbs < 10 ^ most → Q (.int ((1 - 2 * sg) * z)) H' := fun z m H' g s hm hz => hQ _ H' (g12.trans g) (s.more hm) (by rw [mulS]; exact hz)
  refine ⟨_, rfl, _, _, rfl, rfl, _, rfl, ?_⟩
  by_cases c1 : kd < 3
  · refine iteP c1 ⟨_, rfl, _, rfl, dk, 10, _, rfl, s2, by omega, by decide, big10 10 (by decide), fun t H3 t0 t1 g3 s3 => ⟨_, _, rfl, rfl, .inl sb, fin t _ H3 g3 s3 (by omega) (by omega)⟩⟩
  refine iteN c1 ⟨_, rfl, rfl, _, rfl, ?_⟩
  by_cases c2 : kd = 3
  · refine iteP (by rw [c2]) ⟨_, rfl, _, rfl, most, rfl, m3, _, _, rfl, rfl, _, rfl, dk, 9, _, rfl, s2, by omega, by decide, big10 9 (by decide), fun t H3 t0 t1 g3 s3 => ⟨_, _, rfl, rfl, _, _, rfl, rfl, .inl sb, fin _ _ H3 g3 s3 (by omega) ?_⟩⟩
    rw [ten_cast]
    omega
  refine iteN (fun z => c2 (by injection z)) ⟨_, rfl, rfl, _, rfl, ?_⟩
  by_cases c3 : kd = 4
  · refine iteP (by rw [c3]) ⟨_, rfl, _, rfl, _, rfl, most, rfl, m3, dk, _, _, rfl, s2, by omega, pos10 _, big _ (by rw [ten_abs]; exact ten_lt m3), fun t H3 t0 t1 g3 s3 => ⟨_, _, rfl, rfl, .inl sb, fin t _ H3 g3 s3 (by omega) ?_⟩⟩
    rw [ten_cast] at t1
    omega
  refine iteN (fun z => c3 (by injection z)) ⟨_, rfl, _, rfl, _, rfl, dk, _, _, rfl, s2, by omega, by omega, big10 _ (by omega), fun t H3 t0 t1 g3 s3 => ?_⟩
  obtain ⟨kt, rfl⟩ : ∃ j : Nat, t = (j : Int) := ⟨t.toNat, by omega⟩
  refine ⟨kt, rfl, by omega, _, rfl, dk, 2, _, rfl, s3, by omega, by decide, big10 2 (by decide), fun u H4 u0 u1 g4 s4 => ⟨_, _, rfl, rfl, _, _, rfl, rfl, .inl sb, fin _ _ H4 (g3.trans g4) s4 (by omega) ?_⟩⟩
  rw [ten_cast]
  have h1 : 10 ^ (kt + 1) ≤ 10 ^ most := Nat.pow_le_pow_right (by decide) (by omega)
  rw [Nat.pow_succ] at h1
  have h2 := Nat.pow_pos (n := kt) (show 0 < 10 by decide)
  omega
def spNumB (K : PySem.W.Frag) : Sp := fun vs H Q _ => ∃ (dk : Addr) (k most : Nat), vs = [.ref dk, .int (most : Int)] ∧ Stk dk k H ∧ k ≤ 800000 ∧ 1 ≤ most ∧ most ≤ 300 ∧
  ∀ v r H', GrD dk H H' → Stk dk (k + 10) H' → NuV K H' v r → Lo r → r.1.natAbs < 10 ^ most → r.2.natAbs < 10 ^ most → Q v H'
theorem sc_numB : FnScope ["well", "most", "bottom"] ["well", "most"] (defScope s__law_number) := ⟨rfl, rfl, rfl, by decide +kernel, rfl, by decide +kernel, by decide +kernel⟩
theorem cl_numB (D : Df K mg "_law_number" s__law_number) (B : Blt mg) (CDR : Cl P w K mg base 1 "_law_draw" ["well", "many"] spPick) (CIN : Cl P w K mg base 2 "_law_integer" ["well", "most"] spInt) (CLW : Cl P w K mg base 34 "_law_low" ["top", "bottom"] (spLowest K)) : Cl P w K mg base 35 "_law_number" ["well", "most"] (spNumB K) := by
  refine D.cl (fun _ _ _ _ _ _ us hl => match us, hl with | [_, _], _ => rfl) fun f fd F => F.ok sc_numB (fun vs H Q E h => ?_) (fun cdv A outer s H vs Q E hr h => ?_)
  · obtain ⟨dk, k, most, rfl, _⟩ := h
    rfl
  obtain ⟨dk, k, most, rfl, sk, k9, m1, m3, hQ⟩ := h
  refine ⟨_, (pss_cons (ps_set (i := 2) sc_numB.nd rfl (.inl rfl) (pe_ix ix_list (pe_lst (pa_cons pe_int (pa_cons pe_int (pa_cons (pe_callB call_abs rfl B.abs PyProof.Rows.boot_abs (pa_cons (pe_cl CIN (hr.mono (by decide)) (pa_cons (pv 0) (pa_cons (pv 1) pa_nil))) pa_nil)) pa_nil)))) (pe_cl CDR (hr.mono (by decide)) (pa_cons (pv 0) (pa_cons pe_int pa_nil))) (fun _ _ => rfl)))
    (pss_one (ps_ret (pe_cl CLW (hr.mono (by decide)) (pa_cons (pe_cl CIN (hr.mono (by decide)) (pa_cons (pv 0) (pa_cons (pv 1) pa_nil))) (pa_cons (pe_callB (call_max2 rfl) rfl B.max PyProof.Rows.boot_max (pa_cons pe_int (pa_cons (pv 2) pa_nil))) pa_nil)))))), ?_⟩
  have ten1 : 10 ≤ 10 ^ most := by
    have := Nat.pow_le_pow_right (show 0 < 10 by decide) m1
    omega
  refine ⟨_, rfl, _, rfl, dk, k, most, rfl, sk, by omega, m1, m3, fun z H1 g1 s1 hz => ⟨_, rfl, szN (by show 3 ≤ 1000000; decide), fun L nL => ?_⟩⟩
  rw [abs_nat]
  have rL := (Gr.refl H1).new nL (.lst [.int 1, .int 1, .int ((z.natAbs : Nat) : Int)])
  have eL : (upd H1 L (.lst [.int 1, .int 1, .int ((z.natAbs : Nat) : Int)])) L = some (.lst [.int 1, .int 1, .int ((z.natAbs : Nat) : Int)]) := upd_same
  have nLd := s1.ne nL
  have s2 := s1.gr rL
  have g2 := g1.gr rL
  generalize upd H1 L (.lst [.int 1, .int 1, .int ((z.natAbs : Nat) : Int)]) = H2 at eL s2 g2 ⊢
  refine ⟨_, rfl, dk, 3, _, rfl, s2, by omega, by decide, by decide +kernel, fun t H3 t0 t1 g3 s3 => ?_⟩
  obtain ⟨b, ab, hb⟩ : ∃ b : Nat, atI ([.int 1, .int 1, .int ((z.natAbs : Nat) : Int)] : List V) t = some (.int (b : Int)) ∧ b < 10 ^ most := by
    have : t = 0 ∨ t = 1 ∨ t = 2 := by omega
    rcases this with rfl | rfl | rfl
    · exact ⟨1, rfl, by omega⟩
    · exact ⟨1, rfl, by omega⟩
    · exact ⟨z.natAbs, rfl, hz⟩
  refine ⟨L, _, _, _, rfl, rfl, SqL.of (GrDL.lst g3 nLd eL), ab, ?_⟩
  refine ⟨_, rfl, _, rfl, dk, _, most, rfl, s3, by omega, m1, m3, fun y H4 g4 s4 hy => ⟨_, rfl, _, _, rfl, ?_⟩⟩
  obtain ⟨bb, eb, b1, bl⟩ : ∃ bb : Int, (if ((b : Nat) : Int) > 1 then ((b : Nat) : Int) else 1) = bb ∧ 0 < bb ∧ bb.natAbs < 10 ^ most := by
    by_cases h : ((b : Nat) : Int) > 1
    · exact ⟨((b : Nat) : Int), if_pos h, by omega, by rw [Int.natAbs_natCast]; exact hb⟩
    · exact ⟨1, if_neg h, by decide, by show 1 < _; omega⟩
  refine ⟨y, _, rfl, by rw [eb]; exact b1, ?_, fun v r H5 g5 nv lo er l1 l2 => hQ v r H5 (((g2.trans g3).trans g4).gr g5) ((s4.gr g5).more (by omega)) nv lo (Nat.lt_of_le_of_lt l1 hy) (Nat.lt_of_le_of_lt l2 (by rw [eb]; exact bl))⟩
  rw [eb]
  exact ⟨Nat.lt_of_lt_of_le (dg_big hy m3) (two_le (by decide)), Nat.lt_of_lt_of_le (dg_big bl m3) (two_le (by decide))⟩
def spSided (K : PySem.W.Frag) : Sp := fun vs H Q _ => ∃ (dk : Addr) (k d most : Nat), vs = [.ref dk, .int (d : Int), .int (most : Int)] ∧ Stk dk k H ∧ k ≤ 800000 ∧ 1 ≤ d ∧ d ≤ 12 ∧ 1 ≤ most ∧ most ≤ 300 ∧
  ∀ v q H', GrD dk H H' → Stk dk (k + 60) H' → QuV K H' v q → NonZ q.1 → q.1.length = d → (∀ z, z ∈ q.1 → z.natAbs < 10 ^ most) → q.2.natAbs < 10 ^ most → Q v H'
theorem sc_sided : FnScope ["well", "d", "most", "side", "sides"] ["well", "d", "most"] (defScope s__law_sided) := ⟨rfl, rfl, rfl, by decide +kernel, rfl, by decide +kernel, by decide +kernel⟩
theorem cl_sided (D : Df K mg "_law_sided" s__law_sided) (B : Blt mg) (CDR : Cl P w K mg base 1 "_law_draw" ["well", "many"] spPick) (CIN : Cl P w K mg base 2 "_law_integer" ["well", "most"] spInt) : Cl P w K mg base 3 "_law_sided" ["well", "d", "most"] (spSided K) := by
  refine D.cl (fun _ _ _ _ _ _ us hl => match us, hl with | [_, _, _], _ => rfl) fun f fd F => F.ok sc_sided (fun vs H Q E h => ?_) (fun cdv A outer s H vs Q E hr h => ?_)
  · obtain ⟨dk, k, d, most, rfl, _⟩ := h
    rfl
  obtain ⟨dk, k, d, most, rfl, sk, k8, d1, d12, m1, m3, hQ⟩ := h
  refine ⟨_, (pss_cons (ps_setLc (i := 4) (own := [("side", 3)]) (g := gName 3) rfl sc_sided.nd rfl rfl rfl (pi_range1 rfl B.rng (pa_cons (pv 1) pa_nil)) (blkOk_by (N := ["well", "d", "most", "side", "sides"]) (sc := defScope s__law_sided) (by decide +kernel)) (fun _ _ _ _ _ => (pg_name (i := 3) sc_sided.nd rfl (Or.inl rfl))) (fun _ _ _ _ _ => pts_nil) (fun _ _ _ _ _ => (pe_cl CIN (hr.mono (by decide)) (pa_cons (pv 0) (pa_cons (pv 2) pa_nil)))))
    (pss_cons (ps_if (pt_cmpR (op_eqD hr.units) (pv 4) (pe_op op_rep (pe_lst (pa_cons pe_int pa_nil)) (pv 1)) (nomark _)) (pss_one (ps_asg pe_int (pg_sub (pv 4) (pe_cl CDR (hr.mono (by decide)) (pa_cons (pv 0) (pa_cons (pv 1) pa_nil))) set_list))) pss_nil)
    (pss_one (ps_ret (pe_tup (pa_cons (pe_callTy call_tuple_of rfl B.tup bootTup (pa_cons (pv 4) pa_nil)) (pa_cons (pe_cl CIN (hr.mono (by decide)) (pa_cons (pv 0) (pa_cons (pv 2) pa_nil))) pa_nil))))))), ?_⟩
  have ten1 : 1 < 10 ^ most := by
    have := Nat.pow_le_pow_right (show 0 < 10 by decide) m1
    omega
  refine ⟨_, rfl, _, rfl, by omega, by omega, fun D nD => ?_⟩
  rw [Int.toNat_natCast]
  have nDd := sk.ne nD
  refine lc_stkR (K := K) (c := 4) (fun _ y _ => ∃ z : Int, y = .int z ∧ z.natAbs < 10 ^ most) (fun _ _ _ _ h _ => h) nD sk (by omega) (fun j H3 Kc hj g3 s3 kc => ?_) (fun ys H3 hD hl g3 s3 hR => ?_)
  · exact ⟨rfl, _, rfl, _, rfl, dk, _, most, rfl, s3, by omega, m1, m3, fun z H4 g4 s4 hz => kc _ _ g4 s4 ⟨z, rfl, hz⟩⟩
  obtain ⟨zs, rfl, z9⟩ := ints_lt (b := 10 ^ most) fun j y e => hR j y e
  rw [List.length_map] at hl
  clear hR
  let Pst : (List Int → Prop) → Nat → L2.St → Hp → Prop := fun C u σ' H' => ∃ (ws : List Int) (c3 : Option V), σ' = [some (.ref dk), some (.int (d : Int)), some (.int (most : Int)), c3, some (.ref D)] ∧ H' D = some (.lst (ws.map V.int)) ∧ ws.length = d ∧ (∀ z, z ∈ ws → z.natAbs < 10 ^ most) ∧ GrD dk H H' ∧ Stk dk (k + u) H' ∧ C ws
  refine seq_join (Pst (fun _ => True) 48) (fun σ' H3 h => ?_) (fun Kn hK => hK _ _ ⟨zs, _, rfl, hD, hl, z9, g3, s3.more (by omega), trivial⟩)
  clear hl hD g3 s3 z9
  obtain ⟨zs, c3, rfl, hD, hl, z9, g3, s3, _⟩ := h
  refine seq_join (Pst NonZ 50) (fun σ' H4 h => ?_) (fun Kn hK => ?_)
  · obtain ⟨ws, c3, rfl, hD4, lw, w4, g4, s4, nz⟩ := h
    refine ⟨_, rfl, D, _, rfl, .inl ⟨SqL.of hD4, fun p1 n1 => ?_⟩⟩
    have r1 := (Gr.refl H4).new n1 (.tup (ws.map V.int))
    have e1 : SqT K (upd H4 p1 (.tup (ws.map V.int))) p1 (ws.map V.int) := SqT.of upd_same
    have s5 := s4.gr r1
    have g5 := g4.gr r1
    generalize upd H4 p1 (.tup (ws.map V.int)) = H5 at e1 s5 g5 ⊢
    refine ⟨_, rfl, _, rfl, dk, _, most, rfl, s5, by omega, m1, m3, fun z H6 g6 s6 hz => ⟨szN (by show 2 ≤ 1000000; decide), fun p2 n2 => ?_⟩⟩
    have r2 := (Gr.refl H6).new n2 (.tup [.ref p1, .int z])
    exact hQ _ (ws, z) _ ((g5.trans g6).gr r2) ((s6.gr r2).more (by omega)) ⟨p2, .ref p1, rfl, SqT.of upd_same, p1, rfl, r2.seqT ((g6.sk s5) _ _ e1)⟩ nz lw w4 hz
  · refine ⟨_, rfl, szN (by show 1 ≤ 1000000; decide), fun o0 w0 => ?_⟩
    have f0 := (Gr.refl H3).new w0 (.lst [.int 0])
    refine ⟨_, rfl, o0, _, _, rfl, rfl, upd_same, by omega, by omega, by rw [Int.toNat_natCast]; exact szN (by show 1 * d ≤ 1000000; omega), fun o1 w1 => ?_⟩
    have ez : (List.replicate ((d : Nat) : Int).toNat [V.int 0]).flatten = (List.replicate d (0 : Int)).map V.int := by rw [Int.toNat_natCast, flat_zero]
    rw [ez]
    have f1 := f0.new w1 (.lst ((List.replicate d (0 : Int)).map V.int))
    have e1 : (upd (upd H3 o0 (.lst [.int 0])) o1 (.lst ((List.replicate d (0 : Int)).map V.int))) o1 = some (.lst ((List.replicate d (0 : Int)).map V.int)) := upd_same
    have hDw := f1.lstK hD
    have sw := s3.gr f1
    have gw := g3.gr f1
    generalize upd (upd H3 o0 (.lst [.int 0])) o1 (.lst ((List.replicate d (0 : Int)).map V.int)) = W0 at e1 hDw sw gw ⊢
    clear f1 f0 ez
    refine ⟨.list (zs.map PyData.int), .list ((List.replicate d (0 : Int)).map PyData.int), .lst (SqL.of hDw) (dp_ints zs), .lst (SqL.of e1) (dp_ints _), shp_ints zs, shp_ints _, _, rfl, ?_⟩
    rw [eqv_ints]
    by_cases cz : zs = List.replicate d 0
    · refine iteP cz ?_
      refine ⟨_, rfl, _, rfl, _, rfl, dk, _, _, rfl, sw, by omega, by omega, big_take (n := d) (by omega), fun u H5 u0 u1 g5 s5 => ?_⟩
      obtain ⟨ku, rfl⟩ : ∃ j : Nat, u = (j : Int) := ⟨u.toNat, by omega⟩
      have hD5 := GrDL.lst g5 nDd hDw
      refine ⟨D, _, _, ku, rfl, rfl, hD5, ixN_nat (by rw [List.length_map, hl]; omega), ?_⟩
      refine hK _ _ ⟨zs.set ku 1, c3, rfl, by rw [upd_same, List.map_set], by rw [List.length_set, hl], fun z hz => ?_, (gw.trans g5).put nD _, (s5.off nDd).more (by omega), nonZ_of (List.mem_set (by omega) 1) (by decide)⟩
      rcases List.mem_or_eq_of_mem_set hz with h | h
      · exact z9 z h
      · rw [h]
        exact ten1
    · refine iteN cz (hK _ _ ⟨zs, c3, rfl, hDw, hl, z9, gw, sw.more (by omega), ?_⟩)
      rcases znonZ_orY zs with h | h
      · exact h
      · rw [hl] at h
        exact absurd h cz
end
end SB
namespace SB
open PySem L2 GxR GA RZ RP
/-- draws for a saying -/
def cE : Nat → Nat
  | 0 => 70
  | n + 1 => 2 * cE n + 2
theorem cE_pos : ∀ n, 70 ≤ cE n
  | 0 => Nat.le_refl _
  | n + 1 => by have := cE_pos n; show 70 ≤ 2 * cE n + 2; omega
/-- len(e), the things told outright -/
theorem pe_lenK {X : Cx} {e : Expr} {te : TE} {p pos : Pos} (K : PySem.W.Frag) (hK : X.K = K) (he : PE X e te) (hm : X.mg "len" = none) (hg : Gl X "len" := by rfl) (hst : starEach [e] X.env = (false, eval e X.env) :: starEach [] X.env := by rfl) (hpl : (backTo pos (starEach [] X.env)).any (·.1) = false := by rfl) :
    PE X (.Call (.Name "len" p) [e] [] pos) (tLen K te) := by
  subst hK
  exact pe_len he hm hg hst hpl
/-- (0,) * d -/
theorem rep0Y {K : PySem.W.Frag} {H : Hp} {p : Addr} {d : Nat} {Kc : VK} (hp : SqT K H p [.int 0]) (hd : d ≤ 1000) (cont : ∀ c H', Gr H H' → SqT K H' c ((List.replicate d (0 : Int)).map V.int) → Kc (.ref c) H') : rRepA K (.ref p) (.int ((d : Nat) : Int)) H Kc := by
  refine ⟨p, _, _, rfl, rfl, hp, List.cons_ne_nil _ _, by omega, by omega, by show 1 ≤ 1000; decide, fun e => ?_, fun _ c nc => ?_⟩
  · have : d = 1 := by omega
    subst this
    exact cont p H (Gr.refl _) hp
  · have ez : (List.replicate ((d : Nat) : Int).toNat [V.int 0]).flatten = (List.replicate d (0 : Int)).map V.int := by rw [Int.toNat_natCast, flat_zero]
    rw [ez]
    exact cont c _ ((Gr.refl _).new nc _) (SqT.of upd_same)
section
variable {P : Program} {w : World} {K : PySem.W.Frag} {mg : Str → Option Value} {base : Heap}
def spBookB (K : PySem.W.Frag) : Sp := fun vs H Q _ => ∃ (dk : Addr) (k d many most : Nat), vs = [.ref dk, .int (d : Int), .int (many : Int), .int (most : Int)] ∧ Stk dk k H ∧ k ≤ 700000 ∧ 1 ≤ d ∧ d ≤ 12 ∧ many ≤ 20 ∧ 1 ≤ most ∧ most ≤ 300 ∧
  ∀ v qs H', GrD dk H H' → Stk dk (k + 1300) H' → BkV K H' v d qs → qs.length ≤ 20 → (qs.map nfU).Nodup → (∀ q, q ∈ qs → NonZ q.1 ∧ q.1.length = d ∧ (∀ z, z ∈ q.1 → z.natAbs < 10 ^ most) ∧ q.2.natAbs < 10 ^ most) → Q v H'
theorem sc_bookB : FnScope ["well", "d", "many", "most", "turn"] ["well", "d", "many", "most"] (defScope s__law_book) := ⟨rfl, rfl, rfl, by decide +kernel, rfl, by decide +kernel, by decide +kernel⟩
theorem cl_bookB (D : Df K mg "_law_book" s__law_book) (B : Blt mg) (CDR : Cl P w K mg base 1 "_law_draw" ["well", "many"] spPick) (CSD : Cl P w K mg base 3 "_law_sided" ["well", "d", "most"] (spSided K)) (CLU : Cl P w K mg base 3 "_law_unlike" ["questions"] (spUnl K)) : Cl P w K mg base 4 "_law_book" ["well", "d", "many", "most"] (spBookB K) := by
  refine D.cl (fun _ _ _ _ _ _ us hl => match us, hl with | [_, _, _, _], _ => rfl) fun f fd F => F.ok sc_bookB (fun vs H Q E h => ?_) (fun cdv A outer s H vs Q E hr h => ?_)
  · obtain ⟨dk, k, d, many, most, rfl, _⟩ := h
    rfl
  obtain ⟨dk, k, d, many, most, rfl, sk, k7, d1, d12, m20, m1, m3, hQ⟩ := h
  refine ⟨_, (pss_one (ps_ret (pe_tup (pa_cons (pv 1) (pa_cons (pe_callTy call_tuple_of rfl B.tup bootTup (pa_cons (pe_cl CLU (hr.mono (by decide)) (pa_cons (pe_lc (own := [("turn", 4)]) (g := gName 4) rfl sc_bookB.nd (pi_range1 rfl B.rng (pa_cons (pe_cl CDR (hr.mono (by decide)) (pa_cons (pv 0) (pa_cons (pe_op op_add (pv 2) pe_int) pa_nil))) pa_nil)) (blkOk_by (N := ["well", "d", "many", "most", "turn"]) (sc := defScope s__law_book) (by decide +kernel)) (fun _ _ _ _ _ => (pg_name (i := 4) sc_bookB.nd rfl (Or.inl rfl))) (fun _ _ _ _ _ => pts_nil) (fun _ _ _ _ _ => (pe_cl CSD (hr.mono (by decide)) (pa_cons (pv 0) (pa_cons (pv 1) (pa_cons (pv 3) pa_nil)))))) pa_nil)) pa_nil)) pa_nil))))), ?_⟩
  refine ⟨_, rfl, _, rfl, _, rfl, _, _, rfl, rfl, dk, _, _, rfl, sk, by omega, by omega, big_take (n := many + 1) (by omega), fun t H1 t0 t1 g1 s1 => ?_⟩
  obtain ⟨n, rfl⟩ : ∃ j : Nat, t = (j : Int) := ⟨t.toNat, by omega⟩
  refine ⟨_, rfl, by omega, by omega, fun D nD => ?_⟩
  rw [Int.toNat_natCast]
  have nDd := s1.ne nD
  refine lc_stkR (K := K) (c := 60) (fun _ y H => ∃ q, QuV K H y q ∧ NonZ q.1 ∧ q.1.length = d ∧ (∀ z, z ∈ q.1 → z.natAbs < 10 ^ most) ∧ q.2.natAbs < 10 ^ most) (fun _ _ _ _ ⟨q, h, r⟩ t => ⟨q, QuV.st h t, r⟩) nD s1 (by omega) (fun j H3 Kc hj g3 s3 kc => ?_) (fun ys H3 hD hl g3 s3 hR => ?_)
  · exact ⟨rfl, _, rfl, _, rfl, _, rfl, dk, _, d, most, rfl, s3, by omega, d1, d12, m1, m3, fun v q H4 g4 s4 hv a1 a2 a3 a4 => kc v H4 g4 s4 ⟨q, hv, a1, a2, a3, a4⟩⟩
  obtain ⟨qs, pq, hq⟩ : ∃ qs : List (List Int × Int), Paired (QuV K H3) ys qs ∧ ∀ q, q ∈ qs → NonZ q.1 ∧ q.1.length = d ∧ (∀ z, z ∈ q.1 → z.natAbs < 10 ^ most) ∧ q.2.natAbs < 10 ^ most := by
    have : ∀ l : List V, (∀ (i : Nat) (y : V), l[i]? = some y → ∃ q, QuV K H3 y q ∧ NonZ q.1 ∧ q.1.length = d ∧ (∀ z, z ∈ q.1 → z.natAbs < 10 ^ most) ∧ q.2.natAbs < 10 ^ most) → ∃ qs : List (List Int × Int), Paired (QuV K H3) l qs ∧ ∀ q, q ∈ qs → NonZ q.1 ∧ q.1.length = d ∧ (∀ z, z ∈ q.1 → z.natAbs < 10 ^ most) ∧ q.2.natAbs < 10 ^ most := fun l => by
      induction l with
      | nil => exact fun _ => ⟨[], .nil, fun q h => (by cases h)⟩
      | cons y r ih =>
        intro f
        obtain ⟨q, h1, h2⟩ := f 0 y rfl
        obtain ⟨qs, h3, h4⟩ := ih fun i z e => f (i + 1) z (by simpa using e)
        refine ⟨q :: qs, .cons h1 h3, fun p hp => ?_⟩
        rcases List.mem_cons.mp hp with rfl | hp
        · exact h2
        · exact h4 p hp
    exact this ys hR
  have lq := paired_len pq
  refine ⟨D, ys, qs, rfl, SqL.of hD, pq, fun q h => ?_, by omega, fun F zs H4 g4 _ hF pz => ?_⟩
  · obtain ⟨_, a2, a3, a4⟩ := hq q h
    exact ⟨fun z hz => Nat.lt_of_lt_of_le (dg_big (a3 z hz) m3) (two_le (by decide)), Nat.lt_of_lt_of_le (dg_big a4 m3) (two_le (by decide)), by omega⟩
  refine ⟨F, _, rfl, .inl ⟨SqL.of hF, fun p1 n1 => ⟨szN (by show 2 ≤ 1000000; decide), fun p2 n2 => ?_⟩⟩⟩
  have r1 := (Gr.refl H4).new n1 (.tup zs)
  have r2 := r1.new n2 (.tup [.int (d : Int), .ref p1])
  refine hQ _ _ _ ((g1.trans g3).gr (g4.trans r2)) ((s3.gr (g4.trans r2)).more (by omega)) ⟨p2, p1, zs, rfl, SqT.of upd_same, ((Gr.refl _).new n2 _).seqT (SqT.of upd_same), Paired.mapP pz fun _ _ z => QuV.gr z r2⟩ (Nat.le_trans (unlike_len qs) (by omega)) (kept_nd _) fun q h => hq q (unlike_mem h).1
/-! ### wishes -/
def spWishB (K : PySem.W.Frag) : Sp := fun vs H Q _ => ∃ (dk A : Addr) (k many : Nat) (as : List (Option Int)), vs = [.ref dk, .int (many : Int), .ref A] ∧ Stk dk k H ∧ k ≤ 800000 ∧ SqT K H A (as.map hopeV) ∧ 1 ≤ as.length ∧ as.length ≤ 4 ∧ many ≤ 20 ∧
  ∀ p (hs : List (Option Int)) H', GrD dk H H' → Stk dk (k + 20) H' → SqT K H' p (hs.map hopeV) → hs.length = many → (∀ h, h ∈ hs → h ∈ as) → Q (.ref p) H'
theorem sc_wishB : FnScope ["well", "many", "answers", "turn"] ["well", "many", "answers"] (defScope s__law_wish) := ⟨rfl, rfl, rfl, by decide +kernel, rfl, by decide +kernel, by decide +kernel⟩
theorem cl_wishB (D : Df K mg "_law_wish" s__law_wish) (B : Blt mg) (CDR : Cl P w K mg base 1 "_law_draw" ["well", "many"] spPick) : Cl P w K mg base 2 "_law_wish" ["well", "many", "answers"] (spWishB K) := by
  refine D.cl (fun _ _ _ _ _ _ us hl => match us, hl with | [_, _, _], _ => rfl) fun f fd F => F.ok sc_wishB (fun vs H Q E h => ?_) (fun cdv A outer s H vs Q E hr h => ?_)
  · obtain ⟨dk, A, k, many, as, rfl, _⟩ := h
    rfl
  obtain ⟨dk, A, k, many, as, rfl, sk, k8, hA, a1, a4, m20, hQ⟩ := h
  refine ⟨_, (pss_one (ps_ret (pe_callTy call_tuple_of rfl B.tup bootTup (pa_cons (pe_lc (own := [("turn", 3)]) (g := gName 3) rfl sc_wishB.nd (pi_range1 rfl B.rng (pa_cons (pv 1) pa_nil)) (blkOk_by (N := ["well", "many", "answers", "turn"]) (sc := defScope s__law_wish) (by decide +kernel)) (fun _ _ _ _ _ => (pg_name (i := 3) sc_wishB.nd rfl (Or.inl rfl))) (fun _ _ _ _ _ => pts_nil) (fun _ _ _ _ _ => (pe_ix (r := rIxT K) ix_tup (pv 2) (by exact (pe_cl CDR (hr.mono (by decide)) (pa_cons (pv 0) (pa_cons (pe_lenK K rfl (pv 2) B.len) pa_nil)))) (fun _ _ => rfl)))) pa_nil)))), ?_⟩
  refine ⟨_, rfl, _, rfl, by omega, by omega, fun D nD => ?_⟩
  rw [Int.toNat_natCast]
  refine lc_stkR (K := K) (c := 1) (fun _ y _ => ∃ h, y = hopeV h ∧ h ∈ as) (fun _ _ _ _ h _ => h) nD sk (by omega) (fun j H3 Kc hj g3 s3 kc => ?_) (fun ys H3 hD hl g3 s3 hR => ?_)
  · have hA3 := (g3.sk sk) _ _ hA
    refine ⟨rfl, _, rfl, _, rfl, _, rfl, A, _, rfl, .inr hA3, dk, _, _, rfl, s3, by omega, by rw [List.length_map]; omega, big_take (n := (as.map hopeV).length) (by rw [List.length_map]; omega), fun t H4 t0 t1 g4 s4 => ?_⟩
    obtain ⟨kt, rfl⟩ : ∃ i : Nat, t = (i : Int) := ⟨t.toNat, by omega⟩
    rw [List.length_map] at t1
    have et : as[kt]? = some as[kt] := List.getElem?_eq_getElem (by omega)
    exact ⟨A, _, _, hopeV as[kt], rfl, rfl, (g4.sk s3) _ _ hA3, atI_nat (by rw [List.getElem?_map, et]; rfl), kc _ _ g4 s4 ⟨_, rfl, List.getElem_mem _⟩⟩
  · obtain ⟨hs, rfl, hh⟩ := hopes_of (Pr := fun h => h ∈ as) fun i y e => hR i y e
    rw [List.length_map] at hl
    refine ⟨D, _, rfl, .inl ⟨SqL.of hD, fun p np => ?_⟩⟩
    have r := (Gr.refl H3).new np (.tup (hs.map hopeV))
    exact hQ p hs _ (g3.gr r) ((s3.gr r).more (by omega)) (SqT.of upd_same) hl hh
/-! ### sayings -/
def spDeep (K : PySem.W.Frag) (n : Nat) : Sp := fun vs H Q _ => ∃ (dk : Addr) (k d m most : Nat), vs = [.ref dk, .int (d : Int), .int (m : Int), .int (most : Int)] ∧ Stk dk k H ∧ k + cE n ≤ 800000 ∧ 1 ≤ d ∧ d ≤ 12 ∧ 1 ≤ m ∧ m ≤ n ∧ 1 ≤ most ∧ most ≤ 300 ∧
  ∀ v s H', GrD dk H H' → Stk dk (k + cE n) H' → SayV K H' s v → SayB (10 ^ most) d s → depS s ≤ n → szS s + 1 ≤ 2 ^ n → Q v H'
theorem sc_deep : FnScope ["well", "d", "deep", "most", "way", "sides", "wall", "parts", "turned"] ["well", "d", "deep", "most"] (defScope s__law_deep) := ⟨rfl, rfl, rfl, by decide +kernel, rfl, by decide +kernel, by decide +kernel⟩
theorem ok_deep {n : Nat} {f g : Addr} {fd gd : FuncData} (F : Fun K "_law_deep" "_law_deep" s__law_deep f fd) (B : Blt mg) (CDR : Cl P w K mg base 1 "_law_draw" ["well", "many"] spPick) (CSD : Cl P w K mg base 3 "_law_sided" ["well", "d", "most"] (spSided K)) (G : FnOk P w K mg base CX0 (n + 3) g gd ["well", "d", "deep", "most"] (spDeep K n)) (bG : Binds K gd ["well", "d", "deep", "most"] []) (kG : PySem.W.keepIn K (.ref g) = true) (mG : mg "_law_deep" = some (.ref g)) :
    FnOk P w K mg base CX0 (n + 4) f fd ["well", "d", "deep", "most"] (spDeep K (n + 1)) := by
  refine F.ok sc_deep (fun vs H Q E h => ?_) (fun cdv A outer s H vs Q E hr h => ?_)
  · obtain ⟨dk, k, d, m, most, rfl, _⟩ := h
    rfl
  obtain ⟨dk, k, d, m, most, rfl, sk, k8, d1, d12, m1, mn, o1, o3, hQ⟩ := h
  have h1 : (1 : Nat) ≤ n + 3 := by omega
  have h3 : (3 : Nat) ≤ n + 3 := by omega
  refine ⟨_, (pss_cons (ps_set (i := 4) sc_deep.nd rfl (.inl rfl) (pe_ifExp (pt_cmpR op_gt (pv 2) pe_int (nomark _)) (pe_cl CDR (hr.mono h1) (pa_cons (pv 0) (pa_cons pe_int pa_nil))) pe_int))
    (pss_cons (ps_if (pt_cmpR op_lt (pv 4) pe_int (nomark _)) (pss_cons (ps_asg (pe_cl CSD (hr.mono h3) (pa_cons (pv 0) (pa_cons (pv 1) (pa_cons (pv 3) pa_nil)))) (pg_tup rfl (pgs_cons (pg_name (i := 5) sc_deep.nd rfl (Or.inl rfl)) (pgs_cons (pg_name (i := 6) sc_deep.nd rfl (Or.inl rfl)) pgs_nil))))
      (pss_one (ps_ret (pe_tup (pa_cons (pe_ix ix_list (pe_lst (pa_cons pe_str (pa_cons pe_str (pa_cons pe_str pa_nil)))) (pe_cl CDR (hr.mono h1) (pa_cons (pv 0) (pa_cons pe_int pa_nil))) (fun _ _ => rfl)) (pa_cons (pe_ix ix_list (pe_lst (pa_cons (pv 5) (pa_cons (pv 5) (pa_cons (pe_op op_repA (pe_tup (pa_cons pe_int pa_nil)) (pv 1)) pa_nil)))) (pe_cl CDR (hr.mono h1) (pa_cons (pv 0) (pa_cons pe_int pa_nil))) (fun _ _ => rfl)) (pa_cons (pv 6) pa_nil))))))) pss_nil)
    (pss_cons (ps_if (pt_cmpR op_lt (pv 4) pe_int (nomark _)) (pss_one (ps_ret (pe_tup (pa_cons pe_str (pa_cons (pe_call G hr rfl mG kG bG .nil pass0 (pa_cons (pv 0) (pa_cons (pv 1) (pa_cons (pe_op op_sub (pv 2) pe_int) (pa_cons (pv 3) pa_nil))))) pa_nil))))) pss_nil)
    (pss_cons (ps_set (i := 7) sc_deep.nd rfl (.inl rfl) (pe_lst (pa_cons (pe_call G hr rfl mG kG bG .nil pass0 (pa_cons (pv 0) (pa_cons (pv 1) (pa_cons (pe_op op_sub (pv 2) pe_int) (pa_cons (pv 3) pa_nil))))) (pa_cons (pe_call G hr rfl mG kG bG .nil pass0 (pa_cons (pv 0) (pa_cons (pv 1) (pa_cons (pe_mo (pe_ifExp (pt_cmpR op_gt (pv 2) pe_int (nomark _)) pe_int (pe_callB (call_min2 rfl) rfl B.min PyProof.Rows.boot_min (pa_cons (pe_op op_sub (pv 2) pe_int) (pa_cons pe_int pa_nil))))) (pa_cons (pv 3) pa_nil))))) pa_nil))))
    (pss_cons (ps_set (i := 8) sc_deep.nd rfl (.inl rfl) (pe_cl CDR (hr.mono h1) (pa_cons (pv 0) (pa_cons pe_int pa_nil))))
    (pss_one (ps_ret (pe_tup (pa_cons (pe_ix ix_list (pe_lst (pa_cons pe_str (pa_cons pe_str pa_nil))) (pe_op op_sub (pv 4) pe_int) (fun _ _ => rfl)) (pa_cons (pe_ix ix_list (pv 7) (pv 8) (fun _ _ => rfl)) (pa_cons (pe_ix ix_list (pv 7) (pe_op op_sub pe_int (pv 8)) (fun _ _ => rfl)) pa_nil))))))))))), ?_⟩
  have cp := cE_pos n
  have cs : cE (n + 1) = 2 * cE n + 2 := rfl
  have pw : 1 ≤ 2 ^ n := Nat.one_le_two_pow
  have pws : 2 ^ (n + 1) = 2 * 2 ^ n := by rw [Nat.pow_succ]; omega
  have ten1 : 0 < 10 ^ most := Nat.pow_pos (by decide)
  refine seq_join (fun σ' H' => ∃ u : Int, σ' = [some (.ref dk), some (.int (d : Int)), some (.int (m : Int)), some (.int (most : Int)), some (.int u), none, none, none, none] ∧ 0 ≤ u ∧ u < 6 ∧ (m ≤ 1 → u = 0) ∧ GrD dk H H' ∧ Stk dk (k + 1) H') (fun σ' H1 h => ?_) (fun Kn hK => ?_)
  rotate_left
  · refine ⟨_, rfl, _, _, rfl, rfl, _, rfl, ?_⟩
    by_cases c : ((m : Nat) : Int) > 1
    · refine iteP c ⟨_, rfl, dk, 6, _, rfl, sk, by omega, by decide, by decide +kernel, fun t H2 t0 t1 g2 s2 => ?_⟩
      exact hK _ _ ⟨t, rfl, t0, t1, fun e => by omega, g2, s2⟩
    · exact iteN c (hK _ _ ⟨0, rfl, Int.le_refl _, by decide, fun _ => rfl, GrD.refl _ _, sk.more (by omega)⟩)
  obtain ⟨u, rfl, u0, u6, um, g1, s1⟩ := h
  refine ⟨_, rfl, _, _, rfl, rfl, _, rfl, ?_⟩
  by_cases c2 : u < 2
  · refine iteP c2 ⟨_, rfl, _, rfl, _, rfl, dk, _, d, most, rfl, s1, by omega, d1, d12, o1, o3, fun v q H2 g2 s2 hv nz ql qz qw => ?_⟩
    obtain ⟨p, tt, rfl, hp, b, rfl, hb⟩ := hv
    refine ⟨p, _, rfl, hp, rfl, _, _, rfl, _, _, rfl, rfl, ?_⟩
    refine ⟨szN (by show 3 ≤ 1000000; decide), fun L nL => ?_⟩
    have rL := (Gr.refl H2).new nL (.lst [.str "less", .str "is", .str "more"])
    have eL : (upd H2 L (.lst [.str "less", .str "is", .str "more"])) L = some (.lst [.str "less", .str "is", .str "more"]) := upd_same
    have nLd := s2.ne nL
    have s3 := s2.gr rL
    have g3 := (g1.trans g2).gr rL
    have hb3 := rL.seqT hb
    generalize upd H2 L (.lst [.str "less", .str "is", .str "more"]) = H3 at eL s3 g3 hb3 ⊢
    refine ⟨_, rfl, dk, 3, _, rfl, s3, by omega, by decide, by decide +kernel, fun t H4 t0 t1 g4 s4 => ?_⟩
    have at1 : atI ([.str "less", .str "is", .str "more"] : List V) t = some (.str (wordA (t - 1))) := by
      have : t = 0 ∨ t = 1 ∨ t = 2 := by omega
      rcases this with rfl | rfl | rfl <;> rfl
    refine ⟨L, _, _, _, rfl, rfl, SqL.of (GrDL.lst g4 nLd eL), at1, ?_⟩
    have hb4 := (g4.sk s3) _ _ hb3
    refine ⟨_, rfl, _, rfl, szN (by show 1 ≤ 1000000; decide), fun T0 nT0 => ⟨_, rfl, ?_⟩⟩
    have r0 := (Gr.refl H4).new nT0 (.tup [.int 0])
    refine rep0Y (SqT.of upd_same) (by omega) fun c H5 g5 hc => ?_
    have gg := r0.trans g5
    refine ⟨szN (by show 3 ≤ 1000000; decide), fun M nM => ?_⟩
    have rM := gg.new nM (.lst [.ref b, .ref b, .ref c])
    have rM1 := (Gr.refl H5).new nM (.lst [.ref b, .ref b, .ref c])
    have eM : (upd H5 M (.lst [.ref b, .ref b, .ref c])) M = some (.lst [.ref b, .ref b, .ref c]) := upd_same
    have s6 := s4.gr rM
    have nMd := (s4.gr gg).ne nM
    have g6 := (g3.trans g4).gr rM
    have hb6 := rM.seqT hb4
    have hc6 := rM1.seqT hc
    generalize upd H5 M (.lst [.ref b, .ref b, .ref c]) = H6 at eM s6 g6 hb6 hc6 ⊢
    refine ⟨_, rfl, dk, 3, _, rfl, s6, by omega, by decide, by decide +kernel, fun t2 H7 t20 t21 g7 s7 => ?_⟩
    obtain ⟨a, ns, am, ha, la, za⟩ : ∃ (a : Addr) (ns : List Int), atI ([.ref b, .ref b, .ref c] : List V) t2 = some (.ref a) ∧ SqT K H7 a (ns.map V.int) ∧ ns.length = d ∧ ∀ z, z ∈ ns → z.natAbs < 10 ^ most := by
      have : t2 = 0 ∨ t2 = 1 ∨ t2 = 2 := by omega
      rcases this with rfl | rfl | rfl
      · exact ⟨b, q.1, rfl, (g7.sk s6) _ _ hb6, ql, qz⟩
      · exact ⟨b, q.1, rfl, (g7.sk s6) _ _ hb6, ql, qz⟩
      · exact ⟨c, List.replicate d 0, rfl, (g7.sk s6) _ _ hc6, List.length_replicate, fun z hz => by rw [(List.mem_replicate.mp hz).2]; exact ten1⟩
    refine ⟨M, _, _, _, rfl, rfl, SqL.of (GrDL.lst g7 nMd eM), am, _, rfl, szN (by show 3 ≤ 1000000; decide), fun T nT => ?_⟩
    have r := (Gr.refl H7).new nT (.tup [.str (wordA (t - 1)), .ref a, .int q.2])
    exact hQ _ (.q (t - 1) ns q.2) _ ((g6.trans g7).gr r) ((s7.gr r).more (by omega)) ⟨T, .ref a, rfl, SqT.of upd_same, a, rfl, r.seqT ha⟩ ⟨by omega, by omega, la, za, qw⟩ (by show 1 ≤ n + 1; omega) (by show 1 + 1 ≤ 2 ^ (n + 1); omega)
  · refine iteN c2 ?_
    have m2 : 2 ≤ m := by
      by_cases h : m ≤ 1
      · have := um h
        omega
      · omega
    obtain ⟨m', rfl⟩ : ∃ m', m = m' + 1 := ⟨m - 1, by omega⟩
    have em : ((m' + 1 : Nat) : Int) - 1 = (m' : Int) := by omega
    refine ⟨_, rfl, _, _, rfl, rfl, _, rfl, ?_⟩
    by_cases c4 : u < 4
    · refine iteP c4 ⟨_, rfl, _, rfl, _, rfl, _, _, rfl, rfl, _, rfl, dk, k + 1, d, m', most, (by show [V.ref dk, V.int (d : Int), V.int (((m' + 1 : Nat) : Int) - 1), V.int (most : Int)] = _; rw [em]), s1, by omega, d1, d12, by omega, by omega, o1, o3, fun v sy H2 g2 s2 hv ok dp lq => ⟨szN (by show 2 ≤ 1000000; decide), fun T nT => ?_⟩⟩
      have r := (Gr.refl H2).new nT (.tup [.str "not", v])
      exact hQ _ (.nt sy) _ ((g1.trans g2).gr r) ((s2.gr r).more (by omega)) ⟨T, v, rfl, SqT.of upd_same, SayV.gr r hv⟩ ok (Nat.succ_le_succ dp) (by show szS sy + 1 + 1 ≤ _; omega)
    · refine iteN c4 ?_
      refine ⟨_, rfl, _, rfl, _, rfl, _, _, rfl, rfl, _, rfl, dk, k + 1, d, m', most, (by show [V.ref dk, V.int (d : Int), V.int (((m' + 1 : Nat) : Int) - 1), V.int (most : Int)] = _; rw [em]), s1, by omega, d1, d12, by omega, by omega, o1, o3, fun v sy H4 g4 s4 hv ok dp lq => ?_⟩
      refine ⟨_, rfl, _, rfl, fun x H' => H' = H4 ∧ ∃ j : Nat, x = .int (j : Int) ∧ 1 ≤ j ∧ j ≤ n, ?_, fun x H' hx => ?_⟩
      · refine ⟨_, rfl, _, _, rfl, rfl, _, rfl, ?_⟩
        by_cases c5 : ((m' + 1 : Nat) : Int) > 5
        · exact iteP c5 ⟨rfl, 1, rfl, by decide, by omega⟩
        · refine iteN c5 ⟨_, rfl, _, _, rfl, rfl, _, _, rfl, rfl, ?_⟩
          by_cases c6 : (2 : Int) < ((m' + 1 : Nat) : Int) - 1
          · exact ⟨2, by rw [if_pos c6]; rfl, by decide, by omega⟩
          · exact ⟨m', by rw [if_neg c6, em], by omega, by omega⟩
      obtain ⟨rfl, j, rfl, j1, jn⟩ := hx
      refine ⟨_, rfl, dk, k + 1 + cE n, d, j, most, rfl, s4, by omega, d1, d12, j1, jn, o1, o3, fun v2 sy2 H5 g5 s5 hv2 ok2 dp2 lq2 => ⟨szN (by show 2 ≤ 1000000; decide), fun L nL => ?_⟩⟩
      have rL := (Gr.refl H5).new nL (.lst [v, v2])
      have eL : (upd H5 L (.lst [v, v2])) L = some (.lst [v, v2]) := upd_same
      have nLd := s5.ne nL
      have s6 := s5.gr rL
      have g6 := ((g1.trans g4).trans g5).gr rL
      have hv6 := SayV.gr rL (SayV.st (g5.sk s4) hv)
      have hv26 := SayV.gr rL hv2
      generalize upd H5 L (.lst [v, v2]) = H6 at eL s6 g6 hv6 hv26 ⊢
      refine ⟨_, rfl, dk, 2, _, rfl, s6, by omega, by decide, by decide +kernel, fun t H7 t0 t1 g7 s7 => ?_⟩
      have eL7 := GrDL.lst g7 nLd eL
      have hv7 := SayV.st (g7.sk s6) hv6
      have hv27 := SayV.st (g7.sk s6) hv26
      refine ⟨szN (by show 2 ≤ 1000000; decide), fun W nW => ⟨_, rfl, _, _, rfl, rfl, ?_⟩⟩
      have rW := (Gr.refl H7).new nW (.lst [.str "both", .str "either"])
      obtain ⟨wd, at1, hwd⟩ : ∃ wd : Str, atI ([.str "both", .str "either"] : List V) (u - 4) = some (.str wd) ∧ (wd = "both" ∨ wd = "either") := by
        have : u = 4 ∨ u = 5 := by omega
        rcases this with rfl | rfl
        · exact ⟨_, rfl, .inl rfl⟩
        · exact ⟨_, rfl, .inr rfl⟩
      refine ⟨W, _, _, _, rfl, rfl, SqL.of upd_same, at1, ?_⟩
      obtain ⟨a, a2, sa, sa2, ea, ea2, ha, ha2, ok', dp', lq'⟩ : ∃ a a2 sa sa2, atI ([v, v2] : List V) t = some a ∧ atI ([v, v2] : List V) (1 - t) = some a2 ∧ SayV K H7 sa a ∧ SayV K H7 sa2 a2 ∧ (SayB (10 ^ most) d sa ∧ SayB (10 ^ most) d sa2) ∧ (depS sa ≤ n ∧ depS sa2 ≤ n) ∧ szS sa + szS sa2 = szS sy + szS sy2 := by
        have : t = 0 ∨ t = 1 := by omega
        rcases this with rfl | rfl
        · exact ⟨v, v2, sy, sy2, rfl, rfl, hv7, hv27, ⟨ok, ok2⟩, ⟨dp, dp2⟩, rfl⟩
        · exact ⟨v2, v, sy2, sy, rfl, rfl, hv27, hv7, ⟨ok2, ok⟩, ⟨dp2, dp⟩, Nat.add_comm _ _⟩
      have eLW := rW.lstK eL7
      refine ⟨_, rfl, _, rfl, L, _, _, _, rfl, rfl, SqL.of eLW, ea, _, rfl, _, rfl, _, _, rfl, rfl, L, _, _, _, rfl, rfl, SqL.of eLW, ea2, szN (by show 3 ≤ 1000000; decide), fun T nT => ?_⟩
      have r := rW.new nT (.tup [.str wd, a, a2])
      have hva := SayV.gr r ha
      have hva2 := SayV.gr r ha2
      have gF := (g6.trans g7).gr r
      have sF := (s7.gr r).more (k := k + cE (n + 1)) (by omega)
      have dF : max (depS sa) (depS sa2) + 1 ≤ n + 1 := by omega
      have lF : szS sa + szS sa2 + 1 + 1 ≤ 2 ^ (n + 1) := by omega
      rcases hwd with rfl | rfl
      · exact hQ _ (.bo sa sa2) _ gF sF ⟨T, a, a2, rfl, SqT.of upd_same, hva, hva2⟩ ok' dF lF
      · exact hQ _ (.ei sa sa2) _ gF sF ⟨T, a, a2, rfl, SqT.of upd_same, hva, hva2⟩ ok' dF lF
theorem deep_all {f : Addr} {fd : FuncData} (F : Fun K "_law_deep" "_law_deep" s__law_deep f fd) (B : Blt mg) (CDR : Cl P w K mg base 1 "_law_draw" ["well", "many"] spPick) (CSD : Cl P w K mg base 3 "_law_sided" ["well", "d", "most"] (spSided K)) (bF : Binds K fd ["well", "d", "deep", "most"] []) (mF : mg "_law_deep" = some (.ref f)) : ∀ n : Nat, FnOk P w K mg base CX0 (n + 3) f fd ["well", "d", "deep", "most"] (spDeep K n)
  | 0 => by
    have no : ∀ vs H Q E, ¬ spDeep K 0 vs H Q E := fun vs H Q E h => by
      obtain ⟨dk, k, d, m, most, _, _, _, _, _, m1, m0, _⟩ := h
      omega
    exact ⟨fun vs H Q E h => absurd h (no vs H Q E), fun A outer s H args us vs Q E _ _ _ _ h => absurd h (no vs H Q E)⟩
  | n + 1 => ok_deep F B CDR CSD (deep_all F B CDR CSD bF mF n) bF F.kp mF
theorem cl_deep (D : Df K mg "_law_deep" s__law_deep) (B : Blt mg) (CDR : Cl P w K mg base 1 "_law_draw" ["well", "many"] spPick) (CSD : Cl P w K mg base 3 "_law_sided" ["well", "d", "most"] (spSided K)) (n : Nat) : Cl P w K mg base (n + 3) "_law_deep" ["well", "d", "deep", "most"] (spDeep K n) := by
  obtain ⟨f, fd, F, m⟩ := D.ex
  have bF : Binds K fd ["well", "d", "deep", "most"] [] := F.binds fun _ _ _ _ _ _ us hl => match us, hl with | [_, _, _, _], _ => rfl
  obtain ⟨oc, od, kV, doc, pm, an, cdv, ct, osl, e, lk, hcd⟩ := F.ex
  exact ⟨⟨f, fd, deep_all F B CDR CSD bF m n, m, F.kp, bF⟩, fun g hg => by
    rw [m] at hg
    cases hg
    exact ⟨fd, deep_all F B CDR CSD bF m n, oc, od, osl, lk⟩⟩
end
end SB
namespace SB
open PySem L2 GxR GA RZ RP TL
section
variable {P : Program} {w : World} {K : PySem.W.Frag} {mg : Str → Option Value} {base : Heap}
/-! ### the texts of the program -/
def spSignOf : Sp := fun vs H Q _ => ∃ h, vs = [hopeV h] ∧ HopeOk h ∧ Q (.str (sgnT h)) H
theorem sc_signOf : FnScope ["wished"] ["wished"] (defScope s__sign_of) := ⟨rfl, rfl, rfl, by decide +kernel, rfl, by decide +kernel, by decide +kernel⟩
theorem cl_signOf (D : Df K mg "_sign_of" s__sign_of) : Cl P w K mg base 1 "_sign_of" ["wished"] spSignOf := by
  refine D.cl (fun _ _ _ _ _ _ us hl => match us, hl with | [_], _ => rfl) fun f fd F => F.ok sc_signOf (fun vs H Q E h => ?_) (fun cdv A outer s H vs Q E hr h => ?_)
  · obtain ⟨h, rfl, _⟩ := h
    rfl
  obtain ⟨h, rfl, ho, q⟩ := h
  refine ⟨_, (pss_cons (ps_if (pt_cmp (pc_isN (pv 0))) (pss_one (ps_ret pe_str)) pss_nil)
    (pss_one (ps_ret (pe_ix ix_str pe_str (pv 0) (fun _ _ => rfl))))), ?_⟩
  rcases ho with rfl | rfl | rfl | rfl
  · exact ⟨_, rfl, _, rfl, iteP rfl q⟩
  · exact ⟨_, rfl, _, rfl, iteN (fun z => nomatch z) ⟨_, rfl, _, _, 45, rfl, rfl, by decide, by decide +kernel, q⟩⟩
  · exact ⟨_, rfl, _, rfl, iteN (fun z => nomatch z) ⟨_, rfl, _, _, 48, rfl, rfl, by decide, by decide +kernel, q⟩⟩
  · exact ⟨_, rfl, _, rfl, iteN (fun z => nomatch z) ⟨_, rfl, _, _, 43, rfl, rfl, by decide, by decide +kernel, q⟩⟩
def spShSides (K : PySem.W.Frag) : Sp := fun vs H Q _ => ∃ x ns k, vs = [x] ∧ SiV K H x ns ∧ ns.length ≤ 12 ∧ 1 ≤ k ∧ k ≤ 300 ∧ (∀ z, z ∈ ns → z.natAbs < 10 ^ k) ∧ ∀ H', Gr H H' → Q (.str (sidesT ns)) H'
theorem sc_shSides : FnScope ["sides", "side"] ["sides"] (defScope s__show_sides) := ⟨rfl, rfl, rfl, by decide +kernel, rfl, by decide +kernel, by decide +kernel⟩
theorem sides_small {ns : List Int} {k : Nat} (l : ns.length ≤ 12) (k1 : 1 ≤ k) (k3 : k ≤ 300) (hz : ∀ z, z ∈ ns → z.natAbs < 10 ^ k) : ((ns.map iT).map (·.length)).sum + (ns.map iT).length * (" " : Str).length ≤ 16777216 := by
  have := join_sum (a := " ") (ys := ns.map iT) (b := k + 1) fun y hy => by
    obtain ⟨z, hz', rfl⟩ := List.mem_map.mp hy
    exact iT_len k1 (hz z hz')
  rw [List.length_map] at this ⊢
  have e : (" " : Str).length = 1 := rfl
  have m : ns.length * (k + 1 + (" " : Str).length) ≤ 12 * 302 := Nat.mul_le_mul l (by omega)
  omega
theorem cl_shSides (D : Df K mg "_show_sides" s__show_sides) (B : Blt mg) : Cl P w K mg base 1 "_show_sides" ["sides"] (spShSides K) := by
  refine D.cl (fun _ _ _ _ _ _ us hl => match us, hl with | [_], _ => rfl) fun f fd F => F.ok sc_shSides (fun vs H Q E h => ?_) (fun cdv A outer s H vs Q E hr h => ?_)
  · obtain ⟨x, ns, k, rfl, _⟩ := h
    rfl
  obtain ⟨x, ns, k, rfl, ⟨a, rfl, hs⟩, l, k1, k3, hz, q⟩ := h
  refine ⟨_, (pss_one (ps_ret (pe_join pe_str (pe_lc (own := [("side", 1)]) (g := gName 1) rfl sc_shSides.nd (pi_tup (pv 0)) (blkOk_by (N := ["sides", "side"]) (sc := defScope s__show_sides) (by decide +kernel)) (fun _ _ _ _ _ => (pg_name (i := 1) sc_shSides.nd rfl (Or.inl rfl))) (fun _ _ _ _ _ => pts_nil) (fun _ _ _ _ _ => (pe_callTy call_str_int rfl B.str bootStr (pa_cons (pv 1) pa_nil))))))), ?_⟩
  refine ⟨⟨_, rfl⟩, _, rfl, a, rfl, ⟨_, hs⟩, fun D nD => ?_⟩
  refine lc_txts (K := K) (ns.map iT) (by rw [List.length_map, List.length_map]) nD hs (by rw [List.length_map]; omega) (fun i x z H1 Kc hx hz' g1 kc => ?_) (fun H1 hD g1 => ?_)
  · rw [List.getElem?_map] at hx hz'
    cases e : ns[i]? with
    | none => rw [e] at hx; cases hx
    | some n =>
      rw [e] at hx hz'
      cases hx
      cases hz'
      exact ⟨rfl, _, rfl, n, rfl, iT_log (hz n (List.mem_of_getElem? e)) k3, kc H1 (Gr.refl _)⟩
  · refine ⟨_, D, ns.map iT, rfl, rfl, .inl (SqL.of hD), sides_small l k1 k3 hz, q H1 g1⟩
def spShNum (K : PySem.W.Frag) : Sp := fun vs H Q _ => ∃ x r k, vs = [x] ∧ NuV K H x r ∧ 1 ≤ k ∧ k ≤ 300 ∧ r.1.natAbs < 10 ^ k ∧ r.2.natAbs < 10 ^ k ∧ Q (.str (numT r)) H
theorem sc_shNum : FnScope ["a", "top", "bottom"] ["a"] (defScope s_show_number) := ⟨rfl, rfl, rfl, by decide +kernel, rfl, by decide +kernel, by decide +kernel⟩
theorem cl_shNum (D : Df K mg "show_number" s_show_number) (B : Blt mg) : Cl P w K mg base 1 "show_number" ["a"] (spShNum K) := by
  refine D.cl (fun _ _ _ _ _ _ us hl => match us, hl with | [_], _ => rfl) fun f fd F => F.ok sc_shNum (fun vs H Q E h => ?_) (fun cdv A outer s H vs Q E hr h => ?_)
  · obtain ⟨x, r, k, rfl, _⟩ := h
    rfl
  obtain ⟨x, r, k, rfl, ⟨a, rfl, hs⟩, k1, k3, h1, h2, q⟩ := h
  refine ⟨_, (pss_cons (ps_asg (pv 0) (pg_tup rfl (pgs_cons (pg_name (i := 1) sc_shNum.nd rfl (Or.inl rfl)) (pgs_cons (pg_name (i := 2) sc_shNum.nd rfl (Or.inl rfl)) pgs_nil))))
    (pss_one (ps_ret (pe_ifExp (pt_cmpR op_eq (pv 2) pe_int (nomark _)) (pe_callTy call_str_int rfl B.str bootStr (pa_cons (pv 1) pa_nil)) (pe_joined (.cons (pe_fmt (pv 1)) (.cons pe_str (.cons (pe_fmt (pv 2)) .nil)))))))), ?_⟩
  refine ⟨_, rfl, a, _, rfl, hs, rfl, _, _, rfl, _, _, rfl, rfl, ?_⟩
  refine ⟨_, rfl, rfl, _, rfl, ?_⟩
  have l1 := iT_len k1 h1
  have l2 := iT_len k1 h2
  have e : ("/" : Str).length = 1 := rfl
  have s0 : 1000 ≤ sizeLine := by decide
  have q0 := q
  unfold numT at q0
  by_cases c : r.2 = 1
  · rw [if_pos c] at q0
    exact iteP (congrArg V.int c) ⟨_, rfl, r.1, rfl, iT_log h1 k3, q0⟩
  · rw [if_neg c] at q0
    refine iteN (fun z => c (by injection z)) ⟨_, rfl, .inr ⟨r.1, rfl, iT_log h1 k3, iT r.1, rfl, ?_, _, rfl, ?_, _, rfl, .inr ⟨r.2, rfl, iT_log h2 k3, iT r.2, rfl, ?_, ?_⟩⟩⟩
    · rw [emp_app]; omega
    · rw [emp_app, len_app]; omega
    · rw [emp_app, len_app, len_app]; omega
    · rw [emp_app]; exact q0
def spShPoint (K : PySem.W.Frag) : Sp := fun vs H Q _ => ∃ x rs k, vs = [x] ∧ PtV K H x rs ∧ rs.length ≤ 12 ∧ 1 ≤ k ∧ k ≤ 300 ∧ (∀ r, r ∈ rs → r.1.natAbs < 10 ^ k ∧ r.2.natAbs < 10 ^ k) ∧ ∀ H', Gr H H' → Q (.str (pointT rs)) H'
theorem sc_shPoint : FnScope ["point", "x"] ["point"] (defScope s_show_point) := ⟨rfl, rfl, rfl, by decide +kernel, rfl, by decide +kernel, by decide +kernel⟩
theorem point_small {rs : List (Int × Int)} {k : Nat} (l : rs.length ≤ 12) (k1 : 1 ≤ k) (k3 : k ≤ 300) (hz : ∀ r, r ∈ rs → r.1.natAbs < 10 ^ k ∧ r.2.natAbs < 10 ^ k) : ((rs.map numT).map (·.length)).sum + (rs.map numT).length * (" " : Str).length ≤ 16777216 := by
  have := join_sum (a := " ") (ys := rs.map numT) (b := 2 * k + 3) fun y hy => by
    obtain ⟨z, hz', rfl⟩ := List.mem_map.mp hy
    exact numT_len k1 (hz z hz').1 (hz z hz').2
  rw [List.length_map] at this ⊢
  have e : (" " : Str).length = 1 := rfl
  have m : rs.length * (2 * k + 3 + (" " : Str).length) ≤ 12 * 604 := Nat.mul_le_mul l (by omega)
  omega
theorem cl_shPoint (D : Df K mg "show_point" s_show_point) (CN : Cl P w K mg base 1 "show_number" ["a"] (spShNum K)) : Cl P w K mg base 2 "show_point" ["point"] (spShPoint K) := by
  refine D.cl (fun _ _ _ _ _ _ us hl => match us, hl with | [_], _ => rfl) fun f fd F => F.ok sc_shPoint (fun vs H Q E h => ?_) (fun cdv A outer s H vs Q E hr h => ?_)
  · obtain ⟨x, rs, k, rfl, _⟩ := h
    rfl
  obtain ⟨x, rs, k, rfl, ⟨a, xs, rfl, hs, hp⟩, l, k1, k3, hz, q⟩ := h
  have lx := paired_len hp
  refine ⟨_, (pss_one (ps_ret (pe_join pe_str (pe_lc (own := [("x", 1)]) (g := gName 1) rfl sc_shPoint.nd (pi_tup (pv 0)) (blkOk_by (N := ["point", "x"]) (sc := defScope s_show_point) (by decide +kernel)) (fun _ _ _ _ _ => (pg_name (i := 1) sc_shPoint.nd rfl (Or.inl rfl))) (fun _ _ _ _ _ => pts_nil) (fun _ _ _ _ _ => (pe_cl CN (hr.mono (by decide)) (pa_cons (pv 1) pa_nil))))))), ?_⟩
  refine ⟨⟨_, rfl⟩, _, rfl, a, rfl, ⟨_, hs⟩, fun D nD => ?_⟩
  refine lc_txts (K := K) (rs.map numT) (by rw [List.length_map, lx]) nD hs (by omega) (fun i x z H1 Kc hx hz' g1 kc => ?_) (fun H1 hD g1 => ?_)
  · obtain ⟨r, er, hr'⟩ := paired_get hp hx
    rw [List.getElem?_map, er] at hz'
    cases hz'
    have hb := hz r (List.mem_of_getElem? er)
    exact ⟨rfl, _, rfl, x, r, k, rfl, hr'.gr g1, k1, k3, hb.1, hb.2, kc H1 (Gr.refl _)⟩
  · exact ⟨_, D, rs.map numT, rfl, rfl, .inl (SqL.of hD), point_small l k1 k3 hz, q H1 g1⟩
def spShWish (K : PySem.W.Frag) : Sp := fun vs H Q _ => ∃ (a : Addr) (hs : List (Option Int)), vs = [.ref a] ∧ SqT K H a (hs.map hopeV) ∧ hs.length ≤ 1000 ∧ (∀ h, h ∈ hs → HopeOk h) ∧ ∀ H', Gr H H' → Q (.str (wishT hs)) H'
theorem wish_small {hs : List (Option Int)} (l : hs.length ≤ 1000) : ((hs.map sgnT).map (·.length)).sum + (hs.map sgnT).length * ("" : Str).length ≤ 16777216 := by
  have := join_sum (a := "") (ys := hs.map sgnT) (b := 1) fun y hy => by
    obtain ⟨z, _, rfl⟩ := List.mem_map.mp hy
    rw [sgnT_len]
    exact Nat.le_refl _
  rw [List.length_map] at this ⊢
  have e : ("" : Str).length = 0 := rfl
  rw [e] at this ⊢
  omega
theorem sc_shWish : FnScope ["wish", "wished"] ["wish"] (defScope s_show_wish) := ⟨rfl, rfl, rfl, by decide +kernel, rfl, by decide +kernel, by decide +kernel⟩
theorem cl_shWish (D : Df K mg "show_wish" s_show_wish) (CS : Cl P w K mg base 1 "_sign_of" ["wished"] spSignOf) : Cl P w K mg base 2 "show_wish" ["wish"] (spShWish K) := by
  refine D.cl (fun _ _ _ _ _ _ us hl => match us, hl with | [_], _ => rfl) fun f fd F => F.ok sc_shWish (fun vs H Q E h => ?_) (fun cdv A outer s H vs Q E hr h => ?_)
  · obtain ⟨a, hs, rfl, _⟩ := h
    rfl
  obtain ⟨a, hs, rfl, hS, l, ho, q⟩ := h
  refine ⟨_, (pss_one (ps_ret (pe_ifExp (pt_truth (pv 0) (by intro _; rfl)) (pe_join pe_str (pe_lc (own := [("wished", 1)]) (g := gName 1) rfl sc_shWish.nd (pi_tup (pv 0)) (blkOk_by (N := ["wish", "wished"]) (sc := defScope s_show_wish) (by decide +kernel)) (fun _ _ _ _ _ => (pg_name (i := 1) sc_shWish.nd rfl (Or.inl rfl))) (fun _ _ _ _ _ => pts_nil) (fun _ _ _ _ _ => (pe_cl CS (hr.mono (by decide)) (pa_cons (pv 1) pa_nil))))) pe_str))), ?_⟩
  refine ⟨_, rfl, !(hs.map hopeV).isEmpty, .inr (.inl ⟨_, hS, rfl⟩), ?_⟩
  cases hs with
  | nil => exact iteF (q H (Gr.refl _))
  | cons h0 r =>
    refine iteT ?_
    refine ⟨⟨_, rfl⟩, _, rfl, a, rfl, ⟨_, hS⟩, fun D nD => ?_⟩
    refine lc_txts (K := K) ((h0 :: r).map sgnT) (by rw [List.length_map, List.length_map]) nD hS (by rw [List.length_map]; exact l) (fun i x z H1 Kc hx hz' g1 kc => ?_) (fun H1 hD g1 => ?_)
    · rw [List.getElem?_map] at hx hz'
      cases e : (h0 :: r)[i]? with
      | none => rw [e] at hx; cases hx
      | some n =>
        rw [e] at hx hz'
        cases hx
        cases hz'
        exact ⟨rfl, _, rfl, n, rfl, ho n (List.mem_of_getElem? e), kc H1 (Gr.refl _)⟩
    · exact ⟨_, D, (h0 :: r).map sgnT, rfl, rfl, .inl (SqL.of hD), wish_small l, q H1 g1⟩
theorem sc_shRow : FnScope ["row"] ["row"] (defScope s_show_row) := ⟨rfl, rfl, rfl, by decide +kernel, rfl, by decide +kernel, by decide +kernel⟩
theorem cl_shRow (D : Df K mg "show_row" s_show_row) (CW : Cl P w K mg base 2 "show_wish" ["wish"] (spShWish K)) : Cl P w K mg base 3 "show_row" ["row"] (spShWish K) := by
  refine D.cl (fun _ _ _ _ _ _ us hl => match us, hl with | [_], _ => rfl) fun f fd F => F.ok sc_shRow (fun vs H Q E h => ?_) (fun cdv A outer s H vs Q E hr h => ?_)
  · obtain ⟨a, hs, rfl, _⟩ := h
    rfl
  obtain ⟨a, hs, rfl, hS, l, ho, q⟩ := h
  refine ⟨_, (pss_one (ps_ret (pe_cl CW (hr.mono (by decide)) (pa_cons (pv 0) pa_nil)))), ?_⟩
  exact ⟨_, rfl, a, hs, rfl, hS, l, ho, q⟩
def spShQu (K : PySem.W.Frag) : Sp := fun vs H Q _ => ∃ x q0 k, vs = [x] ∧ QuV K H x q0 ∧ q0.1.length ≤ 12 ∧ 1 ≤ k ∧ k ≤ 300 ∧ (∀ z, z ∈ q0.1 → z.natAbs < 10 ^ k) ∧ q0.2.natAbs < 10 ^ k ∧ ∀ H', Gr H H' → Q (.str (quT q0)) H'
theorem sc_shQu : FnScope ["question", "sides", "wall"] ["question"] (defScope s_show_question) := ⟨rfl, rfl, rfl, by decide +kernel, rfl, by decide +kernel, by decide +kernel⟩
theorem cl_shQu (D : Df K mg "show_question" s_show_question) (CS : Cl P w K mg base 1 "_show_sides" ["sides"] (spShSides K)) : Cl P w K mg base 2 "show_question" ["question"] (spShQu K) := by
  refine D.cl (fun _ _ _ _ _ _ us hl => match us, hl with | [_], _ => rfl) fun f fd F => F.ok sc_shQu (fun vs H Q E h => ?_) (fun cdv A outer s H vs Q E hr h => ?_)
  · obtain ⟨x, q0, k, rfl, _⟩ := h
    rfl
  obtain ⟨x, q0, k, rfl, ⟨a, sv, rfl, hs, hsi⟩, l, k1, k3, hz, hw, q⟩ := h
  refine ⟨_, (pss_cons (ps_asg (pv 0) (pg_tup rfl (pgs_cons (pg_name (i := 1) sc_shQu.nd rfl (Or.inl rfl)) (pgs_cons (pg_name (i := 2) sc_shQu.nd rfl (Or.inl rfl)) pgs_nil))))
    (pss_one (ps_ret (pe_joined (.cons (pe_fmt (pe_cl CS (hr.mono (by decide)) (pa_cons (pv 1) pa_nil))) (.cons pe_str (.cons (pe_fmt (pv 2)) .nil))))))), ?_⟩
  refine ⟨_, rfl, a, _, rfl, hs, rfl, _, _, rfl, _, _, rfl, rfl, ?_⟩
  have l1 := sidesT_len k1 hz
  have l2 := iT_len k1 hw
  have l3 : q0.1.length * (k + 1 + 1) ≤ 12 * 302 := Nat.mul_le_mul l (by omega)
  have e : (" : " : Str).length = 3 := rfl
  have s0 : 10000 ≤ sizeLine := by decide
  refine ⟨_, rfl, sv, q0.1, k, rfl, hsi, l, k1, k3, hz, fun H1 g1 => .inl ⟨_, rfl, by omega, _, rfl, ?_, _, rfl, ?_, _, rfl, .inr ⟨q0.2, rfl, iT_log hw k3, iT q0.2, rfl, ?_, ?_⟩⟩⟩
  · rw [emp_app]; omega
  · rw [emp_app, len_app]; omega
  · rw [emp_app, len_app, len_app]; omega
  · rw [emp_app]; exact q H1 g1
def spShBook (K : PySem.W.Frag) : Sp := fun vs H Q _ => ∃ x d qs k, vs = [x] ∧ BkV K H x d qs ∧ d ≤ 12 ∧ qs.length ≤ 100 ∧ 1 ≤ k ∧ k ≤ 300 ∧ (∀ q, q ∈ qs → q.1.length ≤ 12 ∧ (∀ z, z ∈ q.1 → z.natAbs < 10 ^ k) ∧ q.2.natAbs < 10 ^ k) ∧ ∀ H', Gr H H' → Q (.str (bookT (d : Int) qs)) H'
theorem sc_shBook : FnScope ["book", "d", "questions", "question"] ["book"] (defScope s_show_book) := ⟨rfl, rfl, rfl, by decide +kernel, rfl, by decide +kernel, by decide +kernel⟩
theorem d_small {d : Nat} (h : d ≤ 12) : ((d : Nat) : Int).natAbs < 10 ^ 2 := by
  rw [Int.natAbs_natCast]
  exact Nat.lt_of_le_of_lt h (by decide)
theorem book_small {d : Nat} {qs : List (List Int × Int)} {k : Nat} (hd : d ≤ 12) (l : qs.length ≤ 100) (k1 : 1 ≤ k) (k3 : k ≤ 300) (hz : ∀ q, q ∈ qs → q.1.length ≤ 12 ∧ (∀ z, z ∈ q.1 → z.natAbs < 10 ^ k) ∧ q.2.natAbs < 10 ^ k) : (((("book " : Str) ++ iT (d : Int)) :: qs.map quT).map (·.length)).sum + ((("book " : Str) ++ iT (d : Int)) :: qs.map quT).length * ("\n" : Str).length ≤ 16777216 := by
  have := join_sum (a := "\n") (ys := (("book " : Str) ++ iT (d : Int)) :: qs.map quT) (b := 5000) fun y hy => by
    rcases List.mem_cons.mp hy with rfl | hy
    · rw [len_app]
      have := iT_len (by decide) (d_small hd)
      have e : ("book " : Str).length = 5 := rfl
      omega
    · obtain ⟨z, hz', rfl⟩ := List.mem_map.mp hy
      obtain ⟨a, b, c⟩ := hz z hz'
      have h1 := quT_len k1 b c
      have h2 : z.1.length * (k + 1 + 1) ≤ 12 * 302 := Nat.mul_le_mul a (by omega)
      omega
  have e : ("\n" : Str).length = 1 := rfl
  have e2 : ((("book " : Str) ++ iT (d : Int)) :: qs.map quT).length = qs.length + 1 := by rw [List.length_cons, List.length_map]
  rw [e2, e] at this ⊢
  omega
theorem cl_shBook (D : Df K mg "show_book" s_show_book) (CQ : Cl P w K mg base 2 "show_question" ["question"] (spShQu K)) : Cl P w K mg base 3 "show_book" ["book"] (spShBook K) := by
  refine D.cl (fun _ _ _ _ _ _ us hl => match us, hl with | [_], _ => rfl) fun f fd F => F.ok sc_shBook (fun vs H Q E h => ?_) (fun cdv A outer s H vs Q E hr h => ?_)
  · obtain ⟨x, d, qs, k, rfl, _⟩ := h
    rfl
  obtain ⟨x, d, qs, k, rfl, ⟨a, b, xs, rfl, hs, hb, hp⟩, hd, l, k1, k3, hz, q⟩ := h
  have lx := paired_len hp
  refine ⟨_, (pss_cons (ps_asg (pv 0) (pg_tup rfl (pgs_cons (pg_name (i := 1) sc_shBook.nd rfl (Or.inl rfl)) (pgs_cons (pg_name (i := 2) sc_shBook.nd rfl (Or.inl rfl)) pgs_nil))))
    (pss_one (ps_ret (pe_join pe_str (pe_op op_cat (pe_lst (pa_cons (pe_joined (.cons pe_str (.cons (pe_fmt (pv 1)) .nil))) pa_nil)) (pe_lc (own := [("question", 3)]) (g := gName 3) rfl sc_shBook.nd (pi_tup (pv 2)) (blkOk_by (N := ["book", "d", "questions", "question"]) (sc := defScope s_show_book) (by decide +kernel)) (fun _ _ _ _ _ => (pg_name (i := 3) sc_shBook.nd rfl (Or.inl rfl))) (fun _ _ _ _ _ => pts_nil) (fun _ _ _ _ _ => (pe_cl CQ (hr.mono (by decide)) (pa_cons (pv 3) pa_nil))))))))), ?_⟩
  refine ⟨_, rfl, a, _, rfl, hs, rfl, _, _, rfl, _, _, rfl, rfl, ?_⟩
  have e5 : ("book " : Str).length = 5 := rfl
  have s0 : 1000 ≤ sizeLine := by decide
  have li := iT_len (by decide) (d_small hd)
  refine ⟨⟨_, rfl⟩, _, rfl, by rw [emp_app]; omega, _, rfl, .inr ⟨(d : Int), rfl, iT_log (d_small hd) (by decide), iT (d : Int), rfl, by rw [emp_app, len_app]; omega, ?_⟩⟩
  rw [emp_app]
  refine ⟨szN (by show 1 ≤ 1000000; decide), fun L nL => ?_⟩
  have rL := (Gr.refl H).new nL (.lst [.str ("book " ++ iT (d : Int))])
  refine ⟨_, rfl, b, rfl, ⟨_, rL.seqT hb⟩, fun D nD => ?_⟩
  have eL : (upd H L (.lst [.str ("book " ++ iT (d : Int))])) L = some (.lst [.str ("book " ++ iT (d : Int))]) := upd_same
  have hbL := rL.seqT hb
  generalize upd H L (.lst [.str ("book " ++ iT (d : Int))]) = H0 at rL eL nD hbL ⊢
  refine lc_txts (K := K) (qs.map quT) (by rw [List.length_map, lx]) nD hbL (by omega) (fun i x z H1 Kc hx hz' g1 kc => ?_) (fun H1 hD g1 => ?_)
  · obtain ⟨r, er, hr'⟩ := paired_get hp hx
    rw [List.getElem?_map, er] at hz'
    cases hz'
    obtain ⟨b1, b2, b3⟩ := hz r (List.mem_of_getElem? er)
    exact ⟨rfl, _, rfl, x, r, k, rfl, hr'.gr (rL.trans g1), b1, k1, k3, b2, b3, kc⟩
  · refine ⟨L, D, _, _, rfl, rfl, g1.lstK eL, hD, szN (by rw [List.length_map, List.length_map]; show 1 + _ ≤ _; omega), fun p np => ?_⟩
    have rp := (Gr.refl H1).new np (.lst ([V.str ("book " ++ iT (d : Int))] ++ (qs.map quT).map V.str))
    exact ⟨_, p, (("book " ++ iT (d : Int)) :: qs.map quT), rfl, rfl, .inl (SqL.of upd_same), book_small hd l k1 k3 hz, q _ ((rL.trans g1).trans rp)⟩
/-! ### sayings -/
def spShSay (K : PySem.W.Frag) (n : Nat) : Sp := fun vs H Q _ => ∃ x s d k, vs = [x] ∧ SayV K H s x ∧ SayB (10 ^ k) d s ∧ d ≤ 12 ∧ 1 ≤ k ∧ k ≤ 60 ∧ depS s ≤ n ∧ szS s ≤ 5000 ∧ ∀ H', Gr H H' → Q (.str (sayT s)) H'
theorem sc_shSay : FnScope ["saying", "word", "parts", "part", "shown"] ["saying"] (defScope s_show_saying) := ⟨rfl, rfl, rfl, by decide +kernel, rfl, by decide +kernel, by decide +kernel⟩
theorem in_wordC (s : Say) : inV (.str (wordS s)) [.str "not", .str "both", .str "either"] = !isQ s := by
  cases s with
  | q a ns wl =>
    show inV (.str (wordA a)) _ = false
    unfold wordA
    split
    · decide +kernel
    · split <;> decide +kernel
  | nt s => exact (by decide +kernel : inV (.str ("not" : Str)) [.str "not", .str "both", .str "either"] = true)
  | bo s t => exact (by decide +kernel : inV (.str ("both" : Str)) [.str "not", .str "both", .str "either"] = true)
  | ei s t => exact (by decide +kernel : inV (.str ("either" : Str)) [.str "not", .str "both", .str "either"] = true)
theorem part_sz {s t : Say} (h : t ∈ partsS s) : szS t ≤ szS s := by
  cases s with
  | q => cases h
  | nt s =>
    rw [List.mem_singleton.mp h]
    exact Nat.le_succ _
  | bo s u =>
    simp only [partsS, List.mem_cons, List.not_mem_nil, or_false] at h
    simp only [szS]
    rcases h with rfl | rfl <;> omega
  | ei s u =>
    simp only [partsS, List.mem_cons, List.not_mem_nil, or_false] at h
    simp only [szS]
    rcases h with rfl | rfl <;> omega
theorem parts_n (s : Say) : (partsS s).length ≤ 2 := by cases s <;> simp [partsS]
theorem wordS_len (s : Say) : (wordS s).length ≤ 6 := by
  cases s with
  | q a ns wl => exact Nat.le_trans (wordA_len a) (by decide)
  | nt s => exact (by decide : ("not" : Str).length ≤ 6)
  | bo s t => exact (by decide : ("both" : Str).length ≤ 6)
  | ei s t => exact (by decide : ("either" : Str).length ≤ 6)
theorem say_small {s : Say} {k d : Nat} (k1 : 1 ≤ k) (k6 : k ≤ 60) (hd : d ≤ 12) (ok : SayB (10 ^ k) d s) (sz : szS s ≤ 5000) : ((wordS s :: (partsS s).map sayT).map (·.length)).sum + (wordS s :: (partsS s).map sayT).length * (" " : Str).length ≤ 15003000 := by
  have := join_sum (a := " ") (ys := wordS s :: (partsS s).map sayT) (b := 5000000) fun y hy => by
    rcases List.mem_cons.mp hy with rfl | hy
    · have := wordS_len s
      omega
    · obtain ⟨t, ht, rfl⟩ := List.mem_map.mp hy
      have h1 := sayT_len k1 k6 hd (part_ok ok ht)
      have h2 := part_sz ht
      omega
  have e : (" " : Str).length = 1 := rfl
  have e2 : (wordS s :: (partsS s).map sayT).length = (partsS s).length + 1 := by rw [List.length_cons, List.length_map]
  have e3 := parts_n s
  rw [e2, e] at this ⊢
  omega
theorem qsay_small {a : Int} {ns : List Int} {wl : Int} {k d : Nat} (k1 : 1 ≤ k) (k6 : k ≤ 60) (hd : d ≤ 12) (ok : SayB (10 ^ k) d (.q a ns wl)) : ((wordA a :: [Str.empty ++ "[" ++ sidesT ns ++ "]", iT wl]).map (·.length)).sum + (wordA a :: [Str.empty ++ "[" ++ sidesT ns ++ "]", iT wl]).length * (" " : Str).length ≤ 15003000 := by
  obtain ⟨_, _, l, z, w⟩ := ok
  have x1 := sidesT_len k1 z
  have x2 := iT_len k1 w
  have x3 := wordA_len a
  have x4 : ns.length * (k + 1 + 1) ≤ 12 * 62 := Nat.mul_le_mul (by omega) (by omega)
  have e : ((wordA a :: [Str.empty ++ "[" ++ sidesT ns ++ "]", iT wl]).map (·.length)).sum = (wordA a).length + ((Str.empty ++ "[" ++ sidesT ns ++ "]").length + ((iT wl).length + 0)) := rfl
  have e0 : (wordA a :: [Str.empty ++ "[" ++ sidesT ns ++ "]", iT wl]).length * (" " : Str).length = 3 := rfl
  have e1 : ("[" : Str).length = 1 := rfl
  have e2 : ("]" : Str).length = 1 := rfl
  rw [e, e0, emp_app, len_app, len_app]
  omega
theorem sz15 {n : Nat} (h : n ≤ 15003010) : n ≤ sizeLine := by
  rw [sizeLine_eq]
  omega
theorem ok_shSay {n : Nat} {f g : Addr} {fd gd : FuncData} (F : Fun K "show_saying" "show_saying" s_show_saying f fd) (B : Blt mg) (CS : Cl P w K mg base 1 "_show_sides" ["sides"] (spShSides K)) (G : FnOk P w K mg base CX0 (n + 1) g gd ["saying"] (spShSay K n)) (bG : Binds K gd ["saying"] []) (kG : PySem.W.keepIn K (.ref g) = true) (mG : mg "show_saying" = some (.ref g)) :
    FnOk P w K mg base CX0 (n + 2) f fd ["saying"] (spShSay K (n + 1)) := by
  refine F.ok sc_shSay (fun vs H Q E h => ?_) (fun cdv A outer s H vs Q E hr h => ?_)
  · obtain ⟨x, s, d, k, rfl, _⟩ := h
    rfl
  obtain ⟨x, s, d, k, rfl, hx, ok, d12, k1, k6, dp, sz, hQ⟩ := h
  have h1 : (1 : Nat) ≤ n + 1 := by omega
  refine ⟨_, (pss_cons (ps_par (i := 1) (j := 2) rfl sc_shSay.nd rfl rfl (by decide) rfl rfl (pa_cons (pe_ix ix_tup (pv 0) pe_int (fun _ _ => rfl)) (pa_cons (pe_slice sl_tupA (pv 0) (po_some pe_int) po_none) pa_nil)) rfl)
    (pss_cons (ps_if (pt_cmpR op_in_seq (pv 1) (pe_tup (pa_cons pe_str (pa_cons pe_str (pa_cons pe_str pa_nil)))) rfl) (pss_one (ps_setLc (i := 4) (own := [("part", 3)]) (g := gName 3) rfl sc_shSay.nd rfl rfl rfl (pi_tup (pv 2)) (blkOk_by (N := ["saying", "word", "parts", "part", "shown"]) (sc := defScope s_show_saying) (by decide +kernel)) (fun _ _ _ _ _ => (pg_name (i := 3) sc_shSay.nd rfl (Or.inl rfl))) (fun _ _ _ _ _ => pts_nil) (fun _ _ _ _ _ => (pe_call G hr rfl mG kG bG .nil pass0 (pa_cons (pv 3) pa_nil))))) (pss_one (ps_set (i := 4) sc_shSay.nd rfl (.inl rfl) (pe_lst (pa_cons (pe_joined (.cons pe_str (.cons (pe_fmt (pe_cl CS (hr.mono h1) (pa_cons (pe_ix ix_tup (pv 2) pe_int (fun _ _ => rfl)) pa_nil))) (.cons pe_str .nil)))) (pa_cons (pe_callTy call_str_int rfl B.str bootStr (pa_cons (pe_ix ix_tup (pv 2) pe_int (fun _ _ => rfl)) pa_nil)) pa_nil))))))
    (pss_one (ps_ret (pe_op op_add_str (pe_op op_add_str pe_str (pe_join pe_str (pe_op op_cat (pe_lst (pa_cons (pv 1) pa_nil)) (pv 4)))) pe_str))))), ?_⟩
  have hw := in_wordC s
  have e1 : ("(" : Str).length = 1 := rfl
  have e2 : (")" : Str).length = 1 := rfl
  cases hq : isQ s with
  | true =>
    cases s with
    | q a ns wl =>
      obtain ⟨p, sv, rfl, hp, hs⟩ := hx
      have sm := qsay_small k1 k6 d12 ok
      have jl := join_len0 " " (wordA a :: [Str.empty ++ "[" ++ sidesT ns ++ "]", iT wl])
      have esay := sayT_q a ns wl
      obtain ⟨a0, a1, ln, nz, nw⟩ := ok
      have x1 := sidesT_len k1 nz
      have x4 : ns.length * (k + 1 + 1) ≤ 12 * 62 := Nat.mul_le_mul (by omega) (by omega)
      refine ⟨_, rfl, p, _, _, _, rfl, rfl, hp, rfl, _, rfl, _, rfl, yrslF (lo := some 1) hp fun c1 H1 g1 hc => ⟨_, _, rfl, ?_⟩⟩
      rw [cut_tail] at hc
      refine ⟨_, rfl, szN (by show 3 ≤ 1000000; decide), fun T nT => ?_⟩
      have r := (Gr.refl H1).new nT (.tup [.str "not", .str "both", .str "either"])
      refine ⟨T, _, rfl, .inr (SqT.of upd_same), rfl, rfl, _, rfl, ?_⟩
      rw [show (if false = true then !inV (.str (wordA a)) [.str "not", .str "both", .str "either"] else inV (.str (wordA a)) [.str "not", .str "both", .str "either"]) = false from hw]
      refine iteF ?_
      have hc2 := r.seqT hc
      have g02 := g1.trans r
      generalize upd H1 T (.tup [.str "not", .str "both", .str "either"]) = H2 at hc2 g02 ⊢
      refine ⟨_, rfl, sz15 (by rw [emp_app]; decide), _, rfl, c1, _, _, _, rfl, rfl, hc2, rfl, sv, ns, k, rfl, hs.gr g02, by omega, k1, by omega, nz, fun H3 g3 => .inl ⟨_, rfl, sz15 (by omega), _, rfl, ?_, _, rfl, ?_, ?_⟩⟩
      · exact sz15 (by rw [emp_app, len_app, show ("[" : Str).length = 1 from rfl]; omega)
      · exact sz15 (by rw [emp_app, len_app, len_app, show ("[" : Str).length = 1 from rfl, show ("]" : Str).length = 1 from rfl]; omega)
      refine ⟨_, rfl, c1, _, _, _, rfl, rfl, g3.seqT hc2, rfl, wl, rfl, iT_log nw (by omega), szN (by show 2 ≤ 1000000; decide), fun L nL => ?_⟩
      have rL := (Gr.refl H3).new nL (.lst [.str (Str.empty ++ "[" ++ sidesT ns ++ "]"), .str (iT wl)])
      have eL : (upd H3 L (.lst [.str (Str.empty ++ "[" ++ sidesT ns ++ "]"), .str (iT wl)])) L = some (.lst [.str (Str.empty ++ "[" ++ sidesT ns ++ "]"), .str (iT wl)]) := upd_same
      refine ⟨⟨_, rfl⟩, _, rfl, szN (by show 1 ≤ 1000000; decide), fun W nW => ?_⟩
      have rW := rL.new nW (.lst [.str (wordA a)])
      have rW1 := (Gr.refl _).new nW (.lst [.str (wordA a)])
      refine ⟨_, rfl, W, L, _, _, rfl, rfl, upd_same, rW1.lstK eL, szN (by show 3 ≤ 1000000; decide), fun D nD => ?_⟩
      have rD := rW.new nD (.lst ([.str (wordA a)] ++ [.str (Str.empty ++ "[" ++ sidesT ns ++ "]"), .str (iT wl)]))
      refine ⟨_, D, (wordA a :: [Str.empty ++ "[" ++ sidesT ns ++ "]", iT wl]), rfl, rfl, .inl (SqL.of upd_same), by omega, ?_⟩
      refine ⟨_, _, rfl, rfl, sz15 (by omega), _, _, rfl, rfl, sz15 (by rw [len_app]; omega), ?_⟩
      have := hQ _ ((g02.trans g3).trans rD)
      rw [esay] at this
      exact this
    | nt s => cases hq
    | bo s t => cases hq
    | ei s t => cases hq
  | false =>
    rw [hq] at hw
    obtain ⟨p, ys, rfl, hp, hpt⟩ := hx.parts hq
    have lys := paired_len hpt
    have pn := parts_n s
    have sm := say_small k1 k6 d12 ok sz
    have jl := join_len0 " " (wordS s :: (partsS s).map sayT)
    have esay := sayT_parts hq
    refine ⟨_, rfl, p, _, _, .str (wordS s), rfl, rfl, hp, atI_nat (j := 0) rfl, _, rfl, _, rfl, yrslF (lo := some 1) hp fun c1 H1 g1 hc => ⟨_, _, rfl, ?_⟩⟩
    rw [cut_tail] at hc
    refine ⟨_, rfl, szN (by show 3 ≤ 1000000; decide), fun T nT => ?_⟩
    have r := (Gr.refl H1).new nT (.tup [.str "not", .str "both", .str "either"])
    refine ⟨T, _, rfl, .inr (SqT.of upd_same), rfl, rfl, _, rfl, ?_⟩
    rw [show (if false = true then !inV (.str (wordS s)) [.str "not", .str "both", .str "either"] else inV (.str (wordS s)) [.str "not", .str "both", .str "either"]) = true from hw]
    refine iteT ?_
    have hc2 := r.seqT hc
    have g02 := g1.trans r
    generalize upd H1 T (.tup [.str "not", .str "both", .str "either"]) = H2 at hc2 g02 ⊢
    refine ⟨_, rfl, c1, rfl, ⟨_, hc2⟩, fun D nD => ?_⟩
    refine lc_txts (K := K) ((partsS s).map sayT) (by rw [List.length_map, lys]) nD hc2 (by omega) (fun i x z H3 Kc hx hz' g3 kc => ?_) (fun H3 hD g3 => ?_)
    · obtain ⟨t, et, ht⟩ := paired_get hpt hx
      rw [List.getElem?_map, et] at hz'
      cases hz'
      have tm := List.mem_of_getElem? et
      have dt := part_dep tm
      have st := part_sz tm
      exact ⟨rfl, _, rfl, x, t, d, k, rfl, SayV.gr (g02.trans g3) ht, part_ok ok tm, d12, k1, k6, by omega, by omega, kc⟩
    · refine ⟨⟨_, rfl⟩, _, rfl, szN (by show 1 ≤ 1000000; decide), fun W nW => ?_⟩
      have rW := (Gr.refl H3).new nW (.lst [.str (wordS s)])
      refine ⟨_, rfl, W, D, _, _, rfl, rfl, upd_same, rW.lstK hD, szN (by rw [List.length_map, List.length_map]; show 1 + _ ≤ _; omega), fun D2 nD2 => ?_⟩
      have rD := rW.new nD2 (.lst ([.str (wordS s)] ++ ((partsS s).map sayT).map V.str))
      refine ⟨_, D2, (wordS s :: (partsS s).map sayT), rfl, rfl, .inl (SqL.of upd_same), by omega, ?_⟩
      refine ⟨_, _, rfl, rfl, sz15 (by omega), _, _, rfl, rfl, sz15 (by rw [len_app]; omega), ?_⟩
      have := hQ _ ((g02.trans g3).trans rD)
      rw [esay] at this
      exact this
theorem shSay_all {f : Addr} {fd : FuncData} (F : Fun K "show_saying" "show_saying" s_show_saying f fd) (B : Blt mg) (CS : Cl P w K mg base 1 "_show_sides" ["sides"] (spShSides K)) (bF : Binds K fd ["saying"] []) (mF : mg "show_saying" = some (.ref f)) : ∀ n : Nat, FnOk P w K mg base CX0 (n + 1) f fd ["saying"] (spShSay K n)
  | 0 => by
    have no : ∀ vs H Q E, ¬ spShSay K 0 vs H Q E := fun vs H Q E h => by
      obtain ⟨x, s, d, k, _, _, _, _, _, _, dp, _⟩ := h
      have := dep_pos s
      omega
    exact ⟨fun vs H Q E h => absurd h (no vs H Q E), fun A outer s H args us vs Q E _ _ _ _ h => absurd h (no vs H Q E)⟩
  | n + 1 => ok_shSay F B CS (shSay_all F B CS bF mF n) bF F.kp mF
theorem cl_shSay (D : Df K mg "show_saying" s_show_saying) (B : Blt mg) (CS : Cl P w K mg base 1 "_show_sides" ["sides"] (spShSides K)) (n : Nat) : Cl P w K mg base (n + 1) "show_saying" ["saying"] (spShSay K n) := by
  obtain ⟨f, fd, F, m⟩ := D.ex
  have bF : Binds K fd ["saying"] [] := F.binds fun _ _ _ _ _ _ us hl => match us, hl with | [_], _ => rfl
  obtain ⟨oc, od, kV, doc, pm, an, cdv, ct, osl, e, lk, hcd⟩ := F.ex
  exact ⟨⟨f, fd, shSay_all F B CS bF m n, m, F.kp, bF⟩, fun g hg => by
    rw [m] at hg
    cases hg
    exact ⟨fd, shSay_all F B CS bF m n, oc, od, osl, lk⟩⟩
end
end SB
namespace SB
open PySem L2 GxR GA RZ RP TL
def kvsS : List (Option Key × V) := [(some (Sum.inl (-1)), .str "-"), (some (Sum.inl 0), .str "0"), (some (Sum.inl 1), .str "+"), (none, .str "?")]
theorem val_sign {h : Option Int} (ho : HopeOk h) : ∃ k, hopeV h = nkV k ∧ valV (mergeN [] kvsS) k = some (.str (sgnT h)) := by
  rcases ho with rfl | rfl | rfl | rfl
  · exact ⟨none, rfl, rfl⟩
  · exact ⟨some (Sum.inl (-1)), rfl, rfl⟩
  · exact ⟨some (Sum.inl 0), rfl, rfl⟩
  · exact ⟨some (Sum.inl 1), rfl, rfl⟩
section
variable {P : Program} {w : World} {K : PySem.W.Frag} {mg : Str → Option Value} {base : Heap}
/-! ### the law's own texts -/
theorem sc_lsNum : FnScope ["a"] ["a"] (defScope s__law_said_number) := ⟨rfl, rfl, rfl, by decide +kernel, rfl, by decide +kernel, by decide +kernel⟩
theorem cl_lsNum (D : Df K mg "_law_said_number" s__law_said_number) (B : Blt mg) : Cl P w K mg base 1 "_law_said_number" ["a"] (spShNum K) := by
  refine D.cl (fun _ _ _ _ _ _ us hl => match us, hl with | [_], _ => rfl) fun f fd F => F.ok sc_lsNum (fun vs H Q E h => ?_) (fun cdv A outer s H vs Q E hr h => ?_)
  · obtain ⟨x, r, k, rfl, _⟩ := h
    rfl
  obtain ⟨x, r, k, rfl, ⟨a, rfl, hs⟩, k1, k3, h1, h2, q⟩ := h
  refine ⟨_, (pss_one (ps_ret (pe_ifExp (pt_cmpR op_eq (pe_ix ix_tup (pv 0) pe_int (fun _ _ => rfl)) pe_int (nomark _)) (pe_callTy call_str_int rfl B.str bootStr (pa_cons (pe_ix ix_tup (pv 0) pe_int (fun _ _ => rfl)) pa_nil)) (pe_op op_add_str (pe_op op_add_str (pe_callTy call_str_int rfl B.str bootStr (pa_cons (pe_ix ix_tup (pv 0) pe_int (fun _ _ => rfl)) pa_nil)) pe_str) (pe_callTy call_str_int rfl B.str bootStr (pa_cons (pe_ix ix_tup (pv 0) pe_int (fun _ _ => rfl)) pa_nil)))))), ?_⟩
  have l1 := iT_len k1 h1
  have l2 := iT_len k1 h2
  have e : ("/" : Str).length = 1 := rfl
  refine ⟨_, rfl, a, _, _, _, rfl, rfl, hs, rfl, rfl, _, rfl, ?_⟩
  have q0 := q
  unfold numT at q0
  by_cases c : r.2 = 1
  · rw [if_pos c] at q0
    exact iteP (congrArg V.int c) ⟨_, rfl, a, _, _, _, rfl, rfl, hs, rfl, r.1, rfl, iT_log h1 k3, q0⟩
  · rw [if_neg c] at q0
    refine iteN (fun z => c (by injection z)) ⟨_, rfl, a, _, _, _, rfl, rfl, hs, rfl, r.1, rfl, iT_log h1 k3, iT r.1, "/", rfl, rfl, sz15 (by omega), _, rfl, a, _, _, _, rfl, rfl, hs, rfl, r.2, rfl, iT_log h2 k3, iT r.1 ++ "/", iT r.2, rfl, rfl, sz15 ?_, q0⟩
    rw [len_app]
    omega
theorem sc_lsWish : FnScope ["wish", "own"] ["wish"] (defScope s__law_said_wish) := ⟨rfl, rfl, rfl, by decide +kernel, rfl, by decide +kernel, by decide +kernel⟩
theorem cl_lsWish (D : Df K mg "_law_said_wish" s__law_said_wish) : Cl P w K mg base 1 "_law_said_wish" ["wish"] (spShWish K) := by
  refine D.cl (fun _ _ _ _ _ _ us hl => match us, hl with | [_], _ => rfl) fun f fd F => F.ok sc_lsWish (fun vs H Q E h => ?_) (fun cdv A outer s H vs Q E hr h => ?_)
  · obtain ⟨a, hs, rfl, _⟩ := h
    rfl
  obtain ⟨a, hs, rfl, hS, l, ho, q⟩ := h
  refine ⟨_, (pss_one (ps_ret (pe_ifExp (pt_cmpR (op_neD hr.units) (pv 0) (pe_tup pa_nil) (nomark _)) (pe_join pe_str (pe_lc (own := [("own", 1)]) (g := gName 1) rfl sc_lsWish.nd (pi_tup (pv 0)) (blkOk_by (N := ["wish", "own"]) (sc := defScope s__law_said_wish) (by decide +kernel)) (fun _ _ _ _ _ => (pg_name (i := 1) sc_lsWish.nd rfl (Or.inl rfl))) (fun _ _ _ _ _ => pts_nil) (fun _ _ _ _ _ => (pe_signs (pps_cons (pe_un un_neg pe_int) pe_str (pps_cons pe_int pe_str (pps_cons pe_int pe_str (pps_cons pe_non pe_str pps_nil)))) (pv 1) rfl rfl (fun z => by cases z) (by decide) (fun _ _ => rfl))))) pe_str))), ?_⟩
  refine ⟨_, rfl, szN (by show 0 ≤ 1000000; decide), fun T nT => ?_⟩
  have r := (Gr.refl H).new nT (.tup [])
  have hT : SqT K (upd H T (.tup [])) T [] := SqT.of upd_same
  have hS2 := r.seqT hS
  generalize upd H T (.tup []) = H1 at r hT hS2 ⊢
  refine ⟨_, _, .tup hS2 (dp_hopes hs), .tup hT .nil, shp_hopes hs, by decide, _, rfl, ?_⟩
  cases hs with
  | nil => exact iteF (q H1 r)
  | cons h0 r0 =>
    refine iteT ?_
    refine ⟨⟨_, rfl⟩, _, rfl, a, rfl, ⟨_, hS2⟩, fun D nD => ?_⟩
    refine lc_txts (K := K) ((h0 :: r0).map sgnT) (by rw [List.length_map, List.length_map]) nD hS2 (by rw [List.length_map]; exact l) (fun i x z H3 Kc hx hz' g3 kc => ?_) (fun H3 hD g3 => ?_)
    · rw [List.getElem?_map] at hx hz'
      cases e : (h0 :: r0)[i]? with
      | none => rw [e] at hx; cases hx
      | some n =>
        rw [e] at hx hz'
        cases hx
        cases hz'
        obtain ⟨kk, e1, e2⟩ := val_sign (ho n (List.mem_of_getElem? e))
        exact ⟨rfl, _, rfl, kvsS, rfl, _, rfl, kk, _, e1, e2, kc H3 (Gr.refl _)⟩
    · exact ⟨_, D, (h0 :: r0).map sgnT, rfl, rfl, .inl (SqL.of hD), wish_small l, q H3 (r.trans g3)⟩
theorem sc_lsQu : FnScope ["question", "side"] ["question"] (defScope s__law_said_question) := ⟨rfl, rfl, rfl, by decide +kernel, rfl, by decide +kernel, by decide +kernel⟩
theorem cl_lsQu (D : Df K mg "_law_said_question" s__law_said_question) (B : Blt mg) : Cl P w K mg base 1 "_law_said_question" ["question"] (spShQu K) := by
  refine D.cl (fun _ _ _ _ _ _ us hl => match us, hl with | [_], _ => rfl) fun f fd F => F.ok sc_lsQu (fun vs H Q E h => ?_) (fun cdv A outer s H vs Q E hr h => ?_)
  · obtain ⟨x, q0, k, rfl, _⟩ := h
    rfl
  obtain ⟨x, q0, k, rfl, ⟨a, sv, rfl, hs, b, rfl, hb⟩, l, k1, k3, hz, hw, q⟩ := h
  refine ⟨_, (pss_one (ps_ret (pe_op op_add_str (pe_op op_add_str (pe_join pe_str (pe_lc (own := [("side", 1)]) (g := gName 1) rfl sc_lsQu.nd (pi_tup (pe_ix ix_tup (pv 0) pe_int (fun _ _ => rfl))) (blkOk_by (N := ["question", "side"]) (sc := defScope s__law_said_question) (by decide +kernel)) (fun _ _ _ _ _ => (pg_name (i := 1) sc_lsQu.nd rfl (Or.inl rfl))) (fun _ _ _ _ _ => pts_nil) (fun _ _ _ _ _ => (pe_callTy call_str_int rfl B.str bootStr (pa_cons (pv 1) pa_nil))))) pe_str) (pe_callTy call_str_int rfl B.str bootStr (pa_cons (pe_ix ix_tup (pv 0) pe_int (fun _ _ => rfl)) pa_nil))))), ?_⟩
  have l1 := sidesT_len k1 hz
  have l2 := iT_len k1 hw
  have l3 : q0.1.length * (k + 1 + 1) ≤ 12 * 302 := Nat.mul_le_mul l (by omega)
  have e : (" : " : Str).length = 3 := rfl
  refine ⟨⟨_, rfl⟩, _, rfl, a, _, _, _, rfl, rfl, hs, rfl, b, rfl, ⟨_, hb⟩, fun D nD => ?_⟩
  refine lc_txts (K := K) (q0.1.map iT) (by rw [List.length_map, List.length_map]) nD hb (by rw [List.length_map]; omega) (fun i x z H1 Kc hx hz' g1 kc => ?_) (fun H1 hD g1 => ?_)
  · rw [List.getElem?_map] at hx hz'
    cases e : q0.1[i]? with
    | none => rw [e] at hx; cases hx
    | some n =>
      rw [e] at hx hz'
      cases hx
      cases hz'
      exact ⟨rfl, _, rfl, n, rfl, iT_log (hz n (List.mem_of_getElem? e)) k3, kc H1 (Gr.refl _)⟩
  · refine ⟨_, D, q0.1.map iT, rfl, rfl, .inl (SqL.of hD), sides_small l k1 k3 hz, ?_⟩
    refine ⟨sidesT q0.1, " : ", rfl, rfl, sz15 (by omega), _, rfl, a, _, _, _, rfl, rfl, g1.seqT hs, rfl, q0.2, rfl, iT_log hw k3, sidesT q0.1 ++ " : ", iT q0.2, rfl, rfl, sz15 ?_, q H1 g1⟩
    rw [len_app]
    omega
theorem sc_lsBook : FnScope ["book", "question"] ["book"] (defScope s__law_said_book) := ⟨rfl, rfl, rfl, by decide +kernel, rfl, by decide +kernel, by decide +kernel⟩
theorem cl_lsBook (D : Df K mg "_law_said_book" s__law_said_book) (B : Blt mg) (CQ : Cl P w K mg base 1 "_law_said_question" ["question"] (spShQu K)) : Cl P w K mg base 2 "_law_said_book" ["book"] (spShBook K) := by
  refine D.cl (fun _ _ _ _ _ _ us hl => match us, hl with | [_], _ => rfl) fun f fd F => F.ok sc_lsBook (fun vs H Q E h => ?_) (fun cdv A outer s H vs Q E hr h => ?_)
  · obtain ⟨x, d, qs, k, rfl, _⟩ := h
    rfl
  obtain ⟨x, d, qs, k, rfl, ⟨a, b, xs, rfl, hs, hb, hp⟩, hd, l, k1, k3, hz, q⟩ := h
  have lx := paired_len hp
  refine ⟨_, (pss_one (ps_ret (pe_join pe_str (pe_op op_cat (pe_lst (pa_cons (pe_op op_add_str pe_str (pe_callTy call_str_int rfl B.str bootStr (pa_cons (pe_ix ix_tup (pv 0) pe_int (fun _ _ => rfl)) pa_nil))) pa_nil)) (pe_lc (own := [("question", 1)]) (g := gName 1) rfl sc_lsBook.nd (pi_tup (pe_ix ix_tup (pv 0) pe_int (fun _ _ => rfl))) (blkOk_by (N := ["book", "question"]) (sc := defScope s__law_said_book) (by decide +kernel)) (fun _ _ _ _ _ => (pg_name (i := 1) sc_lsBook.nd rfl (Or.inl rfl))) (fun _ _ _ _ _ => pts_nil) (fun _ _ _ _ _ => (pe_cl CQ (hr.mono (by decide)) (pa_cons (pv 1) pa_nil)))))))), ?_⟩
  have e5 : ("book " : Str).length = 5 := rfl
  have li := iT_len (by decide) (d_small hd)
  refine ⟨⟨_, rfl⟩, _, rfl, a, _, _, _, rfl, rfl, hs, rfl, (d : Int), rfl, iT_log (d_small hd) (by decide), "book ", iT (d : Int), rfl, rfl, sz15 (by omega), ?_⟩
  refine ⟨szN (by show 1 ≤ 1000000; decide), fun L nL => ?_⟩
  have rL := (Gr.refl H).new nL (.lst [.str ("book " ++ iT (d : Int))])
  refine ⟨_, rfl, a, _, _, _, rfl, rfl, rL.seqT hs, rfl, b, rfl, ⟨_, rL.seqT hb⟩, fun D nD => ?_⟩
  have eL : (upd H L (.lst [.str ("book " ++ iT (d : Int))])) L = some (.lst [.str ("book " ++ iT (d : Int))]) := upd_same
  have hbL := rL.seqT hb
  generalize upd H L (.lst [.str ("book " ++ iT (d : Int))]) = H0 at rL eL nD hbL ⊢
  refine lc_txts (K := K) (qs.map quT) (by rw [List.length_map, lx]) nD hbL (by omega) (fun i x z H1 Kc hx hz' g1 kc => ?_) (fun H1 hD g1 => ?_)
  · obtain ⟨r, er, hr'⟩ := paired_get hp hx
    rw [List.getElem?_map, er] at hz'
    cases hz'
    obtain ⟨b1, b2, b3⟩ := hz r (List.mem_of_getElem? er)
    exact ⟨rfl, _, rfl, x, r, k, rfl, hr'.gr (rL.trans g1), b1, k1, k3, b2, b3, kc⟩
  · refine ⟨L, D, _, _, rfl, rfl, g1.lstK eL, hD, szN (by rw [List.length_map, List.length_map]; show 1 + _ ≤ _; omega), fun p np => ?_⟩
    have rp := (Gr.refl H1).new np (.lst ([V.str ("book " ++ iT (d : Int))] ++ (qs.map quT).map V.str))
    exact ⟨_, p, (("book " ++ iT (d : Int)) :: qs.map quT), rfl, rfl, .inl (SqL.of upd_same), book_small hd l k1 k3 hz, q _ ((rL.trans g1).trans rp)⟩
theorem sc_lsSay : FnScope ["saying", "side", "sides", "part"] ["saying"] (defScope s__law_said_saying) := ⟨rfl, rfl, rfl, by decide +kernel, rfl, by decide +kernel, by decide +kernel⟩
theorem ok_lsSay {n : Nat} {f g : Addr} {fd gd : FuncData} (F : Fun K "_law_said_saying" "_law_said_saying" s__law_said_saying f fd) (B : Blt mg) (G : FnOk P w K mg base CX0 n g gd ["saying"] (spShSay K n)) (bG : Binds K gd ["saying"] []) (kG : PySem.W.keepIn K (.ref g) = true) (mG : mg "_law_said_saying" = some (.ref g)) :
    FnOk P w K mg base CX0 (n + 1) f fd ["saying"] (spShSay K (n + 1)) := by
  refine F.ok sc_lsSay (fun vs H Q E h => ?_) (fun cdv A outer s H vs Q E hr h => ?_)
  · obtain ⟨x, s, d, k, rfl, _⟩ := h
    rfl
  obtain ⟨x, s, d, k, rfl, hx, ok, d12, k1, k6, dp, sz, hQ⟩ := h
  refine ⟨_, (pss_cons (ps_if (pt_cmpR op_in_seq (pe_ix ix_tup (pv 0) pe_int (fun _ _ => rfl)) (pe_tup (pa_cons pe_str (pa_cons pe_str (pa_cons pe_str pa_nil)))) rfl) (pss_cons (ps_set (i := 2) sc_lsSay.nd rfl (.inl rfl) (pe_join pe_str (pe_lc (own := [("side", 1)]) (g := gName 1) rfl sc_lsSay.nd (pi_tup (pe_ix ix_tup (pv 0) pe_int (fun _ _ => rfl))) (blkOk_by (N := ["saying", "side", "sides", "part"]) (sc := defScope s__law_said_saying) (by decide +kernel)) (fun _ _ _ _ _ => (pg_name (i := 1) sc_lsSay.nd rfl (Or.inl rfl))) (fun _ _ _ _ _ => pts_nil) (fun _ _ _ _ _ => (pe_callTy call_str_int rfl B.str bootStr (pa_cons (pv 1) pa_nil))))))
      (pss_one (ps_ret (pe_op op_add_str (pe_op op_add_str (pe_op op_add_str (pe_op op_add_str (pe_op op_add_str (pe_op op_add_str pe_str (pe_ix ix_tup (pv 0) pe_int (fun _ _ => rfl))) pe_str) (pv 2)) pe_str) (pe_callTy call_str_int rfl B.str bootStr (pa_cons (pe_ix ix_tup (pv 0) pe_int (fun _ _ => rfl)) pa_nil))) pe_str)))) pss_nil)
    (pss_one (ps_ret (pe_op op_add_str (pe_op op_add_str pe_str (pe_join pe_str (pe_op op_cat (pe_lst (pa_cons (pe_ix ix_tup (pv 0) pe_int (fun _ _ => rfl)) pa_nil)) (pe_lc (own := [("part", 3)]) (g := gName 3) rfl sc_lsSay.nd (pi_tup (pe_slice sl_tupA (pv 0) (po_some pe_int) po_none)) (blkOk_by (N := ["saying", "side", "sides", "part"]) (sc := defScope s__law_said_saying) (by decide +kernel)) (fun _ _ _ _ _ => (pg_name (i := 3) sc_lsSay.nd rfl (Or.inl rfl))) (fun _ _ _ _ _ => pts_nil) (fun _ _ _ _ _ => (pe_call G hr rfl mG kG bG .nil pass0 (pa_cons (pv 3) pa_nil))))))) pe_str)))), ?_⟩
  have hw := in_word s
  have e1 : ("(" : Str).length = 1 := rfl
  have e2 : (")" : Str).length = 1 := rfl
  have e3 : (" [" : Str).length = 2 := rfl
  have e4 : ("] " : Str).length = 2 := rfl
  cases hq : isQ s with
  | true =>
    cases s with
    | q a ns wl =>
      obtain ⟨p, sv, rfl, hp, b, rfl, hb⟩ := hx
      obtain ⟨a0, a1, ln, nz, nw⟩ := ok
      have x1 := sidesT_len k1 nz
      have x2 := iT_len k1 nw
      have x3 := wordA_len a
      have x4 : ns.length * (k + 1 + 1) ≤ 12 * 62 := Nat.mul_le_mul (by omega) (by omega)
      refine ⟨_, rfl, p, _, _, _, rfl, rfl, hp, rfl, szN (by show 3 ≤ 1000000; decide), fun T nT => ?_⟩
      have r := (Gr.refl H).new nT (.tup [.str "less", .str "is", .str "more"])
      refine ⟨T, _, rfl, .inr (SqT.of upd_same), rfl, rfl, _, rfl, ?_⟩
      rw [show (if false = true then !inV (.str (wordA a)) [.str "less", .str "is", .str "more"] else inV (.str (wordA a)) [.str "less", .str "is", .str "more"]) = true from hw]
      refine iteT ?_
      have hp2 := r.seqT hp
      have hb2 := r.seqT hb
      generalize upd H T (.tup [.str "less", .str "is", .str "more"]) = H1 at r hp2 hb2 ⊢
      refine ⟨⟨_, rfl⟩, _, rfl, p, _, _, _, rfl, rfl, hp2, rfl, b, rfl, ⟨_, hb2⟩, fun D nD => ?_⟩
      refine lc_txts (K := K) (ns.map iT) (by rw [List.length_map, List.length_map]) nD hb2 (by rw [List.length_map]; omega) (fun i x z H3 Kc hx hz' g3 kc => ?_) (fun H3 hD g3 => ?_)
      · rw [List.getElem?_map] at hx hz'
        cases e : ns[i]? with
        | none => rw [e] at hx; cases hx
        | some n =>
          rw [e] at hx hz'
          cases hx
          cases hz'
          exact ⟨rfl, _, rfl, n, rfl, iT_log (nz n (List.mem_of_getElem? e)) (by omega), kc H3 (Gr.refl _)⟩
      · refine ⟨_, D, ns.map iT, rfl, rfl, .inl (SqL.of hD), sides_small (by omega) k1 (by omega) nz, ?_⟩
        have hp3 := g3.seqT hp2
        have fin := hQ H3 (r.trans g3)
        have et : sayT (.q a ns wl) = "(" ++ wordA a ++ " [" ++ sidesT ns ++ "] " ++ iT wl ++ ")" := rfl
        rw [et] at fin
        refine ⟨_, rfl, p, _, _, _, rfl, rfl, hp3, rfl, "(", wordA a, rfl, rfl, sz15 (by omega), "(" ++ wordA a, " [", rfl, rfl, sz15 ?_, _, rfl, "(" ++ wordA a ++ " [", sidesT ns, rfl, rfl, sz15 ?_, "(" ++ wordA a ++ " [" ++ sidesT ns, "] ", rfl, rfl, sz15 ?_, _, rfl, p, _, _, _, rfl, rfl, hp3, rfl, wl, rfl, iT_log nw (by omega), "(" ++ wordA a ++ " [" ++ sidesT ns ++ "] ", iT wl, rfl, rfl, sz15 ?_, "(" ++ wordA a ++ " [" ++ sidesT ns ++ "] " ++ iT wl, ")", rfl, rfl, sz15 ?_, fin⟩
        all_goals (simp only [len_app]; omega)
    | nt s => cases hq
    | bo s t => cases hq
    | ei s t => cases hq
  | false =>
    rw [hq] at hw
    obtain ⟨p, ys, rfl, hp, hpt⟩ := hx.parts hq
    have lys := paired_len hpt
    have pn := parts_n s
    have sm := say_small k1 k6 d12 ok sz
    have jl := join_len0 " " (wordS s :: (partsS s).map sayT)
    have esay := sayT_parts hq
    refine ⟨_, rfl, p, _, _, .str (wordS s), rfl, rfl, hp, atI_nat (j := 0) rfl, szN (by show 3 ≤ 1000000; decide), fun T nT => ?_⟩
    have r := (Gr.refl H).new nT (.tup [.str "less", .str "is", .str "more"])
    refine ⟨T, _, rfl, .inr (SqT.of upd_same), rfl, rfl, _, rfl, ?_⟩
    rw [show (if false = true then !inV (.str (wordS s)) [.str "less", .str "is", .str "more"] else inV (.str (wordS s)) [.str "less", .str "is", .str "more"]) = false from hw]
    refine iteF ?_
    have hp2 := r.seqT hp
    generalize upd H T (.tup [.str "less", .str "is", .str "more"]) = H1 at r hp2 ⊢
    refine ⟨⟨_, rfl⟩, _, rfl, p, _, _, .str (wordS s), rfl, rfl, hp2, atI_nat (j := 0) rfl, szN (by show 1 ≤ 1000000; decide), fun W nW => ?_⟩
    have rW := (Gr.refl H1).new nW (.lst [.str (wordS s)])
    have eW : (upd H1 W (.lst [.str (wordS s)])) W = some (.lst [.str (wordS s)]) := upd_same
    have hp3 := rW.seqT hp2
    generalize upd H1 W (.lst [.str (wordS s)]) = H2 at rW eW hp3 ⊢
    refine ⟨_, rfl, _, rfl, yrslF (lo := some 1) hp3 fun c1 H4 g4 hc => ?_⟩
    rw [cut_tail] at hc
    refine ⟨c1, rfl, ⟨_, hc⟩, fun D nD => ?_⟩
    have g04 := (r.trans rW).trans g4
    refine lc_txts (K := K) ((partsS s).map sayT) (by rw [List.length_map, lys]) nD hc (by omega) (fun i x z H3 Kc hx hz' g3 kc => ?_) (fun H3 hD g3 => ?_)
    · obtain ⟨t, et, ht⟩ := paired_get hpt hx
      rw [List.getElem?_map, et] at hz'
      cases hz'
      have tm := List.mem_of_getElem? et
      have dt := part_dep tm
      have st := part_sz tm
      exact ⟨rfl, _, rfl, x, t, d, k, rfl, SayV.gr (g04.trans g3) ht, part_ok ok tm, d12, k1, k6, by omega, by omega, kc⟩
    · refine ⟨W, D, _, _, rfl, rfl, (g4.trans g3).lstK eW, hD, szN (by rw [List.length_map, List.length_map]; show 1 + _ ≤ _; omega), fun D2 nD2 => ?_⟩
      have rD := (Gr.refl H3).new nD2 (.lst ([.str (wordS s)] ++ ((partsS s).map sayT).map V.str))
      refine ⟨_, D2, (wordS s :: (partsS s).map sayT), rfl, rfl, .inl (SqL.of upd_same), by omega, ?_⟩
      refine ⟨_, _, rfl, rfl, sz15 (by omega), _, _, rfl, rfl, sz15 (by rw [len_app]; omega), ?_⟩
      have := hQ _ ((g04.trans g3).trans rD)
      rw [esay] at this
      exact this
theorem lsSay_all {f : Addr} {fd : FuncData} (F : Fun K "_law_said_saying" "_law_said_saying" s__law_said_saying f fd) (B : Blt mg) (bF : Binds K fd ["saying"] []) (mF : mg "_law_said_saying" = some (.ref f)) : ∀ n : Nat, FnOk P w K mg base CX0 n f fd ["saying"] (spShSay K n)
  | 0 => by
    have no : ∀ vs H Q E, ¬ spShSay K 0 vs H Q E := fun vs H Q E h => by
      obtain ⟨x, s, d, k, _, _, _, _, _, _, dp, _⟩ := h
      have := dep_pos s
      omega
    exact ⟨fun vs H Q E h => absurd h (no vs H Q E), fun A outer s H args us vs Q E _ _ _ _ h => absurd h (no vs H Q E)⟩
  | n + 1 => ok_lsSay F B (lsSay_all F B bF mF n) bF F.kp mF
theorem cl_lsSay (D : Df K mg "_law_said_saying" s__law_said_saying) (B : Blt mg) (n : Nat) : Cl P w K mg base n "_law_said_saying" ["saying"] (spShSay K n) := by
  obtain ⟨f, fd, F, m⟩ := D.ex
  have bF : Binds K fd ["saying"] [] := F.binds fun _ _ _ _ _ _ us hl => match us, hl with | [_], _ => rfl
  obtain ⟨oc, od, kV, doc, pm, an, cdv, ct, osl, e, lk, hcd⟩ := F.ex
  exact ⟨⟨f, fd, lsSay_all F B bF m n, m, F.kp, bF⟩, fun g hg => by
    rw [m] at hg
    cases hg
    exact ⟨fd, lsSay_all F B bF m n, oc, od, osl, lk⟩⟩
end
end SB
namespace SB
open PySem L2 GxR GA RZ RP TL
/-! ### right things of the doors, and their texts -/
inductive Th where
  | num (r : Int × Int)
  | pt (rs : List (Int × Int))
  | row (hs : List (Option Int))
  | wish (hs : List (Option Int))
  | book (d : Nat) (qs : List (List Int × Int))
  | say (d : Nat) (s : Say)
  | qu (q : List Int × Int)
def ThD : Th → Nat
  | .num _ => 0
  | .pt _ => 1
  | .row _ => 2
  | .wish _ => 3
  | .book _ _ => 4
  | .say _ _ => 5
  | .qu _ => 6
def ThT : Th → Str
  | .num r => numT r
  | .pt rs => pointT rs
  | .row hs => wishT hs
  | .wish hs => wishT hs
  | .book d qs => bookT (d : Int) qs
  | .say _ s => sayT s
  | .qu q => quT q
def ThVal (K : PySem.W.Frag) (H : Hp) : Th → V → Prop
  | .num r => fun x => NuV K H x r
  | .pt rs => fun x => PtV K H x rs
  | .row hs => fun x => ∃ a, x = .ref a ∧ SqT K H a (hs.map hopeV)
  | .wish hs => fun x => ∃ a, x = .ref a ∧ SqT K H a (hs.map hopeV)
  | .book d qs => fun x => BkV K H x d qs
  | .say _ s => fun x => SayV K H s x
  | .qu q => fun x => QuV K H x q
def QuOk (k d : Nat) (q : List Int × Int) : Prop := NonZ q.1 ∧ q.1.length = d ∧ (∀ z, z ∈ q.1 → z.natAbs < 10 ^ k) ∧ q.2.natAbs < 10 ^ k
def ThOk (k : Nat) : Th → Prop
  | .num r => Lo r ∧ r.1.natAbs < 10 ^ k ∧ r.2.natAbs < 10 ^ k
  | .pt rs => 1 ≤ rs.length ∧ rs.length ≤ 12 ∧ ∀ r, r ∈ rs → Lo r ∧ r.1.natAbs < 10 ^ k ∧ r.2.natAbs < 10 ^ k
  | .row hs => hs.length ≤ 20 ∧ ∀ h, h ∈ hs → HopeOk h ∧ h ≠ none
  | .wish hs => hs.length ≤ 20 ∧ ∀ h, h ∈ hs → HopeOk h
  | .book d qs => 1 ≤ d ∧ d ≤ 12 ∧ qs.length ≤ 20 ∧ (qs.map nfU).Nodup ∧ ∀ q, q ∈ qs → QuOk k d q
  | .say d s => 1 ≤ d ∧ d ≤ 12 ∧ k ≤ 60 ∧ SayB (10 ^ k) d s ∧ depS s ≤ 12 ∧ szS s + 1 ≤ 2 ^ 12
  | .qu q => 1 ≤ q.1.length ∧ q.1.length ≤ 12 ∧ QuOk k q.1.length q
theorem ThVal.st {K : PySem.W.Frag} {H H' : Hp} (t : Tst K H H') : ∀ {th : Th} {x : V}, ThVal K H th x → ThVal K H' th x
  | .num _, _, ⟨a, e, h⟩ => ⟨a, e, t _ _ h⟩
  | .pt _, _, h => PtV.st h t
  | .row _, _, ⟨a, e, h⟩ => ⟨a, e, t _ _ h⟩
  | .wish _, _, ⟨a, e, h⟩ => ⟨a, e, t _ _ h⟩
  | .book _ _, _, ⟨a, b, xs, e, h1, h2, p⟩ => ⟨a, b, xs, e, t _ _ h1, t _ _ h2, Paired.mapP p fun _ _ z => QuV.st z t⟩
  | .say _ _, _, h => SayV.st t h
  | .qu _, _, h => QuV.st h t
theorem ThVal.gr {K : PySem.W.Frag} {H H' : Hp} (g : Gr H H') {th : Th} {x : V} (h : ThVal K H th x) : ThVal K H' th x := ThVal.st g.st h
def costT (door : Nat) : Nat := if door = 5 then 296000 else 2000
section
variable {P : Program} {w : World} {K : PySem.W.Frag} {mg : Str → Option Value} {base : Heap}
def spThing (K : PySem.W.Frag) : Sp := fun vs H Q _ => ∃ (dk : Addr) (k door most : Nat), vs = [.ref dk, .int (door : Int), .int (most : Int), .int 12] ∧ Stk dk k H ∧ k ≤ 400000 ∧ door ≤ 5 ∧ 1 ≤ most ∧ most ≤ 300 ∧ (2 ≤ door → most ≤ 60) ∧
  ∀ T x t H', GrD dk H H' → Stk dk (k + costT door) H' → SqT K H' T [x, .str (ThT t)] → ThVal K H' t x → ThOk most t → ThD t = door → Q (.ref T) H'
theorem sc_thing : FnScope ["well", "door", "most", "deep", "d", "many", "thing", "place", "a"] ["well", "door", "most", "deep"] (defScope s__law_thing) := ⟨rfl, rfl, rfl, by decide +kernel, rfl, by decide +kernel, by decide +kernel⟩
theorem cl_thing (D : Df K mg "_law_thing" s__law_thing) (B : Blt mg) (CDR : Cl P w K mg base 1 "_law_draw" ["well", "many"] spPick) (CNB : Cl P w K mg base 35 "_law_number" ["well", "most"] (spNumB K)) (CWI : Cl P w K mg base 2 "_law_wish" ["well", "many", "answers"] (spWishB K)) (CBB : Cl P w K mg base 4 "_law_book" ["well", "d", "many", "most"] (spBookB K)) (CDE : Cl P w K mg base 15 "_law_deep" ["well", "d", "deep", "most"] (spDeep K 12))
    (LN : Cl P w K mg base 1 "_law_said_number" ["a"] (spShNum K)) (LW : Cl P w K mg base 1 "_law_said_wish" ["wish"] (spShWish K)) (LB : Cl P w K mg base 2 "_law_said_book" ["book"] (spShBook K)) (LS : Cl P w K mg base 12 "_law_said_saying" ["saying"] (spShSay K 12)) : Cl P w K mg base 36 "_law_thing" ["well", "door", "most", "deep"] (spThing K) := by
  refine D.cl (fun _ _ _ _ _ _ us hl => match us, hl with | [_, _, _, _], _ => rfl) fun f fd F => F.ok sc_thing (fun vs H Q E h => ?_) (fun cdv A outer s H vs Q E hr h => ?_)
  · obtain ⟨dk, k, door, most, rfl, _⟩ := h
    rfl
  obtain ⟨dk, k, door, most, rfl, sk, k8, d5, m1, m3, m6, hQ⟩ := h
  refine ⟨_, (pss_cons (ps_set (i := 4) sc_thing.nd rfl (.inl rfl) (pe_op op_add pe_int (pe_cl CDR (hr.mono (by decide)) (pa_cons (pv 0) (pa_cons (pe_ix ix_list (pe_lst (pa_cons pe_int (pa_cons pe_int pa_nil))) (pe_cl CDR (hr.mono (by decide)) (pa_cons (pv 0) (pa_cons pe_int pa_nil))) (fun _ _ => rfl)) pa_nil)))))
    (pss_cons (ps_set (i := 5) sc_thing.nd rfl (.inl rfl) (pe_ix ix_list (pe_lst (pa_cons pe_int (pa_cons pe_int (pa_cons pe_int (pa_cons pe_int pa_nil))))) (pe_cl CDR (hr.mono (by decide)) (pa_cons (pv 0) (pa_cons pe_int pa_nil))) (fun _ _ => rfl)))
    (pss_cons (ps_if (pt_cmpR op_eq (pv 1) pe_int (nomark _)) (pss_cons (ps_set (i := 6) sc_thing.nd rfl (.inl rfl) (pe_cl CNB (hr.mono (by decide)) (pa_cons (pv 0) (pa_cons (pv 2) pa_nil))))
      (pss_one (ps_ret (pe_tup (pa_cons (pv 6) (pa_cons (pe_cl LN (hr.mono (by decide)) (pa_cons (pv 6) pa_nil)) pa_nil)))))) pss_nil)
    (pss_cons (ps_if (pt_cmpR op_eq (pv 1) pe_int (nomark _)) (pss_cons (ps_set (i := 6) sc_thing.nd rfl (.inl rfl) (pe_callTy call_tuple_of rfl B.tup bootTup (pa_cons (pe_lc (own := [("place", 7)]) (g := gName 7) rfl sc_thing.nd (pi_range1 rfl B.rng (pa_cons (pv 4) pa_nil)) (blkOk_by (N := ["well", "door", "most", "deep", "d", "many", "thing", "place", "a"]) (sc := defScope s__law_thing) (by decide +kernel)) (fun _ _ _ _ _ => (pg_name (i := 7) sc_thing.nd rfl (Or.inl rfl))) (fun _ _ _ _ _ => pts_nil) (fun _ _ _ _ _ => (pe_cl CNB (hr.mono (by decide)) (pa_cons (pv 0) (pa_cons (pv 2) pa_nil))))) pa_nil)))
      (pss_one (ps_ret (pe_tup (pa_cons (pv 6) (pa_cons (pe_join pe_str (pe_lc (own := [("a", 8)]) (g := gName 8) rfl sc_thing.nd (pi_tup (pv 6)) (blkOk_by (N := ["well", "door", "most", "deep", "d", "many", "thing", "place", "a"]) (sc := defScope s__law_thing) (by decide +kernel)) (fun _ _ _ _ _ => (pg_name (i := 8) sc_thing.nd rfl (Or.inl rfl))) (fun _ _ _ _ _ => pts_nil) (fun _ _ _ _ _ => (pe_cl LN (hr.mono (by decide)) (pa_cons (pv 8) pa_nil))))) pa_nil)))))) pss_nil)
    (pss_cons (ps_if (pt_cmpR op_lt (pv 1) pe_int (nomark _)) (pss_cons (ps_set (i := 6) sc_thing.nd rfl (.inl rfl) (pe_cl CWI (hr.mono (by decide)) (pa_cons (pv 0) (pa_cons (pv 5) (pa_cons (pe_ix ix_list (pe_lst (pa_cons (pe_tup (pa_cons (pe_un un_neg pe_int) (pa_cons pe_int (pa_cons pe_int pa_nil)))) (pa_cons (pe_tup (pa_cons (pe_un un_neg pe_int) (pa_cons pe_int (pa_cons pe_int (pa_cons pe_non pa_nil))))) pa_nil))) (pe_op op_sub (pv 1) pe_int) (fun _ _ => rfl)) pa_nil)))))
      (pss_one (ps_ret (pe_tup (pa_cons (pv 6) (pa_cons (pe_cl LW (hr.mono (by decide)) (pa_cons (pv 6) pa_nil)) pa_nil)))))) pss_nil)
    (pss_cons (ps_if (pt_cmpR op_eq (pv 1) pe_int (nomark _)) (pss_cons (ps_set (i := 6) sc_thing.nd rfl (.inl rfl) (pe_cl CBB (hr.mono (by decide)) (pa_cons (pv 0) (pa_cons (pv 4) (pa_cons (pv 5) (pa_cons (pv 2) pa_nil))))))
      (pss_one (ps_ret (pe_tup (pa_cons (pv 6) (pa_cons (pe_cl LB (hr.mono (by decide)) (pa_cons (pv 6) pa_nil)) pa_nil)))))) pss_nil)
    (pss_cons (ps_set (i := 6) sc_thing.nd rfl (.inl rfl) (pe_cl CDE (hr.mono (by decide)) (pa_cons (pv 0) (pa_cons (pv 4) (pa_cons (pe_ix ix_list (pe_lst (pa_cons pe_int (pa_cons pe_int (pa_cons pe_int (pa_cons (pv 3) pa_nil))))) (pe_cl CDR (hr.mono (by decide)) (pa_cons (pv 0) (pa_cons pe_int pa_nil))) (fun _ _ => rfl)) (pa_cons (pv 2) pa_nil))))))
    (pss_one (ps_ret (pe_tup (pa_cons (pv 6) (pa_cons (pe_cl LS (hr.mono (by decide)) (pa_cons (pv 6) pa_nil)) pa_nil)))))))))))), ?_⟩
  have c2 : 2000 ≤ costT door := by
    unfold costT
    split <;> decide
  refine seq_join (fun σ' H' => ∃ d : Nat, σ' = [some (.ref dk), some (.int (door : Int)), some (.int (most : Int)), some (.int 12), some (.int (d : Int)), none, none, none, none] ∧ 1 ≤ d ∧ d ≤ 12 ∧ GrD dk H H' ∧ Stk dk (k + 2) H') (fun σ' H1 h => ?_) (fun Kn hK => ?_)
  rotate_left
  · refine ⟨_, rfl, szN (by show 2 ≤ 1000000; decide), fun L nL => ?_⟩
    have rL := (Gr.refl H).new nL (.lst [.int 3, .int 12])
    have eL : (upd H L (.lst [.int 3, .int 12])) L = some (.lst [.int 3, .int 12]) := upd_same
    have nLd := sk.ne nL
    have s1 := sk.gr rL
    have g1 := rL.d dk
    generalize upd H L (.lst [.int 3, .int 12]) = H1 at eL s1 g1 ⊢
    refine ⟨_, rfl, dk, 2, _, rfl, s1, by omega, by decide, by decide +kernel, fun u H2 u0 u1 g2 s2 => ?_⟩
    obtain ⟨m, am, mm⟩ : ∃ m : Nat, atI ([.int 3, .int 12] : List V) u = some (.int ((m : Nat) : Int)) ∧ (m = 3 ∨ m = 12) := by
      have : u = 0 ∨ u = 1 := by omega
      rcases this with rfl | rfl
      · exact ⟨3, rfl, .inl rfl⟩
      · exact ⟨12, rfl, .inr rfl⟩
    refine ⟨L, _, _, _, rfl, rfl, SqL.of (GrDL.lst g2 nLd eL), am, dk, _, _, rfl, s2, by omega, by omega, big_take (n := m) (by omega), fun t H3 t0 t1 g3 s3 => ?_⟩
    obtain ⟨kt, rfl⟩ : ∃ j : Nat, t = (j : Int) := ⟨t.toNat, by omega⟩
    refine ⟨_, _, rfl, rfl, hK _ _ ⟨1 + kt, ?_, by omega, by omega, (g1.trans g2).trans g3, s3⟩⟩
    rw [show ((1 + kt : Nat) : Int) = 1 + (kt : Int) from by omega]
    rfl
  obtain ⟨d, rfl, d1, d12, g1, s1⟩ := h
  clear sk
  refine seq_join (fun σ' H' => ∃ many : Nat, σ' = [some (.ref dk), some (.int (door : Int)), some (.int (most : Int)), some (.int 12), some (.int (d : Int)), some (.int (many : Int)), none, none, none] ∧ many ≤ 20 ∧ GrD dk H H' ∧ Stk dk (k + 3) H') (fun σ' H2 h => ?_) (fun Kn hK => ?_)
  rotate_left
  · refine ⟨szN (by show 4 ≤ 1000000; decide), fun L nL => ?_⟩
    have rL := (Gr.refl H1).new nL (.lst [.int 0, .int 1, .int 6, .int 20])
    have eL : (upd H1 L (.lst [.int 0, .int 1, .int 6, .int 20])) L = some (.lst [.int 0, .int 1, .int 6, .int 20]) := upd_same
    have nLd := s1.ne nL
    have s2 := s1.gr rL
    have g2 := g1.gr rL
    generalize upd H1 L (.lst [.int 0, .int 1, .int 6, .int 20]) = H2 at eL s2 g2 ⊢
    refine ⟨_, rfl, dk, 4, _, rfl, s2, by omega, by decide, by decide +kernel, fun u H3 u0 u1 g3 s3 => ?_⟩
    obtain ⟨m, am, mm⟩ : ∃ m : Nat, atI ([.int 0, .int 1, .int 6, .int 20] : List V) u = some (.int ((m : Nat) : Int)) ∧ m ≤ 20 := by
      have : u = 0 ∨ u = 1 ∨ u = 2 ∨ u = 3 := by omega
      rcases this with rfl | rfl | rfl | rfl
      · exact ⟨0, rfl, by decide⟩
      · exact ⟨1, rfl, by decide⟩
      · exact ⟨6, rfl, by decide⟩
      · exact ⟨20, rfl, by decide⟩
    exact ⟨L, _, _, _, rfl, rfl, SqL.of (GrDL.lst g3 nLd eL), am, hK _ _ ⟨m, rfl, mm, g2.trans g3, s3⟩⟩
  obtain ⟨many, rfl, m20, g2, s2⟩ := h
  clear s1 g1
  refine ⟨_, rfl, rfl, _, rfl, ?_⟩
  by_cases c0 : door = 0
  · subst c0
    refine iteP rfl ⟨_, rfl, _, rfl, dk, _, most, rfl, s2, by omega, m1, m3, fun v r H3 g3 s3 hv lo b1 b2 => ?_⟩
    refine ⟨_, rfl, _, rfl, v, r, most, rfl, hv, m1, m3, b1, b2, szN (by show 2 ≤ 1000000; decide), fun T nT => ?_⟩
    have rT := (Gr.refl H3).new nT (.tup [v, .str (numT r)])
    exact hQ T v (.num r) _ ((g2.trans g3).gr rT) ((s3.gr rT).more (by omega)) (SqT.of upd_same) (hv.gr rT) ⟨lo, b1, b2⟩ rfl
  refine iteN (fun z => c0 (by injection z; omega)) ?_
  refine ⟨_, rfl, rfl, _, rfl, ?_⟩
  by_cases c1 : door = 1
  · subst c1
    refine iteP rfl ⟨_, rfl, _, rfl, by omega, by omega, fun D nD => ?_⟩
    rw [Int.toNat_natCast]
    have nDd := s2.ne nD
    refine lc_stkR (K := K) (c := 10) (fun _ y H => ∃ r, NuV K H y r ∧ Lo r ∧ r.1.natAbs < 10 ^ most ∧ r.2.natAbs < 10 ^ most) (fun _ _ _ _ ⟨r, ⟨a, e, h⟩, q⟩ t => ⟨r, ⟨a, e, t _ _ h⟩, q⟩) nD s2 (by omega) (fun j H3 Kc hj g3 s3 kc => ?_) (fun ys H3 hD hl g3 s3 hR => ?_)
    · exact ⟨rfl, _, rfl, _, rfl, dk, _, most, rfl, s3, by omega, m1, m3, fun v r H4 g4 s4 hv lo b1 b2 => kc v H4 g4 s4 ⟨r, hv, lo, b1, b2⟩⟩
    obtain ⟨rs, pr, hrs⟩ : ∃ rs : List (Int × Int), Paired (NuV K H3) ys rs ∧ ∀ r, r ∈ rs → Lo r ∧ r.1.natAbs < 10 ^ most ∧ r.2.natAbs < 10 ^ most := by
      have : ∀ l : List V, (∀ (i : Nat) (y : V), l[i]? = some y → ∃ r, NuV K H3 y r ∧ Lo r ∧ r.1.natAbs < 10 ^ most ∧ r.2.natAbs < 10 ^ most) → ∃ rs : List (Int × Int), Paired (NuV K H3) l rs ∧ ∀ r, r ∈ rs → Lo r ∧ r.1.natAbs < 10 ^ most ∧ r.2.natAbs < 10 ^ most := fun l => by
        induction l with
        | nil => exact fun _ => ⟨[], .nil, fun q h => (by cases h)⟩
        | cons y r ih =>
          intro f
          obtain ⟨q, h1, h2⟩ := f 0 y rfl
          obtain ⟨qs, h3, h4⟩ := ih fun i z e => f (i + 1) z (by simpa using e)
          refine ⟨q :: qs, .cons h1 h3, fun p hp => ?_⟩
          rcases List.mem_cons.mp hp with rfl | hp
          · exact h2
          · exact h4 p hp
      exact this ys hR
    have lr := paired_len pr
    refine ⟨D, _, rfl, .inl ⟨SqL.of hD, fun A nA => ?_⟩⟩
    have rA := (Gr.refl H3).new nA (.tup ys)
    have hA : SqT K (upd H3 A (.tup ys)) A ys := SqT.of upd_same
    have s4 := s3.gr rA
    have g4 := (g2.trans g3).gr rA
    have pr4 : Paired (NuV K (upd H3 A (.tup ys))) ys rs := Paired.mapP pr fun _ _ z => NuV.gr z rA
    generalize upd H3 A (.tup ys) = H4 at hA s4 g4 pr4 ⊢
    refine ⟨_, rfl, ⟨_, rfl⟩, _, rfl, A, rfl, ⟨_, hA⟩, fun D2 nD2 => ?_⟩
    refine lc_txts (K := K) (rs.map numT) (by rw [List.length_map, lr]) nD2 hA (by omega) (fun i x z H5 Kc hx hz' g5 kc => ?_) (fun H5 hD2 g5 => ?_)
    · obtain ⟨r, er, hr'⟩ := paired_get pr4 hx
      rw [List.getElem?_map, er] at hz'
      cases hz'
      obtain ⟨_, b1, b2⟩ := hrs r (List.mem_of_getElem? er)
      exact ⟨rfl, _, rfl, x, r, most, rfl, hr'.gr g5, m1, m3, b1, b2, kc H5 (Gr.refl _)⟩
    · refine ⟨_, D2, rs.map numT, rfl, rfl, .inl (SqL.of hD2), point_small (by omega) m1 m3 (fun r h => (hrs r h).2), szN (by show 2 ≤ 1000000; decide), fun T nT => ?_⟩
      have rT := g5.new nT (.tup [.ref A, .str (Txt.join " " (rs.map numT))])
      exact hQ T (.ref A) (.pt rs) _ (g4.gr rT) ((s4.gr rT).more (by omega)) (SqT.of upd_same) ⟨A, ys, rfl, rT.seqT hA, Paired.mapP pr4 fun _ _ z => NuV.gr z rT⟩ ⟨by omega, by omega, hrs⟩ rfl
  refine iteN (fun z => c1 (by injection z; omega)) ?_
  refine ⟨_, rfl, _, _, rfl, rfl, _, rfl, ?_⟩
  by_cases c4 : door < 4
  · have l20 : 20 ≤ 1000 := by decide
    refine iteP (by omega) ⟨_, rfl, _, rfl, _, rfl, szN (by show 3 ≤ 1000000; decide), fun T1 n1 => ⟨_, rfl, szN (by show 4 ≤ 1000000; decide), fun T2 n2 => ⟨szN (by show 2 ≤ 1000000; decide), fun L nL => ?_⟩⟩⟩
    have r1 := (Gr.refl H2).new n1 (.tup [.int (-1), .int 0, .int 1])
    have r2 := (Gr.refl _).new n2 (.tup [.int (-1), .int 0, .int 1, .non])
    have r3 := (Gr.refl _).new nL (.lst [.ref T1, .ref T2])
    have h1 : SqT K _ T1 (([some (-1), some 0, some 1] : List (Option Int)).map hopeV) := (r2.trans r3).seqT (SqT.of upd_same)
    have h2 : SqT K _ T2 (([some (-1), some 0, some 1, none] : List (Option Int)).map hopeV) := r3.seqT (SqT.of upd_same)
    have eL : (upd (upd (upd H2 T1 (.tup [.int (-1), .int 0, .int 1])) T2 (.tup [.int (-1), .int 0, .int 1, .non])) L (.lst [.ref T1, .ref T2])) L = some (.lst [.ref T1, .ref T2]) := upd_same
    have r := (r1.trans r2).trans r3
    have s3 := s2.gr r
    have g3 := g2.gr r
    generalize upd (upd (upd H2 T1 (.tup [.int (-1), .int 0, .int 1])) T2 (.tup [.int (-1), .int 0, .int 1, .non])) L (.lst [.ref T1, .ref T2]) = H3 at h1 h2 eL s3 g3 ⊢
    have d23 : door = 2 ∨ door = 3 := by omega
    rcases d23 with rfl | rfl
    · refine ⟨_, rfl, _, _, rfl, rfl, L, _, _, .ref T1, rfl, rfl, SqL.of eL, rfl, dk, T1, _, many, [some (-1), some 0, some 1], rfl, s3, by omega, h1, by decide, by decide, m20, fun p hs H4 g4 s4 hp hl hm => ?_⟩
      have ho : ∀ h, h ∈ hs → HopeOk h ∧ h ≠ none := fun h hh => by
        have := hm h hh
        simp only [List.mem_cons, List.not_mem_nil, or_false] at this
        rcases this with rfl | rfl | rfl
        · exact ⟨.inr (.inl rfl), fun z => nomatch z⟩
        · exact ⟨.inr (.inr (.inl rfl)), fun z => nomatch z⟩
        · exact ⟨.inr (.inr (.inr rfl)), fun z => nomatch z⟩
      refine ⟨_, rfl, _, rfl, p, hs, rfl, hp, by omega, fun h hh => (ho h hh).1, fun H5 g5 => ⟨szN (by show 2 ≤ 1000000; decide), fun T nT => ?_⟩⟩
      have rT := g5.new nT (.tup [.ref p, .str (wishT hs)])
      exact hQ T (.ref p) (.row hs) _ ((g3.trans g4).gr rT) ((s4.gr rT).more (by omega)) (SqT.of upd_same) ⟨p, rfl, rT.seqT hp⟩ ⟨by omega, ho⟩ rfl
    · refine ⟨_, rfl, _, _, rfl, rfl, L, _, _, .ref T2, rfl, rfl, SqL.of eL, rfl, dk, T2, _, many, [some (-1), some 0, some 1, none], rfl, s3, by omega, h2, by decide, by decide, m20, fun p hs H4 g4 s4 hp hl hm => ?_⟩
      have ho : ∀ h, h ∈ hs → HopeOk h := fun h hh => by
        have := hm h hh
        simp only [List.mem_cons, List.not_mem_nil, or_false] at this
        rcases this with rfl | rfl | rfl | rfl
        · exact .inr (.inl rfl)
        · exact .inr (.inr (.inl rfl))
        · exact .inr (.inr (.inr rfl))
        · exact .inl rfl
      refine ⟨_, rfl, _, rfl, p, hs, rfl, hp, by omega, ho, fun H5 g5 => ⟨szN (by show 2 ≤ 1000000; decide), fun T nT => ?_⟩⟩
      have rT := g5.new nT (.tup [.ref p, .str (wishT hs)])
      exact hQ T (.ref p) (.wish hs) _ ((g3.trans g4).gr rT) ((s4.gr rT).more (by omega)) (SqT.of upd_same) ⟨p, rfl, rT.seqT hp⟩ ⟨by omega, ho⟩ rfl
  refine iteN (by omega) ?_
  refine ⟨_, rfl, rfl, _, rfl, ?_⟩
  by_cases c5 : door = 4
  · subst c5
    refine iteP rfl ⟨_, rfl, _, rfl, _, rfl, _, rfl, dk, _, d, many, most, rfl, s2, by omega, d1, d12, m20, m1, m3, fun v qs H3 g3 s3 hv lq nd hq => ?_⟩
    refine ⟨_, rfl, _, rfl, v, d, qs, most, rfl, hv, d12, by omega, m1, m3, fun q h => ⟨by rw [(hq q h).2.1]; exact d12, (hq q h).2.2⟩, fun H4 g4 => ⟨szN (by show 2 ≤ 1000000; decide), fun T nT => ?_⟩⟩
    have rT := g4.new nT (.tup [v, .str (bookT (d : Int) qs)])
    exact hQ T v (.book d qs) _ ((g2.trans g3).gr rT) ((s3.gr rT).more (by omega)) (SqT.of upd_same) (hv.gr rT) ⟨d1, d12, lq, nd, hq⟩ rfl
  refine iteN (fun z => c5 (by injection z; omega)) ?_
  have e5 : door = 5 := by omega
  subst e5
  have m60 := m6 (by decide)
  have ce : cE 12 ≤ 295000 := by decide
  have cc : costT 5 = 296000 := rfl
  refine ⟨_, rfl, _, rfl, ⟨_, rfl, szN (by show 4 ≤ 1000000; decide), fun L nL => ?_⟩⟩
  have rL := (Gr.refl H2).new nL (.lst [.int 1, .int 2, .int 4, .int 12])
  have eL : (upd H2 L (.lst [.int 1, .int 2, .int 4, .int 12])) L = some (.lst [.int 1, .int 2, .int 4, .int 12]) := upd_same
  have nLd := s2.ne nL
  have s3 := s2.gr rL
  have g3 := g2.gr rL
  generalize upd H2 L (.lst [.int 1, .int 2, .int 4, .int 12]) = H3 at eL s3 g3 ⊢
  refine ⟨_, rfl, dk, 4, _, rfl, s3, by omega, by decide, by decide +kernel, fun u H4 u0 u1 g4 s4 => ?_⟩
  obtain ⟨m, am, mm1, mm2⟩ : ∃ m : Nat, atI ([.int 1, .int 2, .int 4, .int 12] : List V) u = some (.int ((m : Nat) : Int)) ∧ 1 ≤ m ∧ m ≤ 12 := by
    have : u = 0 ∨ u = 1 ∨ u = 2 ∨ u = 3 := by omega
    rcases this with rfl | rfl | rfl | rfl
    · exact ⟨1, rfl, by decide, by decide⟩
    · exact ⟨2, rfl, by decide, by decide⟩
    · exact ⟨4, rfl, by decide, by decide⟩
    · exact ⟨12, rfl, by decide, by decide⟩
  refine ⟨L, _, _, _, rfl, rfl, SqL.of (GrDL.lst g4 nLd eL), am, _, rfl, dk, _, d, m, most, rfl, s4, by omega, d1, d12, mm1, mm2, m1, m3, fun v sy H5 g5 s5 hv ok dp lq => ?_⟩
  have p12 : 2 ^ 12 = 4096 := by decide
  refine ⟨_, rfl, _, rfl, v, sy, d, most, rfl, hv, ok, d12, m1, m60, dp, by omega, fun H6 g6 => ⟨szN (by show 2 ≤ 1000000; decide), fun T nT => ?_⟩⟩
  have rT := g6.new nT (.tup [v, .str (sayT sy)])
  exact hQ T v (.say d sy) _ (((g3.trans g4).trans g5).gr rT) ((s5.gr rT).more (by omega)) (SqT.of upd_same) (SayV.gr rT hv) ⟨d1, d12, m60, ok, dp, lq⟩ rfl
end
theorem neI {i j : Int} (h : i ≠ j) : ¬ V.int i = V.int j := fun e => h (by injection e)
theorem thT_len {k : Nat} (k1 : 1 ≤ k) (k3 : k ≤ 300) : ∀ {t : Th}, ThOk k t → (ThT t).length ≤ 16777216
  | .num r, h => by
    have := numT_len k1 h.2.1 h.2.2
    show (numT r).length ≤ _
    omega
  | .pt rs, h => Nat.le_trans (join_len0 _ _) (point_small h.2.1 k1 k3 fun r hr => (h.2.2 r hr).2)
  | .row hs, h => by
    show (wishT hs).length ≤ _
    unfold wishT
    split
    · decide
    · have l := h.1
      exact Nat.le_trans (join_len0 _ _) (wish_small (by omega))
  | .wish hs, h => by
    show (wishT hs).length ≤ _
    unfold wishT
    split
    · decide
    · have l := h.1
      exact Nat.le_trans (join_len0 _ _) (wish_small (by omega))
  | .book d qs, h => by
    have l := h.2.2.1
    have d12 := h.2.1
    exact Nat.le_trans (join_len0 _ _) (book_small d12 (by omega) k1 k3 fun q hq => by
      obtain ⟨_, a, b, c⟩ := h.2.2.2.2 q hq
      exact ⟨by omega, b, c⟩)
  | .say d s, h => by
    have := sayT_len k1 h.2.2.1 h.2.1 h.2.2.2.1
    have := h.2.2.2.2.2
    have : 2 ^ 12 = 4096 := by decide
    show (sayT s).length ≤ _
    omega
  | .qu q, h => by
    have h1 := quT_len k1 h.2.2.2.2.1 h.2.2.2.2.2
    have h2 : q.1.length * (k + 1 + 1) ≤ 12 * 302 := Nat.mul_le_mul h.2.1 (by omega)
    show (quT q).length ≤ _
    omega
/-- a row of what was asked: a door, a thing, its text -/
def RowT (K : PySem.W.Frag) (H : Hp) (v : V) : Prop := ∃ T x t m, v = .ref T ∧ SqT K H T [.int ((ThD t : Nat) : Int), x, .str (ThT t)] ∧ ThVal K H t x ∧ ThOk m t ∧ 1 ≤ m ∧ m ≤ 300
theorem RowT.st {K : PySem.W.Frag} {H H' : Hp} {v : V} (t : Tst K H H') (h : RowT K H v) : RowT K H' v :=
  let ⟨T, x, th, m, e, a, b, c⟩ := h; ⟨T, x, th, m, e, t _ _ a, ThVal.st t b, c⟩
def mW (t : Nat) : Nat := if t ≤ 5 then 100 + 2010 * t else 400000
theorem mW_le {t : Nat} (h : t ≤ 5) : mW t = 100 + 2010 * t := by
  unfold mW
  rw [if_pos h]
theorem mW_top (t : Nat) : mW t ≤ 400000 := by
  unfold mW
  split <;> omega
theorem mW_next {t : Nat} (h : t ≤ 5) : mW t + 1 + costT t + 1 ≤ mW (t + 1) := by
  rw [mW_le h]
  unfold mW costT
  split <;> split <;> omega
end SB
namespace SB
open PySem L2 GxR GA RZ TL
/-! ### signs of numbers -/
theorem tl_iT (z : Int) : tl (iT z) = if z < 0 then 45 :: numL z.natAbs else numL z.natAbs := by
  unfold iT
  cases z with
  | ofNat n =>
    rw [if_neg (show ¬ (Int.ofNat n < 0) from by simp)]
    exact tl_num n
  | negSucc m =>
    rw [if_pos (Int.negSucc_lt_zero m), tl_ofString]
    have e : toString (Int.negSucc m) = "-" ++ Nat.repr (m + 1) := rfl
    rw [e, String.toList_append, List.map_append, Nat.toList_repr]
    rfl
theorem tl_iTn {z : Int} (h : z < 0) : tl (iT z) = 45 :: numL z.natAbs := by rw [tl_iT, if_pos h]
theorem tl_iTp {z : Int} (h : ¬ z < 0) : tl (iT z) = numL z.natAbs := by rw [tl_iT, if_neg h]
theorem iT_free {s : Nat} (h : s < 45 ∨ (45 < s ∧ s < 48) ∨ 57 < s) (z : Int) : s ∉ tl (iT z) := by
  rw [tl_iT]
  have := numL_free (n := z.natAbs) (s := s) (by omega)
  split
  · intro hm
    rcases List.mem_cons.mp hm with e | e
    · omega
    · exact this e
  · exact this
theorem int_iT {z : Int} (h : z.natAbs < 10 ^ 9) : intText? (iT z) = some z := by
  have hl : (numL z.natAbs).length ≤ 9 := numL_len (by decide) h
  by_cases c : z < 0
  · have e := intText_neg (x := iT z) (cs := numL z.natAbs) (tl_iTn c) (numL_digits _) (numL_ne _) (by rw [len_tl, tl_iTn c, List.length_cons]; omega)
    rw [e, numL_val]
    congr 1
    omega
  · have e := intText_digits (x := iT z) (by rw [show (iT z).cps.toList = numL z.natAbs from tl_iTp c]; exact numL_digits _) (by rw [show (iT z).cps.toList = numL z.natAbs from tl_iTp c]; exact numL_ne _) (by rw [len_tl, tl_iTp c]; omega)
    rw [e, show (iT z).cps.toList = numL z.natAbs from tl_iTp c, numL_val]
    congr 1
    omega
theorem sw_pre {x y : Str} (hy : tl y ≠ []) : Txt.startswith x y = pre (tl y) (tl x) := by
  have h := at_iff (x := x) hy 0
  rw [List.drop_zero] at h
  have e : (Txt.startswith x y = true) ↔ StrLaws.At x y x.length 0 := by
    unfold Txt.startswith StrLaws.At
    rw [Bool.and_eq_true, decide_eq_true_iff]
  have k := e.trans h
  cases a : Txt.startswith x y <;> cases b : pre (tl y) (tl x) <;> simp_all
theorem pre1 (s c : Nat) (r : List Nat) : pre [s] (c :: r) = decide (c = s) := by
  unfold pre
  by_cases h : c = s
  · subst h
    simp
  · simp [h]
theorem pre1_nil (s : Nat) : pre [s] [] = false := rfl
theorem tl_minus : tl ("-" : Str) = [45] := by decide +kernel
theorem tl_zero : tl ("0" : Str) = [48] := by decide +kernel
theorem num_zero : ∀ n : Nat, pre [48] (numL n) = decide (n = 0) := by
  intro n
  induction n using Nat.strongRecOn with
  | _ n ih =>
    by_cases h : n < 10
    · rw [numL_lt h, pre1]
      by_cases e : n = 0
      · subst e
        rfl
      · rw [decide_eq_false e, decide_eq_false (by omega)]
    · rw [numL_step (by omega)]
      have k := ih (n / 10) (by omega)
      rw [decide_eq_false (by omega)] at k
      rw [decide_eq_false (by omega)]
      cases q : numL (n / 10) with
      | nil => exact absurd q (numL_ne _)
      | cons c r =>
        rw [q, pre1] at k
        rw [List.cons_append, pre1]
        exact k
theorem cut1 (z : Str) : tl (cutS z (some 1) none) = (tl z).drop 1 := by
  unfold cutS
  rw [tl_mk]
  have hl := len_tl z
  have e1 : HT.sIx z.length z.length none = z.length := rfl
  have e2 : HT.sIx z.length 0 (some 1) = min 1 z.length := by
    show (if (1 : Int) < 0 then ((1 : Int) + (z.length : Int)).toNat else min (1 : Int).toNat z.length) = _
    rw [if_neg (by decide)]
    rfl
  rw [e1, e2]
  show ((tl z).drop (min 1 z.length)).take (z.length - min 1 z.length) = _
  by_cases h : 1 ≤ z.length
  · rw [Nat.min_eq_left h]
    exact List.take_of_length_le (by rw [List.length_drop]; omega)
  · have : tl z = [] := List.length_eq_zero_iff.mp (by omega)
    rw [this]
    simp
/-- the digits of an integer's text -/
def digS (z : Int) : Str := ⟨(numL z.natAbs).toArray⟩
theorem tl_digS (z : Int) : tl (digS z) = numL z.natAbs := rfl
theorem digS_pos {z : Int} (h : ¬ z < 0) : iT z = digS z := ext_tl (tl_iTp h)
theorem digS_neg {z : Int} (h : z < 0) : cutS (iT z) (some 1) none = digS z := ext_tl (by rw [cut1, tl_iTn h]; rfl)
theorem sw_iT (z : Int) : Txt.startswith (iT z) "-" = decide (z < 0) := by
  rw [sw_pre (by rw [tl_minus]; simp), tl_minus]
  by_cases c : z < 0
  · rw [tl_iTn c, pre1, decide_eq_true c]
    rfl
  · rw [tl_iTp c, decide_eq_false c]
    cases q : numL z.natAbs with
    | nil => exact absurd q (numL_ne _)
    | cons d r =>
      rw [pre1]
      have := numL_digits z.natAbs d (by rw [q]; exact List.mem_cons_self)
      exact decide_eq_false (by omega)
theorem sw_dig (z : Int) : Txt.startswith (digS z) "0" = decide (z = 0) := by
  rw [sw_pre (by rw [tl_zero]; simp), tl_zero, tl_digS, num_zero]
  by_cases c : z = 0
  · subst c
    rfl
  · rw [decide_eq_false c, decide_eq_false (by omega)]
theorem all_tl (x : Str) (p : Nat → Bool) : x.cps.all p = (tl x).all p := by simp [tl]
theorem asc_dig (z : Int) : Txt.isascii (digS z) = true := by
  unfold Txt.isascii
  rw [all_tl, tl_digS, List.all_eq_true]
  intro c hc
  have := numL_digits _ c hc
  exact decide_eq_true (by omega)
theorem dig58 : ∀ c, c < 58 → 48 ≤ c → Unicode.isDigit c = true := by decide +kernel
theorem isd_dig (z : Int) : Txt.isdigit (digS z) = true := by
  unfold Txt.isdigit
  rw [all_tl, tl_digS, Bool.and_eq_true]
  refine ⟨decide_eq_true ?_, ?_⟩
  · rw [len_tl, tl_digS]
    exact List.length_pos_iff.mpr (numL_ne _)
  · rw [List.all_eq_true]
    intro c hc
    have := numL_digits _ c hc
    exact dig58 c (by omega) (by omega)
theorem len_dig {z : Int} (h : z.natAbs < 10 ^ 9) : (digS z).length ≤ 9 := by
  rw [len_tl, tl_digS]
  exact numL_len (by decide) h
theorem len_dig0 (z : Int) {k : Nat} (hk : 0 < k) (h : z.natAbs < 10 ^ k) : (digS z).length ≤ k := by
  rw [len_tl, tl_digS]
  exact numL_len hk h
theorem iT_zero : iT 0 = ("0" : Str) := rfl
end SB
namespace SB
open PySem L2 GxR GA RZ RP TL
/-- how many signs an integer may have -/
structure MostD (mg : Str → Option Value) : Prop where
  ex : ∃ t : Tok, mg "MOST_DIGITS" = some (.int 9 t)
theorem tru_str {K : PySem.W.Frag} {H : Hp} {z : Str} (h : z.length ≤ sizeLine) : TruV K (.str z) H ((z.length : Int) != 0) := ⟨h, rfl⟩
theorem tru_s1 {K : PySem.W.Frag} {H : Hp} {z : Str} (h : z.length ≤ sizeLine) (n : 1 ≤ z.length) : TruV K (.str z) H true := by
  have e : ((z.length : Int) != 0) = true := by
    rw [bne_iff_ne]
    omega
  exact ⟨h, e.symm⟩
theorem tru_s0 {K : PySem.W.Frag} {H : Hp} : TruV K (.str Str.empty) H false := ⟨Nat.zero_le _, rfl⟩
section
variable {P : Program} {w : World} {K : PySem.W.Frag} {mg : Str → Option Value} {base : Heap}
def spIntIn : Sp := fun vs H Q _ => ∃ z : Int, vs = [.str (iT z)] ∧ z.natAbs < 10 ^ 9 ∧ Q (.int z) H
theorem sc_intIn : FnScope ["word", "digits"] ["word"] (defScope s_integer_in) := ⟨rfl, rfl, rfl, by decide +kernel, rfl, by decide +kernel, by decide +kernel⟩
theorem cl_intIn (D : Df K mg "integer_in" s_integer_in) (B : Blt mg) (MD : MostD mg) : Cl P w K mg base 1 "integer_in" ["word"] spIntIn := by
  refine D.cl (fun _ _ _ _ _ _ us hl => match us, hl with | [_], _ => rfl) fun f fd F => F.ok sc_intIn (fun vs H Q E h => ?_) (fun cdv A outer s H vs Q E hr h => ?_)
  · obtain ⟨z, rfl, _⟩ := h
    rfl
  obtain ⟨z, rfl, hz, q⟩ := h
  obtain ⟨t9, m9⟩ := MD.ex
  refine ⟨_, (pss_cons (ps_set (i := 1) sc_intIn.nd rfl (.inl rfl) (pe_ifExp (pt_val (pe_m1 PySem.F.slot_str_startswith PySem.F.type_str_startswith mt_startswith (pv 0) pe_str)) (pe_slice sl_str (pv 0) (po_some pe_int) po_none) (pv 0)))
    (pss_cons (ps_if (PW.pt (by exact (pw_or (pt_not (pt_val (pe_m0 PySem.F.slot_str_isascii PySem.F.type_str_isascii mt_isascii (pv 1)))) (pw_or (pt_not (pt_val (pe_m0 PySem.F.slot_str_isdigit PySem.F.type_str_isdigit mt_isdigit (pv 1)))) (pw_or1 (pt_cmpR op_gt (pe_callB call_len_str rfl B.len PySem.boot_len (pa_cons (pv 1) pa_nil)) (pe_glob (v := .int 9) rfl m9 ⟨_, rfl⟩) (nomark _))))))) pss_no pss_nil)
    (pss_cons (ps_if (PW.pt (by exact (pw_and (pt_val (pe_m1 PySem.F.slot_str_startswith PySem.F.type_str_startswith mt_startswith (pv 1) pe_str)) (pw_and1 (pt_cmpR op_ne (pv 0) pe_str (nomark _)))))) pss_no pss_nil)
    (pss_one (ps_ret (pe_callTy call_int_str rfl B.int PyProof.Rows.boot_int (pa_cons (pv 0) pa_nil))))))), ?_⟩
  have l10 := iT_len (by decide) hz
  have l9 := len_dig hz
  refine seq_join (fun σ' H' => σ' = [some (.str (iT z)), some (.str (digS z))] ∧ H' = H) (fun σ' H1 h => ?_) (fun Kn hK => ?_)
  rotate_left
  · refine ⟨_, rfl, ⟨_, rfl⟩, _, _, rfl, rfl, _, rfl, ?_⟩
    rw [sw_iT]
    by_cases c : z < 0
    · refine iteP c ⟨_, rfl, _, rfl, iT z, rfl, sz15 (by omega), ?_⟩
      rw [digS_neg c]
      exact hK _ _ ⟨rfl, rfl⟩
    · refine iteN c ⟨_, rfl, ?_⟩
      exact hK _ _ ⟨by rw [← digS_pos c]; rfl, rfl⟩
  obtain ⟨rfl, rfl⟩ := h
  refine ⟨_, rfl, ⟨_, rfl⟩, _, rfl, rfl, trivial, _, rfl, ?_⟩
  rw [asc_dig]
  refine iteF ⟨_, rfl, ⟨_, rfl⟩, _, rfl, rfl, trivial, _, rfl, ?_⟩
  rw [isd_dig]
  refine iteF ⟨_, rfl, _, rfl, sz15 (by omega), _, _, rfl, rfl, _, rfl, iteN (by omega) ?_⟩
  refine ⟨_, rfl, ⟨_, rfl⟩, _, _, rfl, rfl, _, rfl, ?_⟩
  rw [sw_dig]
  have fin : ∀ X : Prop, (X → X) := fun _ h => h
  by_cases c : z = 0
  · subst c
    refine iteP rfl ⟨_, rfl, rfl, _, rfl, iteNS rfl ?_⟩
    exact ⟨_, rfl, _, 0, rfl, int_iT hz, by omega, q⟩
  · refine iteN c ?_
    exact ⟨_, rfl, _, z, rfl, int_iT hz, by omega, q⟩
def spAllIn (K : PySem.W.Frag) : Sp := fun vs H Q _ => ∃ (a : Addr) (xs : List V) (ds : List PyData), vs = [.ref a] ∧ SqL K H a xs ∧ DpAll K H xs ds ∧ SeqAt.shaped (.list ds) = true ∧ (ds.any fun z => PyData.eqv z .none) = false ∧ ∀ p H', Gr H H' → SqT K H' p xs → Q (.ref p) H'
theorem sc_allIn : FnScope ["found"] ["found"] (defScope s__all_or_none) := ⟨rfl, rfl, rfl, by decide +kernel, rfl, by decide +kernel, by decide +kernel⟩
theorem cl_allIn (D : Df K mg "_all_or_none" s__all_or_none) (B : Blt mg) : Cl P w K mg base 1 "_all_or_none" ["found"] (spAllIn K) := by
  refine D.cl (fun _ _ _ _ _ _ us hl => match us, hl with | [_], _ => rfl) fun f fd F => F.ok sc_allIn (fun vs H Q E h => ?_) (fun cdv A outer s H vs Q E hr h => ?_)
  · obtain ⟨a, xs, ds, rfl, _⟩ := h
    rfl
  obtain ⟨a, xs, ds, rfl, hs, hd, sh, no, q⟩ := h
  refine ⟨_, (pss_one (ps_ret (pe_ifExp (pt_cmpR (op_inD (yunits hr)) pe_non (pv 0) rfl) pe_non (pe_callTy call_tuple_of rfl B.tup bootTup (pa_cons (pv 0) pa_nil))))), ?_⟩
  refine ⟨_, rfl, _, ds, .non, .lst hs hd, by decide, sh, _, rfl, ?_⟩
  rw [no]
  refine iteF ⟨_, rfl, a, xs, rfl, .inl ⟨hs, fun p np => ?_⟩⟩
  exact q p _ ((Gr.refl H).new np _) (SqT.of upd_same)
def spLines (K : PySem.W.Frag) : Sp := fun vs H Q _ => ∃ z : Str, vs = [.str z] ∧ z.length ≤ 16777000 ∧ ∀ p H', Gr H H' → H' p = some (.lst ((Txt.split z "\n").map V.str)) → Q (.ref p) H'
theorem sc_lines : FnScope ["text"] ["text"] (defScope s__lines_of) := ⟨rfl, rfl, rfl, by decide +kernel, rfl, by decide +kernel, by decide +kernel⟩
theorem cl_lines (D : Df K mg "_lines_of" s__lines_of) (B : Blt mg) : Cl P w K mg base 1 "_lines_of" ["text"] (spLines K) := by
  refine D.cl (fun _ _ _ _ _ _ us hl => match us, hl with | [_], _ => rfl) fun f fd F => F.ok sc_lines (fun vs H Q E h => ?_) (fun cdv A outer s H vs Q E hr h => ?_)
  · obtain ⟨z, rfl, _⟩ := h
    rfl
  obtain ⟨z, rfl, hz, q⟩ := h
  refine ⟨_, (pss_cons (ps_if (pt_not (pt_val (pe_callB call_isi rfl B.isi PyProof.Rows.boot_isinstance (pa_cons (pv 0) (pa_cons (pe_bltn (v := .ty "str") rfl B.str bootStr rfl) pa_nil))))) pss_no pss_nil)
    (pss_one (ps_ret (pe_split (pv 0) pe_str)))), ?_⟩
  refine ⟨_, rfl, _, _, _, _, _, rfl, .ty _, .base (.str z), kit_ty (r := true) (by decide +kernel), _, rfl, iteF ?_⟩
  refine ⟨_, rfl, ⟨_, rfl⟩, _, _, rfl, rfl, rfl, by rw [sizeLine_eq]; omega, fun p np => ?_⟩
  exact q p _ ((Gr.refl H).new np _) upd_same
def spNumIn (K : PySem.W.Frag) : Sp := fun vs H Q _ => ∃ r : Int × Int, vs = [.str (numT r)] ∧ Lo r ∧ r.1.natAbs < 10 ^ 9 ∧ r.2.natAbs < 10 ^ 9 ∧ ∀ v H', Gr H H' → NuV K H' v r → Q v H'
theorem sc_numIn : FnScope ["word", "shown", "slash", "below", "top", "bottom"] ["word"] (defScope s_number_in) := ⟨rfl, rfl, rfl, by decide +kernel, rfl, by decide +kernel, by decide +kernel⟩
theorem tl_slash : tl ("/" : Str) = 47 :: [] := by decide +kernel
theorem cl_numIn (D : Df K mg "number_in" s_number_in) (B : Blt mg) (CI : Cl P w K mg base 1 "integer_in" ["word"] spIntIn) : Cl P w K mg base 2 "number_in" ["word"] (spNumIn K) := by
  refine D.cl (fun _ _ _ _ _ _ us hl => match us, hl with | [_], _ => rfl) fun f fd F => F.ok sc_numIn (fun vs H Q E h => ?_) (fun cdv A outer s H vs Q E hr h => ?_)
  · obtain ⟨r, rfl, _⟩ := h
    rfl
  obtain ⟨r, rfl, lo, h1, h2, q⟩ := h
  refine ⟨_, (pss_cons (ps_asg (pe_partition (pv 0) pe_str) (pg_tup rfl (pgs_cons (pg_name (i := 1) sc_numIn.nd rfl (Or.inl rfl)) (pgs_cons (pg_name (i := 2) sc_numIn.nd rfl (Or.inl rfl)) (pgs_cons (pg_name (i := 3) sc_numIn.nd rfl (Or.inl rfl)) pgs_nil)))))
    (pss_cons (ps_set (i := 4) sc_numIn.nd rfl (.inl rfl) (pe_cl CI (hr.mono (by decide)) (pa_cons (pv 1) pa_nil)))
    (pss_cons (ps_set (i := 5) sc_numIn.nd rfl (.inl rfl) (pe_ifExp (pt_truth (pv 2) (by intro _; rfl)) (pe_cl CI (hr.mono (by decide)) (pa_cons (pv 3) pa_nil)) pe_int))
    (pss_cons (ps_if (PW.pt (by exact (pw_or (pt_cmp (pc_isN (pv 4))) (pw_or (pt_cmp (pc_isN (pv 5))) (pw_or (pt_cmpR op_lt (pv 5) pe_int (nomark _)) (pw_or1 (pt_cmpR op_gt (pe_callBfun cr_gcd rfl B.gcd (pa_cons (pv 4) (pa_cons (pv 5) pa_nil))) pe_int (nomark _)))))))) pss_no pss_nil)
    (pss_one (ps_ret (pe_ifExp (PW.pt (by exact (pw_and (pt_truth (pv 2) (by intro _; rfl)) (pw_and1 (pt_cmpR op_eq (pv 5) pe_int (nomark _)))))) pe_non (pe_tup (pa_cons (pv 4) (pa_cons (pv 5) pa_nil)))))))))), ?_⟩
  have l1 := iT_len (by decide) h1
  have l2 := iT_len (by decide) h2
  have ls : ("/" : Str).length = 1 := rfl
  obtain ⟨b0, gg⟩ := lo
  have gi : ((Nat.gcd r.1.natAbs r.2.natAbs : Nat) : Int) = 1 := by rw [gg]; rfl
  by_cases c : r.2 = 1
  · have e : numT r = iT r.1 := by
      unfold numT
      rw [if_pos c]
    rw [e]
    refine ⟨_, rfl, ⟨_, rfl⟩, _, _, rfl, rfl, rfl, sz15 (by omega), fun p np => ?_⟩
    rw [partition_none tl_slash (iT_free (by omega) _)]
    refine ⟨p, _, rfl, SqT.of upd_same, rfl, _, _, rfl, _, _, rfl, _, _, rfl, rfl, ?_⟩
    have rp := (Gr.refl H).new np (.tup [.str (iT r.1), .str Str.empty, .str Str.empty])
    generalize upd H p (.tup [.str (iT r.1), .str Str.empty, .str Str.empty]) = H1 at rp ⊢
    refine ⟨_, rfl, r.1, rfl, h1, ?_⟩
    refine ⟨_, rfl, false, tru_s0, iteF ?_⟩
    refine ⟨_, rfl, _, rfl, iteN (fun z => nomatch z) ⟨_, rfl, _, rfl, iteN (fun z => nomatch z) ⟨_, rfl, _, _, rfl, rfl, _, rfl, iteN (by decide) ⟨_, rfl, _, rfl, _, _, rfl, _, _, rfl, rfl, _, rfl, iteN ?_ ?_⟩⟩⟩⟩
    · rw [c] at gi
      omega
    refine ⟨_, rfl, false, tru_s0, iteF ⟨_, rfl, _, rfl, szN (by show 2 ≤ 1000000; decide), fun T nT => ?_⟩⟩
    refine q _ _ (rp.new nT _) ⟨T, rfl, ?_⟩
    rw [c]
    exact SqT.of upd_same
  · have e : numT r = iT r.1 ++ "/" ++ iT r.2 := by
      unfold numT
      rw [if_neg c]
    rw [e]
    refine ⟨_, rfl, ⟨_, rfl⟩, _, _, rfl, rfl, rfl, sz15 (by rw [len_app, len_app]; omega), fun p np => ?_⟩
    rw [partition_app tl_slash (iT_free (by omega) _)]
    refine ⟨p, _, rfl, SqT.of upd_same, rfl, _, _, rfl, _, _, rfl, _, _, rfl, rfl, ?_⟩
    have rp := (Gr.refl H).new np (.tup [.str (iT r.1), .str "/", .str (iT r.2)])
    generalize upd H p (.tup [.str (iT r.1), .str "/", .str (iT r.2)]) = H1 at rp ⊢
    refine ⟨_, rfl, r.1, rfl, h1, ?_⟩
    refine ⟨_, rfl, true, tru_s1 (z := "/") (by decide) (by decide), iteT ⟨_, rfl, r.2, rfl, h2, ?_⟩⟩
    refine ⟨_, rfl, _, rfl, iteN (fun z => nomatch z) ⟨_, rfl, _, rfl, iteN (fun z => nomatch z) ⟨_, rfl, _, _, rfl, rfl, _, rfl, iteN (by omega) ⟨_, rfl, _, rfl, _, _, rfl, _, _, rfl, rfl, _, rfl, iteN ?_ ?_⟩⟩⟩⟩
    · omega
    refine ⟨_, rfl, true, tru_s1 (z := "/") (by decide) (by decide), iteT ⟨_, rfl, rfl, _, rfl, iteN (fun z => c (by injection z)) ⟨_, rfl, _, rfl, szN (by show 2 ≤ 1000000; decide), fun T nT => ?_⟩⟩⟩
    exact q _ _ (rp.new nT _) ⟨T, rfl, SqT.of upd_same⟩
end
end SB
namespace SB
open PySem L2 GxR GA RZ RP TL
theorem iteNN {x : V} {A B : Prop} (h : ¬ x = V.non) (a : A) : if (!decide (x = V.non)) = true then A else B := by
  rw [decide_eq_false h]
  exact iteT a
theorem tl_blank : tl (" " : Str) = 32 :: [] := by decide +kernel
theorem tl_colon : tl (" : " : Str) = [32, 58, 32] := by decide +kernel
theorem tl_nl : tl ("\n" : Str) = 10 :: [] := by decide +kernel
theorem joinL_mem {S : List Nat} {c : Nat} : ∀ {L : List (List Nat)}, c ∈ joinL S L → c ∈ S ∨ ∃ p, p ∈ L ∧ c ∈ p
  | [], h => by cases h
  | [p], h => .inr ⟨p, List.mem_cons_self, h⟩
  | p :: q :: r, h => by
    have h : c ∈ p ++ (S ++ joinL S (q :: r)) := h
    rcases List.mem_append.mp h with h | h
    · exact .inr ⟨p, List.mem_cons_self, h⟩
    · rcases List.mem_append.mp h with h | h
      · exact .inl h
      · rcases joinL_mem h with h | ⟨z, hz, hc⟩
        · exact .inl h
        · exact .inr ⟨z, List.mem_cons_of_mem _ hz, hc⟩
theorem join_free {y : Str} {s : Nat} {ps : List Str} (hy : s ∉ tl y) (hp : ∀ p, p ∈ ps → s ∉ tl p) : s ∉ tl (Txt.join y ps) := by
  rw [join_eq, tl_join]
  intro h
  rcases joinL_mem h with h | ⟨p, hm, hc⟩
  · exact hy h
  · obtain ⟨q, hq, rfl⟩ := List.mem_map.mp hm
    exact hp q hq hc
theorem app_free {x y : Str} {s : Nat} (hx : s ∉ tl x) (hy : s ∉ tl y) : s ∉ tl (x ++ y) := by
  rw [tl_append]
  intro h
  rcases List.mem_append.mp h with h | h
  · exact hx h
  · exact hy h
theorem sidesT_free {s : Nat} (h : s < 45 ∨ (45 < s ∧ s < 48) ∨ 57 < s) (h2 : s ≠ 32) (ns : List Int) : s ∉ tl (sidesT ns) := by
  refine join_free (by rw [tl_blank]; simp; omega) fun p hp => ?_
  obtain ⟨z, _, rfl⟩ := List.mem_map.mp hp
  exact iT_free h z
theorem numT_free {s : Nat} (h : s < 45 ∨ 57 < s) (r : Int × Int) : s ∉ tl (numT r) := by
  unfold numT
  split
  · exact iT_free (by omega) _
  · exact app_free (app_free (iT_free (by omega) _) (by rw [tl_slash]; simp; omega)) (iT_free (by omega) _)
theorem colon_free {p rest : List Nat} (h : 58 ∉ p) : ∀ i, i < p.length → pre [32, 58, 32] ((p ++ ([32, 58, 32] ++ rest)).drop i) = false := by
  intro i hi
  cases q : pre [32, 58, 32] ((p ++ ([32, 58, 32] ++ rest)).drop i) with
  | false => rfl
  | true =>
    exfalso
    have e : ((p ++ ([32, 58, 32] ++ rest)).drop i).take 3 = [32, 58, 32] := eq_of_beq q
    have e1 : (((p ++ ([32, 58, 32] ++ rest)).drop i).take 3)[1]? = some 58 := by rw [e]; rfl
    rw [List.getElem?_take_of_lt (by decide), List.getElem?_drop] at e1
    by_cases c : i + 1 < p.length
    · rw [List.getElem?_append_left c] at e1
      exact h (List.mem_of_getElem? e1)
    · rw [List.getElem?_append_right (by omega), show i + 1 - p.length = 0 from by omega] at e1
      cases e1
theorem part_colon {a b : Str} (h : 58 ∉ tl a) : Txt.partition (a ++ " : " ++ b) " : " = (a, (" : " : Str), b) := by
  rw [partition_par _ _ (by rw [tl_colon]; simp), tl_append, tl_append, List.append_assoc, tl_colon, par_part (by simp) (colon_free h)]
  show ((⟨([] ++ tl a).toArray⟩ : Str), (" : " : Str), (⟨(tl b).toArray⟩ : Str)) = _
  rw [List.nil_append, mk_tl, mk_tl]
theorem anyP_ints (ns : List Int) : ((ns.map PyData.int).any fun z => PyData.eqv z .none) = false := by
  induction ns with
  | nil => rfl
  | cons n r ih =>
    rw [List.map_cons, List.any_cons, ih]
    rfl
def numP (r : Int × Int) : PyData := .tuple [.int r.1, .int r.2]
theorem any_nums (rs : List (Int × Int)) : ((rs.map numP).any fun z => PyData.eqv z .none) = false := by
  induction rs with
  | nil => rfl
  | cons n r ih =>
    rw [List.map_cons, List.any_cons, ih]
    rfl
theorem lay_nums : ∀ rs : List (Int × Int), PyData.canLayAll0 (rs.map numP) = true
  | [] => rfl
  | j :: r => by
    show (PyData.canLay0 (numP j) && PyData.canLayAll0 (r.map numP)) = true
    rw [lay_nums r]
    rfl
theorem dep_nums : ∀ rs : List (Int × Int), PyData.depthAll (rs.map numP) ≤ 1
  | [] => Nat.zero_le _
  | j :: r => by
    have h := dep_nums r
    rw [List.map_cons]
    simp [PyData.depthAll, PyData.depth, numP]
    omega
theorem shp_nums (rs : List (Int × Int)) : SeqAt.shaped (.list (rs.map numP)) = true := by
  unfold SeqAt.shaped
  rw [Bool.and_eq_true]
  refine ⟨lay_nums rs, decide_eq_true ?_⟩
  have h := dep_nums rs
  simp [PyData.depth]
  omega
theorem dp_nums {K : PySem.W.Frag} {H : Hp} : ∀ {xs : List V} {rs : List (Int × Int)}, Paired (NuV K H) xs rs → DpAll K H xs (rs.map numP)
  | _, _, .nil => .nil
  | _, _, .cons ⟨a, e, h⟩ t => by
    subst e
    exact .cons (.tup h (.cons (.int _) (.cons (.int _) .nil))) (dp_nums t)
section
variable {P : Program} {w : World} {K : PySem.W.Frag} {mg : Str → Option Value} {base : Heap}
def spSdsIn (K : PySem.W.Frag) : Sp := fun vs H Q _ => ∃ ns : List Int, vs = [.str (sidesT ns)] ∧ 1 ≤ ns.length ∧ ns.length ≤ 12 ∧ (∀ z, z ∈ ns → z.natAbs < 10 ^ 9) ∧ ∀ v H', Gr H H' → SiV K H' v ns → Q v H'
theorem sc_sdsIn : FnScope ["words", "word"] ["words"] (defScope s__sides_in) := ⟨rfl, rfl, rfl, by decide +kernel, rfl, by decide +kernel, by decide +kernel⟩
theorem cl_sdsIn (D : Df K mg "_sides_in" s__sides_in) (CI : Cl P w K mg base 1 "integer_in" ["word"] spIntIn) (CA : Cl P w K mg base 1 "_all_or_none" ["found"] (spAllIn K)) : Cl P w K mg base 2 "_sides_in" ["words"] (spSdsIn K) := by
  refine D.cl (fun _ _ _ _ _ _ us hl => match us, hl with | [_], _ => rfl) fun f fd F => F.ok sc_sdsIn (fun vs H Q E h => ?_) (fun cdv A outer s H vs Q E hr h => ?_)
  · obtain ⟨ns, rfl, _⟩ := h
    rfl
  obtain ⟨ns, rfl, n1, n12, hz, q⟩ := h
  refine ⟨_, (pss_one (ps_ret (pe_cl CA (hr.mono (by decide)) (pa_cons (pe_lc (own := [("word", 1)]) (g := gName 1) rfl sc_sdsIn.nd (pi_list (pe_split (pv 0) pe_str)) (blkOk_by (N := ["words", "word"]) (sc := defScope s__sides_in) (by decide +kernel)) (fun _ _ _ _ _ => (pg_name (i := 1) sc_sdsIn.nd rfl (Or.inl rfl))) (fun _ _ _ _ _ => pts_nil) (fun _ _ _ _ _ => (pe_cl CI (hr.mono (by decide)) (pa_cons (pv 1) pa_nil)))) pa_nil)))), ?_⟩
  have sl := sidesT_len (k := 9) (by decide) hz
  have m : ns.length * (9 + 1 + 1) ≤ 12 * 11 := Nat.mul_le_mul n12 (by decide)
  refine ⟨_, rfl, ⟨_, rfl⟩, _, _, rfl, rfl, rfl, sz15 (by omega), fun L nL => ?_⟩
  have es : Txt.split (sidesT ns) " " = ns.map iT := split_join tl_blank (by decide +kernel) (by
    intro e
    have := congrArg List.length e
    rw [List.length_map, List.length_nil] at this
    omega) fun p hp => by
      obtain ⟨z, _, rfl⟩ := List.mem_map.mp hp
      exact iT_free (by omega) z
  rw [es]
  have rL := (Gr.refl H).new nL (.lst ((ns.map iT).map V.str))
  have hL : SqL K (upd H L (.lst ((ns.map iT).map V.str))) L ((ns.map iT).map V.str) := SqL.of upd_same
  generalize upd H L (.lst ((ns.map iT).map V.str)) = H1 at rL hL ⊢
  refine ⟨L, rfl, ⟨_, hL⟩, fun D nD => ?_⟩
  refine lc_mapL (K := K) (fun i y _ => ∃ z, ns[i]? = some z ∧ y = .int z) (fun _ _ _ _ h _ => h) nD hL (by rw [List.length_map, List.length_map]; omega) (fun i x H3 Kc hx g3 kc => ?_) (fun ys H3 hD hy g3 hR => ?_)
  · rw [List.getElem?_map, List.getElem?_map] at hx
    cases e : ns[i]? with
    | none => rw [e] at hx; cases hx
    | some n =>
      rw [e] at hx
      cases hx
      exact ⟨rfl, _, rfl, n, rfl, hz n (List.mem_of_getElem? e), kc _ _ (Gr.refl _) ⟨n, e, rfl⟩⟩
  · have e : ys = ns.map V.int := by
      rw [List.length_map, List.length_map] at hy
      refine List.ext_getElem? fun i => ?_
      by_cases hi : i < ys.length
      · obtain ⟨z, e1, e2⟩ := hR i ys[i] (List.getElem?_eq_getElem hi)
        rw [List.getElem?_eq_getElem hi, List.getElem?_map, e1, e2]
        rfl
      · rw [List.getElem?_eq_none (by omega), List.getElem?_eq_none (by rw [List.length_map]; omega)]
    rw [e] at hD
    exact ⟨D, _, _, rfl, SqL.of hD, dp_ints ns, shp_ints ns, anyP_ints ns, fun p H4 g4 hp => q _ _ ((rL.trans g3).trans g4) ⟨p, rfl, hp⟩⟩
def spPtIn (K : PySem.W.Frag) : Sp := fun vs H Q _ => ∃ rs : List (Int × Int), vs = [.str (pointT rs)] ∧ 1 ≤ rs.length ∧ rs.length ≤ 12 ∧ (∀ r, r ∈ rs → Lo r ∧ r.1.natAbs < 10 ^ 9 ∧ r.2.natAbs < 10 ^ 9) ∧ ∀ v H', Gr H H' → PtV K H' v rs → Q v H'
theorem sc_ptIn : FnScope ["line", "word"] ["line"] (defScope s_point_in) := ⟨rfl, rfl, rfl, by decide +kernel, rfl, by decide +kernel, by decide +kernel⟩
theorem cl_ptIn (D : Df K mg "point_in" s_point_in) (CN : Cl P w K mg base 2 "number_in" ["word"] (spNumIn K)) (CA : Cl P w K mg base 1 "_all_or_none" ["found"] (spAllIn K)) : Cl P w K mg base 3 "point_in" ["line"] (spPtIn K) := by
  refine D.cl (fun _ _ _ _ _ _ us hl => match us, hl with | [_], _ => rfl) fun f fd F => F.ok sc_ptIn (fun vs H Q E h => ?_) (fun cdv A outer s H vs Q E hr h => ?_)
  · obtain ⟨rs, rfl, _⟩ := h
    rfl
  obtain ⟨rs, rfl, n1, n12, hz, q⟩ := h
  refine ⟨_, (pss_one (ps_ret (pe_cl CA (hr.mono (by decide)) (pa_cons (pe_lc (own := [("word", 1)]) (g := gName 1) rfl sc_ptIn.nd (pi_list (pe_split (pv 0) pe_str)) (blkOk_by (N := ["line", "word"]) (sc := defScope s_point_in) (by decide +kernel)) (fun _ _ _ _ _ => (pg_name (i := 1) sc_ptIn.nd rfl (Or.inl rfl))) (fun _ _ _ _ _ => pts_nil) (fun _ _ _ _ _ => (pe_cl CN (hr.mono (by decide)) (pa_cons (pv 1) pa_nil)))) pa_nil)))), ?_⟩
  have jl := join_len (a := " ") (ys := rs.map numT) (b := 21) fun y hy => by
    obtain ⟨r, hr', rfl⟩ := List.mem_map.mp hy
    exact numT_len (k := 9) (by decide) (hz r hr').2.1 (hz r hr').2.2
  rw [List.length_map] at jl
  have m : rs.length * (21 + (" " : Str).length) ≤ 12 * 22 := Nat.mul_le_mul n12 (by decide)
  have pl : (pointT rs).length ≤ 1000 := by
    show (Txt.join " " (rs.map numT)).length ≤ 1000
    omega
  refine ⟨_, rfl, ⟨_, rfl⟩, _, _, rfl, rfl, rfl, sz15 (by omega), fun L nL => ?_⟩
  have es : Txt.split (pointT rs) " " = rs.map numT := split_join tl_blank (by decide +kernel) (by
    intro e
    have := congrArg List.length e
    rw [List.length_map, List.length_nil] at this
    omega) fun p hp => by
      obtain ⟨z, _, rfl⟩ := List.mem_map.mp hp
      exact numT_free (by omega) z
  rw [es]
  have rL := (Gr.refl H).new nL (.lst ((rs.map numT).map V.str))
  have hL : SqL K (upd H L (.lst ((rs.map numT).map V.str))) L ((rs.map numT).map V.str) := SqL.of upd_same
  generalize upd H L (.lst ((rs.map numT).map V.str)) = H1 at rL hL ⊢
  refine ⟨L, rfl, ⟨_, hL⟩, fun D nD => ?_⟩
  refine lc_mapL (K := K) (fun i y H => ∃ z, rs[i]? = some z ∧ NuV K H y z) (fun _ _ _ _ ⟨z, e, a, e2, h⟩ t => ⟨z, e, a, e2, t _ _ h⟩) nD hL (by rw [List.length_map, List.length_map]; omega) (fun i x H3 Kc hx g3 kc => ?_) (fun ys H3 hD hy g3 hR => ?_)
  · rw [List.getElem?_map, List.getElem?_map] at hx
    cases e : rs[i]? with
    | none => rw [e] at hx; cases hx
    | some n =>
      rw [e] at hx
      cases hx
      obtain ⟨b1, b2, b3⟩ := hz n (List.mem_of_getElem? e)
      exact ⟨rfl, _, rfl, n, rfl, b1, b2, b3, fun v H4 g4 hv => kc _ _ g4 ⟨n, e, hv⟩⟩
  · rw [List.length_map, List.length_map] at hy
    have pd : Paired (NuV K H3) ys rs := paired_of hy fun i y z hy hz => by
      obtain ⟨r, er, hr'⟩ := hR i y hy
      rw [er] at hz
      cases hz
      exact hr'
    exact ⟨D, _, _, rfl, SqL.of hD, dp_nums pd, shp_nums rs, any_nums rs, fun p H4 g4 hp => q _ _ ((rL.trans g3).trans g4) ⟨p, ys, rfl, hp, Paired.mapP pd fun _ _ z => NuV.gr z g4⟩⟩
def spQuIn (K : PySem.W.Frag) : Sp := fun vs H Q _ => ∃ q0 : List Int × Int, vs = [.str (quT q0)] ∧ 1 ≤ q0.1.length ∧ q0.1.length ≤ 12 ∧ (∀ z, z ∈ q0.1 → z.natAbs < 10 ^ 9) ∧ q0.2.natAbs < 10 ^ 9 ∧ ∀ v H', Gr H H' → QuV K H' v q0 → Q v H'
theorem sc_quIn : FnScope ["line", "shown", "colon", "behind", "sides", "wall"] ["line"] (defScope s__question_in) := ⟨rfl, rfl, rfl, by decide +kernel, rfl, by decide +kernel, by decide +kernel⟩
theorem cl_quIn (D : Df K mg "_question_in" s__question_in) (CI : Cl P w K mg base 1 "integer_in" ["word"] spIntIn) (CS : Cl P w K mg base 2 "_sides_in" ["words"] (spSdsIn K)) : Cl P w K mg base 3 "_question_in" ["line"] (spQuIn K) := by
  refine D.cl (fun _ _ _ _ _ _ us hl => match us, hl with | [_], _ => rfl) fun f fd F => F.ok sc_quIn (fun vs H Q E h => ?_) (fun cdv A outer s H vs Q E hr h => ?_)
  · obtain ⟨q0, rfl, _⟩ := h
    rfl
  obtain ⟨q0, rfl, n1, n12, hz, hw, q⟩ := h
  refine ⟨_, (pss_cons (ps_asg (pe_partition (pv 0) pe_str) (pg_tup rfl (pgs_cons (pg_name (i := 1) sc_quIn.nd rfl (Or.inl rfl)) (pgs_cons (pg_name (i := 2) sc_quIn.nd rfl (Or.inl rfl)) (pgs_cons (pg_name (i := 3) sc_quIn.nd rfl (Or.inl rfl)) pgs_nil)))))
    (pss_cons (ps_par (i := 4) (j := 5) rfl sc_quIn.nd rfl rfl (by decide) rfl rfl (pa_cons (pe_cl CS (hr.mono (by decide)) (pa_cons (pv 1) pa_nil)) (pa_cons (pe_cl CI (hr.mono (by decide)) (pa_cons (pv 3) pa_nil)) pa_nil)) rfl)
    (pss_one (ps_ret (pe_ifExp (PW.pt (by exact (pw_and (pt_truth (pv 2) (by intro _; rfl)) (pw_and (pt_cmp (pc_notN (pv 4))) (pw_and1 (pt_cmp (pc_notN (pv 5)))))))) (pe_tup (pa_cons (pv 4) (pa_cons (pv 5) pa_nil))) pe_non))))), ?_⟩
  have l1 := quT_len (k := 9) (by decide) hz hw
  have m : q0.1.length * (9 + 1 + 1) ≤ 12 * 11 := Nat.mul_le_mul n12 (by decide)
  refine ⟨_, rfl, ⟨_, rfl⟩, _, _, rfl, rfl, rfl, sz15 (by omega), fun p np => ?_⟩
  have e : Txt.partition (quT q0) " : " = (sidesT q0.1, (" : " : Str), iT q0.2) := part_colon (sidesT_free (by omega) (by decide) _)
  rw [e]
  refine ⟨p, _, rfl, SqT.of upd_same, rfl, _, _, rfl, _, _, rfl, _, _, rfl, rfl, ?_⟩
  have rp := (Gr.refl H).new np (.tup [.str (sidesT q0.1), .str " : ", .str (iT q0.2)])
  generalize upd H p (.tup [.str (sidesT q0.1), .str " : ", .str (iT q0.2)]) = H1 at rp ⊢
  refine ⟨_, rfl, q0.1, rfl, n1, n12, hz, fun v H2 g2 hv => ⟨_, rfl, q0.2, rfl, hw, _, _, rfl, ?_⟩⟩
  refine ⟨_, rfl, true, tru_s1 (z := " : ") (by decide) (by decide), iteT ?_⟩
  obtain ⟨a, rfl, ha⟩ := hv
  refine ⟨_, rfl, _, rfl, iteNN (fun z => nomatch z) ⟨_, rfl, _, rfl, iteNN (fun z => nomatch z) ⟨_, rfl, _, rfl, szN (by show 2 ≤ 1000000; decide), fun T nT => ?_⟩⟩⟩
  have rT := (Gr.refl H2).new nT (.tup [.ref a, .int q0.2])
  exact q _ _ ((rp.trans g2).trans rT) ⟨T, .ref a, rfl, SqT.of upd_same, a, rfl, rT.seqT ha⟩
end
end SB
namespace SB
open PySem L2 GxR GA RZ RP TL
/-- the module's dict of the signs of answers -/
structure SignD (K : PySem.W.Frag) (w : World) (mg : Str → Option Value) : Prop where
  ex : ∃ (d : Addr) (es : Array DictEntry) (n : Nat) (t1 t2 t3 : Tok), mg "SIGNS" = some (.ref d) ∧ KDict K w d es n ∧ PySem.W.nsIn K d "-" = some (some (.int (-1) t1)) ∧ PySem.W.nsIn K d "0" = some (some (.int 0 t2)) ∧ PySem.W.nsIn K d "+" = some (some (.int 1 t3)) ∧ PySem.W.nsIn K d "?" = some (some .none)
def sgnC : Option Int → Nat
  | none => 63
  | some a => if a = -1 then 45 else if a = 0 then 48 else 43
theorem sgnT_c {h : Option Int} (ho : HopeOk h) : sgnT h = (⟨#[sgnC h]⟩ : Str) := by
  rcases ho with rfl | rfl | rfl | rfl <;> exact ext_tl (by decide +kernel)
theorem SignD.use {K : PySem.W.Frag} {w : World} {mg : Str → Option Value} (h : SignD K w mg) : ∃ (d : Addr) (es : Array DictEntry) (n : Nat), mg "SIGNS" = some (.ref d) ∧ KDict K w d es n ∧ ∀ h : Option Int, HopeOk h → ∃ u, PySem.W.nsIn K d ⟨#[sgnC h]⟩ = some (some u) ∧ RelV (hopeV h) u := by
  obtain ⟨d, es, n, t1, t2, t3, h1, h2, a1, a2, a3, a4⟩ := h.ex
  refine ⟨d, es, n, h1, h2, fun h ho => ?_⟩
  rw [← sgnT_c ho]
  rcases ho with rfl | rfl | rfl | rfl
  · exact ⟨_, a4, rfl⟩
  · exact ⟨_, a1, ⟨_, rfl⟩⟩
  · exact ⟨_, a2, ⟨_, rfl⟩⟩
  · exact ⟨_, a3, ⟨_, rfl⟩⟩
theorem tl_empty : tl ("" : Str) = [] := by decide +kernel
theorem joinL_nil : ∀ cs : List Nat, joinL [] (cs.map fun c => [c]) = cs
  | [] => rfl
  | [c] => rfl
  | c :: d :: r => by
    show [c] ++ ([] ++ joinL [] ((d :: r).map fun c => [c])) = c :: d :: r
    rw [joinL_nil (d :: r)]
    rfl
theorem tl_wishT {hs : List (Option Int)} (n : hs ≠ []) (ho : ∀ h, h ∈ hs → HopeOk h) : tl (wishT hs) = hs.map sgnC := by
  unfold wishT
  rw [if_neg n, join_eq, tl_join, tl_empty, List.map_map]
  have e : hs.map (tl ∘ sgnT) = (hs.map sgnC).map fun c => [c] := by
    rw [List.map_map]
    refine List.map_congr_left fun h hh => ?_
    show tl (sgnT h) = [sgnC h]
    rw [sgnT_c (ho h hh)]
  rw [e, joinL_nil]
theorem sgnC_dot {h : Option Int} (ho : HopeOk h) : sgnC h ≠ 46 := by
  rcases ho with rfl | rfl | rfl | rfl <;> decide
theorem wishT_dot {hs : List (Option Int)} (n : hs ≠ []) (ho : ∀ h, h ∈ hs → HopeOk h) : wishT hs ≠ "." := fun e => by
  have t := congrArg tl e
  rw [tl_wishT n ho] at t
  cases hs with
  | nil => exact n rfl
  | cons h r =>
    rw [show tl ("." : Str) = [46] from by decide +kernel, List.map_cons] at t
    exact sgnC_dot (ho h List.mem_cons_self) (List.cons.inj t).1
/-- y not in a dict of the module, the things told outright -/
def rNKd (K : PySem.W.Frag) (d : Addr) : R2 := fun x y H Q => ∃ (z : Str) (r : Option Value), x = .str z ∧ y = .ref d ∧ PySem.W.nsIn K d z = some r ∧ Q (.bl (!r.isSome)) H
theorem op_nkd {X : Cx} {d : Addr} {es : Array DictEntry} {n : Nat} (K : PySem.W.Frag) (w : World) (hK : X.K = K) (hw : X.w = w) (D : KDict K w d es n) : OpR X (compareOp .NotIn) (rNKd K d) := by
  subst hK hw
  exact op_notIn_kd D
theorem cps_at (z : Str) (i : Nat) : z.cps[i]? = (tl z)[i]? := by simp [tl]
/-- a list of what comes of each sign of a text -/
theorem lc_sgn {z : Str} {hs : List V} {g : TG} {te : TE} {vs : List Nat} {σ : L2.St} {H1 : Hp} {D : Addr} {Qd : Hp → Prop} (hl : hs.length = (tl z).length) (nD : H1 D = none) (hz : hs.length ≤ 1000)
    (step : ∀ (i : Nat) (c : Nat) (v : V) (H : Hp) (Kc : VK), (tl z)[i]? = some c → hs[i]? = some v → Gr H1 H → (∀ H4, Gr H H4 → Kc v H4) → g (.str ⟨#[c]⟩) (wipe σ vs) H fun σ2 H2 => wipe σ2 vs = wipe σ vs ∧ te σ2 H2 Kc)
    (fin : ∀ H, H D = some (.lst hs) → Gr H1 H → Qd H) :
    ∃ W : Nat → Nat → Hp → Prop, (∃ m, W 0 m (upd H1 D (.lst []))) ∧ ∀ i m H, W i m H →
      ((Its z).stop i H ∧ Qd H) ∨ ((Its z).go i H ∧ ∃ Nx : Hp → Prop, (∀ H', Nx H' → ∃ m', m' < m ∧ W (i + 1) m' H') ∧ ∀ x H', (Its z).yld i H x H' → g x (wipe σ vs) H' fun σ2 H2 => wipe σ2 vs = wipe σ vs ∧ tYes σ2 H2 fun b H3 =>
        if b = true then te σ2 H3 fun y H4 => ∃ acc, H4 D = some (.lst acc) ∧ acc.length < sizeLine ∧ Nx (upd H4 D (.lst (acc ++ [y]))) else Nx H3) := by
  have hsz : z.cps.size = (tl z).length := by simp [tl]
  refine ⟨fun i m H => i + m = hs.length ∧ H D = some (.lst (hs.take i)) ∧ GrD D H1 H, ⟨hs.length, Nat.zero_add _, upd_same, (GrD.refl D H1).set _⟩, fun i m H w => ?_⟩
  obtain ⟨hm, hD, gr⟩ := w
  have g1 := gr.to nD
  cases m with
  | zero =>
    rw [List.take_of_length_le (by omega)] at hD
    exact .inl ⟨by show z.cps.size ≤ i; omega, fin H hD g1⟩
  | succ m =>
    have hi : i < hs.length := by omega
    refine .inr ⟨by show i < z.cps.size; omega, fun H' => H' D = some (.lst (hs.take (i + 1))) ∧ GrD D H1 H', fun H' h => ⟨m, Nat.lt_succ_self _, by omega, h⟩, fun x H' hyl => ?_⟩
    obtain ⟨rfl, c, hc, rfl⟩ := hyl
    rw [cps_at] at hc
    refine step i c hs[i] H' _ hc (List.getElem?_eq_getElem hi) g1 fun H4 g4 => ?_
    have hD4 : H4 D = some (.lst (hs.take i)) := g4.keep D _ (fun _ z => nomatch z) hD
    refine ⟨_, hD4, small1000 (by rw [List.length_take]; omega), ?_, (gr.trans (g4.d D)).set _⟩
    rw [upd_same, List.take_add_one, List.getElem?_eq_getElem hi]
    rfl
/-- no sign of a text is one of these -/
theorem plan_sgnN {z : Str} {g : TG} {te : TE} {σ0 : L2.St} {vs : List Nat} {QT QF : Hp → Prop} {H2 : Hp}
    (step : ∀ (i : Nat) (c : Nat) (H : Hp) (Kc : VK), (tl z)[i]? = some c → Gr H2 H → (∀ H4, Gr H H4 → Kc (.bl false) H4) → g (.str ⟨#[c]⟩) σ0 H fun σ2 H3 => wipe σ2 vs = σ0 ∧ te σ2 H3 Kc)
    (fin : ∀ H, Gr H2 H → QT H) : ∃ W : Nat → Nat → Hp → Prop, (∃ m, W 0 m H2) ∧ PlanN (Its z) g tYes te σ0 vs QT QF W := by
  have hsz : z.cps.size = (tl z).length := by simp [tl]
  refine ⟨fun i m H => Gr H2 H ∧ i + m = z.cps.size, ⟨z.cps.size, Gr.refl _, Nat.zero_add _⟩, fun i m H w => ?_⟩
  obtain ⟨gr, hm⟩ := w
  cases m with
  | zero => exact .inl ⟨by show z.cps.size ≤ i; omega, fin H gr⟩
  | succ m =>
    refine .inr ⟨by show i < z.cps.size; omega, fun H' => Gr H2 H', fun H' h => ⟨m, Nat.lt_succ_self _, h, by omega⟩, fun x H' hyl => ?_⟩
    obtain ⟨rfl, c, hc, rfl⟩ := hyl
    rw [cps_at] at hc
    exact step i c H' _ hc gr fun H4 g4 => ⟨false, rfl, iteF (gr.trans g4)⟩
section
variable {P : Program} {w : World} {K : PySem.W.Frag} {mg : Str → Option Value} {base : Heap}
def spWishIn (K : PySem.W.Frag) (T : Nat → Addr) : Sp := fun vs H Q _ => ∃ hs : List (Option Int), vs = [.str (wishT hs)] ∧ Tb5 T H ∧ hs.length ≤ 1000 ∧ (∀ h, h ∈ hs → HopeOk h) ∧ ∀ p H', Gr H H' → SqT K H' p (hs.map hopeV) → Q (.ref p) H'
theorem sc_wishIn : FnScope ["word", "sign"] ["word"] (defScope s_wish_in) := ⟨rfl, rfl, rfl, by decide +kernel, rfl, by decide +kernel, by decide +kernel⟩
theorem cl_wishIn {c : Addr} {T : Nat → Addr} (t1 : 0 < T 0) (D : DfT K mg "wish_in" s_wish_in c) (TB : TabB base mg c (T 1)) (B : Blt mg) (SD : SignD K w mg) : Cl P w K mg base 2 "wish_in" ["word"] (spWishIn K T) := by
  refine D.cl (fun _ _ _ _ _ _ us hl => match us, hl with | [_], _ => rfl) fun f fd F => F.ok sc_wishIn (fun vs H Q E h => ?_) (fun A outer s H vs Q E hr h => ?_)
  · obtain ⟨hs, rfl, _⟩ := h
    rfl
  obtain ⟨hs, rfl, tb, l1, ho, q⟩ := h
  obtain ⟨dS, esS, nS, mS, KS, wS⟩ := SD.use
  refine ⟨_, (pss_cons (ps_if (pt_cmpR op_eq (pv 0) pe_str (nomark _)) (pss_one (ps_ret (pe_tup pa_nil))) pss_nil)
    (pss_cons (ps_if (PW.pt (by exact (pw_or (pt_not (pt_truth (pv 0) (by intro _; rfl))) (pw_or1 (pt_val (pe_anyG (own := [("sign", 1)]) (g := gName 1) hr rfl B.any PyProof.Rows.boot_any TB rfl sc_wishIn.nd (genOk_by (N := ["word", "sign"]) (sc := defScope s_wish_in) (by decide +kernel)) (pi_str (pv 0))
        (fun _ _ _ _ _ => pg_name (i := 1) sc_wishIn.nd rfl (Or.inl rfl))
        (fun _ _ _ _ _ => pe_cmpR (op_nkd K w rfl rfl KS) (pv 1) (pe_glob (v := .ref dS) rfl mS rfl) rfl))))))) pss_no pss_nil)
    (pss_one (ps_ret (pe_callTy call_tuple_of rfl B.tup bootTup (pa_cons (pe_lc (own := [("sign", 1)]) (g := gName 1) rfl sc_wishIn.nd (pi_str (pv 0)) (blkOk_by (N := ["word", "sign"]) (sc := defScope s_wish_in) (by decide +kernel)) (fun _ _ _ _ _ => (pg_name (i := 1) sc_wishIn.nd rfl (Or.inl rfl))) (fun _ _ _ _ _ => pts_nil) (fun _ _ _ _ _ => (pe_ix (r := rIxD K w) ix_kdict (pe_glob (v := .ref dS) rfl mS rfl) (pv 1) (fun _ _ => rfl)))) pa_nil)))))), ?_⟩
  refine ⟨_, rfl, rfl, _, rfl, ?_⟩
  cases hs with
  | nil =>
    refine iteP rfl ⟨szL0, fun p np => ?_⟩
    exact q p _ ((Gr.refl H).new np _) (SqT.of upd_same)
  | cons h0 r0 =>
    have ne : h0 :: r0 ≠ [] := List.cons_ne_nil _ _
    have tw := tl_wishT ne ho
    have ll : (wishT (h0 :: r0)).length = (h0 :: r0).length := by rw [len_tl, tw, List.length_map]
    refine iteN (fun z => wishT_dot ne ho (by injection z)) ?_
    refine ⟨_, rfl, true, tru_s1 (sz15 (by omega)) (by rw [ll, List.length_cons]; omega), iteF ?_⟩
    refine ⟨_, rfl, _, rfl, tb.t 0 t1, fun H2 hT => ?_⟩
    have g2 : Gr H H2 := (Gr.refl H).tabbed (tb.t 0 t1) hT
    have at_ : ∀ (i c : Nat), (tl (wishT (h0 :: r0)))[i]? = some c → ∃ h, (h0 :: r0)[i]? = some h ∧ c = sgnC h ∧ HopeOk h := fun i c e => by
      rw [tw, List.getElem?_map] at e
      cases q : (h0 :: r0)[i]? with
      | none => rw [q] at e; cases e
      | some h =>
        rw [q] at e
        cases e
        exact ⟨h, rfl, rfl, ho h (List.mem_of_getElem? q)⟩
    refine plan_sgnN (fun i c H3 Kc hc g3 kc => ?_) (fun H3 g3 => ?_)
    · obtain ⟨h, _, rfl, hk⟩ := at_ i c hc
      obtain ⟨u, eu, _⟩ := wS h hk
      exact ⟨rfl, _, rfl, _, _, rfl, rfl, eu, kc H3 (Gr.refl _)⟩
    · refine ⟨_, rfl, iteF ?_⟩
      refine ⟨_, rfl, _, rfl, fun D nD => ?_⟩
      refine lc_sgn (hs := (h0 :: r0).map hopeV) (by rw [tw, List.length_map, List.length_map]) nD (by rw [List.length_map]; exact l1) (fun i c v H5 Kc hc hv g5 kc => ?_) (fun H5 hD g5 => ?_)
      · obtain ⟨h, eh, rfl, hk⟩ := at_ i c hc
        obtain ⟨u, eu, ru⟩ := wS h hk
        rw [List.getElem?_map, eh] at hv
        cases hv
        exact ⟨rfl, _, rfl, dS, _, hopeV h, rfl, rfl, ⟨esS, nS, u, KS.at_, KS.lit, eu, ru⟩, kc H5 (Gr.refl _)⟩
      · exact ⟨D, _, rfl, .inl ⟨SqL.of hD, fun p np => q p _ (((g2.trans g3).trans g5).new np _) (SqT.of upd_same)⟩⟩
end
end SB
namespace SB
open PySem L2 GxR GA RZ RP TL
theorem for_enum {K : PySem.W.Frag} {a : Addr} {xs : List V} {g : TG} {tb : TS} {D : Ends} {σ : L2.St} {H : Hp} (Pv : Nat → L2.St → Hp → Prop) (h0 : Pv 0 σ H) (hl : ∀ i σ H, i ≤ xs.length → Pv i σ H → SqL K H a xs)
    (hs : ∀ i x σ H T, xs[i]? = some x → Pv i σ H → H T = none → g (.ref T) σ (upd H T (.tup [.int ((i : Nat) : Int), x])) fun σ2 H2 => tb { D with nx := Pv (i + 1), ct := Pv (i + 1), bk := D.nx } σ2 H2) (hd : ∀ σ H, Pv xs.length σ H → D.nx σ H) :
    ∃ W : Nat → Nat → L2.St → Hp → Prop, (∃ m, W 0 m σ H) ∧ ∀ i m σ H, W i m σ H →
      ((Ite K a).stop i H ∧ D.nx σ H) ∨ ((Ite K a).go i H ∧ ∃ N : L2.St → Hp → Prop, (∀ σ' H', N σ' H' → ∃ m', m' < m ∧ W (i + 1) m' σ' H') ∧ ∀ x H', (Ite K a).yld i H x H' → g x σ H' fun σ2 H2 => tb { D with nx := N, ct := N, bk := D.nx } σ2 H2) := by
  refine ⟨fun i m σ H => m = xs.length - i ∧ i ≤ xs.length ∧ Pv i σ H, ⟨xs.length, by simp, Nat.zero_le _, h0⟩, ?_⟩
  rintro i m σ H ⟨rfl, hi, p⟩
  have q := hl i σ H hi p
  by_cases hlt : i < xs.length
  · refine .inr ⟨⟨xs, xs[i], q, by simp [hlt]⟩, Pv (i + 1), fun σ' H' p' => ⟨xs.length - (i + 1), by omega, rfl, hlt, p'⟩, fun x H' y => ?_⟩
    obtain ⟨T, z, rfl, nT, rfl, y⟩ := y
    exact hs i z σ _ T (y xs q) p nT
  · have e : i = xs.length := by omega
    subst e
    exact .inl ⟨⟨xs, q, Nat.le_refl _⟩, hd σ H p⟩
theorem uD_ints (ns : List Int) : (ns.map PyData.int).map intD = ns := by
  rw [List.map_map]
  conv => rhs; rw [← List.map_id ns]
  exact List.map_congr_left fun _ _ => rfl
theorem uD_qu (q : List Int × Int) : quD (quP q) = q := by
  show ((q.1.map PyData.int).map intD, q.2) = q
  rw [uD_ints]
theorem uD_quest {d : Nat} {q : List Int × Int} (n : NonZ q.1) (l : q.1.length = d) : questOfD ((d : Nat) : Int) (quP q) = true := by
  unfold questOfD
  have e : questD (quP q) = true := by
    show (sidesD (.tuple (q.1.map PyData.int)) && true) = true
    rw [Bool.and_true]
    show ((q.1.map PyData.int).all isIntD && ((q.1.map PyData.int).map intD).any fun z => decide (z ≠ 0)) = true
    rw [uD_ints, Bool.and_eq_true]
    refine ⟨List.all_eq_true.mpr fun z hz => ?_, n⟩
    obtain ⟨i, _, rfl⟩ := List.mem_map.mp hz
    rfl
  rw [e]
  show (true && decide ((((q.1.map PyData.int).length : Nat) : Int) = ((d : Nat) : Int))) = true
  rw [List.length_map, l, decide_eq_true rfl]
  rfl
theorem bookD_ok {d : Nat} {qs : List (List Int × Int)} (d1 : 1 ≤ d) (h : ∀ q, q ∈ qs → NonZ q.1 ∧ q.1.length = d) (nd : (qs.map nfU).Nodup) : bookD (.tuple [.int ((d : Nat) : Int), .tuple (qs.map quP)]) = true := by
  rw [bookD_at]
  have e1 : manyD (.int ((d : Nat) : Int)) = true := decide_eq_true (by omega)
  have e2 : (partD (.tuple (qs.map quP))).all (questOfD (intD (.int ((d : Nat) : Int)))) = true := by
    show (qs.map quP).all (questOfD ((d : Nat) : Int)) = true
    rw [List.all_eq_true]
    intro z hz
    obtain ⟨q, hq, rfl⟩ := List.mem_map.mp hz
    exact uD_quest (h q hq).1 (h q hq).2
  have e3 : ((partD (.tuple (qs.map quP))).map quD) = qs := by
    show (qs.map quP).map quD = qs
    rw [List.map_map]
    conv => rhs; rw [← List.map_id qs]
    exact List.map_congr_left fun q _ => uD_qu q
  rw [e1, e2, e3, decide_eq_true nd]
  rfl
theorem small_ok {d : Nat} {qs : List (List Int × Int)} (l : qs.length ≤ 20) (h : ∀ q, q ∈ qs → q.1.length ≤ 12 ∧ (∀ z, z ∈ q.1 → z.natAbs < 10 ^ 9) ∧ q.2.natAbs < 10 ^ 9) : SmallD (.tuple [.int ((d : Nat) : Int), .tuple (qs.map quP)]) := by
  have t : ∀ z : Int, z.natAbs < 10 ^ 9 → z.natAbs < 2 ^ 10000 := fun z hz => Nat.lt_trans (dg_big hz (by decide)) (Nat.pow_lt_pow_right (by decide) (by decide))
  refine ⟨by show (qs.map quP).length ≤ 60; rw [List.length_map]; omega, fun z hz _ => ?_⟩
  obtain ⟨q, hq, rfl⟩ := List.mem_map.mp (show z ∈ qs.map quP from hz)
  rw [uD_qu]
  obtain ⟨a, b, c⟩ := h q hq
  exact ⟨by omega, fun z hz => t z (b z hz), t _ c⟩
theorem bookT_free {d : Int} {qs : List (List Int × Int)} : ∀ p, p ∈ (("book " : Str) ++ iT d) :: qs.map quT → 10 ∉ tl p := fun p hp => by
  rcases List.mem_cons.mp hp with rfl | hp
  · exact app_free (by decide +kernel) (iT_free (by omega) _)
  · obtain ⟨q, _, rfl⟩ := List.mem_map.mp hp
    exact app_free (app_free (sidesT_free (by omega) (by decide) _) (by decide +kernel)) (iT_free (by omega) _)
theorem head_split (d : Int) : Txt.split (("book " : Str) ++ iT d) " " = [("book" : Str), iT d] := by
  have e : ("book " : Str) ++ iT d = Txt.join " " [("book" : Str), iT d] := by
    refine ext_tl ?_
    rw [join_eq, tl_join, tl_append]
    show tl ("book " : Str) ++ tl (iT d) = tl ("book" : Str) ++ (tl (" " : Str) ++ tl (iT d))
    rw [show tl ("book " : Str) = [98, 111, 111, 107, 32] from by decide +kernel, show tl ("book" : Str) = [98, 111, 111, 107] from by decide +kernel, tl_blank]
    rfl
  rw [e]
  refine split_join tl_blank (by decide +kernel) (by simp) fun p hp => ?_
  rcases List.mem_cons.mp hp with rfl | hp
  · decide +kernel
  · rw [List.mem_singleton.mp hp]
    exact iT_free (by omega) _
theorem split_one {z : Str} (h : 10 ∉ tl z) : Txt.split z "\n" = [z] := by
  have := split_join (y := "\n") tl_nl (by decide +kernel) (parts := [z]) (by simp) fun p hp => by
    rw [List.mem_singleton.mp hp]
    exact h
  exact this
section
variable {P : Program} {w : World} {K : PySem.W.Frag} {mg : Str → Option Value} {base : Heap}
def spRowIn (K : PySem.W.Frag) (T : Nat → Addr) : Sp := fun vs H Q _ => ∃ hs : List (Option Int), vs = [.str (wishT hs)] ∧ Tb5 T H ∧ hs.length ≤ 1000 ∧ (∀ h, h ∈ hs → HopeOk h ∧ h ≠ none) ∧ ∀ p H', Gr H H' → SqT K H' p (hs.map hopeV) → Q (.ref p) H'
theorem sc_rowIn : FnScope ["word", "found"] ["word"] (defScope s_row_in) := ⟨rfl, rfl, rfl, by decide +kernel, rfl, by decide +kernel, by decide +kernel⟩
theorem in_nohopes : ∀ {hs : List (Option Int)}, (∀ h, h ∈ hs → h ≠ none) → inV .non (hs.map hopeV) = false
  | [], _ => rfl
  | none :: r, h => absurd rfl (h none List.mem_cons_self)
  | some i :: r, h => by
    have ih := in_nohopes (hs := r) fun x hx => h x (List.mem_cons_of_mem _ hx)
    show (false || inV .non (r.map hopeV)) = false
    rw [ih]
    rfl
theorem flat_hopes : ∀ hs : List (Option Int), (hs.map hopeV).all flatV = true
  | [] => rfl
  | none :: r => by
    show (true && (r.map hopeV).all flatV) = true
    rw [flat_hopes r]
    rfl
  | some i :: r => by
    show (true && (r.map hopeV).all flatV) = true
    rw [flat_hopes r]
    rfl
theorem cl_rowIn {T : Nat → Addr} (D : Df K mg "row_in" s_row_in) (CW : Cl P w K mg base 2 "wish_in" ["word"] (spWishIn K T)) : Cl P w K mg base 3 "row_in" ["word"] (spRowIn K T) := by
  refine D.cl (fun _ _ _ _ _ _ us hl => match us, hl with | [_], _ => rfl) fun f fd F => F.ok sc_rowIn (fun vs H Q E h => ?_) (fun cdv A outer s H vs Q E hr h => ?_)
  · obtain ⟨hs, rfl, _⟩ := h
    rfl
  obtain ⟨hs, rfl, tb, l, ho, q⟩ := h
  refine ⟨_, (pss_cons (ps_set (i := 1) sc_rowIn.nd rfl (.inl rfl) (pe_cl CW (hr.mono (by decide)) (pa_cons (pv 0) pa_nil)))
    (pss_one (ps_ret (pe_ifExp (PW.pt (by exact (pw_or (pt_cmp (pc_isN (pv 1))) (pw_or1 (pt_cmpR op_in_seq pe_non (pv 1) rfl))))) pe_non (pv 1))))), ?_⟩
  refine ⟨_, rfl, hs, rfl, tb, l, fun h hh => (ho h hh).1, fun p H1 g1 hp => ?_⟩
  refine ⟨_, rfl, _, rfl, iteN (fun z => nomatch z) ⟨_, rfl, p, _, rfl, .inr hp, rfl, flat_hopes hs, _, rfl, ?_⟩⟩
  rw [show (if false = true then !inV .non (hs.map hopeV) else inV .non (hs.map hopeV)) = false from in_nohopes fun h hh => (ho h hh).2]
  exact iteF ⟨_, rfl, q p H1 g1 hp⟩
/-! ### one line -/
def spAlone (K : PySem.W.Frag) (f : Addr) (sp : Sp) : Sp := fun vs H Q _ => ∃ z : Str, vs = [.str z, .ref f] ∧ 10 ∉ tl z ∧ z.length ≤ 16777000 ∧ ∀ H1 (Kc : VK), Gr H H1 → (∀ v H2, Gr H1 H2 → v ≠ .non → Q v H2 → Kc v H2) → sp [.str z] H1 Kc E0
theorem sc_alone : FnScope ["text", "shown_in", "lines", "found"] ["text", "shown_in"] (defScope s__read_alone) := ⟨rfl, rfl, rfl, by decide +kernel, rfl, by decide +kernel, by decide +kernel⟩
theorem cl_alone {k : Nat} {x y : Str} {sp : Sp} (h1 : 1 ≤ k) (D : Df K mg "_read_alone" s__read_alone) (B : Blt mg) (CL : Cl P w K mg base 1 "_lines_of" ["text"] (spLines K)) (C : Cl P w K mg base k x [y] sp) : ∃ f, mg x = some (.ref f) ∧ Cl P w K mg base (k + 1) "_read_alone" ["text", "shown_in"] (spAlone K f sp) := by
  obtain ⟨f, fd, FO, hm, hk, hb⟩ := C.ex
  refine ⟨f, hm, ?_⟩
  refine D.cl (fun _ _ _ _ _ _ us hl => match us, hl with | [_, _], _ => rfl) fun f' fd' F => F.ok sc_alone (fun vs H Q E h => ?_) (fun cdv A outer s H vs Q E hr h => ?_)
  · obtain ⟨z, rfl, _⟩ := h
    rfl
  obtain ⟨z, rfl, nl, lz, q⟩ := h
  refine ⟨_, (pss_cons (ps_set (i := 2) sc_alone.nd rfl (.inl rfl) (pe_cl CL (hr.mono h1) (pa_cons (pv 0) pa_nil)))
    (pss_cons (ps_set (i := 3) sc_alone.nd rfl (.inl rfl) (pe_callL (i := 1) (f := f) (E := E0) FO hr rfl (Or.inl rfl) hk hb .nil pass0 (pa_cons (pe_ix ix_list (pv 2) pe_int (fun _ _ => rfl)) pa_nil)))
    (pss_cons (ps_if (pt_cmp (pc_isN (pv 3))) pss_no pss_nil)
    (pss_cons (ps_if (pt_cmpR op_gt (pe_len (pv 2) B.len) pe_int (nomark _)) pss_no pss_nil)
    (pss_one (ps_ret (pv 3))))))), ?_⟩
  refine ⟨_, rfl, z, rfl, lz, fun L H1 g1 hL => ?_⟩
  rw [split_one nl] at hL
  refine ⟨rfl, _, rfl, L, _, _, _, rfl, rfl, SqL.of hL, rfl, ?_⟩
  refine q H1 _ g1 fun v H2 g2 nv qv => ?_
  refine ⟨_, rfl, _, rfl, iteN nv ?_⟩
  refine ⟨_, rfl, L, _, rfl, .inl (SqL.of (g2.lstK hL)), _, _, rfl, rfl, _, rfl, iteN (by show ¬ (1 : Int) < ((1 : Nat) : Int); decide) ?_⟩
  exact ⟨_, rfl, qv⟩
/-! ### readers of one line -/
def spRd (K : PySem.W.Frag) (T : Nat → Addr) (door : Nat) : Sp := fun vs H Q _ => ∃ t m, vs = [.str (ThT t)] ∧ Tb5 T H ∧ ThOk m t ∧ 1 ≤ m ∧ m ≤ 9 ∧ ThD t = door ∧ ∀ v H', Gr H H' → ThVal K H' t v → Q v H'
theorem ten9 {n m : Nat} (h : n < 10 ^ m) (l : m ≤ 9) : n < 10 ^ 9 := Nat.lt_of_lt_of_le h (Nat.pow_le_pow_right (by decide) l)
theorem wishT_free {hs : List (Option Int)} (ho : ∀ h, h ∈ hs → HopeOk h) : 10 ∉ tl (wishT hs) := by
  by_cases n : hs = []
  · subst n
    decide +kernel
  · rw [tl_wishT n ho]
    intro h
    obtain ⟨x, hx, e⟩ := List.mem_map.mp h
    have := ho x hx
    rcases this with rfl | rfl | rfl | rfl <;> cases e
theorem wishT_len {hs : List (Option Int)} (ho : ∀ h, h ∈ hs → HopeOk h) (l : hs.length ≤ 20 := by assumption) : (wishT hs).length ≤ 16777000 := by
  by_cases n : hs = []
  · subst n
    decide +kernel
  · rw [len_tl, tl_wishT n ho, List.length_map]
    omega
theorem sc_rdNum : FnScope ["text"] ["text"] (defScope s_read_number) := ⟨rfl, rfl, rfl, by decide +kernel, rfl, by decide +kernel, by decide +kernel⟩
theorem cl_rdNum {T : Nat → Addr} (D : Df K mg "read_number" s_read_number) (DA : Df K mg "_read_alone" s__read_alone) (B : Blt mg) (CL : Cl P w K mg base 1 "_lines_of" ["text"] (spLines K)) (C : Cl P w K mg base 2 "number_in" ["word"] (spNumIn K)) : Cl P w K mg base 4 "read_number" ["text"] (spRd K T 0) := by
  obtain ⟨fa, ma, CA⟩ := cl_alone (by decide) DA B CL C
  refine D.cl (fun _ _ _ _ _ _ us hl => match us, hl with | [_], _ => rfl) fun f fd F => F.ok sc_rdNum (fun vs H Q E h => ?_) (fun cdv A outer s H vs Q E hr h => ?_)
  · obtain ⟨t, m, rfl, _⟩ := h
    rfl
  obtain ⟨t, m, rfl, tb, ok, m1, m9, td, q⟩ := h
  refine ⟨_, (pss_one (ps_ret (pe_cl CA (hr.mono (by decide)) (pa_cons (pv 0) (pa_cons (pe_glob (v := .ref fa) rfl ma rfl) pa_nil))))), ?_⟩
  cases t with
  | num r =>
    refine ⟨_, rfl, numT r, rfl, numT_free (by omega) r, ?_, fun H1 Kc g1 kc => ⟨r, rfl, ok.1, ten9 ok.2.1 m9, ten9 ok.2.2 m9, fun v H2 g2 hv => kc v H2 g2 (by obtain ⟨a, rfl, _⟩ := hv; exact fun z => nomatch z) (q v H2 (g1.trans g2) hv)⟩⟩
    have := numT_len (k := 9) (by decide) (ten9 ok.2.1 m9) (ten9 ok.2.2 m9)
    omega
  | _ => cases td
theorem sc_rdPt : FnScope ["text"] ["text"] (defScope s_read_point) := ⟨rfl, rfl, rfl, by decide +kernel, rfl, by decide +kernel, by decide +kernel⟩
theorem cl_rdPt {T : Nat → Addr} (D : Df K mg "read_point" s_read_point) (DA : Df K mg "_read_alone" s__read_alone) (B : Blt mg) (CL : Cl P w K mg base 1 "_lines_of" ["text"] (spLines K)) (C : Cl P w K mg base 3 "point_in" ["line"] (spPtIn K)) : Cl P w K mg base 5 "read_point" ["text"] (spRd K T 1) := by
  obtain ⟨fa, ma, CA⟩ := cl_alone (by decide) DA B CL C
  refine D.cl (fun _ _ _ _ _ _ us hl => match us, hl with | [_], _ => rfl) fun f fd F => F.ok sc_rdPt (fun vs H Q E h => ?_) (fun cdv A outer s H vs Q E hr h => ?_)
  · obtain ⟨t, m, rfl, _⟩ := h
    rfl
  obtain ⟨t, m, rfl, tb, ok, m1, m9, td, q⟩ := h
  refine ⟨_, (pss_one (ps_ret (pe_cl CA (hr.mono (by decide)) (pa_cons (pv 0) (pa_cons (pe_glob (v := .ref fa) rfl ma rfl) pa_nil))))), ?_⟩
  cases t with
  | pt rs =>
    refine ⟨_, rfl, pointT rs, rfl, join_free (by rw [tl_blank]; decide) (fun p hp => by
      obtain ⟨r, _, rfl⟩ := List.mem_map.mp hp
      exact numT_free (by omega) r), ?_, fun H1 Kc g1 kc => ⟨rs, rfl, ok.1, ok.2.1, fun r hr' => ⟨(ok.2.2 r hr').1, ten9 (ok.2.2 r hr').2.1 m9, ten9 (ok.2.2 r hr').2.2 m9⟩, fun v H2 g2 hv => kc v H2 g2 (by obtain ⟨a, xs, rfl, _⟩ := hv; exact fun z => nomatch z) (q v H2 (g1.trans g2) hv)⟩⟩
    have := join_len (a := " ") (ys := rs.map numT) (b := 21) fun y hy => by
      obtain ⟨r, hr', rfl⟩ := List.mem_map.mp hy
      exact numT_len (k := 9) (by decide) (ten9 (ok.2.2 r hr').2.1 m9) (ten9 (ok.2.2 r hr').2.2 m9)
    rw [List.length_map] at this
    have m : rs.length * (21 + (" " : Str).length) ≤ 12 * 22 := Nat.mul_le_mul ok.2.1 (by decide)
    show (Txt.join " " (rs.map numT)).length ≤ _
    omega
  | _ => cases td
theorem sc_rdRow : FnScope ["text"] ["text"] (defScope s_read_row) := ⟨rfl, rfl, rfl, by decide +kernel, rfl, by decide +kernel, by decide +kernel⟩
theorem cl_rdRow {T : Nat → Addr} (D : Df K mg "read_row" s_read_row) (DA : Df K mg "_read_alone" s__read_alone) (B : Blt mg) (CL : Cl P w K mg base 1 "_lines_of" ["text"] (spLines K)) (C : Cl P w K mg base 3 "row_in" ["word"] (spRowIn K T)) : Cl P w K mg base 5 "read_row" ["text"] (spRd K T 2) := by
  obtain ⟨fa, ma, CA⟩ := cl_alone (by decide) DA B CL C
  refine D.cl (fun _ _ _ _ _ _ us hl => match us, hl with | [_], _ => rfl) fun f fd F => F.ok sc_rdRow (fun vs H Q E h => ?_) (fun cdv A outer s H vs Q E hr h => ?_)
  · obtain ⟨t, m, rfl, _⟩ := h
    rfl
  obtain ⟨t, m, rfl, tb, ok, m1, m9, td, q⟩ := h
  refine ⟨_, (pss_one (ps_ret (pe_cl CA (hr.mono (by decide)) (pa_cons (pv 0) (pa_cons (pe_glob (v := .ref fa) rfl ma rfl) pa_nil))))), ?_⟩
  cases t with
  | row hs =>
    have l := ok.1
    refine ⟨_, rfl, wishT hs, rfl, wishT_free fun h hh => (ok.2 h hh).1, wishT_len fun h hh => (ok.2 h hh).1, fun H1 Kc g1 kc => ⟨hs, rfl, tb.gr g1, by omega, ok.2, fun p H2 g2 hp => kc _ H2 g2 (fun z => nomatch z) (q _ H2 (g1.trans g2) ⟨p, rfl, hp⟩)⟩⟩
  | _ => cases td
theorem sc_rdWish : FnScope ["text"] ["text"] (defScope s_read_wish) := ⟨rfl, rfl, rfl, by decide +kernel, rfl, by decide +kernel, by decide +kernel⟩
theorem cl_rdWish {T : Nat → Addr} (D : Df K mg "read_wish" s_read_wish) (DA : Df K mg "_read_alone" s__read_alone) (B : Blt mg) (CL : Cl P w K mg base 1 "_lines_of" ["text"] (spLines K)) (C : Cl P w K mg base 2 "wish_in" ["word"] (spWishIn K T)) : Cl P w K mg base 4 "read_wish" ["text"] (spRd K T 3) := by
  obtain ⟨fa, ma, CA⟩ := cl_alone (by decide) DA B CL C
  refine D.cl (fun _ _ _ _ _ _ us hl => match us, hl with | [_], _ => rfl) fun f fd F => F.ok sc_rdWish (fun vs H Q E h => ?_) (fun cdv A outer s H vs Q E hr h => ?_)
  · obtain ⟨t, m, rfl, _⟩ := h
    rfl
  obtain ⟨t, m, rfl, tb, ok, m1, m9, td, q⟩ := h
  refine ⟨_, (pss_one (ps_ret (pe_cl CA (hr.mono (by decide)) (pa_cons (pv 0) (pa_cons (pe_glob (v := .ref fa) rfl ma rfl) pa_nil))))), ?_⟩
  cases t with
  | wish hs =>
    have l := ok.1
    refine ⟨_, rfl, wishT hs, rfl, wishT_free ok.2, wishT_len ok.2, fun H1 Kc g1 kc => ⟨hs, rfl, tb.gr g1, by omega, ok.2, fun p H2 g2 hp => kc _ H2 g2 (fun z => nomatch z) (q _ H2 (g1.trans g2) ⟨p, rfl, hp⟩)⟩⟩
  | _ => cases td
theorem sc_rdBook : FnScope ["text", "lines", "words", "d", "questions", "place", "line", "question", "told"] ["text"] (defScope s_read_book) := ⟨rfl, rfl, rfl, by decide +kernel, rfl, by decide +kernel, by decide +kernel⟩
theorem cl_rdBook {T : Nat → Addr} (D : Df K mg "read_book" s_read_book) (B : Blt mg) (ben : mg "enumerate" = none) (CL : Cl P w K mg base 1 "_lines_of" ["text"] (spLines K)) (CI : Cl P w K mg base 1 "integer_in" ["word"] spIntIn) (CQ : Cl P w K mg base 3 "_question_in" ["line"] (spQuIn K)) (CB : Cl P w K mg base 37 "is_book" ["told"] (spBookD K)) : Cl P w K mg base 38 "read_book" ["text"] (spRd K T 4) := by
  refine D.cl (fun _ _ _ _ _ _ us hl => match us, hl with | [_], _ => rfl) fun f fd F => F.ok sc_rdBook (fun vs H Q E h => ?_) (fun cdv A outer s H vs Q E hr h => ?_)
  · obtain ⟨t, m, rfl, _⟩ := h
    rfl
  obtain ⟨t, m, rfl, tb, ok, m1, m9, td, q⟩ := h
  refine ⟨_, (pss_cons (ps_set (i := 1) sc_rdBook.nd rfl (.inl rfl) (pe_cl CL (hr.mono (by decide)) (pa_cons (pv 0) pa_nil)))
    (pss_cons (ps_set (i := 2) sc_rdBook.nd rfl (.inl rfl) (pe_split (pe_ix ix_list (pv 1) pe_int (fun _ _ => rfl)) pe_str))
    (pss_cons (ps_set (i := 3) sc_rdBook.nd rfl (.inl rfl) (pe_ifExp (PW.pt (by exact (pw_and (pt_cmpR op_eq (pe_len (pv 2) B.len) pe_int (nomark _)) (pw_and1 (pt_cmpR op_eq (pe_ix ix_list (pv 2) pe_int (fun _ _ => rfl)) pe_str (nomark _)))))) (pe_cl CI (hr.mono (by decide)) (pa_cons (pe_ix ix_list (pv 2) pe_int (fun _ _ => rfl)) pa_nil)) pe_non))
    (pss_cons (ps_if (pt_cmp (pc_isN (pv 3))) pss_no pss_nil)
    (pss_cons (ps_set (i := 4) sc_rdBook.nd rfl (.inl rfl) (pe_lst pa_nil))
    (pss_cons (ps_for PassesOwn.never rfl (pi_enum rfl ben (pa_cons (pe_slice sl_list (pv 1) (po_some pe_int) po_none) pa_nil)) (pg_tup rfl (pgs_cons (pg_name (i := 5) sc_rdBook.nd rfl (Or.inl rfl)) (pgs_cons (pg_name (i := 6) sc_rdBook.nd rfl (Or.inl rfl)) pgs_nil)))
      (pss_cons (ps_set (i := 7) sc_rdBook.nd rfl (.inl rfl) (pe_cl CQ (hr.mono (by decide)) (pa_cons (pv 6) pa_nil)))
      (pss_cons (ps_if (pt_cmp (pc_isN (pv 7))) pss_no pss_nil)
      (pss_one (ps_expr (pe_bm PySem.F.plainAttrs_list PySem.F.slot_list_append PySem.F.type_list_append mt_append (pv 4) (pa_cons (pv 7) pa_nil)))))))
    (pss_cons (ps_set (i := 8) sc_rdBook.nd rfl (.inl rfl) (pe_tup (pa_cons (pv 3) (pa_cons (pe_callTy call_tuple_of rfl B.tup bootTup (pa_cons (pv 4) pa_nil)) pa_nil))))
    (pss_cons (ps_if (pt_not (pt_val (pe_cl CB (hr.mono (by decide)) (pa_cons (pv 8) pa_nil)))) pss_no pss_nil)
    (pss_one (ps_ret (pv 8))))))))))), ?_⟩
  cases t with
  | book d qs =>
    obtain ⟨d1, d12, l20, nd, hq⟩ := ok
    have qb : ∀ q, q ∈ qs → q.1.length ≤ 12 ∧ (∀ z, z ∈ q.1 → z.natAbs < 10 ^ 9) ∧ q.2.natAbs < 10 ^ 9 := fun q h => by
      obtain ⟨_, a, b, c⟩ := hq q h
      exact ⟨by omega, fun z hz => ten9 (b z hz) m9, ten9 c m9⟩
    have bl := Nat.le_trans (join_len0 _ _) (book_small d12 (by omega) (k := 9) (by decide) (by decide) qb)
    have bl2 : (bookT (d : Int) qs).length ≤ 110000 := by
      have := join_len (a := "\n") (ys := (("book " : Str) ++ iT (d : Int)) :: qs.map quT) (b := 5000) fun y hy => by
        rcases List.mem_cons.mp hy with rfl | hy
        · rw [len_app]
          have := iT_len (by decide) (d_small d12)
          have e : ("book " : Str).length = 5 := rfl
          omega
        · obtain ⟨z, hz', rfl⟩ := List.mem_map.mp hy
          obtain ⟨a, b, c⟩ := qb z hz'
          have h1 := quT_len (k := 9) (by decide) b c
          have h2 : z.1.length * (9 + 1 + 1) ≤ 12 * 302 := Nat.mul_le_mul a (by omega)
          omega
      have e : ("\n" : Str).length = 1 := rfl
      have e2 : ((("book " : Str) ++ iT (d : Int)) :: qs.map quT).length = qs.length + 1 := by rw [List.length_cons, List.length_map]
      rw [e2, e] at this
      show (Txt.join _ _).length ≤ _
      omega
    refine ⟨_, rfl, bookT (d : Int) qs, rfl, by omega, fun L H1 g1 hL => ?_⟩
    have es : Txt.split (bookT (d : Int) qs) "\n" = (("book " : Str) ++ iT (d : Int)) :: qs.map quT := split_join tl_nl (by decide +kernel) (List.cons_ne_nil _ _) bookT_free
    rw [es] at hL
    refine ⟨_, rfl, L, _, _, .str ("book " ++ iT (d : Int)), rfl, rfl, SqL.of hL, atI_nat (j := 0) rfl, ⟨_, rfl⟩, _, _, rfl, rfl, rfl, ?_, fun W nW => ?_⟩
    · rw [len_app]
      have := iT_len (by decide) (d_small d12)
      have e : ("book " : Str).length = 5 := rfl
      exact sz15 (by omega)
    rw [head_split]
    have rW := (Gr.refl H1).new nW (.lst ([("book" : Str), iT (d : Int)].map V.str))
    have hW : SqL K (upd H1 W (.lst ([("book" : Str), iT (d : Int)].map V.str))) W [.str "book", .str (iT (d : Int))] := SqL.of upd_same
    have g2 := g1.trans rW
    have hL2 := rW.lstK hL
    generalize upd H1 W (.lst ([("book" : Str), iT (d : Int)].map V.str)) = H2 at rW hW g2 hL2 ⊢
    refine ⟨_, rfl, W, _, rfl, .inl hW, rfl, _, rfl, iteP rfl ⟨_, rfl, W, _, _, _, rfl, rfl, hW, rfl, rfl, _, rfl, iteP rfl ⟨_, rfl, W, _, _, _, rfl, rfl, hW, rfl, (d : Int), rfl, ?_, ?_⟩⟩⟩
    · rw [Int.natAbs_natCast]
      exact Nat.lt_of_le_of_lt d12 (by decide)
    refine ⟨_, rfl, _, rfl, iteN (fun z => nomatch z) ?_⟩
    refine ⟨szL0, fun F0 nF => ?_⟩
    have rF := (Gr.refl H2).new nF (.lst [])
    have hF : (upd H2 F0 (.lst [])) F0 = some (.lst []) := upd_same
    have g3 := g2.trans rF
    have hL3 := rF.lstK hL2
    generalize upd H2 F0 (.lst []) = H3 at rF hF g3 hL3 ⊢
    refine ⟨_, rfl, _, rfl, L, _, rfl, SqL.of hL3, fun C nC => ⟨C, _, rfl, SqL.of upd_same, ?_⟩⟩
    have rC := (Gr.refl H3).new nC (.lst (cutV (((("book " : Str) ++ iT (d : Int)) :: qs.map quT).map V.str) (some 1) none))
    have ec : cutV (((("book " : Str) ++ iT (d : Int)) :: qs.map quT).map V.str) (some 1) none = (qs.map quT).map V.str := cut_tail _ _
    rw [ec] at rC ⊢
    have hC : (upd H3 C (.lst ((qs.map quT).map V.str))) C = some (.lst ((qs.map quT).map V.str)) := upd_same
    have g4 := g3.trans rC
    have hF4 := rC.lstK hF
    have nCF : C ≠ F0 := (ne_of_none hF nC).symm
    generalize upd H3 C (.lst ((qs.map quT).map V.str)) = H4 at rC hC g4 hF4 ⊢
    refine for_enum (xs := (qs.map quT).map V.str) (fun i σ H' => ∃ (c5 c6 c7 c8 : Option V) (ys : List V), σ = [some (.str (bookT (d : Int) qs)), some (.ref L), some (.ref W), some (.int (d : Int)), some (.ref F0), c5, c6, c7, c8] ∧ GrD F0 H4 H' ∧ H' F0 = some (.lst ys) ∧ Paired (QuV K H') ys (qs.take i)) ⟨_, _, _, _, [], rfl, GrD.refl _ _, hF4, .nil⟩ (fun i σ H' _ h => ?_) (fun i x σ H' Tp hx h nT => ?_) (fun σ H' h => ?_)
    · obtain ⟨c5, c6, c7, c8, ys, rfl, g, _⟩ := h
      exact SqL.of (GrDL.lst g nCF hC)
    · obtain ⟨c5, c6, c7, c8, ys, rfl, g, hy, pp⟩ := h
      rw [List.getElem?_map, List.getElem?_map] at hx
      cases e : qs[i]? with
      | none => rw [e] at hx; cases hx
      | some q0 =>
        rw [e] at hx
        cases hx
        have qm := List.mem_of_getElem? e
        obtain ⟨b1, b2, b3⟩ := qb q0 qm
        have hi := (List.getElem?_eq_some_iff.mp e).1
        have rT := (Gr.refl H').new nT (.tup [.int ((i : Nat) : Int), .str (quT q0)])
        refine ⟨Tp, _, rfl, SqT.of upd_same, rfl, _, _, rfl, _, _, rfl, rfl, ?_⟩
        refine ⟨_, rfl, q0, rfl, by rw [(hq q0 qm).2.1]; exact d1, b1, b2, b3, fun v H5 g5 hv => ?_⟩
        have gg := rT.trans g5
        refine ⟨_, rfl, _, rfl, iteN (by obtain ⟨a, s, rfl, _⟩ := hv; exact fun z => nomatch z) ?_⟩
        have hy5 := gg.lstK hy
        have ly := paired_len pp
        rw [List.length_take] at ly
        refine ⟨_, rfl, .inl ⟨rfl, _, SqL.of hy5⟩, _, rfl, F0, ys, v, rfl, rfl, hy5, small1000 (by omega), ?_⟩
        have tp : Tst K H5 (upd H5 F0 (.lst (ys ++ [v]))) := Tst.put hy5
        refine ⟨_, _, _, _, ys ++ [v], rfl, (g.trans (gg.d F0)).set _, upd_same, ?_⟩
        rw [List.take_add_one, e]
        exact paired_app (Paired.mapP pp fun _ _ z => QuV.st (QuV.gr z gg) tp) (.cons (QuV.st hv tp) .nil)
    · obtain ⟨c5, c6, c7, c8, ys, rfl, g, hy, pp⟩ := h
      rw [List.length_map, List.length_map, List.take_length] at pp
      refine ⟨_, rfl, _, rfl, F0, ys, rfl, .inl ⟨SqL.of hy, fun A nA => ⟨szN (by show 2 ≤ 1000000; decide), fun Tt nTt => ?_⟩⟩⟩
      have rA := (Gr.refl H').new nA (.tup ys)
      have rT := rA.new nTt (.tup [.int ((d : Nat) : Int), .ref A])
      have hb : BkV K (upd (upd H' A (.tup ys)) Tt (.tup [.int ((d : Nat) : Int), .ref A])) (.ref Tt) d qs := ⟨Tt, A, ys, rfl, SqT.of upd_same, ((Gr.refl _).new nTt _).seqT (SqT.of upd_same), Paired.mapP pp fun _ _ z => QuV.gr z rT⟩
      generalize upd (upd H' A (.tup ys)) Tt (.tup [.int ((d : Nat) : Int), .ref A]) = H6 at rT hb ⊢
      obtain ⟨a0, b0, xs0, e0, hs0, hb0, hp0⟩ := id hb
      refine ⟨_, rfl, .ref Tt, _, rfl, (by rw [e0]; exact .tup hs0 (.cons (.int _) (.cons (.tup hb0 (dp_qus hp0)) .nil))), small_ok l20 qb, fun H7 g7 => ?_⟩
      rw [bookD_ok d1 (fun q h => ⟨(hq q h).1, (hq q h).2.1⟩) nd]
      exact ⟨_, rfl, iteF ⟨_, rfl, q _ H7 (((g2.trans ((((rF.trans rC).d F0).trans g).to nF)).trans rT).trans g7) (hb.gr g7)⟩⟩
  | _ => cases td
end
end SB
namespace SB
open PySem L2 GxR GA RZ RP TL
/-! ### sayings by their signs -/
def tS (s : Say) : List Nat := tl (sayT s)
def fl (ps : List Say) : List Nat := ps.flatMap fun p => 32 :: tS p
theorem joinL_cons (S : List Nat) : ∀ (p : List Nat) (L : List (List Nat)), joinL S (p :: L) = p ++ L.flatMap fun q => S ++ q
  | p, [] => (List.append_nil p).symm
  | p, q :: r => by
    show p ++ (S ++ joinL S (q :: r)) = _
    rw [joinL_cons S q r, List.flatMap_cons, List.append_assoc]
theorem tl_op : tl ("(" : Str) = [40] := by decide +kernel
theorem tl_cl : tl (")" : Str) = [41] := by decide +kernel
theorem tl_bo : tl (" [" : Str) = [32, 91] := by decide +kernel
theorem tl_bc : tl ("] " : Str) = [93, 32] := by decide +kernel
theorem tS_q (a : Int) (ns : List Int) (wl : Int) : tS (.q a ns wl) = 40 :: (tl (wordA a) ++ 32 :: 91 :: (tl (sidesT ns) ++ 93 :: 32 :: (tl (iT wl) ++ [41]))) := by
  show tl ("(" ++ wordA a ++ " [" ++ sidesT ns ++ "] " ++ iT wl ++ ")") = _
  simp only [tl_append, tl_op, tl_cl, tl_bo, tl_bc]
  simp
theorem tS_c {s : Say} (h : isQ s = false) : tS s = 40 :: (tl (wordS s) ++ (fl (partsS s) ++ [41])) := by
  unfold tS
  rw [sayT_parts h, tl_append, tl_append, tl_op, tl_cl, join_eq, tl_join, List.map_cons, joinL_cons, tl_blank, List.map_map, List.flatMap_map]
  show [40] ++ (tl (wordS s) ++ fl (partsS s)) ++ [41] = _
  simp
theorem fl_split {ps : List Say} {k : Nat} {t : Say} (h : ps[k]? = some t) : fl ps = fl (ps.take k) ++ (32 :: tS t ++ fl (ps.drop (k + 1))) := by
  have e : ps = ps.take k ++ t :: ps.drop (k + 1) := by
    obtain ⟨hl, e⟩ := List.getElem?_eq_some_iff.mp h
    rw [← e, ← List.drop_eq_getElem_cons hl, List.take_append_drop]
  conv => lhs; rw [e]
  unfold fl
  rw [List.flatMap_append, List.flatMap_cons]
/-- what stands ahead of, behind the saying in hand; the path to it, the nearest first -/
def preT : List (Say × Nat) → List Nat
  | [] => []
  | (s, k) :: fs => preT fs ++ (40 :: (tl (wordS s) ++ (fl ((partsS s).take k) ++ [32])))
def postT : List (Say × Nat) → List Nat
  | [] => []
  | (s, k) :: fs => fl ((partsS s).drop (k + 1)) ++ 41 :: postT fs
def Ch (s0 : Say) : List (Say × Nat) → Say → Prop
  | [], t => t = s0
  | (s, k) :: fs, t => isQ s = false ∧ (partsS s)[k]? = some t ∧ Ch s0 fs s
theorem Ch.txt {s0 : Say} : ∀ {fs : List (Say × Nat)} {t : Say}, Ch s0 fs t → tS s0 = preT fs ++ (tS t ++ postT fs)
  | [], t, h => by
    rw [show t = s0 from h]
    simp [preT, postT]
  | (s, k) :: fs, t, ⟨hq, hp, hc⟩ => by
    rw [hc.txt, tS_c hq, fl_split hp]
    simp [preT, postT]
theorem Ch.ok {N d : Nat} {s0 : Say} : ∀ {fs : List (Say × Nat)} {t : Say}, Ch s0 fs t → SayB N d s0 → SayB N d t
  | [], t, h, k => by rw [show t = s0 from h]; exact k
  | (s, k) :: fs, t, ⟨hq, hp, hc⟩, o => part_ok (hc.ok o) (List.mem_of_getElem? hp)
theorem Ch.dep {s0 : Say} : ∀ {fs : List (Say × Nat)} {t : Say}, Ch s0 fs t → depS t + fs.length ≤ depS s0
  | [], t, h => by rw [show t = s0 from h]; exact Nat.le_refl _
  | (s, k) :: fs, t, ⟨hq, hp, hc⟩ => by
    have a := part_dep (List.mem_of_getElem? hp)
    have b := hc.dep
    rw [List.length_cons]
    omega
/-- how many sayings are still to come -/
def remZ : List (Say × Nat) → Nat
  | [] => 0
  | (s, k) :: fs => (((partsS s).drop (k + 1)).map szS).sum + remZ fs
theorem sz_c {s : Say} (h : isQ s = false) : szS s = 1 + ((partsS s).map szS).sum := by
  cases s with
  | q => cases h
  | nt s => simp [szS, partsS]; omega
  | bo s t => simp [szS, partsS]; omega
  | ei s t => simp [szS, partsS]; omega
theorem parts_ne {s : Say} (h : isQ s = false) : ∃ p, (partsS s)[0]? = some p := by
  cases s with
  | q => cases h
  | nt s => exact ⟨_, rfl⟩
  | bo s t => exact ⟨_, rfl⟩
  | ei s t => exact ⟨_, rfl⟩
theorem rem_open {s p : Say} (h : isQ s = false) (hp : (partsS s)[0]? = some p) (fs : List (Say × Nat)) : szS p + remZ ((s, 0) :: fs) + 1 = szS s + remZ fs := by
  rw [sz_c h]
  show szS p + ((((partsS s).drop 1).map szS).sum + remZ fs) + 1 = _
  cases e : partsS s with
  | nil => rw [e] at hp; cases hp
  | cons q r =>
    rw [e] at hp
    cases hp
    rw [List.map_cons, List.sum_cons, List.drop_one]
    show szS p + ((r.map szS).sum + remZ fs) + 1 = 1 + (szS p + (r.map szS).sum) + remZ fs
    omega
theorem rem_next {s r : Say} {k : Nat} (hr : (partsS s)[k + 1]? = some r) (fs : List (Say × Nat)) : szS r + remZ ((s, k + 1) :: fs) = remZ ((s, k) :: fs) := by
  show szS r + ((((partsS s).drop (k + 1 + 1)).map szS).sum + remZ fs) = (((partsS s).drop (k + 1)).map szS).sum + remZ fs
  obtain ⟨hl, e⟩ := List.getElem?_eq_some_iff.mp hr
  rw [List.drop_eq_getElem_cons hl, List.map_cons, List.sum_cons, e]
  omega
theorem rem_up (s : Say) (k : Nat) (fs : List (Say × Nat)) : remZ fs ≤ remZ ((s, k) :: fs) := by
  show _ ≤ _ + remZ fs
  omega
/-! ### looking for a sign -/
theorem getD_tl (z : Str) (i : Nat) : z.cps.getD i 0 = (tl z).getD i 0 := by simp [tl]
theorem find_at {z : Str} {c : Nat} {i p : Nat} (hi : i ≤ p) (hp : (tl z)[p]? = some c) (hn : ∀ v, i ≤ v → v < p → (tl z)[v]? ≠ some c) : Txt.find3 z ⟨#[c]⟩ (i : Int) = (p : Int) := by
  have hl : p < (tl z).length := (List.getElem?_eq_some_iff.mp hp).1
  have el := len_tl z
  have ef : fromIndex z.length (i : Int) = i := by
    unfold fromIndex
    rw [if_neg (by omega)]
    omega
  have gd : ∀ v x, v < z.length → (z.cps.getD v 0 = x ↔ (tl z)[v]? = some x) := fun v x hv => by
    rw [getD_tl, List.getD_eq_getElem?_getD, List.getElem?_eq_getElem (by omega)]
    simp
  rcases StrLaws.find3_spec z c (i : Int) with ⟨_, h⟩ | ⟨k, h1, h2, h3, h4, h5⟩
  · rw [ef] at h
    exact absurd ((gd p c (by omega)).mpr hp) (h p hi (by omega))
  · rw [ef] at h2 h5
    rw [h1]
    have : k = p := by
      rcases Nat.lt_trichotomy k p with g | g | g
      · exact absurd ((gd k c h3).mp h4) (hn k h2 g)
      · exact g
      · exact absurd ((gd p c (by omega)).mpr hp) (h5 p hi g)
    rw [this]
theorem cut_nn (z : Str) (i j : Nat) : tl (cutS z (some (i : Int)) (some (j : Int))) = ((tl z).drop i).take (j - i) := by
  unfold cutS
  rw [tl_mk, HT.sIx_nat, HT.sIx_nat]
  have el := len_tl z
  show ((tl z).drop (min i z.length)).take (min j z.length - min i z.length) = _
  by_cases h : i ≤ z.length
  · rw [Nat.min_eq_left h]
    by_cases k : j ≤ z.length
    · rw [Nat.min_eq_left k]
    · have h1 : ((tl z).drop i).take (z.length - i) = (tl z).drop i := List.take_of_length_le (by rw [List.length_drop]; omega)
      have h2 : ((tl z).drop i).take (j - i) = (tl z).drop i := List.take_of_length_le (by rw [List.length_drop]; omega)
      rw [Nat.min_eq_right (by omega), h1, h2]
  · have h1 : (tl z).drop (min i z.length) = [] := List.drop_of_length_le (by omega)
    have h2 : (tl z).drop i = [] := List.drop_of_length_le (by omega)
    rw [h1, h2]
    simp
/-- a part of a text, told by what stands ahead of and behind it -/
theorem cut_mid {z x : Str} {A C : List Nat} (h : tl z = A ++ (tl x ++ C)) : cutS z (some ((A.length : Nat) : Int)) (some ((A.length + (tl x).length : Nat) : Int)) = x := by
  refine ext_tl ?_
  rw [cut_nn, h, List.drop_left, Nat.add_sub_cancel_left, List.take_left]
theorem at_mid {A C : List Nat} {c : Nat} {L : List Nat} (h : L = A ++ c :: C) : L[A.length]? = some c := by
  rw [h, List.getElem?_append_right (Nat.le_refl _), Nat.sub_self]
  rfl
theorem no_mid {A B C : List Nat} {c : Nat} {L : List Nat} (h : L = A ++ (B ++ C)) (n : c ∉ B) : ∀ v, A.length ≤ v → v < A.length + B.length → L[v]? ≠ some c := fun v h1 h2 e => by
  rw [h, List.getElem?_append_right h1, List.getElem?_append_left (by omega)] at e
  exact n (List.mem_of_getElem? e)
theorem find_mid {z : Str} {A B C : List Nat} {c : Nat} (h : tl z = A ++ (B ++ c :: C)) (n : c ∉ B) : Txt.find3 z ⟨#[c]⟩ ((A.length : Nat) : Int) = ((A.length + B.length : Nat) : Int) := by
  refine find_at (Nat.le_add_right _ _) ?_ (no_mid h n)
  rw [← List.length_append]
  exact at_mid (by rw [h, List.append_assoc])
theorem s32 : (" " : Str) = ⟨#[32]⟩ := ext_tl (by decide +kernel)
theorem s93 : ("]" : Str) = ⟨#[93]⟩ := ext_tl (by decide +kernel)
theorem s41 : (")" : Str) = ⟨#[41]⟩ := ext_tl (by decide +kernel)
theorem s40 : ("(" : Str) = ⟨#[40]⟩ := ext_tl (by decide +kernel)
theorem s91 : ("[" : Str) = ⟨#[91]⟩ := ext_tl (by decide +kernel)
theorem wordA_free {c : Nat} (h : c < 97) (a : Int) : c ∉ tl (wordA a) := by
  have e1 : tl ("less" : Str) = [108, 101, 115, 115] := by decide +kernel
  have e2 : tl ("is" : Str) = [105, 115] := by decide +kernel
  have e3 : tl ("more" : Str) = [109, 111, 114, 101] := by decide +kernel
  unfold wordA
  split
  · rw [e1]; simp; omega
  · split
    · rw [e2]; simp; omega
    · rw [e3]; simp; omega
theorem wordS_free {c : Nat} (h : c < 97) (s : Say) : c ∉ tl (wordS s) := by
  have e1 : tl ("not" : Str) = [110, 111, 116] := by decide +kernel
  have e2 : tl ("both" : Str) = [98, 111, 116, 104] := by decide +kernel
  have e3 : tl ("either" : Str) = [101, 105, 116, 104, 101, 114] := by decide +kernel
  cases s with
  | q a ns wl => exact wordA_free h a
  | nt s => show c ∉ tl ("not" : Str); rw [e1]; simp; omega
  | bo s t => show c ∉ tl ("both" : Str); rw [e2]; simp; omega
  | ei s t => show c ∉ tl ("either" : Str); rw [e3]; simp; omega
end SB
namespace SB
open PySem L2 GxR GA RZ RP TL
/-- the module's dict of how many sayings stand in one -/
structure PartR (K : PySem.W.Frag) (w : World) (mg : Str → Option Value) : Prop where
  ex : ∃ (d : Addr) (es : Array DictEntry) (n : Nat) (t1 t2 t3 : Tok), mg "PARTS" = some (.ref d) ∧ KDict K w d es n ∧ PySem.W.nsIn K d "not" = some (some (.int 1 t1)) ∧ PySem.W.nsIn K d "both" = some (some (.int 2 t2)) ∧ PySem.W.nsIn K d "either" = some (some (.int 2 t3)) ∧
    PySem.W.nsIn K d "less" = some none ∧ PySem.W.nsIn K d "is" = some none ∧ PySem.W.nsIn K d "more" = some none
theorem PartR.use {K : PySem.W.Frag} {w : World} {mg : Str → Option Value} (h : PartR K w mg) : ∃ (d : Addr) (es : Array DictEntry) (n : Nat), mg "PARTS" = some (.ref d) ∧ KDict K w d es n ∧ (∀ s : Say, isQ s = false → ∃ t, PySem.W.nsIn K d (wordS s) = some (some (.int ((partsS s).length : Nat) t))) ∧ ∀ a : Int, PySem.W.nsIn K d (wordA a) = some none := by
  obtain ⟨d, es, n, t1, t2, t3, h1, h2, a1, a2, a3, a4, a5, a6⟩ := h.ex
  refine ⟨d, es, n, h1, h2, fun s hs => ?_, fun a => ?_⟩
  · cases s with
    | q => cases hs
    | nt => exact ⟨_, a1⟩
    | bo => exact ⟨_, a2⟩
    | ei => exact ⟨_, a3⟩
  · unfold wordA
    split
    · exact a4
    · split
      · exact a5
      · exact a6
/-- the module's tuple of the words of questions -/
structure LeafT (K : PySem.W.Frag) (mg : Str → Option Value) : Prop where
  ex : ∃ (a : Addr) (od : Option Addr) (its : Array Value) (n : Nat) (sl : Array (Option Value)), mg "LEAVES" = some (.ref a) ∧ K.lookup a = some ⟨.type "tuple", od, .seq its n, sl⟩ ∧ its.size ≤ sizeLine ∧ Vals [.str "less", .str "is", .str "more"] its.toList
theorem LeafT.use {K : PySem.W.Frag} {mg : Str → Option Value} (h : LeafT K mg) : ∃ a, mg "LEAVES" = some (.ref a) ∧ ∀ H, SqT K H a [.str "less", .str "is", .str "more"] := by
  obtain ⟨a, od, its, n, sl, h1, h2, h3, h4⟩ := h.ex
  exact ⟨a, h1, fun H => .inr ⟨_, its, n, h2, rfl, rfl, h3, h4⟩⟩
theorem cut_mid' {z x : Str} {A C : List Nat} {i j : Int} (h : tl z = A ++ (tl x ++ C)) (hi : i = ((A.length : Nat) : Int)) (hj : j = ((A.length + (tl x).length : Nat) : Int)) : cutS z (some i) (some j) = x := by
  subst hi hj
  exact cut_mid h
theorem find_mid' {z : Str} {A B C : List Nat} {c : Nat} {i p : Int} (h : tl z = A ++ (B ++ c :: C)) (n : c ∉ B) (hi : i = ((A.length : Nat) : Int)) (hp : p = ((A.length + B.length : Nat) : Int)) : Txt.find3 z ⟨#[c]⟩ i = p := by
  subst hi hp
  exact find_mid h n
theorem atI_mid {z : Str} {A C : List Nat} {c : Nat} {i : Int} (h : tl z = A ++ c :: C) (hi : i = ((A.length : Nat) : Int)) : atI z.cps.toList i = some c := by
  subst hi
  exact atI_nat (at_mid h)
section
variable {P : Program} {w : World} {K : PySem.W.Frag} {mg : Str → Option Value} {base : Heap}
/-- a saying opened: its word, or all of a question -/
def OpenV (K : PySem.W.Frag) (H : Hp) (t : Say) (vs : List V) : Prop := match t with
  | .q a ns wl => ∃ sv, vs = [.str (wordA a), sv, .int wl] ∧ SiV K H sv ns
  | t => vs = [.str (wordS t)]
def opened (t : Say) : Nat := match t with
  | .q a ns wl => (tS (.q a ns wl)).length - 1
  | t => 1 + (tl (wordS t)).length
def spOpen (K : PySem.W.Frag) : Sp := fun vs H Q _ => ∃ (z : Str) (A C : List Nat) (t : Say) (d : Nat), vs = [.str z, .int ((A.length : Nat) : Int)] ∧ tl z = A ++ (tS t ++ C) ∧ z.length ≤ 5000000 ∧ SayB (10 ^ 9) d t ∧ 1 ≤ d ∧ d ≤ 12 ∧
  ∀ T L vs H', Gr H H' → (∀ ys, H L ≠ some (.lst ys)) → H' L = some (.lst vs) → OpenV K H' t vs → SqT K H' T [.ref L, .int ((A.length + opened t : Nat) : Int)] → Q (.ref T) H'
theorem sc_open : FnScope ["line", "at", "blank", "word", "opening", "closing", "end", "sides", "wall"] ["line", "at"] (defScope s__opened_at) := ⟨rfl, rfl, rfl, by decide +kernel, rfl, by decide +kernel, by decide +kernel⟩
theorem cl_open (D : Df K mg "_opened_at" s__opened_at) (PD : PartR K w mg) (LT : LeafT K mg) (CI : Cl P w K mg base 1 "integer_in" ["word"] spIntIn) (CS : Cl P w K mg base 2 "_sides_in" ["words"] (spSdsIn K)) : Cl P w K mg base 3 "_opened_at" ["line", "at"] (spOpen K) := by
  refine D.cl (fun _ _ _ _ _ _ us hl => match us, hl with | [_, _], _ => rfl) fun f fd F => F.ok sc_open (fun vs H Q E h => ?_) (fun cdv A outer s H vs Q E hr h => ?_)
  · obtain ⟨z, A, C, t, d, rfl, _⟩ := h
    rfl
  obtain ⟨z, A0, C, t, d, rfl, hz, lz, ok, d1, d12, q⟩ := h
  obtain ⟨dP, esP, nP, mP, KP, wP, wN⟩ := PD.use
  obtain ⟨aL, mL, hL⟩ := LT.use
  refine ⟨_, (pss_cons (ps_set (i := 2) sc_open.nd rfl (.inl rfl) (pe_bm PySem.F.plainAttrs_str PySem.F.slot_str_find PySem.F.type_str_find mt_find3 (pv 0) (pa_cons pe_str (pa_cons (pv 1) pa_nil))))
    (pss_cons (ps_if (PW.pt (by exact (pw_or (pt_cmpR op_ne (pe_slice sl_str (pv 0) (po_some (pv 1)) (po_some (pe_op op_add (pv 1) pe_int))) pe_str (nomark _)) (pw_or1 (pt_cmpR op_lt (pv 2) pe_int (nomark _)))))) pss_no pss_nil)
    (pss_cons (ps_set (i := 3) sc_open.nd rfl (.inl rfl) (pe_slice sl_str (pv 0) (po_some (pe_op op_add (pv 1) pe_int)) (po_some (pv 2))))
    (pss_cons (ps_if (pt_cmpR (op_in_kd KP) (pv 3) (pe_glob (v := .ref dP) rfl mP rfl) rfl) (pss_one (ps_ret (pe_tup (pa_cons (pe_lst (pa_cons (pv 3) pa_nil)) (pa_cons (pv 2) pa_nil))))) pss_nil)
    (pss_cons (ps_par (i := 4) (j := 5) rfl sc_open.nd rfl rfl (by decide) rfl rfl (pa_cons (pe_op op_add (pv 2) pe_int) (pa_cons (pe_bm PySem.F.plainAttrs_str PySem.F.slot_str_find PySem.F.type_str_find mt_find3 (pv 0) (pa_cons pe_str (pa_cons (pv 2) pa_nil))) pa_nil)) rfl)
    (pss_cons (ps_set (i := 6) sc_open.nd rfl (.inl rfl) (pe_bm PySem.F.plainAttrs_str PySem.F.slot_str_find PySem.F.type_str_find mt_find3 (pv 0) (pa_cons pe_str (pa_cons (pv 5) pa_nil))))
    (pss_cons (ps_if (PW.pt (by exact (pw_or (pt_cmpR op_notIn_seq (pv 3) (pe_glob (v := .ref aL) rfl mL rfl) rfl) (pw_or (pt_cmpR op_lt (pv 5) pe_int (nomark _)) (pw_or1 (pt_cmpR op_lt (pv 6) pe_int (nomark _))))))) pss_no pss_nil)
    (pss_cons (ps_if (PW.pt (by exact (pw_or (pt_cmpR op_ne (pe_ix ix_str (pv 0) (pv 4) (fun _ _ => rfl)) pe_str (nomark _)) (pw_or1 (pt_cmpR op_ne (pe_ix ix_str (pv 0) (pe_op op_add (pv 5) pe_int) (fun _ _ => rfl)) pe_str (nomark _)))))) pss_no pss_nil)
    (pss_cons (ps_par (i := 7) (j := 8) rfl sc_open.nd rfl rfl (by decide) rfl rfl (pa_cons (pe_cl CS (hr.mono (by decide)) (pa_cons (pe_slice sl_str (pv 0) (po_some (pe_op op_add (pv 4) pe_int)) (po_some (pv 5))) pa_nil)) (pa_cons (pe_cl CI (hr.mono (by decide)) (pa_cons (pe_slice sl_str (pv 0) (po_some (pe_op op_add (pv 5) pe_int)) (po_some (pv 6))) pa_nil)) pa_nil)) rfl)
    (pss_one (ps_ret (pe_ifExp (PW.pt (by exact (pw_or (pt_cmp (pc_isN (pv 7))) (pw_or1 (pt_cmp (pc_isN (pv 8))))))) (pe_tup (pa_cons pe_non (pa_cons (pv 1) pa_nil))) (pe_tup (pa_cons (pe_lst (pa_cons (pv 3) (pa_cons (pv 7) (pa_cons (pv 8) pa_nil)))) (pa_cons (pv 6) pa_nil))))))))))))))), ?_⟩
  obtain ⟨R, hR⟩ : ∃ R, tl z = A0 ++ ((40 :: tl (wordS t)) ++ 32 :: R) := by
    cases hq : isQ t with
    | true =>
      cases t with
      | q a ns wl => exact ⟨91 :: (tl (sidesT ns) ++ 93 :: 32 :: (tl (iT wl) ++ 41 :: C)), by rw [hz, tS_q]; simp [wordS]⟩
      | nt s => cases hq
      | bo s t => cases hq
      | ei s t => cases hq
    | false =>
      obtain ⟨p, hp⟩ := parts_ne hq
      exact ⟨tS p ++ (fl ((partsS t).drop 1) ++ 41 :: C), by rw [hz, tS_c hq, fl_split hp]; simp [fl]⟩
  have n32 : 32 ∉ 40 :: tl (wordS t) := fun h => by
    rcases List.mem_cons.mp h with h | h
    · cases h
    · exact wordS_free (by decide) t h
  have fb : Txt.find3 z " " ((A0.length : Nat) : Int) = ((A0.length + (40 :: tl (wordS t)).length : Nat) : Int) := by
    rw [s32]
    exact find_mid hR n32
  have fo : cutS z (some ((A0.length : Nat) : Int)) (some (((A0.length : Nat) : Int) + 1)) = "(" := cut_mid' (A := A0) (C := tl (wordS t) ++ 32 :: R) (by rw [tl_op, hR]; rfl) rfl (by rw [tl_op]; simp)
  have fw : cutS z (some (((A0.length : Nat) : Int) + 1)) (some ((A0.length + (40 :: tl (wordS t)).length : Nat) : Int)) = wordS t := cut_mid' (A := A0 ++ [40]) (C := 32 :: R) (by rw [hR]; simp) (by simp) (by simp only [List.length_append, List.length_cons, List.length_nil]; omega)
  have sz := sz15 (n := z.length) (by omega)
  refine ⟨_, rfl, rfl, _, rfl, _, _, _, rfl, rfl, ?_⟩
  rw [fb]
  refine ⟨_, rfl, _, rfl, _, rfl, _, rfl, _, _, rfl, rfl, _, rfl, z, rfl, sz, rfl, _, rfl, iteNS (congrArg V.str fo) ?_⟩
  refine ⟨_, rfl, _, _, rfl, rfl, _, rfl, iteN (by omega) ?_⟩
  refine ⟨_, rfl, _, rfl, _, _, rfl, rfl, _, rfl, _, rfl, _, rfl, z, rfl, sz, ?_⟩
  rw [fw]
  cases hq : isQ t with
  | false =>
    obtain ⟨tk, ht⟩ := wP t hq
    refine ⟨_, rfl, _, _, rfl, rfl, ht, _, rfl, iteT ?_⟩
    refine ⟨_, rfl, szN (by show 1 ≤ 1000000; decide), fun L nL => ⟨_, rfl, szN (by show 2 ≤ 1000000; decide), fun T nT => ?_⟩⟩
    have rL := (Gr.refl H).new nL (.lst [.str (wordS t)])
    have rT := rL.new nT (.tup [.ref L, .int ((A0.length + (40 :: tl (wordS t)).length : Nat) : Int)])
    have eo : A0.length + opened t = A0.length + (40 :: tl (wordS t)).length := by
      have : opened t = 1 + (tl (wordS t)).length := by
        cases t with
        | q => cases hq
        | nt s => rfl
        | bo s t => rfl
        | ei s t => rfl
      rw [this, List.length_cons]
      omega
    refine q T L [.str (wordS t)] _ rT (fun ys e => by rw [nL] at e; cases e) ?_ ?_ ?_
    · exact ((Gr.refl _).new nT _).lstK upd_same
    · cases t with
      | q => cases hq
      | nt s => rfl
      | bo s t => rfl
      | ei s t => rfl
    · rw [eo]
      exact SqT.of upd_same
  | true =>
    cases t with
    | q a ns wl =>
      obtain ⟨a0, a1, ln, nz, nw⟩ := ok
      have hz1 : tl z = A0 ++ (40 :: (tl (wordA a) ++ 32 :: 91 :: (tl (sidesT ns) ++ 93 :: 32 :: (tl (iT wl) ++ 41 :: C)))) := by
        rw [hz, tS_q]
        simp
      have ew : wordS (.q a ns wl) = wordA a := rfl
      rw [ew] at fb fw n32 ⊢
      have s93f : 93 ∉ 32 :: 91 :: tl (sidesT ns) := fun h => by
        rcases List.mem_cons.mp h with h | h
        · cases h
        · rcases List.mem_cons.mp h with h | h
          · cases h
          · exact sidesT_free (by omega) (by decide) ns h
      have s41f : 41 ∉ 93 :: 32 :: tl (iT wl) := fun h => by
        rcases List.mem_cons.mp h with h | h
        · cases h
        · rcases List.mem_cons.mp h with h | h
          · cases h
          · exact iT_free (by omega) wl h
      have fc : Txt.find3 z "]" ((A0.length + (40 :: tl (wordA a)).length : Nat) : Int) = ((A0.length + 1 + (tl (wordA a)).length + 2 + (tl (sidesT ns)).length : Nat) : Int) := by
        rw [s93]
        exact find_mid' (A := A0 ++ 40 :: tl (wordA a)) (B := 32 :: 91 :: tl (sidesT ns)) (C := 32 :: (tl (iT wl) ++ 41 :: C)) (by rw [hz1]; simp) s93f (by simp only [List.length_append]) (by simp only [List.length_append, List.length_cons]; omega)
      have fe : Txt.find3 z ")" ((A0.length + 1 + (tl (wordA a)).length + 2 + (tl (sidesT ns)).length : Nat) : Int) = ((A0.length + 1 + (tl (wordA a)).length + 2 + (tl (sidesT ns)).length + 2 + (tl (iT wl)).length : Nat) : Int) := by
        rw [s41]
        exact find_mid' (A := A0 ++ 40 :: (tl (wordA a) ++ 32 :: 91 :: tl (sidesT ns))) (B := 93 :: 32 :: tl (iT wl)) (C := C) (by rw [hz1]; simp) s41f (by simp only [List.length_append, List.length_cons]; omega) (by simp only [List.length_append, List.length_cons]; omega)
      have fs : cutS z (some (((A0.length + (40 :: tl (wordA a)).length : Nat) : Int) + 1 + 1)) (some ((A0.length + 1 + (tl (wordA a)).length + 2 + (tl (sidesT ns)).length : Nat) : Int)) = sidesT ns := cut_mid' (A := A0 ++ 40 :: (tl (wordA a) ++ [32, 91])) (C := 93 :: 32 :: (tl (iT wl) ++ 41 :: C)) (by rw [hz1]; simp) (by simp only [List.length_append, List.length_cons, List.length_nil]; omega) (by simp only [List.length_append, List.length_cons, List.length_nil]; omega)
      have fn : cutS z (some (((A0.length + 1 + (tl (wordA a)).length + 2 + (tl (sidesT ns)).length : Nat) : Int) + 2)) (some ((A0.length + 1 + (tl (wordA a)).length + 2 + (tl (sidesT ns)).length + 2 + (tl (iT wl)).length : Nat) : Int)) = iT wl := cut_mid' (A := A0 ++ 40 :: (tl (wordA a) ++ 32 :: 91 :: (tl (sidesT ns) ++ [93, 32]))) (C := 41 :: C) (by rw [hz1]; simp) (by simp only [List.length_append, List.length_cons, List.length_nil]; omega) (by simp only [List.length_append, List.length_cons, List.length_nil]; omega)
      have i1 : atI z.cps.toList (((A0.length + (40 :: tl (wordA a)).length : Nat) : Int) + 1) = some 91 := atI_mid (A := A0 ++ 40 :: (tl (wordA a) ++ [32])) (C := tl (sidesT ns) ++ 93 :: 32 :: (tl (iT wl) ++ 41 :: C)) (by rw [hz1]; simp) (by simp only [List.length_append, List.length_cons, List.length_nil]; omega)
      have i2 : atI z.cps.toList (((A0.length + 1 + (tl (wordA a)).length + 2 + (tl (sidesT ns)).length : Nat) : Int) + 1) = some 32 := atI_mid (A := A0 ++ 40 :: (tl (wordA a) ++ 32 :: 91 :: (tl (sidesT ns) ++ [93]))) (C := tl (iT wl) ++ 41 :: C) (by rw [hz1]; simp) (by simp only [List.length_append, List.length_cons, List.length_nil]; omega)
      refine ⟨_, rfl, _, _, rfl, rfl, wN a, _, rfl, iteF ?_⟩
      refine ⟨_, rfl, _, _, rfl, rfl, _, rfl, rfl, _, rfl, _, _, _, rfl, rfl, ?_⟩
      rw [fc]
      refine ⟨_, _, rfl, ?_⟩
      refine ⟨_, rfl, rfl, _, rfl, _, _, _, rfl, rfl, ?_⟩
      rw [fe]
      refine ⟨_, rfl, aL, _, rfl, .inr (hL _), rfl, rfl, _, rfl, ?_⟩
      rw [show (if true = true then !inV (.str (wordA a)) [.str "less", .str "is", .str "more"] else inV (.str (wordA a)) [.str "less", .str "is", .str "more"]) = false from by rw [if_pos rfl, show inV (.str (wordA a)) [.str "less", .str "is", .str "more"] = true from in_word (.q a ns wl)]; rfl]
      refine iteF ⟨_, rfl, _, _, rfl, rfl, _, rfl, iteN (by omega) ⟨_, rfl, _, _, rfl, rfl, _, rfl, iteN (by omega) ?_⟩⟩
      refine ⟨_, rfl, _, rfl, z, _, 91, rfl, rfl, sz, i1, rfl, _, rfl, iteNS (congrArg V.str s91.symm) ?_⟩
      refine ⟨_, rfl, _, rfl, _, _, rfl, rfl, z, _, 32, rfl, rfl, sz, i2, rfl, _, rfl, iteNS (congrArg V.str s32.symm) ?_⟩
      refine ⟨_, rfl, _, rfl, _, _, rfl, rfl, _, rfl, _, rfl, _, rfl, z, rfl, sz, ns, congrArg (fun x => [V.str x]) fs, by omega, by omega, nz, fun v H1 g1 hv => ?_⟩
      refine ⟨_, rfl, _, rfl, _, _, rfl, rfl, _, rfl, _, rfl, _, rfl, z, rfl, sz, wl, congrArg (fun x => [V.str x]) fn, nw, _, _, rfl, ?_⟩
      refine ⟨_, rfl, _, rfl, iteN (by obtain ⟨x, rfl, _⟩ := hv; exact fun e => nomatch e) ⟨_, rfl, _, rfl, iteN (fun e => nomatch e) ?_⟩⟩
      refine ⟨_, rfl, _, rfl, _, rfl, szN (by show 3 ≤ 1000000; decide), fun L nL => ⟨_, rfl, szN (by show 2 ≤ 1000000; decide), fun T nT => ?_⟩⟩
      have rL := g1.new nL (.lst [.str (wordA a), v, .int wl])
      have rT := rL.new nT (.tup [.ref L, .int ((A0.length + 1 + (tl (wordA a)).length + 2 + (tl (sidesT ns)).length + 2 + (tl (iT wl)).length : Nat) : Int)])
      have eo : A0.length + opened (.q a ns wl) = A0.length + 1 + (tl (wordA a)).length + 2 + (tl (sidesT ns)).length + 2 + (tl (iT wl)).length := by
        show A0.length + ((tS (.q a ns wl)).length - 1) = _
        rw [tS_q]
        simp only [List.length_append, List.length_cons, List.length_nil]
        omega
      refine q T L [.str (wordA a), v, .int wl] _ rT (fun ys e => by
        have := g1.lstK e
        rw [nL] at this
        cases this) ?_ ⟨v, rfl, SiV.gr hv (((Gr.refl H1).new nL _).new nT _)⟩ ?_
      · exact ((Gr.refl _).new nT _).lstK upd_same
      · rw [eo]
        exact SqT.of upd_same
    | nt s => cases hq
    | bo s t => cases hq
    | ei s t => cases hq
end
end SB
namespace SB
open PySem L2 GxR GA RZ RP TL
/-! ### what changes are some lists -/
structure GrN (N : Addr → Prop) (H H' : Hp) : Prop where
  keep : ∀ b o, ¬ N b → (∀ ps, o ≠ .tbl ps) → H b = some o → H' b = some o
  tab : ∀ P, ¬ N P → TabG H P → TabG H' P
theorem GrN.refl (N : Addr → Prop) (H : Hp) : GrN N H H := ⟨fun _ _ _ _ e => e, fun _ _ h => h⟩
theorem GrN.trans {N : Addr → Prop} {H H1 H2 : Hp} (a : GrN N H H1) (b : GrN N H1 H2) : GrN N H H2 := ⟨fun c o n k e => b.keep c o n k (a.keep c o n k e), fun P n h => b.tab P n (a.tab P n h)⟩
theorem Gr.n {N : Addr → Prop} {H H' : Hp} (g : Gr H H') : GrN N H H' := ⟨fun b o _ n e => g.keep b o n e, fun P _ h => g.tab P h⟩
theorem GrN.gr {N : Addr → Prop} {H H1 H2 : Hp} (a : GrN N H H1) (b : Gr H1 H2) : GrN N H H2 := a.trans b.n
theorem GrN.set {N : Addr → Prop} {H H1 : Hp} {d : Addr} (a : GrN N H H1) (n : N d) (o : HO) : GrN N H (upd H1 d o) := ⟨fun c u z k e => by
    rw [upd_ne (fun x => z (by rw [x]; exact n))]
    exact a.keep c u z k e, fun P z h => by
    obtain ⟨ps, e, t⟩ := a.tab P z h
    exact ⟨ps, by rw [upd_ne (fun x => z (by rw [x]; exact n))]; exact e, t⟩⟩
theorem GrN.mono {N M : Addr → Prop} {H H' : Hp} (g : GrN N H H') (k : ∀ a, N a → M a) : GrN M H H' := ⟨fun b o n z e => g.keep b o (fun h => n (k b h)) z e, fun P n h => g.tab P (fun h => n (k P h)) h⟩
theorem GrN.to {N : Addr → Prop} {H H' : Hp} (g : GrN N H H') (n : ∀ a, N a → H a = none) : Gr H H' := ⟨fun b o z e => g.keep b o (fun h => by rw [n b h] at e; cases e) z e, fun P h => g.tab P (fun k => by
  obtain ⟨ps, e, _⟩ := h
  rw [n P k] at e
  cases e) h⟩
theorem GrN.st {K : PySem.W.Frag} {N : Addr → Prop} {H H' : Hp} (g : GrN N H H') (h : ∀ a, N a → ∃ ys, H a = some (.lst ys)) : Tst K H H' := fun a xs s => by
  rcases s with (e | ⟨o, e⟩) | e
  · exact .inl (.inl (g.keep _ _ (fun n => by obtain ⟨ys, z⟩ := h a n; rw [z] at e; cases e) (fun _ z => nomatch z) e))
  · exact .inl (.inr ⟨o, g.keep _ _ (fun n => by obtain ⟨ys, z⟩ := h a n; rw [z] at e; cases e) (fun _ z => nomatch z) e⟩)
  · exact .inr e
/-- the lists of what has been opened, the nearest first -/
def StkV (K : PySem.W.Frag) (H : Hp) (as : List Addr) (fs : List (Say × Nat)) : Prop := Paired (fun a f => ∃ ys, H a = some (.lst (.str (wordS f.1) :: ys)) ∧ Paired (fun y p => SayV K H p y) ys ((partsS f.1).take f.2)) as fs
theorem StkV.gr {K : PySem.W.Frag} {H H' : Hp} {as : List Addr} {fs : List (Say × Nat)} (h : StkV K H as fs) (g : Gr H H') : StkV K H' as fs := Paired.mapP h fun _ _ ⟨ys, e, p⟩ => ⟨ys, g.lstK e, Paired.mapP p fun _ _ z => SayV.gr g z⟩
theorem paired_mem {α β : Type} {F G : α → β → Prop} : ∀ {xs : List α} {ys : List β}, Paired F xs ys → (∀ x y, x ∈ xs → F x y → G x y) → Paired G xs ys
  | _, _, .nil, _ => .nil
  | _, _, .cons h t, f => .cons (f _ _ List.mem_cons_self h) (paired_mem t fun x y hx => f x y (List.mem_cons_of_mem _ hx))
theorem StkV.upd {K : PySem.W.Frag} {H : Hp} {as : List Addr} {fs : List (Say × Nat)} {d : Addr} {xs ys : List V} (h : StkV K H as fs) (n : d ∉ as) (e : H d = some (.lst xs)) : StkV K (upd H d (.lst ys)) as fs := paired_mem h fun a f ha ⟨zs, q, p⟩ => ⟨zs, by rw [upd_ne (fun z => n (by rw [← z]; exact ha))]; exact q, Paired.mapP p fun _ _ z => SayV.st (Tst.put e) z⟩
theorem StkV.len {K : PySem.W.Frag} {H : Hp} {as : List Addr} {fs : List (Say × Nat)} (h : StkV K H as fs) : as.length = fs.length := paired_len h
/-- all that a saying holds, in a list -/
def CntV (K : PySem.W.Frag) (H : Hp) (t : Say) (vs : List V) : Prop := match t with
  | .q a ns wl => ∃ sv, vs = [.str (wordA a), sv, .int wl] ∧ SiV K H sv ns
  | t => ∃ ys, vs = .str (wordS t) :: ys ∧ Paired (fun y p => SayV K H p y) ys (partsS t)
theorem cnt_c {K : PySem.W.Frag} {H : Hp} {t : Say} {vs : List V} (h : isQ t = false) (c : ∃ ys, vs = .str (wordS t) :: ys ∧ Paired (fun y p => SayV K H p y) ys (partsS t)) : CntV K H t vs := by
  cases t with
  | q => cases h
  | nt s => exact c
  | bo s u => exact c
  | ei s u => exact c
theorem c_cnt {K : PySem.W.Frag} {H : Hp} {t : Say} {vs : List V} (h : isQ t = false) (c : CntV K H t vs) : ∃ ys, vs = .str (wordS t) :: ys ∧ Paired (fun y p => SayV K H p y) ys (partsS t) := by
  cases t with
  | q => cases h
  | nt s => exact c
  | bo s u => exact c
  | ei s u => exact c
theorem CntV.head {K : PySem.W.Frag} {H : Hp} {t : Say} {vs : List V} (c : CntV K H t vs) : ∃ r, vs = .str (wordS t) :: r ∧ r.length = (if isQ t then 2 else (partsS t).length) := by
  cases hq : isQ t with
  | true =>
    cases t with
    | q a ns wl =>
      obtain ⟨sv, rfl, _⟩ := c
      exact ⟨_, rfl, rfl⟩
    | nt s => cases hq
    | bo s u => cases hq
    | ei s u => cases hq
  | false =>
    obtain ⟨ys, rfl, p⟩ := c_cnt hq c
    exact ⟨ys, rfl, by rw [if_neg Bool.false_ne_true]; exact paired_len p⟩
theorem CntV.say {K : PySem.W.Frag} {H : Hp} {t : Say} {vs : List V} {p : Addr} (c : CntV K H t vs) (h : SqT K H p vs) : SayV K H t (.ref p) := by
  cases t with
  | q a ns wl =>
    obtain ⟨sv, rfl, s⟩ := c
    exact ⟨p, sv, rfl, h, s⟩
  | nt s =>
    obtain ⟨ys, rfl, q⟩ := c
    cases q with
    | cons h1 q => cases q; exact ⟨p, _, rfl, h, h1⟩
  | bo s u =>
    obtain ⟨ys, rfl, q⟩ := c
    cases q with
    | cons h1 q => cases q with
      | cons h2 q => cases q; exact ⟨p, _, _, rfl, h, h1, h2⟩
  | ei s u =>
    obtain ⟨ys, rfl, q⟩ := c
    cases q with
    | cons h1 q => cases q with
      | cons h2 q => cases q; exact ⟨p, _, _, rfl, h, h1, h2⟩
theorem CntV.st {K : PySem.W.Frag} {H H' : Hp} {t : Say} {vs : List V} (g : Tst K H H') (c : CntV K H t vs) : CntV K H' t vs := by
  cases t with
  | q a ns wl =>
    obtain ⟨sv, e, s⟩ := c
    exact ⟨sv, e, s.st g⟩
  | nt s => exact let ⟨ys, e, q⟩ := c; ⟨ys, e, Paired.mapP q fun _ _ z => SayV.st g z⟩
  | bo s u => exact let ⟨ys, e, q⟩ := c; ⟨ys, e, Paired.mapP q fun _ _ z => SayV.st g z⟩
  | ei s u => exact let ⟨ys, e, q⟩ := c; ⟨ys, e, Paired.mapP q fun _ _ z => SayV.st g z⟩
/-- the nearest is whole -/
def S1 (K : PySem.W.Frag) (H : Hp) (s0 : Say) (as : List Addr) (at_ M : Nat) : Prop := ∃ A as1 fs t vs, as = A :: as1 ∧ H A = some (.lst vs) ∧ CntV K H t vs ∧ StkV K H as1 fs ∧ Ch s0 fs t ∧ at_ + 1 = (preT fs).length + (tS t).length ∧ remZ fs ≤ M
/-- the nearest lacks a part -/
def S2 (K : PySem.W.Frag) (H : Hp) (s0 : Say) (as : List Addr) (at_ M : Nat) : Prop := ∃ s k fs r, StkV K H as ((s, k) :: fs) ∧ Ch s0 ((s, k) :: fs) r ∧ at_ + 1 = (preT ((s, k) :: fs)).length ∧ szS r + remZ ((s, k) :: fs) ≤ M
theorem tS_end (t : Say) : ∃ u, tS t = u ++ [41] := by
  cases hq : isQ t with
  | true =>
    cases t with
    | q a ns wl => exact ⟨40 :: (tl (wordA a) ++ 32 :: 91 :: (tl (sidesT ns) ++ 93 :: 32 :: tl (iT wl))), by rw [tS_q]; simp⟩
    | nt s => cases hq
    | bo s u => cases hq
    | ei s u => cases hq
  | false => exact ⟨40 :: (tl (wordS t) ++ fl (partsS t)), by rw [tS_c hq]; simp⟩
theorem fl_take {ps : List Say} {k : Nat} {t : Say} (h : ps[k]? = some t) : fl (ps.take (k + 1)) = fl (ps.take k) ++ (32 :: tS t) := by
  unfold fl
  rw [List.take_add_one, h, Option.toList_some, List.flatMap_append]
  simp
theorem paired_snoc {α β : Type} {F : α → β → Prop} {xs : List α} {ys : List β} {x : α} {y : β} (h : Paired F xs ys) (q : F x y) : Paired F (xs ++ [x]) (ys ++ [y]) := paired_app h (.cons q .nil)
section
variable {P : Program} {w : World} {K : PySem.W.Frag} {mg : Str → Option Value} {base : Heap}
def spClosed (K : PySem.W.Frag) : Sp := fun vs H Q _ => ∃ (Wl : Addr) (z : Str) (at_ M : Nat) (as : List Addr) (s0 : Say) (fin : Prop), vs = [.ref Wl, .str z, .int ((at_ : Nat) : Int)] ∧ tl z = tS s0 ∧ z.length ≤ 5000000 ∧ H Wl = some (.lst (as.reverse.map V.ref)) ∧ as.Nodup ∧ Wl ∉ as ∧ as.length ≤ 100 ∧ ((fin ∧ S1 K H s0 as at_ M) ∨ S2 K H s0 as at_ M) ∧
  ∀ T H', GrN (fun b => b = Wl ∨ b ∈ as) H H' → ((fin ∧ ∃ v, SqT K H' T [v, .int (((tS s0).length : Nat) : Int)] ∧ SayV K H' s0 v) ∨
    ∃ j s k fs r, H' Wl = some (.lst ((as.drop j).reverse.map V.ref)) ∧ StkV K H' (as.drop j) ((s, k) :: fs) ∧ Ch s0 ((s, k) :: fs) r ∧ szS r + remZ ((s, k) :: fs) ≤ M ∧ SqT K H' T [.non, .int (((preT ((s, k) :: fs)).length : Nat) : Int)]) → Q (.ref T) H'
/-- what the walk keeps -/
def ClW (fin : Prop) (K : PySem.W.Frag) (H : Hp) (Wl : Addr) (z : Str) (as : List Addr) (s0 : Say) (M : Nat) (m : Nat) (σ : L2.St) (H1 : Hp) : Prop := ∃ (bs : List Addr) (a1 : Nat) (c3 : Option V), (∃ j, bs = as.drop j) ∧ m = bs.length ∧ σ = [some (.ref Wl), some (.str z), some (.int ((a1 : Nat) : Int)), c3] ∧ H1 Wl = some (.lst (bs.reverse.map V.ref)) ∧ GrN (fun b => b = Wl ∨ b ∈ as) H H1 ∧ ((fin ∧ S1 K H1 s0 bs a1 M) ∨ S2 K H1 s0 bs a1 M)
theorem rev_refs (A : Addr) (as1 : List Addr) : (A :: as1).reverse.map V.ref = as1.reverse.map V.ref ++ [V.ref A] := by
  rw [List.reverse_cons, List.map_append]
  rfl
theorem pop_last {α : Type} (l : List α) (x : α) : (l ++ [x])[(l ++ [x]).length - 1]? = some x := by simp
theorem sc_closed : FnScope ["waiting", "line", "at", "told"] ["waiting", "line", "at"] (defScope s__closed) := ⟨rfl, rfl, rfl, by decide +kernel, rfl, by decide +kernel, by decide +kernel⟩
theorem cl_closed (D : Df K mg "_closed" s__closed) (B : Blt mg) (PD : PartR K w mg) : Cl P w K mg base 1 "_closed" ["waiting", "line", "at"] (spClosed K) := by
  refine D.cl (fun _ _ _ _ _ _ us hl => match us, hl with | [_, _, _], _ => rfl) fun f fd F => F.ok sc_closed (fun vs H Q E h => ?_) (fun cdv A outer s H vs Q E hr h => ?_)
  · obtain ⟨Wl, z, at_, M, as, s0, fin, rfl, _⟩ := h
    rfl
  obtain ⟨Wl, z, at_, M, as, s0, fin, rfl, hz, lz, hW, nd, nW, l100, hS, q⟩ := h
  obtain ⟨dP, esP, nP, mP, KP, wP, wN⟩ := PD.use
  refine ⟨_, (pss_cons (ps_while PassesOwn.never (pt_cmpR op_eq (pe_len (pe_ix ix_list (pv 0) (pe_un un_neg pe_int) (fun _ _ => rfl)) B.len) (pe_op op_add pe_int (pe_kget2 KP (pe_glob (v := .ref dP) rfl mP rfl) (pe_ix ix_list (pe_ix ix_list (pv 0) (pe_un un_neg pe_int) (fun _ _ => rfl)) pe_int (fun _ _ => rfl)) pe_int ⟨rfl, rfl, rfl, rfl⟩)) (nomark _))
      (pss_cons (ps_if (pt_cmpR op_ne (pe_ix ix_str (pv 1) (pv 2) (fun _ _ => rfl)) pe_str (nomark _)) pss_no pss_nil)
      (pss_cons (ps_aug (i := 2) sc_closed.nd rfl (.inl rfl) pe_int ip_add)
      (pss_cons (ps_set (i := 3) sc_closed.nd rfl (.inl rfl) (pe_callTy call_tuple_of rfl B.tup bootTup (pa_cons (pe_bm0 PySem.F.plainAttrs_list PySem.F.slot_list_pop PySem.F.type_list_pop mt_pop (pv 0)) pa_nil)))
      (pss_cons (ps_if (pt_not (pt_truth (pv 0) (by intro _; rfl))) (pss_one (ps_ret (pe_tup (pa_cons (pv 3) (pa_cons (pv 2) pa_nil))))) pss_nil)
      (pss_cons (ps_expr (pe_bm PySem.F.plainAttrs_list PySem.F.slot_list_append PySem.F.type_list_append mt_append (pe_ix ix_list (pv 0) (pe_un un_neg pe_int) (fun _ _ => rfl)) (pa_cons (pv 3) pa_nil)))
      (pss_one (ps_if (pt_cmpR op_eq (pv 2) (pe_callB call_len_str rfl B.len PySem.boot_len (pa_cons (pv 1) pa_nil)) (nomark _)) pss_no pss_nil))))))))
    (pss_one (ps_ret (pe_ifExp (pt_cmpR op_eq (pe_ix ix_str (pv 1) (pv 2) (fun _ _ => rfl)) pe_str (nomark _)) (pe_tup (pa_cons pe_non (pa_cons (pe_op op_add (pv 2) pe_int) pa_nil))) (pe_tup (pa_cons pe_non (pa_cons pe_non pa_nil))))))), ?_⟩
  have sz := sz15 (n := z.length) (by omega)
  have el := len_tl z
  let N : Addr → Prop := fun b => b = Wl ∨ b ∈ as
  refine ⟨ClW fin K H Wl z as s0 M, ⟨as.length, as, at_, none, ⟨0, rfl⟩, rfl, rfl, hW, GrN.refl _ _, hS⟩, fun m σ H1 hw => ?_⟩
  obtain ⟨bs, a1, c3, ⟨j, ej⟩, rfl, rfl, hW1, g1, hS1⟩ := hw
  have ndb : bs.Nodup := by rw [ej]; exact nd.sublist (List.drop_sublist _ _)
  have sub : ∀ b, b ∈ bs → b ∈ as := fun b hb => by rw [ej] at hb; exact List.mem_of_mem_drop hb
  have nWb : Wl ∉ bs := fun h => nW (sub _ h)
  have lbs : bs.length ≤ 100 := by rw [ej, List.length_drop]; omega
  rcases hS1 with ⟨hfin, A, as1, fs, t, vs, rfl, hA, ct, hst, ch, ea, hM⟩ | ⟨s, k, fs, r, hst, ch, ea, hM⟩
  · rw [rev_refs] at hW1
    obtain ⟨r0, rfl, hr0⟩ := ct.head
    obtain ⟨rr, n, hn, hv, hlen⟩ : ∃ (rr : Option Value) (n : Nat), PySem.W.nsIn K dP (wordS t) = some rr ∧ (match rr with | some u => RelV (.int ((n : Nat) : Int)) u | none => V.int ((n : Nat) : Int) = V.int 2) ∧ r0.length = n := by
      cases hq : isQ t with
      | true =>
        cases t with
        | q a ns wl => exact ⟨none, 2, wN a, rfl, hr0⟩
        | nt s => cases hq
        | bo s u => cases hq
        | ei s u => cases hq
      | false =>
        obtain ⟨tk, ht⟩ := wP t hq
        rw [hq, if_neg Bool.false_ne_true] at hr0
        exact ⟨some _, _, ht, ⟨tk, rfl⟩, hr0⟩
    refine ⟨_, rfl, _, rfl, Wl, _, _, _, rfl, rfl, SqL.of hW1, atI_last _ _, A, _, rfl, .inl (SqL.of hA), rfl, _, rfl, _, rfl, Wl, _, _, _, rfl, rfl, SqL.of hW1, atI_last _ _, A, _, _, .str (wordS t), rfl, rfl, SqL.of hA, atI_nat (j := 0) rfl, wordS t, rr, .int ((n : Nat) : Int), rfl, hn, hv, _, _, rfl, rfl, rfl, _, rfl, iteP (by rw [List.length_cons, hlen]; congr 1; omega) ⟨fun σ' H' => ∃ m', m' < (A :: as1).length ∧ ClW fin K H Wl z as s0 M m' σ' H', fun σ' H' h => h, ?_⟩⟩
    obtain ⟨u, hu⟩ := tS_end t
    have htx := ch.txt
    have i1 : atI z.cps.toList ((a1 : Nat) : Int) = some 41 := atI_mid (A := preT fs ++ u) (C := postT fs) (by rw [hz, htx, hu]; simp) (by
      rw [hu] at ea
      simp only [List.length_append, List.length_cons, List.length_nil] at ea ⊢
      omega)
    refine ⟨_, rfl, _, rfl, z, _, 41, rfl, rfl, sz, i1, rfl, _, rfl, iteNS (congrArg V.str s41.symm) ?_⟩
    refine ⟨_, rfl, _, _, rfl, rfl, ?_⟩
    have nA : A ≠ Wl := fun e => nWb (by rw [← e]; exact List.mem_cons_self)
    have nW1 : Wl ∉ as1 := fun h => nWb (List.mem_cons_of_mem _ h)
    refine ⟨_, rfl, .inl ⟨rfl, _, SqL.of hW1⟩, Wl, _, _, rfl, rfl, hW1, pop_last _ _, A, _, rfl, .inl ⟨SqL.of (by rw [upd_ne nA]; exact hA), fun p np => ?_⟩⟩
    rw [List.dropLast_concat] at np ⊢
    have g2 : GrN (fun b => b = Wl ∨ b ∈ as) H (upd H1 Wl (.lst (as1.reverse.map V.ref))) := g1.set (.inl rfl) _
    have t2 : Tst K H1 (upd H1 Wl (.lst (as1.reverse.map V.ref))) := Tst.put hW1
    have c2 := ct.st t2
    have hst2 : StkV K (upd H1 Wl (.lst (as1.reverse.map V.ref))) as1 fs := hst.upd nW1 hW1
    have hW2 : (upd H1 Wl (.lst (as1.reverse.map V.ref))) Wl = some (.lst (as1.reverse.map V.ref)) := upd_same
    generalize upd H1 Wl (.lst (as1.reverse.map V.ref)) = H2 at np g2 c2 hst2 hW2 ⊢
    have rp := (Gr.refl H2).new np (.tup (.str (wordS t) :: r0))
    have hp : SqT K (upd H2 p (.tup (.str (wordS t) :: r0))) p (.str (wordS t) :: r0) := SqT.of upd_same
    have g3 := g2.gr rp
    have sv := (c2.st rp.st).say hp
    have hst3 := hst2.gr rp
    have hW3 := rp.lstK hW2
    generalize upd H2 p (.tup (.str (wordS t) :: r0)) = H3 at rp g3 sv hst3 hW3 ⊢
    have e1 : ((a1 : Nat) : Int) + 1 = ((a1 + 1 : Nat) : Int) := by omega
    cases as1 with
    | nil =>
      refine ⟨_, rfl, false, .inl ⟨_, SqL.of hW3, rfl⟩, iteT ?_⟩
      refine ⟨_, rfl, _, rfl, szN (by show 2 ≤ 1000000; decide), fun T nT => ?_⟩
      cases hst3 with
      | nil =>
        obtain rfl : t = s0 := ch
        have rT := (Gr.refl H3).new nT (.tup [.ref p, .int (((a1 : Nat) : Int) + 1)])
        have hT : SqT K (upd H3 T (.tup [.ref p, .int (((a1 : Nat) : Int) + 1)])) T [.ref p, .int (((a1 : Nat) : Int) + 1)] := SqT.of upd_same
        generalize upd H3 T (.tup [.ref p, .int (((a1 : Nat) : Int) + 1)]) = H4 at rT hT ⊢
        have e2 : ((a1 : Nat) : Int) + 1 = (((tS t).length : Nat) : Int) := by
          have : (preT []).length = 0 := rfl
          omega
        rw [e2] at hT
        exact q T H4 (g3.gr rT) (.inl ⟨hfin, .ref p, hT, SayV.gr rT sv⟩)
    | cons B as2 =>
      rw [rev_refs] at hW3
      cases hst3 with
      | @cons _ fr _ fs2 h0 hrest =>
        obtain ⟨s, k⟩ := fr
        obtain ⟨ys, hB, pys⟩ := h0
        obtain ⟨hqs, hpk, chs⟩ := ch
        refine ⟨_, rfl, true, .inl ⟨_, SqL.of hW3, by simp⟩, iteF ?_⟩
        have lys : ys.length ≤ 2 := by
          have h1 : ys.length = ((partsS s).take k).length := paired_len pys
          rw [List.length_take] at h1
          have := parts_n s
          omega
        refine ⟨_, rfl, _, rfl, Wl, _, _, _, rfl, rfl, SqL.of hW3, atI_last _ _, .inl ⟨rfl, _, SqL.of hB⟩, _, rfl, B, _, _, rfl, rfl, hB, small1000 (by rw [List.length_cons]; omega), ?_⟩
        have nB : B ∉ as2 := by
          have := (List.nodup_cons.mp ndb).2
          exact (List.nodup_cons.mp this).1
        have nBW : Wl ≠ B := fun e => nWb (by rw [e]; exact List.mem_cons_of_mem _ List.mem_cons_self)
        have g4 : GrN (fun b => b = Wl ∨ b ∈ as) H (upd H3 B (.lst ((.str (wordS s) :: ys) ++ [.ref p]))) := g3.set (.inr (sub _ (List.mem_cons_of_mem _ List.mem_cons_self))) _
        have t4 : Tst K H3 (upd H3 B (.lst ((.str (wordS s) :: ys) ++ [.ref p]))) := Tst.put hB
        have hst4 : StkV K (upd H3 B (.lst ((.str (wordS s) :: ys) ++ [.ref p]))) as2 fs2 := StkV.upd hrest nB hB
        have hB4 : (upd H3 B (.lst ((.str (wordS s) :: ys) ++ [.ref p]))) B = some (.lst (.str (wordS s) :: (ys ++ [.ref p]))) := upd_same
        have hW4 : (upd H3 B (.lst ((.str (wordS s) :: ys) ++ [.ref p]))) Wl = some (.lst (as2.reverse.map V.ref ++ [V.ref B])) := by rw [upd_ne nBW]; exact hW3
        have pys4 : Paired (fun y x => SayV K (upd H3 B (.lst ((.str (wordS s) :: ys) ++ [.ref p]))) x y) (ys ++ [.ref p]) ((partsS s).take (k + 1)) := by
          rw [List.take_add_one, hpk]
          exact paired_snoc (Paired.mapP pys fun _ _ z => SayV.st t4 z) (SayV.st t4 sv)
        generalize upd H3 B (.lst ((.str (wordS s) :: ys) ++ [.ref p])) = H4 at g4 hst4 hB4 hW4 pys4 ⊢
        have lp : (preT ((s, k) :: fs2)).length = (preT fs2).length + (1 + ((tl (wordS s)).length + ((fl ((partsS s).take k)).length + 1))) := by
          show (preT fs2 ++ (40 :: (tl (wordS s) ++ (fl ((partsS s).take k) ++ [32])))).length = _
          simp only [List.length_append, List.length_cons, List.length_nil]
          omega
        have ltx : (tS s0).length = (preT ((s, k) :: fs2)).length + ((tS t).length + (postT ((s, k) :: fs2)).length) := by rw [htx]; simp only [List.length_append]
        have lpost : 1 ≤ (postT ((s, k) :: fs2)).length := by
          show 1 ≤ (fl ((partsS s).drop (k + 1)) ++ 41 :: postT fs2).length
          simp only [List.length_append, List.length_cons]
          omega
        have ez : z.length = (tS s0).length := by rw [el, hz]
        refine ⟨_, rfl, _, rfl, _, rfl, sz, rfl, _, rfl, iteN (fun e => by
          injection e with e
          replace e : ((a1 : Nat) : Int) + 1 = ((z.length : Nat) : Int) := e
          omega) ?_⟩
        refine ⟨(B :: as2).length, by simp, B :: as2, a1 + 1, some (.ref p), ⟨j + 1, by rw [← List.drop_drop, ← ej]; rfl⟩, rfl, by rw [← e1]; rfl, by rw [rev_refs]; exact hW4, g4, ?_⟩
        cases hnx : (partsS s)[k + 1]? with
        | some r =>
          refine .inr ⟨s, k + 1, fs2, r, .cons ⟨_, hB4, pys4⟩ hst4, ⟨hqs, hnx, chs⟩, ?_, by rw [rem_next hnx]; exact hM⟩
          show a1 + 1 + 1 = (preT fs2 ++ (40 :: (tl (wordS s) ++ (fl ((partsS s).take (k + 1)) ++ [32])))).length
          rw [fl_take hpk]
          simp only [List.length_append, List.length_cons, List.length_nil]
          omega
        | none =>
          have hk : (partsS s).length ≤ k + 1 := List.getElem?_eq_none_iff.mp hnx
          have ef : (partsS s).take (k + 1) = partsS s := List.take_of_length_le hk
          refine .inl ⟨hfin, B, as2, fs2, s, _, rfl, hB4, cnt_c hqs ⟨_, rfl, by rw [← ef]; exact pys4⟩, hst4, chs, ?_, Nat.le_trans (rem_up s k fs2) hM⟩
          have lf : (fl (partsS s)).length = (fl ((partsS s).take k)).length + (1 + (tS t).length) := by
            have h1 := congrArg List.length (fl_take hpk)
            rw [ef] at h1
            simp only [List.length_append, List.length_cons] at h1
            omega
          rw [tS_c hqs]
          simp only [List.length_append, List.length_cons, List.length_nil]
          omega
  · cases hst with
    | @cons A _ as1 _ h0 hrest =>
      obtain ⟨ys, hA, pys⟩ := h0
      obtain ⟨hqs, hpk, chs⟩ := id ch
      rw [rev_refs] at hW1
      obtain ⟨tk, ht⟩ := wP s hqs
      have lk := (List.getElem?_eq_some_iff.mp hpk).1
      have lys : ys.length = k := by
        have h1 : ys.length = ((partsS s).take k).length := paired_len pys
        rw [List.length_take] at h1
        omega
      refine ⟨_, rfl, _, rfl, Wl, _, _, _, rfl, rfl, SqL.of hW1, atI_last _ _, A, _, rfl, .inl (SqL.of hA), rfl, _, rfl, _, rfl, Wl, _, _, _, rfl, rfl, SqL.of hW1, atI_last _ _, A, _, _, .str (wordS s), rfl, rfl, SqL.of hA, atI_nat (j := 0) rfl, wordS s, some _, .int (((partsS s).length : Nat) : Int), rfl, ht, ⟨tk, rfl⟩, _, _, rfl, rfl, rfl, _, rfl, iteN (fun e => by
        injection e with e
        rw [List.length_cons] at e
        omega) ?_⟩
      have htx := ch.txt
      have i1 : atI z.cps.toList ((a1 : Nat) : Int) = some 32 := atI_mid (A := preT fs ++ (40 :: (tl (wordS s) ++ fl ((partsS s).take k)))) (C := tS r ++ postT ((s, k) :: fs)) (by rw [hz, htx]; simp [preT]) (by
        have ea2 : a1 + 1 = (preT fs ++ (40 :: (tl (wordS s) ++ (fl ((partsS s).take k) ++ [32])))).length := ea
        simp only [List.length_append, List.length_cons, List.length_nil] at ea2 ⊢
        omega)
      refine ⟨_, rfl, _, rfl, z, _, 32, rfl, rfl, sz, i1, rfl, _, rfl, iteP (congrArg V.str s32.symm) ?_⟩
      refine ⟨_, rfl, _, _, rfl, rfl, szN (by show 2 ≤ 1000000; decide), fun T nT => ?_⟩
      have rT := (Gr.refl H1).new nT (.tup [.non, .int (((a1 : Nat) : Int) + 1)])
      have hT : SqT K (upd H1 T (.tup [.non, .int (((a1 : Nat) : Int) + 1)])) T [.non, .int (((a1 : Nat) : Int) + 1)] := SqT.of upd_same
      generalize upd H1 T (.tup [.non, .int (((a1 : Nat) : Int) + 1)]) = H4 at rT hT ⊢
      have e2 : ((a1 : Nat) : Int) + 1 = (((preT ((s, k) :: fs)).length : Nat) : Int) := by omega
      rw [e2] at hT
      refine q T H4 (g1.gr rT) (.inr ⟨j, s, k, fs, r, ?_, ?_, ch, hM, hT⟩)
      · rw [← ej, rev_refs]
        exact rT.lstK hW1
      · rw [← ej]
        exact StkV.gr (.cons ⟨ys, hA, pys⟩ hrest) rT
end
end SB
namespace SB
open PySem L2 GxR GA RZ RP TL
/-- what changes were lists of ours alone -/
theorem GrN.back {N : Addr → Prop} {H H1 H2 : Hp} (g : Gr H H1) (k : GrN N H1 H2) (n : ∀ a, N a → (∃ ys, H1 a = some (.lst ys)) ∧ ∀ ys, H a ≠ some (.lst ys)) : Gr H H2 := ⟨fun b o z e => k.keep b o (fun h => by
    obtain ⟨⟨ys, e1⟩, f⟩ := n b h
    have := g.keep b o z e
    rw [e1] at this
    cases this
    exact f ys e) z (g.keep b o z e), fun P t => k.tab P (fun h => by
    obtain ⟨⟨ys, e1⟩, _⟩ := n P h
    obtain ⟨ps, e, _⟩ := g.tab P t
    rw [e1] at e
    cases e) (g.tab P t)⟩
theorem lt5000 {n : Nat} (h : n ≤ 5000) : n < sizeLine := by
  rw [sizeLine_eq]
  omega
theorem StkV.lst {K : PySem.W.Frag} {H : Hp} {as : List Addr} {fs : List (Say × Nat)} (h : StkV K H as fs) : ∀ a, a ∈ as → ∃ ys, H a = some (.lst ys) := fun a ha => by
  obtain ⟨i, hi⟩ := List.getElem?_of_mem ha
  obtain ⟨f, _, ys, e, _⟩ := paired_get h hi
  exact ⟨_, e⟩
section
variable {P : Program} {w : World} {K : PySem.W.Frag} {mg : Str → Option Value} {base : Heap}
def spSayIn (K : PySem.W.Frag) : Sp := fun vs H Q _ => ∃ (s : Say) (d : Nat), vs = [.str (sayT s)] ∧ SayB (10 ^ 9) d s ∧ 1 ≤ d ∧ d ≤ 12 ∧ depS s ≤ 12 ∧ szS s ≤ 4096 ∧ ∀ v H', Gr H H' → SayV K H' s v → v ≠ .non → Q v H'
/-- the words of a saying are read one by one -/
def SayW (K : PySem.W.Frag) (H : Hp) (z : Str) (s0 : Say) (d : Nat) (Wl Ml : Addr) (m : Nat) (σ : L2.St) (H1 : Hp) : Prop := ∃ ms : List Int, Gr H H1 ∧ H1 Ml = some (.lst (ms.map V.int)) ∧ (∀ x, x ∈ ms → x = ((d : Nat) : Int)) ∧ ms.length + m ≤ szS s0 ∧
  ((∃ (as : List Addr) (fs : List (Say × Nat)) (t : Say) (c5 : Option V), σ = [some (.str z), some (.ref Wl), some (.ref Ml), some .non, some (.int (((preT fs).length : Nat) : Int)), c5] ∧ H1 Wl = some (.lst (as.reverse.map V.ref)) ∧ as.Nodup ∧ Wl ∉ as ∧ Ml ∉ as ∧ (∀ a, a ∈ as → ∀ ys, H a ≠ some (.lst ys)) ∧ StkV K H1 as fs ∧ Ch s0 fs t ∧ m = szS t + remZ fs) ∨
    ∃ v c5, σ = [some (.str z), some (.ref Wl), some (.ref Ml), some v, some (.int (((tS s0).length : Nat) : Int)), c5] ∧ SayV K H1 s0 v ∧ ms ≠ [] ∧ m = 0)
theorem say_ref {K : PySem.W.Frag} {H : Hp} {s : Say} {v : V} (h : SayV K H s v) : v ≠ .non := by
  cases s with
  | q a ns wl => obtain ⟨p, s, rfl, _⟩ := h; exact fun e => nomatch e
  | nt s => obtain ⟨p, y, rfl, _⟩ := h; exact fun e => nomatch e
  | bo s t => obtain ⟨p, y, z, rfl, _⟩ := h; exact fun e => nomatch e
  | ei s t => obtain ⟨p, y, z, rfl, _⟩ := h; exact fun e => nomatch e
theorem sc_sayIn : FnScope ["line", "waiting", "many", "whole", "at", "opened"] ["line"] (defScope s__saying_in) := ⟨rfl, rfl, rfl, by decide +kernel, rfl, by decide +kernel, by decide +kernel⟩
theorem cl_sayIn (D : Df K mg "_saying_in" s__saying_in) (B : Blt mg) (LT : LeafT K mg) (CO : Cl P w K mg base 3 "_opened_at" ["line", "at"] (spOpen K)) (CC : Cl P w K mg base 1 "_closed" ["waiting", "line", "at"] (spClosed K)) : Cl P w K mg base 4 "_saying_in" ["line"] (spSayIn K) := by
  refine D.cl (fun _ _ _ _ _ _ us hl => match us, hl with | [_], _ => rfl) fun f fd F => F.ok sc_sayIn (fun vs H Q E h => ?_) (fun cdv A outer s H vs Q E hr h => ?_)
  · obtain ⟨s, d, rfl, _⟩ := h
    rfl
  obtain ⟨s0, d, rfl, ok, d1, d12, dp, l4, q⟩ := h
  obtain ⟨aL, mL, hLv⟩ := LT.use
  refine ⟨_, (pss_cons (ps_set (i := 1) sc_sayIn.nd rfl (.inl rfl) (pe_lst pa_nil))
    (pss_cons (ps_set (i := 2) sc_sayIn.nd rfl (.inl rfl) (pe_lst pa_nil))
    (pss_cons (ps_set (i := 3) sc_sayIn.nd rfl (.inl rfl) pe_non)
    (pss_cons (ps_set (i := 4) sc_sayIn.nd rfl (.inl rfl) pe_int)
    (pss_cons (ps_while PassesOwn.never (pt_cmp (pc_isN (pv 3))) (pss_cons (ps_asg (pe_cl CO (hr.mono (by decide)) (pa_cons (pv 0) (pa_cons (pv 4) pa_nil))) (pg_tup rfl (pgs_cons (pg_name (i := 5) sc_sayIn.nd rfl (Or.inl rfl)) (pgs_cons (pg_name (i := 4) sc_sayIn.nd rfl (Or.inl rfl)) pgs_nil))))
      (pss_cons (ps_if (pt_cmp (pc_isN (pv 5))) pss_no pss_nil)
      (pss_cons (ps_expr (pe_bm PySem.F.plainAttrs_list PySem.F.slot_list_append PySem.F.type_list_append mt_append (pv 1) (pa_cons (pv 5) pa_nil)))
      (pss_cons (ps_if (pt_cmpR op_in_seq (pe_ix ix_list (pv 5) pe_int (fun _ _ => rfl)) (pe_glob (v := .ref aL) rfl mL rfl) rfl) (pss_one (ps_expr (pe_bm PySem.F.plainAttrs_list PySem.F.slot_list_append PySem.F.type_list_append mt_append (pv 2) (pa_cons (pe_len (pe_ix ix_list (pv 5) pe_int (fun _ _ => rfl)) B.len) pa_nil)))) pss_nil)
      (pss_cons (ps_asg (pe_cl CC (hr.mono (by decide)) (pa_cons (pv 1) (pa_cons (pv 0) (pa_cons (pv 4) pa_nil)))) (pg_tup rfl (pgs_cons (pg_name (i := 3) sc_sayIn.nd rfl (Or.inl rfl)) (pgs_cons (pg_name (i := 4) sc_sayIn.nd rfl (Or.inl rfl)) pgs_nil))))
      (pss_one (ps_if (pt_cmp (pc_isN (pv 4))) pss_no pss_nil))))))))
    (pss_one (ps_ret (pe_ifExp (PW.pt (by exact (pw_and (pt_cmpR op_eq (pv 4) (pe_callB call_len_str rfl B.len PySem.boot_len (pa_cons (pv 0) pa_nil)) (nomark _)) (pw_and1 (pt_cmpR op_eq (pe_callB (cr_min rfl) rfl B.min PyProof.Rows.boot_min (pa_cons (pv 2) pa_nil)) (pe_callB (cr_max rfl) rfl B.max PyProof.Rows.boot_max (pa_cons (pv 2) pa_nil)) (nomark _)))))) (pv 3) pe_non)))))))), ?_⟩
  have lz : (sayT s0).length ≤ 5000000 := by
    have := sayT_len (k := 9) (by decide) (by decide) d12 ok
    omega
  have sz := sz15 (n := (sayT s0).length) (by omega)
  have eL : (sayT s0).length = (tS s0).length := len_tl _
  refine ⟨szL0, fun Wl nW => ?_⟩
  have r1 := (Gr.refl H).new nW (.lst [])
  have hW0 : (upd H Wl (.lst [])) Wl = some (.lst []) := upd_same
  refine ⟨szL0, fun Ml nM => ?_⟩
  have r2 := r1.new nM (.lst [])
  have hWM : Wl ≠ Ml := ne_of_none hW0 nM
  have hW1 : (upd (upd H Wl (.lst [])) Ml (.lst [])) Wl = some (.lst []) := by rw [upd_ne hWM]; exact hW0
  have hM1 : (upd (upd H Wl (.lst [])) Ml (.lst [])) Ml = some (.lst []) := upd_same
  have fW : ∀ ys, H Wl ≠ some (.lst ys) := fun ys e => by rw [nW] at e; cases e
  have fM : ∀ ys, H Ml ≠ some (.lst ys) := fun ys e => by
    have := r1.lstK e
    rw [nM] at this
    cases this
  generalize upd (upd H Wl (.lst [])) Ml (.lst []) = H0 at r2 hW1 hM1 ⊢
  refine ⟨SayW K H (sayT s0) s0 d Wl Ml, ⟨szS s0 + 0, [], r2, hM1, by simp, by simp, .inl ⟨[], [], s0, none, rfl, hW1, List.nodup_nil, by simp, by simp, by simp, .nil, rfl, rfl⟩⟩, fun m σ H1 hw => ?_⟩
  obtain ⟨ms, g1, hM, hms, lms, hS⟩ := hw
  rcases hS with ⟨as, fs, t, c5, rfl, hW, nd, nWa, nMa, fr, hst, ch, rfl⟩ | ⟨v, c5, rfl, hv, nms, rfl⟩
  · have htx := ch.txt
    have okt := ch.ok ok
    have dpt := ch.dep
    have las := hst.len
    have dpos := dep_pos t
    have szp := sz_pos t
    have hz : tl (sayT s0) = preT fs ++ (tS t ++ postT fs) := htx
    refine ⟨_, rfl, _, rfl, iteP rfl ⟨fun σ' H' => ∃ m', m' < szS t + remZ fs ∧ SayW K H (sayT s0) s0 d Wl Ml m' σ' H', fun σ' H' h => h, ?_⟩⟩
    refine ⟨_, rfl, _, rfl, sayT s0, preT fs, postT fs, t, d, rfl, hz, lz, okt, d1, d12, fun T L vs H2 g2 nL hL hO hT => ?_⟩
    refine ⟨T, _, rfl, hT, rfl, _, _, rfl, _, _, rfl, rfl, ?_⟩
    refine ⟨_, rfl, _, rfl, iteN (fun z => nomatch z) ?_⟩
    have hW2 := g2.lstK hW
    have hM2 := g2.lstK hM
    have hst2 := hst.gr g2
    have fL : ∀ ys, H L ≠ some (.lst ys) := fun ys e => nL ys (g1.lstK e)
    have nLW : L ≠ Wl := fun e => nL _ (by rw [e]; exact hW)
    have nLM : L ≠ Ml := fun e => nL _ (by rw [e]; exact hM)
    have nLa : L ∉ as := fun h => by
      obtain ⟨i, hi⟩ := List.getElem?_of_mem h
      obtain ⟨f, _, ys, e, _⟩ := paired_get hst hi
      exact nL _ e
    have g02 := g1.trans g2
    refine ⟨_, rfl, .inl ⟨rfl, _, SqL.of hW2⟩, _, rfl, Wl, _, _, rfl, rfl, hW2, small1000 (by rw [List.length_map, List.length_reverse]; omega), ?_⟩
    have g3 : GrN (fun b => b = Wl) H2 (upd H2 Wl (.lst (as.reverse.map V.ref ++ [V.ref L]))) := GrN.set (N := fun b => b = Wl) (GrN.refl _ H2) rfl _
    have t3 : Tst K H2 (upd H2 Wl (.lst (as.reverse.map V.ref ++ [V.ref L]))) := Tst.put hW2
    have g03 : Gr H (upd H2 Wl (.lst (as.reverse.map V.ref ++ [V.ref L]))) := GrN.back g02 g3 fun a ha => by rw [ha]; exact ⟨⟨_, hW2⟩, fW⟩
    have hst3 : StkV K (upd H2 Wl (.lst (as.reverse.map V.ref ++ [V.ref L]))) as fs := hst2.upd nWa hW2
    have hL3 : (upd H2 Wl (.lst (as.reverse.map V.ref ++ [V.ref L]))) L = some (.lst vs) := by rw [upd_ne nLW]; exact hL
    have hM3 : (upd H2 Wl (.lst (as.reverse.map V.ref ++ [V.ref L]))) Ml = some (.lst (ms.map V.int)) := by rw [upd_ne hWM.symm]; exact hM2
    have hW3 : (upd H2 Wl (.lst (as.reverse.map V.ref ++ [V.ref L]))) Wl = some (.lst ((L :: as).reverse.map V.ref)) := by rw [rev_refs]; exact upd_same
    have ndL : (L :: as).Nodup := List.nodup_cons.mpr ⟨nLa, nd⟩
    have nWL : Wl ∉ L :: as := fun h => by
      rcases List.mem_cons.mp h with h | h
      · exact nLW h.symm
      · exact nWa h
    have nML : Ml ∉ L :: as := fun h => by
      rcases List.mem_cons.mp h with h | h
      · exact nLM h.symm
      · exact nMa h
    have frL : ∀ a, a ∈ L :: as → ∀ ys, H a ≠ some (.lst ys) := fun a h => by
      rcases List.mem_cons.mp h with rfl | h
      · exact fL
      · exact fr a h
    have lL : (L :: as).length ≤ 100 := by
      rw [List.length_cons]
      omega
    have hin := in_word t
    -- what a call of _closed leaves
    have done : ∀ (ms' : List Int) (M : Nat) (fin : Prop) (H4 H5 : Hp) (T2 : Addr), Gr H H4 → H4 Wl = some (.lst ((L :: as).reverse.map V.ref)) → H4 Ml = some (.lst (ms'.map V.int)) → (∀ a, a ∈ L :: as → ∃ ys, H4 a = some (.lst ys)) → (∀ x, x ∈ ms' → x = ((d : Nat) : Int)) → (fin → ms' ≠ []) → M < szS t + remZ fs → ms'.length + M ≤ szS s0 → GrN (fun b => b = Wl ∨ b ∈ L :: as) H4 H5 →
        ((fin ∧ ∃ v, SqT K H5 T2 [v, .int (((tS s0).length : Nat) : Int)] ∧ SayV K H5 s0 v) ∨
          ∃ j s k fs r, H5 Wl = some (.lst (((L :: as).drop j).reverse.map V.ref)) ∧ StkV K H5 ((L :: as).drop j) ((s, k) :: fs) ∧ Ch s0 ((s, k) :: fs) r ∧ szS r + remZ ((s, k) :: fs) ≤ M ∧ SqT K H5 T2 [.non, .int (((preT ((s, k) :: fs)).length : Nat) : Int)]) →
        ∃ (x : V) (n : Nat), SqT K H5 T2 [x, .int ((n : Nat) : Int)] ∧ ∀ c5, ∃ m', m' < szS t + remZ fs ∧ SayW K H (sayT s0) s0 d Wl Ml m' [some (.str (sayT s0)), some (.ref Wl), some (.ref Ml), some x, some (.int ((n : Nat) : Int)), c5] H5 := by
      intro ms' M fin H4 H5 T2 g4 hW4 hM4 hl4 hms' hfin hMlt hMs k5 alt
      have g5 : Gr H H5 := GrN.back g4 k5 fun a ha => by
        rcases ha with rfl | ha
        · exact ⟨⟨_, hW4⟩, fW⟩
        · exact ⟨hl4 a ha, frL a ha⟩
      have hM5 : H5 Ml = some (.lst (ms'.map V.int)) := k5.keep _ _ (fun h => by
        rcases h with h | h
        · exact hWM h.symm
        · exact nML h) (fun _ z => nomatch z) hM4
      rcases alt with ⟨hf, v, hT2, hv⟩ | ⟨j, s, k, fs', r, hW5, hst5, ch5, hm5, hT2⟩
      · exact ⟨v, _, hT2, fun c5 => ⟨0, by omega, ms', g5, hM5, hms', by omega, .inr ⟨v, c5, rfl, hv, hfin hf, rfl⟩⟩⟩
      · exact ⟨.non, _, hT2, fun c5 => ⟨szS r + remZ ((s, k) :: fs'), by omega, ms', g5, hM5, hms', by omega, .inl ⟨(L :: as).drop j, _, r, c5, rfl, hW5, ndL.sublist (List.drop_sublist _ _), fun h => nWL (List.mem_of_mem_drop h), fun h => nML (List.mem_of_mem_drop h), fun a h => frL a (List.mem_of_mem_drop h), hst5, ch5, rfl⟩⟩⟩
    generalize upd H2 Wl (.lst (as.reverse.map V.ref ++ [V.ref L])) = H3 at g3 t3 g03 hst3 hL3 hM3 hW3 ⊢
    cases hq : isQ t with
    | true =>
      rw [hq] at hin
      cases t with
      | q a ns wl =>
        obtain ⟨sv, rfl, hs2⟩ := hO
        obtain ⟨b, rfl, hb⟩ := hs2.st t3
        obtain ⟨_, _, ln, _, _⟩ := okt
        refine ⟨_, rfl, L, _, _, .str (wordA a), rfl, rfl, SqL.of hL3, atI_nat (j := 0) rfl, aL, _, rfl, .inr (hLv _), rfl, rfl, _, rfl, ?_⟩
        rw [show (if false = true then !inV (.str (wordA a)) [.str "less", .str "is", .str "more"] else inV (.str (wordA a)) [.str "less", .str "is", .str "more"]) = true from hin]
        refine iteT ?_
        refine ⟨_, rfl, .inl ⟨rfl, _, SqL.of hM3⟩, _, rfl, L, _, _, .ref b, rfl, rfl, SqL.of hL3, atI_nat (j := 1) rfl, b, _, rfl, .inr hb, Ml, _, _, rfl, rfl, hM3, lt5000 (by rw [List.length_map]; omega), ?_⟩
        have e : ms.map V.int ++ [V.int (((ns.map V.int).length : Nat) : Int)] = (ms ++ [((d : Nat) : Int)]).map V.int := by
          rw [List.map_append, List.length_map, ln]
          rfl
        rw [e]
        have k4 : GrN (fun b => b = Ml) H3 (upd H3 Ml (.lst ((ms ++ [((d : Nat) : Int)]).map V.int))) := GrN.set (N := fun b => b = Ml) (GrN.refl _ H3) rfl _
        have t4 : Tst K H3 (upd H3 Ml (.lst ((ms ++ [((d : Nat) : Int)]).map V.int))) := Tst.put hM3
        have g04 : Gr H (upd H3 Ml (.lst ((ms ++ [((d : Nat) : Int)]).map V.int))) := GrN.back g03 k4 fun a ha => by rw [ha]; exact ⟨⟨_, hM3⟩, fM⟩
        have hst4 : StkV K (upd H3 Ml (.lst ((ms ++ [((d : Nat) : Int)]).map V.int))) as fs := hst3.upd nMa hM3
        have hL4 : (upd H3 Ml (.lst ((ms ++ [((d : Nat) : Int)]).map V.int))) L = some (.lst [.str (wordA a), .ref b, .int wl]) := by rw [upd_ne nLM]; exact hL3
        have hW4 : (upd H3 Ml (.lst ((ms ++ [((d : Nat) : Int)]).map V.int))) Wl = some (.lst ((L :: as).reverse.map V.ref)) := by rw [upd_ne hWM]; exact hW3
        have hM4 : (upd H3 Ml (.lst ((ms ++ [((d : Nat) : Int)]).map V.int))) Ml = some (.lst ((ms ++ [((d : Nat) : Int)]).map V.int)) := upd_same
        have hb4 := t4 _ _ hb
        generalize upd H3 Ml (.lst ((ms ++ [((d : Nat) : Int)]).map V.int)) = H4 at g04 hst4 hL4 hW4 hM4 hb4 ⊢
        have lq : 1 ≤ (tS (.q a ns wl)).length := by
          rw [tS_q]
          simp
        have eo : opened (.q a ns wl) = (tS (.q a ns wl)).length - 1 := rfl
        have es : szS (.q a ns wl) = 1 := rfl
        refine ⟨_, rfl, _, rfl, _, rfl, Wl, sayT s0, (preT fs).length + opened (.q a ns wl), remZ fs, L :: as, s0, True, rfl, rfl, lz, hW4, ndL, nWL, lL, .inl ⟨trivial, L, as, fs, .q a ns wl, _, rfl, hL4, ⟨.ref b, rfl, b, rfl, hb4⟩, hst4, ch, by omega, Nat.le_refl _⟩, fun T2 H5 k5 alt => ?_⟩
        obtain ⟨x, n, hT2, fin⟩ := done (ms ++ [((d : Nat) : Int)]) (remZ fs) True H4 H5 T2 g04 hW4 hM4 (fun a ha => by
          rcases List.mem_cons.mp ha with rfl | ha
          · exact ⟨_, hL4⟩
          · exact hst4.lst a ha) (fun x hx => by
          rcases List.mem_append.mp hx with hx | hx
          · exact hms x hx
          · exact List.mem_singleton.mp hx) (fun _ => by simp) (by omega) (by rw [List.length_append]; show ms.length + 1 + _ ≤ _; omega) k5 alt
        refine ⟨T2, _, rfl, hT2, rfl, _, _, rfl, _, _, rfl, rfl, ?_⟩
        exact ⟨_, rfl, _, rfl, iteN (fun z => nomatch z) (fin _)⟩
      | nt s => cases hq
      | bo s u => cases hq
      | ei s u => cases hq
    | false =>
      rw [hq] at hin
      obtain ⟨p, hp⟩ := parts_ne hq
      have hvs : vs = [.str (wordS t)] := by
        cases t with
        | q => cases hq
        | nt s => exact hO
        | bo s u => exact hO
        | ei s u => exact hO
      have eo : opened t = 1 + (tl (wordS t)).length := by
        cases t with
        | q => cases hq
        | nt s => rfl
        | bo s u => rfl
        | ei s u => rfl
      subst hvs
      have ro := rem_open hq hp fs
      refine ⟨_, rfl, L, _, _, .str (wordS t), rfl, rfl, SqL.of hL3, atI_nat (j := 0) rfl, aL, _, rfl, .inr (hLv _), rfl, rfl, _, rfl, ?_⟩
      rw [show (if false = true then !inV (.str (wordS t)) [.str "less", .str "is", .str "more"] else inV (.str (wordS t)) [.str "less", .str "is", .str "more"]) = false from hin]
      refine iteF ?_
      have lp : (preT ((t, 0) :: fs)).length = (preT fs).length + (1 + ((tl (wordS t)).length + 1)) := by
        show (preT fs ++ (40 :: (tl (wordS t) ++ (fl ((partsS t).take 0) ++ [32])))).length = _
        rw [List.take_zero]
        show (preT fs ++ (40 :: (tl (wordS t) ++ [32]))).length = _
        simp only [List.length_append, List.length_cons, List.length_nil]
        omega
      refine ⟨_, rfl, _, rfl, _, rfl, Wl, sayT s0, (preT fs).length + opened t, szS p + remZ ((t, 0) :: fs), L :: as, s0, False, rfl, rfl, lz, hW3, ndL, nWL, lL, .inr ⟨t, 0, fs, p, .cons ⟨[], hL3, by rw [List.take_zero]; exact .nil⟩ hst3, ⟨hq, hp, ch⟩, by omega, Nat.le_refl _⟩, fun T2 H5 k5 alt => ?_⟩
      obtain ⟨x, n, hT2, fin⟩ := done ms (szS p + remZ ((t, 0) :: fs)) False H3 H5 T2 g03 hW3 hM3 (fun a ha => by
        rcases List.mem_cons.mp ha with rfl | ha
        · exact ⟨_, hL3⟩
        · exact hst3.lst a ha) hms (fun h => h.elim) (by omega) (by omega) k5 alt
      refine ⟨T2, _, rfl, hT2, rfl, _, _, rfl, _, _, rfl, rfl, ?_⟩
      exact ⟨_, rfl, _, rfl, iteN (fun z => nomatch z) (fin _)⟩
  · refine ⟨_, rfl, _, rfl, iteN (say_ref hv) ?_⟩
    refine ⟨_, rfl, _, rfl, _, rfl, sz, rfl, _, rfl, iteP (by rw [eL]) ?_⟩
    refine ⟨_, rfl, Ml, ms, rfl, SqL.of hM, List.length_pos_iff.mpr nms, fun a ha _ => ⟨_, rfl, Ml, ms, rfl, SqL.of hM, List.length_pos_iff.mpr nms, fun b hb _ => ⟨rfl, _, rfl, iteP (by rw [hms a ha, hms b hb]) ?_⟩⟩⟩
    exact ⟨_, rfl, q v H1 g1 hv (say_ref hv)⟩
end
end SB
namespace SB
open PySem L2 GxR GA RZ RP TL
theorem SayB.mono {N M d : Nat} (h : N ≤ M) : ∀ {s : Say}, SayB N d s → SayB M d s
  | .q a ns wl, ⟨a0, a1, l, z, w⟩ => ⟨a0, a1, l, fun x hx => Nat.lt_of_lt_of_le (z x hx) h, Nat.lt_of_lt_of_le w h⟩
  | .nt s, k => SayB.mono h (s := s) k
  | .bo s t, k => ⟨SayB.mono h k.1, SayB.mono h k.2⟩
  | .ei s t, k => ⟨SayB.mono h k.1, SayB.mono h k.2⟩
theorem sayT_free : ∀ s : Say, 10 ∉ tl (sayT s)
  | .q a ns wl => by
    show 10 ∉ tS (.q a ns wl)
    rw [tS_q]
    have h1 := wordA_free (c := 10) (by decide) a
    have h2 := sidesT_free (s := 10) (by omega) (by decide) ns
    have h3 := iT_free (s := 10) (by omega) wl
    simp [h1, h2, h3]
  | .nt s => app_free (app_free (by decide +kernel) (join_free (by decide +kernel) fun p hp => by
      rcases List.mem_cons.mp hp with rfl | hp
      · decide +kernel
      · rw [List.mem_singleton.mp hp]
        exact sayT_free s)) (by decide +kernel)
  | .bo s t => app_free (app_free (by decide +kernel) (join_free (by decide +kernel) fun p hp => by
      rcases List.mem_cons.mp hp with rfl | hp
      · decide +kernel
      · rcases List.mem_cons.mp hp with rfl | hp
        · exact sayT_free s
        · rw [List.mem_singleton.mp hp]
          exact sayT_free t)) (by decide +kernel)
  | .ei s t => app_free (app_free (by decide +kernel) (join_free (by decide +kernel) fun p hp => by
      rcases List.mem_cons.mp hp with rfl | hp
      · decide +kernel
      · rcases List.mem_cons.mp hp with rfl | hp
        · exact sayT_free s
        · rw [List.mem_singleton.mp hp]
          exact sayT_free t)) (by decide +kernel)
/-! ### the same things are alike -/
section
variable {K : PySem.W.Frag} {H : Hp}
theorem alike_up : ∀ {n : Nat} {x y : V}, Alike K H n x y → Alike K H (n + 1) x y
  | 0, _, _, h => h.elim
  | n + 1, x, y, h => by
    rcases h with h | ⟨a, b, xs, ys, e1, e2, l, s, p⟩
    · exact .inl h
    · exact .inr ⟨a, b, xs, ys, e1, e2, l, s, Paired.mapP p fun _ _ q => alike_up q⟩
theorem alike_to {n m : Nat} {x y : V} (h : Alike K H n x y) (l : n ≤ m) : Alike K H m x y := by
  induction l with
  | refl => exact h
  | step _ ih => exact alike_up ih
theorem alike_sc {x : V} (n : Nat) (h : scB x = true) : Alike K H (n + 1) x x := .inl ⟨rfl, h⟩
theorem alike_ints (n : Nat) : ∀ ns : List Int, Paired (Alike K H (n + 1)) (ns.map V.int) (ns.map V.int)
  | [] => .nil
  | i :: r => .cons (alike_sc n rfl) (alike_ints n r)
theorem alike_hopes (n : Nat) : ∀ hs : List (Option Int), Paired (Alike K H (n + 1)) (hs.map hopeV) (hs.map hopeV)
  | [] => .nil
  | none :: r => .cons (alike_sc n rfl) (alike_hopes n r)
  | some i :: r => .cons (alike_sc n rfl) (alike_hopes n r)
theorem alike_tup {n : Nat} {a b : Addr} {xs ys : List V} (ha : SqT K H a xs) (hb : SqT K H b ys) (l : ys.length ≤ 1000000) (p : Paired (Alike K H n) xs ys) : Alike K H (n + 1) (.ref a) (.ref b) := .inr ⟨a, b, xs, ys, rfl, rfl, szN l, .inl ⟨ha, hb⟩, p⟩
theorem alike_si {x y : V} {ns : List Int} (n : Nat) (l : ns.length ≤ 1000) (h : SiV K H x ns) (k : SiV K H y ns) : Alike K H (n + 2) x y := by
  obtain ⟨a, rfl, ha⟩ := h
  obtain ⟨b, rfl, hb⟩ := k
  exact alike_tup ha hb (by rw [List.length_map]; omega) (alike_ints n ns)
theorem alike_nu {x y : V} {r : Int × Int} (n : Nat) (h : NuV K H x r) (k : NuV K H y r) : Alike K H (n + 2) x y := by
  obtain ⟨a, rfl, ha⟩ := h
  obtain ⟨b, rfl, hb⟩ := k
  exact alike_tup ha hb (by show 2 ≤ _; decide) (.cons (alike_sc n rfl) (.cons (alike_sc n rfl) .nil))
theorem alike_qu {x y : V} {q : List Int × Int} (n : Nat) (l : q.1.length ≤ 1000) (h : QuV K H x q) (k : QuV K H y q) : Alike K H (n + 3) x y := by
  obtain ⟨a, s, rfl, ha, hs⟩ := h
  obtain ⟨b, t, rfl, hb, ht⟩ := k
  exact alike_tup ha hb (by show 2 ≤ _; decide) (.cons (alike_si n l hs ht) (.cons (alike_sc (n + 1) rfl) .nil))
theorem alike_all {α : Type} {F : V → α → Prop} {n : Nat} : ∀ {xs ys : List V} {qs : List α}, Paired F xs qs → Paired F ys qs → (∀ x y q, q ∈ qs → F x q → F y q → Alike K H n x y) → Paired (Alike K H n) xs ys
  | _, _, _, .nil, .nil, _ => .nil
  | _, _, _, .cons h t, .cons h' t', f => .cons (f _ _ _ List.mem_cons_self h h') (alike_all t t' fun x y q hq => f x y q (List.mem_cons_of_mem _ hq))
theorem alike_say {N d : Nat} (d12 : d ≤ 12) : ∀ {s : Say} {x y : V}, SayB N d s → SayV K H s x → SayV K H s y → Alike K H (depS s + 2) x y
  | .q a ns wl, x, y, ok, ⟨p, s, e, h1, h2⟩, ⟨p', s', e', h1', h2'⟩ => by
    subst e e'
    have ln := ok.2.2.1
    exact alike_tup h1 h1' (by show 3 ≤ _; decide) (.cons (alike_sc 1 rfl) (.cons (alike_si 0 (by omega) h2 h2') (.cons (alike_sc 1 rfl) .nil)))
  | .nt s, x, y, ok, ⟨p, z, e, h1, h2⟩, ⟨p', z', e', h1', h2'⟩ => by
    subst e e'
    exact alike_tup h1 h1' (by show 2 ≤ _; decide) (.cons (alike_sc (depS s + 1) rfl) (.cons (alike_say d12 (s := s) ok h2 h2') .nil))
  | .bo s t, x, y, ok, ⟨p, z, u, e, h1, h2, h3⟩, ⟨p', z', u', e', h1', h2', h3'⟩ => by
    subst e e'
    have a := alike_to (alike_say d12 (s := s) ok.1 h2 h2') (m := max (depS s) (depS t) + 2) (by omega)
    have b := alike_to (alike_say d12 (s := t) ok.2 h3 h3') (m := max (depS s) (depS t) + 2) (by omega)
    exact alike_tup (n := max (depS s) (depS t) + 2) h1 h1' (by show 3 ≤ _; decide) (.cons (alike_sc _ rfl) (.cons a (.cons b .nil)))
  | .ei s t, x, y, ok, ⟨p, z, u, e, h1, h2, h3⟩, ⟨p', z', u', e', h1', h2', h3'⟩ => by
    subst e e'
    have a := alike_to (alike_say d12 (s := s) ok.1 h2 h2') (m := max (depS s) (depS t) + 2) (by omega)
    have b := alike_to (alike_say d12 (s := t) ok.2 h3 h3') (m := max (depS s) (depS t) + 2) (by omega)
    exact alike_tup (n := max (depS s) (depS t) + 2) h1 h1' (by show 3 ≤ _; decide) (.cons (alike_sc _ rfl) (.cons a (.cons b .nil)))
theorem alike_th {m : Nat} : ∀ {t : Th} {x y : V}, ThOk m t → ThVal K H t x → ThVal K H t y → Alike K H 15 x y
  | .num r, _, _, _, h, k => alike_nu 13 h k
  | .pt rs, x, y, ok, ⟨a, xs, e, ha, hp⟩, ⟨b, ys, e', hb, hp'⟩ => by
    subst e e'
    have l := ok.2.1
    exact alike_tup ha hb (by rw [paired_len hp']; omega) (alike_all hp hp' fun x y q _ h k => alike_nu 12 h k)
  | .row hs, x, y, ok, ⟨a, e, ha⟩, ⟨b, e', hb⟩ => by
    subst e e'
    have l := ok.1
    exact alike_tup ha hb (by rw [List.length_map]; omega) (alike_hopes 13 hs)
  | .wish hs, x, y, ok, ⟨a, e, ha⟩, ⟨b, e', hb⟩ => by
    subst e e'
    have l := ok.1
    exact alike_tup ha hb (by rw [List.length_map]; omega) (alike_hopes 13 hs)
  | .book d qs, x, y, ok, ⟨a, b, xs, e, ha, hb, hp⟩, ⟨a', b', xs', e', ha', hb', hp'⟩ => by
    subst e e'
    have l := ok.2.2.1
    refine alike_tup ha ha' (by show 2 ≤ _; decide) (.cons (alike_sc 13 rfl) (.cons (alike_tup hb hb' (by rw [paired_len hp']; omega) (alike_all hp hp' fun x y q hq h k => ?_)) .nil))
    have := (ok.2.2.2.2 q hq).2.1
    have := ok.2.1
    exact alike_qu 10 (by omega) h k
  | .say d s, x, y, ok, h, k => by
    have := ok.2.2.2.2.1
    exact alike_to (alike_say ok.2.1 ok.2.2.2.1 h k) (by omega)
  | .qu q, x, y, ok, h, k => alike_qu 12 (by have := ok.2.1; omega) h k
end
section
variable {P : Program} {w : World} {K : PySem.W.Frag} {mg : Str → Option Value} {base : Heap}
theorem sc_rdSay : FnScope ["text"] ["text"] (defScope s_read_saying) := ⟨rfl, rfl, rfl, by decide +kernel, rfl, by decide +kernel, by decide +kernel⟩
theorem cl_rdSay {T : Nat → Addr} (D : Df K mg "read_saying" s_read_saying) (DA : Df K mg "_read_alone" s__read_alone) (B : Blt mg) (CL : Cl P w K mg base 1 "_lines_of" ["text"] (spLines K)) (C : Cl P w K mg base 4 "_saying_in" ["line"] (spSayIn K)) : Cl P w K mg base 6 "read_saying" ["text"] (spRd K T 5) := by
  obtain ⟨fa, ma, CA⟩ := cl_alone (by decide) DA B CL C
  refine D.cl (fun _ _ _ _ _ _ us hl => match us, hl with | [_], _ => rfl) fun f fd F => F.ok sc_rdSay (fun vs H Q E h => ?_) (fun cdv A outer s H vs Q E hr h => ?_)
  · obtain ⟨t, m, rfl, _⟩ := h
    rfl
  obtain ⟨t, m, rfl, tb, ok, m1, m9, td, q⟩ := h
  refine ⟨_, (pss_one (ps_ret (pe_cl CA (hr.mono (by decide)) (pa_cons (pv 0) (pa_cons (pe_glob (v := .ref fa) rfl ma rfl) pa_nil))))), ?_⟩
  cases t with
  | say d s =>
    obtain ⟨d1, d12, _, okb, dp, l⟩ := ok
    have p12 : 2 ^ 12 = 4096 := by decide
    have ok9 := SayB.mono (Nat.pow_le_pow_right (by decide) m9 : 10 ^ m ≤ 10 ^ 9) okb
    refine ⟨_, rfl, sayT s, rfl, sayT_free s, ?_, fun H1 Kc g1 kc => ⟨s, d, rfl, ok9, d1, d12, dp, by omega, fun v H2 g2 hv nv => kc v H2 g2 nv (q v H2 (g1.trans g2) hv)⟩⟩
    have := sayT_len (k := 9) (by decide) (by decide) d12 ok9
    omega
  | _ => cases td
def spLRd (K : PySem.W.Frag) (T : Nat → Addr) : Sp := fun vs H Q _ => ∃ t m nm, vs = [.int ((ThD t : Nat) : Int), .str (ThT t), .bl nm] ∧ Tb5 T H ∧ ThOk m t ∧ 1 ≤ m ∧ m ≤ 9 ∧ ThD t ≤ 5 ∧ ∀ v H', Gr H H' → ThVal K H' t v → Q v H'
theorem sc_lRd : FnScope ["door", "said", "named"] ["door", "said", "named"] (defScope s__law_read) := ⟨rfl, rfl, rfl, by decide +kernel, rfl, by decide +kernel, by decide +kernel⟩
theorem cl_lRd {T : Nat → Addr} (D : Df K mg "_law_read" s__law_read) (C0 : Cl P w K mg base 4 "read_number" ["text"] (spRd K T 0)) (C1 : Cl P w K mg base 5 "read_point" ["text"] (spRd K T 1)) (C2 : Cl P w K mg base 5 "read_row" ["text"] (spRd K T 2)) (C3 : Cl P w K mg base 4 "read_wish" ["text"] (spRd K T 3)) (C4 : Cl P w K mg base 38 "read_book" ["text"] (spRd K T 4)) (C5 : Cl P w K mg base 6 "read_saying" ["text"] (spRd K T 5))
    (K0 : ClK P w K mg base 4 "read_number" ["text"] ["text"] gR1 gR1 (spRd K T 0)) (K1 : ClK P w K mg base 5 "read_point" ["text"] ["text"] gR1 gR1 (spRd K T 1)) (K2 : ClK P w K mg base 5 "read_row" ["text"] ["text"] gR1 gR1 (spRd K T 2)) (K3 : ClK P w K mg base 4 "read_wish" ["text"] ["text"] gR1 gR1 (spRd K T 3)) (K4 : ClK P w K mg base 38 "read_book" ["text"] ["text"] gR1 gR1 (spRd K T 4)) (K5 : ClK P w K mg base 6 "read_saying" ["text"] ["text"] gR1 gR1 (spRd K T 5)) :
    Cl P w K mg base 39 "_law_read" ["door", "said", "named"] (spLRd K T) := by
  refine D.cl (fun _ _ _ _ _ _ us hl => match us, hl with | [_, _, _], _ => rfl) fun f fd F => F.ok sc_lRd (fun vs H Q E h => ?_) (fun cdv A outer s H vs Q E hr h => ?_)
  · obtain ⟨t, m, nm, rfl, _⟩ := h
    rfl
  obtain ⟨t, m, nm, rfl, tb, ok, m1, m9, t5, q⟩ := h
  refine ⟨_, (pss_cons (ps_if (pt_cmpR op_eq (pv 0) pe_int (nomark _)) (pss_one (ps_ret (pe_ifExp (pt_val (pv 2)) (pe_clK K0 (hr.mono (by decide)) (pk_cons (pv 1) pk_nil)) (pe_cl C0 (hr.mono (by decide)) (pa_cons (pv 1) pa_nil))))) pss_nil)
    (pss_cons (ps_if (pt_cmpR op_eq (pv 0) pe_int (nomark _)) (pss_one (ps_ret (pe_ifExp (pt_val (pv 2)) (pe_clK K1 (hr.mono (by decide)) (pk_cons (pv 1) pk_nil)) (pe_cl C1 (hr.mono (by decide)) (pa_cons (pv 1) pa_nil))))) pss_nil)
    (pss_cons (ps_if (pt_cmpR op_eq (pv 0) pe_int (nomark _)) (pss_one (ps_ret (pe_ifExp (pt_val (pv 2)) (pe_clK K2 (hr.mono (by decide)) (pk_cons (pv 1) pk_nil)) (pe_cl C2 (hr.mono (by decide)) (pa_cons (pv 1) pa_nil))))) pss_nil)
    (pss_cons (ps_if (pt_cmpR op_eq (pv 0) pe_int (nomark _)) (pss_one (ps_ret (pe_ifExp (pt_val (pv 2)) (pe_clK K3 (hr.mono (by decide)) (pk_cons (pv 1) pk_nil)) (pe_cl C3 (hr.mono (by decide)) (pa_cons (pv 1) pa_nil))))) pss_nil)
    (pss_cons (ps_if (pt_cmpR op_eq (pv 0) pe_int (nomark _)) (pss_one (ps_ret (pe_ifExp (pt_val (pv 2)) (pe_clK K4 (hr.mono (by decide)) (pk_cons (pv 1) pk_nil)) (pe_cl C4 (hr.mono (by decide)) (pa_cons (pv 1) pa_nil))))) pss_nil)
    (pss_one (ps_ret (pe_ifExp (pt_val (pv 2)) (pe_clK K5 (hr.mono (by decide)) (pk_cons (pv 1) pk_nil)) (pe_cl C5 (hr.mono (by decide)) (pa_cons (pv 1) pa_nil)))))))))), ?_⟩
  have sp : ∀ k, ThD t = k → spRd K T k [.str (ThT t)] H Q E0 := fun k e => ⟨t, m, rfl, tb, ok, m1, m9, e, q⟩
  have ss : ∀ k, ThD t = k → (if nm = true then (∃ x, some (some (V.str (ThT t))) = some (some x) ∧ spRd K T k [x] H Q E0) else ∃ x, some (some (V.str (ThT t))) = some (some x) ∧ spRd K T k [x] H Q E0) := fun k e => by
    cases nm with
    | true => exact iteT ⟨_, rfl, sp k e⟩
    | false => exact iteF ⟨_, rfl, sp k e⟩
  have nx : ∀ k : Nat, ThD t ≠ k → ¬ V.int ((ThD t : Nat) : Int) = V.int ((k : Nat) : Int) := fun k h => neI (by omega)
  by_cases c0 : ThD t = 0
  · refine ⟨_, rfl, rfl, _, rfl, iteP (by rw [c0]; rfl) ⟨_, rfl, _, rfl, ss 0 c0⟩⟩
  refine ⟨_, rfl, rfl, _, rfl, iteN (nx 0 c0) ?_⟩
  by_cases c1 : ThD t = 1
  · refine ⟨_, rfl, rfl, _, rfl, iteP (by rw [c1]; rfl) ⟨_, rfl, _, rfl, ss 1 c1⟩⟩
  refine ⟨_, rfl, rfl, _, rfl, iteN (nx 1 c1) ?_⟩
  by_cases c2 : ThD t = 2
  · refine ⟨_, rfl, rfl, _, rfl, iteP (by rw [c2]; rfl) ⟨_, rfl, _, rfl, ss 2 c2⟩⟩
  refine ⟨_, rfl, rfl, _, rfl, iteN (nx 2 c2) ?_⟩
  by_cases c3 : ThD t = 3
  · refine ⟨_, rfl, rfl, _, rfl, iteP (by rw [c3]; rfl) ⟨_, rfl, _, rfl, ss 3 c3⟩⟩
  refine ⟨_, rfl, rfl, _, rfl, iteN (nx 3 c3) ?_⟩
  by_cases c4 : ThD t = 4
  · refine ⟨_, rfl, rfl, _, rfl, iteP (by rw [c4]; rfl) ⟨_, rfl, _, rfl, ss 4 c4⟩⟩
  refine ⟨_, rfl, rfl, _, rfl, iteN (nx 4 c4) ?_⟩
  exact ⟨_, rfl, _, rfl, ss 5 (by omega)⟩
end
end SB
namespace SB
open PySem L2 GxR GA RZ RP TL
/-- a row of what was asked: a door, a thing, its text -/
def RowR (K : PySem.W.Frag) (H : Hp) (v : V) : Prop := ∃ T x t m, v = .ref T ∧ SqT K H T [.int ((ThD t : Nat) : Int), x, .str (ThT t)] ∧ ThVal K H t x ∧ ThOk m t ∧ 1 ≤ m ∧ m ≤ 9 ∧ ThD t ≤ 5
theorem RowR.st {K : PySem.W.Frag} {H H' : Hp} {v : V} (t : Tst K H H') (h : RowR K H v) : RowR K H' v :=
  let ⟨T, x, th, m, e, a, b, c⟩ := h; ⟨T, x, th, m, e, t _ _ a, ThVal.st t b, c⟩
structure InX (K : PySem.W.Frag) (T : Nat → Addr) (l : Addr) (xs : List V) (Rl : Addr) (N : Addr → Prop) (n : Nat) (H : Hp) : Prop where
  rl : ∃ rs, H Rl = some (.lst rs) ∧ rs.length = n ∧ ∀ v, v ∈ rs → RowR K H v
  ls : LsV K N H l xs
  tb : Tb5 T H
section
variable {K : PySem.W.Frag} {T : Nat → Addr} {l Rl : Addr} {xs : List V} {N : Addr → Prop} {n : Nat} {H H' : Hp}
theorem InX.gr (s : InX K T l xs Rl N n H) (g : Gr H H') : InX K T l xs Rl N n H' := by
  obtain ⟨rs, a, b, c⟩ := s.rl
  exact ⟨⟨rs, g.lstK a, b, fun v h => RowR.st g.st (c v h)⟩, s.ls.gr g, s.tb.gr g⟩
theorem InX.grd {dk : Addr} {m : Nat} (s : InX K T l xs Rl N n H) (g : GrD dk H H') (sk : Stk dk m H) (nd : ∀ b, N b → b ≠ dk) (nr : Rl ≠ dk) : InX K T l xs Rl N n H' := by
  obtain ⟨rs, a, b, c⟩ := s.rl
  obtain ⟨_, _, _, hd, _⟩ := id sk
  exact ⟨⟨rs, GrDL.lst g nr a, b, fun v h => RowR.st (g.sk sk) (c v h)⟩, s.ls.grd g nd, s.tb.lgr hd g⟩
theorem InX.avoid {p : Addr} (s : InX K T l xs Rl N n H) (np : H p = none) : InX K T l xs Rl (fun b => N b ∧ b ≠ p) n H := ⟨s.rl, s.ls.avoid np, s.tb⟩
theorem InX.less {M : Addr → Prop} (s : InX K T l xs Rl N n H) (k : ∀ b, N b → M b) : InX K T l xs Rl M n H := ⟨s.rl, s.ls.less k, s.tb⟩
theorem InX.put {v : V} (s : InX K T l xs Rl N n H) (k : ∀ b, N b → b ≠ Rl) (r : RowR K H v) : ∃ acc, H Rl = some (.lst acc) ∧ acc.length = n ∧ InX K T l xs Rl N (n + 1) (upd H Rl (.lst (acc ++ [v]))) := by
  obtain ⟨rs, a, b, c⟩ := s.rl
  have g : GrD Rl H (upd H Rl (.lst (rs ++ [v]))) := (GrD.refl Rl H).set _
  have t : Tst K H (upd H Rl (.lst (rs ++ [v]))) := Tst.put a
  refine ⟨rs, a, b, ⟨rs ++ [v], upd_same, by rw [List.length_append, b]; rfl, fun w hw => ?_⟩, s.ls.grd g k, s.tb.lgr a g⟩
  rcases List.mem_append.mp hw with h | h
  · exact RowR.st t (c w h)
  · rw [List.mem_singleton.mp h]
    exact RowR.st t r
end
section
variable {P : Program} {w : World} {K : PySem.W.Frag} {mg : Str → Option Value} {base : Heap}
def spShown2 (K : PySem.W.Frag) : Sp := fun vs H Q _ => ∃ x t m, vs = [.int ((ThD t : Nat) : Int), x] ∧ ThVal K H t x ∧ ThOk m t ∧ 1 ≤ m ∧ m ≤ 300 ∧ ThD t ≤ 5 ∧ ∀ H', Gr H H' → Q (.str (ThT t)) H'
theorem sc_shown2 : FnScope ["door", "thing"] ["door", "thing"] (defScope s__law_shown) := ⟨rfl, rfl, rfl, by decide +kernel, rfl, by decide +kernel, by decide +kernel⟩
theorem cl_shown2 (D : Df K mg "_law_shown" s__law_shown) (C0 : Cl P w K mg base 1 "show_number" ["a"] (spShNum K)) (C1 : Cl P w K mg base 2 "show_point" ["point"] (spShPoint K)) (C2 : Cl P w K mg base 3 "show_row" ["row"] (spShWish K)) (C3 : Cl P w K mg base 2 "show_wish" ["wish"] (spShWish K)) (C4 : Cl P w K mg base 3 "show_book" ["book"] (spShBook K)) (C5 : Cl P w K mg base 13 "show_saying" ["saying"] (spShSay K 12)) :
    Cl P w K mg base 14 "_law_shown" ["door", "thing"] (spShown2 K) := by
  refine D.cl (fun _ _ _ _ _ _ us hl => match us, hl with | [_, _], _ => rfl) fun f fd F => F.ok sc_shown2 (fun vs H Q E h => ?_) (fun cdv A outer s H vs Q E hr h => ?_)
  · obtain ⟨x, t, m, rfl, _⟩ := h
    rfl
  obtain ⟨x, t, m, rfl, hv, ok, m1, m3, t5, q⟩ := h
  refine ⟨_, (pss_cons (ps_if (pt_cmpR op_eq (pv 0) pe_int (nomark _)) (pss_one (ps_ret (pe_cl C0 (hr.mono (by decide)) (pa_cons (pv 1) pa_nil)))) pss_nil)
    (pss_cons (ps_if (pt_cmpR op_eq (pv 0) pe_int (nomark _)) (pss_one (ps_ret (pe_cl C1 (hr.mono (by decide)) (pa_cons (pv 1) pa_nil)))) pss_nil)
    (pss_cons (ps_if (pt_cmpR op_eq (pv 0) pe_int (nomark _)) (pss_one (ps_ret (pe_cl C2 (hr.mono (by decide)) (pa_cons (pv 1) pa_nil)))) pss_nil)
    (pss_cons (ps_if (pt_cmpR op_eq (pv 0) pe_int (nomark _)) (pss_one (ps_ret (pe_cl C3 (hr.mono (by decide)) (pa_cons (pv 1) pa_nil)))) pss_nil)
    (pss_one (ps_ret (pe_ifExp (pt_cmpR op_eq (pv 0) pe_int (nomark _)) (pe_cl C4 (hr.mono (by decide)) (pa_cons (pv 1) pa_nil)) (pe_cl C5 (hr.mono (by decide)) (pa_cons (pv 1) pa_nil))))))))), ?_⟩
  cases t with
  | num r => exact ⟨_, rfl, rfl, _, rfl, iteP rfl ⟨_, rfl, x, r, m, rfl, hv, m1, m3, ok.2.1, ok.2.2, q H (Gr.refl _)⟩⟩
  | pt rs => exact ⟨_, rfl, rfl, _, rfl, iteN (neI (by simp [ThD])) ⟨_, rfl, rfl, _, rfl, iteP rfl ⟨_, rfl, x, rs, m, rfl, hv, ok.2.1, m1, m3, fun r h => (ok.2.2 r h).2, q⟩⟩⟩
  | row hs =>
    obtain ⟨a, rfl, hs'⟩ := hv
    have l := ok.1
    exact ⟨_, rfl, rfl, _, rfl, iteN (neI (by simp [ThD])) ⟨_, rfl, rfl, _, rfl, iteN (neI (by simp [ThD])) ⟨_, rfl, rfl, _, rfl, iteP rfl ⟨_, rfl, a, hs, rfl, hs', by omega, fun h hh => (ok.2 h hh).1, q⟩⟩⟩⟩
  | wish hs =>
    obtain ⟨a, rfl, hs'⟩ := hv
    have l := ok.1
    exact ⟨_, rfl, rfl, _, rfl, iteN (neI (by simp [ThD])) ⟨_, rfl, rfl, _, rfl, iteN (neI (by simp [ThD])) ⟨_, rfl, rfl, _, rfl, iteN (neI (by simp [ThD])) ⟨_, rfl, rfl, _, rfl, iteP rfl ⟨_, rfl, a, hs, rfl, hs', by omega, ok.2, q⟩⟩⟩⟩⟩
  | book d qs =>
    have l := ok.2.2.1
    have d12 := ok.2.1
    exact ⟨_, rfl, rfl, _, rfl, iteN (neI (by simp [ThD])) ⟨_, rfl, rfl, _, rfl, iteN (neI (by simp [ThD])) ⟨_, rfl, rfl, _, rfl, iteN (neI (by simp [ThD])) ⟨_, rfl, rfl, _, rfl, iteN (neI (by simp [ThD])) ⟨_, rfl, rfl, _, rfl, iteP rfl ⟨_, rfl, x, d, qs, m, rfl, hv, ok.2.1, by omega, m1, m3, fun q hq => by
      obtain ⟨_, a, b, c⟩ := ok.2.2.2.2 q hq
      exact ⟨by omega, b, c⟩, q⟩⟩⟩⟩⟩⟩
  | say d s =>
    have l : 2 ^ 12 = 4096 := by decide
    have l2 := ok.2.2.2.2.2
    exact ⟨_, rfl, rfl, _, rfl, iteN (neI (by simp [ThD])) ⟨_, rfl, rfl, _, rfl, iteN (neI (by simp [ThD])) ⟨_, rfl, rfl, _, rfl, iteN (neI (by simp [ThD])) ⟨_, rfl, rfl, _, rfl, iteN (neI (by simp [ThD])) ⟨_, rfl, rfl, _, rfl, iteN (neI (by simp [ThD])) ⟨_, rfl, x, s, d, m, rfl, hv, ok.2.2.2.1, ok.2.1, m1, ok.2.2.1, ok.2.2.2.2.1, by omega, q⟩⟩⟩⟩⟩⟩
  | qu q0 => exact absurd t5 (by simp [ThD])
def spLaw (K : PySem.W.Frag) (T : Nat → Addr) : Sp := fun vs H Q _ => ∃ (a : Addr) (ns : List Int), vs = [.ref a] ∧ SqL K H a (ns.map V.int) ∧ ns.length ≤ 63 ∧ Tb5 T H ∧ ∀ H', Q (.bl true) H'
theorem sc_law : FnScope ["script", "rows", "place", "well", "door", "thing", "said", "told"] ["script"] (defScope s_law) := ⟨rfl, rfl, rfl, by decide +kernel, rfl, by decide +kernel, by decide +kernel⟩
theorem ok_law {f : Addr} {fd : FuncData} {T : Nat → Addr} (F : Fun K "law" "law" s_law f fd) (B : Blt mg) (CW : Cl P w K mg base 1 "_law_well" ["script", "place"] (spWell K)) (CP : Cl P w K mg base 1 "_law_draw" ["well", "many"] spPick)
    (CT : Cl P w K mg base 36 "_law_thing" ["well", "door", "most", "deep"] (spThing K)) (CA : Cl P w K mg base 15 "_law_same" ["told", "due"] (spSame K 15)) (CR : Cl P w K mg base 39 "_law_read" ["door", "said", "named"] (spLRd K T)) (CH : Cl P w K mg base 14 "_law_shown" ["door", "thing"] (spShown2 K)) :
    FnOk P w K mg base CX0 41 f fd ["script"] (spLaw K T) := by
  refine F.ok sc_law (fun vs H Q E h => ?_) (fun cdv A outer s H vs Q E hr h => ?_)
  · obtain ⟨a, ns, rfl, _⟩ := h
    rfl
  obtain ⟨l, ns, rfl, hS, h63, tb, q⟩ := h
  refine ⟨_, (pss_cons (ps_set (i := 1) sc_law.nd rfl (.inl rfl) (pe_lst pa_nil))
    (pss_cons (ps_for PassesOwn.never rfl (pi_range1 rfl B.rng (pa_cons (pe_callB (call_max2 rfl) rfl B.max PyProof.Rows.boot_max (pa_cons pe_int (pa_cons (pe_callB (call_min2 rfl) rfl B.min PyProof.Rows.boot_min (pa_cons pe_int (pa_cons (pe_len (pv 0) B.len) pa_nil))) pa_nil))) pa_nil)) (pg_name (i := 2) sc_law.nd rfl (Or.inl rfl))
      (pss_cons (ps_set (i := 3) sc_law.nd rfl (.inl rfl) (pe_cl CW (hr.mono (by decide)) (pa_cons (pv 0) (pa_cons (pv 2) pa_nil))))
      (pss_one (ps_for PassesOwn.never rfl (pi_range1 rfl B.rng (pa_cons pe_int pa_nil)) (pg_name (i := 4) sc_law.nd rfl (Or.inl rfl))
        (pss_cons (ps_asg (pe_cl CT (hr.mono (by decide)) (pa_cons (pv 3) (pa_cons (pv 4) (pa_cons (pe_ix ix_list (pe_lst (pa_cons pe_int (pa_cons pe_int (pa_cons pe_int pa_nil)))) (pe_cl CP (hr.mono (by decide)) (pa_cons (pv 3) (pa_cons pe_int pa_nil))) (fun _ _ => rfl)) (pa_cons pe_int pa_nil))))) (pg_tup rfl (pgs_cons (pg_name (i := 5) sc_law.nd rfl (Or.inl rfl)) (pgs_cons (pg_name (i := 6) sc_law.nd rfl (Or.inl rfl)) pgs_nil))))
        (pss_cons (ps_set (i := 7) sc_law.nd rfl (.inl rfl) (pe_cl CR (hr.mono (by decide)) (pa_cons (pv 4) (pa_cons (pv 6) (pa_cons (pe_cmpR op_eq (pe_cl CP (hr.mono (by decide)) (pa_cons (pv 3) (pa_cons pe_int pa_nil))) pe_int (nomark _)) pa_nil)))))
        (pss_cons (ps_if (PW.pt (by exact (pw_or (pt_not (pt_val (pe_cl CA (hr.mono (by decide)) (pa_cons (pv 7) (pa_cons (pv 5) pa_nil))))) (pw_or1 (pt_not (pt_val (pe_cl CA (hr.mono (by decide)) (pa_cons (pe_cl CH (hr.mono (by decide)) (pa_cons (pv 4) (pa_cons (pv 7) pa_nil))) (pa_cons (pv 6) pa_nil))))))))) pss_no pss_nil)
        (pss_one (ps_expr (pe_bm PySem.F.plainAttrs_list PySem.F.slot_list_append PySem.F.type_list_append mt_append (pv 1) (pa_cons (pe_tup (pa_cons (pv 4) (pa_cons (pv 5) (pa_cons (pv 6) pa_nil)))) pa_nil)))))))))))
    (pss_cons (ps_for PassesOwn.never rfl (pi_list (pe_revL (pv 1))) (pg_tup rfl (pgs_cons (pg_name (i := 4) sc_law.nd rfl (Or.inl rfl)) (pgs_cons (pg_name (i := 5) sc_law.nd rfl (Or.inl rfl)) (pgs_cons (pg_name (i := 6) sc_law.nd rfl (Or.inl rfl)) pgs_nil))))
      (pss_one (ps_if (pt_not (pt_val (pe_cl CA (hr.mono (by decide)) (pa_cons (pe_cl CR (hr.mono (by decide)) (pa_cons (pv 4) (pa_cons (pv 6) (pa_cons (pe_cmpR op_lt (pe_callB call_len_str rfl B.len PySem.boot_len (pa_cons (pv 6) pa_nil)) pe_int (nomark _)) pa_nil)))) (pa_cons (pv 5) pa_nil))))) pss_no pss_nil)))
    (pss_one (ps_ret pe_bl))))), ?_⟩
  refine ⟨szL0, fun Rl nR => ?_⟩
  have r0 := (Gr.refl H).new nR (.lst [])
  have s0 : InX K T l (ns.map V.int) Rl (fun b => b ≠ Rl) 0 (upd H Rl (.lst [])) := ⟨⟨[], upd_same, rfl, fun v h => (by cases h)⟩, (LsV.of hS nR).gr r0, tb.gr r0⟩
  have e1 := s0.ls.sq
  generalize upd H Rl (.lst []) = H0 at s0 e1 ⊢
  refine ⟨_, rfl, l, _, rfl, .inl e1, _, _, rfl, _, _, rfl, _, rfl, ?_, ?_, ?_⟩
  · split <;> (try split) <;> omega
  · split <;> (try split) <;> omega
  refine for_range (lo := 0) (fun i σ H' => ∃ c2 c3 c4 c5 c6 c7 : Option V, σ = [some (.ref l), some (.ref Rl), c2, c3, c4, c5, c6, c7] ∧ i ≤ 64 ∧ InX K T l (ns.map V.int) Rl (fun b => b ≠ Rl) (6 * i) H') ⟨_, _, _, _, _, _, rfl, by omega, s0⟩ (fun i σ H1 hi h => ?_) (fun σ H1 h => ?_)
  · obtain ⟨c2, c3, c4, c5, c6, c7, rfl, i64, s1⟩ := h
    have hi' : i < 64 := by
      split at hi <;> (try split at hi) <;> omega
    refine ⟨_, rfl, _, rfl, l, ns, (0 : Int) + i, rfl, s1.ls.sq, h63, by omega, by omega, fun dk a b ndk b0 b1 => ?_⟩
    have sk0 : Stk dk 0 (upd H1 dk (.lst [.int a, .int b, .int 0])) := ⟨a, b, 0, upd_same, b0, b1, by decide, by decide⟩
    have nRd : Rl ≠ dk := by
      obtain ⟨rs, e, _⟩ := s1.rl
      exact ne_of_none e ndk
    have s2 := (s1.avoid ndk).gr ((Gr.refl H1).new ndk (.lst [.int a, .int b, .int 0]))
    generalize upd H1 dk (.lst [.int a, .int b, .int 0]) = H2 at sk0 s2 ⊢
    clear s1 ndk b0 b1
    have nd : ∀ b : Addr, (b ≠ Rl ∧ b ≠ dk) → b ≠ dk := fun b h => h.2
    have nr : ∀ b : Addr, (b ≠ Rl ∧ b ≠ dk) → b ≠ Rl := fun b h => h.1
    refine ⟨6, rfl, by decide, by decide, for_range (lo := 0) (fun t σ H' => ∃ c4 c5 c6 c7 : Option V, σ = [some (.ref l), some (.ref Rl), some (.int (0 + (i : Int))), some (.ref dk), c4, c5, c6, c7] ∧ InX K T l (ns.map V.int) Rl (fun b => b ≠ Rl ∧ b ≠ dk) (6 * i + t) H' ∧ Stk dk (mW t) H') ⟨_, _, _, _, rfl, s2, sk0.more (by omega)⟩ (fun t σ H9 ht h => ?_) (fun σ H9 h => ?_)⟩
    · obtain ⟨c4, c5, c6, c7, rfl, s9, sk9⟩ := h
      have ht : t < 6 := ht
      have t5 : t ≤ 5 := by omega
      have mn := mW_next t5
      have me := mW_le t5
      have mt := mW_top (t + 1)
      have e0t : (0 : Int) + (t : Int) = ((t : Nat) : Int) := Int.zero_add _
      refine ⟨_, rfl, _, rfl, szN (by show 3 ≤ 1000000; decide), fun L1 nL1 => ?_⟩
      have rL := (Gr.refl H9).new nL1 (.lst [.int 1, .int 3, .int 9])
      have eL : (upd H9 L1 (.lst [.int 1, .int 3, .int 9])) L1 = some (.lst [.int 1, .int 3, .int 9]) := upd_same
      have nLd := sk9.ne nL1
      have s10 := s9.gr rL
      have sk10 := sk9.gr rL
      generalize upd H9 L1 (.lst [.int 1, .int 3, .int 9]) = H10 at eL s10 sk10 ⊢
      clear s9 sk9 rL
      refine ⟨_, rfl, dk, 3, _, rfl, sk10, by omega, by decide, by decide +kernel, fun u3 H11 w0 w1 g11 sk11 => ?_⟩
      have s11 := s10.grd g11 sk10 nd nRd
      obtain ⟨m2, am2, n1, n9⟩ : ∃ m : Nat, atI ([.int 1, .int 3, .int 9] : List V) u3 = some (.int ((m : Nat) : Int)) ∧ 1 ≤ m ∧ m ≤ 9 := by
        have : u3 = 0 ∨ u3 = 1 ∨ u3 = 2 := by omega
        rcases this with rfl | rfl | rfl
        · exact ⟨1, rfl, by decide, by decide⟩
        · exact ⟨3, rfl, by decide, by decide⟩
        · exact ⟨9, rfl, by decide, by decide⟩
      refine ⟨L1, _, _, _, rfl, rfl, SqL.of (GrDL.lst g11 nLd eL), am2, dk, _, t, m2, (by show [V.ref dk, V.int ((0 : Int) + (t : Int)), V.int ((m2 : Nat) : Int), V.int 12] = _; rw [e0t]), sk11, by omega, t5, n1, by omega, fun _ => by omega, fun Tp x th H12 g12 sk12 hT hx okt dt => ?_⟩
      subst dt
      have s12 := s11.grd g12 sk11 nd nRd
      clear s10 s11 eL g11 am2
      refine ⟨Tp, _, rfl, hT, rfl, _, _, rfl, _, _, rfl, rfl, ?_⟩
      refine ⟨_, rfl, _, rfl, _, rfl, dk, 2, _, rfl, sk12, by omega, by decide, by decide +kernel, fun u4 H13 _ _ g13 sk13 => ⟨rfl, ?_⟩⟩
      have s13 := s12.grd g13 sk12 nd nRd
      have hx13 := ThVal.st (g13.sk sk12) hx
      refine ⟨th, m2, _, (by show [V.int ((0 : Int) + ((ThD th : Nat) : Int)), V.str (ThT th), V.bl _] = _; rw [e0t]), s13.tb, okt, n1, n9, t5, fun y H14 g14 hy => ?_⟩
      have hx14 := ThVal.gr g14 hx13
      refine ⟨_, rfl, _, rfl, y, x, rfl, alike_th okt hy hx14, fun H15 g15 => ⟨_, rfl, iteF ?_⟩⟩
      have hy15 := ThVal.gr g15 hy
      refine ⟨_, rfl, _, rfl, y, th, m2, (by show [V.int ((0 : Int) + ((ThD th : Nat) : Int)), y] = _; rw [e0t]), hy15, okt, n1, by omega, t5, fun H16 g16 => ⟨_, rfl, _, _, rfl, .inl ⟨rfl, rfl⟩, fun H17 g17 => ⟨_, rfl, iteF ?_⟩⟩⟩
      have gg := ((g14.trans g15).trans g16).trans g17
      have s17 := s13.gr gg
      have sk17 := sk13.gr gg
      obtain ⟨rs, hRl, lrs, _⟩ := id s17.rl
      refine ⟨_, rfl, .inl ⟨rfl, _, SqL.of hRl⟩, _, rfl, _, rfl, _, rfl, szN (by show 3 ≤ 1000000; decide), fun T2 nT2 => ?_⟩
      have rT2 := (Gr.refl H17).new nT2 (.tup [.int (0 + ((ThD th : Nat) : Int)), x, .str (ThT th)])
      have s18 := s17.gr rT2
      have sk18 := sk17.gr rT2
      have hT2 : SqT K (upd H17 T2 (.tup [.int (0 + ((ThD th : Nat) : Int)), x, .str (ThT th)])) T2 [.int (0 + ((ThD th : Nat) : Int)), x, .str (ThT th)] := SqT.of upd_same
      generalize upd H17 T2 (.tup [.int (0 + ((ThD th : Nat) : Int)), x, .str (ThT th)]) = H18 at rT2 s18 sk18 hT2 ⊢
      rw [e0t] at hT2
      have row : RowR K H18 (.ref T2) := ⟨T2, x, th, m2, rfl, hT2, ThVal.gr (gg.trans rT2) hx13, okt, n1, n9, t5⟩
      obtain ⟨acc, ha, la, s19⟩ := s18.put nr row
      exact ⟨Rl, _, _, rfl, rfl, ha, small1000 (by omega), _, _, _, _, rfl, s19, (sk18.off nRd).more mn⟩
    · obtain ⟨c4, c5, c6, c7, rfl, s9, sk9⟩ := h
      exact ⟨_, _, _, _, _, _, rfl, by omega, s9.less nr⟩
  · obtain ⟨c2, c3, c4, c5, c6, c7, rfl, i64, s1⟩ := h
    obtain ⟨rs, hRl, lrs, hrs⟩ := id s1.rl
    refine ⟨_, rfl, Rl, rs, rfl, SqL.of hRl, fun p np => ⟨p, rfl, ⟨_, SqL.of upd_same⟩, ?_⟩⟩
    have r1 := (Gr.refl H1).new np (.lst rs.reverse)
    have e2 : (upd H1 p (.lst rs.reverse)) p = some (.lst rs.reverse) := upd_same
    have tb1 := s1.tb
    generalize upd H1 p (.lst rs.reverse) = H2 at r1 e2 ⊢
    refine for_list (xs := rs.reverse) (fun i σ H' => ∃ c2 c3 c4 c5 c6 c7 : Option V, σ = [some (.ref l), some (.ref Rl), c2, c3, c4, c5, c6, c7] ∧ Gr H2 H') ⟨_, _, _, _, _, _, rfl, Gr.refl _⟩ (fun i σ H' _ h => ?_) (fun i v σ H' hv h => ?_) (fun σ H' h => q H')
    · obtain ⟨c2, c3, c4, c5, c6, c7, rfl, g⟩ := h
      exact g.seqL (SqL.of e2)
    · obtain ⟨c2, c3, c4, c5, c6, c7, rfl, g⟩ := h
      have g1 := r1.trans g
      obtain ⟨Tt, x, th, m, rfl, hT, hx, okt, m1, m9, t5⟩ := RowR.st g1.st (hrs v (List.mem_reverse.mp (List.mem_of_getElem? hv)))
      refine ⟨Tt, _, rfl, hT, rfl, _, _, rfl, _, _, rfl, _, _, rfl, rfl, ?_⟩
      refine ⟨_, rfl, _, rfl, _, rfl, _, rfl, Nat.le_trans (thT_len m1 (by omega) okt) (by rw [sizeLine_eq]; exact Nat.le_refl _), _, _, rfl, rfl, th, m, _, rfl, tb1.gr g1, okt, m1, m9, t5, fun y H3 g3 hy => ?_⟩
      refine ⟨_, rfl, y, x, rfl, alike_th okt hy (ThVal.gr g3 hx), fun H4 g4 => ⟨_, rfl, iteF ?_⟩⟩
      exact ⟨_, _, _, _, _, _, rfl, (g.trans g3).trans g4⟩
end
end SB
namespace SB
open PySem PySem.Spec PyProof.Rows L2
/-- the table of the code of the def of this name is empty -/
def TabE (K : PySem.W.Frag) (x : Str) (mg : Str → Option Value) (h : Heap) : Prop := ∀ (fa c Q : Addr) (o : Obj) (fd : FuncData) (e : Value) (dd : Option Addr) (vs : Array Value) (sl : Array (Option Value)),
  mg x = some (.ref fa) → K.lookup fa = some o → o.data = .func fd → fd.code = .ref c → K.lookup c = some ⟨e, dd, .fields vs, sl⟩ → vs[11]? = some (.ref Q) → h.get? Q = some { cls := .none, data := .fields #[] }
theorem lk_mem {β : Type} : ∀ {l : List (Addr × β)} {b : Addr} {o : β}, l.lookup b = some o → (b, o) ∈ l
  | [], _, _, e => by cases e
  | (k, v) :: r, b, o, e => by
    rw [List.lookup_cons] at e
    cases h : (b == k) with
    | true =>
      rw [h] at e
      cases e
      rw [beq_iff_eq.mp h]
      exact List.mem_cons_self
    | false =>
      rw [h] at e
      exact List.mem_cons_of_mem _ (lk_mem e)
theorem lk_has {β : Type} : ∀ {l : List (Addr × β)} {p : Addr × β}, p ∈ l → ∃ o, l.lookup p.1 = some o
  | (k, v) :: r, p, h => by
    rw [List.lookup_cons]
    cases e : (p.1 == k) with
    | true => exact ⟨v, rfl⟩
    | false =>
      rcases List.mem_cons.mp h with h | h
      · rw [h] at e
        simp at e
      · exact lk_has h
/-- K with the few objects besides that tell that nobody looks on -/
theorem seer_ext {K : PySem.W.Frag} {h : Heap} (X : K.In h) (N : h.NoSeer) : ∃ K2 : PySem.W.Frag, K2.In h ∧ (∀ b o, K.lookup b = some o → K2.lookup b = some o) ∧ (∀ h2 : Heap, K2.In h2 → h2.NoSeer) ∧
    ∀ b, h.get? b = some { cls := .none, data := .fields #[] } → K.lookup b = none → K2.lookup b = none := by
  obtain ⟨⟨mc, ⟨o1, es1, ep1, g1, d1, r1⟩, c1, c2⟩, ⟨mm, ⟨o2, es2, ep2, g2, d2, r2⟩, m1⟩, ⟨mb, ⟨o3, es3, ep3, g3, d3, r3⟩, b0⟩, ⟨mg, bm, ob, ⟨o4, es4, ep4, g4, d4, r4⟩, q1, g5, q3, q4⟩⟩ := N
  let ex : List (Addr × Obj) := [(cStatics, o1), (sysModules, o2), (builtinsNs, o3), (mainGlobals, o4), (bm, ob)]
  have hex : ∀ p, p ∈ ex → h.get? p.1 = some p.2 := fun p hp => by
    simp only [ex, List.mem_cons, List.not_mem_nil, or_false] at hp
    rcases hp with rfl | rfl | rfl | rfl | rfl <;> assumption
  have mem_of : ∀ {l : List (Addr × Obj)} {b : Addr} {o : Obj}, l.lookup b = some o → (b, o) ∈ l := fun {l b o} e => lk_mem e
  have In2 : (K ++ ex).In h := fun b o e => by
    rw [List.lookup_append] at e
    cases hk : K.lookup b with
    | some o' =>
      rw [hk] at e
      cases e
      exact X _ _ hk
    | none =>
      rw [hk] at e
      exact hex _ (mem_of e)
  have has : ∀ p, p ∈ ex → (K ++ ex).lookup p.1 = some p.2 := fun p hp => by
    have hm : ∀ {l : List (Addr × Obj)} {p : Addr × Obj}, p ∈ l → ∃ o, l.lookup p.1 = some o := fun {l p} h => lk_has h
    obtain ⟨o, ho⟩ := hm (List.mem_append_right K hp)
    have e1 := In2 _ _ ho
    rw [hex p hp] at e1
    rw [ho, ← e1]
  refine ⟨K ++ ex, In2, fun b o e => by rw [List.lookup_append, e]; rfl, fun h2 X2 => ?_, fun b hb hk => ?_⟩
  · have a1 := X2 _ _ (has (cStatics, o1) (by simp [ex]))
    have a2 := X2 _ _ (has (sysModules, o2) (by simp [ex]))
    have a3 := X2 _ _ (has (builtinsNs, o3) (by simp [ex]))
    have a4 := X2 _ _ (has (mainGlobals, o4) (by simp [ex]))
    have a5 := X2 _ _ (has (bm, ob) (by simp [ex]))
    exact ⟨⟨mc, ⟨o1, es1, ep1, a1, d1, r1⟩, c1, c2⟩, ⟨mm, ⟨o2, es2, ep2, a2, d2, r2⟩, m1⟩, ⟨mb, ⟨o3, es3, ep3, a3, d3, r3⟩, b0⟩, ⟨mg, bm, ob, ⟨o4, es4, ep4, a4, d4, r4⟩, q1, a5, q3, q4⟩⟩
  · rw [List.lookup_append, hk]
    cases e : ex.lookup b with
    | none => rfl
    | some o =>
      have hm := mem_of e
      have ho := hex _ hm
      have ho : h.get? b = some o := ho
      rw [hb] at ho
      have eo : o = { cls := .none, data := .fields #[] } := (Option.some.inj ho).symm
      simp only [ex, List.mem_cons, List.not_mem_nil, or_false, Prod.mk.injEq] at hm
      rcases hm with ⟨_, z⟩ | ⟨_, z⟩ | ⟨_, z⟩ | ⟨_, z⟩ | ⟨_, z⟩
      · rw [← z, eo] at d1; cases d1
      · rw [← z, eo] at d2; cases d2
      · rw [← z, eo] at d3; cases d3
      · rw [← z, eo] at d4; cases d4
      · rw [← z, eo] at q3; cases q3
theorem walk_names {l : PySem.W.OpenLaw} {n k : Nat} {q : Program} {loose : List Str} {XP : (Str → Option Value) → Heap → Prop} {YP : World → Heap → Prop} {d : DefRec} {K : Params → PySem.W.Frag} {CX : World → CXT} {x : Str} (names : List Str)
    (hn : l.most = some n) (hn2 : n ≤ sizeLine) (hdf : d.params.defaults = []) (hr : Room k callerA) (hrec : (names.all fun y => (recsOf q).any fun e => e.name == y) = true) (hi : importsNone q = true) (hY : ∀ (w : World) (h : Heap), YP w h → (K w.params).In h)
    (F : ∀ (w : World) (mg : Str → Option Value) (fa : Addr) (h : Heap) (K2 : PySem.W.Frag), (K w.params).In h → h.Ns mainGlobals mg → mg d.name = some (.ref fa) → (∀ y, names.contains y = true → TabE (K w.params) y mg h) → K2.In h → (∀ b o, (K w.params).lookup b = some o → K2.lookup b = some o) → (∀ h2 : Heap, K2.In h2 → h2.NoSeer) →
      (∀ b, h.get? b = some { cls := .none, data := .fields #[] } → (K w.params).lookup b = none → K2.lookup b = none) → LamX.LawAtS l w K2 (CX w) k n x mg fa h)
    (hCX : ∀ (w : World) (H : Hp) (s : Shared) (e : Value) (s' : Shared), CX w [] H s (fun _ _ _ => False) e s' → False) :
    PySem.W.WalkO q loose XP YP l.row.toRowW d [] (fun f vs => PySem.call f vs) := by
  refine Att.attach_callB hn hdf fun w s₀ s₁ mg mb fa o pm cd doc a vs ns G Y ho hd hcd hmg hobj hints hlen hbits hg => ?_
  have KX := hY w _ Y
  have own : ∀ y, names.contains y = true → TabE (K w.params) y mg s₁.heap := fun y hy fa2 c Q o1 fd1 e dd vs1 sl k0 k1 k2 k3 k4 k5 => by
    have hy2 := List.all_eq_true.mp hrec y (by simpa using hy)
    obtain ⟨dL, hm, hn1⟩ := List.any_eq_true.mp hy2
    have e2 : dL.name = y := beq_iff_eq.mp hn1
    obtain ⟨a', o', fd', c', P', h1, h2, h3, h4, h5, h6⟩ := G.T.tab dL hm
    rw [e2, k0] at h1
    cases h1
    have g1 := KX _ _ k1
    rw [g1] at h2
    cases h2
    rw [k2] at h3
    cases h3
    rw [k3] at h4
    cases h4
    obtain ⟨⟨oc, vc, e1, _, e3, e4⟩, hP⟩ := h6
    have g2 := KX _ _ k4
    rw [g2] at e1
    cases e1
    cases e3
    rw [k5] at e4
    cases e4
    exact hP
  obtain ⟨K2, X2, ext, seer, nT2⟩ := seer_ext KX (PyProof.Rows.Top.seer G.T hi)
  obtain ⟨fd, cs, sp, hT, nT, C, hb, hsp, hF⟩ := F w mg fa _ K2 KX G.T.g hmg own X2 ext seer nT2
  exact LamX.law_callTs X2 G.T.g G.T.b G.T.builtins G.T.nolimit hg hT nT C G.T.bmain hobj hints (Nat.le_trans hlen hn2) hr hF hb (fun H hH hS => hsp H a ns hlen hbits hH hS) fun H e s' => hCX w H s₁ e s'
theorem tabB {base : Heap} {mg : Str → Option Value} {c Q : Addr} (b : LamX.TabB base mg c Q) : GxR.TabB base mg c Q := ⟨b.code, b.bm, b.gP⟩
section
variable {K : PySem.W.Frag} {mg : Str → Option Value} {h : Heap} {x : Str} {st : Stmt}
theorem df_mk {f : Addr} {od an : Option Addr} {sl : Array (Option Value)} {oc kV dc pm cd ct : Value} (X : K.In h) (G : h.Ns mainGlobals mg) (a : PySem.W.nsIn K mainGlobals x = some (some (.ref f)))
    (l : K.lookup f = some ⟨oc, od, .func (PySem.W.fnOf x x (defArgs st) (defBody st) (defScope st) .none kV dc pm an cd ct), sl⟩) (c : PySem.W.codeIn K cd x = true) (k : PySem.W.keepIn K (.ref f) = true) : Df K mg x st :=
  ⟨⟨f, _, fun_mk l c k, PySem.W.mg_of X G a⟩⟩
/-- a def whose code object's table is empty yet -/
structure DtE (K : PySem.W.Frag) (mg : Str → Option Value) (h : Heap) (x : Str) (st : Stmt) : Prop where
  ex : ∃ c Q : Addr, DfT K mg x st c ∧ K.lookup Q = none ∧ PySem.W.CodeHd h c Q ∧ h.get? Q = some { cls := .none, data := .fields #[] }
theorem dt_mk {f c Q : Addr} {od an dd : Option Addr} {sl sl2 : Array (Option Value)} {oc kV dc pm ct e : Value} {vs : Array Value} (X : K.In h) (G : h.Ns mainGlobals mg) (T : TabE K x mg h) (a : PySem.W.nsIn K mainGlobals x = some (some (.ref f)))
    (l : K.lookup f = some ⟨oc, od, .func (PySem.W.fnOf x x (defArgs st) (defBody st) (defScope st) .none kV dc pm an (.ref c) ct), sl⟩) (c1 : PySem.W.codeIn K (.ref c) x = true) (k : PySem.W.keepIn K (.ref f) = true)
    (tl : K.lookup c = some ⟨e, dd, .fields vs, sl2⟩) (tv : vs[11]? = some (.ref Q)) (ch : PySem.W.codeHdIn K c Q = true) (tn : K.lookup Q = none) : DtE K mg h x st :=
  ⟨⟨c, Q, ⟨⟨f, _, ⟨⟨oc, od, kV, dc, pm, an, ct, sl, rfl, l, c1⟩, k⟩, PySem.W.mg_of X G a⟩⟩, tn, PySem.W.codeHd_of_K X ch, T f c Q _ _ e dd vs sl2 (PySem.W.mg_of X G a) l rfl rfl tl tv⟩⟩
/-- from K to what holds more -/
structure Ext (K K2 : PySem.W.Frag) (h : Heap) : Prop where
  up : ∀ b o, K.lookup b = some o → K2.lookup b = some o
  no : ∀ b, h.get? b = some { cls := .none, data := .fields #[] } → K.lookup b = none → K2.lookup b = none
theorem Ext.code {K2 : PySem.W.Frag} (e : Ext K K2 h) {cd : Value} {q : Str} (c : PySem.W.codeIn K cd q = true) : PySem.W.codeIn K2 cd q = true := by
  unfold PySem.W.codeIn at c ⊢
  split at c
  · rename_i a
    cases ho : K.lookup a with
    | none =>
      rw [ho] at c
      cases c
    | some o =>
      rw [ho] at c
      simp only [e.up _ _ ho]
      exact c
  · cases c
theorem keep_fn {K2 : PySem.W.Frag} {f : Addr} {oc : Value} {od : Option Addr} {fd : FuncData} {sl : Array (Option Value)} (l : K2.lookup f = some ⟨oc, od, .func fd, sl⟩) : PySem.W.keepIn K2 (.ref f) = true := by
  unfold PySem.W.keepIn
  simp only [l]
theorem Df.ext {K2 : PySem.W.Frag} (e : Ext K K2 h) (D : Df K mg x st) : Df K2 mg x st := by
  obtain ⟨f, fd, F, m⟩ := D.ex
  obtain ⟨oc, od, kV, doc, pm, an, cdv, ct, osl, rfl, lk, hcd⟩ := F.ex
  exact ⟨f, _, ⟨⟨oc, od, kV, doc, pm, an, cdv, ct, osl, rfl, e.up _ _ lk, e.code hcd⟩, keep_fn (e.up _ _ lk)⟩, m⟩
theorem DtE.ext {K2 : PySem.W.Frag} (e : Ext K K2 h) (D : DtE K mg h x st) : DtE K2 mg h x st := by
  obtain ⟨c, Q, ⟨f, fd, F, m⟩, n, ch, emp⟩ := D.ex
  obtain ⟨oc, od, kV, doc, pm, an, ct, osl, rfl, lk, hcd⟩ := F.ex
  exact ⟨c, Q, ⟨f, _, ⟨⟨oc, od, kV, doc, pm, an, ct, osl, rfl, e.up _ _ lk, e.code hcd⟩, keep_fn (e.up _ _ lk)⟩, m⟩, e.no _ emp n, ch, emp⟩
end
end SB
namespace SB
open PySem PySem.Spec PyProof.Rows L2
section
variable {K K2 : PySem.W.Frag} {mg : Str → Option Value} {h : Heap} {w : World}
theorem ns_upU {a : Addr} {o : Obj} {x : Str} (e : Ext K K2 h) (l : K.lookup a = some o) : PySem.W.nsIn K2 a x = PySem.W.nsIn K a x := by
  unfold PySem.W.nsIn
  rw [e.up _ _ l, l]
theorem kdict_upU {d : Addr} {es : Array DictEntry} {n : Nat} (e : Ext K K2 h) (D : KDict K w d es n) : KDict K2 w d es n := ⟨e.up _ _ D.at_, D.lit, D.low⟩
theorem SignD.ext (e : Ext K K2 h) (A : SignD K w mg) : SignD K2 w mg := by
  obtain ⟨d, es, n, t1, t2, t3, h1, h2, a1, a2, a3, a4⟩ := A.ex
  have u : ∀ x, PySem.W.nsIn K2 d x = PySem.W.nsIn K d x := fun x => ns_upU e h2.at_
  exact ⟨d, es, n, t1, t2, t3, h1, kdict_upU e h2, (u _).trans a1, (u _).trans a2, (u _).trans a3, (u _).trans a4⟩
theorem PartR.ext (e : Ext K K2 h) (A : PartR K w mg) : PartR K2 w mg := by
  obtain ⟨d, es, n, t1, t2, t3, h1, h2, a1, a2, a3, a4, a5, a6⟩ := A.ex
  have u : ∀ x, PySem.W.nsIn K2 d x = PySem.W.nsIn K d x := fun x => ns_upU e h2.at_
  exact ⟨d, es, n, t1, t2, t3, h1, kdict_upU e h2, (u _).trans a1, (u _).trans a2, (u _).trans a3, (u _).trans a4, (u _).trans a5, (u _).trans a6⟩
theorem LeafT.ext (e : Ext K K2 h) (A : LeafT K mg) : LeafT K2 mg := by
  obtain ⟨a, od, its, n, sl, h1, h2, h3, h4⟩ := A.ex
  exact ⟨a, od, its, n, sl, h1, e.up _ _ h2, h3, h4⟩
theorem most_mk {t : Tok} (X : K.In h) (G : h.Ns mainGlobals mg) (a : PySem.W.nsIn K mainGlobals "MOST_DIGITS" = some (some (.int 9 t))) : MostD mg := ⟨t, PySem.W.mg_of X G a⟩
theorem sign_mk {d : Addr} {es : Array DictEntry} {n : Nat} {t1 t2 t3 : Tok} (X : K.In h) (G : h.Ns mainGlobals mg) (a : PySem.W.nsIn K mainGlobals "SIGNS" = some (some (.ref d))) (l : K.lookup d = some ⟨.type "dict", none, .dict es n, #[]⟩) (k : PySem.W.KeysLit w.params es.toList) (lo : (d == sysModules) = false)
    (a1 : PySem.W.nsIn K d "-" = some (some (.int (-1) t1))) (a2 : PySem.W.nsIn K d "0" = some (some (.int 0 t2))) (a3 : PySem.W.nsIn K d "+" = some (some (.int 1 t3))) (a4 : PySem.W.nsIn K d "?" = some (some .none)) : SignD K w mg :=
  ⟨d, es, n, t1, t2, t3, PySem.W.mg_of X G a, ⟨l, k, lo⟩, a1, a2, a3, a4⟩
theorem partr_mk {d : Addr} {es : Array DictEntry} {n : Nat} {t1 t2 t3 : Tok} (X : K.In h) (G : h.Ns mainGlobals mg) (a : PySem.W.nsIn K mainGlobals "PARTS" = some (some (.ref d))) (l : K.lookup d = some ⟨.type "dict", none, .dict es n, #[]⟩) (k : PySem.W.KeysLit w.params es.toList) (lo : (d == sysModules) = false)
    (a1 : PySem.W.nsIn K d "not" = some (some (.int 1 t1))) (a2 : PySem.W.nsIn K d "both" = some (some (.int 2 t2))) (a3 : PySem.W.nsIn K d "either" = some (some (.int 2 t3))) (a4 : PySem.W.nsIn K d "less" = some none) (a5 : PySem.W.nsIn K d "is" = some none) (a6 : PySem.W.nsIn K d "more" = some none) : PartR K w mg :=
  ⟨d, es, n, t1, t2, t3, PySem.W.mg_of X G a, ⟨l, k, lo⟩, a1, a2, a3, a4, a5, a6⟩
theorem leaf_mk {a0 : Addr} {od : Option Addr} {its : Array Value} {n : Nat} {sl : Array (Option Value)} (X : K.In h) (G : h.Ns mainGlobals mg) (a : PySem.W.nsIn K mainGlobals "LEAVES" = some (some (.ref a0))) (l : K.lookup a0 = some ⟨.type "tuple", od, .seq its n, sl⟩) (z : its.size ≤ sizeLine) (v : Vals [.str "less", .str "is", .str "more"] its.toList) : LeafT K mg :=
  ⟨a0, od, its, n, sl, PySem.W.mg_of X G a, l, z, v⟩
end
end SB
namespace SB
open PySem PySem.Spec PyProof.Rows L2
theorem law_at {l : PySem.W.OpenLaw} {w : World} {K : PySem.W.Frag} {mg : Str → Option Value} {h : Heap} {fa : Addr} (hmg : mg "law" = some (.ref fa)) (NS : NSK l.prog K) (B : Blt mg) (benumerate : mg "enumerate" = none)
    (MD : MostD mg)
    (SD : SignD K w mg)
    (PD : PartR K w mg)
    (LT : LeafT K mg)
    (E_wish_in : DtE K mg h "wish_in" s_wish_in)
    (D_is_whole : Df K mg "is_whole" s_is_whole)
    (D_are_wholes : Df K mg "are_wholes" s_are_wholes)
    (D_are_sides : Df K mg "are_sides" s_are_sides)
    (D_is_question : Df K mg "is_question" s_is_question)
    (D_is_question_of : Df K mg "is_question_of" s_is_question_of)
    (D_common_of : Df K mg "common_of" s_common_of)
    (D_begins_at : Df K mg "begins_at" s_begins_at)
    (D_normal_form : Df K mg "normal_form" s_normal_form)
    (D_is_book : Df K mg "is_book" s_is_book)
    (D__is_many : Df K mg "_is_many" s__is_many)
    (D_nought_form : Df K mg "nought_form" s_nought_form)
    (D_read_number : Df K mg "read_number" s_read_number)
    (D_read_point : Df K mg "read_point" s_read_point)
    (D_read_row : Df K mg "read_row" s_read_row)
    (D_read_wish : Df K mg "read_wish" s_read_wish)
    (D_read_book : Df K mg "read_book" s_read_book)
    (D_read_saying : Df K mg "read_saying" s_read_saying)
    (D_integer_in : Df K mg "integer_in" s_integer_in)
    (D_number_in : Df K mg "number_in" s_number_in)
    (D_point_in : Df K mg "point_in" s_point_in)
    (D_row_in : Df K mg "row_in" s_row_in)
    (D__read_alone : Df K mg "_read_alone" s__read_alone)
    (D__lines_of : Df K mg "_lines_of" s__lines_of)
    (D__all_or_none : Df K mg "_all_or_none" s__all_or_none)
    (D__sides_in : Df K mg "_sides_in" s__sides_in)
    (D__question_in : Df K mg "_question_in" s__question_in)
    (D__saying_in : Df K mg "_saying_in" s__saying_in)
    (D__opened_at : Df K mg "_opened_at" s__opened_at)
    (D__closed : Df K mg "_closed" s__closed)
    (D_show_number : Df K mg "show_number" s_show_number)
    (D_show_point : Df K mg "show_point" s_show_point)
    (D_show_row : Df K mg "show_row" s_show_row)
    (D_show_wish : Df K mg "show_wish" s_show_wish)
    (D_show_question : Df K mg "show_question" s_show_question)
    (D_show_book : Df K mg "show_book" s_show_book)
    (D_show_saying : Df K mg "show_saying" s_show_saying)
    (D__sign_of : Df K mg "_sign_of" s__sign_of)
    (D__show_sides : Df K mg "_show_sides" s__show_sides)
    (D__law_well : Df K mg "_law_well" s__law_well)
    (D__law_draw : Df K mg "_law_draw" s__law_draw)
    (D__law_same : Df K mg "_law_same" s__law_same)
    (D__law_low : Df K mg "_law_low" s__law_low)
    (D__law_divided : Df K mg "_law_divided" s__law_divided)
    (D__law_ground : Df K mg "_law_ground" s__law_ground)
    (D__law_unlike : Df K mg "_law_unlike" s__law_unlike)
    (D__law_power : Df K mg "_law_power" s__law_power)
    (D__law_integer : Df K mg "_law_integer" s__law_integer)
    (D__law_number : Df K mg "_law_number" s__law_number)
    (D__law_sided : Df K mg "_law_sided" s__law_sided)
    (D__law_book : Df K mg "_law_book" s__law_book)
    (D__law_deep : Df K mg "_law_deep" s__law_deep)
    (D__law_wish : Df K mg "_law_wish" s__law_wish)
    (D__law_thing : Df K mg "_law_thing" s__law_thing)
    (D__law_said_number : Df K mg "_law_said_number" s__law_said_number)
    (D__law_said_wish : Df K mg "_law_said_wish" s__law_said_wish)
    (D__law_said_question : Df K mg "_law_said_question" s__law_said_question)
    (D__law_said_book : Df K mg "_law_said_book" s__law_said_book)
    (D__law_said_saying : Df K mg "_law_said_saying" s__law_said_saying)
    (D__law_read : Df K mg "_law_read" s__law_read)
    (D__law_shown : Df K mg "_law_shown" s__law_shown)
    (D_law : Df K mg "law" s_law) :
    LamX.LawAtS l w K CX0 41 63 "script" mg fa h := by
  obtain ⟨c0, Q0, T_wish_in, n0, ch0, e0⟩ := E_wish_in.ex
  obtain ⟨f, fd, F, m⟩ := D_law.ex
  rw [m] at hmg
  cases hmg
  have nl : ∀ p : Addr × Addr, ¬ p ∈ ([] : List (Addr × Addr)) := fun p h => nomatch h
  refine ⟨fd, [(c0, Q0)], spLaw K (fun i => [1, Q0].getD i 0), (List.forall_mem_cons.mpr ⟨e0, (fun p h => absurd h (nl p))⟩), (List.forall_mem_cons.mpr ⟨n0, (fun p h => absurd h (nl p))⟩), (List.forall_mem_cons.mpr ⟨ch0, (fun p h => absurd h (nl p))⟩), fun s u => ?_, fun H a ns hl _ hH hS => ?_, fun base _ _ tb => ?_⟩
  · obtain ⟨oc, od, kV, doc, pm, an, cdv, ct, osl, rfl, lk, hcd⟩ := F.ex
    exact .of_eq rfl
  · refine ⟨a, ns, rfl, hS, hl, ⟨fun i hi => ?_⟩, fun _ => rfl⟩
    have hi : i < 1 := hi
    match i, hi with
    | 0, _ => exact ⟨#[], hH (c0, Q0) (List.mem_cons_self), trivial⟩
  have B0 : GxR.TabB base mg c0 Q0 := tabB (tb (c0, Q0) (List.mem_cons_self))
  have Cwhole := cl_whole (P := l.prog) (w := w) (base := base) D_is_whole B
  have Ccommon := cl_common (P := l.prog) (w := w) (base := base) D_common_of B
  have Cbegins := cl_begins (P := l.prog) (w := w) (base := base) D_begins_at
  have Cnorm := cl_norm D_normal_form B NS Ccommon Cbegins
  have Cnought := cl_nought D_nought_form Cnorm
  have CwholesD := cl_wholesD D_are_wholes Cwhole
  have CsidesD := cl_sidesD D_are_sides B CwholesD
  have CquestD := cl_questD D_is_question B Cwhole CsidesD
  have CquestOfD := cl_questOfD D_is_question_of B CquestD
  have CmanyD := cl_manyD D__is_many Cwhole
  have CbookD := cl_bookD D_is_book B CmanyD CquestOfD Cnought
  have Cwell := cl_well (P := l.prog) (w := w) (base := base) D__law_well B
  have Cdraw := cl_draw (P := l.prog) (w := w) (base := base) D__law_draw B
  have Cwsame := cl_wsame (P := l.prog) (w := w) (base := base) D__law_same B 15
  have Clow := cl_low (P := l.prog) (w := w) (base := base) D__law_low B NS
  have Cwdiv := cl_wdiv (P := l.prog) (w := w) (base := base) D__law_divided B
  have Cwgr := cl_wgr D__law_ground B Cwdiv
  have Cwunl := cl_wunl D__law_unlike B Cwgr
  have Cpow := cl_power (P := l.prog) (w := w) (base := base) D__law_power B
  have Cint := cl_integer D__law_integer Cdraw Cpow
  have CnumB := cl_numB D__law_number B Cdraw Cint Clow
  have Csided := cl_sided D__law_sided B Cdraw Cint
  have CbookB := cl_bookB D__law_book B Cdraw Csided Cwunl
  have Cdeep := cl_deep D__law_deep B Cdraw Csided 12
  have CwishB := cl_wishB D__law_wish B Cdraw
  have CsignOf := cl_signOf (P := l.prog) (w := w) (base := base) D__sign_of
  have CshSides := cl_shSides (P := l.prog) (w := w) (base := base) D__show_sides B
  have CshNum := cl_shNum (P := l.prog) (w := w) (base := base) D_show_number B
  have CshPoint := cl_shPoint D_show_point CshNum
  have CshWish := cl_shWish D_show_wish CsignOf
  have CshRow := cl_shRow D_show_row CshWish
  have CshQu := cl_shQu D_show_question CshSides
  have CshBook := cl_shBook D_show_book CshQu
  have CshSay := cl_shSay D_show_saying B CshSides 12
  have ClsNum := cl_lsNum (P := l.prog) (w := w) (base := base) D__law_said_number B
  have ClsWish := cl_lsWish (P := l.prog) (w := w) (base := base) D__law_said_wish
  have ClsQu := cl_lsQu (P := l.prog) (w := w) (base := base) D__law_said_question B
  have ClsBook := cl_lsBook D__law_said_book B ClsQu
  have ClsSay := cl_lsSay (P := l.prog) (w := w) (base := base) D__law_said_saying B 12
  have Cthing := cl_thing D__law_thing B Cdraw CnumB CwishB CbookB Cdeep ClsNum ClsWish ClsBook ClsSay
  have CintIn := cl_intIn (P := l.prog) (w := w) (base := base) D_integer_in B MD
  have CallIn := cl_allIn (P := l.prog) (w := w) (base := base) D__all_or_none B
  have Clines := cl_lines (P := l.prog) (w := w) (base := base) D__lines_of B
  have CnumIn := cl_numIn D_number_in B CintIn
  have CsdsIn := cl_sdsIn D__sides_in CintIn CallIn
  have CptIn := cl_ptIn D_point_in CnumIn CallIn
  have CquIn := cl_quIn D__question_in CintIn CsdsIn
  have CwishIn := cl_wishIn (P := l.prog) (w := w) (base := base) (T := fun i => [1, Q0].getD i 0) Nat.one_pos T_wish_in B0 B SD
  have CrowIn := cl_rowIn D_row_in CwishIn
  have CopenAt := cl_open D__opened_at PD LT CintIn CsdsIn
  have Cclosed := cl_closed (P := l.prog) (w := w) (base := base) D__closed B PD
  have CsayIn := cl_sayIn D__saying_in B LT CopenAt Cclosed
  have CrdNum := cl_rdNum (T := fun i => [1, Q0].getD i 0) D_read_number D__read_alone B Clines CnumIn
  have CrdPt := cl_rdPt (T := fun i => [1, Q0].getD i 0) D_read_point D__read_alone B Clines CptIn
  have CrdRow := cl_rdRow D_read_row D__read_alone B Clines CrowIn
  have CrdWish := cl_rdWish D_read_wish D__read_alone B Clines CwishIn
  have CrdBook := cl_rdBook (T := fun i => [1, Q0].getD i 0) D_read_book B benumerate Clines CintIn CquIn CbookD
  have CrdSay := cl_rdSay (T := fun i => [1, Q0].getD i 0) D_read_saying D__read_alone B Clines CsayIn
  have Kr0 := clK1 CrdNum D_read_number fun _ _ _ _ _ _ _ => rfl
  have Kr1 := clK1 CrdPt D_read_point fun _ _ _ _ _ _ _ => rfl
  have Kr2 := clK1 CrdRow D_read_row fun _ _ _ _ _ _ _ => rfl
  have Kr3 := clK1 CrdWish D_read_wish fun _ _ _ _ _ _ _ => rfl
  have Kr4 := clK1 CrdBook D_read_book fun _ _ _ _ _ _ _ => rfl
  have Kr5 := clK1 CrdSay D_read_saying fun _ _ _ _ _ _ _ => rfl
  have ClRd := cl_lRd D__law_read CrdNum CrdPt CrdRow CrdWish CrdBook CrdSay Kr0 Kr1 Kr2 Kr3 Kr4 Kr5
  have Cshown2 := cl_shown2 D__law_shown CshNum CshPoint CshRow CshWish CshBook CshSay
  exact ok_law F B Cwell Cdraw Cthing Cwsame ClRd Cshown2
end SB
open PySem PySem.W PyProof.Rows
set_option maxRecDepth 100000 in
set_option maxHeartbeats 0 in
theorem PySem.Challenge.cw_sidebooks_k48_whole_texts_there_and_back_holds : PySem.Challenge.rw_sidebooks_k48_whole_texts_there_and_back.Holds := by
  w_on; o_law; k_head; (case hw => w_witness2)
  k_fill
  refine SB.walk_names (l := PySem.Challenge.rw_sidebooks_k48_whole_texts_there_and_back) (n := 63) (k := 41) (x := "script") (CX := fun _ => L2.CX0) ["wish_in"] rfl (by decide) rfl ⟨rfl, by decide, by decide⟩ ?R ?I (fun w h Y => PySem.W.kIn_of Y) ?F (fun _ _ _ _ _ z => z)
  case R => decide +kernel
  case I => decide +kernel
  case F =>
    intro w mg fa h K2 KX G hmg hT X2 up seer no
    refine' SB.law_at (K := K2) hmg ⟨seer, rfl⟩ ?B ?xenumerate (id ?F_MD) (SB.SignD.ext ⟨up, no⟩ ?F_SD) (SB.PartR.ext ⟨up, no⟩ ?F_PD) (SB.LeafT.ext ⟨up, no⟩ ?F_LT) (SB.DtE.ext ⟨up, no⟩ ?E_wish_in) (SB.Df.ext ⟨up, no⟩ ?D_is_whole) (SB.Df.ext ⟨up, no⟩ ?D_are_wholes) (SB.Df.ext ⟨up, no⟩ ?D_are_sides) (SB.Df.ext ⟨up, no⟩ ?D_is_question) (SB.Df.ext ⟨up, no⟩ ?D_is_question_of) (SB.Df.ext ⟨up, no⟩ ?D_common_of) (SB.Df.ext ⟨up, no⟩ ?D_begins_at) (SB.Df.ext ⟨up, no⟩ ?D_normal_form) (SB.Df.ext ⟨up, no⟩ ?D_is_book) (SB.Df.ext ⟨up, no⟩ ?D__is_many) (SB.Df.ext ⟨up, no⟩ ?D_nought_form) (SB.Df.ext ⟨up, no⟩ ?D_read_number) (SB.Df.ext ⟨up, no⟩ ?D_read_point) (SB.Df.ext ⟨up, no⟩ ?D_read_row) (SB.Df.ext ⟨up, no⟩ ?D_read_wish) (SB.Df.ext ⟨up, no⟩ ?D_read_book) (SB.Df.ext ⟨up, no⟩ ?D_read_saying) (SB.Df.ext ⟨up, no⟩ ?D_integer_in) (SB.Df.ext ⟨up, no⟩ ?D_number_in) (SB.Df.ext ⟨up, no⟩ ?D_point_in) (SB.Df.ext ⟨up, no⟩ ?D_row_in) (SB.Df.ext ⟨up, no⟩ ?D__read_alone) (SB.Df.ext ⟨up, no⟩ ?D__lines_of) (SB.Df.ext ⟨up, no⟩ ?D__all_or_none) (SB.Df.ext ⟨up, no⟩ ?D__sides_in) (SB.Df.ext ⟨up, no⟩ ?D__question_in) (SB.Df.ext ⟨up, no⟩ ?D__saying_in) (SB.Df.ext ⟨up, no⟩ ?D__opened_at) (SB.Df.ext ⟨up, no⟩ ?D__closed) (SB.Df.ext ⟨up, no⟩ ?D_show_number) (SB.Df.ext ⟨up, no⟩ ?D_show_point) (SB.Df.ext ⟨up, no⟩ ?D_show_row) (SB.Df.ext ⟨up, no⟩ ?D_show_wish) (SB.Df.ext ⟨up, no⟩ ?D_show_question) (SB.Df.ext ⟨up, no⟩ ?D_show_book) (SB.Df.ext ⟨up, no⟩ ?D_show_saying) (SB.Df.ext ⟨up, no⟩ ?D__sign_of) (SB.Df.ext ⟨up, no⟩ ?D__show_sides) (SB.Df.ext ⟨up, no⟩ ?D__law_well) (SB.Df.ext ⟨up, no⟩ ?D__law_draw) (SB.Df.ext ⟨up, no⟩ ?D__law_same) (SB.Df.ext ⟨up, no⟩ ?D__law_low) (SB.Df.ext ⟨up, no⟩ ?D__law_divided) (SB.Df.ext ⟨up, no⟩ ?D__law_ground) (SB.Df.ext ⟨up, no⟩ ?D__law_unlike) (SB.Df.ext ⟨up, no⟩ ?D__law_power) (SB.Df.ext ⟨up, no⟩ ?D__law_integer) (SB.Df.ext ⟨up, no⟩ ?D__law_number) (SB.Df.ext ⟨up, no⟩ ?D__law_sided) (SB.Df.ext ⟨up, no⟩ ?D__law_book) (SB.Df.ext ⟨up, no⟩ ?D__law_deep) (SB.Df.ext ⟨up, no⟩ ?D__law_wish) (SB.Df.ext ⟨up, no⟩ ?D__law_thing) (SB.Df.ext ⟨up, no⟩ ?D__law_said_number) (SB.Df.ext ⟨up, no⟩ ?D__law_said_wish) (SB.Df.ext ⟨up, no⟩ ?D__law_said_question) (SB.Df.ext ⟨up, no⟩ ?D__law_said_book) (SB.Df.ext ⟨up, no⟩ ?D__law_said_saying) (SB.Df.ext ⟨up, no⟩ ?D__law_read) (SB.Df.ext ⟨up, no⟩ ?D__law_shown) (SB.Df.ext ⟨up, no⟩ ?D_law)
    case F_MD =>
      exact SB.most_mk KX G (by k_is)
    case F_SD =>
      refine' SB.sign_mk KX G ?a ?l ?k ?lo ?a1 ?a2 ?a3 ?a4
      (case a => k_is); (case l => k_is)
      (case k => exact ⟨⟨_, _, rfl, rfl⟩, ⟨_, _, rfl, rfl⟩, ⟨_, _, rfl, rfl⟩, ⟨_, _, rfl, rfl⟩, trivial⟩); (case lo => rfl)
      (case a1 => k_is); (case a2 => k_is); (case a3 => k_is); (case a4 => k_is)
    case F_PD =>
      refine' SB.partr_mk KX G ?a ?l ?k ?lo ?a1 ?a2 ?a3 ?a4 ?a5 ?a6
      (case a => k_is); (case l => k_is)
      (case k => exact ⟨⟨_, _, rfl, rfl⟩, ⟨_, _, rfl, rfl⟩, ⟨_, _, rfl, rfl⟩, trivial⟩); (case lo => rfl)
      (case a1 => k_is); (case a2 => k_is); (case a3 => k_is); (case a4 => k_is); (case a5 => k_is); (case a6 => k_is)
    case F_LT =>
      refine' SB.leaf_mk KX G ?a ?l ?z ?v
      (case a => k_is); (case l => k_is)
      (case z => decide)
      (case v => exact .cons ⟨_, rfl⟩ (.cons ⟨_, rfl⟩ (.cons ⟨_, rfl⟩ .nil)))
    case E_wish_in =>
      refine' SB.dt_mk KX G (hT "wish_in" (by decide +kernel)) ?a ?l ?c ?k ?tl ?tv ?ch ?tn
      (case a => k_is)
      (case l => k_is)
      (case c => k_is)
      (case k => k_is)
      (case tl => k_is); (case tv => exact rfl)
      (case ch => kernel_rfl); (case tn => kernel_rfl)
    case D_is_whole =>
      refine' SB.df_mk KX G ?a ?l ?c ?k
      (case a => k_is)
      (case l => k_is)
      (case c => k_is)
      (case k => k_is)
    case D_are_wholes =>
      refine' SB.df_mk KX G ?a ?l ?c ?k
      (case a => k_is)
      (case l => k_is)
      (case c => k_is)
      (case k => k_is)
    case D_are_sides =>
      refine' SB.df_mk KX G ?a ?l ?c ?k
      (case a => k_is)
      (case l => k_is)
      (case c => k_is)
      (case k => k_is)
    case D_is_question =>
      refine' SB.df_mk KX G ?a ?l ?c ?k
      (case a => k_is)
      (case l => k_is)
      (case c => k_is)
      (case k => k_is)
    case D_is_question_of =>
      refine' SB.df_mk KX G ?a ?l ?c ?k
      (case a => k_is)
      (case l => k_is)
      (case c => k_is)
      (case k => k_is)
    case D_common_of =>
      refine' SB.df_mk KX G ?a ?l ?c ?k
      (case a => k_is)
      (case l => k_is)
      (case c => k_is)
      (case k => k_is)
    case D_begins_at =>
      refine' SB.df_mk KX G ?a ?l ?c ?k
      (case a => k_is)
      (case l => k_is)
      (case c => k_is)
      (case k => k_is)
    case D_normal_form =>
      refine' SB.df_mk KX G ?a ?l ?c ?k
      (case a => k_is)
      (case l => k_is)
      (case c => k_is)
      (case k => k_is)
    case D_is_book =>
      refine' SB.df_mk KX G ?a ?l ?c ?k
      (case a => k_is)
      (case l => k_is)
      (case c => k_is)
      (case k => k_is)
    case D__is_many =>
      refine' SB.df_mk KX G ?a ?l ?c ?k
      (case a => k_is)
      (case l => k_is)
      (case c => k_is)
      (case k => k_is)
    case D_nought_form =>
      refine' SB.df_mk KX G ?a ?l ?c ?k
      (case a => k_is)
      (case l => k_is)
      (case c => k_is)
      (case k => k_is)
    case D_read_number =>
      refine' SB.df_mk KX G ?a ?l ?c ?k
      (case a => k_is)
      (case l => k_is)
      (case c => k_is)
      (case k => k_is)
    case D_read_point =>
      refine' SB.df_mk KX G ?a ?l ?c ?k
      (case a => k_is)
      (case l => k_is)
      (case c => k_is)
      (case k => k_is)
    case D_read_row =>
      refine' SB.df_mk KX G ?a ?l ?c ?k
      (case a => k_is)
      (case l => k_is)
      (case c => k_is)
      (case k => k_is)
    case D_read_wish =>
      refine' SB.df_mk KX G ?a ?l ?c ?k
      (case a => k_is)
      (case l => k_is)
      (case c => k_is)
      (case k => k_is)
    case D_read_book =>
      refine' SB.df_mk KX G ?a ?l ?c ?k
      (case a => k_is)
      (case l => k_is)
      (case c => k_is)
      (case k => k_is)
    case D_read_saying =>
      refine' SB.df_mk KX G ?a ?l ?c ?k
      (case a => k_is)
      (case l => k_is)
      (case c => k_is)
      (case k => k_is)
    case D_integer_in =>
      refine' SB.df_mk KX G ?a ?l ?c ?k
      (case a => k_is)
      (case l => k_is)
      (case c => k_is)
      (case k => k_is)
    case D_number_in =>
      refine' SB.df_mk KX G ?a ?l ?c ?k
      (case a => k_is)
      (case l => k_is)
      (case c => k_is)
      (case k => k_is)
    case D_point_in =>
      refine' SB.df_mk KX G ?a ?l ?c ?k
      (case a => k_is)
      (case l => k_is)
      (case c => k_is)
      (case k => k_is)
    case D_row_in =>
      refine' SB.df_mk KX G ?a ?l ?c ?k
      (case a => k_is)
      (case l => k_is)
      (case c => k_is)
      (case k => k_is)
    case D__read_alone =>
      refine' SB.df_mk KX G ?a ?l ?c ?k
      (case a => k_is)
      (case l => k_is)
      (case c => k_is)
      (case k => k_is)
    case D__lines_of =>
      refine' SB.df_mk KX G ?a ?l ?c ?k
      (case a => k_is)
      (case l => k_is)
      (case c => k_is)
      (case k => k_is)
    case D__all_or_none =>
      refine' SB.df_mk KX G ?a ?l ?c ?k
      (case a => k_is)
      (case l => k_is)
      (case c => k_is)
      (case k => k_is)
    case D__sides_in =>
      refine' SB.df_mk KX G ?a ?l ?c ?k
      (case a => k_is)
      (case l => k_is)
      (case c => k_is)
      (case k => k_is)
    case D__question_in =>
      refine' SB.df_mk KX G ?a ?l ?c ?k
      (case a => k_is)
      (case l => k_is)
      (case c => k_is)
      (case k => k_is)
    case D__saying_in =>
      refine' SB.df_mk KX G ?a ?l ?c ?k
      (case a => k_is)
      (case l => k_is)
      (case c => k_is)
      (case k => k_is)
    case D__opened_at =>
      refine' SB.df_mk KX G ?a ?l ?c ?k
      (case a => k_is)
      (case l => k_is)
      (case c => k_is)
      (case k => k_is)
    case D__closed =>
      refine' SB.df_mk KX G ?a ?l ?c ?k
      (case a => k_is)
      (case l => k_is)
      (case c => k_is)
      (case k => k_is)
    case D_show_number =>
      refine' SB.df_mk KX G ?a ?l ?c ?k
      (case a => k_is)
      (case l => k_is)
      (case c => k_is)
      (case k => k_is)
    case D_show_point =>
      refine' SB.df_mk KX G ?a ?l ?c ?k
      (case a => k_is)
      (case l => k_is)
      (case c => k_is)
      (case k => k_is)
    case D_show_row =>
      refine' SB.df_mk KX G ?a ?l ?c ?k
      (case a => k_is)
      (case l => k_is)
      (case c => k_is)
      (case k => k_is)
    case D_show_wish =>
      refine' SB.df_mk KX G ?a ?l ?c ?k
      (case a => k_is)
      (case l => k_is)
      (case c => k_is)
      (case k => k_is)
    case D_show_question =>
      refine' SB.df_mk KX G ?a ?l ?c ?k
      (case a => k_is)
      (case l => k_is)
      (case c => k_is)
      (case k => k_is)
    case D_show_book =>
      refine' SB.df_mk KX G ?a ?l ?c ?k
      (case a => k_is)
      (case l => k_is)
      (case c => k_is)
      (case k => k_is)
    case D_show_saying =>
      refine' SB.df_mk KX G ?a ?l ?c ?k
      (case a => k_is)
      (case l => k_is)
      (case c => k_is)
      (case k => k_is)
    case D__sign_of =>
      refine' SB.df_mk KX G ?a ?l ?c ?k
      (case a => k_is)
      (case l => k_is)
      (case c => k_is)
      (case k => k_is)
    case D__show_sides =>
      refine' SB.df_mk KX G ?a ?l ?c ?k
      (case a => k_is)
      (case l => k_is)
      (case c => k_is)
      (case k => k_is)
    case D__law_well =>
      refine' SB.df_mk KX G ?a ?l ?c ?k
      (case a => k_is)
      (case l => k_is)
      (case c => k_is)
      (case k => k_is)
    case D__law_draw =>
      refine' SB.df_mk KX G ?a ?l ?c ?k
      (case a => k_is)
      (case l => k_is)
      (case c => k_is)
      (case k => k_is)
    case D__law_same =>
      refine' SB.df_mk KX G ?a ?l ?c ?k
      (case a => k_is)
      (case l => k_is)
      (case c => k_is)
      (case k => k_is)
    case D__law_low =>
      refine' SB.df_mk KX G ?a ?l ?c ?k
      (case a => k_is)
      (case l => k_is)
      (case c => k_is)
      (case k => k_is)
    case D__law_divided =>
      refine' SB.df_mk KX G ?a ?l ?c ?k
      (case a => k_is)
      (case l => k_is)
      (case c => k_is)
      (case k => k_is)
    case D__law_ground =>
      refine' SB.df_mk KX G ?a ?l ?c ?k
      (case a => k_is)
      (case l => k_is)
      (case c => k_is)
      (case k => k_is)
    case D__law_unlike =>
      refine' SB.df_mk KX G ?a ?l ?c ?k
      (case a => k_is)
      (case l => k_is)
      (case c => k_is)
      (case k => k_is)
    case D__law_power =>
      refine' SB.df_mk KX G ?a ?l ?c ?k
      (case a => k_is)
      (case l => k_is)
      (case c => k_is)
      (case k => k_is)
    case D__law_integer =>
      refine' SB.df_mk KX G ?a ?l ?c ?k
      (case a => k_is)
      (case l => k_is)
      (case c => k_is)
      (case k => k_is)
    case D__law_number =>
      refine' SB.df_mk KX G ?a ?l ?c ?k
      (case a => k_is)
      (case l => k_is)
      (case c => k_is)
      (case k => k_is)
    case D__law_sided =>
      refine' SB.df_mk KX G ?a ?l ?c ?k
      (case a => k_is)
      (case l => k_is)
      (case c => k_is)
      (case k => k_is)
    case D__law_book =>
      refine' SB.df_mk KX G ?a ?l ?c ?k
      (case a => k_is)
      (case l => k_is)
      (case c => k_is)
      (case k => k_is)
    case D__law_deep =>
      refine' SB.df_mk KX G ?a ?l ?c ?k
      (case a => k_is)
      (case l => k_is)
      (case c => k_is)
      (case k => k_is)
    case D__law_wish =>
      refine' SB.df_mk KX G ?a ?l ?c ?k
      (case a => k_is)
      (case l => k_is)
      (case c => k_is)
      (case k => k_is)
    case D__law_thing =>
      refine' SB.df_mk KX G ?a ?l ?c ?k
      (case a => k_is)
      (case l => k_is)
      (case c => k_is)
      (case k => k_is)
    case D__law_said_number =>
      refine' SB.df_mk KX G ?a ?l ?c ?k
      (case a => k_is)
      (case l => k_is)
      (case c => k_is)
      (case k => k_is)
    case D__law_said_wish =>
      refine' SB.df_mk KX G ?a ?l ?c ?k
      (case a => k_is)
      (case l => k_is)
      (case c => k_is)
      (case k => k_is)
    case D__law_said_question =>
      refine' SB.df_mk KX G ?a ?l ?c ?k
      (case a => k_is)
      (case l => k_is)
      (case c => k_is)
      (case k => k_is)
    case D__law_said_book =>
      refine' SB.df_mk KX G ?a ?l ?c ?k
      (case a => k_is)
      (case l => k_is)
      (case c => k_is)
      (case k => k_is)
    case D__law_said_saying =>
      refine' SB.df_mk KX G ?a ?l ?c ?k
      (case a => k_is)
      (case l => k_is)
      (case c => k_is)
      (case k => k_is)
    case D__law_read =>
      refine' SB.df_mk KX G ?a ?l ?c ?k
      (case a => k_is)
      (case l => k_is)
      (case c => k_is)
      (case k => k_is)
    case D__law_shown =>
      refine' SB.df_mk KX G ?a ?l ?c ?k
      (case a => k_is)
      (case l => k_is)
      (case c => k_is)
      (case k => k_is)
    case D_law =>
      refine' SB.df_mk KX G ?a ?l ?c ?k
      (case a => k_is)
      (case l => k_is)
      (case c => k_is)
      (case k => k_is)
    case B =>
      refine' ⟨PySem.W.mg_none_of KX G ?z_len, PySem.W.mg_none_of KX G ?z_int, PySem.W.mg_none_of KX G ?z_isinstance, PySem.W.mg_none_of KX G ?z_tuple, PySem.W.mg_none_of KX G ?z_list, PySem.W.mg_none_of KX G ?z_str, PySem.W.mg_none_of KX G ?z_bool, PySem.W.mg_none_of KX G ?z_range, PySem.W.mg_none_of KX G ?z_abs, PySem.W.mg_none_of KX G ?z_max, PySem.W.mg_none_of KX G ?z_min, PySem.W.mg_none_of KX G ?z_any, PySem.W.mg_none_of KX G ?z_all, PySem.W.mg_none_of KX G ?z_zip, PySem.W.mg_of KX G ?z_gcd⟩
      (case z_len => k_is)
      (case z_int => k_is)
      (case z_isinstance => k_is)
      (case z_tuple => k_is)
      (case z_list => k_is)
      (case z_str => k_is)
      (case z_bool => k_is)
      (case z_range => k_is)
      (case z_abs => k_is)
      (case z_max => k_is)
      (case z_min => k_is)
      (case z_any => k_is)
      (case z_all => k_is)
      (case z_zip => k_is)
      (case z_gcd => k_is)
    case xenumerate => exact PySem.W.mg_none_of KX G (by k_is)
