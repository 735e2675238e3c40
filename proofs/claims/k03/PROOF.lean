import PyProof.Rows.All
import Wide.All
import OpenK.AllK
import Wide.FinOn
import PySem.Challenge.RW_sidebooks_k03_whole_rank_and_at_once
import HandS.ForExc
import HandS.ForMost
import HandS.Wide
import HandS.IsInst
import HandS.Flow
import HandS.Call
import PyProof.NoPylong
import PyProof.Rows.RuleB_floordiv
import HandS.TupSets
import HandS.SetBool
import KE.KeyNested
import HandS.Comp
import HandS.AnyAll
import HandS.GenOver
import PyProof.GenRules
import PyProof.GenQ
import PyProof.ConsumeS
import HandS.Gcd
import HandS.Zip
import HandS.TupMul
import HandS.TupAny
import PyProof.WalksMore
import HandS.TryOnly
import HandS.Style
import HandS.WordsDict
import HandS.List
import PyProof.Rows.SeqCalls
import PyProof.ListMulRoad
import PyProof.FactsAll.tuple_2
import HandS.Base
import PyProof.ReprRoads
import HandS.Ends
import KE.KRevSl
import HandS.EndOwn
import KE.KNestM
set_option Elab.async false
set_option linter.all false
set_option maxRecDepth 100000
set_option maxHeartbeats 8000000
namespace SB
open PySem L2
def topI (i : Nat) : Stmt := PySem.Challenge.pw_sidebooks_k03_whole_rank_and_at_once.main.body.getD i (.Pass ⟨0, 0, 0, 0⟩)
abbrev s_is_whole : Stmt := topI 7
abbrev s_is_number : Stmt := topI 8
abbrev s_are_numbers : Stmt := topI 9
abbrev s_is_point : Stmt := topI 10
abbrev s_are_wholes : Stmt := topI 11
abbrev s_are_sides : Stmt := topI 12
abbrev s_is_question : Stmt := topI 13
abbrev s_is_question_of : Stmt := topI 14
abbrev s_is_index : Stmt := topI 15
abbrev s_check_point : Stmt := topI 16
abbrev s_check_index : Stmt := topI 17
abbrev s_sign : Stmt := topI 18
abbrev s_answer_at : Stmt := topI 19
abbrev s__sum_at : Stmt := topI 20
abbrev s_common_of : Stmt := topI 21
abbrev s_begins_at : Stmt := topI 22
abbrev s_normal_form : Stmt := topI 23
abbrev s_rank_of : Stmt := topI 24
abbrev s_kept_of : Stmt := topI 25
abbrev s_rest_of : Stmt := topI 26
abbrev s__taken_out : Stmt := topI 27
abbrev s_is_book : Stmt := topI 29
abbrev s_check_book : Stmt := topI 30
abbrev s_without : Stmt := topI 31
abbrev s_turned : Stmt := topI 32
abbrev s_at_once : Stmt := topI 33
abbrev s_rank : Stmt := topI 34
abbrev s__is_many : Stmt := topI 35
abbrev s_all_sides : Stmt := topI 36
abbrev s_sides_with_walls : Stmt := topI 37
abbrev s__turned_question : Stmt := topI 38
abbrev s_nought_form : Stmt := topI 39
abbrev s_row_of : Stmt := topI 41
abbrev s__row_at : Stmt := topI 42
abbrev s__law_deck : Stmt := topI 44
abbrev s__law_take : Stmt := topI 45
abbrev s__law_gcd : Stmt := topI 46
abbrev s__law_pair : Stmt := topI 47
abbrev s__law_plus : Stmt := topI 48
abbrev s__law_times : Stmt := topI 49
abbrev s__law_less : Stmt := topI 50
abbrev s__law_same : Stmt := topI 51
abbrev s__law_ground : Stmt := topI 52
abbrev s__law_line : Stmt := topI 53
abbrev s__law_page : Stmt := topI 54
abbrev s__law_through : Stmt := topI 55
abbrev s__law_web : Stmt := topI 56
abbrev s__law_least : Stmt := topI 57
abbrev s__law_picks : Stmt := topI 58
abbrev s__law_rank : Stmt := topI 59
abbrev s__law_meeting : Stmt := topI 60
abbrev s__law_less_row : Stmt := topI 61
abbrev s__law_right : Stmt := topI 62
abbrev s_law : Stmt := topI 63
end SB
namespace SB
open PySem PySem.Spec PyProof.Rows L2
/-- nobody looks on when two long integers are divided -/
structure NSK (P : Program) (K : PySem.W.Frag) : Prop where
  seer : ∀ h : Heap, K.In h → h.NoSeer
  tree : P.given.tree = none
/-- // by any number but 0 -/
theorem op_fdivP {X : Cx} {e : Env} {l : List Env} (NS : NSK X.prog X.K) (hd : X.A.depth + Builtin.pylongFrames < recursionLimit) (hst : X.stack = e :: l) (hg : e.scope.isGenerator = false) (hc : e.scope.isCoroutine = false) (hb : e.builtins = builtinsNs) (hm : e.globals = mainGlobals) :
    OpR X (binaryOp .FloorDiv) (rI (fun _ j => j ≠ 0) fun i j => .int (i.fdiv j)) := by
  intro pins s σ H x y v u Q I rx ry h
  obtain ⟨i, j, rfl, rfl, hj, q⟩ := h
  obtain ⟨t, rfl⟩ := rx
  obtain ⟨t', rfl⟩ := ry
  refine floordiv_int hj ?_ (.inr (PylongRoom.of I.nolimit hd (SeerAt.of (NS.seer _ I.kIn) NS.tree (by rw [I.ok.frames, hst]) hg hc hb hm)))
  exact ⟨.int (i.fdiv j), H, I.tok _, ⟨_, rfl⟩, q⟩
/-- // by a number above 0 -/
theorem op_fdivE {X : Cx} {e : Env} {l : List Env} (NS : NSK X.prog X.K) (hd : X.A.depth + Builtin.pylongFrames < recursionLimit) (hst : X.stack = e :: l) (hg : e.scope.isGenerator = false) (hc : e.scope.isCoroutine = false) (hb : e.builtins = builtinsNs) (hm : e.globals = mainGlobals) :
    OpR X (binaryOp .FloorDiv) (rI (fun _ j => 0 < j) fun i j => .int (i / j)) := by
  intro pins s σ H x y v u Q I rx ry h
  obtain ⟨i, j, rfl, rfl, hj, q⟩ := h
  refine op_fdivP NS hd hst hg hc hb hm pins s σ H _ _ v u Q I rx ry ⟨i, j, rfl, rfl, Int.ne_of_gt hj, ?_⟩
  have q : Q (V.int (i / j)) H := q
  rw [← Int.fdiv_eq_ediv_of_nonneg i (Int.le_of_lt hj)] at q
  exact q
theorem Room.far {k : Nat} {A : Around} (r : Room (k + 33) A) : A.depth + Builtin.pylongFrames < recursionLimit := by
  have := r.dp
  show A.depth + 100 < _
  omega
end SB
/-! Small sets whose members are objects of one sort (tuples of tuples): searched, filled. Over the table's own facts (HandS.TupSets). -/
namespace SG
open PySem PySem.Spec PyProof.Rows L2
/-- a sort of members -/
structure Kd (P : Program) (w : World) (κ : Type) [DecidableEq κ] where
  is : Heap → κ → Addr → Prop
  hash : κ → Int
  draws : κ → Nat
  keep : ∀ {h h' : Heap} {k : κ} {b : Addr}, is h k b → (∀ c o, h.get? c = some o → (∃ vs n, o.data = .seq vs n) → h'.get? c = some o) → is h' k b
  eqB : ∀ {A : Around} {E : Value → Shared → Prop} {s : Shared} {x y : κ} {a b : Addr} {Q : Bool → Shared → Prop}, A.units + 8 < cLine → is s.heap x a → is s.heap y b → Q (decide (x = y)) s → wpAny (model P w) A (eqBool (.ref a) (.ref b)) Q E s
  pyH : ∀ {A : Around} {E : Value → Shared → Prop} {s : Shared} {k : κ} {a : Addr} {Q : Int → Shared → Prop}, A.units + 8 < cLine → is s.heap k a → Q (hash k) { s with toks := s.toks + draws k } → wpAny (model P w) A (pyHash (.ref a)) Q E s
  quiet : ∀ {A : Around} {E : Value → Shared → Prop} {s : Shared} {k : κ} {a : Addr} {Q : Bool → Shared → Prop}, is s.heap k a → Q true s → wpAny (model P w) A (eqIsQuiet 8 (.ref a)) Q E s
  noCls : ∀ {A : Around} {E : Value → Shared → Prop} {s : Shared} {k : κ} {a : Addr} {Q : Bool → Shared → Prop}, is s.heap k a → Q false s → wpAny (model P w) A (ofAClassStatement 8 (.ref a)) Q E s
  byV : ∀ {A : Around} {E : Value → Shared → Prop} {s : Shared} {k : κ} {a : Addr} {Q : Bool → Shared → Prop}, is s.heap k a → Q true s → wpAny (model P w) A (hashByValue 8 (.ref a)) Q E s
section
variable {P : Program} {w : World} {κ : Type} [DecidableEq κ] (kd : Kd P w κ) {A : Around} {E : Value → Shared → Prop} {s : Shared}
theorem kd_same {h h' : Heap} {k : κ} {b a : Addr} {o : Obj} {es : Array (Int × Value)} {ep : Nat} {t : SetTable} (hb : kd.is h k b) (ho : h.get? a = some o) (hd : o.data = .set es ep t) (sb : Heap.SameBut a h h') : kd.is h' k b :=
  kd.keep hb fun c o' hc hseq => (sb.2 c fun z => by
    obtain ⟨vs, n, hs⟩ := hseq
    rw [z, ho] at hc
    cases hc
    rw [hd] at hs
    cases hs).trans hc
/-- looking among members of the sort tells nothing -/
theorem kd_unseen {x : Addr} {k : κ} {ys : List Value} {Q : Bool → Shared → Prop} (hx : kd.is s.heap k x) (hy : ∀ y ∈ ys, ∃ c k', y = Value.ref c ∧ kd.is s.heap k' c) (q : Q false s) : wpAny (model P w) A (searchCouldBeSeen (.ref x) ys) Q E s := by
  unfold searchCouldBeSeen
  refine wpAny_bind ?_
  refine wpAny_forIn_list _ (fun left r s2 => r.1 = none ∧ s2 = s ∧ ∀ y ∈ left, ∃ c k', y = Value.ref c ∧ kd.is s.heap k' c) _ ?_ ?_ _ _ ⟨rfl, rfl, hy⟩
  · rintro y left r s2 ⟨er, rfl, al⟩
    obtain ⟨c, k', rfl, hc⟩ := al _ List.mem_cons_self
    have al2 : ∀ y ∈ left, ∃ c k', y = Value.ref c ∧ kd.is s2.heap k' c := fun u hu => al u (List.mem_cons_of_mem _ hu)
    dsimp only
    by_cases same : (x == c || (carriedByValue (.ref x) && carriedByValue (.ref c))) = true
    · exact wp_if_pos same (wpAny_pure ⟨rfl, rfl, al2⟩)
    · refine wp_if_neg same (wpAny_bind (kd.quiet hx ?_))
      simp only [Bool.not_true, Bool.false_eq_true, if_false]
      refine wpAny_bind (kd.quiet hc ?_)
      simp only [Bool.not_true, Bool.false_eq_true, if_false]
      refine wpAny_bind (kd.noCls hx ?_)
      simp only [Bool.false_eq_true, if_false]
      refine wpAny_bind (kd.noCls hc ?_)
      simp only [Bool.false_eq_true, if_false]
      exact wpAny_pure ⟨rfl, rfl, al2⟩
  · rintro ⟨r1, r2⟩ s2 ⟨er, rfl, _⟩
    simp only at er
    subst er
    exact wpAny_pure q
def rowsG (L : List (Addr × κ)) : List (Int × Value) := L.map fun p => (kd.hash p.2, Value.ref p.1)
/-- a set at a that holds L, each key once -/
structure SR (h : Heap) (a : Addr) (L : List (Addr × κ)) (es : Array (Int × Value)) (ep : Nat) (t : SetTable) : Prop where
  ob : ∃ o, h.get? a = some o ∧ o.ExactSet ∧ o.data = .set es ep t
  rows : es.toList = rowsG kd L
  tab : TabOk t (L.map fun p => kd.hash p.2)
  nd : (L.map (·.2)).Nodup
  mem : ∀ p ∈ L, kd.is h p.2 p.1
  plain : t.plain = true
  led : w.params.followText "set-order" = true ∨ t.led = true
  room : L.length * 5 < t.mask * 3
  few : L.length < 64
variable {kd} {a : Addr} {L : List (Addr × κ)} {es : Array (Int × Value)} {ep : Nat} {t : SetTable}
theorem SR.size (R : SR kd s.heap a L es ep t) : es.size = L.length := by
  have e := congrArg List.length R.rows
  rwa [rowsG, Array.length_toList, List.length_map] at e
theorem SR.len (R : SR kd s.heap a L es ep t) : t.place.toList.length = L.length := by
  have e := R.tab.sz
  rwa [List.length_map, ← Array.length_toList] at e
theorem SR.fits (R : SR kd s.heap a L es ep t) : t.fits es.size = true := by
  have e1 := R.size
  have e2 := R.len
  have e3 := R.room
  rw [Array.length_toList] at e2
  unfold SetTable.fits SetTable.fill
  rw [R.tab.dm, Bool.and_eq_true, beq_iff_eq, decide_eq_true_eq]
  exact ⟨by omega, by show t.place.size + 0 ≤ t.mask; omega⟩
theorem SR.at_ (R : SR kd s.heap a L es ep t) {i : Nat} {p : Addr × κ} (h : L[i]? = some p) : es[i]? = some (kd.hash p.2, Value.ref p.1) := by
  have e : es.toList[i]? = some (kd.hash p.2, Value.ref p.1) := by rw [R.rows, rowsG, List.getElem?_map, h] <;> rfl
  rwa [Array.getElem?_toList] at e
/-- the c-th look on the way of a hash -/
abbrev look (t : SetTable) (hk : Int) (c : Nat) : SetTable.Probe := nth t.mask (runAt t.mask (SetTable.bits hk % (t.mask + 1)) (SetTable.bits hk)) c
theorem look_add (t : SetTable) (hk : Int) (c q : Nat) : nth t.mask (look t hk c) q = look t hk (c + q) := (nth_add t.mask c _ q).symm
theorem look_clean (t : SetTable) (hk : Int) (c : Nat) : (look t hk c).dummy = none := by
  have go : ∀ (n : Nat) (p : SetTable.Probe), p.dummy = none → (nth t.mask p n).dummy = none := fun n => by
    induction n with
    | zero => exact fun _ h => h
    | succ n ih => exact fun p h => ih _ (by unfold adv; split <;> exact h)
  exact go c _ rfl
/-- how the search answers where a member is met -/
def met (add : Bool) (i : Nat) : SetFound := .there (if add = true then none else some i)
theorem sr_search (R : SR kd s.heap a L es ep t) (add : Bool) {x : Addr} {k : κ} (hx : kd.is s.heap k x) (hu : A.units + 8 < cLine) {K : Nat} (hKf : K < 10 * SetTable.turns t.mask) (hK : way t.mask (kd.hash k) K ∉ t.place.toList)
    (hKb : ∀ c, c < K → way t.mask (kd.hash k) c ∈ t.place.toList) {Q : SetFound → Shared → Prop} (yes : ∀ i, k ∈ L.map (·.2) → Q (met add i) s) (no : k ∉ L.map (·.2) → Q (.free (way t.mask (kd.hash k) K) false) s) :
    ∀ (f c : Nat) (stand : Option SetTable.Probe), stand.getD (t.probeStart (kd.hash k)) = look t (kd.hash k) c → c ≤ K → K - c < f →
      (∀ (i : Nat) p, L[i]? = some p → p.2 = k → ∃ c', c ≤ c' ∧ c' < K ∧ t.place.toList[i]? = some (way t.mask (kd.hash k) c')) →
      wpAny (model P w) A (setSearchFrom a (.ref x) (kd.hash k) add f stand) Q E s
  | 0, c, stand, _, _, hf, _ => absurd hf (Nat.not_lt_zero _)
  | f + 1, c, stand, est, hc, hf, ahead => by
    obtain ⟨o, ho, hex, hd⟩ := R.ob
    have hAt : Nat → Int := fun i => (es[i]?.map (·.1)).getD 0
    have hashAt : ∀ {i : Nat} {p}, L[i]? = some p → (es[i]?.map (·.1)).getD 0 = kd.hash p.2 := fun {i p} hp => by rw [R.at_ hp] <;> rfl
    have wy : ∀ q, (nth t.mask (look t (kd.hash k) c) q).j = way t.mask (kd.hash k) (c + q) := fun q => congrArg SetTable.Probe.j (look_add t _ c q)
    rw [setSearchFrom_succ]
    refine wpAny_bind (wpAny_setState_of ho hd R.fits ?_)
    dsimp only
    refine wp_if_neg (by unfold SetTable.gaveWay; rw [mask_odd R.tab.mok]; decide) ?_
    try refine wpAny_bind (wpAny_pure ?_)
    have spec := go_spec t R.tab.ris R.tab.dm (fun i => (es[i]?.map (·.1)).getD 0) (kd.hash k) (10 * SetTable.turns t.mask) (K - c) _ (look_clean t (kd.hash k) c) (by omega)
      (fun q hq => by rw [wy]; exact hKb (c + q) (by omega)) (by rw [wy, show c + (K - c) = K by omega]; exact hK)
    rcases spec with ⟨q, i, hq, hi, hh, early, hpr⟩ | ⟨early, hpr⟩
    · rw [wy] at hi
      have hil : i < L.length := by
        have z := (List.getElem?_eq_some_iff.mp hi).1
        rwa [R.len] at z
      obtain ⟨p, hp⟩ : ∃ p, L[i]? = some p := ⟨_, List.getElem?_eq_getElem hil⟩
      have pin : p ∈ L := List.mem_of_getElem? hp
      have hsl : t.slot (way t.mask (kd.hash k) (c + q)) = .live i := slot_live R.tab.ris hi
      have probe : t.probe (fun i => (es[i]?.map (·.1)).getD 0) (kd.hash k) (stand.getD (t.probeStart (kd.hash k))) = some (.candidate (way t.mask (kd.hash k) (c + q)) i (look t (kd.hash k) (c + (q + 1)))) := by
        rw [est, ← wy, ← look_add]
        exact hpr
      rw [probe]
      dsimp only
      have behind : wpAny (model P w) A (searchRest a (.ref x) (kd.hash k) add f es t (way t.mask (kd.hash k) (c + q)) i (look t (kd.hash k) (c + (q + 1)))) Q E s := by
        unfold searchRest
        rw [R.at_ hp]
        dsimp only
        refine wpAny_bind (wpAny_holding (kd.eqB hu (R.mem p pin) hx ?_))
        refine wpAny_bind (wpAny_setState_of ho hd R.fits ?_)
        dsimp only
        by_cases eqk : p.2 = k
        · have mem : k ∈ L.map (·.2) := List.mem_map.mpr ⟨p, pin, eqk⟩
          cases add with
          | true => exact wp_if_pos (by simp [eqk]) (wpAny_pure (yes i mem))
          | false =>
            refine wp_if_neg (by simp) ?_
            try refine wpAny_bind (wpAny_pure ?_)
            rw [sameMem]
            dsimp only
            simp only [if_true, hsl, R.at_ hp]
            refine wpAny_bind (wpAny_isSame_ref_self (wpAny_bind (wpAny_pure ?_)))
            simp only [if_true]
            exact wp_if_pos (by simp [eqk]) (wpAny_pure (yes i mem))
        · refine wp_if_neg (by simp [eqk]) ?_
          try refine wpAny_bind (wpAny_pure ?_)
          rw [sameMem]
          dsimp only
          simp only [if_true, hsl, R.at_ hp]
          refine wpAny_bind (wpAny_isSame_ref_self (wpAny_bind (wpAny_pure ?_)))
          simp only [if_true]
          refine wp_if_neg (by simp [eqk]) ?_
          refine sr_search R add hx hu hKf hK hKb yes no f (c + (q + 1)) _ rfl (by omega) (by omega) fun i0 p0 h0 k0 => ?_
          obtain ⟨c', l1, l2, l3⟩ := ahead i0 p0 h0 k0
          have nlt : ¬ c' < c + q := fun z => early (c' - c) i0 (by omega) (by rw [wy, show c + (c' - c) = c' by omega]; exact l3) ((hashAt h0).trans (congrArg kd.hash k0))
          have nne : c' ≠ c + q := fun z => by
            rw [z] at l3
            have z2 := slot_live R.tab.ris l3
            rw [hsl] at z2
            injection z2 with z2
            rw [← z2, hp] at h0
            exact eqk ((congrArg Prod.snd (Option.some.inj h0)).trans k0)
          exact ⟨c', by omega, l2, l3⟩
      by_cases hl : t.led = true
      · refine wp_if_neg (by simp [hl]) ?_
        try refine wpAny_bind (wpAny_pure ?_)
        exact behind
      · refine wp_if_pos (by simp [hl]) (wpAny_bind (kd_unseen kd hx (fun y hy => ?_) ?_))
        · obtain ⟨e, he, rfl⟩ := List.mem_map.mp hy
          have he2 : e ∈ es.toList := by
            have z : e ∈ es ∧ e.1 = kd.hash k := by simpa using he
            simpa using z.1
          rw [R.rows, rowsG] at he2
          obtain ⟨p2, m2, rfl⟩ := List.mem_map.mp he2
          exact ⟨p2.1, p2.2, rfl, R.mem p2 m2⟩
        · refine wp_if_neg (by decide) ?_
          try refine wpAny_bind (wpAny_pure ?_)
          exact behind
    · have probe : t.probe (fun i => (es[i]?.map (·.1)).getD 0) (kd.hash k) (stand.getD (t.probeStart (kd.hash k))) = some (.empty (way t.mask (kd.hash k) K) none) := by
        have z : way t.mask (kd.hash k) K = (nth t.mask (look t (kd.hash k) c) (K - c)).j := by rw [wy, show c + (K - c) = K by omega]
        rw [est, z]
        exact hpr
      rw [probe]
      dsimp only
      refine wpAny_pure (no fun hm => ?_)
      obtain ⟨p0, m0, k0⟩ := List.mem_map.mp hm
      obtain ⟨i0, l0, e0⟩ := List.getElem_of_mem m0
      have h0 : L[i0]? = some p0 := by rw [List.getElem?_eq_getElem l0, e0]
      obtain ⟨c', l1, l2, l3⟩ := ahead i0 p0 h0 k0
      exact early (c' - c) i0 (by omega) (by rw [wy, show c + (c' - c) = c' by omega]; exact l3) ((hashAt h0).trans (congrArg kd.hash k0))
theorem sr_find (R : SR kd s.heap a L es ep t) (add : Bool) {x : Addr} {k : κ} (hx : kd.is s.heap k x) (hu : A.units + 8 < cLine) {Q : SetFound → Shared → Prop} (yes : ∀ i, k ∈ L.map (·.2) → Q (met add i) s)
    (no : ∀ K, k ∉ L.map (·.2) → way t.mask (kd.hash k) K ∉ t.place.toList → (∀ c, c < K → way t.mask (kd.hash k) c ∈ t.place.toList) → Q (.free (way t.mask (kd.hash k) K) false) s) :
    wpAny (model P w) A (setSearch a (.ref x) (kd.hash k) add) Q E s := by
  have hroom := R.room
  obtain ⟨K, hKf, hK, hKb⟩ := R.tab.first (by rw [List.length_map]; omega) (kd.hash k)
  have few : 10 * SetTable.turns t.mask ≤ 1420 := by
    unfold SetTable.turns
    rcases R.tab.mok with e | e | e <;> omega
  unfold setSearch
  refine sr_search R add hx hu hKf hK hKb yes (fun n => no K n hK hKb) 100000 0 none rfl (Nat.zero_le _) (by omega) fun i p hp hk => ?_
  have hi : (L.map fun p => kd.hash p.2)[i]? = some (kd.hash k) := by rw [List.getElem?_map, hp, ← hk] <;> rfl
  have hil : i < t.place.toList.length := by
    rw [R.len]
    exact (List.getElem?_eq_some_iff.mp hp).1
  obtain ⟨c, hc, e⟩ := R.tab.before hK hi (List.getElem?_eq_getElem hil)
  exact ⟨c, Nat.zero_le _, hc, by rw [List.getElem?_eq_getElem hil, e]⟩
end
end SG
namespace SG
open PySem PySem.Spec PyProof.Rows L2
section
variable {P : Program} {w : World} {κ : Type} [DecidableEq κ] {kd : Kd P w κ} {A : Around} {E : Value → Shared → Prop} {s : Shared} {a : Addr} {L : List (Addr × κ)} {es : Array (Int × Value)} {ep : Nat} {t : SetTable}
theorem rowsG_len : (rowsG kd L).length = L.length := List.length_map _
theorem rowsG_at {es : Array (Int × Value)} (hr : es.toList = rowsG kd L) {i : Nat} (h : i < L.length) : es[i]? = some (kd.hash (L[i]).2, Value.ref (L[i]).1) := by
  rw [← Array.getElem?_toList, hr, rowsG, List.getElem?_map, List.getElem?_eq_getElem h] <;> rfl
/-- the rows taken in another sequence -/
theorem rows_pick {es : Array (Int × Value)} (hr : es.toList = rowsG kd L) : ∀ l : List Nat, (∀ i ∈ l, i < L.length) →
    l.filterMap (fun i => es[i]?) = rowsG kd (l.filterMap fun i => L[i]?) ∧ ((l.filterMap fun i => L[i]?).map fun p => kd.hash p.2) = l.map fun i => (es.map (·.1)).getD i 0
  | [], _ => ⟨rfl, rfl⟩
  | i :: l, h => by
    have hi := h i List.mem_cons_self
    obtain ⟨e1, e2⟩ := rows_pick hr l fun j hj => h j (List.mem_cons_of_mem _ hj)
    have e3 := rowsG_at hr hi
    have e4 : (es.map (·.1)).getD i 0 = kd.hash (L[i]).2 := by
      have z : (es.map (·.1))[i]? = some (kd.hash (L[i]).2) := by rw [Array.getElem?_map, e3] <;> rfl
      simp [Array.getD_eq_getD_getElem?, z]
    constructor
    · rw [List.filterMap_cons_some e3, List.filterMap_cons_some (List.getElem?_eq_getElem hi), e1] <;> rfl
    · rw [List.filterMap_cons_some (List.getElem?_eq_getElem hi), List.map_cons, List.map_cons, e2, e4]
theorem pick_all : ∀ l : List (Addr × κ), (List.range l.length).filterMap (fun i => l[i]?) = l := by
  intro l
  have go : ∀ n, n ≤ l.length → (List.range n).filterMap (fun i => l[i]?) = l.take n := fun n => by
    induction n with
    | zero => exact fun _ => rfl
    | succ n ih =>
      intro hn
      rw [List.range_succ, List.filterMap_append, ih (Nat.le_of_lt hn), List.take_succ, List.getElem?_eq_getElem hn, List.filterMap_cons_some (List.getElem?_eq_getElem hn)] <;> rfl
  rw [go _ (Nat.le_refl _), List.take_length]
/-- the table is laid anew, larger -/
theorem sr_relay {o : Obj} (ho : s.heap.get? a = some o) (hex : o.ExactSet) (hd : o.data = .set es ep t) (hr : es.toList = rowsG kd L) (hps : t.place.size = es.size) (hdm : t.dummies = #[]) (hm : es.size ≤ t.mask) (nd : (L.map (·.2)).Nodup) (mem : ∀ p ∈ L, kd.is s.heap p.2 p.1)
    (pl : t.plain = true) (ld : w.params.followText "set-order" = true ∨ t.led = true) (few : L.length < 64) {wanted M : Nat} (eM : SetTable.sizeAbove wanted - 1 = M) (hM : MaskOk M) (small : SetTable.sizeAbove wanted ≤ 128) (fit : L.length * 5 < M * 3) {Q : Unit → Shared → Prop}
    (q : ∀ h' L' es' ep' t', Heap.SameBut a s.heap h' → SR kd h' a L' es' ep' t' → L'.Perm L → Q () { s with heap := h' }) : wpAny (model P w) A (setRelay a wanted) Q E s := by
  have el : es.size = L.length := by
    have z := congrArg List.length hr
    rwa [rowsG_len, Array.length_toList] at z
  have fits : t.fits es.size = true := by
    unfold SetTable.fits SetTable.fill
    rw [hdm, Bool.and_eq_true, beq_iff_eq, decide_eq_true_eq]
    exact ⟨hps, by show t.place.size + 0 ≤ t.mask; omega⟩
  obtain ⟨t', ord, e, hp, T, em, ell, epl, _⟩ := relaid_ok t (hs := es.map (·.1)) (wanted := wanted) eM hM (by rw [Array.size_map, el]; omega)
  rw [Array.size_map, el] at hp
  obtain ⟨r1, r2⟩ := rows_pick hr ord.toList fun i hi => List.mem_range.mp (hp.mem_iff.mp hi)
  have pm : (ord.toList.filterMap fun i => L[i]?).Perm L := by
    have z := hp.filterMap fun i => L[i]?
    rwa [pick_all L] at z
  rw [← r2] at T
  have rws : (ord.filterMap (es[·]?)).toList = rowsG kd (ord.toList.filterMap fun i => L[i]?) := by
    first | (rw [Array.toList_filterMap]; exact r1) | simpa using r1
  generalize ord.toList.filterMap (fun i => L[i]?) = L2 at pm T rws
  have sz2 : (ord.filterMap (es[·]?)).size = es.size := by
    have z := congrArg List.length rws
    rw [rowsG_len, Array.length_toList, pm.length_eq] at z
    rw [z, el]
  rw [setRelay_eq]
  refine wpAny_bind (wpAny_setState_of ho hd fits ?_)
  dsimp only
  refine wp_if_neg (by rw [sizeLine_eq]; omega) ?_
  try refine wpAny_bind (wpAny_pure ?_)
  rw [e]
  dsimp only
  refine wpAny_bind (wp_if_neg (by rw [sz2]; simp) ?_)
  try refine wpAny_bind (wpAny_pure ?_)
  refine wpAny_pure ?_
  dsimp only
  refine wpAny_storeSet_of ho hd ?_ (by rw [sz2, el, sizeLine_eq]; omega)
  have sb : Heap.SameBut a s.heap (s.heap.update a (Obj.putSet (ord.filterMap (es[·]?)) t')) := Heap.SameBut.update ..
  exact q _ L2 _ (ep + 1) t' sb ⟨⟨_, store_at ho hd, ⟨hex.1, hex.2.1, hex.2.2⟩, rfl⟩, rws, T, (pm.map (·.2)).nodup_iff.mpr nd, fun p hpm => kd_same kd (mem p (pm.mem_iff.mp hpm)) ho hd sb, by rw [epl]; exact pl, by rw [ell]; exact ld,
    by rw [pm.length_eq, em]; exact fit, by rw [pm.length_eq]; exact few⟩ pm
/-- a member more, or no more -/
theorem sr_add (R : SR kd s.heap a L es ep t) {x : Addr} {k : κ} (hx : kd.is s.heap k x) (hu : A.units + 8 < cLine) (few : L.length + 1 < 64) {Q : Bool → Shared → Prop}
    (q : ∀ b h' L' es' ep' t', Heap.SameBut a s.heap h' → SR kd h' a L' es' ep' t' → (k ∈ L.map (·.2) → L' = L) → (k ∉ L.map (·.2) → L'.Perm ((x, k) :: L)) → Q b { s with heap := h' }) :
    wpAny (model P w) A (setAddHashed a (.ref x) (kd.hash k)) Q E s := by
  obtain ⟨o, ho, hex, hd⟩ := R.ob
  have el := R.size
  have hroom := R.room
  unfold setAddHashed
  refine wpAny_holding ?_
  rw [show (100000 : Nat) = 99999 + 1 from rfl, setAddHashedIn_succ]
  refine wpAny_bind (wpAny_setState_of ho hd R.fits ?_)
  dsimp only
  refine wp_if_neg (by simp [byScan, Value.scannable]) ?_
  try refine wpAny_bind (wpAny_pure ?_)
  refine wpAny_bind (sr_find R true hx hu (fun i hm => ?_) fun K hm hK hb => ?_)
  · unfold met
    dsimp only
    exact wpAny_pure (q false s.heap L es ep t (Heap.SameBut.refl a s.heap) R (fun _ => rfl) fun z => absurd hm z)
  · dsimp only
    refine wpAny_bind (wpAny_setState_of ho hd R.fits ?_)
    dsimp only
    obtain ⟨q1, q2, q3, q4, q5, q6, q7, q8, q9⟩ := R.tab.put hK hb
    have pl1 : (t.put (way t.mask (kd.hash k) K)).1.plain = true := by rw [q6]; exact R.plain
    generalize ept : t.put (way t.mask (kd.hash k) K) = pt at q1 q3 q4 q5 q6 q7 q8 q9 pl1 ⊢
    obtain ⟨t1, p⟩ := pt
    dsimp only at q1 q3 q4 q5 q6 q7 q8 q9 pl1 ⊢
    subst q1
    first
      | (refine wpAny_bind ?_; refine wp_if_pos pl1 ?_; refine kd.byV hx ?_)
      | refine wp_if_pos pl1 (wpAny_bind (kd.byV hx ?_))
    simp only [if_true]
    have ein : (SetTable.insertAt es (SetTable.below t.place (way t.mask (kd.hash k) K)) (kd.hash k, Value.ref x)).toList = rowsG kd (L.take (SetTable.below t.place (way t.mask (kd.hash k) K)) ++ (x, k) :: L.drop (SetTable.below t.place (way t.mask (kd.hash k) K))) := by
      rw [SetTable.toList_insertAt, R.rows]
      unfold rowsG
      rw [List.map_append, List.map_cons, List.map_take, List.map_drop]
    generalize SetTable.below t.place (way t.mask (kd.hash k) K) = p at q2 q3 ein ⊢
    have pm : (L.take p ++ (x, k) :: L.drop p).Perm ((x, k) :: L) := put_perm L p (x, k)
    have lh : (L.take p ++ (x, k) :: L.drop p).map (fun p => kd.hash p.2) = (L.map fun p => kd.hash p.2).take p ++ kd.hash k :: (L.map fun p => kd.hash p.2).drop p := by
      rw [List.map_append, List.map_cons, List.map_take, List.map_drop]
    rw [← lh] at q3
    generalize L.take p ++ (x, k) :: L.drop p = L1 at pm q3 ein
    have l1 : L1.length = L.length + 1 := pm.length_eq
    have nd1 : (L1.map (·.2)).Nodup := (pm.map (·.2)).nodup_iff.mpr (List.nodup_cons.mpr ⟨hm, R.nd⟩)
    have es1l : (SetTable.insertAt es p (kd.hash k, Value.ref x)).size = L.length + 1 := by
      have z := congrArg List.length ein
      rwa [rowsG_len, Array.length_toList, l1] at z
    generalize SetTable.insertAt es p (kd.hash k, Value.ref x) = es1 at ein es1l ⊢
    refine wpAny_bind (wpAny_storeSet_of ho hd ?_ (by rw [es1l, sizeLine_eq]; omega))
    have sb : Heap.SameBut a s.heap (s.heap.update a (Obj.putSet es1 t1)) := Heap.SameBut.update ..
    have ho1 := store_at (es' := es1) (t' := t1) ho hd
    generalize s.heap.update a (Obj.putSet es1 t1) = h1 at sb ho1 ⊢
    have mem1 : ∀ p ∈ L1, kd.is h1 p.2 p.1 := fun p hp => by
      rcases List.mem_cons.mp (pm.mem_iff.mp hp) with e | hp
      · rw [e]
        exact kd_same kd hx ho hd sb
      · exact kd_same kd (R.mem p hp) ho hd sb
    have ld1 : w.params.followText "set-order" = true ∨ t1.led = true := by rw [q5]; exact R.led
    have ps1 : t1.place.size = es1.size := by
      have z := q3.sz
      rw [List.length_map, l1] at z
      rw [z, es1l]
    by_cases full : t1.tooFull = true
    · first
        | (refine wpAny_bind ?_; refine wp_if_pos (by simp [full]) ?_)
        | (refine wp_if_pos (by simp [full]) ?_; refine wpAny_bind ?_)
      have five : (L.length + 1) * 5 ≥ t1.mask * 3 := by
        have z := full
        unfold SetTable.tooFull at z
        rwa [decide_eq_true_eq, q9, List.length_map] at z
      rw [el]
      have two : (t.mask = 7 ∧ L.length = 4) ∨ (t.mask = 31 ∧ L.length = 18) := by
        rcases R.tab.mok with e | e | e
        · exact .inl ⟨e, by rw [q4, e] at five; rw [e] at hroom; omega⟩
        · exact .inr ⟨e, by rw [q4, e] at five; rw [e] at hroom; omega⟩
        · exact absurd five (by rw [q4, e]; omega)
      have go : ∀ M, SetTable.sizeAbove (SetTable.grown (L.length + 1)) - 1 = M → MaskOk M → SetTable.sizeAbove (SetTable.grown (L.length + 1)) ≤ 128 → (L.length + 1) * 5 < M * 3 →
          wpAny (model P w) A (setRelay a (SetTable.grown (L.length + 1))) (fun _ s' => wpAny (model P w) A (pure true) Q E s') E { s with heap := h1 } := fun M m1 m2 m3 m4 =>
        sr_relay (s := { s with heap := h1 }) ho1 ⟨hex.1, hex.2.1, hex.2.2⟩ rfl ein ps1 q3.dm (by rw [es1l, q4]; rcases two with ⟨e, e2⟩ | ⟨e, e2⟩ <;> omega) nd1 mem1 pl1 ld1 (by rw [l1]; exact few) m1 m2 m3 (by rw [l1]; exact m4)
          fun h2 L2 es2 ep2 t2 sb2 R2 pm2 => wpAny_pure (q true h2 L2 es2 ep2 t2 (sb.trans sb2) R2 (fun z => absurd z hm) fun _ => pm2.trans pm)
      rcases two with ⟨_, e2⟩ | ⟨_, e2⟩
      · exact go 31 (by rw [e2, size_20]) (.inr (.inl rfl)) (by rw [e2, size_20]; decide) (by omega)
      · exact go 127 (by rw [e2, size_76]) (.inr (.inr rfl)) (by rw [e2, size_76]; decide) (by omega)
    · first
        | refine wp_if_neg (by simp [full]) ?_
        | (refine wpAny_bind ?_; refine wp_if_neg (by simp [full]) ?_; refine wpAny_pure ?_)
      have z := full
      unfold SetTable.tooFull at z
      rw [decide_eq_true_eq, q9, List.length_map] at z
      exact wpAny_pure (q true h1 L1 es1 (ep + 1) t1 sb ⟨⟨_, ho1, ⟨hex.1, hex.2.1, hex.2.2⟩, rfl⟩, ein, q3, nd1, mem1, pl1, ld1, by rw [l1]; omega, by rw [l1]; exact few⟩ (fun y => absurd y hm) fun _ => pm)
theorem sr_fresh {h : Heap} {a : Addr} (ho : h.get? a = some { cls := .type "set", dict := none, data := .set #[] 0 (.fresh 0 0 (!w.params.followText "set-order")) }) : SR kd h a [] #[] 0 (.fresh 0 0 (!w.params.followText "set-order")) where
  ob := ⟨_, ho, ⟨rfl, rfl, rfl⟩, rfl⟩
  rows := rfl
  tab := ⟨List.Pairwise.nil, rfl, rfl, .inl rfl, (fun x hx => (nomatch hx)), (fun i h j hi => by simp at hi)⟩
  nd := List.nodup_nil
  mem := fun p hp => (nomatch hp)
  plain := rfl
  led := by
    show _ ∨ (!w.params.followText "set-order") = true
    cases w.params.followText "set-order"
    · exact .inr rfl
    · exact .inl rfl
  room := by
    show 0 * 5 < 7 * 3
    decide
  few := by
    show 0 < 64
    decide
/-- found.add(x) -/
theorem sr_add_call (R : SR kd s.heap a L es ep t) {x : Addr} {k : κ} (hx : kd.is s.heap k x) (hu : A.units + 9 < cLine) (few : L.length + 1 < 64) {Q : Value → Shared → Prop}
    (q : ∀ h' L' es' ep' t' tk, Heap.SameBut a s.heap h' → SR kd h' a L' es' ep' t' → (k ∈ L.map (·.2) → L' = L) → (k ∉ L.map (·.2) → L'.Perm ((x, k) :: L)) → Q .none { s with heap := h', toks := tk }) :
    wpAny (model P w) A (call (.builtin "set.add") [.ref a, .ref x]) Q E s := by
  have hT : s.TypeIs (.ref a) "set" := by
    obtain ⟨o, ho, hex, _⟩ := R.ob
    exact ⟨o, ho, hex.1⟩
  have hu1 : A.in1.units + 8 < cLine := by
    show A.units + 1 + 8 < cLine
    omega
  refine wpAny_call_entry F.slot_set_add hT F.entry_set_add ?_ (F.args_set_add_2 _ _)
  unfold Builtin.«set.add» Builtin.Frozenset.oneOther
  simp only [List.isEmpty_nil, bind_assoc]
  unfold Builtin.Frozenset.addrOf setAdd
  refine wpAny_bind (wpAny_pure ?_)
  try dsimp only
  refine wpAny_bind (wpAny_pure ?_)
  try dsimp only
  refine wpAny_bind (wpAny_holding ?_)
  refine wpAny_bind (kd.pyH hu1 hx ?_)
  refine sr_add (s := { s with toks := s.toks + kd.draws k }) R hx hu1 few fun b h' L' es' ep' t' sb r e1 e2 => ?_
  show wpAny _ _ (ret Value.none) _ _ _
  exact wpAny_pure ⟨_, rfl, q h' L' es' ep' t' _ sb r e1 e2⟩
end
end SG
namespace SG
open PySem PySem.Spec PyProof.Rows L2 PpSet
/-! ### members (n, .., m): a tuple of ints, the last one apart -/
abbrev Fm := List Int × Int
def emb (k : Fm) : NestedKey := .tup ((k.1 ++ [k.2]).map .num)
theorem num_inj : ∀ {a b : List Int}, a.map NestedKey.num = b.map NestedKey.num → a = b
  | [], [], _ => rfl
  | [], _ :: _, h => by cases h
  | _ :: _, [], h => by cases h
  | x :: a, y :: b, h => by
    injection h with h1 h2
    injection h1 with h1
    rw [h1, num_inj h2]
theorem emb_inj {a b : Fm} (h : emb a = emb b) : a = b := by
  unfold emb at h
  injection h with h
  have e := num_inj h
  obtain ⟨h1, h2⟩ := List.append_inj' e rfl
  injection h2 with h2 _
  exact Prod.ext h1 h2
theorem emb_dec (a b : Fm) : decide (emb a = emb b) = decide (a = b) := by
  by_cases h : a = b
  · rw [h, decide_eq_true rfl, decide_eq_true rfl]
  · rw [decide_eq_false h, decide_eq_false fun z => h (emb_inj z)]
theorem nums_depth : ∀ l : List Int, NestedKey.depthAll (l.map .num) = 0
  | [] => rfl
  | _ :: l => by
    show max 0 (NestedKey.depthAll (l.map .num)) = 0
    rw [nums_depth l]
    rfl
theorem emb_depth (k : Fm) : (emb k).depth = 1 := by
  show NestedKey.depthAll ((k.1 ++ [k.2]).map .num) + 1 = 1
  rw [nums_depth]
section
variable {P : Program} {w : World} {A : Around} {E : Value → Shared → Prop} {s : Shared}
theorem num_val {h : Heap} {i : Int} {v : Value} (x : NestedIs h (.num i) v) : carriedByValue v = true ∧ (∀ n, ofAClassStatement n v = pure false) ∧ ∀ n, hashByValue n v = pure true := by
  cases x with
  | bool e => exact ⟨rfl, fun n => by cases n <;> rfl, fun n => by cases n <;> rfl⟩
  | int _ _ => exact ⟨rfl, fun n => by cases n <;> rfl, fun n => by cases n <;> rfl⟩
theorem nums_val {h : Heap} : ∀ {l : List Int} {vs : List Value}, NestedAll h (l.map .num) vs → ∀ v ∈ vs, (∀ n, ofAClassStatement n v = pure false) ∧ ∀ n, hashByValue n v = pure true
  | [], _, x, v, hv => by cases x; cases hv
  | i :: l, _, x, v, hv => by
    cases x with
    | cons x1 x2 =>
      rcases List.mem_cons.mp hv with e | hv
      · rw [e]
        exact (num_val x1).2
      · exact nums_val x2 v hv
/-- a tuple is of no class statement, if its items are of none -/
theorem cls_tup {a : Addr} {o : Obj} {vs : Array Value} {m d : Nat} {Q : Bool → Shared → Prop} (ho : s.heap.get? a = some o) (hc : o.cls = .type "tuple") (hd : o.data = .seq vs m)
    (hi : ∀ v ∈ vs.toList, ∀ (Q' : Bool → Shared → Prop), Q' false s → wpAny (model P w) A (ofAClassStatement d v) Q' E s) (q : Q false s) : wpAny (model P w) A (ofAClassStatement (d + 1) (.ref a)) Q E s := by
  have hT : s.TypeIs (.ref a) "tuple" := ⟨o, ho, hc⟩
  unfold ofAClassStatement
  refine wpAny_bind (wpAny_typeOf hT ?_)
  dsimp only
  simp only [show (("tuple" : String) == "tuple") = true by decide, if_true, Bool.not_true, Bool.false_eq_true, if_false]
  try refine wpAny_bind (wpAny_pure ?_)
  try simp only [Bool.not_true, Bool.false_eq_true, if_false]
  show wpAny _ _ (seqItems? (.ref a) >>= _) _ _ s
  refine wpAny_bind (wpAny_seqItems ho hd ?_)
  dsimp only
  refine wpAny_bind ?_
  show wpAny _ _ (forIn vs _ _) _ _ s
  rw [← Array.forIn_toList]
  refine wpAny_forIn_list _ (fun left r s2 => r.1 = none ∧ s2 = s ∧ ∀ v ∈ left, v ∈ vs.toList) _ ?_ ?_ _ _ ⟨rfl, rfl, fun _ h => h⟩
  · rintro v left r s2 ⟨er, rfl, al⟩
    refine wpAny_bind (hi v (al v List.mem_cons_self) _ ?_)
    simp only [Bool.false_eq_true, if_false]
    exact wpAny_pure ⟨rfl, rfl, fun u hu => al u (List.mem_cons_of_mem _ hu)⟩
  · rintro ⟨r1, r2⟩ s2 ⟨er, rfl, _⟩
    simp only at er
    subst er
    exact wpAny_pure q
theorem hby_tup {a : Addr} {o : Obj} {vs : Array Value} {m d : Nat} {Q : Bool → Shared → Prop} (ho : s.heap.get? a = some o) (hc : o.cls = .type "tuple") (hd : o.data = .seq vs m)
    (hi : ∀ v ∈ vs.toList, ∀ (Q' : Bool → Shared → Prop), Q' true s → wpAny (model P w) A (hashByValue d v) Q' E s) (q : Q true s) : wpAny (model P w) A (hashByValue (d + 1) (.ref a)) Q E s := by
  have hT : s.TypeIs (.ref a) "tuple" := ⟨o, ho, hc⟩
  unfold hashByValue
  refine wpAny_bind (wpAny_specialOf hT F.slot_tuple_hash.lookup ?_)
  show wpAny _ _ (seqItems? (.ref a) >>= _) _ _ s
  refine wpAny_bind (wpAny_seqItems ho hd ?_)
  refine wpAny_bind ?_
  show wpAny _ _ (forIn vs _ _) _ _ s
  rw [← Array.forIn_toList]
  refine wpAny_forIn_list _ (fun left r s2 => r.1 = none ∧ s2 = s ∧ ∀ v ∈ left, v ∈ vs.toList) _ ?_ ?_ _ _ ⟨rfl, rfl, fun _ h => h⟩
  · rintro v left r s2 ⟨er, rfl, al⟩
    refine wpAny_bind (hi v (al v List.mem_cons_self) _ ?_)
    simp only [Bool.not_true, Bool.false_eq_true, if_false]
    exact wpAny_pure ⟨rfl, rfl, fun u hu => al u (List.mem_cons_of_mem _ hu)⟩
  · rintro ⟨r1, r2⟩ s2 ⟨er, rfl, _⟩
    simp only at er
    subst er
    exact wpAny_pure q
end
def KF (P : Program) (w : World) : Kd P w Fm where
  is := fun h k a => NestedIs h (emb k) (.ref a)
  hash := fun k => (emb k).hash w
  draws := fun k => (emb k).draws
  keep := fun x k => NestedIs.at (fun b o vs n hb hd => k b o hb ⟨vs, n, hd⟩) _ _ x
  eqB := fun {A E s x y a b Q} hu hx hy q => eqAt_key (emb x) (emb y) A s _ _ hx hy (by rw [emb_depth, emb_depth]; omega) _ _ _ _ (by rw [← NestedKey.decide_eq, emb_dec]; exact q)
  pyH := fun {A E s k a Q} hu hk q => pyHash_key _ _ _ _ _ hk (by rw [emb_depth]; omega) q
  quiet := fun {A E s k a Q} hk q => quiet_key (emb k) (.ref a) 8 s hk (by rw [emb_depth]; decide) _ _ _ q
  noCls := fun {A E s k a Q} hk q => by
    cases hk with
    | tup ho hc hd hi => exact cls_tup ho hc hd (fun v hv Q' q' => by rw [(nums_val hi v hv).1]; exact wpAny_pure q') q
  byV := fun {A E s k a Q} hk q => by
    cases hk with
    | tup ho hc hd hi => exact hby_tup ho hc hd (fun v hv Q' q' => by rw [(nums_val hi v hv).2]; exact wpAny_pure q') q
end SG
namespace SG
open PySem PySem.Spec PyProof.Rows L2 PpSet
/-- the set's own object -/
structure S0 (P : Program) (w : World) (h : Heap) (a : Addr) (L : List (Addr × Fm)) (es : Array (Int × Value)) (ep : Nat) (t : SetTable) : Prop where
  ob : ∃ o, h.get? a = some o ∧ o.ExactSet ∧ o.data = .set es ep t
  rows : es.toList = rowsG (KF P w) L
  tab : TabOk t (L.map fun p => (KF P w).hash p.2)
  nd : (L.map (·.2)).Nodup
  plain : t.plain = true
  led : w.params.followText "set-order" = true ∨ t.led = true
  room : L.length * 5 < t.mask * 3
  few : L.length < 64
theorem SR.s0 {P : Program} {w : World} {h : Heap} {a : Addr} {L : List (Addr × Fm)} {es : Array (Int × Value)} {ep : Nat} {t : SetTable} (R : SR (KF P w) h a L es ep t) : S0 P w h a L es ep t := ⟨R.ob, R.rows, R.tab, R.nd, R.plain, R.led, R.room, R.few⟩
theorem S0.sr {P : Program} {w : World} {h : Heap} {a : Addr} {L : List (Addr × Fm)} {es : Array (Int × Value)} {ep : Nat} {t : SetTable} (R : S0 P w h a L es ep t) (m : ∀ p ∈ L, (KF P w).is h p.2 p.1) : SR (KF P w) h a L es ep t := ⟨R.ob, R.rows, R.tab, R.nd, m, R.plain, R.led, R.room, R.few⟩
/-- a set of members at a: which objects, which keys -/
def SetGO (P : Program) (w : World) (a : Addr) (L : List (Addr × Fm)) : HO := .ext fun h => ∃ es ep t, S0 P w h a L es ep t
theorem setGO_ok {P : Program} {w : World} {H : Hp} {h : Heap} {a : Addr} {L : List (Addr × Fm)} {es : Array (Int × Value)} {ep : Nat} {t : SetTable} (R : S0 P w h a L es ep t) : ObjOk P w H h a (SetGO P w a L) := by
  refine ⟨⟨es, ep, t, R⟩, ?_, fun h1 h2 ⟨es, ep, t, q⟩ k => ⟨es, ep, t, ?_⟩⟩
  · obtain ⟨o, ho, _⟩ := R.ob
    exact ⟨o, ho⟩
  · obtain ⟨o, ho, r⟩ := q.ob
    exact ⟨⟨o, k o ho, r⟩, q.rows, q.tab, q.nd, q.plain, q.led, q.room, q.few⟩
/-- the tuple at a is (n, .., m) -/
def VF (K : PySem.W.Frag) (H : Hp) (a : Addr) (k : Fm) : Prop := SqT K H a ((k.1 ++ [k.2]).map V.int)
theorem nums_all {h : Heap} : ∀ {l : List Int} {us : List Value}, Vals (l.map V.int) us → NestedAll h (l.map .num) us
  | [], _, .nil => .nil
  | i :: l, _, .cons r t => by
    obtain ⟨tk, rfl⟩ := r
    exact .cons (.int i tk) (nums_all t)
section
variable {X : Cx} {pins : List (Addr × Obj)} {σ : L2.St} {H : Hp} {s : Shared}
theorem vf_is (I : Inv X pins σ H s) {a : Addr} {k : Fm} (h : VF X.K H a k) : (KF X.prog X.w).is s.heap k a := by
  obtain ⟨us, r, ⟨o, ho, hc, n, hd⟩, _⟩ := I.tuple h
  exact NestedIs.tup ho hc hd (nums_all r)
/-- a member is added -/
theorem addG_ok (hu : X.A.units + 64 < cLine) {E : Value → Shared → Prop} {D x : Addr} {k : Fm} {L : List (Addr × Fm)} {Q : Value → Shared → Prop} (I : Inv X pins σ H s) (hD : H D = some (SetGO X.prog X.w D L)) (hx : VF X.K H x k) (hm : ∀ p ∈ L, VF X.K H p.1 p.2) (few : L.length + 1 < 64)
    (q : ∀ L' s', (k ∈ L.map (·.2) → L' = L) → (k ∉ L.map (·.2) → L'.Perm ((x, k) :: L)) → Inv X pins σ (upd H D (SetGO X.prog X.w D L')) s' → Q .none s') : wpAny (model X.prog X.w) X.A (call (.builtin "set.add") [.ref D, .ref x]) Q E s := by
  obtain ⟨es, ep, t, R⟩ := (show ObjOk X.prog X.w H s.heap D (SetGO X.prog X.w D L) from I.hok D _ hD).1
  refine sr_add_call (R.sr fun p hp => vf_is I (hm p hp)) (vf_is I hx) (by omega) few fun h' L' es' ep' t' tk sb r e1 e2 => q L' _ e1 e2 ?_
  have new := r.s0
  have he : ∃ u, h'.get? D = some u := by
    obtain ⟨o, ho, _⟩ := new.ob
    exact ⟨o, ho⟩
  exact I.write (e := D) (t' := tk) (by rw [hD]; trivial) (.inl rfl) (fun b u hb hu => (sb.2 b hb).trans hu) he (setGO_ok new)
/-- {elt for target in iter if ..}, elt a member: D the new set -/
def tSg (P : Program) (w : World) (K : PySem.W.Frag) (wi : TI) (g : TG) (tt : TT) (te : TE) (vs : List Nat) : TE := fun σ H Q => wi σ H fun J H1 => ∀ D, H1 D = none → ∃ W : Nat → Nat → Hp → Prop, (∃ m, W 0 m (upd H1 D (SetGO P w D []))) ∧ ∀ i m H, W i m H →
  (J.stop i H ∧ Q (.ref D) H) ∨ (J.go i H ∧ ∃ Nx : Hp → Prop, (∀ H', Nx H' → ∃ m', m' < m ∧ W (i + 1) m' H') ∧ ∀ x H', J.yld i H x H' → g x (wipe σ vs) H' fun σ2 H2 => wipe σ2 vs = wipe σ vs ∧ tt σ2 H2 fun b H3 =>
    if b = true then te σ2 H3 fun y H4 => ∃ (x : Addr) (k : Fm) (L : List (Addr × Fm)), y = .ref x ∧ VF K H4 x k ∧ H4 D = some (SetGO P w D L) ∧ (∀ p ∈ L, VF K H4 p.1 p.2) ∧ L.length + 1 < 64 ∧
      (∀ L', (k ∈ L.map (·.2) → L' = L) → (k ∉ L.map (·.2) → L'.Perm ((x, k) :: L)) → Nx (upd H4 D (SetGO P w D L'))) else Nx H3)
theorem pe_sg {Q0 : True} {elt tg iter : Expr} {ifs : List Expr} {scope : Scope} {own : List (PySem.Str × Nat)} {pos : Pos} {wi : TI} {g : TG} {tt : TT} {te : TE} (hc : X.calm = true) (hu : X.A.units + 64 < cLine) (hN : X.N.Nodup) (hi : PI X tg iter wi) (ok : BlkOk X.N X.env.scope scope own)
    (hg : ∀ (s : Shared) (H : Hp) (C : Addr) (cl : List (PySem.Str × Addr)) (fp : List Addr), PG (X.blk s H scope (compEnvC scope cl C X.env) fp) tg g) (ht : ∀ (s : Shared) (H : Hp) (C : Addr) (cl : List (PySem.Str × Addr)) (fp : List Addr), PTs (X.blk s H scope (compEnvC scope cl C X.env) fp) ifs tt)
    (he : ∀ (s : Shared) (H : Hp) (C : Addr) (cl : List (PySem.Str × Addr)) (fp : List Addr), PE (X.blk s H scope (compEnvC scope cl C X.env) fp) elt te) (hs : ∀ x, foldedSetIterable iter X.env x = pure x := by intro _; rfl) :
    PE X (.SetComp elt [⟨tg, iter, ifs, 0⟩] scope pos) (tSg X.prog X.w X.K wi g tt te (own.map (·.2))) := by
  refine ⟨fun pins s σ H Q I h => ?_⟩
  rw [eval_SetComp]
  have hfree : ∀ y ∈ scope.names, y.2 = .free → ∃ c, X.env.cells.lookup y.1 = some c := fun y hy e => I.ok.has _ (ok.free y hy e)
  refine wpAny_comprehension_free (use := none) rfl hs (closure_ok hfree) ok.kind (fun y hy e => by rw [ok.uniq y hy, e]) (thn (hi.run pins s σ H _ I h) fun xv s1 hx => thn hx fun itv s2 h2 => ?_)
  obtain ⟨it, fp, tn, J, H2, e, I2, T, st2, f2, q⟩ := h2
  subst e
  refine newSet_ok (newEnv_comp ?_)
  obtain ⟨D, hD⟩ : ∃ D, s2.heap.objs.size = D := ⟨_, rfl⟩
  rw [hD]
  obtain ⟨W, ⟨m0, w0⟩, turn⟩ := q D (I2.hok.fresh (Nat.le_of_eq hD))
  obtain ⟨s3, hs3⟩ : ∃ s3 : Shared, s3 = { s2 with heap := s2.heap.push { cls := .type "set", dict := none, data := .set #[] 0 (.fresh 0 0 (!X.w.params.followText "set-order")) } } := ⟨_, rfl⟩
  rw [← hs3]
  have h3 : s3.heap = s2.heap.push { cls := .type "set", dict := none, data := .set #[] 0 (.fresh 0 0 (!X.w.params.followText "set-order")) } := by rw [hs3]
  have I3 : Inv X pins σ (upd H2 D (SetGO X.prog X.w D [])) s3 := by
    rw [hs3]
    refine I2.laid (t' := s2.toks) (fun b o e => Heap.get?_push_of_some _ e) (Nat.le_of_eq hD) ?_
    rw [← hD]
    exact setGO_ok (SR.s0 (sr_fresh (Heap.get?_push_size _ rfl)))
  have below : ∀ b ∈ fp, b < s2.heap.objs.size := fun b hb => by
    obtain ⟨o, e, _⟩ := T.obj _ _ st2 b hb
    exact Heap.lt_size e
  have f3 : ∀ b ∈ fp, FpOk X pins (upd H2 D (SetGO X.prog X.w D [])) b ∧ b < s3.heap.objs.size := fun b hb => by
    have hlt := below b hb
    refine ⟨⟨?_, (f2 b hb).2⟩, by rw [h3, Heap.size_push]; exact Nat.lt_succ_of_lt hlt⟩
    rw [upd_ne (by rw [← hD]; exact Nat.ne_of_lt hlt)]
    exact (f2 b hb).1
  have st3 : tn 0 s3.heap := T.keep _ _ _ st2 fun b _ o e => by rw [h3]; exact Heap.get?_push_of_some _ e
  generalize hH3 : upd H2 D (SetGO X.prog X.w D []) = H3 at I3 w0 f3
  have I4 := block_start I3 ok hN f3
  have pg := hg s3 H3 s3.heap.objs.size (cellsFrom (s3.heap.objs.size + 1) scope.names (cloFrom X.env.cells scope.names [])) fp
  have pt := ht s3 H3 s3.heap.objs.size (cellsFrom (s3.heap.objs.size + 1) scope.names (cloFrom X.env.cells scope.names [])) fp
  have pe := he s3 H3 s3.heap.objs.size (cellsFrom (s3.heap.objs.size + 1) scope.names (cloFrom X.env.cells scope.names [])) fp
  have post : ∀ s' m H', Inv X pins σ H' s' → Q (.ref D) H' → s'.heap.Ns s3.heap.objs.size m → FpOk X pins H' s3.heap.objs.size → compPost (model X.prog X.w) X.A X.xe none (EP X pins σ Q) (.ref D) s3.heap.objs.size (.ok .next) s' := fun s' m H' I' q hn f => ⟨m, hn, fun h'' sb => by
    obtain ⟨z0, z1, z2, z3, z4, z5⟩ := f
    exact ⟨.ref D, H', I'.turned (t' := s'.toks) (fun b o hb e => (sb.2 b hb).trans e) z0 z1 z3 z4 z5, rfl, q⟩⟩
  show codeAny _ _ (.compStart (.SetComp elt [⟨tg, iter, ifs, 0⟩] scope pos) 0 (.ref it) (.ref D) (compEnvC scope (cellsFrom (s3.heap.objs.size + 1) scope.names (cloFrom X.env.cells scope.names [])) s3.heap.objs.size X.env)) (compPost (model X.prog X.w) X.A X.xe none (EP X pins σ Q) (.ref D) s3.heap.objs.size) { s3 with heap := pushCells (s3.heap.push { cls := .type "dict", data := .dict #[] }) scope.names }
  have n3 : ∀ b ∈ fp, H3 b = none := fun b hb => (f3 b hb).1.1
  generalize hce : compEnvC scope (cellsFrom (s3.heap.objs.size + 1) scope.names (cloFrom X.env.cells scope.names [])) s3.heap.objs.size X.env = ce at I4 pg pt pe ⊢
  have cL : ce.locals = s3.heap.objs.size := by subst hce; rfl
  generalize hs4 : ({ s3 with heap := pushCells (s3.heap.push { cls := .type "dict", data := .dict #[] }) scope.names } : Shared) = s4 at I4 ⊢
  have st4 : tn 0 s4.heap := T.keep _ _ _ st3 fun b _ o e => by rw [← hs4]; exact pushCells_keeps _ _ _ _ (Heap.get?_push_of_some _ e)
  have stat : ∀ {σ' : L2.St} {H' : Hp} {s' : Shared}, Inv (X.blk s3 H3 scope ce fp) [] σ' H' s' → (∀ b ∈ fp, H' b = none) → ∀ b ∈ fp, FpOk (X.blk s3 H3 scope ce fp) [] H' b := fun {σ' H' s'} I' hn b hb =>
    ⟨hn b hb, (I'.ok.exf b hb).1, I'.ok.exfs b hb, .inl hb, fun x c e => (I'.ok.exf b hb).2 x c e, fun p hp => absurd (show p ∈ ([] : List (Addr × Obj)) ++ [] from hp) (by simp)⟩
  have loop : codeAny (model X.prog X.w) X.A (.compLoop (.SetComp elt [⟨tg, iter, ifs, 0⟩] scope pos) 0 (.ref it) (.ref D) ce) (compPost (model X.prog X.w) X.A X.xe none (EP X pins σ Q) (.ref D) s3.heap.objs.size) s4 := by
    refine compLoopS_any (fun n s' => ∃ i H', Inv (X.blk s3 H3 scope ce fp) [] (wipe σ (own.map (·.2))) H' s' ∧ tn i s'.heap ∧ (∀ b ∈ fp, H' b = none) ∧ W i n H') ?_ m0 ⟨0, H3, I4, st4, n3, w0⟩
    rintro n s5 ⟨i, H5, I5, st5, n5, w5⟩
    rcases turn i n H5 w5 with ⟨stop, qq⟩ | ⟨go, Nx, hNx, step⟩
    · refine thnF (T.done (X.blk s3 H3 scope ce fp) rfl rfl rfl hc i [] s5 _ H5 (fun _ _ => False) I5 (stat I5 n5) st5 stop) fun r s6 ⟨hr, I6⟩ => ?_
      subst hr
      have I7 : Inv X pins σ H5 s6 := I3.call' (ch := fp) I6.os I6.base I6.hok I6.bare fun b hb => ⟨(f3 b hb).1.2.2.2.1, (f3 b hb).1.2.1, (f3 b hb).1.2.2.2.2.1, (f3 b hb).1.2.2.2.2.2⟩
      have nC : H5 s3.heap.objs.size = none := by
        have z : H5 ce.locals = none := I6.free
        rwa [cL] at z
      obtain ⟨m, hn, _⟩ := I6.loc
      have hn2 : s6.heap.Ns ce.locals m := hn
      rw [cL] at hn2
      exact post s6 m H5 I7 qq hn2 (I3.fpOk (Nat.le_refl _) nC)
    · refine thnF (T.item (X.blk s3 H3 scope ce fp) rfl rfl rfl hc i [] s5 _ H5 (fun _ _ => False) I5 (stat I5 n5) st5 go) fun r s6 ⟨u, hr, h6⟩ => ?_
      subst hr
      refine thnF h6 fun _ s7 ⟨x, H7, I7, r7, y7, st7, n7⟩ => ?_
      refine thnF (pg.run _ s7 _ H7 x u _ (I7.pinned (stat I7 n7) (T.obj _ _ st7)) r7 (step x H7 y7)) fun _ s8 ⟨σ8, H8, I8, hw8, q8⟩ => ?_
      refine thnF (pt.run _ s8 σ8 H8 _ I8 q8) fun b s9 ⟨H9, I9, q9⟩ => ?_
      have fin : ∀ {s' : Shared} {H' : Hp}, Inv (X.blk s3 H3 scope ce fp) ([] ++ pinsAt fp s7.heap) σ8 H' s' → Nx H' → ∃ m, m < n ∧ ∃ i H', Inv (X.blk s3 H3 scope ce fp) [] (wipe σ (own.map (·.2))) H' s' ∧ tn i s'.heap ∧ (∀ b ∈ fp, H' b = none) ∧ W i m H' := fun {s' H'} I' nx => by
        obtain ⟨m', hm, w'⟩ := hNx H' nx
        have pin' : ∀ b ∈ fp, ∀ o, s7.heap.get? b = some o → s'.heap.get? b = some o ∧ H' b = none := fun b hb o e =>
          let z := I'.pin (b, o) (List.mem_append_right _ (List.mem_append_right _ (mem_pinsAt hb e)))
          ⟨z.1, z.2.1⟩
        have hl : (wipe σ (own.map (·.2))).length = σ8.length := by rw [← hw8, wipe_length]
        refine ⟨m', hm, i + 1, H', (I'.unpinned (pins := [])).weak hl (fun j v e => ?_), T.keep _ _ _ st7 fun b hb o e => (pin' b hb o e).1, fun b hb => ?_, w'⟩
        · rw [← hw8] at e
          exact (wipe_some e).1
        · obtain ⟨o, e, _⟩ := T.obj _ _ st7 b hb
          exact (pin' b hb o e).2
      cases b with
      | false =>
        simp only [Bool.false_eq_true, if_false] at q9 ⊢
        exact fin I9 q9
      | true =>
        simp only [if_true] at q9 ⊢
        refine thnF (pe.run _ s9 σ8 H9 _ I9 q9) fun z s10 ⟨yv, H10, I10, r10, xa, k, L, ey, vf, hD10, hm, few, nx⟩ => ?_
        subst ey
        cases (show z = Value.ref xa from r10)
        exact addG_ok (X := X.blk s3 H3 scope ce fp) hu I10 hD10 vf hm few fun L' s11 e1 e2 I11 => fin I11 (nx L' e1 e2)
  exact codeAny_compStart_set loop (T.self X.A 0 _ _ _ st4 loop)
end
end SG
namespace SG
open PySem PySem.Spec PyProof.Rows L2 PpSet
section
variable {X : Cx}
/-- len of a set of members -/
theorem len_setG : CallR X (.builtin "len") (fun xs H Q => ∃ (D : Addr) (L : List (Addr × Fm)), xs = [.ref D] ∧ H D = some (SetGO X.prog X.w D L) ∧ Q (.int L.length) H) := by
  intro pins s σ H xs us Q I r h
  obtain ⟨D, L, rfl, hD, q⟩ := h
  cases r with
  | cons r1 r2 =>
    cases r2
    cases r1
    obtain ⟨es, ep, t, R⟩ := (show ObjOk X.prog X.w H s.heap D (SetGO X.prog X.w D L) from I.hok D _ hD).1
    obtain ⟨o, ho, hex, hd⟩ := R.ob
    have el : es.size = L.length := by
      have z := congrArg List.length R.rows
      rwa [rowsG_len, Array.length_toList] at z
    have e2 := R.tab.sz
    rw [List.length_map] at e2
    have hroom := R.room
    have few := R.few
    have fits : t.fits es.size = true := by
      unfold SetTable.fits SetTable.fill
      rw [R.tab.dm, Bool.and_eq_true, beq_iff_eq, decide_eq_true_eq]
      exact ⟨by omega, by show t.place.size + 0 ≤ t.mask; omega⟩
    refine call_len_set ho hex hd fits (by omega) ⟨.int L.length, H, I.tok _, ⟨_, by rw [el]⟩, q⟩
end
/-- over a tuple that the block leaves as it is -/
theorem sg_tup {P : Program} {w : World} {K : PySem.W.Frag} {a : Addr} {xs : List V} {g : TG} {tt : TT} {te : TE} {vs : List Nat} {σ : L2.St} {H1 : Hp} {D : Addr} {Qd : Hp → Prop} (Pv : Nat → Hp → Prop) (h0 : Pv 0 (upd H1 D (SetGO P w D []))) (hl : ∀ i H, i ≤ xs.length → Pv i H → SqT K H a xs)
    (hs : ∀ i x H, xs[i]? = some x → Pv i H → g x (wipe σ vs) H fun σ2 H2 => wipe σ2 vs = wipe σ vs ∧ tt σ2 H2 fun b H3 =>
      if b = true then te σ2 H3 fun y H4 => ∃ (x : Addr) (k : Fm) (L : List (Addr × Fm)), y = .ref x ∧ VF K H4 x k ∧ H4 D = some (SetGO P w D L) ∧ (∀ p ∈ L, VF K H4 p.1 p.2) ∧ L.length + 1 < 64 ∧
        (∀ L', (k ∈ L.map (·.2) → L' = L) → (k ∉ L.map (·.2) → L'.Perm ((x, k) :: L)) → Pv (i + 1) (upd H4 D (SetGO P w D L'))) else Pv (i + 1) H3) (hd : ∀ H, Pv xs.length H → Qd H) :
    ∃ W : Nat → Nat → Hp → Prop, (∃ m, W 0 m (upd H1 D (SetGO P w D []))) ∧ ∀ i m H, W i m H →
      ((Itt K a).stop i H ∧ Qd H) ∨ ((Itt K a).go i H ∧ ∃ Nx : Hp → Prop, (∀ H', Nx H' → ∃ m', m' < m ∧ W (i + 1) m' H') ∧ ∀ x H', (Itt K a).yld i H x H' → g x (wipe σ vs) H' fun σ2 H2 => wipe σ2 vs = wipe σ vs ∧ tt σ2 H2 fun b H3 =>
        if b = true then te σ2 H3 fun y H4 => ∃ (x : Addr) (k : Fm) (L : List (Addr × Fm)), y = .ref x ∧ VF K H4 x k ∧ H4 D = some (SetGO P w D L) ∧ (∀ p ∈ L, VF K H4 p.1 p.2) ∧ L.length + 1 < 64 ∧
          (∀ L', (k ∈ L.map (·.2) → L' = L) → (k ∉ L.map (·.2) → L'.Perm ((x, k) :: L)) → Nx (upd H4 D (SetGO P w D L'))) else Nx H3) := by
  refine ⟨fun i m H => m = xs.length - i ∧ i ≤ xs.length ∧ Pv i H, ⟨xs.length, by simp, Nat.zero_le _, h0⟩, ?_⟩
  rintro i m H ⟨rfl, hi, p⟩
  have q := hl i H hi p
  by_cases hlt : i < xs.length
  · refine .inr ⟨⟨xs, xs[i], q, by simp [hlt]⟩, Pv (i + 1), fun H' p' => ⟨xs.length - (i + 1), by omega, rfl, hlt, p'⟩, fun x H' y => ?_⟩
    obtain ⟨e, y⟩ := y
    subst e
    exact hs i x _ (y xs q) p
  · have e : i = xs.length := by omega
    subst e
    exact .inl ⟨⟨xs, q, Nat.le_refl _⟩, hd H p⟩
end SG
namespace GA
open PySem PySem.Spec PyProof.Rows L2 GenW GxR

/-- the frame of a generator expression runs: around it, its consumer's two units -/
abbrev arG (X : Cx) (cenv : Env) : Around := X.A.in1.in1.deeper cenv
/-- the context of a generator expression's frame -/
abbrev cxG (X : Cx) (s : Shared) (H : Hp) (cenv : Env) (fp : List Addr) : Cx :=
  { X with A := arG X cenv, s_0 := s, H_0 := H, env := cenv, outer := X.stack, stack := cenv :: X.stack, ex := fp, fn := fun _ => false, calm := true, pn := [], xe := fun _ _ => False }
/-- the frame's names, its cells, its object at C -/
abbrev envG (X : Cx) (scope : Scope) (C : Addr) (code : Value) : Env := genEnv scope (cloFrom X.env.cells scope.names []) C code builtinsNs X.env
/-- the expression's own scope: no cells of its own -/
structure GenOk (N : List Str) (sc scope : Scope) (own : List (Str × Nat)) : Prop extends BlkOk N sc scope own where
  co : scope.isCoroutine = false
  cell : ∀ y ∈ scope.names, y.2 ≠ .cell
  dot : scope.names.lookup (".0" : Str) = some NameKind.local

theorem over_gen {A : Around} {elt : Expr} {cls : List Comprehension} {scope : Scope} {pos : Pos} {it acc : Value} {env : Env} : A.over (.compLoop (.GeneratorExp elt cls scope pos) 0 it acc env) [] = A.deeper env := by
  first
    | rfl
    | (obtain ⟨hd, d, fr, gs, u⟩ := A; simp [Around.over, Around.deeper, marksOver, frameCount, unitsOf, envsOf, guardsOf, pushEnvs, pushGuards, Code.envs, Code.env?, Code.isFrame, Code.guards, Code.isGuard, Code.weight, Code.frames, Code.isCreation, Code.isCaller, Code.cUnits])
theorem over_gen0 {A : Around} {elt : Expr} {cls : List Comprehension} {scope : Scope} {pos : Pos} {it acc : Value} {env : Env} : A.over (.compStart (.GeneratorExp elt cls scope pos) 0 it acc env) [] = A.deeper env := by
  first
    | rfl
    | (obtain ⟨hd, d, fr, gs, u⟩ := A; simp [Around.over, Around.deeper, marksOver, frameCount, unitsOf, envsOf, guardsOf, pushEnvs, pushGuards, Code.envs, Code.env?, Code.isFrame, Code.guards, Code.isGuard, Code.weight, Code.frames, Code.isCreation, Code.isCaller, Code.cUnits])

section
variable {X : Cx} {pins : List (Addr × Obj)} {σ : L2.St} {H : Hp} {s : Shared}
theorem gen_start {scope : Scope} {own : List (Str × Nat)} {fp : List Addr} {code : Value} {h' : Heap} {go : Obj} {m0 : Str → Option Value} {c : GenState} {tk : Nat} (hd : X.A.handled = none) (I : L2.Inv X pins σ H s) (ok : GenOk X.N X.env.scope scope own) (hN : X.N.Nodup)
    (hfp : ∀ b ∈ fp, FpOk X pins H b ∧ b < s.heap.objs.size) (hns : h'.Ns s.heap.objs.size m0) (kp : ∀ b o, s.heap.get? b = some o → h'.get? b = some o) (hsz : s.heap.objs.size < h'.objs.size) (hgo : ∀ v, go.data ≠ .cell v) (hpu : ∀ h : Heap, (h.push go).get? h.objs.size = some go) (hc : c.bare = true) :
    L2.Inv (cxG X s H (envG X scope s.heap.objs.size code) fp) [(h'.objs.size, go)] (wipe σ (own.map (·.2))) H { s with gens := s.gens.push c, toks := tk, heap := h'.push go } := by
  have hfree : ∀ y ∈ scope.names, y.2 = .free → ∃ c, X.env.cells.lookup y.1 = some c := fun y hy e => by
    rcases ok.free y hy e with k | k
    · exact I.ok.has _ (.inl k)
    · exact I.ok.has _ (.inr k)
  have kp2 : ∀ b o, s.heap.get? b = some o → (h'.push go).get? b = some o := fun b o e => Heap.get?_push_of_some _ (kp b o e)
  have cm : ∀ {y c}, (y, c) ∈ cloFrom X.env.cells scope.names [] → X.env.cells.lookup y = some c ∧ c < s.heap.objs.size := fun {y c} hm => by
    rcases cloFrom_mem hm with hm | ⟨h1, rfl⟩
    · cases hm
    · obtain ⟨c, hc⟩ := hfree _ h1 rfl
      rw [hc]
      obtain ⟨w, z⟩ := I.cell _ _ hc
      exact ⟨rfl, z.lt⟩
  have mem : ∀ {y c}, (envG X scope s.heap.objs.size code).cells.lookup y = some c → X.env.cells.lookup y = some c ∧ c < s.heap.objs.size := fun {y c} e => cm (PySem.mem_of_lookup e)
  have look : ∀ {y}, scope.names.lookup y = some .free → ∃ c, (envG X scope s.heap.objs.size code).cells.lookup y = some c ∧ X.env.cells.lookup y = some c := fun {y} hl => by
    have hy : (y, NameKind.free) ∈ scope.names := PySem.mem_of_lookup hl
    obtain ⟨c', e'⟩ := mem_lookup (cloFrom_has (cells := X.env.cells) (acc := []) hy)
    exact ⟨c', e', (mem e').1⟩
  have nofs : ∀ b, s.heap.objs.size ≤ b → b ∉ frs X.stack := fun b hb hm => by
    rcases List.mem_cons.mp (I.stkSub b hm) with z | z
    · have := I.lt
      rw [← z] at this
      exact absurd (Nat.lt_of_lt_of_le this hb) (Nat.lt_irrefl _)
    · exact I.nofs hb z
  have okG : (cxG X s H (envG X scope s.heap.objs.size code) fp).Ok := by
    refine ⟨I.ok.mod, ok.kind, I.ok.glob, rfl, Nat.le_refl _, fun y z c e1 e2 => I.ok.inj y z c (mem e1).1 (mem e2).1, fun y hy => ?_, fun y c z e => absurd z (by simp), fun _ => hd, Around.frames_deeper I.ok.frames, .inr ⟨rfl, rfl⟩,
      fun b hb => ⟨Nat.ne_of_lt (hfp b hb).2, fun y c e z => (hfp b hb).1.2.2.2.2.1 y c (mem e).1 z⟩, I.bs, Nat.le_trans I.ok.bsz I.sz, fun b o e hb => ?_, fun b hb z => ?_, I.stack, I.stkFree⟩
    · have hy : scope.names.lookup y = some .cell ∨ scope.names.lookup y = some .free := hy
      rcases hy with hy | hy
      · exact absurd rfl (ok.cell _ (PySem.mem_of_lookup hy))
      · obtain ⟨c, h1, _⟩ := look hy
        exact ⟨c, h1⟩
    · rcases (hfp b hb).1.2.2.2.1 with z | z
      · exact I.ok.noex b o e z
      · exact absurd (Nat.lt_of_lt_of_le (Heap.lt_size e) (Nat.le_trans I.ok.bsz z)) (Nat.lt_irrefl _)
    · rcases List.mem_cons.mp (I.stkSub b z) with z | z
      · exact (hfp b hb).1.2.1 z
      · exact (hfp b hb).1.2.2.1 z
  refine ⟨okG, rfl, AllBare.push I.bare hc, Un.kept kp2, ⟨m0, hns.keeps fun b o e => Heap.get?_push_of_some _ e, fun i y av e1 e2 e3 => ?_⟩, fun y c e => ?_, I.hok.fresh (Nat.le_refl _), fun y c e => I.freeC y c (mem e).1, fun p hp => ?_, I.hok.kept kp2, by rw [wipe_length]; exact I.len⟩
  · obtain ⟨e2, hne⟩ := wipe_some e2
    have hfr : scope.names.lookup y = some .free := by
      have no : ∀ k, scope.names.lookup y = some k → ¬ (k = .local ∨ k = .cell) := fun k hk hh => by
        rcases ok.own _ (PySem.mem_of_lookup hk) hh with e' | e'
        · obtain ⟨p, hp, hpy⟩ := List.mem_map.mp e'
          have e3 := ok.ix p hp
          have : p.1 = y := hpy
          rw [this] at e3
          exact hne (List.mem_map.mpr ⟨p, hp, nodup_ix hN e3 e1⟩)
        · exact e' (List.mem_of_getElem? e1)
      have e3 : Vis scope y := e3
      rcases e3 with e3 | e3 | e3
      · exact absurd (.inl rfl) (no _ e3)
      · exact absurd (.inr rfl) (no _ e3)
      · exact e3
    obtain ⟨m, hn, hl⟩ := I.loc
    have hvis : Vis X.env.scope y := (ok.free _ (PySem.mem_of_lookup hfr) rfl).elim (fun k => .inr (.inl k)) (fun k => .inr (.inr k))
    obtain ⟨w, r, q⟩ := hl i y av e1 e2 hvis
    refine ⟨w, r, .inr ⟨.inr hfr, ?_⟩⟩
    obtain ⟨c, h1, h2⟩ := look hfr
    rcases q with ⟨k, _⟩ | ⟨_, c', e', z⟩
    · have k : X.env.scope.names.lookup y = some .local := k
      rcases ok.free _ (PySem.mem_of_lookup hfr) rfl with k' | k' <;> rw [show X.env.scope.names.lookup y = _ from k'] at k <;> cases k
    · rw [h2] at e'; cases e'
      exact ⟨c, h1, z.keeps kp2⟩
  · obtain ⟨w, z⟩ := I.cell y c (mem e).1
    exact ⟨w, z.keeps kp2⟩
  · have hp : p ∈ [(h'.objs.size, go)] := hp
    rw [List.mem_singleton.mp hp]
    exact ⟨hpu _, I.hok.fresh (Nat.le_of_lt hsz), Nat.ne_of_gt hsz, nofs _ (Nat.le_of_lt hsz), hgo⟩
end
end GA
namespace GA
open PySem PySem.Spec PyProof.Rows L2 GenW GxR

theorem inv_same {X : Cx} {pins : List (Addr × Obj)} {σ : L2.St} {H : Hp} {s s' : Shared} (I : L2.Inv X pins σ H s) (hh : s'.heap = s.heap) (ho : s'.os = s.os) (hb : AllBare s'.gens) : L2.Inv X pins σ H s' := by
  obtain ⟨h', g, d, t, o⟩ := s'
  have e1 : h' = s.heap := hh
  have e2 : o = s.os := ho
  subst e1 e2
  exact ⟨I.ok, I.os, hb, I.base, I.loc, I.cell, I.free, I.freeC, I.pin, I.hok, I.len⟩

/-- the plan of a walk: W by the turn and a measure; QT behind its end, QF behind the first item that is false -/
def Plan (J : It) (g : TG) (tt : TT) (te : TE) (σ0 : L2.St) (vs : List Nat) (QT QF : Hp → Prop) (W : Nat → Nat → Hp → Prop) : Prop :=
  ∀ i m H, W i m H → (J.stop i H ∧ QT H) ∨ (J.go i H ∧ ∃ Nx : Hp → Prop, (∀ H', Nx H' → ∃ m', m' < m ∧ W (i + 1) m' H') ∧ ∀ x H', J.yld i H x H' → g x σ0 H' fun σ2 H2 => wipe σ2 vs = σ0 ∧ tt σ2 H2 fun b H3 =>
    if b = true then te σ2 H3 fun y H4 => ∃ b, y = .bl b ∧ (if b = true then Nx H4 else QF H4) else Nx H3)
def GYp (X : Cx) (pins : List (Addr × Obj)) (QF : Hp → Prop) : Protocol := fun n s₀ v s kap =>
  ∃ b σ' H', v = .bool b ∧ L2.Inv X pins σ' H' s ∧ (b = false → QF H') ∧ (b = true → ∀ s'' : Shared, s''.heap = s.heap → s''.os = s.os → AllBare s''.gens → kap (.send .none) s'')
def GPn (X : Cx) (pins : List (Addr × Obj)) (σ0 : L2.St) (QT : Hp → Prop) : Nat → Shared → Shared → Prop := fun _ _ s₁ => ∃ H', L2.Inv X pins σ0 H' s₁ ∧ QT H'

theorem wipe_wipe (σ : L2.St) (vs : List Nat) (h : wipe σ vs = σ') : σ'.length = σ.length := by rw [← h, wipe_length]

section
variable {X : Cx} {s0 : Shared} {H0 : Hp} {cenv : Env} {fp : List Addr} {elt tg iter : Expr} {ifs : List Expr} {scope : Scope} {pos : Pos} {it a : Addr} {go : Obj} {tn : Nat → Heap → Prop} {J : It} {g : TG} {tt : TT} {te : TE} {σ0 : L2.St} {vs : List Nat} {QT QF : Hp → Prop} {W : Nat → Nat → Hp → Prop}
theorem gen_loop (hd : X.A.handled = none) (hco : cenv.scope.isCoroutine = false) (T : Turn X.prog X.w X.K tg J fp it tn) (ha : a ∉ fp) (pg : PG (cxG X s0 H0 cenv fp) tg g) (pt : PTs (cxG X s0 H0 cenv fp) ifs tt) (pe : PE (cxG X s0 H0 cenv fp) elt te)
    (hW : Plan J g tt te σ0 vs QT QF W) : ∀ (m n i : Nat) (H : Hp) (s₀ s : Shared), m < n → W i m H → L2.Inv (cxG X s0 H0 cenv fp) [(a, go)] σ0 H s → tn i s.heap → (∀ b ∈ fp, H b = none) →
      Seg (model X.prog X.w) X.A.in1.in1 (fun n s₀ r s₁ => r = .ok .next ∧ GPn (cxG X s0 H0 cenv fp) [(a, go)] σ0 QT n s₀ s₁) (GYp (cxG X s0 H0 cenv fp) [(a, go)] QF) n s₀
        (.compLoop (.GeneratorExp elt [⟨tg, iter, ifs, 0⟩] scope pos) 0 (.ref it) .none cenv) ((model X.prog X.w).den (.compLoop (.GeneratorExp elt [⟨tg, iter, ifs, 0⟩] scope pos) 0 (.ref it) .none cenv)) [] s := by
  intro m
  induction m using Nat.strongRecOn with
  | ind m ih =>
    intro n i H s₀ s hmn w I st nf
    have eA : X.A.in1.in1.over (.compLoop (.GeneratorExp elt [⟨tg, iter, ifs, 0⟩] scope pos) 0 (.ref it) .none cenv) [] = (cxG X s0 H0 cenv fp).A := over_gen
    have stat : ∀ {σ' : L2.St} {H' : Hp} {s' : Shared}, L2.Inv (cxG X s0 H0 cenv fp) [(a, go)] σ' H' s' → (∀ b ∈ fp, H' b = none) → ∀ b ∈ fp, FpOk (cxG X s0 H0 cenv fp) [(a, go)] H' b := fun {σ' H' s'} I' hn b hb =>
      ⟨hn b hb, (I'.ok.exf b hb).1, I'.ok.exfs b hb, .inl hb, fun x c e => (I'.ok.exf b hb).2 x c e, fun p hp e => by
        have hp : p ∈ [(a, go)] := hp
        rw [List.mem_singleton.mp hp] at e
        exact ha (by rw [show a = b from e]; exact hb)⟩
    show Seg _ _ _ _ _ s₀ _ ((compTurn (.GeneratorExp elt [⟨tg, iter, ifs, 0⟩] scope pos) 0 (.ref it) .none cenv).onRaise (leaving cenv)) [] s
    rw [compTurn_gen, Sem.onRaise_eq_wrap]
    refine seg_bind_wrap (wpAny_standAt ?_)
    rcases hW i m H w with ⟨stop, qq⟩ | ⟨go', Nx, hNx, step⟩
    · refine seg_bind_wrap ?_
      rw [eA]
      refine thnF (T.done (cxG X s0 H0 cenv fp) rfl rfl rfl rfl i [(a, go)] s _ H (fun _ _ => False) I (stat I nf) st stop) fun r s6 ⟨hr, I6⟩ => ?_
      subst hr
      exact seg_end (.ok .next) ⟨rfl, H, I6, qq⟩
    · refine seg_bind_wrap ?_
      rw [eA]
      refine thnF (T.item (cxG X s0 H0 cenv fp) rfl rfl rfl rfl i [(a, go)] s _ H (fun _ _ => False) I (stat I nf) st go') fun r s6 ⟨u, hr, h6⟩ => ?_
      subst hr
      show Seg _ _ _ _ _ s₀ _ (Sem.wrap _ _ _ _ (letOwnedTupleGo tg (.ref it) u >>= _)) [] s6
      refine seg_bind_wrap ?_
      rw [eA]
      refine thnF h6 fun _ s7 ⟨x, H7, I7, r7, y7, st7, n7⟩ => ?_
      have I7' := I7.pinned (stat I7 n7) (T.obj _ _ st7)
      refine seg_bind_wrap ?_
      rw [eA]
      refine thnF (pg.run _ s7 _ H7 x u _ I7' r7 (step x H7 y7)) fun _ s8 ⟨σ8, H8, I8, hw8, q8⟩ => ?_
      refine seg_bind_wrap ?_
      rw [eA]
      refine thnF (pt.run _ s8 σ8 H8 _ I8 q8) fun b s9 ⟨H9, I9, q9⟩ => ?_
      -- the turn's end
      have fin : ∀ {s' : Shared} {H' : Hp}, L2.Inv (cxG X s0 H0 cenv fp) ([(a, go)] ++ pinsAt fp s7.heap) σ8 H' s' → L2.Inv (cxG X s0 H0 cenv fp) [(a, go)] σ0 H' s' ∧ tn (i + 1) s'.heap ∧ (∀ b ∈ fp, H' b = none) := fun {s' H'} I' => by
        have pin' : ∀ b ∈ fp, ∀ o, s7.heap.get? b = some o → s'.heap.get? b = some o ∧ H' b = none := fun b hb o e =>
          let z := I'.pin (b, o) (List.mem_append_right _ (List.mem_append_right _ (mem_pinsAt hb e)))
          ⟨z.1, z.2.1⟩
        have hl : σ0.length = σ8.length := by rw [← hw8, wipe_length]
        refine ⟨(I'.unpinned (pins := [(a, go)])).weak hl (fun j v e => ?_), T.keep _ _ _ st7 fun b hb o e => (pin' b hb o e).1, fun b hb => ?_⟩
        · rw [← hw8] at e
          exact (wipe_some e).1
        · obtain ⟨o, e, _⟩ := T.obj _ _ st7 b hb
          exact (pin' b hb o e).2
      cases b with
      | false =>
        simp only [Bool.false_eq_true, if_false] at q9 ⊢
        obtain ⟨m', hm, w'⟩ := hNx H9 q9
        obtain ⟨f1, f2, f3⟩ := fin I9
        exact seg_again rfl (ih m' hm n (i + 1) H9 s₀ s9 (by omega) w' f1 f2 f3)
      | true =>
        simp only [if_true] at q9 ⊢
        have hy : ∀ v, yieldOut cenv v = yieldValue v := fun v => by simp only [yieldOut, hco, Bool.false_eq_true, if_false]
        simp only [hy]
        rw [Sem.bind_eq_wrap', Sem.bind_eq_wrap', Sem.wrap_wrap, Sem.wrap_wrap]
        refine seg_wrap ?_
        rw [eA]
        refine thnF (pe.run _ s9 σ8 H9 _ I9 q9) fun z s10 ⟨yv, H10, I10, r10, bb, ey, q10⟩ => ?_
        subst ey
        have ez : z = Value.bool bb := r10
        subst ez
        obtain ⟨f1, f2, f3⟩ := fin I10
        obtain ⟨n', rfl⟩ : ∃ n', n = n' + 1 := ⟨n - 1, by omega⟩
        refine seg_at (seg_yield rfl rfl rfl ⟨bb, σ0, H10, rfl, f1, fun hb => ?_, fun hb s'' e1 e2 e3 => ?_⟩)
        · rw [hb, if_neg Bool.false_ne_true] at q10
          exact q10
        · rw [hb, if_pos rfl] at q10
          obtain ⟨m', hm, w'⟩ := hNx H10 q10
          exact seg_again rfl (ih m' hm n' (i + 1) H10 s'' s'' (by omega) w' (inv_same f1 e1 e2 e3) (T.keep _ _ _ f2 fun b hb o e => by rw [e1]; exact e) f3)

theorem gen_first (hd : X.A.handled = none) (hco : cenv.scope.isCoroutine = false) (T : Turn X.prog X.w X.K tg J fp it tn) (ha : a ∉ fp) (pg : PG (cxG X s0 H0 cenv fp) tg g) (pt : PTs (cxG X s0 H0 cenv fp) ifs tt) (pe : PE (cxG X s0 H0 cenv fp) elt te)
    (hW : Plan J g tt te σ0 vs QT QF W) (m n : Nat) (H : Hp) (s₀ s : Shared) (hmn : m < n) (w : W 0 m H) (I : L2.Inv (cxG X s0 H0 cenv fp) [(a, go)] σ0 H s) (st : tn 0 s.heap) (nf : ∀ b ∈ fp, H b = none) :
      Seg (model X.prog X.w) X.A.in1.in1 (fun n s₀ r s₁ => r = .ok .next ∧ GPn (cxG X s0 H0 cenv fp) [(a, go)] σ0 QT n s₀ s₁) (GYp (cxG X s0 H0 cenv fp) [(a, go)] QF) n s₀
        (.compStart (.GeneratorExp elt [⟨tg, iter, ifs, 0⟩] scope pos) 0 (.ref it) .none cenv) ((model X.prog X.w).den (.compStart (.GeneratorExp elt [⟨tg, iter, ifs, 0⟩] scope pos) 0 (.ref it) .none cenv)) [] s := by
  have loop := gen_loop (elt := elt) (iter := iter) (ifs := ifs) (scope := scope) (pos := pos) (go := go) hd hco T ha pg pt pe hW m n 0 H s₀ s hmn w I st nf
  show Seg _ _ _ _ _ s₀ _ ((compStart (.GeneratorExp elt [⟨tg, iter, ifs, 0⟩] scope pos) 0 (.ref it) .none cenv).onRaise (leaving cenv)) [] s
  unfold compStart
  rw [Sem.onRaise_eq_wrap]
  show Seg _ _ _ _ _ s₀ _ ((ask >>= _).wrap _ _ _ _) [] s
  refine seg_bind_wrap (wpAny_askSetting ?_)
  split
  · exact seg_again rfl loop
  · first
      | exact seg_bind_wrap (wpAny_rule (seg_bind_wrap (wpAny_standAt (seg_bind_wrap (T.self _ 0 s _ _ st (seg_again rfl loop))))))
      | (refine seg_bind_wrap (wpAny_rule ?_); show Seg _ _ _ _ _ s₀ _ ((standAt iter.pos >>= _).wrap _ _ _ _) [] s; exact seg_bind_wrap (wpAny_standAt (seg_bind_wrap (T.self _ 0 s _ _ st (seg_again rfl loop)))))
end
end GA
namespace GA
open PySem PySem.Spec PyProof.Rows L2 GenW GxR

theorem bare_set {s : Shared} {g : Nat} {gs x : GenState} (h : AllBare s.gens) (hg : s.gens[g]? = some gs) (hx : x.bare = true) : AllBare (s.setGen g x).gens :=
  AllBare.moved h (g := g) (.inr ⟨GenOnly.setGen s g x, fun z hz => by rw [setGen_self hg] at hz; cases hz; exact hx⟩)

/-- the generator's own object -/
def GoAt (go : Obj) (g : Nat) : Prop := go.cls = .type "generator" ∧ (∃ nm qn, go.data = .fields #[.int g 0, nm, qn]) ∧ go.slots = #[]

section
variable {X : Cx} {pins : List (Addr × Obj)} {σ : L2.St} {H4 : Hp} {s4 : Shared} {cenv : Env} {fp : List Addr} {a : Addr} {go : Obj} {g : Nat} {σ0 : L2.St} {QT QF : Hp → Prop} {RR : Result → Shared → Prop}
theorem all_loop (hd : X.A.handled = none) (hdp : X.A.depth < recursionLimit) (hgo : GoAt go g) (I4 : L2.Inv X pins σ H4 s4) (f4 : ∀ b ∈ fp, FpOk X pins H4 b)
    (hT : ∀ s' H', L2.Inv X pins σ H' s' → QT H' → RR (.ok (.ret (.bool true))) s') (hF : ∀ s' H', L2.Inv X pins σ H' s' → QF H' → RR (.ok (.ret (.bool false))) s') :
    ∀ (n : Nat) (gs : GenState) (s : Shared) (σ' : L2.St) (H' : Hp), L2.Inv (cxG X s4 H4 cenv fp) [(a, go)] σ' H' s → s.gens[g]? = some gs →
      (∀ s'' : Shared, s''.heap = s.heap → s''.os = s.os → AllBare s''.gens → gs.Goes (model X.prog X.w) X.A.in1.in1 (fun n s₀ r s₁ => r = .ok .next ∧ GPn (cxG X s4 H4 cenv fp) [(a, go)] σ0 QT n s₀ s₁) (GYp (cxG X s4 H4 cenv fp) [(a, go)] QF) n (.send .none) s'') →
      codeAny (model X.prog X.w) X.A (.builtin "all.loop" ⟨[.ref a], []⟩) RR s := by
  have back : ∀ {σ' : L2.St} {H' : Hp} {s1 s' : Shared}, L2.Inv (cxG X s4 H4 cenv fp) [(a, go)] σ' H' s1 → s'.heap = s1.heap → s'.os = s1.os → AllBare s'.gens → L2.Inv X pins σ H' s' := fun {σ' H' s1 s'} I6 e1 e2 e3 => by
    refine I4.call' (ch := fp) (e2.trans I6.os) (by rw [e1]; exact I6.base) (by rw [e1]; exact I6.hok) e3 fun b hb => ⟨(f4 b hb).2.2.2.1, (f4 b hb).2.1, (f4 b hb).2.2.2.2.1, (f4 b hb).2.2.2.2.2⟩
  intro n
  induction n with
  | zero =>
    intro gs s σ' H' I hg hgs
    obtain ⟨gc, ⟨nm, qn, gd⟩, gsl⟩ := hgo
    have isg : s.heap.IsGen a g := ⟨go, nm, qn, (I.pin (a, go) (List.mem_append_right _ (List.mem_singleton.mpr rfl))).1, gc, gd, gsl⟩
    refine codeAny_builtin F.entry_all_loop ?_
    rw [Around.under_plainId F.plain_all_loop _]
    show wpAny _ X.A.in1 (pyNext (.ref a) >>= _) _ _ s
    refine wpAny_bind (wpAny_gsz (Nat.le_refl s.gens.size) ?_)
    refine wpAny_pyNext_genexpQ (A := X.A.in1) (n := 0) (P := GPn (cxG X s4 H4 cenv fp) [(a, go)] σ0 QT) (Y := GYp (cxG X s4 H4 cenv fp) [(a, go)] QF) hd I.nolimit hdp isg hg
      (hgs (s.setGen g .running) rfl rfl (bare_set I.bare hg rfl)) (fun v s₁ gs' hb hv => ?_) (fun s₁ hp h' hk => ?_)
    · intro hsz
      obtain ⟨b, σ2, H2, ev, I2, q1, q2⟩ := hv
      subst ev
      have hlt : g < s.gens.size := by
        rcases Nat.lt_or_ge g s.gens.size with h | h
        · exact h
        · rw [Array.getElem?_eq_none h] at hg; cases hg
      have hsz2 : g < s₁.gens.size := by
        have e := setGen_size s₁ g gs'
        have hsz : s.gens.size ≤ (s₁.setGen g gs').gens.size := hsz
        omega
      have hg1 := Array.getElem?_eq_getElem hsz2
      refine wpAny_bind (wpAny_holding (wpAny_truthy_bool ?_))
      refine wpAny_bind (wpAny_letGo ?_)
      cases b with
      | true => exact False.elim (q2 rfl (s₁.setGen g gs') rfl rfl (bare_set I2.bare hg1 hb))
      | false =>
        simp only [Bool.false_eq_true, if_false]
        refine wpAny_bind (wpAny_rule (wpAny_pure ?_))
        exact hF _ H2 (back I2 rfl rfl (bare_set I2.bare hg1 hb)) (q1 rfl)
    · intro hsz
      obtain ⟨H2, I2, q⟩ := hp
      have hlt : g < s.gens.size := by
        rcases Nat.lt_or_ge g s.gens.size with h | h
        · exact h
        · rw [Array.getElem?_eq_none h] at hg; cases hg
      have hsz2 : g < s₁.gens.size := by
        have e := setGen_size s₁ g .finished
        have hsz : s.gens.size ≤ (s₁.setGen g .finished).gens.size := hsz
        omega
      have hg1 := Array.getElem?_eq_getElem hsz2
      refine wpAny_bind (wpAny_rule (wpAny_pure ?_))
      exact hT _ H2 ((back (s' := s₁.setGen g .finished) I2 rfl rfl (bare_set I2.bare hg1 rfl)).kept (t' := s₁.toks) hk) q
  | succ n ih =>
    intro gs s σ' H' I hg hgs
    obtain ⟨gc, ⟨nm, qn, gd⟩, gsl⟩ := hgo
    have isg : s.heap.IsGen a g := ⟨go, nm, qn, (I.pin (a, go) (List.mem_append_right _ (List.mem_singleton.mpr rfl))).1, gc, gd, gsl⟩
    refine codeAny_builtin F.entry_all_loop ?_
    rw [Around.under_plainId F.plain_all_loop _]
    show wpAny _ X.A.in1 (pyNext (.ref a) >>= _) _ _ s
    refine wpAny_bind (wpAny_gsz (Nat.le_refl s.gens.size) ?_)
    refine wpAny_pyNext_genexpQ (A := X.A.in1) (n := n + 1) (P := GPn (cxG X s4 H4 cenv fp) [(a, go)] σ0 QT) (Y := GYp (cxG X s4 H4 cenv fp) [(a, go)] QF) hd I.nolimit hdp isg hg
      (hgs (s.setGen g .running) rfl rfl (bare_set I.bare hg rfl)) (fun v s₁ gs' hb hv => ?_) (fun s₁ hp h' hk => ?_)
    · intro hsz
      obtain ⟨b, σ2, H2, ev, I2, q1, q2⟩ := hv
      subst ev
      have hlt : g < s.gens.size := by
        rcases Nat.lt_or_ge g s.gens.size with h | h
        · exact h
        · rw [Array.getElem?_eq_none h] at hg; cases hg
      have hsz2 : g < s₁.gens.size := by
        have e := setGen_size s₁ g gs'
        have hsz : s.gens.size ≤ (s₁.setGen g gs').gens.size := hsz
        omega
      have hg1 := Array.getElem?_eq_getElem hsz2
      refine wpAny_bind (wpAny_holding (wpAny_truthy_bool ?_))
      refine wpAny_bind (wpAny_letGo ?_)
      cases b with
      | true =>
        simp only [if_true]
        refine wpAny_pure ⟨plainId_quiet F.plain_all_loop _, ih gs' (s₁.setGen g gs') σ2 H2 (inv_same I2 rfl rfl (bare_set I2.bare hg1 hb)) (setGen_self hg1) fun s'' e1 e2 e3 => q2 rfl s'' e1 e2 e3⟩
      | false =>
        simp only [Bool.false_eq_true, if_false]
        refine wpAny_bind (wpAny_rule (wpAny_pure ?_))
        exact hF _ H2 (back I2 rfl rfl (bare_set I2.bare hg1 hb)) (q1 rfl)
    · intro hsz
      obtain ⟨H2, I2, q⟩ := hp
      have hlt : g < s.gens.size := by
        rcases Nat.lt_or_ge g s.gens.size with h | h
        · exact h
        · rw [Array.getElem?_eq_none h] at hg; cases hg
      have hsz2 : g < s₁.gens.size := by
        have e := setGen_size s₁ g .finished
        have hsz : s.gens.size ≤ (s₁.setGen g .finished).gens.size := hsz
        omega
      have hg1 := Array.getElem?_eq_getElem hsz2
      refine wpAny_bind (wpAny_rule (wpAny_pure ?_))
      exact hT _ H2 ((back (s' := s₁.setGen g .finished) I2 rfl rfl (bare_set I2.bare hg1 rfl)).kept (t' := s₁.toks) hk) q
end

section
variable {X : Cx} {pins : List (Addr × Obj)} {σ : L2.St} {H : Hp} {s : Shared}
/-- a generator expression is made -/
theorem gen_made {c P : Addr} {elt tg iter : Expr} {gpos : Pos} {scope : Scope} {own : List (Str × Nat)} {wi : TI} {k : Nat} {Q' : Value → Shared → Prop} {R : It → Hp → Prop}
    (hr : Room k X.A) (TB : TabB X.base X.mg c P) (hcode : X.env.code = .ref c) (hN : X.N.Nodup) (ok : GenOk X.N X.env.scope scope own) (hi : PI X tg iter wi)
    (hs : ∀ v, genFold iter X.env v = pure v) (I : L2.Inv X pins σ H s) (h : wi σ H fun J H1 => TabG H1 P ∧ R J H1)
    (hQ : ∀ J H1 H2 s4 it fp tn code g a go s5, R J H1 → Tabbed P H1 H2 → L2.Inv X pins σ H2 s4 → Turn X.prog X.w X.K tg J fp it tn → (∀ b ∈ fp, FpOk X pins H2 b) → a ∉ fp → GoAt go g →
      L2.Inv (cxG X s4 H2 (envG X scope s4.heap.objs.size code) fp) [(a, go)] (wipe σ (own.map (·.2))) H2 s5 → tn 0 s5.heap →
      s5.gens[g]? = some (.fresh (.compStart (.GeneratorExp elt [⟨tg, iter, [], 0⟩] scope gpos) 0 (.ref it) .none (envG X scope s4.heap.objs.size code))) → Q' (.ref a) s5) :
    wpAny (model X.prog X.w) X.A (eval (.GeneratorExp elt [⟨tg, iter, [], 0⟩] scope gpos) X.env) Q' X.xe s := by
  have hfree : ∀ y ∈ scope.names, y.2 = .free → ∃ c, X.env.cells.lookup y.1 = some c := fun y hy e => by
    rcases ok.free y hy e with k | k
    · exact I.ok.has _ (.inl k)
    · exact I.ok.has _ (.inr k)
  refine wpAny_GeneratorExp_make ok.co (closure_ok hfree) ok.cell ok.dot ok.kind (by have := hr.dp; omega) (thn (hi.run pins s σ H _ I h) fun xv s1 hx => thn hx fun itv s2 h2 => ?_) hs
  obtain ⟨it, fp, tn, J, H1, e, I1, T, st1, f1, ⟨ps, hP, ht⟩, q1⟩ := h2
  subst e
  have hPs : s2.heap.get? P = some { cls := .none, data := .fields ps } := I1.hok P _ hP
  have cd : PySem.W.CodeHd s2.heap c P := TB.code.keeps fun b u e => I1.bk b u e
  have cont : ∀ (code : Value) (h3 : Heap) (tk : Nat) (ps' : Array Value), Heap.ExtBut P s2.heap h3 → s2.heap.objs.size ≤ h3.objs.size → h3.get? P = some { cls := .none, data := .fields ps' } → (∃ more, ps' = ps ++ more) → TriplesOk ps'.toList →
      wpAny (model X.prog X.w) X.A (builtinsFor X.env.globals X.env.builtins) (fun bi s₄ =>
        ∀ h', h'.Ns s₄.heap.objs.size (fun y => if y = ".0" then some (.ref it) else none) → Heap.SameBut s₄.heap.objs.size (s₄.heap.push { cls := .type "frame", data := .dict #[] }) h' →
          Q' (.ref h'.objs.size) { s₄ with
            gens := s₄.gens.push (.fresh (.compStart (.GeneratorExp elt [⟨tg, iter, [], 0⟩] scope gpos) 0 (.ref it) .none (genEnv scope (cloFrom X.env.cells scope.names []) s₄.heap.objs.size code bi X.env))),
            toks := s₄.toks + 1 + 1 + 1,
            heap := h'.push { cls := .type "generator", data := .fields #[.int s₄.gens.size 0, .str "<genexpr>" (s₄.toks + 1), .str (X.env.qual ++ "<genexpr>") (s₄.toks + 1 + 1)] } }) X.xe { s2 with heap := h3, toks := tk } := by
    intro code h3 tk ps' hx hsz hP3 hmore ht3
    obtain ⟨bm, ob, e1, e2, e3, e4, e5, e6, e7, e8⟩ := TB.bm
    have keep3 : ∀ b u, b ≠ P → s2.heap.get? b = some u → h3.get? b = some u := fun b u hb e => hx b u hb e
    refine wpAny_builtinsFor (m := X.mg) (by rw [I1.ok.glob]; exact (I1.mod.glob.keeps I1.bk).extBut hx TB.gP) e1 e2 (keep3 _ _ e4 (I1.bk _ _ e5)) e6 e7 e8 ?_
    intro h' hns hsb
    obtain ⟨more, em⟩ := hmore
    have I4 := inv_tab (more := more) (h' := h3) (g' := s2.gens) (d' := s2.drawn) (t' := tk) I1 hP keep3 (by rw [← em]; exact hP3) I1.bare
    have nP : ∀ b ∈ fp, b ≠ P := fun b hb e => by
      have := (f1 b hb).1
      rw [e, hP] at this
      cases this
    have f4 : ∀ b ∈ fp, FpOk X pins (upd H1 P (.tbl (ps ++ more))) b := fun b hb => ⟨by rw [upd_ne (nP b hb)]; exact (f1 b hb).1, (f1 b hb).2⟩
    have st4 : tn 0 h3 := T.keep _ _ _ st1 fun b hb o e => keep3 b o (nP b hb) e
    have hszC : h'.objs.size = h3.objs.size + 1 := by
      have e := hsb.1
      rw [Heap.size_push] at e
      exact e
    have kp : ∀ b o, h3.get? b = some o → h'.get? b = some o := fun b o e => hsb.extBut b o (Nat.ne_of_lt (Heap.lt_size e)) (Heap.get?_push_of_some _ e)
    have lt4 : ∀ b ∈ fp, b < h3.objs.size := fun b hb => by
      obtain ⟨o, e, _⟩ := T.obj _ _ st4 b hb
      exact Heap.lt_size e
    have I5 := gen_start (scope := scope) (own := own) (fp := fp) (code := code) (h' := h') (m0 := fun y => if y = ".0" then some (.ref it) else none)
      (go := { cls := .type "generator", data := .fields #[.int s2.gens.size 0, .str "<genexpr>" (tk + 1), .str (X.env.qual ++ "<genexpr>") (tk + 1 + 1)] })
      (c := .fresh (.compStart (.GeneratorExp elt [⟨tg, iter, [], 0⟩] scope gpos) 0 (.ref it) .none (envG X scope h3.objs.size code))) (tk := tk + 1 + 1 + 1) hr.hd I4 ok hN (fun b hb => ⟨f4 b hb, lt4 b hb⟩) hns kp (by rw [hszC]; exact Nat.lt_succ_self _) (fun v q => by cases q) (fun h => Heap.get?_push_size _ rfl) rfl
    refine hQ J H1 (upd H1 P (.tbl (ps ++ more))) _ it fp tn code s2.gens.size h'.objs.size _ _ q1 ⟨⟨ps ++ more, upd_same, by rw [← em]; exact ht3⟩, fun b hb => upd_ne hb⟩ I4 T f4 (fun hm => ?_) ⟨rfl, ⟨_, _, rfl⟩, rfl⟩ I5 ?_ (Array.getElem?_push_size ..)
    · have := lt4 _ hm
      rw [hszC] at this
      exact absurd (Nat.lt_of_succ_lt this) (Nat.lt_irrefl _)
    · exact T.keep _ _ _ st4 fun b hb o e => Heap.get?_push_of_some _ (kp b o e)
  refine ⟨I1.nolimit, ?_⟩
  cases hf : codeAmong gpos ps.toList with
  | none =>
    refine wpAny_genexprCodeX hcode (cd.code hPs ht) (cd.tab hPs) hf fun c' h' tk hx hge hlt hco' _ htab' _ => ?_
    obtain ⟨o1, vs, f1, tf, fl, tg, inF, tx, tt, op, _, _, _, _, _, _, _, _, _, htr, _⟩ := hco'
    exact cont _ h' tk _ hx (Nat.le_trans hge (Nat.le_of_lt hlt)) htab'.2 ⟨_, rfl⟩ htr
  | some cv =>
    refine wpAny_genexprCode_hit hcode (cd.code hPs ht) hf ?_
    exact cont cv s2.heap s2.toks ps (Heap.ExtBut.refl _ _) (Nat.le_refl _) hPs ⟨#[], by simp⟩ ht

/-- all(elt for tg in iter), elt a truth -/
def tAllG (P : Addr) (wi : TI) (g : TG) (te : TE) (vs : List Nat) : TE := fun σ H Q => wi σ H fun J H1 => TabG H1 P ∧ ∀ H2, Tabbed P H1 H2 →
  ∃ W : Nat → Nat → Hp → Prop, (∃ m, W 0 m H2) ∧ Plan J g tYes te (wipe σ vs) vs (fun H' => Q (.bl true) H') (fun H' => Q (.bl false) H') W
theorem pe_allG {c P : Addr} {elt tg iter : Expr} {p pos gpos : Pos} {scope : Scope} {own : List (Str × Nat)} {wi : TI} {g : TG} {te : TE} {k : Nat}
    (hr : Room k X.A) (hg : Gl X "all") (hm : X.mg "all" = none) (hb : bootBuiltins "all" = some (.builtin "all")) (TB : TabB X.base X.mg c P) (hcode : X.env.code = .ref c) (hN : X.N.Nodup) (ok : GenOk X.N X.env.scope scope own) (hi : PI X tg iter wi)
    (hgt : ∀ (s : Shared) (H : Hp) (C : Addr) (code : Value) (fp : List Addr), PG (cxG X s H (envG X scope C code) fp) tg g) (he : ∀ (s : Shared) (H : Hp) (C : Addr) (code : Value) (fp : List Addr), PE (cxG X s H (envG X scope C code) fp) elt te)
    (hs : ∀ v, genFold iter X.env v = pure v := by intro _; rfl)
    (hst : starEach [.GeneratorExp elt [⟨tg, iter, [], 0⟩] scope gpos] X.env = (false, eval (.GeneratorExp elt [⟨tg, iter, [], 0⟩] scope gpos) X.env) :: starEach [] X.env := by rfl) :
    PE X (.Call (.Name "all" p) [.GeneratorExp elt [⟨tg, iter, [], 0⟩] scope gpos] [] pos) (tAllG P wi g te (own.map (·.2))) := by
  refine ⟨fun pins s σ H Q I h => ?_⟩
  refine wpAny_Call_Name_kw (ld_blt I hg hm hb ?_)
  refine PyProof.Rows.callWith_builtin1 ?_ hst (by rfl)
  rw [hst]
  show wpAny _ _ (spliced ((false, eval (.GeneratorExp elt [⟨tg, iter, [], 0⟩] scope gpos) X.env) :: backTo pos (starEach [] X.env))) _ _ s
  refine Calls.spliced_cons (gen_made (R := fun J H1 => ∀ H2, Tabbed P H1 H2 → ∃ W : Nat → Nat → Hp → Prop, (∃ m, W 0 m H2) ∧ Plan J g tYes te (wipe σ (List.map (fun q : Str × Nat => q.2) own)) (List.map (fun q : Str × Nat => q.2) own) (fun H' => Q (.bl true) H') (fun H' => Q (.bl false) H') W)
    hr TB hcode hN ok hi hs I h fun J H1 H2 s4 it fp tn code g' a go s5 hR hT I4 T f4 ha hgo I5 st5 hg5 => ?_)
  refine Calls.spliced_nil ?_
  obtain ⟨W, ⟨m, w0⟩, pl⟩ := hR H2 hT
  have cn : (envG X scope s4.heap.objs.size code).scope.isCoroutine = false := ok.co
  have nf5 : ∀ b ∈ fp, H2 b = none := fun b hb => (f4 b hb).1
  refine call_function_tree F.kind_all F.plain_all F.entry_all (F.args_all1 _) ?_
  unfold Builtin.«all»
  refine wpAny_bind (m := oneArg "all" _) (wpAny_pure ?_)
  have isg : s5.heap.IsGen a g' := by
    obtain ⟨gc, ⟨nm, qn, gd⟩, gsl⟩ := hgo
    exact ⟨go, nm, qn, (I5.pin (a, go) (List.mem_append_right _ (List.mem_singleton.mpr rfl))).1, gc, gd, gsl⟩
  refine wpAny_bind (wpAny_pyIter_gen isg ?_)
  refine wpAny_pure ⟨plainId_quiet F.plain_all_loop _, ?_⟩
  refine all_loop (σ0 := wipe σ (List.map (fun q : Str × Nat => q.2) own)) (QT := fun H' => Q (.bl true) H') (QF := fun H' => Q (.bl false) H') hr.hd (by have := hr.dp; omega) hgo I4 f4 (fun s' H' I' q => ⟨.bl true, H', I', rfl, q⟩) (fun s' H' I' q => ⟨.bl false, H', I', rfl, q⟩)
    (m + 1) _ s5 _ H2 I5 hg5 fun s'' e1 e2 e3 => ⟨rfl, ?_⟩
  exact gen_first (X := X) (go := go) hr.hd cn T ha (hgt _ _ _ _ _) pts_nil (he _ _ _ _ _) pl m (m + 1) H2 s'' s'' (Nat.lt_succ_self _) w0 (inv_same I5 e1 e2 e3) (by rw [e1]; exact st5) nf5
end
end GA
namespace SB
/-! ### numbers in lowest terms -/
def Lo (q : Int × Int) : Prop := 0 < q.2 ∧ Nat.gcd q.1.natAbs q.2.natAbs = 1
/-- the same number as N / D -/
def Eqr (r : Int × Int) (N D : Int) : Prop := r.1 * D = N * r.2
theorem gcd_pos {t b : Int} (h : b ≠ 0) : 0 < Nat.gcd t.natAbs b.natAbs := Nat.gcd_pos_of_pos_right _ (by omega)
theorem gcd_dvd_l (t b : Int) : ((Nat.gcd t.natAbs b.natAbs : Nat) : Int) ∣ t := Int.ofNat_dvd_left.mpr (Nat.gcd_dvd_left _ _)
theorem gcd_dvd_r (t b : Int) : ((Nat.gcd t.natAbs b.natAbs : Nat) : Int) ∣ b := Int.ofNat_dvd_left.mpr (Nat.gcd_dvd_right _ _)
theorem low_split {t b : Int} (h : 0 < b) : ∃ t' b' g : Int, 0 < g ∧ ((Nat.gcd t.natAbs b.natAbs : Nat) : Int) = g ∧ t = g * t' ∧ b = g * b' ∧ t / g = t' ∧ b / g = b' ∧ 0 < b' ∧ Nat.gcd t'.natAbs b'.natAbs = 1 := by
  have hg := gcd_pos (t := t) (b := b) (by omega)
  obtain ⟨t', e1⟩ := gcd_dvd_l t b
  obtain ⟨b', e2⟩ := gcd_dvd_r t b
  generalize hG : Nat.gcd t.natAbs b.natAbs = G at *
  have gp : (0 : Int) < (G : Int) := by omega
  have hb : 0 < b' := by
    rcases Int.lt_trichotomy b' 0 with z | z | z
    · have := Int.mul_neg_of_pos_of_neg gp z
      omega
    · rw [z, Int.mul_zero] at e2; omega
    · exact z
  refine ⟨t', b', G, gp, rfl, e1, e2, by rw [e1]; exact Int.mul_ediv_cancel_left _ (by omega), by rw [e2]; exact Int.mul_ediv_cancel_left _ (by omega), hb, ?_⟩
  have h1 : t.natAbs = G * t'.natAbs := by rw [e1, Int.natAbs_mul]; rfl
  have h2 : b.natAbs = G * b'.natAbs := by rw [e2, Int.natAbs_mul]; rfl
  have h3 : G * Nat.gcd t'.natAbs b'.natAbs = G * 1 := by
    rw [← Nat.gcd_mul_left, ← h1, ← h2, hG, Nat.mul_one]
  exact Nat.eq_of_mul_eq_mul_left hg h3
theorem natAbs_le_mul {g t : Int} (h : 0 < g) : t.natAbs ≤ (g * t).natAbs := by
  rw [Int.natAbs_mul]
  exact Nat.le_mul_of_pos_left _ (by omega)
theorem low_ok {t b : Int} (h : 0 < b) : ∀ g : Int, ((Nat.gcd t.natAbs b.natAbs : Nat) : Int) = g → Lo (t / g, b / g) ∧ Eqr (t / g, b / g) t b ∧ (t / g).natAbs ≤ t.natAbs ∧ (b / g).natAbs ≤ b.natAbs ∧ 0 < g ∧ g.natAbs ≤ b.natAbs := by
  intro g hg
  obtain ⟨t', b', g', gp, eg, e1, e2, e3, e4, hb, hc⟩ := low_split (t := t) h
  have : g' = g := eg.symm.trans hg
  subst this
  refine ⟨⟨by rw [e4]; exact hb, by rw [e3, e4]; exact hc⟩, ?_, ?_, ?_, gp, ?_⟩
  · show t / g' * b = t * (b / g')
    rw [e3, e4]
    conv => lhs; rw [e2]
    conv => rhs; rw [e1]
    rw [Int.mul_left_comm, Int.mul_assoc]
  · rw [e3, e1]; exact natAbs_le_mul gp
  · rw [e4, e2]; exact natAbs_le_mul gp
  · rw [e2, Int.mul_comm]; exact natAbs_le_mul hb
/-- a number has one form in lowest terms -/
theorem lo_uniq {r s : Int × Int} (hr : Lo r) (hs : Lo s) (h : r.1 * s.2 = s.1 * r.2) : r = s := by
  obtain ⟨r1, r2⟩ := hr
  obtain ⟨s1, s2⟩ := hs
  have e : r.1.natAbs * s.2.natAbs = s.1.natAbs * r.2.natAbs := by rw [← Int.natAbs_mul, ← Int.natAbs_mul, h]
  have d1 : r.2.natAbs ∣ s.2.natAbs := by
    have : r.2.natAbs ∣ r.1.natAbs * s.2.natAbs := by rw [e]; exact Nat.dvd_mul_left _ _
    exact (Nat.Coprime.symm r2).dvd_of_dvd_mul_left this
  have d2 : s.2.natAbs ∣ r.2.natAbs := by
    have : s.2.natAbs ∣ s.1.natAbs * r.2.natAbs := by rw [← e]; exact Nat.dvd_mul_left _ _
    exact (Nat.Coprime.symm s2).dvd_of_dvd_mul_left this
  have e2 : r.2 = s.2 := by
    have := Nat.dvd_antisymm d1 d2
    omega
  have e1 : r.1 = s.1 := by
    rw [e2] at h
    exact Int.eq_of_mul_eq_mul_right (by omega) h
  exact Prod.ext e1 e2
/-- unreduced -/
def fPlus (p q : Int × Int) : Int × Int := (p.1 * q.2 + q.1 * p.2, p.2 * q.2)
def fMinus (p q : Int × Int) : Int × Int := (p.1 * q.2 - q.1 * p.2, p.2 * q.2)
def fTimes (p q : Int × Int) : Int × Int := (p.1 * q.1, p.2 * q.2)
/-- both parts below 2 ^ m -/
def Wd (m : Nat) (p : Int × Int) : Prop := p.1.natAbs < 2 ^ m ∧ p.2.natAbs < 2 ^ m
theorem Wd.mono {m n : Nat} {p : Int × Int} (h : Wd m p) (k : m ≤ n) : Wd n p := ⟨Nat.lt_of_lt_of_le h.1 (Nat.pow_le_pow_right (by decide) k), Nat.lt_of_lt_of_le h.2 (Nat.pow_le_pow_right (by decide) k)⟩
theorem mul_lt2 {a b : Int} {m n : Nat} (h : a.natAbs < 2 ^ m) (k : b.natAbs < 2 ^ n) : (a * b).natAbs < 2 ^ (m + n) := by
  rw [Int.natAbs_mul, Nat.pow_add]
  exact Nat.mul_lt_mul'' h k
theorem add_lt2 {a b : Int} {m : Nat} (h : a.natAbs < 2 ^ m) (k : b.natAbs < 2 ^ m) : (a + b).natAbs < 2 ^ (m + 1) := by
  rw [Nat.pow_succ]
  omega
theorem sub_lt2 {a b : Int} {m : Nat} (h : a.natAbs < 2 ^ m) (k : b.natAbs < 2 ^ m) : (a - b).natAbs < 2 ^ (m + 1) := by
  rw [Nat.pow_succ]
  omega
theorem wd_plus {m n : Nat} {p q : Int × Int} (h : Wd m p) (k : Wd n q) : Wd (m + n + 1) (fPlus p q) :=
  ⟨add_lt2 (mul_lt2 h.1 k.2) (by rw [Nat.add_comm m n]; exact mul_lt2 k.1 h.2), Nat.lt_of_lt_of_le (mul_lt2 h.2 k.2) (Nat.pow_le_pow_right (by decide) (by omega))⟩
theorem wd_minus {m n : Nat} {p q : Int × Int} (h : Wd m p) (k : Wd n q) : Wd (m + n + 1) (fMinus p q) :=
  ⟨sub_lt2 (mul_lt2 h.1 k.2) (by rw [Nat.add_comm m n]; exact mul_lt2 k.1 h.2), Nat.lt_of_lt_of_le (mul_lt2 h.2 k.2) (Nat.pow_le_pow_right (by decide) (by omega))⟩
theorem wd_times {m n : Nat} {p q : Int × Int} (h : Wd m p) (k : Wd n q) : Wd (m + n) (fTimes p q) := ⟨mul_lt2 h.1 k.1, mul_lt2 h.2 k.2⟩
/-- a reduced form keeps the sign of its numerator -/
theorem eqr_sign {r : Int × Int} {N D : Int} (h : Eqr r N D) (hr : 0 < r.2) (hD : 0 < D) : (0 < r.1 ↔ 0 < N) ∧ (r.1 = 0 ↔ N = 0) ∧ (r.1 < 0 ↔ N < 0) := by
  have h : r.1 * D = N * r.2 := h
  have key : ∀ {a b c d : Int}, a * b = c * d → 0 < b → 0 < d → (0 < a → 0 < c) ∧ (a < 0 → c < 0) := fun {a b c d} e hb hd => by
    constructor
    · intro ha
      rcases Int.lt_trichotomy c 0 with z | z | z
      · have h1 := Int.mul_pos ha hb
        have h2 := Int.mul_neg_of_neg_of_pos z hd
        omega
      · have h1 := Int.mul_pos ha hb
        rw [z, Int.zero_mul] at e
        omega
      · exact z
    · intro ha
      rcases Int.lt_trichotomy c 0 with z | z | z
      · exact z
      · have h1 := Int.mul_neg_of_neg_of_pos ha hb
        rw [z, Int.zero_mul] at e
        omega
      · have h1 := Int.mul_neg_of_neg_of_pos ha hb
        have h2 := Int.mul_pos z hd
        omega
  obtain ⟨a1, a2⟩ := key h hD hr
  obtain ⟨b1, b2⟩ := key h.symm hr hD
  refine ⟨⟨a1, b1⟩, ⟨fun z => ?_, fun z => ?_⟩, ⟨a2, b2⟩⟩
  · rcases Int.lt_trichotomy N 0 with y | y | y
    · have := b2 y; omega
    · exact y
    · have := b1 y; omega
  · rcases Int.lt_trichotomy r.1 0 with y | y | y
    · have := a2 y; omega
    · exact y
    · have := a1 y; omega
end SB
namespace SB
theorem eqr_plus {r g h : Int × Int} {G Hh : Int × Int} (g2 : 0 < g.2) (h2 : 0 < h.2) (eg : Eqr g G.1 G.2) (eh : Eqr h Hh.1 Hh.2) (er : Eqr r (fPlus g h).1 (fPlus g h).2) : Eqr r (fPlus G Hh).1 (fPlus G Hh).2 := by
  unfold Eqr fPlus at *
  dsimp only at *
  have hne : g.2 * h.2 ≠ 0 := Int.ne_of_gt (Int.mul_pos g2 h2)
  refine Int.eq_of_mul_eq_mul_right hne ?_
  grind
theorem eqr_minus {r g h : Int × Int} {G Hh : Int × Int} (g2 : 0 < g.2) (h2 : 0 < h.2) (eg : Eqr g G.1 G.2) (eh : Eqr h Hh.1 Hh.2) (er : Eqr r (fMinus g h).1 (fMinus g h).2) : Eqr r (fMinus G Hh).1 (fMinus G Hh).2 := by
  unfold Eqr fMinus at *
  dsimp only at *
  have hne : g.2 * h.2 ≠ 0 := Int.ne_of_gt (Int.mul_pos g2 h2)
  refine Int.eq_of_mul_eq_mul_right hne ?_
  grind
theorem eqr_times {r g h : Int × Int} {G Hh : Int × Int} (g2 : 0 < g.2) (h2 : 0 < h.2) (eg : Eqr g G.1 G.2) (eh : Eqr h Hh.1 Hh.2) (er : Eqr r (fTimes g h).1 (fTimes g h).2) : Eqr r (fTimes G Hh).1 (fTimes G Hh).2 := by
  unfold Eqr fTimes at *
  dsimp only at *
  have hne : g.2 * h.2 ≠ 0 := Int.ne_of_gt (Int.mul_pos g2 h2)
  refine Int.eq_of_mul_eq_mul_right hne ?_
  grind
end SB
namespace SB
/-- one step of a sum of sides times numbers -/
def stepU (g : Int × Int) (p : Int × (Int × Int)) : Int × Int := fPlus g (fTimes (p.1, 1) p.2)
def sumU (ns : List Int) (us : List (Int × Int)) (g : Int × Int) : Int × Int := (ns.zip us).foldl stepU g
theorem fold_take {α β : Type} (f : β → α → β) (g : β) {l : List α} {i : Nat} {x : α} (h : l[i]? = some x) : (l.take (i + 1)).foldl f g = f ((l.take i).foldl f g) x := by
  rw [List.take_add_one, h, Option.toList_some, List.foldl_append]
  rfl
theorem zip_at {α β : Type} {xs : List α} {ys : List β} {i : Nat} {x : α} {y : β} (h : xs[i]? = some x) (k : ys[i]? = some y) : (xs.zip ys)[i]? = some (x, y) := by
  rw [List.getElem?_zip_eq_some]
  exact ⟨h, k⟩
theorem stepU_pos {g : Int × Int} {p : Int × (Int × Int)} (h : 0 < g.2) (k : 0 < p.2.2) : 0 < (stepU g p).2 := by
  unfold stepU fPlus fTimes
  dsimp only
  rw [Int.one_mul]
  exact Int.mul_pos h k
theorem sumU_pos : ∀ {l : List (Int × (Int × Int))} {g : Int × Int}, 0 < g.2 → (∀ p, p ∈ l → 0 < p.2.2) → 0 < (l.foldl stepU g).2
  | [], _, h, _ => h
  | p :: r, g, h, k => by
    rw [List.foldl_cons]
    exact sumU_pos (stepU_pos h (k p List.mem_cons_self)) fun q hq => k q (List.mem_cons_of_mem _ hq)
/-- the sum less the wall -/
theorem sumU_less (w : Int) : ∀ (l : List (Int × (Int × Int))) (g g' : Int × Int), g'.2 = g.2 → g'.1 = g.1 - w * g.2 → (l.foldl stepU g').2 = (l.foldl stepU g).2 ∧ (l.foldl stepU g').1 = (l.foldl stepU g).1 - w * (l.foldl stepU g).2
  | [], _, _, h1, h2 => ⟨h1, h2⟩
  | p :: r, g, g', h1, h2 => by
    rw [List.foldl_cons, List.foldl_cons]
    refine sumU_less w r _ _ ?_ ?_
    · unfold stepU fPlus fTimes
      dsimp only
      rw [h1]
    · unfold stepU fPlus fTimes
      dsimp only
      rw [h1, h2]
      grind
/-- the sum of the sides, each times the number, less the wall -/
def worthU (q : List Int × Int) (us : List (Int × Int)) : Int × Int := sumU q.1 us (-q.2, 1)
theorem worth_of (q : List Int × Int) (us : List (Int × Int)) : fMinus (sumU q.1 us (0, 1)) (q.2, 1) = worthU q us := by
  obtain ⟨h1, h2⟩ := sumU_less q.2 (q.1.zip us) (0, 1) (-q.2, 1) rfl (by show -q.2 = 0 - q.2 * 1; omega)
  refine Prod.ext ?_ ?_
  · show (sumU q.1 us (0, 1)).1 * 1 - q.2 * (sumU q.1 us (0, 1)).2 = _
    exact (by rw [Int.mul_one]; exact h2.symm)
  · show (sumU q.1 us (0, 1)).2 * 1 = _
    exact (by rw [Int.mul_one]; exact h1.symm)
end SB
namespace SB
def gcdL (l : List Int) : Nat := l.foldl (fun c z => Nat.gcd c z.natAbs) 0
theorem gcdF_dvd : ∀ (l : List Int) (c : Nat), (l.foldl (fun c z => Nat.gcd c z.natAbs) c) ∣ c ∧ ∀ z, z ∈ l → (l.foldl (fun c z => Nat.gcd c z.natAbs) c) ∣ z.natAbs
  | [], c => ⟨Nat.dvd_refl c, fun z h => by simp at h⟩
  | x :: r, c => by
    obtain ⟨h1, h2⟩ := gcdF_dvd r (Nat.gcd c x.natAbs)
    rw [List.foldl_cons]
    refine ⟨Nat.dvd_trans h1 (Nat.gcd_dvd_left _ _), fun z hz => ?_⟩
    rcases List.mem_cons.mp hz with rfl | hz
    · exact Nat.dvd_trans h1 (Nat.gcd_dvd_right _ _)
    · exact h2 z hz
theorem gcdL_dvd {l : List Int} {z : Int} (h : z ∈ l) : gcdL l ∣ z.natAbs := (gcdF_dvd l 0).2 z h
theorem gcdL_pos {l : List Int} {z : Int} (h : z ∈ l) (n : z ≠ 0) : 0 < gcdL l := by
  have d := gcdL_dvd h
  rcases Nat.eq_zero_or_pos (gcdL l) with e | e
  · rw [e] at d
    have := Nat.eq_zero_of_zero_dvd d
    omega
  · exact e
theorem gcdL_le {l : List Int} {z : Int} (h : z ∈ l) (n : z ≠ 0) : gcdL l ≤ z.natAbs := Nat.le_of_dvd (by omega) (gcdL_dvd h)
theorem div_le {z : Int} {g : Nat} (hg : 0 < g) (h : g ∣ z.natAbs) : (z / (g : Int)).natAbs ≤ z.natAbs ∧ (z ≠ 0 → z / (g : Int) ≠ 0) := by
  obtain ⟨t, e⟩ := Int.ofNat_dvd_left.mpr h
  have gp : (0 : Int) < (g : Int) := by omega
  have e2 : z / (g : Int) = t := by rw [e]; exact Int.mul_ediv_cancel_left _ (by omega)
  rw [e2]
  refine ⟨?_, fun n q => ?_⟩
  · rw [e]
    exact natAbs_le_mul gp
  · rw [q, Int.mul_zero] at e
    exact n e
def NonZ (ns : List Int) : Prop := (ns.any fun z => decide (z ≠ 0)) = true
theorem NonZ.ex {ns : List Int} (h : NonZ ns) : ∃ z, z ∈ ns ∧ z ≠ 0 := by
  obtain ⟨z, h1, h2⟩ := List.any_eq_true.mp h
  exact ⟨z, h1, of_decide_eq_true h2⟩
theorem nonZ_of {ns : List Int} {z : Int} (h : z ∈ ns) (n : z ≠ 0) : NonZ ns := List.any_eq_true.mpr ⟨z, h, decide_eq_true n⟩
def NsOk (ns : List Int) : Prop := ∀ z, z ∈ ns → z.natAbs < 2 ^ 10000
/-- a question's form -/
def divU (q : List Int × Int) : List Int × Int := (q.1.map fun z => z / ((gcdL (q.1 ++ [q.2]) : Nat) : Int), q.2 / ((gcdL (q.1 ++ [q.2]) : Nat) : Int))
def negU (q : List Int × Int) : List Int × Int := (q.1.map fun z => -z, -q.2)
/-- the first place that is not 0, and what stands there -/
def firstNZ (ns : List Int) : Nat := ns.findIdx fun z => decide (z ≠ 0)
def lead (ns : List Int) : Int := ns.getD (firstNZ ns) 0
def nfU (q : List Int × Int) : List Int × Int := if 0 < lead (divU q).1 then divU q else negU (divU q)
theorem firstNZ_at {ns : List Int} (h : NonZ ns) : ns[firstNZ ns]? = some (lead ns) ∧ lead ns ≠ 0 ∧ ∀ j z, j < firstNZ ns → ns[j]? = some z → z = 0 := by
  have hl : firstNZ ns < ns.length := by
    obtain ⟨z, h1, h2⟩ := h.ex
    exact List.findIdx_lt_length_of_exists ⟨z, h1, decide_eq_true h2⟩
  have e : ns[firstNZ ns]? = some ns[firstNZ ns] := List.getElem?_eq_getElem hl
  have e2 : lead ns = ns[firstNZ ns] := by
    unfold lead
    rw [List.getD_eq_getElem?_getD, e] <;> rfl
  refine ⟨by rw [e2]; exact e, ?_, fun j z hj hz => ?_⟩
  · rw [e2]
    have := List.findIdx_getElem (p := fun z : Int => decide (z ≠ 0)) (xs := ns) (w := hl)
    exact of_decide_eq_true this
  · have := List.not_of_lt_findIdx (p := fun z : Int => decide (z ≠ 0)) (xs := ns) hj
    have hjl := (List.getElem?_eq_some_iff.mp hz)
    obtain ⟨hjl, ez⟩ := hjl
    rw [← ez]
    simpa using this
/-- bounds -/
structure QOk (q : List Int × Int) : Prop where
  nz : NonZ q.1
  ns : NsOk q.1
  wl : q.2.natAbs < 2 ^ 10000
theorem QOk.g {q : List Int × Int} (h : QOk q) : 0 < gcdL (q.1 ++ [q.2]) ∧ gcdL (q.1 ++ [q.2]) < 2 ^ 10000 := by
  obtain ⟨z, h1, h2⟩ := h.nz.ex
  have hm : z ∈ q.1 ++ [q.2] := List.mem_append_left _ h1
  exact ⟨gcdL_pos hm h2, Nat.lt_of_le_of_lt (gcdL_le hm h2) (h.ns z h1)⟩
theorem QOk.div {q : List Int × Int} (h : QOk q) : QOk (divU q) := by
  obtain ⟨g0, _⟩ := h.g
  have dv : ∀ z, z ∈ q.1 ++ [q.2] → (z / ((gcdL (q.1 ++ [q.2]) : Nat) : Int)).natAbs ≤ z.natAbs ∧ (z ≠ 0 → z / ((gcdL (q.1 ++ [q.2]) : Nat) : Int) ≠ 0) := fun z hz => div_le g0 (gcdL_dvd hz)
  refine ⟨?_, fun z hz => ?_, ?_⟩
  · obtain ⟨z, h1, h2⟩ := h.nz.ex
    exact nonZ_of (List.mem_map.mpr ⟨z, h1, rfl⟩) ((dv z (List.mem_append_left _ h1)).2 h2)
  · obtain ⟨y, hy, rfl⟩ := List.mem_map.mp hz
    exact Nat.lt_of_le_of_lt (dv y (List.mem_append_left _ hy)).1 (h.ns y hy)
  · exact Nat.lt_of_le_of_lt (dv q.2 (List.mem_append_right _ List.mem_cons_self)).1 h.wl
theorem QOk.neg {q : List Int × Int} (h : QOk q) : QOk (negU q) := by
  refine ⟨?_, fun z hz => ?_, by show (-q.2).natAbs < _; rw [Int.natAbs_neg]; exact h.wl⟩
  · obtain ⟨z, h1, h2⟩ := h.nz.ex
    exact nonZ_of (List.mem_map.mpr ⟨z, h1, rfl⟩) (by omega)
  · obtain ⟨y, hy, rfl⟩ := List.mem_map.mp hz
    rw [Int.natAbs_neg]
    exact h.ns y hy
/-! ### the flat normal form -/
theorem zlead_cons (z : Int) (r : List Int) : lead (z :: r) = if z = 0 then lead r else z := by
  unfold lead firstNZ
  rw [List.findIdx_cons]
  by_cases h : z = 0
  · rw [if_pos h, h]
    simp
  · rw [if_neg h]
    simp [h]
theorem znonZ_tail {z : Int} {r : List Int} (h : NonZ (z :: r)) (e : z = 0) : NonZ r := by
  obtain ⟨y, hy, ny⟩ := h.ex
  rcases List.mem_cons.mp hy with z1 | z1
  · exact absurd (z1.trans e) ny
  · exact nonZ_of z1 ny
theorem zlead_app : ∀ {a : List Int} (b : List Int), NonZ a → lead (a ++ b) = lead a
  | [], _, h => absurd (show false = true from h) Bool.false_ne_true
  | z :: r, b, h => by
    rw [List.cons_append, zlead_cons, zlead_cons]
    by_cases hz : z = 0
    · rw [if_pos hz, if_pos hz]
      exact zlead_app b (znonZ_tail h hz)
    · rw [if_neg hz, if_neg hz]
theorem zlead_map (f : Int → Int) : ∀ {a : List Int}, NonZ a → (∀ z, z ∈ a → (f z = 0 ↔ z = 0)) → lead (a.map f) = f (lead a)
  | [], h, _ => absurd (show false = true from h) Bool.false_ne_true
  | z :: r, h, k => by
    rw [List.map_cons, zlead_cons, zlead_cons]
    have kz := k z List.mem_cons_self
    by_cases hz : z = 0
    · rw [if_pos hz, if_pos (kz.mpr hz)]
      exact zlead_map f (znonZ_tail h hz) fun y hy => k y (List.mem_cons_of_mem _ hy)
    · rw [if_neg hz, if_neg (fun e => hz (kz.mp e))]
/-- exact division -/
theorem zex_div {z : Int} {g : Nat} (hg : 0 < g) (h : g ∣ z.natAbs) : z.fdiv (g : Int) = z / (g : Int) ∧ z.fdiv (-(g : Int)) = -(z / (g : Int)) ∧ (z / (g : Int) = 0 ↔ z = 0) ∧ (0 < z / (g : Int) ↔ 0 < z) := by
  obtain ⟨t, e⟩ := Int.ofNat_dvd_left.mpr h
  have gp : (0 : Int) < (g : Int) := by omega
  have e2 : z / (g : Int) = t := by rw [e]; exact Int.mul_ediv_cancel_left _ (by omega)
  rw [e2]
  refine ⟨by rw [Int.fdiv_eq_ediv_of_nonneg _ (Int.le_of_lt gp), e2], ?_, ?_, ?_⟩
  · have : z = (-(g : Int)) * (-t) := by rw [e, Int.neg_mul_neg]
    rw [this]
    exact Int.mul_fdiv_cancel_left _ (by omega)
  · constructor
    · intro q
      rw [e, q, Int.mul_zero]
    · intro q
      rw [e] at q
      rcases Int.mul_eq_zero.mp q with q | q
      · omega
      · exact q
  · constructor
    · intro q
      rw [e]
      exact Int.mul_pos gp q
    · intro q
      rw [e] at q
      exact Int.pos_of_mul_pos_right q gp
/-- what the integers of a question are divided by -/
def nfC (q : List Int × Int) : Int := if lead (q.1 ++ [q.2]) < 0 then -((gcdL (q.1 ++ [q.2]) : Nat) : Int) else ((gcdL (q.1 ++ [q.2]) : Nat) : Int)
theorem nf_flat {q : List Int × Int} (h : NonZ q.1) : (nfU q).1 ++ [(nfU q).2] = (q.1 ++ [q.2]).map (fun z => z.fdiv (nfC q)) ∧ nfC q ≠ 0 := by
  obtain ⟨y, hy, ny⟩ := h.ex
  have g0 : 0 < gcdL (q.1 ++ [q.2]) := gcdL_pos (List.mem_append_left _ hy) ny
  have dv : ∀ z, z ∈ q.1 ++ [q.2] → gcdL (q.1 ++ [q.2]) ∣ z.natAbs := fun z hz => gcdL_dvd hz
  have el : lead (q.1 ++ [q.2]) = lead q.1 := zlead_app _ h
  obtain ⟨k1, k2, _⟩ := firstNZ_at h
  have lm : lead q.1 ∈ q.1 := List.mem_of_getElem? k1
  have ed : lead (divU q).1 = lead q.1 / ((gcdL (q.1 ++ [q.2]) : Nat) : Int) := zlead_map _ h fun z hz => (zex_div g0 (dv z (List.mem_append_left _ hz))).2.2.1
  have sg := (zex_div g0 (dv _ (List.mem_append_left _ lm))).2.2.2
  rw [← ed] at sg
  by_cases hn : lead q.1 < 0
  · have ec : nfC q = -((gcdL (q.1 ++ [q.2]) : Nat) : Int) := by unfold nfC; rw [el, if_pos hn]
    have en : nfU q = negU (divU q) := if_neg fun z => by have := sg.mp z; omega
    refine ⟨?_, by rw [ec]; omega⟩
    rw [en, ec]
    have e1 : (negU (divU q)).1 ++ [(negU (divU q)).2] = (q.1 ++ [q.2]).map (fun z => -(z / ((gcdL (q.1 ++ [q.2]) : Nat) : Int))) := by
      unfold negU divU
      dsimp only
      rw [List.map_map, List.map_append, List.map_singleton]
      rfl
    rw [e1]
    exact List.map_congr_left fun z hz => ((zex_div g0 (dv z hz)).2.1).symm
  · have ec : nfC q = ((gcdL (q.1 ++ [q.2]) : Nat) : Int) := by unfold nfC; rw [el, if_neg hn]
    have en : nfU q = divU q := if_pos (sg.mpr (by omega))
    refine ⟨?_, by rw [ec]; omega⟩
    rw [en, ec]
    have e1 : (divU q).1 ++ [(divU q).2] = (q.1 ++ [q.2]).map (fun z => z / ((gcdL (q.1 ++ [q.2]) : Nat) : Int)) := by
      unfold divU
      dsimp only
      rw [List.map_append, List.map_singleton]
    rw [e1]
    exact List.map_congr_left fun z hz => ((zex_div g0 (dv z hz)).1).symm
theorem znonZ_app {a : List Int} (b : List Int) (h : NonZ a) : NonZ (a ++ b) := by
  obtain ⟨y, hy, ny⟩ := h.ex
  exact nonZ_of (List.mem_append_left _ hy) ny
end SB
namespace SB
theorem pair_ok {up lo : Int} (h : lo ≠ 0) : ∀ g c : Int, ((Nat.gcd up.natAbs lo.natAbs : Nat) : Int) = g → c = (if lo < 0 then -g else g) →
    Lo (up.fdiv c, lo.fdiv c) ∧ Eqr (up.fdiv c, lo.fdiv c) up lo ∧ (up.fdiv c).natAbs ≤ up.natAbs ∧ (lo.fdiv c).natAbs ≤ lo.natAbs ∧ c ≠ 0 ∧ c.natAbs ≤ lo.natAbs := by
  intro g c hg hc
  have d1 : g ∣ up := by rw [← hg]; exact gcd_dvd_l up lo
  have d2 : g ∣ lo := by rw [← hg]; exact gcd_dvd_r up lo
  by_cases hn : lo < 0
  · rw [if_pos hn] at hc
    subst hc
    have e1 : up.fdiv (-g) = (-up) / g := by
      rw [Int.fdiv_eq_ediv_of_dvd (Int.neg_dvd.mpr d1), Int.ediv_neg, Int.neg_ediv_of_dvd d1]
    have e2 : lo.fdiv (-g) = (-lo) / g := by
      rw [Int.fdiv_eq_ediv_of_dvd (Int.neg_dvd.mpr d2), Int.ediv_neg, Int.neg_ediv_of_dvd d2]
    obtain ⟨a1, a2, a3, a4, a5, a6⟩ := low_ok (t := -up) (b := -lo) (by omega) g (by rw [Int.natAbs_neg, Int.natAbs_neg]; exact hg)
    rw [e1, e2]
    refine ⟨a1, ?_, by rw [Int.natAbs_neg] at a3; exact a3, by rw [Int.natAbs_neg] at a4; exact a4, by omega, by rw [Int.natAbs_neg] at a6; rw [Int.natAbs_neg]; exact a6⟩
    unfold Eqr at *
    dsimp only at *
    rw [Int.mul_neg, Int.neg_mul] at a2
    omega
  · rw [if_neg hn] at hc
    subst hc
    obtain ⟨a1, a2, a3, a4, a5, a6⟩ := low_ok (t := up) (b := lo) (by omega) c hg
    rw [Int.fdiv_eq_ediv_of_nonneg _ (by omega), Int.fdiv_eq_ediv_of_nonneg _ (by omega)]
    exact ⟨a1, a2, a3, a4, by omega, a6⟩
theorem abs_nat (i : Int) : (if i < 0 then -i else i) = ((i.natAbs : Nat) : Int) := by
  by_cases h : i < 0
  · rw [if_pos h]; omega
  · rw [if_neg h]; omega
end SB
namespace SB
theorem lead_cons (z : Int) (r : List Int) : lead (z :: r) = if z = 0 then lead r else z := by
  unfold lead firstNZ
  rw [List.findIdx_cons]
  by_cases h : z = 0
  · rw [if_pos h, show decide (z ≠ 0) = false from decide_eq_false (fun n => n h)]
    rfl
  · rw [if_neg h, show decide (z ≠ 0) = true from decide_eq_true h]
    rfl
theorem lead_nil : lead [] = 0 := rfl
theorem lead_map {f : Int → Int} (h0 : f 0 = 0) : ∀ {ns : List Int}, (∀ z, z ∈ ns → z ≠ 0 → f z ≠ 0) → lead (ns.map f) = f (lead ns)
  | [], _ => by rw [List.map_nil, lead_nil, h0]
  | z :: r, h => by
    rw [List.map_cons, lead_cons, lead_cons]
    by_cases hz : z = 0
    · rw [if_pos hz, hz, h0, if_pos rfl]
      exact lead_map h0 fun y hy => h y (List.mem_cons_of_mem _ hy)
    · rw [if_neg hz, if_neg (h z List.mem_cons_self hz)]
theorem lead_filter : ∀ {ns t : List Int}, NonZ ns → ((ns ++ t).filter fun z => decide (z ≠ 0))[0]? = some (lead ns)
  | [], _, h => absurd (show false = true from h) Bool.false_ne_true
  | z :: r, t, h => by
    rw [lead_cons, List.cons_append]
    by_cases hz : z = 0
    · rw [if_pos hz, List.filter_cons_of_neg (by simp [hz])]
      refine lead_filter ?_
      have h2 : (decide (z ≠ 0) || r.any fun z => decide (z ≠ 0)) = true := h
      rw [show decide (z ≠ 0) = false from decide_eq_false (fun n => n hz), Bool.false_or] at h2
      exact h2
    · rw [if_neg hz, List.filter_cons_of_pos (by simp [hz])]
      rfl
/-- a question's form in one row -/
def grU (q : List Int × Int) : List Int := (nfU q).1 ++ [(nfU q).2]
theorem grU_inj {p q : List Int × Int} (h : grU p = grU q) : nfU p = nfU q := by
  unfold grU at h
  obtain ⟨h1, h2⟩ := List.append_inj' h rfl
  exact Prod.ext h1 (by simpa using h2)
theorem neg_div {x : Int} {g : Nat} (h : g ∣ x.natAbs) : (-x) / (g : Int) = -(x / (g : Int)) := Int.neg_ediv_of_dvd (Int.ofNat_dvd_left.mpr h)
theorem grU_eq {q : List Int × Int} (h : QOk q) : grU q = (q.1 ++ [q.2]).map fun x => if 0 < lead q.1 then x / ((gcdL (q.1 ++ [q.2]) : Nat) : Int) else (-x) / ((gcdL (q.1 ++ [q.2]) : Nat) : Int) := by
  obtain ⟨g0, _⟩ := h.g
  generalize hG : gcdL (q.1 ++ [q.2]) = G at *
  have dv : ∀ z, z ∈ q.1 ++ [q.2] → G ∣ z.natAbs := fun z hz => by rw [← hG]; exact gcdL_dvd hz
  have e1 : divU q = (q.1.map fun z => z / (G : Int), q.2 / (G : Int)) := by unfold divU; rw [hG]
  have gp : (0 : Int) < (G : Int) := by omega
  have el : lead (q.1.map fun z => z / (G : Int)) = lead q.1 / (G : Int) := lead_map (f := fun z => z / (G : Int)) (Int.zero_ediv _) fun z hz n => (div_le g0 (dv z (List.mem_append_left _ hz))).2 n
  have sg : 0 < lead q.1 / (G : Int) ↔ 0 < lead q.1 := by
    have hm : lead q.1 ∈ q.1 := List.mem_of_getElem? (firstNZ_at h.nz).1
    obtain ⟨t, et⟩ := Int.ofNat_dvd_left.mpr (dv _ (List.mem_append_left _ hm))
    rw [et, Int.mul_ediv_cancel_left _ (by omega)]
    constructor
    · exact fun z => Int.mul_pos gp z
    · intro z
      rcases Int.lt_trichotomy t 0 with y | y | y
      · have := Int.mul_neg_of_pos_of_neg gp y
        omega
      · rw [y, Int.mul_zero] at z
        omega
      · exact y
  unfold grU nfU
  rw [e1]
  dsimp only
  rw [el]
  by_cases hc : 0 < lead q.1
  · rw [if_pos (sg.mpr hc)]
    simp only [if_pos hc, List.map_append, List.map_cons, List.map_nil]
  · rw [if_neg (fun z => hc (sg.mp z))]
    simp only [if_neg hc, List.map_append, List.map_cons, List.map_nil, negU, List.map_map]
    rw [neg_div (dv q.2 (List.mem_append_right _ List.mem_cons_self))]
    refine congrArg (· ++ _) (List.map_congr_left fun z hz => ?_)
    exact (neg_div (dv z (List.mem_append_left _ hz))).symm
end SB
namespace SB
theorem gcdF_neg : ∀ (l : List Int) (c : Nat), (l.map fun z => -z).foldl (fun c z => Nat.gcd c z.natAbs) c = l.foldl (fun c z => Nat.gcd c z.natAbs) c
  | [], _ => rfl
  | z :: r, c => by
    rw [List.map_cons, List.foldl_cons, List.foldl_cons, Int.natAbs_neg]
    exact gcdF_neg r _
theorem gcdL_neg (l : List Int) : gcdL (l.map fun z => -z) = gcdL l := gcdF_neg l 0
theorem lead_neg (ns : List Int) : lead (ns.map fun z => -z) = -lead ns := lead_map (f := fun z => -z) rfl fun z _ h => by omega
theorem nfU_neg {q : List Int × Int} (h : QOk q) : nfU (negU q) = nfU q := by
  refine grU_inj ?_
  obtain ⟨_, n0, _⟩ := firstNZ_at h.nz
  rw [grU_eq h, grU_eq h.neg]
  have e : (negU q).1 ++ [(negU q).2] = (q.1 ++ [q.2]).map fun z => -z := by
    rw [List.map_append]
    rfl
  have el : lead (negU q).1 = -lead q.1 := lead_neg q.1
  rw [e, gcdL_neg, List.map_map, el]
  refine List.map_congr_left fun x _ => ?_
  show (if 0 < -lead q.1 then (-x) / _ else (-(-x)) / _) = _
  by_cases c : 0 < lead q.1
  · rw [if_pos c, if_neg (by omega), Int.neg_neg]
  · rw [if_neg c, if_pos (by omega)]
theorem foldU_neg : ∀ (ns : List Int) (us : List (Int × Int)) (g : Int × Int), sumU (ns.map fun z => -z) us (-g.1, g.2) = (-(sumU ns us g).1, (sumU ns us g).2)
  | [], _, _ => rfl
  | _ :: _, [], _ => rfl
  | z :: r, u :: t, g => by
    have h := foldU_neg r t (stepU g (z, u))
    have e : stepU (-g.1, g.2) (-z, u) = (-(stepU g (z, u)).1, (stepU g (z, u)).2) := by
      unfold stepU fPlus fTimes
      dsimp only
      refine Prod.ext ?_ rfl
      dsimp only
      grind
    show sumU (r.map fun z => -z) t (stepU (-g.1, g.2) (-z, u)) = _
    rw [e, h]
    rfl
theorem worth_neg (q : List Int × Int) (us : List (Int × Int)) : (worthU (negU q) us).1 = -(worthU q us).1 := by
  have h := foldU_neg q.1 us (-q.2, 1)
  have : worthU (negU q) us = sumU (q.1.map fun z => -z) us (-(-q.2, (1:Int)).1, (-q.2, (1:Int)).2) := rfl
  rw [this, h]
  rfl
theorem set_take {α : Type} {l : List α} {i : Nat} (a : α) (h : i < l.length) : (l.take i ++ [a]) ++ l.drop (i + 1) = l.set i a := by
  rw [List.set_eq_take_append_cons_drop, if_pos h, List.append_assoc]
  rfl
end SB
namespace SB
/-! ### numbers as fractions -/
def qv (p : Int × Int) : Rat := (p.1 : Rat) / (p.2 : Rat)
theorem rpos {b : Int} (h : 0 < b) : (0 : Rat) < (b : Rat) := Rat.intCast_pos.mpr h
theorem rne {b : Int} (h : 0 < b) : (b : Rat) ≠ 0 := fun e => by
  have := Rat.intCast_eq_zero_iff.mp e
  omega
theorem rne0 {b : Int} (h : b ≠ 0) : (b : Rat) ≠ 0 := fun e => h (Rat.intCast_eq_zero_iff.mp e)
theorem qv_mul {p : Int × Int} (h : 0 < p.2) : qv p * (p.2 : Rat) = (p.1 : Rat) := by
  have := rne h
  unfold qv
  grind
theorem qv_of {p : Int × Int} {x : Rat} (h : 0 < p.2) (e : x * (p.2 : Rat) = (p.1 : Rat)) : qv p = x := by
  have := rne h
  unfold qv
  grind
theorem qv_eqr {r : Int × Int} {N D : Int} (e : Eqr r N D) (h : 0 < r.2) (hD : 0 < D) : qv r = qv (N, D) := by
  refine qv_of h ?_
  have h1 := qv_mul (p := (N, D)) hD
  have e : r.1 * D = N * r.2 := e
  have e2 : (r.1 : Rat) * (D : Rat) = (N : Rat) * (r.2 : Rat) := by rw [← Rat.intCast_mul, e, Rat.intCast_mul]
  have := rne hD
  have h1 : qv (N, D) * (D : Rat) = (N : Rat) := h1
  grind
theorem qv_eqr' {r p : Int × Int} (e : Eqr r p.1 p.2) (h : 0 < r.2) (hD : 0 < p.2) : qv r = qv p := qv_eqr e h hD
theorem qv_inj {p q : Int × Int} (hp : Lo p) (hq : Lo q) (e : qv p = qv q) : p = q := by
  have h1 := qv_mul hp.1
  have h2 := qv_mul hq.1
  have e2 : (p.1 : Rat) * (q.2 : Rat) = (q.1 : Rat) * (p.2 : Rat) := by rw [e] at h1; grind
  rw [← Rat.intCast_mul, ← Rat.intCast_mul] at e2
  exact lo_uniq hp hq (Rat.intCast_inj.mp e2)
theorem qv_plus {p q : Int × Int} (hp : 0 < p.2) (hq : 0 < q.2) : qv (fPlus p q) = qv p + qv q := by
  refine qv_of (Int.mul_pos hp hq) ?_
  have h1 := qv_mul hp
  have h2 := qv_mul hq
  show _ * ((p.2 * q.2 : Int) : Rat) = ((p.1 * q.2 + q.1 * p.2 : Int) : Rat)
  rw [Rat.intCast_add, Rat.intCast_mul, Rat.intCast_mul, Rat.intCast_mul]
  grind
theorem qv_minus {p q : Int × Int} (hp : 0 < p.2) (hq : 0 < q.2) : qv (fMinus p q) = qv p - qv q := by
  refine qv_of (Int.mul_pos hp hq) ?_
  have h1 := qv_mul hp
  have h2 := qv_mul hq
  show _ * ((p.2 * q.2 : Int) : Rat) = ((p.1 * q.2 - q.1 * p.2 : Int) : Rat)
  rw [Rat.intCast_sub, Rat.intCast_mul, Rat.intCast_mul, Rat.intCast_mul]
  grind
theorem qv_times {p q : Int × Int} (hp : 0 < p.2) (hq : 0 < q.2) : qv (fTimes p q) = qv p * qv q := by
  refine qv_of (Int.mul_pos hp hq) ?_
  have h1 := qv_mul hp
  have h2 := qv_mul hq
  show _ * ((p.2 * q.2 : Int) : Rat) = ((p.1 * q.1 : Int) : Rat)
  rw [Rat.intCast_mul, Rat.intCast_mul]
  grind
theorem qv_int (z : Int) : qv (z, 1) = (z : Rat) := qv_of Int.one_pos (by show _ * ((1 : Int) : Rat) = (z : Rat); rw [Rat.intCast_one]; grind)
theorem qv_pos {p : Int × Int} (h : 0 < p.2) : 0 < qv p ↔ 0 < p.1 := by
  have h1 := qv_mul h
  have h2 := rpos h
  rw [← Rat.intCast_pos, ← h1]
  exact (Rat.mul_pos_iff_of_pos_right h2).symm
theorem qv_neg {p : Int × Int} (h : 0 < p.2) : qv p < 0 ↔ p.1 < 0 := by
  have h1 := qv_pos (p := (-p.1, p.2)) h
  have e : qv (-p.1, p.2) = -qv p := qv_of h (by
    have := qv_mul h
    show -qv p * (p.2 : Rat) = ((-p.1 : Int) : Rat)
    rw [Rat.intCast_neg]
    grind)
  rw [e] at h1
  have h1 : 0 < -qv p ↔ 0 < -p.1 := h1
  constructor
  · intro z
    have := h1.mp (by grind)
    omega
  · intro z
    have := h1.mpr (by omega)
    grind
/-- the sign of a fraction -/
def sgQ (x : Rat) : Int := if 0 < x then 1 else if x < 0 then -1 else 0
theorem sgQ_pos {x : Rat} (h : 0 < x) : sgQ x = 1 := if_pos h
theorem sgQ_neg {x : Rat} (h : x < 0) : sgQ x = -1 := by
  unfold sgQ
  rw [if_neg (by grind), if_pos h]
theorem sgQ_zero : sgQ 0 = 0 := by decide +kernel
theorem sgQ_mul {x c : Rat} (h : 0 < c) : sgQ (c * x) = sgQ x := by
  by_cases h1 : 0 < x
  · rw [sgQ_pos h1, sgQ_pos (Rat.mul_pos h h1)]
  · by_cases h2 : x < 0
    · have := Rat.mul_pos h (show 0 < -x by grind)
      rw [sgQ_neg h2, sgQ_neg (by grind)]
    · have : x = 0 := by grind
      rw [this, Rat.mul_zero]
/-- a sum of sides times numbers -/
def dotQ : List Int → List Rat → Rat
  | n :: r, x :: t => (n : Rat) * x + dotQ r t
  | _, _ => 0
theorem sumU_qv : ∀ (ns : List Int) (us : List (Int × Int)) (g : Int × Int), 0 < g.2 → (∀ u, u ∈ us → 0 < u.2) → qv (sumU ns us g) = qv g + dotQ ns (us.map qv)
  | [], us, g, _, _ => by
    show qv g = qv g + dotQ [] _
    cases us <;> (unfold dotQ; grind)
  | _ :: _, [], g, _, _ => by
    show qv g = qv g + 0
    grind
  | n :: r, u :: t, g, hg, hu => by
    have h2 := hu u List.mem_cons_self
    have h := sumU_qv r t (stepU g (n, u)) (stepU_pos hg h2) fun v hv => hu v (List.mem_cons_of_mem _ hv)
    show qv (sumU r t (stepU g (n, u))) = qv g + ((n : Rat) * qv u + dotQ r (t.map qv))
    have e : qv (stepU g (n, u)) = qv g + (n : Rat) * qv u := by
      show qv (fPlus g (fTimes (n, 1) u)) = _
      rw [qv_plus hg (Int.mul_pos Int.one_pos h2), qv_times Int.one_pos h2, qv_int]
    rw [h, e]
    grind
theorem worth_qv {q : List Int × Int} {us : List (Int × Int)} (h : ∀ u, u ∈ us → 0 < u.2) : qv (worthU q us) = dotQ q.1 (us.map qv) - (q.2 : Rat) := by
  unfold worthU
  rw [sumU_qv _ _ _ Int.one_pos h, qv_int, Rat.intCast_neg]
  grind
/-- on the way from xs to ys -/
def mixQ (s : Rat) (xs ys : List Rat) : List Rat := List.zipWith (fun x y => x + s * (y - x)) xs ys
theorem dot_mix (s : Rat) : ∀ (ns : List Int) (xs ys : List Rat), xs.length = ys.length → dotQ ns (mixQ s xs ys) = dotQ ns xs + s * (dotQ ns ys - dotQ ns xs)
  | [], xs, ys, _ => by
    have h : ∀ l : List Rat, dotQ [] l = 0 := fun l => by cases l <;> rfl
    rw [h, h, h]
    grind
  | n :: r, [], [], _ => by
    show (0 : Rat) = 0 + s * (0 - 0)
    grind
  | n :: r, x :: xs, y :: ys, h => by
    have := dot_mix s r xs ys (by simpa using h)
    show (n : Rat) * (x + s * (y - x)) + dotQ r (mixQ s xs ys) = ((n : Rat) * x + dotQ r xs) + s * (((n : Rat) * y + dotQ r ys) - ((n : Rat) * x + dotQ r xs))
    rw [this]
    grind
theorem mix_at {s : Rat} {xs ys : List Rat} {i : Nat} {x y : Rat} (h : xs[i]? = some x) (k : ys[i]? = some y) : (mixQ s xs ys)[i]? = some (x + s * (y - x)) := by
  unfold mixQ
  rw [List.getElem?_zipWith, h, k]
theorem qvs_inj : ∀ {ps qs : List (Int × Int)}, (∀ p, p ∈ ps → Lo p) → (∀ q, q ∈ qs → Lo q) → ps.map qv = qs.map qv → ps = qs
  | [], [], _, _, _ => rfl
  | [], _ :: _, _, _, e => by cases e
  | _ :: _, [], _, _, e => by cases e
  | p :: r, q :: t, hp, hq, e => by
    rw [List.map_cons, List.map_cons] at e
    obtain ⟨e1, e2⟩ := List.cons.inj e
    rw [qv_inj (hp p List.mem_cons_self) (hq q List.mem_cons_self) e1, qvs_inj (fun x h => hp x (List.mem_cons_of_mem _ h)) (fun x h => hq x (List.mem_cons_of_mem _ h)) e2]
/-- the one's answers, where these are 0 the other's -/
def aheadU (zs ws : List Int) : List Int := List.zipWith (fun z w => if z = 0 then w else z) zs ws
theorem ahead_len {zs ws : List Int} (h : zs.length = ws.length) : (aheadU zs ws).length = zs.length := by
  unfold aheadU
  rw [List.length_zipWith]
  omega
theorem ahead_at {zs ws : List Int} {i : Nat} {z w : Int} (h : zs[i]? = some z) (k : ws[i]? = some w) : (aheadU zs ws)[i]? = some (if z = 0 then w else z) := by
  unfold aheadU
  rw [List.getElem?_zipWith, h, k]
/-- near enough to the one point the answer is the one's, or where this is 0 the other's -/
theorem sg_ahead {a b s : Rat} (h0 : 0 < s) (h1 : s < 1) (hp : 0 < a → b < 0 → s * (a - b) < a) (hn : a < 0 → 0 < b → s * (b - a) < -a) : sgQ (a + s * (b - a)) = if sgQ a = 0 then sgQ b else sgQ a := by
  by_cases a1 : 0 < a
  · rw [sgQ_pos a1, if_neg (by decide)]
    refine sgQ_pos ?_
    by_cases b1 : b < 0
    · have := hp a1 b1
      grind
    · have h2 : 0 < (1 - s) * a := Rat.mul_pos (by grind) a1
      have h3 : 0 ≤ s * b := Rat.mul_nonneg (by grind) (by grind)
      grind
  · by_cases a2 : a < 0
    · rw [sgQ_neg a2, if_neg (by decide)]
      refine sgQ_neg ?_
      by_cases b1 : 0 < b
      · have := hn a2 b1
        grind
      · have h2 : 0 < (1 - s) * (-a) := Rat.mul_pos (by grind) (by grind)
        have h3 : 0 ≤ s * (-b) := Rat.mul_nonneg (by grind) (by grind)
        grind
    · have : a = 0 := by grind
      subst this
      rw [sgQ_zero, if_pos rfl]
      have : (0 : Rat) + s * (b - 0) = s * b := by grind
      rw [this, sgQ_mul h0]
end SB
namespace SB
/-! ### questions with the same noughts; a question moved -/
def scU (k : Int) (q : List Int × Int) : List Int × Int := (q.1.map fun z => k * z, k * q.2)
theorem scU_sc (a b : Int) (q : List Int × Int) : scU a (scU b q) = scU (a * b) q := by
  unfold scU
  refine Prod.ext ?_ ?_
  · show (q.1.map _).map _ = _
    rw [List.map_map]
    refine List.map_congr_left fun z _ => ?_
    show a * (b * z) = a * b * z
    rw [Int.mul_assoc]
  · show a * (b * q.2) = a * b * q.2
    rw [Int.mul_assoc]
theorem scU_cells (k : Int) (q : List Int × Int) : (scU k q).1 ++ [(scU k q).2] = (q.1 ++ [q.2]).map fun z => k * z := by
  rw [List.map_append]
  rfl
theorem gcdF_mul (k : Int) : ∀ (l : List Int) (c : Nat), (l.map fun z => k * z).foldl (fun c z => Nat.gcd c z.natAbs) (k.natAbs * c) = k.natAbs * l.foldl (fun c z => Nat.gcd c z.natAbs) c
  | [], _ => rfl
  | z :: r, c => by
    rw [List.map_cons, List.foldl_cons, List.foldl_cons, Int.natAbs_mul, Nat.gcd_mul_left]
    exact gcdF_mul k r _
theorem gcdL_mul (k : Int) (l : List Int) : gcdL (l.map fun z => k * z) = k.natAbs * gcdL l := gcdF_mul k l 0
theorem nonZ_g {q : List Int × Int} (h : NonZ q.1) : 0 < gcdL (q.1 ++ [q.2]) := by
  obtain ⟨z, h1, h2⟩ := h.ex
  exact gcdL_pos (List.mem_append_left _ h1) h2
theorem NonZ.sc {q : List Int × Int} (h : NonZ q.1) {k : Int} (hk : k ≠ 0) : NonZ (scU k q).1 := by
  obtain ⟨z, h1, h2⟩ := h.ex
  exact nonZ_of (List.mem_map.mpr ⟨z, h1, rfl⟩) (Int.mul_ne_zero hk h2)
theorem divU_sc {k : Int} (hk : 0 < k) {q : List Int × Int} (h : NonZ q.1) : divU (scU k q) = divU q := by
  have g0 := nonZ_g h
  have eg : ((gcdL ((scU k q).1 ++ [(scU k q).2]) : Nat) : Int) = k * ((gcdL (q.1 ++ [q.2]) : Nat) : Int) := by
    rw [scU_cells, gcdL_mul, Int.natCast_mul]
    congr 1
    omega
  unfold divU
  rw [eg]
  refine Prod.ext ?_ ?_
  · show (q.1.map _).map _ = _
    rw [List.map_map]
    refine List.map_congr_left fun z _ => ?_
    show (k * z) / (k * _) = z / _
    rw [Int.mul_ediv_mul_of_pos _ _ hk]
  · show (k * q.2) / (k * _) = q.2 / _
    rw [Int.mul_ediv_mul_of_pos _ _ hk]
/-- what the greatest divisor takes out -/
theorem scU_divU (q : List Int × Int) : scU ((gcdL (q.1 ++ [q.2]) : Nat) : Int) (divU q) = q := by
  unfold scU divU
  refine Prod.ext ?_ ?_
  · show (q.1.map _).map _ = q.1
    rw [List.map_map]
    have : ∀ l : List Int, (∀ z, z ∈ l → z ∈ q.1 ++ [q.2]) → l.map ((fun z => ((gcdL (q.1 ++ [q.2]) : Nat) : Int) * z) ∘ fun z => z / ((gcdL (q.1 ++ [q.2]) : Nat) : Int)) = l := fun l => by
      induction l with
      | nil => exact fun _ => rfl
      | cons z r ih =>
        intro h
        rw [List.map_cons, ih fun y hy => h y (List.mem_cons_of_mem _ hy)]
        congr 1
        exact Int.mul_ediv_cancel' (Int.ofNat_dvd_left.mpr (gcdL_dvd (h z List.mem_cons_self)))
    exact this q.1 fun z h => List.mem_append_left _ h
  · exact Int.mul_ediv_cancel' (Int.ofNat_dvd_left.mpr (gcdL_dvd (List.mem_append_right _ List.mem_cons_self)))
theorem divU_same {p q : List Int × Int} {u v : Int} (hu : 0 < u) (hv : 0 < v) (hp : NonZ p.1) (hq : NonZ q.1) (e : scU v p = scU u q) : divU p = divU q := by
  rw [← divU_sc hv hp, e, divU_sc hu hq]
theorem nonZ_div {q : List Int × Int} (h : NonZ q.1) : NonZ (divU q).1 := by
  have g0 := nonZ_g h
  obtain ⟨z, h1, h2⟩ := h.ex
  exact nonZ_of (List.mem_map.mpr ⟨z, h1, rfl⟩) ((div_le g0 (gcdL_dvd (List.mem_append_left _ h1))).2 h2)
theorem negU_sc (q : List Int × Int) : negU q = scU (-1) q := by
  unfold negU scU
  refine Prod.ext (List.map_congr_left fun z _ => ?_) ?_
  · show -z = -1 * z
    omega
  · show -q.2 = -1 * q.2
    omega
/-- the form is a multiple -/
theorem nf_sc {q : List Int × Int} (h : NonZ q.1) : ∃ a : Int, a ≠ 0 ∧ scU a (nfU q) = q := by
  have g0 := nonZ_g h
  unfold nfU
  by_cases c : 0 < lead (divU q).1
  · rw [if_pos c]
    exact ⟨_, by omega, scU_divU q⟩
  · rw [if_neg c, negU_sc]
    refine ⟨-((gcdL (q.1 ++ [q.2]) : Nat) : Int), by omega, ?_⟩
    rw [scU_sc]
    have : -((gcdL (q.1 ++ [q.2]) : Nat) : Int) * -1 = ((gcdL (q.1 ++ [q.2]) : Nat) : Int) := by omega
    rw [this, scU_divU]
theorem nf_of {p q : List Int × Int} (hp : NonZ p.1) (hq : NonZ q.1) (e : nfU p = nfU q) : ∃ u v : Int, u ≠ 0 ∧ v ≠ 0 ∧ scU v p = scU u q := by
  obtain ⟨a, a0, ea⟩ := nf_sc hp
  obtain ⟨b, b0, eb⟩ := nf_sc hq
  refine ⟨a, b, a0, b0, ?_⟩
  rw [← ea, e, scU_sc]
  conv => rhs; rw [← eb, scU_sc]
  rw [Int.mul_comm]
theorem nf_same {p q : List Int × Int} (hp : QOk p) (hq : QOk q) {u v : Int} (u0 : u ≠ 0) (v0 : v ≠ 0) (e : scU v p = scU u q) : nfU p = nfU q := by
  -- both factors above 0, perhaps with a question turned
  have key : ∀ {p q : List Int × Int} {u v : Int}, NonZ p.1 → NonZ q.1 → 0 < u → 0 < v → scU v p = scU u q → nfU p = nfU q := fun {p q u v} hp hq hu hv e => by
    unfold nfU
    rw [divU_same hu hv hp hq e]
  have neg : ∀ {p q : List Int × Int} {u v : Int}, scU v p = scU u q → scU (-v) p = scU (-u) q := fun {p q u v} e => by
    have := congrArg (scU (-1)) e
    rw [scU_sc, scU_sc] at this
    rw [show -v = -1 * v by omega, show -u = -1 * u by omega]
    exact this
  have pos : ∀ {p q : List Int × Int} {u v : Int}, QOk p → QOk q → u ≠ 0 → 0 < v → scU v p = scU u q → nfU p = nfU q := fun {p q u v} hp hq hu hv e => by
    by_cases c : 0 < u
    · exact key hp.nz hq.nz c hv e
    · rw [← nfU_neg hq]
      refine key hp.nz hq.neg.nz (u := -u) (v := v) (by omega) hv ?_
      rw [negU_sc, scU_sc, e]
      congr 1
      omega
  by_cases c : 0 < v
  · exact pos hp hq u0 c e
  · exact pos hp hq (u := -u) (v := -v) (by omega) (by omega) (neg e)
/-- in lowest terms -/
def lowU (p : Int × Int) : Int × Int := (p.1 / ((Nat.gcd p.1.natAbs p.2.natAbs : Nat) : Int), p.2 / ((Nat.gcd p.1.natAbs p.2.natAbs : Nat) : Int))
theorem lowU_ok {p : Int × Int} (h : 0 < p.2) : Lo (lowU p) ∧ Eqr (lowU p) p.1 p.2 := by
  obtain ⟨a, b, _⟩ := low_ok (t := p.1) h _ rfl
  exact ⟨a, b⟩
theorem lowU_is {p r : Int × Int} (h : 0 < p.2) (hr : Lo r) (e : Eqr r p.1 p.2) : r = lowU p := by
  obtain ⟨a, b⟩ := lowU_ok h
  refine qv_inj hr a ?_
  rw [qv_eqr' e hr.1 h, qv_eqr' b a.1 h]
/-- what the sides come to at a point, and the wall -/
def shiftU (q : List Int × Int) (us : List (Int × Int)) : Int × Int := lowU (fPlus (sumU q.1 us (0, 1)) (q.2, 1))
def rawU (q : List Int × Int) (r : Int × Int) : List Int × Int := (q.1.map fun z => z * r.2, r.1)
def movU (q : List Int × Int) (us : List (Int × Int)) : List Int × Int := divU (rawU q (shiftU q us))
theorem shift_pos {q : List Int × Int} {us : List (Int × Int)} (h : ∀ u, u ∈ us → Lo u) : 0 < (fPlus (sumU q.1 us (0, 1)) (q.2, 1)).2 := by
  refine Int.mul_pos (sumU_pos (by show (0 : Int) < 1; decide) fun p hp => ?_) Int.one_pos
  exact (h p.2 (List.of_mem_zip (a := p.1) (b := p.2) hp).2).1
theorem shift_lo {q : List Int × Int} {us : List (Int × Int)} (h : ∀ u, u ∈ us → Lo u) : Lo (shiftU q us) := (lowU_ok (shift_pos h)).1
theorem shift_qv {q : List Int × Int} {us : List (Int × Int)} (h : ∀ u, u ∈ us → Lo u) : qv (shiftU q us) = dotQ q.1 (us.map qv) + (q.2 : Rat) := by
  have p := shift_pos (q := q) h
  obtain ⟨a, b⟩ := lowU_ok p
  have h0 : 0 < (sumU q.1 us (0, 1)).2 := sumU_pos (by show (0 : Int) < 1; decide) fun p hp => (h p.2 (List.of_mem_zip (a := p.1) (b := p.2) hp).2).1
  show qv (lowU _) = _
  rw [qv_eqr' b a.1 p, qv_plus h0 Int.one_pos, sumU_qv _ _ _ Int.one_pos fun u hu => (h u hu).1, qv_int, qv_int, Rat.intCast_zero]
  grind
theorem raw_nz {q : List Int × Int} {r : Int × Int} (h : NonZ q.1) (hr : 0 < r.2) : NonZ (rawU q r).1 := by
  obtain ⟨z, h1, h2⟩ := h.ex
  exact nonZ_of (List.mem_map.mpr ⟨z, h1, rfl⟩) (Int.mul_ne_zero h2 (by omega))
theorem dot_sc (k : Int) : ∀ (ns : List Int) (xs : List Rat), dotQ (ns.map fun z => k * z) xs = (k : Rat) * dotQ ns xs
  | [], _ => by
    show dotQ [] _ = _ * dotQ [] _
    have h : ∀ l : List Rat, dotQ [] l = 0 := fun l => by cases l <;> rfl
    rw [h]
    grind
  | _ :: _, [] => by
    show (0 : Rat) = _ * 0
    grind
  | n :: r, x :: t => by
    show ((k * n : Int) : Rat) * x + dotQ (r.map _) t = (k : Rat) * ((n : Rat) * x + dotQ r t)
    rw [dot_sc k r t, Rat.intCast_mul]
    grind
/-- moved questions with the same noughts come of such -/
theorem mov_nf {p q : List Int × Int} {us : List (Int × Int)} (hp : QOk p) (hq : QOk q) (h : ∀ u, u ∈ us → Lo u) (e : nfU (movU p us) = nfU (movU q us)) : nfU p = nfU q := by
  have lp := shift_lo (q := p) h
  have lq := shift_lo (q := q) h
  have vp := shift_qv (q := p) h
  have vq := shift_qv (q := q) h
  generalize hrp : shiftU p us = rp at *
  generalize hrq : shiftU q us = rq at *
  have np := raw_nz (r := rp) hp.nz lp.1
  have nq := raw_nz (r := rq) hq.nz lq.1
  have ep : movU p us = divU (rawU p rp) := by unfold movU; rw [hrp]
  have eq : movU q us = divU (rawU q rq) := by unfold movU; rw [hrq]
  rw [ep, eq] at e
  obtain ⟨u, v, u0, v0, e2⟩ := nf_of (nonZ_div np) (nonZ_div nq) e
  have gp := nonZ_g np
  have gq := nonZ_g nq
  have sp := scU_divU (rawU p rp)
  have sq := scU_divU (rawU q rq)
  generalize ((gcdL ((rawU p rp).1 ++ [(rawU p rp).2]) : Nat) : Int) = a at sp
  generalize ((gcdL ((rawU q rq).1 ++ [(rawU q rq).2]) : Nat) : Int) = b at sq
  have a0 : a ≠ 0 := fun z => by
    rw [z] at sp
    obtain ⟨y, h1, h2⟩ := np.ex
    rw [← sp] at h1
    obtain ⟨x, _, hx⟩ := List.mem_map.mp h1
    rw [← hx, Int.zero_mul] at h2
    exact h2 rfl
  have b0 : b ≠ 0 := fun z => by
    rw [z] at sq
    obtain ⟨y, h1, h2⟩ := nq.ex
    rw [← sq] at h1
    obtain ⟨x, _, hx⟩ := List.mem_map.mp h1
    rw [← hx, Int.zero_mul] at h2
    exact h2 rfl
  -- the raw ones are multiples of one another
  have e3 : scU (v * b) (rawU p rp) = scU (u * a) (rawU q rq) := by
    rw [← sp, scU_sc]
    conv => rhs; rw [← sq, scU_sc]
    have := congrArg (scU (a * b)) e2
    rw [scU_sc, scU_sc] at this
    rw [show v * b * a = a * b * v by grind, show u * a * b = a * b * u by grind]
    exact this
  have V0 : v * b ≠ 0 := Int.mul_ne_zero v0 b0
  have U0 : u * a ≠ 0 := Int.mul_ne_zero u0 a0
  generalize v * b = V at e3 V0
  generalize u * a = U at e3 U0
  have es : p.1.map (fun z => V * rp.2 * z) = q.1.map fun z => U * rq.2 * z := by
    have h1 : (p.1.map fun z => z * rp.2).map (fun z => V * z) = (q.1.map fun z => z * rq.2).map fun z => U * z := congrArg Prod.fst e3
    rw [List.map_map, List.map_map] at h1
    have c1 : (fun z => V * rp.2 * z) = (fun z => V * z) ∘ fun z => z * rp.2 := funext fun z => by show V * rp.2 * z = V * (z * rp.2); grind
    have c2 : (fun z => U * rq.2 * z) = (fun z => U * z) ∘ fun z => z * rq.2 := funext fun z => by show U * rq.2 * z = U * (z * rq.2); grind
    rw [c1, c2]
    exact h1
  have ew : V * rp.1 = U * rq.1 := congrArg Prod.snd e3
  refine nf_same hp hq (u := U * rq.2) (v := V * rp.2) (Int.mul_ne_zero U0 (by have := lq.1; omega)) (Int.mul_ne_zero V0 (by have := lp.1; omega)) (Prod.ext es ?_)
  show V * rp.2 * p.2 = U * rq.2 * q.2
  have d1 := dot_sc (V * rp.2) p.1 (us.map qv)
  have d2 := dot_sc (U * rq.2) q.1 (us.map qv)
  rw [es, d2] at d1
  have m1 := qv_mul lp.1
  have m2 := qv_mul lq.1
  rw [vp] at m1
  rw [vq] at m2
  have ew2 : (V : Rat) * (rp.1 : Rat) = (U : Rat) * (rq.1 : Rat) := by rw [← Rat.intCast_mul, ew, Rat.intCast_mul]
  rw [Rat.intCast_mul, Rat.intCast_mul] at d1
  refine Rat.intCast_inj.mp ?_
  rw [Rat.intCast_mul, Rat.intCast_mul, Rat.intCast_mul, Rat.intCast_mul]
  grind
end SB
namespace SB
def lineQ (q : List Int × Int) (xs : List Rat) : Rat := dotQ q.1 xs - (q.2 : Rat)
theorem line_sc (k : Int) (q : List Int × Int) (xs : List Rat) : lineQ (scU k q) xs = (k : Rat) * lineQ q xs := by
  have h := dot_sc k q.1 xs
  show dotQ (q.1.map fun z => k * z) xs - ((k * q.2 : Int) : Rat) = (k : Rat) * (dotQ q.1 xs - (q.2 : Rat))
  rw [h, Rat.intCast_mul]
  grind
theorem line_raw (q : List Int × Int) (r : Int × Int) (xs : List Rat) : lineQ (rawU q r) xs = (r.2 : Rat) * dotQ q.1 xs - (r.1 : Rat) := by
  have h := dot_sc r.2 q.1 xs
  have e : (q.1.map fun z => z * r.2) = q.1.map fun z => r.2 * z := List.map_congr_left fun z _ => Int.mul_comm _ _
  show dotQ (q.1.map fun z => z * r.2) xs - (r.1 : Rat) = _
  rw [e, h]
theorem raw_g {q : List Int × Int} {r : Int × Int} (h : NonZ q.1) (hr : 0 < r.2) : ∃ g : Int, 0 < g ∧ scU g (divU (rawU q r)) = rawU q r := by
  have g0 := nonZ_g (raw_nz h hr)
  exact ⟨_, by omega, scU_divU _⟩
/-- a moved question at any point -/
theorem mov_line {q : List Int × Int} {us : List (Int × Int)} (hq : NonZ q.1) (h : ∀ u, u ∈ us → Lo u) : ∃ c : Rat, 0 < c ∧ ∀ xs, lineQ (movU q us) xs = c * (dotQ q.1 xs - dotQ q.1 (us.map qv) - (q.2 : Rat)) := by
  have lo := shift_lo (q := q) h
  have vs := shift_qv (q := q) h
  have e : movU q us = divU (rawU q (shiftU q us)) := rfl
  generalize shiftU q us = r at *
  obtain ⟨g, g0, eg⟩ := raw_g hq lo.1
  have gp := rpos g0
  have gn := rne g0
  have rp := rpos lo.1
  have m := qv_mul lo.1
  rw [vs] at m
  refine ⟨(r.2 : Rat) * (g : Rat)⁻¹, Rat.mul_pos rp (Rat.inv_pos.mpr gp), fun xs => ?_⟩
  have h1 := line_sc g (divU (rawU q r)) xs
  rw [eg, line_raw, ← e] at h1
  have h2 : (g : Rat) * (g : Rat)⁻¹ = 1 := Rat.mul_inv_cancel _ gn
  generalize (g : Rat)⁻¹ = i at h2 ⊢
  grind
def addQ (xs ys : List Rat) : List Rat := List.zipWith (fun x y => x + y) xs ys
theorem dot_add : ∀ (ns : List Int) (xs ys : List Rat), xs.length = ys.length → dotQ ns (addQ xs ys) = dotQ ns xs + dotQ ns ys
  | [], xs, ys, _ => by
    have h : ∀ l : List Rat, dotQ [] l = 0 := fun l => by cases l <;> rfl
    rw [h, h, h]
    grind
  | n :: r, [], [], _ => by
    show (0 : Rat) = 0 + 0
    grind
  | n :: r, x :: xs, y :: ys, h => by
    have := dot_add r xs ys (by simpa using h)
    show (n : Rat) * (x + y) + dotQ r (addQ xs ys) = ((n : Rat) * x + dotQ r xs) + ((n : Rat) * y + dotQ r ys)
    rw [this]
    grind
theorem add_at {xs ys : List Rat} {i : Nat} {x y : Rat} (h : xs[i]? = some x) (k : ys[i]? = some y) : (addQ xs ys)[i]? = some (x + y) := by
  unfold addQ
  rw [List.getElem?_zipWith, h, k]
theorem sg_same {a b s : Rat} (h0 : 0 ≤ s) (h1 : s ≤ 1) (e : sgQ a = sgQ b) : sgQ (a + s * (b - a)) = sgQ a := by
  have key : a + s * (b - a) = (1 - s) * a + s * b := by grind
  rw [key]
  by_cases a1 : 0 < a
  · rw [sgQ_pos a1] at e ⊢
    have b1 : 0 < b := by
      by_cases b1 : 0 < b
      · exact b1
      · unfold sgQ at e
        rw [if_neg b1] at e
        split at e <;> omega
    have h2 : 0 ≤ (1 - s) * a := Rat.mul_nonneg (by grind) (by grind)
    have h3 : 0 ≤ s * b := Rat.mul_nonneg h0 (by grind)
    refine sgQ_pos ?_
    by_cases hs : s = 0
    · subst hs
      grind
    · have : 0 < s * b := Rat.mul_pos (by grind) b1
      grind
  · by_cases a2 : a < 0
    · rw [sgQ_neg a2] at e ⊢
      have b1 : b < 0 := by
        by_cases b1 : b < 0
        · exact b1
        · unfold sgQ at e
          rw [if_neg b1] at e
          split at e <;> omega
      have h2 : 0 ≤ (1 - s) * (-a) := Rat.mul_nonneg (by grind) (by grind)
      have h3 : 0 ≤ s * (-b) := Rat.mul_nonneg h0 (by grind)
      refine sgQ_neg ?_
      by_cases hs : s = 0
      · subst hs
        grind
      · have : 0 < s * (-b) := Rat.mul_pos (by grind) (by grind)
        grind
    · have a0 : a = 0 := by grind
      subst a0
      have b0 : b = 0 := by
        rw [sgQ_zero] at e
        unfold sgQ at e
        split at e
        · omega
        · split at e
          · omega
          · grind
      subst b0
      have : (1 - s) * 0 + s * 0 = (0 : Rat) := by grind
      rw [this]
/-- moved there and back -/
theorem divU_raw1 (q : List Int × Int) : rawU q (q.2, 1) = q := by
  unfold rawU
  refine Prod.ext ?_ rfl
  show (q.1.map fun z => z * 1) = q.1
  have : (fun z : Int => z * 1) = id := funext fun z => Int.mul_one z
  rw [this, List.map_id]
theorem scU_inj {k : Int} (hk : k ≠ 0) {p q : List Int × Int} (e : scU k p = scU k q) : p = q := by
  have inj : ∀ {l m : List Int}, (l.map fun z => k * z) = (m.map fun z => k * z) → l = m := fun {l} => by
    induction l with
    | nil =>
      intro m h
      cases m with
      | nil => rfl
      | cons y t => cases h
    | cons z r ih =>
      intro m h
      cases m with
      | nil => cases h
      | cons y t =>
        rw [List.map_cons, List.map_cons] at h
        obtain ⟨h1, h2⟩ := List.cons.inj h
        rw [Int.eq_of_mul_eq_mul_left hk h1, ih h2]
  exact Prod.ext (inj (congrArg Prod.fst e)) (Int.eq_of_mul_eq_mul_left hk (congrArg Prod.snd e))
theorem mov_zero {q : List Int × Int} {us : List (Int × Int)} (h : ∀ u, u ∈ us → Lo u) (hz : dotQ q.1 (us.map qv) = 0) : movU q us = divU q := by
  have lo := shift_lo (q := q) h
  have vs := shift_qv (q := q) h
  rw [hz] at vs
  have : shiftU q us = (q.2, 1) := qv_inj lo ⟨Int.one_pos, by show Nat.gcd q.2.natAbs 1 = 1; exact Nat.gcd_one_right _⟩ (by rw [vs, qv_int]; grind)
  unfold movU
  rw [this, divU_raw1]
theorem mov_back {q : List Int × Int} {us vs : List (Int × Int)} (hq : NonZ q.1) (h : ∀ u, u ∈ us → Lo u) (k : ∀ u, u ∈ vs → Lo u) (e : dotQ q.1 (vs.map qv) = -dotQ q.1 (us.map qv)) : movU (movU q us) vs = divU q := by
  have lo := shift_lo (q := q) h
  have v1 := shift_qv (q := q) h
  have e1 : movU q us = divU (rawU q (shiftU q us)) := rfl
  generalize shiftU q us = r at *
  obtain ⟨g, g0, eg⟩ := raw_g hq lo.1
  rw [← e1] at eg
  have nm : NonZ (movU q us).1 := by rw [e1]; exact nonZ_div (raw_nz hq lo.1)
  generalize movU q us = p at *
  have lo2 := shift_lo (q := p) k
  have v2 := shift_qv (q := p) k
  have e2 : movU p vs = divU (rawU p (shiftU p vs)) := rfl
  generalize shiftU p vs = t at *
  rw [e2]
  have m1 := qv_mul lo.1
  have m2 := qv_mul lo2.1
  rw [v1] at m1
  rw [v2] at m2
  have gn := rne g0
  -- g times what p's sides come to
  have d1 := dot_sc g p.1 (vs.map qv)
  have s1 : (p.1.map fun z => g * z) = q.1.map fun z => z * r.2 := congrArg Prod.fst eg
  have w1 : g * p.2 = r.1 := congrArg Prod.snd eg
  have d2 := dot_sc r.2 q.1 (vs.map qv)
  have s2 : (q.1.map fun z => z * r.2) = q.1.map fun z => r.2 * z := List.map_congr_left fun z _ => Int.mul_comm _ _
  rw [s1, s2, d2, e] at d1
  have w2 : (g : Rat) * (p.2 : Rat) = (r.1 : Rat) := by rw [← Rat.intCast_mul, w1]
  refine divU_same (u := r.2 * t.2) (v := g) (Int.mul_pos lo.1 lo2.1) g0 (raw_nz nm lo2.1) hq (Prod.ext ?_ ?_)
  · show ((p.1.map fun z => z * t.2).map fun z => g * z) = q.1.map fun z => r.2 * t.2 * z
    have c1 : ((p.1.map fun z => z * t.2).map fun z => g * z) = (p.1.map fun z => g * z).map fun z => z * t.2 := by
      rw [List.map_map, List.map_map]
      exact List.map_congr_left fun z _ => by show g * (z * t.2) = g * z * t.2; rw [Int.mul_assoc]
    rw [c1, s1, List.map_map]
    exact List.map_congr_left fun z _ => by show z * r.2 * t.2 = r.2 * t.2 * z; grind
  · show g * t.1 = r.2 * t.2 * q.2
    refine Rat.intCast_inj.mp ?_
    rw [Rat.intCast_mul, Rat.intCast_mul, Rat.intCast_mul]
    grind
end SB
namespace SB
open PySem L2 GxR GA
/-! ### what the built-in names are -/
structure Blt (mg : Str → Option Value) : Prop where
  len : mg "len" = none
  int : mg "int" = none
  isi : mg "isinstance" = none
  tup : mg "tuple" = none
  lst : mg "list" = none
  str : mg "str" = none
  bool : mg "bool" = none
  rng : mg "range" = none
  abs : mg "abs" = none
  max : mg "max" = none
  min : mg "min" = none
  any : mg "any" = none
  all : mg "all" = none
  zip : mg "zip" = none
  gcd : mg "gcd" = some (.builtin "math.gcd")
theorem bootTup : bootBuiltins "tuple" = some (.type "tuple") := by decide +kernel
theorem bootLst : bootBuiltins "list" = some (.type "list") := by decide +kernel
theorem bootStr : bootBuiltins "str" = some (.type "str") := by decide +kernel
theorem bootBool : bootBuiltins "bool" = some (.type "bool") := by decide +kernel
theorem bootAll : bootBuiltins "all" = some (.builtin "all") := by decide +kernel
theorem bootAny : bootBuiltins "any" = some (.builtin "any") := by decide +kernel
theorem kTL {K : PySem.W.Frag} {T : String} {b1 b2 : Bool} (h1 : kitB T "tuple" = some b1) (h2 : kitB T "list" = some b2) : PySem.W.kitAny K (.type T) [.type "tuple", .type "list"] = some (b1 || b2) := by
  cases b1 with
  | true => exact kitAny_cons (kit_ty h1) (fun z => nomatch z) (fun _ => rfl)
  | false =>
    cases b2 with
    | true => exact kitAny_cons (kit_ty h1) (fun _ => kitAny_cons (kit_ty h2) (fun z => nomatch z) (fun _ => rfl)) (fun z => nomatch z)
    | false => exact kitAny_cons (kit_ty h1) (fun _ => kitAny_cons (kit_ty h2) (fun _ => kitAny_nil) (fun z => nomatch z)) (fun z => nomatch z)
theorem clsTL : Paired ClsV [.ty "tuple", .ty "list"] [.type "tuple", .type "list"] := .cons (.ty _) (.cons (.ty _) .nil)
theorem szN {n : Nat} (h : n ≤ 1000000) : n ≤ sizeLine := Nat.le_trans h (by decide)
theorem iteP {p A B : Prop} [Decidable p] (h : p) (a : A) : if decide p = true then A else B := by
  rw [decide_eq_true h]
  exact iteT a
theorem iteN {p A B : Prop} [Decidable p] (h : ¬ p) (b : B) : if decide p = true then A else B := by
  rw [decide_eq_false h]
  exact iteF b
theorem qd {Q : VK} {H : Hp} {x y : V} (e : x = y) (q : Q (.bl true) H) : Q (.bl (decide (x = y))) H := by
  rw [decide_eq_true e]
  exact q
theorem qe {Q : VK} {H : Hp} {b c : Bool} (e : b = c) (q : Q (.bl c) H) : Q (.bl b) H := by
  rw [e]
  exact q
theorem len_rng {n : Nat} (h : n ≤ sizeLine) : -(2 ^ 62) ≤ ((n : Nat) : Int) ∧ ((n : Nat) : Int) < 2 ^ 62 := by
  have e : sizeLine = 16777216 := sizeLine_eq
  omega
/-! ### never reached -/
theorem pe_no {X : Cx} {e : Expr} : PE X e (fun _ _ _ => False) := ⟨fun _ _ _ _ _ _ h => h.elim⟩
theorem ps_no {X : Cx} {st : Stmt} : PS X st (fun _ _ _ => False) := ⟨fun _ _ _ _ _ _ h => h.elim⟩
theorem pss_no {X : Cx} {st : List Stmt} : PSs X st (fun _ _ _ => False) := ⟨fun _ _ _ _ _ _ h => h.elim⟩
/-! ### how the heap grows: all that was tracked is as it was, tables may be longer -/
structure Gr (H H' : Hp) : Prop where
  keep : ∀ b o, (∀ ps, o ≠ .tbl ps) → H b = some o → H' b = some o
  tab : ∀ P, TabG H P → TabG H' P
/-- .. but what stands at d -/
structure GrD (d : Addr) (H H' : Hp) : Prop where
  keep : ∀ b o, b ≠ d → (∀ ps, o ≠ .tbl ps) → H b = some o → H' b = some o
  tab : ∀ P, P ≠ d → TabG H P → TabG H' P
theorem Gr.refl (H : Hp) : Gr H H := ⟨fun _ _ _ e => e, fun _ h => h⟩
theorem Gr.trans {H H1 H2 : Hp} (a : Gr H H1) (b : Gr H1 H2) : Gr H H2 := ⟨fun c o n e => b.keep c o n (a.keep c o n e), fun P h => b.tab P (a.tab P h)⟩
theorem Gr.new {H H1 : Hp} {p : Addr} (a : Gr H H1) (h : H1 p = none) (o : HO) : Gr H (upd H1 p o) := by
  refine ⟨fun b u n e => ?_, fun P t => ?_⟩
  · have e1 := a.keep b u n e
    rw [upd_ne (ne_of_none e1 h)]
    exact e1
  · obtain ⟨ps, e1, t1⟩ := a.tab P t
    exact ⟨ps, by rw [upd_ne (ne_of_none e1 h)]; exact e1, t1⟩
theorem Gr.tabbed {H H1 H2 : Hp} {P : Addr} (a : Gr H H1) (hP : TabG H1 P) (h : Tabbed P H1 H2) : Gr H H2 := by
  refine ⟨fun b u n e => ?_, fun Q t => ?_⟩
  · have e1 := a.keep b u n e
    rw [h.2 b fun z => ?_]
    · exact e1
    · obtain ⟨ps, e2, _⟩ := hP
      rw [z, e2] at e1
      exact n ps (Option.some.inj e1).symm
  · by_cases z : Q = P
    · rw [z]
      exact h.1
    · obtain ⟨ps, e1, t1⟩ := a.tab Q t
      exact ⟨ps, by rw [h.2 Q z]; exact e1, t1⟩
theorem Gr.d {H H' : Hp} (a : Gr H H') (d : Addr) : GrD d H H' := ⟨fun b o _ n e => a.keep b o n e, fun P _ h => a.tab P h⟩
theorem GrD.refl (d : Addr) (H : Hp) : GrD d H H := (Gr.refl H).d d
theorem GrD.trans {d : Addr} {H H1 H2 : Hp} (a : GrD d H H1) (b : GrD d H1 H2) : GrD d H H2 := ⟨fun c o z n e => b.keep c o z n (a.keep c o z n e), fun P z h => b.tab P z (a.tab P z h)⟩
theorem GrD.gr {d : Addr} {H H1 H2 : Hp} (a : GrD d H H1) (b : Gr H1 H2) : GrD d H H2 := a.trans (b.d d)
theorem GrD.set {d : Addr} {H H1 : Hp} (a : GrD d H H1) (o : HO) : GrD d H (upd H1 d o) := ⟨fun c u z n e => by rw [upd_ne z]; exact a.keep c u z n e, fun P z h => by
  obtain ⟨ps, e, t⟩ := a.tab P z h
  exact ⟨ps, by rw [upd_ne z]; exact e, t⟩⟩
theorem Gr.seqT {K : PySem.W.Frag} {H H' : Hp} {a : Addr} {xs : List V} (e : Gr H H') (h : SqT K H a xs) : SqT K H' a xs := by
  rcases h with (h | ⟨o, h⟩) | h
  · exact .inl (.inl (e.keep _ _ (fun _ z => nomatch z) h))
  · exact .inl (.inr ⟨o, e.keep _ _ (fun _ z => nomatch z) h⟩)
  · exact .inr h
theorem Gr.seqL {K : PySem.W.Frag} {H H' : Hp} {a : Addr} {xs : List V} (e : Gr H H') (h : SqL K H a xs) : SqL K H' a xs := by
  rcases h with (h | ⟨o, h⟩) | h
  · exact .inl (.inl (e.keep _ _ (fun _ z => nomatch z) h))
  · exact .inl (.inr ⟨o, e.keep _ _ (fun _ z => nomatch z) h⟩)
  · exact .inr h
/-- the deck is a list: no tuple stands there -/
theorem GrD.seqT {K : PySem.W.Frag} {d : Addr} {H H' : Hp} {a : Addr} {xs ys : List V} (e : GrD d H H') (hd : H d = some (.lst ys)) (h : SqT K H a xs) : SqT K H' a xs := by
  rcases h with (h | ⟨o, h⟩) | h
  · exact .inl (.inl (e.keep _ _ (ne_of h hd (fun z => nomatch z)) (fun _ z => nomatch z) h))
  · exact .inl (.inr ⟨o, e.keep _ _ (ne_of h hd (fun z => nomatch z)) (fun _ z => nomatch z) h⟩)
  · exact .inr h
/-- tables there -/
def Tbs (ts : List Addr) (H : Hp) : Prop := ∀ P ∈ ts, TabG H P
theorem Tbs.gr {ts : List Addr} {H H' : Hp} (t : Tbs ts H) (g : Gr H H') : Tbs ts H' := fun P h => g.tab P (t P h)
/-! ### kinds of values -/
def scB : V → Bool
  | .non => true
  | .bl _ => true
  | .int _ => true
  | .str _ => true
  | _ => false
def isInt : V → Bool
  | .int _ => true
  | _ => false
theorem tyL {K : PySem.W.Frag} {H : Hp} {a : Addr} {xs : List V} (h : SqL K H a xs) : TyX K H (.ref a) (.type "list") := by
  rcases h with (h | ⟨o, h⟩) | ⟨o, its, n, h, c, _⟩
  · exact .base (.lst h)
  · exact .base (.frz h)
  · exact .kList h c
theorem tyT {K : PySem.W.Frag} {H : Hp} {a : Addr} {xs : List V} (h : SqT K H a xs) : TyX K H (.ref a) (.type "tuple") := by
  rcases h with (h | ⟨o, h⟩) | ⟨o, its, n, h, c, _⟩
  · exact .base (.tup h)
  · exact .fTuple h
  · exact .kTuple h c
/-- the types that are looked at, of a known value -/
inductive Kn (K : PySem.W.Frag) (H : Hp) : V → String → Prop where
  | non : Kn K H .non "NoneType"
  | bl (b : Bool) : Kn K H (.bl b) "bool"
  | int (i : Int) : Kn K H (.int i) "int"
  | str (x : Str) : Kn K H (.str x) "str"
  | lst {a : Addr} {xs : List V} (h : SqL K H a xs) : Kn K H (.ref a) "list"
  | tup {a : Addr} {xs : List V} (h : SqT K H a xs) : Kn K H (.ref a) "tuple"
theorem Kn.ty {K : PySem.W.Frag} {H : Hp} {x : V} {t : String} (k : Kn K H x t) : TyX K H x (.type t) := by
  cases k with
  | non => exact .base .non
  | bl b => exact .base (.bl b)
  | int i => exact .base (.int i)
  | str x => exact .base (.str x)
  | lst h => exact tyL h
  | tup h => exact tyT h
/-! ### any(..) of a tuple, a list of ints -/
section
variable {X : Cx}
theorem truth_ints {prog : Program} {w : World} {A : Around} {ns : List Int} {its : List Value} (e : Vals (ns.map V.int) its) :
    PySem.TruthOf prog w A (fun i v => its.toArray[i]? = some v) (fun i => (ns.map fun z => decide (z ≠ 0)).getD i false) := fun i v s Q E hv hq => by
  have hv' : its[i]? = some v := by simpa using hv
  have hl := Vals.length e
  rw [List.length_map] at hl
  have hi : i < ns.length := by
    have := (List.getElem?_eq_some_iff.mp hv').1
    omega
  obtain ⟨u, hu, ru⟩ := Vals.get e (i := i) (x := .int ns[i]) (by rw [List.getElem?_map, List.getElem?_eq_getElem hi] <;> rfl)
  rw [hv'] at hu
  obtain ⟨t, et⟩ := ru
  cases hu
  subst et
  have hg : (ns.map fun z => decide (z ≠ 0)).getD i false = decide (ns[i] ≠ 0) := by
    rw [List.getD_eq_getElem?_getD, List.getElem?_map, List.getElem?_eq_getElem hi] <;> rfl
  have hq : Q ((ns.map fun z => decide (z ≠ 0)).getD i false) s := hq
  rw [hg] at hq
  refine PySem.P.truthy_int ?_
  first
    | exact hq
    | (have e2 : (ns[i] != 0) = decide (ns[i] ≠ 0) := by rw [bne, Bool.eq_iff_iff]; simp
       rw [e2]; exact hq)
theorem any_ints : ∀ ns : List Int, (List.range ns.length).any (fun i => (ns.map fun z => decide (z ≠ 0)).getD i false) = ns.any fun z => decide (z ≠ 0) := fun ns => by
  have h := any_range (ns.map fun z => decide (z ≠ 0))
  rw [List.length_map, List.any_map] at h
  exact h
def rAnyT (K : PySem.W.Frag) : List V → Hp → VK → Prop := fun vs H Q => ∃ (a : Addr) (ns : List Int), vs = [V.ref a] ∧ SqT K H a (ns.map V.int) ∧ Q (.bl (ns.any fun z => decide (z ≠ 0))) H
theorem cr_anyT (hc : X.calm = true) : CallR X (.builtin "any") (rAnyT X.K) := by
  intro pins s σ H vs us Q I r h
  obtain ⟨a, ns, rfl, hs, q⟩ := h
  obtain ⟨its, rv, hl, _⟩ := I.tuple hs
  rw [Vals.ref1 r]
  have hlt : a < s.heap.objs.size := by obtain ⟨_, e, _⟩ := hl; exact Heap.lt_size e
  refine PySem.call_any_walk (PySem.wpAny_pyIter_tuple (show s.heap.IsTuple a its.toArray from hl) ?_)
  refine ⟨_, _, _, _, _, _, _, rfl, PySem.Walks.tuple (A := X.A.in1) (I.ok.hd hc) _ a (Nat.ne_of_lt hlt) its.toArray, ⟨⟨_, Heap.get?_push_size _ rfl, rfl, rfl⟩, (show s.heap.IsTuple a its.toArray from hl).push _⟩, truth_ints rv, fun h' tk hk => ?_⟩
  refine ⟨.bl _, H, I.kept fun b o eo => hk b o (fun hmem => ?_) (Heap.get?_push_of_some _ eo), ?_, q⟩
  · rcases List.mem_cons.mp hmem with e1 | hmem
    · exact absurd (e1 ▸ Heap.lt_size eo) (Nat.lt_irrefl _)
    · cases hmem
  · show Value.bool _ = Value.bool _
    have hl2 := Vals.length rv
    rw [List.length_map] at hl2
    rw [← any_ints, List.size_toArray, hl2]
end
/-! ### a def whose code object is known, with its table -/
structure FunT (K : PySem.W.Frag) (x : Str) (st : Stmt) (f : Addr) (fd : FuncData) (c : Addr) : Prop where
  ex : ∃ (oc : Value) (od : Option Addr) (kV doc pm : Value) (an : Option Addr) (ct : Value) (osl : Array (Option Value)),
    fd = PySem.W.fnOf x x (defArgs st) (defBody st) (defScope st) .none kV doc pm an (.ref c) ct ∧ K.lookup f = some ⟨oc, od, .func fd, osl⟩ ∧ PySem.W.codeIn K (.ref c) x = true
  kp : PySem.W.keepIn K (.ref f) = true
theorem FunT.fn {K : PySem.W.Frag} {x : Str} {st : Stmt} {f : Addr} {fd : FuncData} {c : Addr} (F : FunT K x st f fd c) : Fun K x x st f fd := by
  obtain ⟨oc, od, kV, doc, pm, an, ct, osl, h1, h2, h3⟩ := F.ex
  exact ⟨⟨oc, od, kV, doc, pm, an, _, ct, osl, h1, h2, h3⟩, F.kp⟩
theorem FunT.ok {P : Program} {w : World} {K : PySem.W.Frag} {mg : Str → Option Value} {base : Heap} {x : Str} {st : Stmt} {f : Addr} {fd : FuncData} {c : Addr} {N ps : List Str} {k : Nat} {sp : Sp} (F : FunT K x st f fd c) (S : FnScope N ps (defScope st)) (len : ∀ vs H Q E, sp vs H Q E → vs.length = ps.length)
    (hbody : ∀ (A : Around) (outer : List Env) (s : Shared) (H : Hp) (vs : List V) (Q : VK) (E : XK), Room k (A.deeper (PyProof.Rows.envOfC x (defScope st) s.heap.objs.size f (.ref c))) → sp vs H Q E →
      ∃ t, PSs (cxOf CX0 P w K mg base N x (defScope st) f (.ref c) A outer s H E).nox (defBody st) t ∧ t { nx := fun _ H' => Q .non H', rt := Q } (start N vs) H) : FnOk P w K mg base CX0 (k + 1) f fd ps sp := by
  obtain ⟨oc, od, kV, doc, pm, an, ct, osl, rfl, lk, hcd⟩ := F.ex
  refine fn_of lk hcd S len fun A outer s H vs Q E hr hsp => ?_
  obtain ⟨t, h, q⟩ := hbody A outer s H vs Q E hr hsp
  exact ⟨t, h.nox, q⟩
/-- a look at the names of a generator expression -/
def genC (N : List Str) (sc scope : Scope) (own : List (Str × Nat)) : Bool :=
  blkC N sc scope own && !scope.isCoroutine && scope.names.all (fun y => !decide (y.2 = .cell)) && decide (scope.names.lookup (".0" : Str) = some NameKind.local)
theorem genOk_by {N : List Str} {sc scope : Scope} {own : List (Str × Nat)} (h : genC N sc scope own = true) : GenOk N sc scope own := by
  unfold genC at h
  simp only [Bool.and_eq_true, Bool.not_eq_true', decide_eq_true_eq, List.all_eq_true, decide_eq_false_iff_not] at h
  obtain ⟨⟨⟨h1, h2⟩, h3⟩, h4⟩ := h
  exact { toBlkOk := blkOk_by h1, co := h2, cell := h3, dot := h4 }
theorem Room.gen {k : Nat} {X : Cx} {cenv : Env} (r : Room (k + 1) X.A) : Room k (arG X cenv) :=
  ⟨r.hd, by have := r.dp; show X.A.depth + 1 + 3 * k + 5 < _; omega, by have := r.un; show X.A.units + 1 + 1 + 3 + 16 * k + 200 < _; omega⟩
/-- a walk over a tuple, each item told (p: what is known of an item that was true) -/
theorem plan_tup {K : PySem.W.Frag} {a : Addr} {xs : List V} {g : TG} {te : TE} {σ0 : L2.St} {vs : List Nat} {QT QF : Hp → Prop} {H2 : Hp} (p : Nat → Prop) (hS : SqT K H2 a xs)
    (step : ∀ i x H, xs[i]? = some x → Gr H2 H → g x σ0 H fun σ2 H3 => wipe σ2 vs = σ0 ∧ te σ2 H3 fun y H4 => ∃ b, y = .bl b ∧ (if b = true then Gr H2 H4 ∧ p i else QF H4))
    (fin : ∀ H, Gr H2 H → (∀ i, i < xs.length → p i) → QT H) : ∃ W : Nat → Nat → Hp → Prop, (∃ m, W 0 m H2) ∧ Plan (Itt K a) g tYes te σ0 vs QT QF W := by
  refine ⟨fun i m H => Gr H2 H ∧ i + m = xs.length ∧ ∀ j, j < i → p j, ⟨xs.length, Gr.refl _, Nat.zero_add _, fun j hj => absurd hj (Nat.not_lt_zero _)⟩, fun i m H w => ?_⟩
  obtain ⟨gr, hm, hp⟩ := w
  have hSi := gr.seqT hS
  cases m with
  | zero => exact .inl ⟨⟨xs, hSi, by omega⟩, fin H gr fun j hj => hp j (by omega)⟩
  | succ m =>
    have hi : i < xs.length := by omega
    refine .inr ⟨⟨xs, xs[i], hSi, List.getElem?_eq_getElem hi⟩, fun H' => Gr H2 H' ∧ p i, fun H' h => ⟨m, Nat.lt_succ_self _, h.1, by omega, fun j hj => ?_⟩, fun x H' hy => ?_⟩
    · by_cases e : j = i
      · rw [e]
        exact h.2
      · exact hp j (by omega)
    · obtain ⟨rfl, hx⟩ := hy
      have ex := step i x H' (hx xs hSi) gr
      exact ex
end SB
namespace SB
open PySem L2 GxR GA
/-! ### short rules -/
section
variable {X : Cx} {e e2 : Expr} {te te2 : TE} {p p1 p2 pos : Pos}
def tMo (te : TE) : TE := fun σ H Q => ∃ K2 : VK, te σ H K2 ∧ ∀ x H1, K2 x H1 → Q x H1
theorem pe_mo (he : PE X e te) : PE X e (tMo te) := ⟨fun pins s σ H Q I ⟨K2, w, m⟩ => thn (he.run pins s σ H K2 I w) fun v s1 ⟨x, H1, I1, r1, q1⟩ => ⟨x, H1, I1, r1, m _ _ q1⟩⟩
theorem pe_imp {te' : TE} (he : PE X e te) (i : ∀ σ H Q, te' σ H Q → te σ H Q) : PE X e te' := ⟨fun pins s σ H Q I w => he.run pins s σ H Q I (i _ _ _ w)⟩
/-- isinstance(e, T) -/
def tIsi (K : PySem.W.Frag) (te : TE) (T : String) : TE := fun σ H Q => te σ H fun x H1 => ∃ t b, Kn K H1 x t ∧ kitB t T = some b ∧ Q (.bl b) H1
theorem pe_isi {x : Str} (T : String) (he : PE X e te) (hb : bootBuiltins x = some (.type T)) (hm : X.mg x = none) (hi : X.mg "isinstance" = none) (hg : Gl X "isinstance" := by rfl) (hgx : Gl X x := by rfl) (hn : x ≠ "__name__" := by decide) (hd : (x == ("__debug__" : Str)) = false := by decide)
    (hst : starEach [e, .Name x p1] X.env = (false, eval e X.env) :: starEach [.Name x p1] X.env := by rfl) (hst2 : starEach [.Name x p1] X.env = (false, eval (.Name x p1) X.env) :: starEach [] X.env := by rfl) (hpl : (backTo pos (starEach [.Name x p1] X.env)).any (·.1) = false := by rfl) :
    PE X (.Call (.Name "isinstance" p) [e, .Name x p1] [] pos) (tIsi X.K te T) :=
  pe_imp (pe_callB (X := X) (p := p) (pos := pos) call_isi hg hi PyProof.Rows.boot_isinstance (pa_cons (pe_mo he) (pa_cons (pe_bltn (v := .ty T) (pos := p1) hgx hm hb rfl hn hd) pa_nil hst2) hst) (by decide) (by decide) hst hpl)
    fun σ H Q w => ⟨_, w, fun x H1 ⟨t, b, k, kb, q⟩ => ⟨x, .ty T, .type t, .type T, b, rfl, .ty _, k.ty, kit_ty kb, q⟩⟩
/-- len(e) of a tuple, a list -/
def tLen (K : PySem.W.Frag) (te : TE) : TE := fun σ H Q => te σ H fun x H1 => ∃ a xs, x = .ref a ∧ (SqL K H1 a xs ∨ SqT K H1 a xs) ∧ Q (.int ((xs.length : Nat) : Int)) H1
theorem pe_len (he : PE X e te) (hm : X.mg "len" = none) (hg : Gl X "len" := by rfl) (hst : starEach [e] X.env = (false, eval e X.env) :: starEach [] X.env := by rfl) (hpl : (backTo pos (starEach [] X.env)).any (·.1) = false := by rfl) :
    PE X (.Call (.Name "len" p) [e] [] pos) (tLen X.K te) :=
  pe_imp (pe_callB (X := X) (p := p) (pos := pos) call_len_seq hg hm PySem.boot_len (pa_cons (pe_mo he) pa_nil hst) (by decide) (by decide) hst hpl)
    fun σ H Q w => ⟨_, w, fun x H1 ⟨a, xs, ex, k, q⟩ => ⟨a, xs, by rw [ex], k, q⟩⟩
/-- e[k] of a tuple, k written or known -/
def tAt (K : PySem.W.Frag) (te ti : TE) : TE := fun σ H Q => te σ H fun x H1 => ti σ H1 fun y H2 => ∃ a xs i v, x = .ref a ∧ y = .int i ∧ (SqL K H2 a xs ∨ SqT K H2 a xs) ∧ atI xs i = some v ∧ Q v H2
/-- gcd(a, b) -/
def tGcd (ta tb : TE) : TE := fun σ H Q => ta σ H fun x H1 => tb σ H1 fun y H2 => ∃ i j : Int, x = .int i ∧ y = .int j ∧ Q (.int ((Nat.gcd i.natAbs j.natAbs : Nat) : Int)) H2
def tMo2 (ta tb : TE) : TA := fun σ H Q => ta σ H fun x H1 => tb σ H1 fun y H2 => Q [x, y] H2
end
/-! ### a def that may be called by its name -/
structure Cl (P : Program) (w : World) (K : PySem.W.Frag) (mg : Str → Option Value) (base : Heap) (k : Nat) (x : Str) (ps : List Str) (sp : Sp) : Prop where
  ex : ∃ (f : Addr) (fd : FuncData), FnOk P w K mg base CX0 k f fd ps sp ∧ mg x = some (.ref f) ∧ PySem.W.keepIn K (.ref f) = true ∧ Binds K fd ps []
  lk : ∀ f : Addr, mg x = some (.ref f) → ∃ (fd : FuncData), FnOk P w K mg base CX0 k f fd ps sp ∧ ∃ (oc : Value) (od : Option Addr) (osl : Array (Option Value)), K.lookup f = some ⟨oc, od, .func fd, osl⟩
theorem pe_cl {X : Cx} {k : Nat} {x : Str} {ps : List Str} {sp : Sp} {p pos : Pos} {e : Expr} {es : List Expr} {t : TA} (c : Cl X.prog X.w X.K X.mg X.base k x ps sp) (hr : Room k X.A) (ha : PA X (e :: es) t) (hg : Gl X x := by rfl) (hdb : (x == ("__debug__" : Str)) = false := by decide)
    (he : starEach (e :: es) X.env = (false, eval e X.env) :: starEach es X.env := by rfl) (hpl : (backTo pos (starEach es X.env)).any (·.1) = false := by rfl) :
    PE X (.Call (.Name x p) (e :: es) [] pos) (tCall sp [] E0 t) := by
  obtain ⟨f, fd, F, hm, hk, hb⟩ := c.ex
  exact pe_call F hr hg hm hk hb .nil pass0 ha hdb he hpl
theorem Cl.mono {P : Program} {w : World} {K : PySem.W.Frag} {mg : Str → Option Value} {base : Heap} {j k : Nat} {x : Str} {ps : List Str} {sp : Sp} (c : Cl P w K mg base j x ps sp) (h : j ≤ k) : Cl P w K mg base k x ps sp := by
  obtain ⟨f, fd, F, r⟩ := c.ex
  exact ⟨⟨f, fd, F.mono h, r⟩, fun g hg => let ⟨gd, G, z⟩ := c.lk g hg; ⟨gd, G.mono h, z⟩⟩
theorem fn_imp {P : Program} {w : World} {K : PySem.W.Frag} {mg : Str → Option Value} {base : Heap} {CX : CXT} {k : Nat} {f : Addr} {fd : FuncData} {ps : List Str} {sp sp2 : Sp} (F : FnOk P w K mg base CX k f fd ps sp) (i : ∀ vs H Q E, sp2 vs H Q E → sp vs H Q E) : FnOk P w K mg base CX k f fd ps sp2 :=
  ⟨fun vs H Q E h => F.len vs H Q E (i _ _ _ _ h), fun A outer s H args us vs Q E hr e b r h => F.run A outer s H args us vs Q E hr e b r (i _ _ _ _ h)⟩
/-- a promise that asks more -/
theorem Cl.imp {P : Program} {w : World} {K : PySem.W.Frag} {mg : Str → Option Value} {base : Heap} {k : Nat} {x : Str} {ps : List Str} {sp sp2 : Sp} (c : Cl P w K mg base k x ps sp) (i : ∀ vs H Q E, sp2 vs H Q E → sp vs H Q E) : Cl P w K mg base k x ps sp2 := by
  obtain ⟨f, fd, F, r⟩ := c.ex
  exact ⟨⟨f, fd, fn_imp F i, r⟩, fun g hg => let ⟨gd, G, z⟩ := c.lk g hg; ⟨gd, fn_imp G i, z⟩⟩
/-- a def of the text, under its name -/
structure Df (K : PySem.W.Frag) (mg : Str → Option Value) (x : Str) (st : Stmt) : Prop where
  ex : ∃ (f : Addr) (fd : FuncData), Fun K x x st f fd ∧ mg x = some (.ref f)
/-- .. with its code object at c -/
structure DfT (K : PySem.W.Frag) (mg : Str → Option Value) (x : Str) (st : Stmt) (c : Addr) : Prop where
  ex : ∃ (f : Addr) (fd : FuncData), FunT K x st f fd c ∧ mg x = some (.ref f)
section
variable {P : Program} {w : World} {K : PySem.W.Frag} {mg : Str → Option Value} {base : Heap} {k : Nat} {x : Str} {st : Stmt} {ps : List Str} {sp : Sp} {c : Addr}
theorem Df.cl (D : Df K mg x st) (hb : ∀ (kV doc pm : Value) (an : Option Addr) (cdv ct : Value) (us : List Value), us.length = ps.length → bindArgs (PySem.W.fnOf x x (defArgs st) (defBody st) (defScope st) .none kV doc pm an cdv ct) ⟨us, []⟩ = pure (ps.zip us))
    (h : ∀ f fd, Fun K x x st f fd → FnOk P w K mg base CX0 k f fd ps sp) : Cl P w K mg base k x ps sp := by
  obtain ⟨f, fd, F, m⟩ := D.ex
  obtain ⟨oc, od, kV, doc, pm, an, cdv, ct, osl, e, lk, hcd⟩ := F.ex
  exact ⟨⟨f, fd, h f fd F, m, F.kp, F.binds hb⟩, fun g hg => by
    rw [m] at hg
    cases hg
    exact ⟨fd, h f fd F, oc, od, osl, lk⟩⟩
theorem DfT.cl (D : DfT K mg x st c) (hb : ∀ (kV doc pm : Value) (an : Option Addr) (cdv ct : Value) (us : List Value), us.length = ps.length → bindArgs (PySem.W.fnOf x x (defArgs st) (defBody st) (defScope st) .none kV doc pm an cdv ct) ⟨us, []⟩ = pure (ps.zip us))
    (h : ∀ f fd, FunT K x st f fd c → FnOk P w K mg base CX0 k f fd ps sp) : Cl P w K mg base k x ps sp := by
  obtain ⟨f, fd, F, m⟩ := D.ex
  obtain ⟨oc, od, kV, doc, pm, an, ct, osl, e, lk, hcd⟩ := F.ex
  exact ⟨⟨f, fd, h f fd F, m, F.kp, F.fn.binds hb⟩, fun g hg => by
    rw [m] at hg
    cases hg
    exact ⟨fd, h f fd F, oc, od, osl, lk⟩⟩
end
/-! ### the things -/
/-- a number: its top and bottom -/
def NuV (K : PySem.W.Frag) (H : Hp) (x : V) (q : Int × Int) : Prop := ∃ a, x = .ref a ∧ SqT K H a [.int q.1, .int q.2]
def PtV (K : PySem.W.Frag) (H : Hp) (x : V) (us : List (Int × Int)) : Prop := ∃ a xs, x = .ref a ∧ SqT K H a xs ∧ Paired (NuV K H) xs us
def SiV (K : PySem.W.Frag) (H : Hp) (x : V) (ns : List Int) : Prop := ∃ a, x = .ref a ∧ SqT K H a (ns.map V.int)
/-- a question: its sides, its wall -/
def QuV (K : PySem.W.Frag) (H : Hp) (x : V) (q : List Int × Int) : Prop := ∃ a s, x = .ref a ∧ SqT K H a [s, .int q.2] ∧ SiV K H s q.1
/-- a book -/
def BkV (K : PySem.W.Frag) (H : Hp) (x : V) (d : Nat) (qs : List (List Int × Int)) : Prop := ∃ a b xs, x = .ref a ∧ SqT K H a [.int d, .ref b] ∧ SqT K H b xs ∧ Paired (QuV K H) xs qs
section
variable {K : PySem.W.Frag} {H H' : Hp} {x : V}
theorem NuV.gr {q : Int × Int} (h : NuV K H x q) (g : Gr H H') : NuV K H' x q := let ⟨a, e, s⟩ := h; ⟨a, e, g.seqT s⟩
theorem PtV.gr {q : List (Int × Int)} (h : PtV K H x q) (g : Gr H H') : PtV K H' x q := let ⟨a, xs, e, s, p⟩ := h; ⟨a, xs, e, g.seqT s, Paired.mapP p fun _ _ z => NuV.gr z g⟩
theorem SiV.gr {q : List Int} (h : SiV K H x q) (g : Gr H H') : SiV K H' x q := let ⟨a, e, s⟩ := h; ⟨a, e, g.seqT s⟩
theorem QuV.gr {q : List Int × Int} (h : QuV K H x q) (g : Gr H H') : QuV K H' x q := let ⟨a, t, e, s, z⟩ := h; ⟨a, t, e, g.seqT s, z.gr g⟩
theorem BkV.gr {d : Nat} {q : List (List Int × Int)} (h : BkV K H x d q) (g : Gr H H') : BkV K H' x d q := let ⟨a, b, xs, e, s, t, p⟩ := h; ⟨a, b, xs, e, g.seqT s, g.seqT t, Paired.mapP p fun _ _ z => QuV.gr z g⟩
/-- its items fit the length of a line (what the heap's own facts give) -/
theorem paired_len {α β : Type} {F : α → β → Prop} {xs : List α} {ys : List β} (h : Paired F xs ys) : xs.length = ys.length := Paired.length h
theorem paired_get {α β : Type} {F : α → β → Prop} : ∀ {xs : List α} {ys : List β}, Paired F xs ys → ∀ {i : Nat} {x : α}, xs[i]? = some x → ∃ y, ys[i]? = some y ∧ F x y
  | _, _, .nil, i, x, e => by simp at e
  | _, _, .cons r _, 0, x, e => by simp at e; subst e; exact ⟨_, rfl, r⟩
  | _, _, .cons _ t, i + 1, x, e => by
    obtain ⟨y, h1, h2⟩ := paired_get t (i := i) (x := x) (by simpa using e)
    exact ⟨y, by simpa using h1, h2⟩
end
/-! ### is_whole -/
def spWhole (K : PySem.W.Frag) : Sp := fun vs H Q _ => ∃ x t, vs = [x] ∧ Kn K H x t ∧ Q (.bl (isInt x)) H
section
variable {P : Program} {w : World} {K : PySem.W.Frag} {mg : Str → Option Value} {base : Heap}
theorem sc_whole : FnScope ["told"] ["told"] (defScope s_is_whole) := ⟨rfl, rfl, rfl, by decide +kernel, rfl, by decide +kernel, by decide +kernel⟩
theorem cl_whole (D : Df K mg "is_whole" s_is_whole) (B : Blt mg) : Cl P w K mg base 1 "is_whole" ["told"] (spWhole K) := by
  refine D.cl (fun _ _ _ _ _ _ us hl => match us, hl with | [_], _ => rfl) fun f fd F => F.ok sc_whole (fun vs H Q E h => ?_) (fun cdv A outer s H vs Q E hr h => ?_)
  · obtain ⟨x, t, rfl, _⟩ := h
    rfl
  obtain ⟨x, t, rfl, k, q⟩ := h
  refine ⟨_, pss_one (ps_ret (pe_and (pe_isi "int" (pv 0) PyProof.Rows.boot_int B.int B.isi) (pe_one (pe_not (pe_isi "bool" (pv 0) bootBool B.bool B.isi))))), ?_⟩
  cases k with
  | non => exact ⟨_, rfl, _, false, .non, by decide +kernel, _, rfl, iteF q⟩
  | bl b => exact ⟨_, rfl, _, true, .bl b, by decide +kernel, _, rfl, iteT ⟨_, rfl, _, true, .bl b, by decide +kernel, _, rfl, q⟩⟩
  | int i => exact ⟨_, rfl, _, true, .int i, by decide +kernel, _, rfl, iteT ⟨_, rfl, _, false, .int i, by decide +kernel, _, rfl, q⟩⟩
  | str z => exact ⟨_, rfl, _, false, .str z, by decide +kernel, _, rfl, iteF q⟩
  | lst h => exact ⟨_, rfl, _, false, .lst h, by decide +kernel, _, rfl, iteF q⟩
  | tup h => exact ⟨_, rfl, _, false, .tup h, by decide +kernel, _, rfl, iteF q⟩
end
end SB
namespace SB
open PySem L2 GxR GA
section
variable {P : Program} {w : World} {K : PySem.W.Frag} {mg : Str → Option Value} {base : Heap}
theorem kTT : kitB "tuple" "tuple" = some true := by decide +kernel
def spNumber (K : PySem.W.Frag) : Sp := fun vs H Q _ => ∃ x q, vs = [x] ∧ NuV K H x q ∧ Lo q ∧ Q (.bl true) H
theorem sc_number : FnScope ["told", "top", "bottom"] ["told"] (defScope s_is_number) := ⟨rfl, rfl, rfl, by decide +kernel, rfl, by decide +kernel, by decide +kernel⟩
theorem cl_number (D : Df K mg "is_number" s_is_number) (B : Blt mg) (CW : Cl P w K mg base 1 "is_whole" ["told"] (spWhole K)) : Cl P w K mg base 2 "is_number" ["told"] (spNumber K) := by
  refine D.cl (fun _ _ _ _ _ _ us hl => match us, hl with | [_], _ => rfl) fun f fd F => F.ok sc_number (fun vs H Q E h => ?_) (fun cdv A outer s H vs Q E hr h => ?_)
  · obtain ⟨x, t, rfl, _⟩ := h
    rfl
  obtain ⟨x, q, rfl, ⟨a, rfl, hs⟩, ⟨l1, l2⟩, hq⟩ := h
  refine ⟨_, pss_cons (ps_if (PW.pt (by exact (pw_or (pt_not (pt_val (pe_isi "tuple" (pv 0) bootTup B.tup B.isi))) (pw_or1 (pt_cmpR op_ne (pe_len (pv 0) B.len) pe_int (nomark _)))))) pss_no pss_nil)
    (pss_cons (ps_asg (pv 0) (pg_tup rfl (pgs_cons (pg_name (i := 1) sc_number.nd rfl (Or.inl rfl)) (pgs_cons (pg_name (i := 2) sc_number.nd rfl (Or.inl rfl)) pgs_nil))))
    (pss_one (ps_ret (pe_and (pe_cl CW (hr.mono (by decide)) (pa_cons (pv 1) pa_nil)) (pe_and (pe_cl CW (hr.mono (by decide)) (pa_cons (pv 2) pa_nil)) (pe_and (pe_cmpR op_gt (pv 2) pe_int (nomark _)) (pe_one (pe_cmpR op_eq (pe_callBfun cr_gcd rfl B.gcd (pa_cons (pv 1) (pa_cons (pv 2) pa_nil))) pe_int (nomark _))))))))), ?_⟩
  refine ⟨_, rfl, _, _, .tup hs, kTT, _, rfl, iteF ⟨_, rfl, a, _, rfl, .inr hs, rfl, _, rfl, ?_⟩⟩
  refine iteNS rfl ⟨_, rfl, a, _, rfl, hs, rfl, ?_⟩
  refine ⟨_, _, rfl, ⟨_, _, rfl, rfl, ?_⟩⟩
  refine ⟨_, rfl, _, _, rfl, .int _, _, rfl, iteT ⟨_, rfl, _, _, rfl, .int _, _, rfl, iteT ⟨_, rfl, _, _, rfl, rfl, _, rfl, iteP l1 ?_⟩⟩⟩
  refine ⟨_, rfl, _, rfl, _, _, rfl, rfl, ?_⟩
  exact qd (by rw [l2]; rfl) hq

theorem at_ {α : Type} {xs : List α} {i : Nat} (h : i < xs.length) : xs[i]? = some xs[i] := List.getElem?_eq_getElem h
/-! ### are_numbers, is_point -/
def spNumbers (K : PySem.W.Frag) : Sp := fun vs H Q _ => ∃ a xs us, vs = [.ref a] ∧ SqT K H a xs ∧ Paired (NuV K H) xs us ∧ (∀ q, q ∈ us → Lo q) ∧ Q (.bl true) H
theorem sc_numbers : FnScope ["told", "item"] ["told"] (defScope s_are_numbers) := ⟨rfl, rfl, rfl, by decide +kernel, rfl, by decide +kernel, by decide +kernel⟩
theorem cl_numbers (D : Df K mg "are_numbers" s_are_numbers) (CN : Cl P w K mg base 2 "is_number" ["told"] (spNumber K)) : Cl P w K mg base 3 "are_numbers" ["told"] (spNumbers K) := by
  refine D.cl (fun _ _ _ _ _ _ us hl => match us, hl with | [_], _ => rfl) fun f fd F => F.ok sc_numbers (fun vs H Q E h => ?_) (fun cdv A outer s H vs Q E hr h => ?_)
  · obtain ⟨a, xs, us, rfl, _⟩ := h
    rfl
  obtain ⟨a, xs, us, rfl, hs, hp, hlo, hq⟩ := h
  refine ⟨_, pss_cons (ps_for PassesOwn.never rfl (pi_tup (pv 0)) (pg_name (i := 1) sc_numbers.nd rfl (Or.inl rfl))
    (pss_one (ps_if (pt_not (pt_val (pe_cl CN (hr.mono (by decide)) (pa_cons (pv 1) pa_nil)))) pss_no pss_nil))) (pss_one (ps_ret pe_bl)), ?_⟩
  refine ⟨_, rfl, a, rfl, ⟨_, hs⟩, for_tup (xs := xs) (fun i σ H1 => ∃ c, σ = [some (.ref a), c] ∧ H1 = H) ⟨_, rfl, rfl⟩ (fun i σ H1 _ h => ?_) (fun i x σ H1 hx h => ?_) (fun σ H1 h => ?_)⟩
  · obtain ⟨c, rfl, rfl⟩ := h
    exact hs
  · obtain ⟨c, rfl, rfl⟩ := h
    obtain ⟨q, hq1, hn⟩ := paired_get hp hx
    exact ⟨_, rfl, x, q, rfl, hn, hlo q (List.mem_of_getElem? hq1), _, rfl, iteF ⟨some x, rfl, rfl⟩⟩
  · obtain ⟨c, rfl, rfl⟩ := h
    exact hq
def spPoint (K : PySem.W.Frag) : Sp := fun vs H Q _ => ∃ x us, vs = [x] ∧ PtV K H x us ∧ us ≠ [] ∧ (∀ q, q ∈ us → Lo q) ∧ ∀ H', Gr H H' → Q (.bl true) H'
theorem sc_point : FnScope ["told"] ["told"] (defScope s_is_point) := ⟨rfl, rfl, rfl, by decide +kernel, rfl, by decide +kernel, by decide +kernel⟩
theorem cl_point (D : Df K mg "is_point" s_is_point) (B : Blt mg) (CN : Cl P w K mg base 3 "are_numbers" ["told"] (spNumbers K)) : Cl P w K mg base 4 "is_point" ["told"] (spPoint K) := by
  refine D.cl (fun _ _ _ _ _ _ us hl => match us, hl with | [_], _ => rfl) fun f fd F => F.ok sc_point (fun vs H Q E h => ?_) (fun cdv A outer s H vs Q E hr h => ?_)
  · obtain ⟨x, t, rfl, _⟩ := h
    rfl
  obtain ⟨x, us, rfl, ⟨a, xs, rfl, hs, hp⟩, hne, hlo, hq⟩ := h
  refine ⟨_, pss_one (ps_ret (pe_and (pe_isi "tuple" (pv 0) bootTup B.tup B.isi) (pe_and (pe_cmpR op_gt (pe_len (pv 0) B.len) pe_int (nomark _)) (pe_one (pe_cl CN (hr.mono (by decide)) (pa_cons (pv 0) pa_nil)))))), ?_⟩
  have hl : xs.length = us.length := paired_len hp
  have hpos : 0 < xs.length := by
    rw [hl]
    cases us with
    | nil => exact absurd rfl hne
    | cons _ _ => exact Nat.succ_pos _
  refine ⟨_, rfl, _, _, .tup hs, kTT, _, rfl, iteT ⟨_, rfl, a, _, rfl, .inr hs, _, _, rfl, rfl, _, rfl, iteP (by omega) ?_⟩⟩
  exact ⟨_, rfl, a, xs, us, rfl, hs, hp, hlo, hq H (Gr.refl H)⟩
end
end SB
namespace SB
open PySem L2 GxR GA
section
variable {P : Program} {w : World} {K : PySem.W.Frag} {mg : Str → Option Value} {base : Heap}
/-! ### are_wholes, are_sides, is_question -/
def spWholes (K : PySem.W.Frag) : Sp := fun vs H Q _ => ∃ x ns, vs = [x] ∧ SiV K H x ns ∧ Q (.bl true) H
theorem sc_wholes : FnScope ["told", "item"] ["told"] (defScope s_are_wholes) := ⟨rfl, rfl, rfl, by decide +kernel, rfl, by decide +kernel, by decide +kernel⟩
theorem cl_wholes (D : Df K mg "are_wholes" s_are_wholes) (CW : Cl P w K mg base 1 "is_whole" ["told"] (spWhole K)) : Cl P w K mg base 2 "are_wholes" ["told"] (spWholes K) := by
  refine D.cl (fun _ _ _ _ _ _ us hl => match us, hl with | [_], _ => rfl) fun f fd F => F.ok sc_wholes (fun vs H Q E h => ?_) (fun cdv A outer s H vs Q E hr h => ?_)
  · obtain ⟨x, ns, rfl, _⟩ := h
    rfl
  obtain ⟨x, ns, rfl, ⟨a, rfl, hs⟩, hq⟩ := h
  refine ⟨_, pss_cons (ps_for PassesOwn.never rfl (pi_tup (pv 0)) (pg_name (i := 1) sc_wholes.nd rfl (Or.inl rfl))
    (pss_one (ps_if (pt_not (pt_val (pe_cl CW (hr.mono (by decide)) (pa_cons (pv 1) pa_nil)))) pss_no pss_nil))) (pss_one (ps_ret pe_bl)), ?_⟩
  refine ⟨_, rfl, a, rfl, ⟨_, hs⟩, for_tup (xs := ns.map V.int) (fun i σ H1 => ∃ c, σ = [some (.ref a), c] ∧ H1 = H) ⟨_, rfl, rfl⟩ (fun i σ H1 _ h => ?_) (fun i x σ H1 hx h => ?_) (fun σ H1 h => ?_)⟩
  · obtain ⟨c, rfl, rfl⟩ := h
    exact hs
  · obtain ⟨c, rfl, rfl⟩ := h
    rw [List.getElem?_map] at hx
    obtain ⟨z, hz, rfl⟩ := Option.map_eq_some_iff.mp hx
    exact ⟨_, rfl, _, _, rfl, .int z, _, rfl, iteF ⟨some (.int z), rfl, rfl⟩⟩
  · obtain ⟨c, rfl, rfl⟩ := h
    exact hq
def spSides (K : PySem.W.Frag) : Sp := fun vs H Q _ => ∃ x ns, vs = [x] ∧ SiV K H x ns ∧ NonZ ns ∧ ∀ H', Gr H H' → Q (.bl true) H'
theorem sc_sides : FnScope ["told"] ["told"] (defScope s_are_sides) := ⟨rfl, rfl, rfl, by decide +kernel, rfl, by decide +kernel, by decide +kernel⟩
theorem cl_sides (D : Df K mg "are_sides" s_are_sides) (B : Blt mg) (CW : Cl P w K mg base 2 "are_wholes" ["told"] (spWholes K)) : Cl P w K mg base 3 "are_sides" ["told"] (spSides K) := by
  refine D.cl (fun _ _ _ _ _ _ us hl => match us, hl with | [_], _ => rfl) fun f fd F => F.ok sc_sides (fun vs H Q E h => ?_) (fun cdv A outer s H vs Q E hr h => ?_)
  · obtain ⟨x, t, rfl, _⟩ := h
    rfl
  obtain ⟨x, ns, rfl, ⟨a, rfl, hs⟩, hne, hq⟩ := h
  refine ⟨_, pss_one (ps_ret (pe_and (pe_isi "tuple" (pv 0) bootTup B.tup B.isi) (pe_and (pe_cl CW (hr.mono (by decide)) (pa_cons (pv 0) pa_nil)) (pe_one (pe_callB (cr_anyT rfl) rfl B.any bootAny (pa_cons (pv 0) pa_nil)))))), ?_⟩
  refine ⟨_, rfl, _, _, .tup hs, kTT, _, rfl, iteT ⟨_, rfl, _, ns, rfl, ⟨a, rfl, hs⟩, _, rfl, iteT ⟨_, rfl, a, ns, rfl, hs, qe hne (hq H (Gr.refl H))⟩⟩⟩
def spQuest (K : PySem.W.Frag) : Sp := fun vs H Q _ => ∃ x q, vs = [x] ∧ QuV K H x q ∧ NonZ q.1 ∧ ∀ H', Gr H H' → Q (.bl true) H'
theorem sc_quest : FnScope ["told", "sides", "wall"] ["told"] (defScope s_is_question) := ⟨rfl, rfl, rfl, by decide +kernel, rfl, by decide +kernel, by decide +kernel⟩
theorem cl_quest (D : Df K mg "is_question" s_is_question) (B : Blt mg) (CW : Cl P w K mg base 1 "is_whole" ["told"] (spWhole K)) (CS : Cl P w K mg base 3 "are_sides" ["told"] (spSides K)) : Cl P w K mg base 4 "is_question" ["told"] (spQuest K) := by
  refine D.cl (fun _ _ _ _ _ _ us hl => match us, hl with | [_], _ => rfl) fun f fd F => F.ok sc_quest (fun vs H Q E h => ?_) (fun cdv A outer s H vs Q E hr h => ?_)
  · obtain ⟨x, t, rfl, _⟩ := h
    rfl
  obtain ⟨x, q, rfl, ⟨a, t, rfl, hs, hst⟩, hne, hq⟩ := h
  refine ⟨_, pss_cons (ps_if (PW.pt (by exact (pw_or (pt_not (pt_val (pe_isi "tuple" (pv 0) bootTup B.tup B.isi))) (pw_or1 (pt_cmpR op_ne (pe_len (pv 0) B.len) pe_int (nomark _)))))) pss_no pss_nil)
    (pss_cons (ps_asg (pv 0) (pg_tup rfl (pgs_cons (pg_name (i := 1) sc_quest.nd rfl (Or.inl rfl)) (pgs_cons (pg_name (i := 2) sc_quest.nd rfl (Or.inl rfl)) pgs_nil))))
    (pss_one (ps_ret (pe_and (pe_cl CS (hr.mono (by decide)) (pa_cons (pv 1) pa_nil)) (pe_one (pe_cl CW (hr.mono (by decide)) (pa_cons (pv 2) pa_nil))))))), ?_⟩
  refine ⟨_, rfl, _, _, .tup hs, kTT, _, rfl, iteF ⟨_, rfl, a, _, rfl, .inr hs, rfl, _, rfl, iteNS rfl ⟨_, rfl, a, _, rfl, hs, rfl, _, _, rfl, _, _, rfl, rfl, ?_⟩⟩⟩
  exact ⟨_, rfl, _, _, rfl, hst, hne, fun H' g => ⟨_, rfl, iteT ⟨_, rfl, _, _, rfl, .int _, hq H' g⟩⟩⟩
def spQuestOf (K : PySem.W.Frag) : Sp := fun vs H Q _ => ∃ x q, vs = [x, .int ((q.1.length : Nat) : Int)] ∧ QuV K H x q ∧ NonZ q.1 ∧ ∀ H', Gr H H' → Q (.bl true) H'
theorem sc_questOf : FnScope ["told", "d"] ["told", "d"] (defScope s_is_question_of) := ⟨rfl, rfl, rfl, by decide +kernel, rfl, by decide +kernel, by decide +kernel⟩
theorem cl_questOf (D : Df K mg "is_question_of" s_is_question_of) (B : Blt mg) (CQ : Cl P w K mg base 4 "is_question" ["told"] (spQuest K)) : Cl P w K mg base 5 "is_question_of" ["told", "d"] (spQuestOf K) := by
  refine D.cl (fun _ _ _ _ _ _ us hl => match us, hl with | [_, _], _ => rfl) fun f fd F => F.ok sc_questOf (fun vs H Q E h => ?_) (fun cdv A outer s H vs Q E hr h => ?_)
  · obtain ⟨x, t, rfl, _⟩ := h
    rfl
  obtain ⟨x, q, rfl, hx, hne, hq⟩ := h
  refine ⟨_, pss_one (ps_ret (pe_and (pe_cl CQ (hr.mono (by decide)) (pa_cons (pv 0) pa_nil)) (pe_one (pe_cmpR op_eq (pe_len (pe_ix ix_tup (pv 0) pe_int (fun _ _ => rfl)) B.len) (pv 1) (nomark _))))), ?_⟩
  refine ⟨_, rfl, _, _, rfl, hx, hne, fun H' g => ⟨_, rfl, iteT ?_⟩⟩
  obtain ⟨a, t, rfl, hs, b, rfl, hb⟩ := hx.gr g
  refine ⟨_, rfl, a, _, _, _, rfl, rfl, hs, rfl, b, _, rfl, .inr hb, _, rfl, rfl, ?_⟩
  exact qd (by rw [List.length_map]) (hq H' g)
/-! ### is_answer, is_wish_of, is_index -/
def spAnsw (K : PySem.W.Frag) : Sp := fun vs H Q _ => ∃ i : Int, vs = [.int i] ∧ -1 ≤ i ∧ i ≤ 1 ∧ Q (.bl true) H
def spIndex : Sp := fun vs H Q _ => ∃ i n : Int, vs = [.int i, .int n] ∧ 0 ≤ i ∧ i < n ∧ Q (.bl true) H
theorem sc_index : FnScope ["told", "many"] ["told", "many"] (defScope s_is_index) := ⟨rfl, rfl, rfl, by decide +kernel, rfl, by decide +kernel, by decide +kernel⟩
theorem cl_index (D : Df K mg "is_index" s_is_index) (CW : Cl P w K mg base 1 "is_whole" ["told"] (spWhole K)) : Cl P w K mg base 2 "is_index" ["told", "many"] spIndex := by
  refine D.cl (fun _ _ _ _ _ _ us hl => match us, hl with | [_, _], _ => rfl) fun f fd F => F.ok sc_index (fun vs H Q E h => ?_) (fun cdv A outer s H vs Q E hr h => ?_)
  · obtain ⟨i, n, rfl, _⟩ := h
    rfl
  obtain ⟨i, n, rfl, h0, h1, q⟩ := h
  refine ⟨_, pss_one (ps_ret (pe_and (pe_cl CW (hr.mono (by decide)) (pa_cons (pv 0) pa_nil)) (pe_one (pe_chain op_le op_lt pe_int (pv 0) (pv 1))))), ?_⟩
  refine ⟨_, rfl, _, _, rfl, .int i, _, rfl, iteT ⟨_, rfl, _, _, rfl, rfl, _, rfl, iteP h0 ⟨_, rfl, _, _, rfl, rfl, ?_⟩⟩⟩
  exact qe (decide_eq_true h1) q
/-- a wish's item: none, or an answer -/
def Hope (x : V) : Prop := x = .non ∨ ∃ i : Int, x = .int i ∧ -1 ≤ i ∧ i ≤ 1
def spWish (K : PySem.W.Frag) : Sp := fun vs H Q _ => ∃ a xs, vs = [.ref a, .int ((xs.length : Nat) : Int)] ∧ SqT K H a xs ∧ (∀ x, x ∈ xs → Hope x) ∧ ∀ H', Gr H H' → Q (.bl true) H'
end
end SB
namespace SB
open PySem L2 GxR GA
section
variable {P : Program} {w : World} {K : PySem.W.Frag} {mg : Str → Option Value} {base : Heap}
/-! ### check_point, check_index, sign -/
def spChkPt (K : PySem.W.Frag) : Sp := fun vs H Q _ => ∃ x us, vs = [x, .int ((us.length : Nat) : Int)] ∧ PtV K H x us ∧ us ≠ [] ∧ (∀ q, q ∈ us → Lo q) ∧ ∀ H', Gr H H' → Q .non H'
theorem sc_chkPt : FnScope ["point", "d"] ["point", "d"] (defScope s_check_point) := ⟨rfl, rfl, rfl, by decide +kernel, rfl, by decide +kernel, by decide +kernel⟩
theorem cl_chkPt (D : Df K mg "check_point" s_check_point) (B : Blt mg) (CP : Cl P w K mg base 4 "is_point" ["told"] (spPoint K)) : Cl P w K mg base 5 "check_point" ["point", "d"] (spChkPt K) := by
  refine D.cl (fun _ _ _ _ _ _ us hl => match us, hl with | [_, _], _ => rfl) fun f fd F => F.ok sc_chkPt (fun vs H Q E h => ?_) (fun cdv A outer s H vs Q E hr h => ?_)
  · obtain ⟨x, us, rfl, _⟩ := h
    rfl
  obtain ⟨x, us, rfl, hx, hne, hlo, q⟩ := h
  refine ⟨_, pss_one (ps_if (PW.pt (by exact (pw_or (pt_not (pt_val (pe_cl CP (hr.mono (by decide)) (pa_cons (pv 0) pa_nil)))) (pw_or1 (pt_cmpR op_ne (pe_len (pv 0) B.len) (pv 1) (nomark _)))))) pss_no pss_nil), ?_⟩
  refine ⟨_, rfl, _, us, rfl, hx, hne, hlo, fun H' g => ⟨_, rfl, iteF ?_⟩⟩
  obtain ⟨a, xs, rfl, hs, hp⟩ := hx.gr g
  refine ⟨_, rfl, a, xs, rfl, .inr hs, _, rfl, rfl, _, rfl, iteNS (by rw [paired_len hp]) (q H' g)⟩
def spChkIx : Sp := fun vs H Q _ => ∃ i n : Int, vs = [.int i, .int n] ∧ 0 ≤ i ∧ i < n ∧ Q .non H
theorem sc_chkIx : FnScope ["index", "many"] ["index", "many"] (defScope s_check_index) := ⟨rfl, rfl, rfl, by decide +kernel, rfl, by decide +kernel, by decide +kernel⟩
theorem cl_chkIx (D : Df K mg "check_index" s_check_index) (CI : Cl P w K mg base 2 "is_index" ["told", "many"] spIndex) : Cl P w K mg base 3 "check_index" ["index", "many"] spChkIx := by
  refine D.cl (fun _ _ _ _ _ _ us hl => match us, hl with | [_, _], _ => rfl) fun f fd F => F.ok sc_chkIx (fun vs H Q E h => ?_) (fun cdv A outer s H vs Q E hr h => ?_)
  · obtain ⟨i, n, rfl, _⟩ := h
    rfl
  obtain ⟨i, n, rfl, h0, h1, q⟩ := h
  refine ⟨_, pss_one (ps_if (pt_not (pt_val (pe_cl CI (hr.mono (by decide)) (pa_cons (pv 0) (pa_cons (pv 1) pa_nil))))) pss_no pss_nil), ?_⟩
  exact ⟨_, rfl, _, rfl, i, n, rfl, h0, h1, _, rfl, iteF q⟩
def spChkWish (K : PySem.W.Frag) : Sp := fun vs H Q _ => ∃ a xs, vs = [.ref a, .int ((xs.length : Nat) : Int)] ∧ SqT K H a xs ∧ (∀ x, x ∈ xs → Hope x) ∧ ∀ H', Gr H H' → Q .non H'
def sgn (i : Int) : Int := if 0 < i then 1 else if i < 0 then -1 else 0
def spSign : Sp := fun vs H Q _ => ∃ i : Int, vs = [.int i] ∧ Q (.int (sgn i)) H
theorem sc_sign : FnScope ["whole"] ["whole"] (defScope s_sign) := ⟨rfl, rfl, rfl, by decide +kernel, rfl, by decide +kernel, by decide +kernel⟩
theorem cl_sign (D : Df K mg "sign" s_sign) : Cl P w K mg base 1 "sign" ["whole"] spSign := by
  refine D.cl (fun _ _ _ _ _ _ us hl => match us, hl with | [_], _ => rfl) fun f fd F => F.ok sc_sign (fun vs H Q E h => ?_) (fun cdv A outer s H vs Q E hr h => ?_)
  · obtain ⟨i, rfl, _⟩ := h
    rfl
  obtain ⟨i, rfl, q⟩ := h
  refine ⟨_, pss_cons (ps_if (pt_cmpR op_eq (pv 0) pe_int (nomark _)) (pss_one (ps_ret pe_int)) pss_nil) (pss_one (ps_ret (pe_ifExp (pt_cmpR op_gt (pv 0) pe_int (nomark _)) pe_int (pe_un un_neg pe_int)))), ?_⟩
  unfold sgn at q
  refine ⟨_, rfl, rfl, _, rfl, ?_⟩
  by_cases h0 : i = 0
  · subst h0
    exact iteP rfl q
  · refine iteN (fun z => h0 (by injection z)) ⟨_, rfl, _, _, rfl, rfl, _, rfl, ?_⟩
    by_cases h1 : 0 < i
    · rw [if_pos h1] at q
      exact iteP h1 q
    · rw [if_neg h1, if_pos (by omega)] at q
      exact iteN h1 ⟨_, rfl, q⟩
/-! ### numbers -/
/-- what comes is the number N / D -/
def spLowest (K : PySem.W.Frag) : Sp := fun vs H Q _ => ∃ t b : Int, vs = [.int t, .int b] ∧ 0 < b ∧ Wd 310000 (t, b) ∧ ∀ v r H', Gr H H' → NuV K H' v r → Lo r → Eqr r t b → r.1.natAbs ≤ t.natAbs → r.2.natAbs ≤ b.natAbs → Q v H'
/-- two numbers put together by f -/
def spBin (K : PySem.W.Frag) (f : Int × Int → Int × Int → Int × Int) : Sp := fun vs H Q _ => ∃ x y p q m n, vs = [x, y] ∧ NuV K H x p ∧ NuV K H y q ∧ 0 < p.2 ∧ 0 < q.2 ∧ Wd m p ∧ Wd n q ∧ m + n ≤ 300000 ∧
  ∀ v r H', Gr H H' → NuV K H' v r → Lo r → Eqr r (f p q).1 (f p q).2 → Wd (m + n + 1) r → Q v H'
theorem wd_le {m : Nat} {r : Int × Int} {t b : Int} (h : Wd m (t, b)) (h1 : r.1.natAbs ≤ t.natAbs) (h2 : r.2.natAbs ≤ b.natAbs) : Wd m r := ⟨Nat.lt_of_le_of_lt h1 h.1, Nat.lt_of_le_of_lt h2 h.2⟩
theorem cmw {i j : Int} {m n : Nat} (h : i.natAbs < 2 ^ m) (k : j.natAbs < 2 ^ n) (z : m + n ≤ 300000) : CMulW i j := by
  refine wide_mul (a := m + 1) (b := n + 1) (Nat.lt_of_lt_of_le h (Nat.pow_le_pow_right (by decide) (Nat.le_succ _))) (Nat.lt_of_lt_of_le k (Nat.pow_le_pow_right (by decide) (Nat.le_succ _))) (Nat.succ_pos _) (Nat.succ_pos _) ?_
  omega
end
end SB
namespace SB
open PySem L2 GxR GA RZ
/-- the numbers of a point: in bounds -/
def UsOk (us : List (Int × Int)) : Prop := us ≠ [] ∧ us.length ≤ 4 ∧ (∀ q, q ∈ us → Lo q) ∧ ∀ q, q ∈ us → Wd 20000 q
theorem wd_one {z : Int} (h : z.natAbs < 2 ^ 10000) : Wd 10000 (z, 1) := ⟨h, by show (1 : Nat) < 2 ^ 10000; exact Nat.one_lt_two_pow (by decide)⟩
section
variable {P : Program} {w : World} {K : PySem.W.Frag} {mg : Str → Option Value} {base : Heap}
def spCome (K : PySem.W.Frag) : Sp := fun vs H Q _ => ∃ x y ns us, vs = [x, y] ∧ SiV K H x ns ∧ PtV K H y us ∧ ns.length = us.length ∧ UsOk us ∧ NsOk ns ∧
  ∀ v r H', Gr H H' → NuV K H' v r → 0 < r.2 → Eqr r (sumU ns us (0, 1)).1 (sumU ns us (0, 1)).2 → Wd 121000 r → Q v H'
/-- .. with sides of width k, numbers of width m -/
def spComeP (K : PySem.W.Frag) : Sp := fun vs H Q _ => ∃ x y ns us k m, vs = [x, y] ∧ SiV K H x ns ∧ PtV K H y us ∧ ns.length = us.length ∧ us.length ≤ 4 ∧ (∀ u, u ∈ us → Lo u) ∧ (∀ u, u ∈ us → Wd m u) ∧ (∀ z, z ∈ ns → z.natAbs < 2 ^ k) ∧ 4 * (m + k + 3) ≤ 290000 ∧
  ∀ v r H', Gr H H' → NuV K H' v r → 0 < r.2 → Eqr r (sumU ns us (0, 1)).1 (sumU ns us (0, 1)).2 → Wd (1 + us.length * (m + k + 3)) r → Q v H'
/-- the sum itself, not divided -/
def spSumAt (K : PySem.W.Frag) : Sp := fun vs H Q _ => ∃ x y ns us k m, vs = [x, y] ∧ SiV K H x ns ∧ PtV K H y us ∧ ns.length = us.length ∧ us.length ≤ 4 ∧ (∀ u, u ∈ us → Wd m u) ∧ (∀ z, z ∈ ns → z.natAbs < 2 ^ k) ∧ 4 * (m + k + 3) ≤ 290000 ∧
  ∀ v H', Gr H H' → NuV K H' v (sumU ns us (0, 1)) → Wd (1 + us.length * (m + k + 3)) (sumU ns us (0, 1)) → Q v H'
theorem stepU_is (g : Int × Int) (z : Int) (u : Int × Int) : stepU g (z, u) = (g.1 * u.2 + z * u.1 * g.2, g.2 * u.2) := by
  unfold stepU fPlus fTimes
  dsimp only
  rw [Int.one_mul]
theorem wd_step {m k n : Nat} {g u : Int × Int} {z : Int} (hg : Wd n g) (hu : Wd m u) (hz : z.natAbs < 2 ^ k) : Wd (n + (m + k + 3)) (stepU g (z, u)) := by
  have wz : Wd (k + 1) (z, 1) := ⟨Nat.lt_of_lt_of_le hz (Nat.pow_le_pow_right (by decide) (Nat.le_succ k)), Nat.one_lt_two_pow (Nat.succ_ne_zero k)⟩
  exact (wd_plus hg (wd_times wz hu)).mono (by omega)
theorem sc_sumAt : FnScope ["sides", "point", "top", "bottom", "side", "above", "below"] ["sides", "point"] (defScope s__sum_at) := ⟨rfl, rfl, rfl, by decide +kernel, rfl, by decide +kernel, by decide +kernel⟩
theorem cl_sumAt (D : Df K mg "_sum_at" s__sum_at) (B : Blt mg) : Cl P w K mg base 1 "_sum_at" ["sides", "point"] (spSumAt K) := by
  refine D.cl (fun _ _ _ _ _ _ us hl => match us, hl with | [_, _], _ => rfl) fun f fd F => F.ok sc_sumAt (fun vs H Q E h => ?_) (fun cdv A outer s H vs Q E hr h => ?_)
  · obtain ⟨x, y, ns, us, k, m, rfl, _⟩ := h
    rfl
  obtain ⟨x, y, ns, us, k, m, rfl, ⟨a, rfl, ha⟩, ⟨b, xs, rfl, hb, hp⟩, hl, u1, u3, no, km, hq⟩ := h
  refine ⟨_, pss_cons (ps_asg (pe_tup (pa_cons pe_int (pa_cons pe_int pa_nil))) (pg_tup rfl (pgs_cons (pg_name (i := 2) sc_sumAt.nd rfl (Or.inl rfl)) (pgs_cons (pg_name (i := 3) sc_sumAt.nd rfl (Or.inl rfl)) pgs_nil))))
    (pss_cons (ps_for PassesOwn.never rfl (pi_zipA rfl B.zip (pa_cons (pv 0) (pa_cons (pv 1) pa_nil))) (pg_tup rfl (pgs_cons (pg_name (i := 4) sc_sumAt.nd rfl (Or.inl rfl)) (pgs_cons (pg_tup rfl (pgs_cons (pg_name (i := 5) sc_sumAt.nd rfl (Or.inl rfl)) (pgs_cons (pg_name (i := 6) sc_sumAt.nd rfl (Or.inl rfl)) pgs_nil))) pgs_nil)))
      (pss_one (ps_par (i := 2) (j := 3) rfl sc_sumAt.nd rfl rfl (by decide) rfl rfl (pa_cons (pe_op op_add (pe_op op_mulW (pv 2) (pv 6)) (pe_op op_mulW (pe_op op_mulW (pv 4) (pv 5)) (pv 3))) (pa_cons (pe_op op_mulW (pv 3) (pv 6)) pa_nil)) rfl)))
    (pss_one (ps_ret (pe_tup (pa_cons (pv 2) (pa_cons (pv 3) pa_nil)))))), ?_⟩
  refine ⟨szN (by show 2 ≤ 1000000; decide), fun p0 n0 => ?_⟩
  have g0 : Gr H (upd H p0 (.tup [.int 0, .int 1])) := (Gr.refl H).new n0 _
  have lx : (ns.map V.int).length = xs.length := by rw [List.length_map, hl, paired_len hp]
  refine ⟨p0, _, rfl, SqT.of upd_same, rfl, _, _, rfl, _, _, rfl, rfl, ?_⟩
  refine ⟨_, rfl, _, rfl, a, b, _, _, rfl, .inr ⟨g0.seqT ha, g0.seqT hb, ?_⟩⟩
  refine for_zipT lx (fun i σ H1 => ∃ (g : Int × Int) (c1 c2 c3 : Option V), σ = [some (.ref a), some (.ref b), some (.int g.1), some (.int g.2), c1, c2, c3] ∧ Gr H H1 ∧ g = ((ns.zip us).take i).foldl stepU (0, 1) ∧ (i ≤ 4 → Wd (1 + i * (m + k + 3)) g))
    ⟨(0, 1), _, _, _, rfl, g0, rfl, fun _ => ⟨by show (0 : Nat) < 2 ^ _; exact Nat.two_pow_pos _, Nat.one_lt_two_pow (by omega)⟩⟩ (fun i σ H1 h => ?_) (fun i x y T σ H1 hx hy h nT => ?_) (fun σ H1 h => ?_)
  · obtain ⟨g, c1, c2, c3, rfl, gr, _⟩ := h
    exact ⟨gr.seqT ha, gr.seqT hb⟩
  · obtain ⟨g, c1, c2, c3, rfl, gr, eg, wg⟩ := h
    rw [List.getElem?_map] at hx
    obtain ⟨z, hz, rfl⟩ := Option.map_eq_some_iff.mp hx
    obtain ⟨u, hu, nu⟩ := paired_get hp hy
    have hi : i < 4 := by
      have := (List.getElem?_eq_some_iff.mp hu).1
      omega
    have wu := u3 u (List.mem_of_getElem? hu)
    have wz := no z (List.mem_of_getElem? hz)
    have bi : i * (m + k + 3) ≤ 3 * (m + k + 3) := Nat.mul_le_mul_right _ (by omega)
    have wg1 := wg (by omega)
    have g1 := gr.new nT (.tup [.int z, y])
    obtain ⟨ya, rfl, ys⟩ := nu.gr g1
    refine ⟨T, _, rfl, SqT.of upd_same, rfl, _, _, rfl, _, _, rfl, ⟨ya, _, rfl, ys, rfl, _, _, rfl, _, _, rfl, rfl, rfl, ?_⟩⟩
    refine ⟨_, rfl, _, rfl, _, _, rfl, rfl, cmw wg1.1 wu.2 (by omega), _, rfl, _, rfl, _, _, rfl, rfl, cmw wz wu.1 (by omega), _, rfl, _, _, rfl, rfl, cmw (mul_lt2 wz wu.1) wg1.2 (by omega), _, _, rfl, rfl, _, rfl, _, rfl, _, _, rfl, rfl, cmw wg1.2 wu.2 (by omega), _, _, rfl, ?_⟩
    refine ⟨stepU g (z, u), _, _, _, by rw [stepU_is]; rfl, g1, by rw [fold_take stepU (0, 1) (zip_at hz hu), ← eg], fun _ => ?_⟩
    exact (wd_step wg1 wu wz).mono (by rw [Nat.add_mul, Nat.one_mul]; omega)
  · obtain ⟨g, c1, c2, c3, rfl, gr, eg, wg⟩ := h
    have e4 : (ns.map V.int).length = us.length := by rw [List.length_map, hl]
    rw [e4] at eg wg
    have ez : (ns.zip us).take us.length = ns.zip us := List.take_of_length_le (by rw [List.length_zip, hl]; omega)
    rw [ez] at eg
    have eg : g = sumU ns us (0, 1) := eg
    refine ⟨_, rfl, _, rfl, szN (by show 2 ≤ 1000000; decide), fun p1 n1 => ?_⟩
    rw [eg] at wg ⊢
    exact hq _ _ (gr.new n1 _) ⟨p1, rfl, SqT.of upd_same⟩ (wg u1)
theorem sum_pos {ns : List Int} {us : List (Int × Int)} (h : ∀ u, u ∈ us → Lo u) : 0 < (sumU ns us (0, 1)).2 := by
  refine sumU_pos (by show (0 : Int) < 1; decide) fun p hp => ?_
  exact (h p.2 (List.of_mem_zip (a := p.1) (b := p.2) hp).2).1
end
end SB
namespace SB
open PySem L2 GxR GA RZ
/-! ### tuples stay -/
def Tst (K : PySem.W.Frag) (H H' : Hp) : Prop := ∀ a xs, SqT K H a xs → SqT K H' a xs
section
variable {K : PySem.W.Frag} {H H' H1 : Hp} {x : V} {D : Addr}
theorem Gr.st (g : Gr H H') : Tst K H H' := fun _ _ h => g.seqT h
theorem Tst.trans {H2 : Hp} (a : Tst K H H') (b : Tst K H' H2) : Tst K H H2 := fun c xs h => b c xs (a c xs h)
theorem Tst.put {ys : List V} {o : HO} (hD : H D = some (.lst ys)) : Tst K H (upd H D o) := fun a xs h => by
  rcases h with (h | ⟨u, h⟩) | h
  · exact .inl (.inl (by rw [upd_ne (ne_of h hD (fun z => nomatch z))]; exact h))
  · exact .inl (.inr ⟨u, by rw [upd_ne (ne_of h hD (fun z => nomatch z))]; exact h⟩)
  · exact .inr h
theorem NuV.st {q : Int × Int} (h : NuV K H x q) (g : Tst K H H') : NuV K H' x q := let ⟨a, e, s⟩ := h; ⟨a, e, g _ _ s⟩
theorem SiV.st {q : List Int} (h : SiV K H x q) (g : Tst K H H') : SiV K H' x q := let ⟨a, e, s⟩ := h; ⟨a, e, g _ _ s⟩
theorem QuV.st {q : List Int × Int} (h : QuV K H x q) (g : Tst K H H') : QuV K H' x q := let ⟨a, t, e, s, z⟩ := h; ⟨a, t, e, g _ _ s, z.st g⟩
theorem PtV.st {q : List (Int × Int)} (h : PtV K H x q) (g : Tst K H H') : PtV K H' x q := let ⟨a, xs, e, s, p⟩ := h; ⟨a, xs, e, g _ _ s, Paired.mapP p fun _ _ z => NuV.st z g⟩
theorem BkV.st {d : Nat} {q : List (List Int × Int)} (h : BkV K H x d q) (g : Tst K H H') : BkV K H' x d q := let ⟨a, b, xs, e, s, t, p⟩ := h; ⟨a, b, xs, e, g _ _ s, g _ _ t, Paired.mapP p fun _ _ z => QuV.st z g⟩
theorem GrD.to (g : GrD D H H') (n : H D = none) : Gr H H' := by
  refine ⟨fun b o z e => g.keep b o (ne_of_none e n) z e, fun P h => ?_⟩
  obtain ⟨ps, e, t⟩ := id h
  exact g.tab P (ne_of_none e n) h
end
/-- a list of what comes of each item of a tuple, of a list -/
theorem lc_mapT {K : PySem.W.Frag} {a : Addr} {xs : List V} {g : TG} {te : TE} {vs : List Nat} {σ : L2.St} {H1 : Hp} {D : Addr} {Qd : Hp → Prop} (R : Nat → V → Hp → Prop) (hst : ∀ i y H H', R i y H → Tst K H H' → R i y H') (nD : H1 D = none) (hs : SqT K H1 a xs) (hz : xs.length ≤ 1000)
    (step : ∀ i x H (Kc : VK), xs[i]? = some x → Gr H1 H → (∀ y H4, Gr H H4 → R i y H4 → Kc y H4) → g x (wipe σ vs) H fun σ2 H2 => wipe σ2 vs = wipe σ vs ∧ te σ2 H2 Kc)
    (fin : ∀ ys H, H D = some (.lst ys) → ys.length = xs.length → Gr H1 H → (∀ i y, ys[i]? = some y → R i y H) → Qd H) :
    ∃ W : Nat → Nat → Hp → Prop, (∃ m, W 0 m (upd H1 D (.lst []))) ∧ ∀ i m H, W i m H →
      ((Itt K a).stop i H ∧ Qd H) ∨ ((Itt K a).go i H ∧ ∃ Nx : Hp → Prop, (∀ H', Nx H' → ∃ m', m' < m ∧ W (i + 1) m' H') ∧ ∀ x H', (Itt K a).yld i H x H' → g x (wipe σ vs) H' fun σ2 H2 => wipe σ2 vs = wipe σ vs ∧ tYes σ2 H2 fun b H3 =>
        if b = true then te σ2 H3 fun y H4 => ∃ acc, H4 D = some (.lst acc) ∧ acc.length < sizeLine ∧ Nx (upd H4 D (.lst (acc ++ [y]))) else Nx H3) := by
  refine ⟨fun i m H => i + m = xs.length ∧ ∃ ys, H D = some (.lst ys) ∧ ys.length = i ∧ GrD D H1 H ∧ ∀ j y, ys[j]? = some y → R j y H, ⟨xs.length, Nat.zero_add _, [], upd_same, rfl, (GrD.refl D H1).set _, fun j y h => by simp at h⟩, fun i m H w => ?_⟩
  obtain ⟨hm, ys, hD, hy, gr, hR⟩ := w
  have g1 := gr.to nD
  have hSi := g1.seqT hs
  cases m with
  | zero => exact .inl ⟨⟨xs, hSi, by omega⟩, fin ys H hD (by omega) g1 hR⟩
  | succ m =>
    have hi : i < xs.length := by omega
    refine .inr ⟨⟨xs, xs[i], hSi, List.getElem?_eq_getElem hi⟩, fun H' => ∃ ys, H' D = some (.lst ys) ∧ ys.length = i + 1 ∧ GrD D H1 H' ∧ ∀ j y, ys[j]? = some y → R j y H', fun H' h => ⟨m, Nat.lt_succ_self _, by omega, h⟩, fun x H' hyl => ?_⟩
    obtain ⟨rfl, hx⟩ := hyl
    have key : ∀ y H4, Gr H' H4 → R i y H4 → ∃ acc, H4 D = some (.lst acc) ∧ acc.length < sizeLine ∧ (∃ ys, (upd H4 D (.lst (acc ++ [y]))) D = some (.lst ys) ∧ ys.length = i + 1 ∧ GrD D H1 (upd H4 D (.lst (acc ++ [y]))) ∧ ∀ j z, ys[j]? = some z → R j z (upd H4 D (.lst (acc ++ [y])))) := fun y H4 g4 r4 => by
      have hD4 : H4 D = some (.lst ys) := g4.keep D _ (fun _ z => nomatch z) hD
      have tp : Tst K H4 (upd H4 D (.lst (ys ++ [y]))) := Tst.put hD4
      refine ⟨ys, hD4, small1000 (by omega), ys ++ [y], upd_same, by rw [List.length_append, hy]; rfl, (gr.trans (g4.d D)).set _, fun j z hz2 => ?_⟩
      by_cases hj : j < ys.length
      · rw [List.getElem?_append_left hj] at hz2
        exact hst _ _ _ _ (hR j z hz2) (g4.st.trans tp)
      · have hl := (List.getElem?_eq_some_iff.mp hz2).1
        rw [List.length_append] at hl
        have hl' : j < ys.length + 1 := hl
        have ej : j = ys.length := by omega
        subst ej
        rw [List.getElem?_append_right (Nat.le_refl _), Nat.sub_self] at hz2
        cases hz2
        rw [hy]
        exact hst _ _ _ _ r4 tp
    exact step i x H' _ (hx xs hSi) g1 key

theorem lc_mapL {K : PySem.W.Frag} {a : Addr} {xs : List V} {g : TG} {te : TE} {vs : List Nat} {σ : L2.St} {H1 : Hp} {D : Addr} {Qd : Hp → Prop} (R : Nat → V → Hp → Prop) (hst : ∀ i y H H', R i y H → Tst K H H' → R i y H') (nD : H1 D = none) (hs : SqL K H1 a xs) (hz : xs.length ≤ 1000)
    (step : ∀ i x H (Kc : VK), xs[i]? = some x → Gr H1 H → (∀ y H4, Gr H H4 → R i y H4 → Kc y H4) → g x (wipe σ vs) H fun σ2 H2 => wipe σ2 vs = wipe σ vs ∧ te σ2 H2 Kc)
    (fin : ∀ ys H, H D = some (.lst ys) → ys.length = xs.length → Gr H1 H → (∀ i y, ys[i]? = some y → R i y H) → Qd H) :
    ∃ W : Nat → Nat → Hp → Prop, (∃ m, W 0 m (upd H1 D (.lst []))) ∧ ∀ i m H, W i m H →
      ((Itl K a).stop i H ∧ Qd H) ∨ ((Itl K a).go i H ∧ ∃ Nx : Hp → Prop, (∀ H', Nx H' → ∃ m', m' < m ∧ W (i + 1) m' H') ∧ ∀ x H', (Itl K a).yld i H x H' → g x (wipe σ vs) H' fun σ2 H2 => wipe σ2 vs = wipe σ vs ∧ tYes σ2 H2 fun b H3 =>
        if b = true then te σ2 H3 fun y H4 => ∃ acc, H4 D = some (.lst acc) ∧ acc.length < sizeLine ∧ Nx (upd H4 D (.lst (acc ++ [y]))) else Nx H3) := by
  refine ⟨fun i m H => i + m = xs.length ∧ ∃ ys, H D = some (.lst ys) ∧ ys.length = i ∧ GrD D H1 H ∧ ∀ j y, ys[j]? = some y → R j y H, ⟨xs.length, Nat.zero_add _, [], upd_same, rfl, (GrD.refl D H1).set _, fun j y h => by simp at h⟩, fun i m H w => ?_⟩
  obtain ⟨hm, ys, hD, hy, gr, hR⟩ := w
  have g1 := gr.to nD
  have hSi := g1.seqL hs
  cases m with
  | zero => exact .inl ⟨⟨xs, hSi, by omega⟩, fin ys H hD (by omega) g1 hR⟩
  | succ m =>
    have hi : i < xs.length := by omega
    refine .inr ⟨⟨xs, xs[i], hSi, List.getElem?_eq_getElem hi⟩, fun H' => ∃ ys, H' D = some (.lst ys) ∧ ys.length = i + 1 ∧ GrD D H1 H' ∧ ∀ j y, ys[j]? = some y → R j y H', fun H' h => ⟨m, Nat.lt_succ_self _, by omega, h⟩, fun x H' hyl => ?_⟩
    obtain ⟨rfl, hx⟩ := hyl
    have key : ∀ y H4, Gr H' H4 → R i y H4 → ∃ acc, H4 D = some (.lst acc) ∧ acc.length < sizeLine ∧ (∃ ys, (upd H4 D (.lst (acc ++ [y]))) D = some (.lst ys) ∧ ys.length = i + 1 ∧ GrD D H1 (upd H4 D (.lst (acc ++ [y]))) ∧ ∀ j z, ys[j]? = some z → R j z (upd H4 D (.lst (acc ++ [y])))) := fun y H4 g4 r4 => by
      have hD4 : H4 D = some (.lst ys) := g4.keep D _ (fun _ z => nomatch z) hD
      have tp : Tst K H4 (upd H4 D (.lst (ys ++ [y]))) := Tst.put hD4
      refine ⟨ys, hD4, small1000 (by omega), ys ++ [y], upd_same, by rw [List.length_append, hy]; rfl, (gr.trans (g4.d D)).set _, fun j z hz2 => ?_⟩
      by_cases hj : j < ys.length
      · rw [List.getElem?_append_left hj] at hz2
        exact hst _ _ _ _ (hR j z hz2) (g4.st.trans tp)
      · have hl := (List.getElem?_eq_some_iff.mp hz2).1
        rw [List.length_append] at hl
        have hl' : j < ys.length + 1 := hl
        have ej : j = ys.length := by omega
        subst ej
        rw [List.getElem?_append_right (Nat.le_refl _), Nat.sub_self] at hz2
        cases hz2
        rw [hy]
        exact hst _ _ _ _ r4 tp
    exact step i x H' _ (hx xs hSi) g1 key
/-- a list of ints known item by item -/
theorem ints_at {ys : List V} {zs : List Int} (hl : ys.length = zs.length) (h : ∀ (i : Nat) (y : V), ys[i]? = some y → ∃ z : Int, zs[i]? = some z ∧ y = V.int z) : ys = zs.map V.int := by
  refine List.ext_getElem? fun i => ?_
  rw [List.getElem?_map]
  cases e : ys[i]? with
  | none =>
    have : ys.length ≤ i := List.getElem?_eq_none_iff.mp e
    rw [List.getElem?_eq_none (by omega)]
    rfl
  | some y =>
    obtain ⟨z, hz, rfl⟩ := h i y e
    rw [hz]
    rfl
theorem paired_at2 {α β : Type} {F : α → β → Prop} : ∀ {xs : List α} {ys : List β}, xs.length = ys.length → (∀ (i : Nat) (x : α) (y : β), xs[i]? = some x → ys[i]? = some y → F x y) → Paired F xs ys
  | [], [], _, _ => .nil
  | [], _ :: _, h, _ => by simp at h
  | _ :: _, [], h, _ => by simp at h
  | x :: xs, y :: ys, h, f => .cons (f 0 x y rfl rfl) (paired_at2 (by simpa using h) fun i a b ha hb => f (i + 1) a b (by simpa using ha) (by simpa using hb))
end SB
namespace SB
open PySem L2 GxR GA RZ
section
variable {P : Program} {w : World} {K : PySem.W.Frag} {mg : Str → Option Value} {base : Heap}
def spCommon (K : PySem.W.Frag) : Sp := fun vs H Q _ => ∃ a ns, vs = [.ref a] ∧ SqT K H a (ns.map V.int) ∧ Q (.int ((gcdL ns : Nat) : Int)) H
theorem sc_common : FnScope ["wholes", "common", "whole"] ["wholes"] (defScope s_common_of) := ⟨rfl, rfl, rfl, by decide +kernel, rfl, by decide +kernel, by decide +kernel⟩
theorem cl_common (D : Df K mg "common_of" s_common_of) (B : Blt mg) : Cl P w K mg base 1 "common_of" ["wholes"] (spCommon K) := by
  refine D.cl (fun _ _ _ _ _ _ us hl => match us, hl with | [_], _ => rfl) fun f fd F => F.ok sc_common (fun vs H Q E h => ?_) (fun cdv A outer s H vs Q E hr h => ?_)
  · obtain ⟨a, ns, rfl, _⟩ := h
    rfl
  obtain ⟨a, ns, rfl, ha, q⟩ := h
  refine ⟨_, pss_cons (ps_set (i := 1) sc_common.nd rfl (.inl rfl) pe_int) (pss_cons (ps_for PassesOwn.never rfl (pi_tup (pv 0)) (pg_name (i := 2) sc_common.nd rfl (Or.inl rfl))
    (pss_one (ps_set (i := 1) sc_common.nd rfl (.inl rfl) (pe_callBfun cr_gcd rfl B.gcd (pa_cons (pv 1) (pa_cons (pv 2) pa_nil)))))) (pss_one (ps_ret (pv 1)))), ?_⟩
  refine ⟨_, rfl, a, rfl, ⟨_, ha⟩, for_tup (xs := ns.map V.int) (fun i σ H1 => ∃ c, σ = [some (.ref a), some (.int ((gcdL (ns.take i) : Nat) : Int)), c] ∧ H1 = H) ⟨_, rfl, rfl⟩ (fun i σ H1 _ h => ?_) (fun i x σ H1 hx h => ?_) (fun σ H1 h => ?_)⟩
  · obtain ⟨c, rfl, rfl⟩ := h
    exact ha
  · obtain ⟨c, rfl, rfl⟩ := h
    rw [List.getElem?_map] at hx
    obtain ⟨z, hz, rfl⟩ := Option.map_eq_some_iff.mp hx
    refine ⟨_, rfl, _, rfl, _, _, rfl, some (.int z), ?_, rfl⟩
    have e : gcdL (ns.take (i + 1)) = Nat.gcd (gcdL (ns.take i)) z.natAbs := fold_take (fun c (z : Int) => Nat.gcd c z.natAbs) 0 hz
    rw [e, Int.natAbs_natCast]
    rfl
  · obtain ⟨c, rfl, rfl⟩ := h
    have e : ns.take (ns.map V.int).length = ns := List.take_of_length_le (by rw [List.length_map]; exact Nat.le_refl _)
    rw [e]
    exact ⟨_, rfl, q⟩
def spBegins (K : PySem.W.Frag) : Sp := fun vs H Q _ => ∃ a ns, vs = [.ref a] ∧ SqT K H a (ns.map V.int) ∧ NonZ ns ∧ Q (.int ((firstNZ ns : Nat) : Int)) H
theorem sc_begins : FnScope ["wholes", "at"] ["wholes"] (defScope s_begins_at) := ⟨rfl, rfl, rfl, by decide +kernel, rfl, by decide +kernel, by decide +kernel⟩
theorem cl_begins (D : Df K mg "begins_at" s_begins_at) : Cl P w K mg base 1 "begins_at" ["wholes"] (spBegins K) := by
  refine D.cl (fun _ _ _ _ _ _ us hl => match us, hl with | [_], _ => rfl) fun f fd F => F.ok sc_begins (fun vs H Q E h => ?_) (fun cdv A outer s H vs Q E hr h => ?_)
  · obtain ⟨a, ns, rfl, _⟩ := h
    rfl
  obtain ⟨a, ns, rfl, ha, nz, q⟩ := h
  obtain ⟨k1, k2, k3⟩ := firstNZ_at nz
  refine ⟨_, pss_cons (ps_set (i := 1) sc_begins.nd rfl (.inl rfl) pe_int) (pss_cons (ps_while PassesOwn.never (pt_cmpR op_eq (pe_ix ix_tup (pv 0) (pv 1) (fun _ _ => rfl)) pe_int (nomark _)) (pss_one (ps_aug (i := 1) sc_begins.nd rfl (.inl rfl) pe_int ip_add))) (pss_one (ps_ret (pv 1)))), ?_⟩
  refine ⟨fun m σ H1 => ∃ i : Nat, σ = [some (.ref a), some (.int (i : Int))] ∧ H1 = H ∧ i + m = firstNZ ns, ⟨firstNZ ns, 0, rfl, rfl, Nat.zero_add _⟩, fun m σ H1 hw => ?_⟩
  obtain ⟨i, rfl, rfl, hm⟩ := hw
  have hl := (List.getElem?_eq_some_iff.mp k1).1
  have hi : i < ns.length := by omega
  have ei : ns[i]? = some ns[i] := List.getElem?_eq_getElem hi
  refine ⟨_, rfl, _, rfl, a, _, _, .int ns[i], rfl, rfl, ha, atI_nat (by rw [List.getElem?_map, ei]; rfl), rfl, _, rfl, ?_⟩
  cases m with
  | zero =>
    have e : i = firstNZ ns := by omega
    subst e
    rw [ei] at k1
    have : ns[firstNZ ns] = lead ns := Option.some.inj k1
    exact iteN (fun z => k2 (by rw [← this]; injection z)) ⟨_, rfl, q⟩
  | succ m =>
    have z0 := k3 i _ (by omega) ei
    refine iteP (by rw [z0]) ⟨fun σ H' => ∃ i' : Nat, σ = [some (.ref a), some (.int (i' : Int))] ∧ H' = H1 ∧ i' + m = firstNZ ns, fun σ' H' h => ⟨m, Nat.lt_succ_self _, h⟩, ?_⟩
    refine ⟨_, rfl, _, _, rfl, rfl, i + 1, ?_, rfl, by omega⟩
    simp
def spMany : Sp := fun vs H Q _ => ∃ d : Int, vs = [.int d] ∧ 1 ≤ d ∧ Q (.bl true) H
theorem sc_many : FnScope ["d"] ["d"] (defScope s__is_many) := ⟨rfl, rfl, rfl, by decide +kernel, rfl, by decide +kernel, by decide +kernel⟩
theorem cl_many (D : Df K mg "_is_many" s__is_many) (CW : Cl P w K mg base 1 "is_whole" ["told"] (spWhole K)) : Cl P w K mg base 2 "_is_many" ["d"] spMany := by
  refine D.cl (fun _ _ _ _ _ _ us hl => match us, hl with | [_], _ => rfl) fun f fd F => F.ok sc_many (fun vs H Q E h => ?_) (fun cdv A outer s H vs Q E hr h => ?_)
  · obtain ⟨d, rfl, _⟩ := h
    rfl
  obtain ⟨d, rfl, h1, q⟩ := h
  refine ⟨_, pss_one (ps_ret (pe_and (pe_cl CW (hr.mono (by decide)) (pa_cons (pv 0) pa_nil)) (pe_one (pe_cmpR op_ge (pv 0) pe_int (nomark _))))), ?_⟩
  exact ⟨_, rfl, _, _, rfl, .int d, _, rfl, iteT ⟨_, rfl, _, _, rfl, rfl, qe (decide_eq_true h1) q⟩⟩
end
end SB
namespace SB
open PySem L2 GxR GA RZ SG PpSet
section
variable {P : Program} {w : World} {K : PySem.W.Frag} {mg : Str → Option Value} {base : Heap}
def spDiv (K : PySem.W.Frag) : Sp := fun vs H Q _ => ∃ x q, vs = [x] ∧ QuV K H x q ∧ NonZ q.1 ∧ q.1.length ≤ 20 ∧ ∀ v H', Gr H H' → QuV K H' v (divU q) → Q v H'
theorem ne_of_nonZ {ns : List Int} (h : NonZ ns) : ns.map V.int ≠ [] := fun e => by
  rw [List.map_eq_nil_iff] at e
  rw [e] at h
  exact absurd (show false = true from h) Bool.false_ne_true
def spTurnQ (K : PySem.W.Frag) : Sp := fun vs H Q _ => ∃ x q, vs = [x] ∧ QuV K H x q ∧ q.1.length ≤ 20 ∧ ∀ v H', Gr H H' → QuV K H' v (negU q) → Q v H'
theorem sc_turnQ : FnScope ["question", "sides", "wall", "side"] ["question"] (defScope s__turned_question) := ⟨rfl, rfl, rfl, by decide +kernel, rfl, by decide +kernel, by decide +kernel⟩
theorem cl_turnQ (D : Df K mg "_turned_question" s__turned_question) (B : Blt mg) : Cl P w K mg base 1 "_turned_question" ["question"] (spTurnQ K) := by
  refine D.cl (fun _ _ _ _ _ _ us hl => match us, hl with | [_], _ => rfl) fun f fd F => F.ok sc_turnQ (fun vs H Q E h => ?_) (fun cdv A outer s H vs Q E hr h => ?_)
  · obtain ⟨x, q, rfl, _⟩ := h
    rfl
  obtain ⟨x, q, rfl, ⟨a, t, rfl, hs, b, rfl, hb⟩, l8, hq⟩ := h
  refine ⟨_, pss_cons (ps_asg (pv 0) (pg_tup rfl (pgs_cons (pg_name (i := 1) sc_turnQ.nd rfl (Or.inl rfl)) (pgs_cons (pg_name (i := 2) sc_turnQ.nd rfl (Or.inl rfl)) pgs_nil))))
    (pss_one (ps_ret (pe_tup (pa_cons (pe_callTy call_tuple_of rfl B.tup bootTup (pa_cons (pe_lc (own := [("side", 3)]) (g := gName 3) rfl sc_turnQ.nd (pi_tup (pv 1)) (blkOk_by (N := ["question", "sides", "wall", "side"]) (sc := defScope s__turned_question) (by decide +kernel)) (fun _ _ _ _ _ => pg_name (i := 3) sc_turnQ.nd rfl (Or.inl rfl)) (fun _ _ _ _ _ => pts_nil) (fun _ _ _ _ _ => pe_un un_neg (pv 3))) pa_nil)) (pa_cons (pe_un un_neg (pv 2)) pa_nil))))), ?_⟩
  refine ⟨_, rfl, a, _, rfl, hs, rfl, _, _, rfl, _, _, rfl, rfl, ?_⟩
  refine ⟨_, rfl, b, rfl, ⟨_, hb⟩, fun D nD => lc_mapT (xs := q.1.map V.int) (fun i y _ => ∃ z : Int, q.1[i]? = some z ∧ y = .int (-z)) (fun _ _ _ _ h _ => h) nD hb (by rw [List.length_map]; omega) (fun i x H5 Kc hx g5 kc => ?_) (fun ys H5 hD hl g5 hR => ?_)⟩
  · rw [List.getElem?_map] at hx
    obtain ⟨z, hz, rfl⟩ := Option.map_eq_some_iff.mp hx
    exact ⟨rfl, _, rfl, _, rfl, kc _ _ (Gr.refl _) ⟨z, hz, rfl⟩⟩
  · have ey : ys = (negU q).1.map V.int := by
      refine ints_at (by rw [hl, List.length_map]; show _ = (List.map _ q.1).length; rw [List.length_map]) fun i y hy => ?_
      obtain ⟨z, hz, rfl⟩ := hR i y hy
      exact ⟨_, by show (List.map _ q.1)[i]? = _; rw [List.getElem?_map, hz]; rfl, rfl⟩
    subst ey
    refine ⟨D, _, rfl, .inl ⟨SqL.of hD, fun p2 n2 => ?_⟩⟩
    have k5 := g5.new n2 (.tup ((negU q).1.map V.int))
    refine ⟨_, rfl, _, rfl, szN (by show 2 ≤ 1000000; decide), fun p3 n3 => ?_⟩
    have k6 := k5.new n3 (.tup [.ref p2, .int (-q.2)])
    exact hq _ _ k6 ⟨p3, _, rfl, SqT.of upd_same, p2, rfl, ((Gr.refl _).new n3 _).seqT (SqT.of upd_same)⟩
/-- the flat normal form -/
def spNorm (K : PySem.W.Frag) : Sp := fun vs H Q _ => ∃ a q, vs = [.ref a] ∧ SqT K H a ((q.1 ++ [q.2]).map V.int) ∧ NonZ q.1 ∧ q.1.length ≤ 20 ∧ ∀ b H', Gr H H' → VF K H' b (nfU q) → Q (.ref b) H'
theorem sc_norm : FnScope ["wholes", "common", "whole"] ["wholes"] (defScope s_normal_form) := ⟨rfl, rfl, rfl, by decide +kernel, rfl, by decide +kernel, by decide +kernel⟩
theorem cl_norm (D : Df K mg "normal_form" s_normal_form) (B : Blt mg) (NS : NSK P K) (CC : Cl P w K mg base 1 "common_of" ["wholes"] (spCommon K)) (CB : Cl P w K mg base 1 "begins_at" ["wholes"] (spBegins K)) : Cl P w K mg base 34 "normal_form" ["wholes"] (spNorm K) := by
  refine D.cl (fun _ _ _ _ _ _ us hl => match us, hl with | [_], _ => rfl) fun f fd F => F.ok sc_norm (fun vs H Q E h => ?_) (fun cdv A outer s H vs Q E hr h => ?_)
  · obtain ⟨a, q, rfl, _⟩ := h
    rfl
  obtain ⟨a, q, rfl, hs, nz, l8, hq⟩ := h
  refine ⟨_, pss_cons (ps_set (i := 1) sc_norm.nd rfl (.inr rfl) (pe_cl CC (hr.mono (by decide)) (pa_cons (pv 0) pa_nil)))
    (pss_cons (ps_if (pt_cmpR op_lt (pe_ix ix_tup (pv 0) (pe_cl CB (hr.mono (by decide)) (pa_cons (pv 0) pa_nil)) (fun _ _ => rfl)) pe_int (nomark _)) (pss_one (ps_set (i := 1) sc_norm.nd rfl (.inr rfl) (pe_un un_neg (pv 1)))) pss_nil)
    (pss_one (ps_ret (pe_ifExp (pt_cmpR op_eq (pv 1) pe_int (nomark _)) (pe_callTy call_tuple_of rfl B.tup bootTup (pa_cons (pv 0) pa_nil)) (pe_callTy call_tuple_of rfl B.tup bootTup (pa_cons (pe_lc (own := [("whole", 2)]) (g := gName 2) rfl sc_norm.nd (pi_tup (pv 0)) (blkOk_by (N := ["wholes", "common", "whole"]) (sc := defScope s_normal_form) (by decide +kernel)) (fun _ _ _ _ _ => pg_name (i := 2) sc_norm.nd rfl (Or.inl rfl)) (fun _ _ _ _ _ => pts_nil) (fun _ _ _ _ _ => pe_op (op_fdivP NS (Room.far hr) rfl rfl rfl rfl rfl) (pv 2) (pv 1))) pa_nil)))))), ?_⟩
  obtain ⟨nf, nc⟩ := nf_flat nz
  have nl := znonZ_app [q.2] nz
  obtain ⟨k1, k2, _⟩ := firstNZ_at nl
  refine ⟨_, rfl, a, q.1 ++ [q.2], rfl, hs, ?_⟩
  refine ⟨_, rfl, _, rfl, a, q.1 ++ [q.2], rfl, hs, nl, a, _, _, .int (lead (q.1 ++ [q.2])), rfl, rfl, hs, atI_nat (by rw [List.getElem?_map, k1]; rfl), _, _, rfl, rfl, _, rfl, ?_⟩
  by_cases hn : lead (q.1 ++ [q.2]) < 0
  · refine iteP hn ⟨_, rfl, _, rfl, ?_⟩
    have ec : -((gcdL (q.1 ++ [q.2]) : Nat) : Int) = nfC q := by unfold nfC; rw [if_pos hn]
    refine ⟨_, rfl, rfl, _, rfl, ?_⟩
    by_cases h1 : -((gcdL (q.1 ++ [q.2]) : Nat) : Int) = 1
    · refine iteP (show V.int (-((gcdL (q.1 ++ [q.2]) : Nat) : Int)) = V.int 1 by rw [h1]) ⟨_, rfl, a, _, rfl, .inr ⟨hs, hq a H (Gr.refl H) ?_⟩⟩
      show SqT K H a _
      rw [nf, ← ec, h1]
      have e1 : (q.1 ++ [q.2]).map (fun z => z.fdiv 1) = q.1 ++ [q.2] := by
        conv => rhs; rw [← List.map_id (q.1 ++ [q.2])]
        exact List.map_congr_left fun z _ => Int.fdiv_one z
      rw [e1]
      exact hs
    · refine iteN (fun z => h1 (by injection z)) ⟨_, rfl, a, rfl, ⟨_, hs⟩, fun D nD => lc_mapT (xs := (q.1 ++ [q.2]).map V.int) (fun i y _ => ∃ z : Int, (q.1 ++ [q.2])[i]? = some z ∧ y = .int (z.fdiv (-((gcdL (q.1 ++ [q.2]) : Nat) : Int)))) (fun _ _ _ _ h _ => h) nD hs (by rw [List.length_map, List.length_append]; show q.1.length + 1 ≤ 1000; omega) (fun i x H5 Kc hx g5 kc => ?_) (fun ys H5 hD hl g5 hR => ?_)⟩
      · rw [List.getElem?_map] at hx
        obtain ⟨z, hz, rfl⟩ := Option.map_eq_some_iff.mp hx
        exact ⟨rfl, _, rfl, _, rfl, _, _, rfl, rfl, by rw [ec]; exact nc, kc _ _ (Gr.refl _) ⟨z, hz, rfl⟩⟩
      · have ey : ys = ((nfU q).1 ++ [(nfU q).2]).map V.int := by
          rw [nf]
          refine ints_at (by rw [hl, List.length_map, List.length_map]) fun i y hy => ?_
          obtain ⟨z, hz, rfl⟩ := hR i y hy
          exact ⟨_, by rw [List.getElem?_map, hz]; rfl, by rw [ec]⟩
        subst ey
        exact ⟨D, _, rfl, .inl ⟨SqL.of hD, fun p2 n2 => hq _ _ (g5.new n2 _) (SqT.of upd_same)⟩⟩
  · refine iteN hn ?_
    have ec : ((gcdL (q.1 ++ [q.2]) : Nat) : Int) = nfC q := by unfold nfC; rw [if_neg hn]
    refine ⟨_, rfl, rfl, _, rfl, ?_⟩
    by_cases h1 : ((gcdL (q.1 ++ [q.2]) : Nat) : Int) = 1
    · refine iteP (show V.int ((gcdL (q.1 ++ [q.2]) : Nat) : Int) = V.int 1 by rw [h1]) ⟨_, rfl, a, _, rfl, .inr ⟨hs, hq a H (Gr.refl H) ?_⟩⟩
      show SqT K H a _
      rw [nf, ← ec, h1]
      have e1 : (q.1 ++ [q.2]).map (fun z => z.fdiv 1) = q.1 ++ [q.2] := by
        conv => rhs; rw [← List.map_id (q.1 ++ [q.2])]
        exact List.map_congr_left fun z _ => Int.fdiv_one z
      rw [e1]
      exact hs
    · refine iteN (fun z => h1 (by injection z)) ⟨_, rfl, a, rfl, ⟨_, hs⟩, fun D nD => lc_mapT (xs := (q.1 ++ [q.2]).map V.int) (fun i y _ => ∃ z : Int, (q.1 ++ [q.2])[i]? = some z ∧ y = .int (z.fdiv ((gcdL (q.1 ++ [q.2]) : Nat) : Int))) (fun _ _ _ _ h _ => h) nD hs (by rw [List.length_map, List.length_append]; show q.1.length + 1 ≤ 1000; omega) (fun i x H5 Kc hx g5 kc => ?_) (fun ys H5 hD hl g5 hR => ?_)⟩
      · rw [List.getElem?_map] at hx
        obtain ⟨z, hz, rfl⟩ := Option.map_eq_some_iff.mp hx
        exact ⟨rfl, _, rfl, _, rfl, _, _, rfl, rfl, by rw [ec]; exact nc, kc _ _ (Gr.refl _) ⟨z, hz, rfl⟩⟩
      · have ey : ys = ((nfU q).1 ++ [(nfU q).2]).map V.int := by
          rw [nf]
          refine ints_at (by rw [hl, List.length_map, List.length_map]) fun i y hy => ?_
          obtain ⟨z, hz, rfl⟩ := hR i y hy
          exact ⟨_, by rw [List.getElem?_map, hz]; rfl, by rw [ec]⟩
        subst ey
        exact ⟨D, _, rfl, .inl ⟨SqL.of hD, fun p2 n2 => hq _ _ (g5.new n2 _) (SqT.of upd_same)⟩⟩
def spNought (K : PySem.W.Frag) : Sp := fun vs H Q _ => ∃ x q, vs = [x] ∧ QuV K H x q ∧ QOk q ∧ q.1.length ≤ 20 ∧ ∀ b H', Gr H H' → VF K H' b (nfU q) → Q (.ref b) H'
theorem sc_nought : FnScope ["question", "sides", "wall"] ["question"] (defScope s_nought_form) := ⟨rfl, rfl, rfl, by decide +kernel, rfl, by decide +kernel, by decide +kernel⟩
theorem cl_nought (D : Df K mg "nought_form" s_nought_form) (CN : Cl P w K mg base 34 "normal_form" ["wholes"] (spNorm K)) : Cl P w K mg base 35 "nought_form" ["question"] (spNought K) := by
  refine D.cl (fun _ _ _ _ _ _ us hl => match us, hl with | [_], _ => rfl) fun f fd F => F.ok sc_nought (fun vs H Q E h => ?_) (fun cdv A outer s H vs Q E hr h => ?_)
  · obtain ⟨x, q, rfl, _⟩ := h
    rfl
  obtain ⟨x, q, rfl, ⟨a, t, rfl, hs, b, rfl, hb⟩, ok, l8, hq⟩ := h
  refine ⟨_, pss_cons (ps_asg (pv 0) (pg_tup rfl (pgs_cons (pg_name (i := 1) sc_nought.nd rfl (Or.inl rfl)) (pgs_cons (pg_name (i := 2) sc_nought.nd rfl (Or.inl rfl)) pgs_nil))))
    (pss_one (ps_ret (pe_cl CN (hr.mono (by decide)) (pa_cons (pe_op op_catT (pv 1) (pe_tup (pa_cons (pv 2) pa_nil))) pa_nil)))), ?_⟩
  refine ⟨_, rfl, a, _, rfl, hs, rfl, _, _, rfl, _, _, rfl, rfl, ?_⟩
  refine ⟨_, rfl, _, rfl, szN (by show 1 ≤ 1000000; decide), fun p0 n0 => ?_⟩
  have k0 := (Gr.refl H).new n0 (.tup [.int q.2])
  refine ⟨_, _, _, _, rfl, rfl, k0.seqT hb, SqT.of upd_same, ne_of_nonZ ok.nz, ?_, fun z => absurd z (List.cons_ne_nil _ _), fun _ p1 n1 => ?_⟩
  · rw [List.length_map]
    exact szN (by show q.1.length + 1 ≤ 1000000; omega)
  have k1 := k0.new n1 (.tup (q.1.map V.int ++ [.int q.2]))
  exact ⟨p1, q, rfl, SqT.of (by rw [upd_same, List.map_append]; rfl), ok.nz, l8, fun b H' g v => hq b H' (k1.trans g) v⟩
end
end SB
namespace SB
open PySem L2 GxR GA RZ SG PpSet
section
variable {P : Program} {w : World} {K : PySem.W.Frag} {mg : Str → Option Value} {base : Heap}
structure BOk (d : Nat) (qs : List (List Int × Int)) : Prop where
  d1 : 1 ≤ d
  d8 : d ≤ 8
  l8 : qs.length ≤ 8
  ok : ∀ q, q ∈ qs → QOk q ∧ q.1.length = d
  nd : (qs.map nfU).Nodup
theorem Tst.put2 {H : Hp} {D : Addr} {o o0 : HO} (hD : H D = some o0) (n1 : ∀ xs, o0 ≠ .tup xs) (n2 : ∀ u xs, o0 ≠ .frz u (.tup xs)) : Tst K H (upd H D o) := fun a xs h => by
  have ne : ∀ {o1 : HO}, H a = some o1 → o1 ≠ o0 → a ≠ D := fun e z q => by
    rw [q, hD] at e
    exact z (Option.some.inj e).symm
  rcases h with (h | ⟨u, h⟩) | h
  · exact .inl (.inl (by rw [upd_ne (ne h (Ne.symm (n1 xs)))]; exact h))
  · exact .inl (.inr ⟨u, by rw [upd_ne (ne h (Ne.symm (n2 u xs)))]; exact h⟩)
  · exact .inr h
theorem vf_st {H H' : Hp} {a : Addr} {k : Fm} (h : VF K H a k) (g : Tst K H H') : VF K H' a k := g _ _ h
/-- the members' keys of a set that is built -/
theorem nd_at {α β : Type} [DecidableEq β] {f : α → β} {l : List α} {i : Nat} {x : α} (h : (l.map f).Nodup) (e : l[i]? = some x) : f x ∉ (l.take i).map f := fun hm => by
  obtain ⟨hi, ex⟩ := List.getElem?_eq_some_iff.mp e
  obtain ⟨y, hy, ef⟩ := List.mem_map.mp hm
  obtain ⟨j, hj, ey⟩ := List.getElem_of_mem hy
  have hj' : j < i := by
    rw [List.length_take] at hj
    omega
  rw [List.getElem_take] at ey
  have h1 : (l.map f)[j]'(by rw [List.length_map]; omega) = (l.map f)[i]'(by rw [List.length_map]; exact hi) := by
    rw [List.getElem_map, List.getElem_map, ey, ef, ex]
  exact List.pairwise_iff_getElem.mp h j i (by rw [List.length_map]; omega) (by rw [List.length_map]; exact hi) hj' h1
def spBook (K : PySem.W.Frag) : Sp := fun vs H Q _ => ∃ x d qs, vs = [x] ∧ BkV K H x d qs ∧ BOk d qs ∧ ∀ H', Gr H H' → Q (.bl true) H'
theorem sc_book : FnScope ["told", "d", "questions", "question"] ["told"] (defScope s_is_book) := ⟨rfl, rfl, rfl, by decide +kernel, rfl, by decide +kernel, by decide +kernel⟩
theorem cl_book (D : Df K mg "is_book" s_is_book) (B : Blt mg) (CM : Cl P w K mg base 2 "_is_many" ["d"] spMany) (CQ : Cl P w K mg base 5 "is_question_of" ["told", "d"] (spQuestOf K)) (CN : Cl P w K mg base 35 "nought_form" ["question"] (spNought K)) :
    Cl P w K mg base 37 "is_book" ["told"] (spBook K) := by
  refine D.cl (fun _ _ _ _ _ _ us hl => match us, hl with | [_], _ => rfl) fun f fd F => F.ok sc_book (fun vs H Q E h => ?_) (fun cdv A outer s H vs Q E hr h => ?_)
  · obtain ⟨x, d, qs, rfl, _⟩ := h
    rfl
  obtain ⟨x, d, qs, rfl, ⟨a, b, xs, rfl, ha, hb, hp⟩, ok, hq⟩ := h
  refine ⟨_, pss_cons (ps_if (PW.pt (by exact (pw_or (pt_not (pt_val (pe_isi "tuple" (pv 0) bootTup B.tup B.isi))) (pw_or1 (pt_cmpR op_ne (pe_len (pv 0) B.len) pe_int (nomark _)))))) pss_no pss_nil)
    (pss_cons (ps_asg (pv 0) (pg_tup rfl (pgs_cons (pg_name (i := 1) sc_book.nd rfl (Or.inl rfl)) (pgs_cons (pg_name (i := 2) sc_book.nd rfl (Or.inl rfl)) pgs_nil))))
    (pss_cons (ps_if (PW.pt (by exact (pw_or (pt_not (pt_val (pe_cl CM (hr.mono (by decide)) (pa_cons (pv 1) pa_nil)))) (pw_or1 (pt_not (pt_val (pe_isi "tuple" (pv 2) bootTup B.tup B.isi))))))) pss_no pss_nil)
    (pss_cons (ps_for PassesOwn.never rfl (pi_tup (pv 2)) (pg_name (i := 3) sc_book.nd rfl (Or.inl rfl))
      (pss_one (ps_if (pt_not (pt_val (pe_cl CQ (hr.mono (by decide)) (pa_cons (pv 3) (pa_cons (pv 1) pa_nil))))) pss_no pss_nil)))
    (pss_one (ps_ret (pe_cmpR op_eq (pe_callB len_setG rfl B.len PySem.boot_len (pa_cons (pe_sg (Q0 := trivial) (own := [("question", 3)]) (g := gName 3) rfl hr.units sc_book.nd (pi_tup (pv 2)) (blkOk_by (N := ["told", "d", "questions", "question"]) (sc := defScope s_is_book) (by decide +kernel)) (fun _ _ _ _ _ => pg_name (i := 3) sc_book.nd rfl (Or.inl rfl)) (fun _ _ _ _ _ => pts_nil)
      (fun _ _ _ _ _ => pe_cl CN (hr.mono (by decide)) (pa_cons (pv 3) pa_nil))) pa_nil)) (pe_len (pv 2) B.len) (nomark _))))))), ?_⟩
  refine ⟨_, rfl, _, _, .tup ha, kTT, _, rfl, iteF ⟨_, rfl, a, _, rfl, .inr ha, rfl, _, rfl, iteNS rfl ⟨_, rfl, a, _, rfl, ha, rfl, _, _, rfl, _, _, rfl, rfl, ?_⟩⟩⟩
  refine ⟨_, rfl, _, rfl, by have := ok.d1; omega, _, rfl, iteF ⟨_, rfl, _, _, .tup hb, kTT, _, rfl, iteF ?_⟩⟩
  have lx : xs.length = qs.length := paired_len hp
  refine ⟨_, rfl, b, rfl, ⟨_, hb⟩, for_tup (xs := xs) (fun i σ H1 => ∃ c, σ = [some (.ref a), some (.int (d : Int)), some (.ref b), c] ∧ Gr H H1) ⟨_, rfl, Gr.refl H⟩ (fun i σ H1 _ h => ?_) (fun i x σ H1 hx h => ?_) (fun σ H3 h => ?_)⟩
  · obtain ⟨c, rfl, gr⟩ := h
    exact gr.seqT hb
  · obtain ⟨c, rfl, gr⟩ := h
    obtain ⟨q, hq1, hn⟩ := paired_get hp hx
    obtain ⟨qo, ql⟩ := ok.ok q (List.mem_of_getElem? hq1)
    exact ⟨_, rfl, _, rfl, x, q, by rw [ql]; rfl, hn.gr gr, qo.nz, fun H' g4 => ⟨_, rfl, iteF ⟨some x, rfl, gr.trans g4⟩⟩⟩
  obtain ⟨c, rfl, g4⟩ := h
  have hb3 := g4.seqT hb
  refine ⟨_, rfl, b, rfl, ⟨_, hb3⟩, fun D nD => ?_⟩
  refine sg_tup (xs := xs) (fun i H => ∃ L : List (Addr × Fm), H D = some (SetGO P w D L) ∧ L.length = i ∧ GrD D H3 H ∧ (∀ p ∈ L, VF K H p.1 p.2) ∧ ∀ k, k ∈ L.map (·.2) ↔ k ∈ (qs.take i).map nfU)
    ⟨[], upd_same, rfl, (GrD.refl D H3).set _, fun p h => by simp at h, fun k => by simp⟩ (fun i H h1 h => ?_) (fun i x H hx h => ?_) (fun H h => ?_)
  · obtain ⟨L, hD, hl, gr, _⟩ := h
    exact (gr.to nD).seqT hb3
  · obtain ⟨L, hD, hl, gr, hv, hk⟩ := h
    obtain ⟨q, hq1, hn⟩ := paired_get hp hx
    have hi := (List.getElem?_eq_some_iff.mp hq1).1
    have l8 := ok.l8
    obtain ⟨qo, ql⟩ := ok.ok q (List.mem_of_getElem? hq1)
    have d8 := ok.d8
    have g5 := gr.to nD
    refine ⟨rfl, _, rfl, x, q, rfl, hn.gr (g4.trans g5), qo, by omega, fun a4 H4 g6 vf => ?_⟩
    have hD4 : H4 D = some (SetGO P w D L) := g6.keep D _ (fun _ z => by unfold SetGO at z; cases z) hD
    refine ⟨a4, nfU q, L, rfl, vf, hD4, fun p hp' => vf_st (hv p hp') g6.st, by omega, fun L' h1 h2 => ?_⟩
    have nin : nfU q ∉ L.map (·.2) := fun z => nd_at ok.nd hq1 ((hk _).mp z)
    have pm := h2 nin
    have tp : Tst K H4 (upd H4 D (SetGO P w D L')) := Tst.put2 hD4 (fun _ z => by unfold SetGO at z; cases z) (fun _ _ z => by unfold SetGO at z; cases z)
    refine ⟨L', upd_same, by rw [pm.length_eq, List.length_cons, hl], (gr.trans (g6.d D)).set _, fun p hp' => ?_, fun k => ?_⟩
    · rcases List.mem_cons.mp (pm.mem_iff.mp hp') with rfl | hp2
      · exact vf_st vf tp
      · exact vf_st (vf_st (hv p hp2) g6.st) tp
    · have e1 : k ∈ L'.map (·.2) ↔ k = nfU q ∨ k ∈ L.map (·.2) := by
        rw [(pm.map _).mem_iff, List.map_cons, List.mem_cons]
      rw [e1, hk k, List.take_add_one, hq1, Option.toList_some, List.map_append, List.mem_append, List.map_singleton, List.mem_singleton]
      exact Or.comm
  · obtain ⟨L, hD, hl, gr, _⟩ := h
    have g5 := gr.to nD
    refine ⟨D, L, rfl, hD, _, rfl, b, _, rfl, .inr (g5.seqT hb3), rfl, ?_⟩
    exact qd (by rw [hl]) (hq H (g4.trans g5))
end
end SB
namespace SB
open PySem L2 GxR GA RZ
section
variable {P : Program} {w : World} {K : PySem.W.Frag} {mg : Str → Option Value} {base : Heap}
/-- the tables that the program's defs want: how many, which -/
structure Tb5 (T : Nat → Addr) (H : Hp) : Prop where
  t : ∀ i, i < T 0 → TabG H (T (i + 1))
theorem Tb5.gr {T : Nat → Addr} {H H' : Hp} (t : Tb5 T H) (g : Gr H H') : Tb5 T H' := ⟨fun i h => g.tab _ (t.t i h)⟩
def spChkBk (K : PySem.W.Frag) (T : Nat → Addr) : Sp := fun vs H Q _ => ∃ x d qs, vs = [x] ∧ Tb5 T H ∧ BkV K H x d qs ∧ BOk d qs ∧ ∀ H', Gr H H' → Q .non H'
theorem sc_chkBk : FnScope ["book"] ["book"] (defScope s_check_book) := ⟨rfl, rfl, rfl, by decide +kernel, rfl, by decide +kernel, by decide +kernel⟩
theorem cl_chkBk {T : Nat → Addr} (D : Df K mg "check_book" s_check_book) (CB : Cl P w K mg base 37 "is_book" ["told"] (spBook K)) : Cl P w K mg base 38 "check_book" ["book"] (spChkBk K T) := by
  refine D.cl (fun _ _ _ _ _ _ us hl => match us, hl with | [_], _ => rfl) fun f fd F => F.ok sc_chkBk (fun vs H Q E h => ?_) (fun cdv A outer s H vs Q E hr h => ?_)
  · obtain ⟨x, d, qs, rfl, _⟩ := h
    rfl
  obtain ⟨x, d, qs, rfl, tb, hx, ok, q⟩ := h
  refine ⟨_, pss_one (ps_if (pt_not (pt_val (pe_cl CB (hr.mono (by decide)) (pa_cons (pv 0) pa_nil)))) pss_no pss_nil), ?_⟩
  exact ⟨_, rfl, x, d, qs, rfl, hx, ok, fun H' g => ⟨_, rfl, iteF (q H' g)⟩⟩
/-- the answer of a question at a point -/
def ansU (q : List Int × Int) (us : List (Int × Int)) : Int := sgn (worthU q us).1
def spAnsAt (K : PySem.W.Frag) : Sp := fun vs H Q _ => ∃ x y q us, vs = [x, y] ∧ QuV K H x q ∧ PtV K H y us ∧ QOk q ∧ UsOk us ∧ q.1.length = us.length ∧ ∀ H', Gr H H' → Q (.int (ansU q us)) H'
theorem sc_ansAt : FnScope ["question", "point", "sides", "wall", "top", "bottom"] ["question", "point"] (defScope s_answer_at) := ⟨rfl, rfl, rfl, by decide +kernel, rfl, by decide +kernel, by decide +kernel⟩
theorem worth_pos {q : List Int × Int} {us : List (Int × Int)} (h : ∀ u, u ∈ us → Lo u) : 0 < (worthU q us).2 := by
  refine sumU_pos (by show (0 : Int) < 1; decide) fun p hp => ?_
  exact (h p.2 (List.of_mem_zip (a := p.1) (b := p.2) hp).2).1
theorem sgn_eqr {r : Int × Int} {N D : Int} (h : Eqr r N D) (hr : 0 < r.2) (hD : 0 < D) : sgn r.1 = sgn N := by
  obtain ⟨a, _, b⟩ := eqr_sign h hr hD
  unfold sgn
  by_cases h1 : 0 < r.1
  · rw [if_pos h1, if_pos (a.mp h1)]
  · rw [if_neg h1, if_neg (fun z => h1 (a.mpr z))]
    by_cases h2 : r.1 < 0
    · rw [if_pos h2, if_pos (b.mp h2)]
    · rw [if_neg h2, if_neg (fun z => h2 (b.mpr z))]
theorem cl_ansAt (D : Df K mg "answer_at" s_answer_at) (CS : Cl P w K mg base 1 "sign" ["whole"] spSign) (CSum : Cl P w K mg base 1 "_sum_at" ["sides", "point"] (spSumAt K)) : Cl P w K mg base 37 "answer_at" ["question", "point"] (spAnsAt K) := by
  refine D.cl (fun _ _ _ _ _ _ us hl => match us, hl with | [_, _], _ => rfl) fun f fd F => F.ok sc_ansAt (fun vs H Q E h => ?_) (fun cdv A outer s H vs Q E hr h => ?_)
  · obtain ⟨x, y, q, us, rfl, _⟩ := h
    rfl
  obtain ⟨x, y, q, us, rfl, ⟨a, t, rfl, hs, hst⟩, hy, qo, uo, hl, hq⟩ := h
  refine ⟨_, pss_cons (ps_asg (pv 0) (pg_tup rfl (pgs_cons (pg_name (i := 2) sc_ansAt.nd rfl (Or.inl rfl)) (pgs_cons (pg_name (i := 3) sc_ansAt.nd rfl (Or.inl rfl)) pgs_nil))))
    (pss_cons (ps_asg (pe_cl CSum (hr.mono (by decide)) (pa_cons (pv 2) (pa_cons (pv 1) pa_nil))) (pg_tup rfl (pgs_cons (pg_name (i := 4) sc_ansAt.nd rfl (Or.inl rfl)) (pgs_cons (pg_name (i := 5) sc_ansAt.nd rfl (Or.inl rfl)) pgs_nil))))
    (pss_one (ps_ret (pe_cl CS (hr.mono (by decide)) (pa_cons (pe_op op_sub (pv 4) (pe_op op_mulW (pv 3) (pv 5))) pa_nil))))), ?_⟩
  refine ⟨_, rfl, a, _, rfl, hs, rfl, _, _, rfl, _, _, rfl, rfl, ?_⟩
  refine ⟨_, rfl, _, rfl, t, y, q.1, us, 10000, 20000, rfl, hst, hy, hl, uo.2.1, uo.2.2.2, qo.ns, by decide, fun v H1 g1 nv wd => ?_⟩
  obtain ⟨a2, rfl, s2⟩ := nv
  have bi : us.length * (20000 + 10000 + 3) ≤ 4 * 30003 := Nat.mul_le_mul_right _ uo.2.1
  refine ⟨a2, _, rfl, s2, rfl, _, _, rfl, _, _, rfl, rfl, ?_⟩
  refine ⟨_, rfl, _, rfl, _, rfl, _, _, rfl, rfl, cmw qo.wl (wd.mono (n := 130000) (by omega)).2 (by decide), _, _, rfl, rfl, _, rfl, ?_⟩
  have e : (sumU q.1 us (0, 1)).1 - q.2 * (sumU q.1 us (0, 1)).2 = (worthU q us).1 := by
    rw [← worth_of]
    show _ = (sumU q.1 us (0, 1)).1 * 1 - _
    rw [Int.mul_one]
  show Q (.int (sgn ((sumU q.1 us (0, 1)).1 - q.2 * (sumU q.1 us (0, 1)).2))) H1
  rw [e]
  exact hq H1 g1
def rowU (qs : List (List Int × Int)) (us : List (Int × Int)) : List Int := qs.map fun q => ansU q us
def spRowAt (K : PySem.W.Frag) : Sp := fun vs H Q _ => ∃ x y d qs us, vs = [x, y] ∧ BkV K H x d qs ∧ PtV K H y us ∧ BOk d qs ∧ UsOk us ∧ us.length = d ∧ ∀ v H', Gr H H' → SiV K H' v (rowU qs us) → Q v H'
theorem sc_rowAt : FnScope ["book", "point", "question"] ["book", "point"] (defScope s__row_at) := ⟨rfl, rfl, rfl, by decide +kernel, rfl, by decide +kernel, by decide +kernel⟩
theorem cl_rowAt (D : Df K mg "_row_at" s__row_at) (B : Blt mg) (CA : Cl P w K mg base 37 "answer_at" ["question", "point"] (spAnsAt K)) : Cl P w K mg base 38 "_row_at" ["book", "point"] (spRowAt K) := by
  refine D.cl (fun _ _ _ _ _ _ us hl => match us, hl with | [_, _], _ => rfl) fun f fd F => F.ok sc_rowAt (fun vs H Q E h => ?_) (fun cdv A outer s H vs Q E hr h => ?_)
  · obtain ⟨x, y, d, qs, us, rfl, _⟩ := h
    rfl
  obtain ⟨x, y, d, qs, us, rfl, ⟨a, b, xs, rfl, ha, hb, hp⟩, hy, ok, uo, ul, hq⟩ := h
  refine ⟨_, pss_one (ps_ret (pe_callTy call_tuple_of rfl B.tup bootTup (pa_cons (pe_lc (own := [("question", 2)]) (g := gName 2) rfl sc_rowAt.nd (pi_tup (pe_ix ix_tup (pv 0) pe_int (fun _ _ => rfl))) (blkOk_by (N := ["book", "point", "question"]) (sc := defScope s__row_at) (by decide +kernel)) (fun _ _ _ _ _ => pg_name (i := 2) sc_rowAt.nd rfl (Or.inl rfl)) (fun _ _ _ _ _ => pts_nil)
    (fun _ _ _ _ _ => pe_cl CA hr (pa_cons (pv 2) (pa_cons (pv 1) pa_nil)))) pa_nil))), ?_⟩
  have lx : xs.length = qs.length := paired_len hp
  refine ⟨_, rfl, a, _, _, _, rfl, rfl, ha, rfl, b, rfl, ⟨_, hb⟩, fun D nD => lc_mapT (xs := xs) (fun i z _ => ∃ q, qs[i]? = some q ∧ z = .int (ansU q us)) (fun _ _ _ _ h _ => h) nD hb (by have := ok.l8; omega) (fun i x H5 Kc hx g5 kc => ?_) (fun ys H5 hD hl g5 hR => ?_)⟩
  · obtain ⟨q, hq1, hn⟩ := paired_get hp hx
    obtain ⟨qo, ql⟩ := ok.ok q (List.mem_of_getElem? hq1)
    exact ⟨rfl, _, rfl, _, rfl, x, y, q, us, rfl, hn.gr g5, hy.gr g5, qo, uo, by rw [ql, ul], fun H' g => kc _ _ g ⟨q, hq1, rfl⟩⟩
  · have ey : ys = (rowU qs us).map V.int := by
      refine ints_at (by rw [hl, lx]; show _ = (List.map _ qs).length; rw [List.length_map]) fun i z hz => ?_
      obtain ⟨q, hq1, rfl⟩ := hR i z hz
      exact ⟨_, by show (List.map _ qs)[i]? = _; rw [List.getElem?_map, hq1]; rfl, rfl⟩
    subst ey
    refine ⟨D, _, rfl, .inl ⟨SqL.of hD, fun p2 n2 => ?_⟩⟩
    exact hq _ _ (g5.new n2 _) ⟨p2, rfl, SqT.of upd_same⟩
def spAnswer (K : PySem.W.Frag) (T : Nat → Addr) : Sp := fun vs H Q _ => ∃ x y q us, vs = [x, y] ∧ Tb5 T H ∧ QuV K H x q ∧ PtV K H y us ∧ QOk q ∧ UsOk us ∧ q.1.length = us.length ∧ ∀ H', Gr H H' → Q (.int (ansU q us)) H'
def spRowOf (K : PySem.W.Frag) (T : Nat → Addr) : Sp := fun vs H Q _ => ∃ x y d qs us, vs = [x, y] ∧ Tb5 T H ∧ BkV K H x d qs ∧ PtV K H y us ∧ BOk d qs ∧ UsOk us ∧ us.length = d ∧ ∀ v H', Gr H H' → SiV K H' v (rowU qs us) → Q v H'
theorem sc_rowOf : FnScope ["book", "point"] ["book", "point"] (defScope s_row_of) := ⟨rfl, rfl, rfl, by decide +kernel, rfl, by decide +kernel, by decide +kernel⟩
theorem cl_rowOf {T : Nat → Addr} (D : Df K mg "row_of" s_row_of) (CB : Cl P w K mg base 38 "check_book" ["book"] (spChkBk K T)) (CP : Cl P w K mg base 5 "check_point" ["point", "d"] (spChkPt K)) (CR : Cl P w K mg base 38 "_row_at" ["book", "point"] (spRowAt K)) :
    Cl P w K mg base 39 "row_of" ["book", "point"] (spRowOf K T) := by
  refine D.cl (fun _ _ _ _ _ _ us hl => match us, hl with | [_, _], _ => rfl) fun f fd F => F.ok sc_rowOf (fun vs H Q E h => ?_) (fun cdv A outer s H vs Q E hr h => ?_)
  · obtain ⟨x, y, d, qs, us, rfl, _⟩ := h
    rfl
  obtain ⟨x, y, d, qs, us, rfl, tb, hx, hy, ok, uo, ul, hq⟩ := h
  refine ⟨_, pss_cons (ps_expr (pe_cl CB (hr.mono (by decide)) (pa_cons (pv 0) pa_nil)))
    (pss_cons (ps_expr (pe_cl CP (hr.mono (by decide)) (pa_cons (pv 1) (pa_cons (pe_ix ix_tup (pv 0) pe_int (fun _ _ => rfl)) pa_nil))))
    (pss_one (ps_ret (pe_cl CR (hr.mono (by decide)) (pa_cons (pv 0) (pa_cons (pv 1) pa_nil)))))), ?_⟩
  refine ⟨_, rfl, x, d, qs, rfl, tb, hx, ok, fun H1 g1 => ?_⟩
  obtain ⟨a, b, xs, rfl, ha, hb, hp⟩ := id (hx.gr g1)
  refine ⟨_, rfl, _, rfl, a, _, _, _, rfl, rfl, ha, rfl, y, us, by rw [ul]; rfl, hy.gr g1, uo.1, uo.2.2.1, fun H2 g2 => ?_⟩
  exact ⟨_, rfl, _, rfl, _, y, d, qs, us, rfl, hx.gr (g1.trans g2), hy.gr (g1.trans g2), ok, uo, ul, fun v H' g hv => hq v H' ((g1.trans g2).trans g) hv⟩
end
end SB
namespace SB
open PySem L2 GxR GA RZ
/-- a walk over two tuples side by side -/
theorem plan_zipT {K : PySem.W.Frag} {a b : Addr} {xs ys : List V} {g : TG} {te : TE} {σ0 : L2.St} {vs : List Nat} {QT QF : Hp → Prop} {H2 : Hp} (p : Nat → Prop) (hl : xs.length = ys.length) (hS : SqT K H2 a xs) (hS2 : SqT K H2 b ys)
    (step : ∀ i x y T H, xs[i]? = some x → ys[i]? = some y → Gr H2 H → H T = none → (∀ j, j < i → p j) → g (.ref T) σ0 (upd H T (.tup [x, y])) fun σ2 H3 => wipe σ2 vs = σ0 ∧ te σ2 H3 fun z H4 => ∃ b, z = .bl b ∧ (if b = true then Gr H2 H4 ∧ p i else QF H4))
    (fin : ∀ H, Gr H2 H → (∀ i, i < xs.length → p i) → QT H) : ∃ W : Nat → Nat → Hp → Prop, (∃ m, W 0 m H2) ∧ Plan (ItzT K a b) g tYes te σ0 vs QT QF W := by
  refine ⟨fun i m H => Gr H2 H ∧ i + m = xs.length ∧ ∀ j, j < i → p j, ⟨xs.length, Gr.refl _, Nat.zero_add _, fun j hj => absurd hj (Nat.not_lt_zero _)⟩, fun i m H w => ?_⟩
  obtain ⟨gr, hm, hp⟩ := w
  have hSi := gr.seqT hS
  have hSi2 := gr.seqT hS2
  cases m with
  | zero => exact .inl ⟨⟨xs, ys, hSi, hSi2, .inl (by omega)⟩, fin H gr fun j hj => hp j (by omega)⟩
  | succ m =>
    have hi : i < xs.length := by omega
    have hi2 : i < ys.length := by omega
    refine .inr ⟨⟨xs, ys, xs[i], ys[i], hSi, hSi2, List.getElem?_eq_getElem hi, List.getElem?_eq_getElem hi2⟩, fun H' => Gr H2 H' ∧ p i, fun H' h => ⟨m, Nat.lt_succ_self _, h.1, by omega, fun j hj => ?_⟩, fun v H' hy => ?_⟩
    · by_cases e : j = i
      · rw [e]
        exact h.2
      · exact hp j (by omega)
    · obtain ⟨T, x, y, rfl, nT, rfl, hx, hy2⟩ := hy
      exact step i x y T H (hx xs hSi) (hy2 ys hSi2) gr nT hp
section
variable {P : Program} {w : World} {K : PySem.W.Frag} {mg : Str → Option Value} {base : Heap}
def hopeV : Option Int → V
  | none => .non
  | some i => .int i
def fit1 (h : Option Int) (z : Int) : Bool := match h with
  | none => true
  | some i => decide (i = z)
def fitU (hs : List (Option Int)) (zs : List Int) : Bool := (hs.zip zs).all fun p => fit1 p.1 p.2
def HpOk (hs : List (Option Int)) : Prop := ∀ i, some i ∈ hs → -1 ≤ i ∧ i ≤ 1
def spFits (K : PySem.W.Frag) (T : Nat → Addr) : Sp := fun vs H Q _ => ∃ x a y d qs us hs, vs = [x, .ref a, y] ∧ Tb5 T H ∧ BkV K H x d qs ∧ SqT K H a (hs.map hopeV) ∧ PtV K H y us ∧ BOk d qs ∧ hs.length = qs.length ∧ HpOk hs ∧ UsOk us ∧ us.length = d ∧ ∀ H', Gr H H' → Q (.bl (fitU hs (rowU qs us))) H'
/-- two tuples put together -/
theorem rcat {H : Hp} {a b : Addr} {xs ys : List V} {Kc : VK} (ha : SqT K H a xs) (hb : SqT K H b ys) (hz : xs.length + ys.length ≤ 1000) (k : ∀ c H', Gr H H' → SqT K H' c (xs ++ ys) → Kc (.ref c) H') : L2.rCatA K (.ref a) (.ref b) H Kc := by
  refine ⟨a, b, xs, ys, rfl, rfl, ha, hb, szN (by omega), fun e => ?_, fun _ e => ?_, fun _ _ p np => ?_⟩
  · subst e
    exact k b H (Gr.refl _) hb
  · subst e
    exact k a H (Gr.refl _) (by rw [List.append_nil]; exact ha)
  · exact k p _ ((Gr.refl _).new np _) (SqT.of upd_same)
end
end SB
namespace SB
open PySem L2 GxR GA RZ
section
variable {P : Program} {w : World} {K : PySem.W.Frag} {mg : Str → Option Value} {base : Heap}
theorem cut_to (xs : List V) (i : Nat) (h : i ≤ xs.length) : cutV xs none (some (i : Int)) = xs.take i := by
  unfold cutV
  rw [HT.sIx_none, HT.sIx_nat, List.drop_zero, Nat.sub_zero, Nat.min_eq_left h]
theorem cut_from (xs : List V) (i : Nat) (h : i ≤ xs.length) : cutV xs (some (i : Int)) none = xs.drop i := by
  unfold cutV
  rw [HT.sIx_none, HT.sIx_nat, Nat.min_eq_left h, List.take_of_length_le]
  rw [List.length_drop]
  exact Nat.le_refl _
/-- the book with a question turned -/
def turnU (qs : List (List Int × Int)) (i : Nat) : List (List Int × Int) := match qs[i]? with
  | some q => (qs.take i ++ [negU q]) ++ qs.drop (i + 1)
  | none => qs
theorem paired_app {α β : Type} {F : α → β → Prop} : ∀ {xs xs' : List α} {ys ys' : List β}, Paired F xs ys → Paired F xs' ys' → Paired F (xs ++ xs') (ys ++ ys')
  | _, _, _, _, .nil, h => h
  | _, _, _, _, .cons r t, h => .cons r (paired_app t h)
theorem paired_take {α β : Type} {F : α → β → Prop} : ∀ {xs : List α} {ys : List β} (n : Nat), Paired F xs ys → Paired F (xs.take n) (ys.take n)
  | _, _, 0, _ => by simp only [List.take_zero]; exact .nil
  | _, _, _ + 1, .nil => .nil
  | _, _, n + 1, .cons r t => .cons r (paired_take n t)
theorem paired_drop {α β : Type} {F : α → β → Prop} : ∀ {xs : List α} {ys : List β} (n : Nat), Paired F xs ys → Paired F (xs.drop n) (ys.drop n)
  | _, _, 0, h => h
  | _, _, _ + 1, .nil => .nil
  | _, _, n + 1, .cons r t => paired_drop n t
def spTurned (K : PySem.W.Frag) (T : Nat → Addr) : Sp := fun vs H Q _ => ∃ x d qs i, vs = [x, .int ((i : Nat) : Int)] ∧ Tb5 T H ∧ BkV K H x d qs ∧ BOk d qs ∧ i < qs.length ∧ ∀ v H', Gr H H' → BkV K H' v d (turnU qs i) → Q v H'
theorem sc_turned : FnScope ["book", "index", "d", "questions"] ["book", "index"] (defScope s_turned) := ⟨rfl, rfl, rfl, by decide +kernel, rfl, by decide +kernel, by decide +kernel⟩
theorem cl_turned {T : Nat → Addr} (D : Df K mg "turned" s_turned) (B : Blt mg) (CB : Cl P w K mg base 38 "check_book" ["book"] (spChkBk K T)) (CI : Cl P w K mg base 3 "check_index" ["index", "many"] spChkIx) (CT : Cl P w K mg base 1 "_turned_question" ["question"] (spTurnQ K)) :
    Cl P w K mg base 39 "turned" ["book", "index"] (spTurned K T) := by
  refine D.cl (fun _ _ _ _ _ _ us hl => match us, hl with | [_, _], _ => rfl) fun f fd F => F.ok sc_turned (fun vs H Q E h => ?_) (fun cdv A outer s H vs Q E hr h => ?_)
  · obtain ⟨x, d, qs, i, rfl, _⟩ := h
    rfl
  obtain ⟨x, d, qs, i, rfl, tb, hx, ok, hi, hq⟩ := h
  refine ⟨_, pss_cons (ps_expr (pe_cl CB (hr.mono (by decide)) (pa_cons (pv 0) pa_nil)))
    (pss_cons (ps_asg (pv 0) (pg_tup rfl (pgs_cons (pg_name (i := 2) sc_turned.nd rfl (Or.inl rfl)) (pgs_cons (pg_name (i := 3) sc_turned.nd rfl (Or.inl rfl)) pgs_nil))))
    (pss_cons (ps_expr (pe_cl CI (hr.mono (by decide)) (pa_cons (pv 1) (pa_cons (pe_len (pv 3) B.len) pa_nil))))
    (pss_one (ps_ret (pe_tup (pa_cons (pv 2) (pa_cons (pe_op op_catA (pe_op op_catA (pe_slice sl_tup (pv 3) po_none (po_some (pv 1))) (pe_tup (pa_cons (pe_cl CT (hr.mono (by decide)) (pa_cons (pe_ix ix_tup (pv 3) (pv 1) (fun _ _ => rfl)) pa_nil)) pa_nil))) (pe_slice sl_tup (pv 3) (po_some (pe_op op_add (pv 1) pe_int)) po_none)) pa_nil))))))), ?_⟩
  refine ⟨_, rfl, x, d, qs, rfl, tb, hx, ok, fun H1 g1 => ?_⟩
  obtain ⟨a, b, xs, rfl, ha, hb, hp⟩ := hx.gr g1
  have lx : xs.length = qs.length := paired_len hp
  have l8 := ok.l8
  refine ⟨_, rfl, a, _, rfl, ha, rfl, _, _, rfl, _, _, rfl, rfl, ?_⟩
  refine ⟨_, rfl, _, rfl, b, xs, rfl, .inr hb, _, _, rfl, by omega, by rw [lx]; omega, ?_⟩
  -- the first part
  refine ⟨_, rfl, _, rfl, _, rfl, _, rfl, b, xs, rfl, hb, ?_, fun p1 n1 => ?_⟩
  · rw [HT.sIx_nat]
    omega
  have k1 := (Gr.refl H1).new n1 (.tup (cutV xs none (some (i : Int))))
  rw [cut_to xs i (by omega)] at k1 ⊢
  obtain ⟨q, eq⟩ : ∃ q, qs[i]? = some q := ⟨qs[i], List.getElem?_eq_getElem hi⟩
  have exi : xs[i]? = some xs[i] := List.getElem?_eq_getElem (by omega)
  obtain ⟨q', eq', hn⟩ := paired_get hp exi
  rw [eq] at eq'
  cases eq'
  obtain ⟨qo, ql⟩ := ok.ok q (List.mem_of_getElem? eq)
  refine ⟨_, rfl, _, rfl, b, xs, _, xs[i], rfl, rfl, k1.seqT hb, atI_nat exi, xs[i], q, rfl, hn.gr k1, by have := ok.d8; omega, fun v H3 g3 hv => ?_⟩
  refine ⟨szN (by show 1 ≤ 1000000; decide), fun p2 n2 => ?_⟩
  have k2 := (k1.trans g3).new n2 (.tup [v])
  have sp1 : SqT K (upd H3 p2 (.tup [v])) p1 (xs.take i) := ((Gr.refl H3).new n2 (.tup [v])).seqT (g3.seqT (SqT.of upd_same))
  refine rcat sp1 (SqT.of upd_same) (by rw [List.length_take]; show _ + 1 ≤ 1000; omega) fun c1 H4 g4 hc1 => ?_
  have k4 := k2.trans g4
  refine ⟨_, rfl, _, rfl, _, _, rfl, rfl, _, rfl, b, xs, rfl, k4.seqT hb, ?_, fun p3 n3 => ?_⟩
  · rw [show ((i : Int) + 1) = ((i + 1 : Nat) : Int) from by simp, HT.sIx_nat]
    omega
  have e3 : cutV xs (some ((i : Int) + 1)) none = xs.drop (i + 1) := by
    rw [show ((i : Int) + 1) = ((i + 1 : Nat) : Int) from by simp]
    exact cut_from xs (i + 1) (by omega)
  have k5 := (Gr.refl H4).new n3 (.tup (cutV xs (some ((i : Int) + 1)) none))
  refine rcat (k5.seqT hc1) (SqT.of upd_same) (by rw [e3, List.length_append, List.length_take, List.length_drop]; show _ + 1 + _ ≤ 1000; omega) fun c2 H5 g5 hc2 => ?_
  refine ⟨szN (by show 2 ≤ 1000000; decide), fun p4 n4 => ?_⟩
  have k6 := ((k4.trans k5).trans g5).new n4 (.tup [.int d, .ref c2])
  have g45 : Gr H3 (upd H5 p4 (.tup [.int d, .ref c2])) := (((((Gr.refl H3).new n2 (.tup [v])).trans g4).trans k5).trans g5).new n4 _
  have g15 := k6
  refine hq _ _ (g1.trans k6) ⟨p4, c2, _, rfl, SqT.of upd_same, ((Gr.refl H5).new n4 _).seqT hc2, ?_⟩
  have et : turnU qs i = (qs.take i ++ [negU q]) ++ qs.drop (i + 1) := by
    unfold turnU
    rw [eq]
  rw [et, e3]
  have hp6 : Paired (QuV K (upd H5 p4 (.tup [.int d, .ref c2]))) xs qs := Paired.mapP hp fun _ _ z => QuV.gr z g15
  exact paired_app (paired_app (paired_take i hp6) (.cons (hv.gr g45) .nil)) (paired_drop (i + 1) hp6)
end
end SB
namespace SB
open PySem L2 GxR GA
/-- the same data, of nesting n at most -/
def Alike (K : PySem.W.Frag) (H : Hp) : Nat → V → V → Prop
  | 0 => fun _ _ => False
  | n + 1 => fun x y => (x = y ∧ scB x = true) ∨ ∃ (a b : Addr) (xs ys : List V), x = .ref a ∧ y = .ref b ∧ ys.length ≤ sizeLine ∧ ((SqT K H a xs ∧ SqT K H b ys) ∨ (SqL K H a xs ∧ SqL K H b ys)) ∧ Paired (Alike K H n) xs ys
theorem Alike.gr {K : PySem.W.Frag} {H H' : Hp} (e : Gr H H') : ∀ {n : Nat} {x y : V}, Alike K H n x y → Alike K H' n x y
  | 0, _, _, h => h.elim
  | n + 1, x, y, h => by
    rcases h with h | ⟨a, b, xs, ys, rfl, rfl, hz, h, p⟩
    · exact .inl h
    · refine .inr ⟨a, b, xs, ys, rfl, rfl, hz, ?_, Paired.mapP p fun _ _ q => Alike.gr e q⟩
      rcases h with ⟨h1, h2⟩ | ⟨h1, h2⟩
      · exact .inl ⟨Gr.seqT e h1, Gr.seqT e h2⟩
      · exact .inr ⟨e.seqL h1, e.seqL h2⟩
theorem Alike.more {K : PySem.W.Frag} {H : Hp} : ∀ {n : Nat} {x y : V}, Alike K H n x y → Alike K H (n + 1) x y
  | 0, _, _, h => h.elim
  | n + 1, x, y, h => by
    rcases h with h | ⟨a, b, xs, ys, rfl, rfl, hz, h, p⟩
    · exact .inl h
    · exact .inr ⟨a, b, xs, ys, rfl, rfl, hz, h, Paired.mapP p fun _ _ q => Alike.more q⟩
theorem paired_at {α β : Type} {F : α → β → Prop} : ∀ {xs : List α} {ys : List β}, Paired F xs ys → ∀ i, i < ys.length → ∃ x y, xs[i]? = some x ∧ ys[i]? = some y ∧ F x y
  | _, _, .nil, i, h => absurd h (Nat.not_lt_zero i)
  | _, _, .cons r t, 0, _ => ⟨_, _, rfl, rfl, r⟩
  | _, _, .cons r t, i + 1, h => by
    obtain ⟨x, y, e1, e2, q⟩ := paired_at t i (Nat.lt_of_succ_lt_succ h)
    exact ⟨x, y, by simpa using e1, by simpa using e2, q⟩
/-- the two are the same data: the answer is True -/
def spSame (K : PySem.W.Frag) (n : Nat) : Sp := fun vs H Q _ => ∃ x y : V, vs = [x, y] ∧ Alike K H n x y ∧ ∀ H', Gr H H' → Q (.bl true) H'
section
variable {P : Program} {w : World} {K : PySem.W.Frag} {mg : Str → Option Value} {base : Heap}
theorem scSame : FnScope ["found", "due", "at"] ["found", "due"] (defScope s__law_same) := ⟨rfl, rfl, rfl, by decide +kernel, rfl, by decide +kernel, by decide +kernel⟩
theorem szL2 : (2 : Nat) ≤ sizeLine := by decide
theorem qt {Q : VK} {H : Hp} {b : Bool} (e : b = true) (q : Q (.bl true) H) : Q (.bl b) H := by
  rw [e]
  exact q
theorem szL0 : (0 : Nat) ≤ sizeLine := by decide
theorem ok_same {n : Nat} {f g : Addr} {fd gd : FuncData} (F : Fun K "_law_same" "_law_same" s__law_same f fd) (B : Blt mg) (G : FnOk P w K mg base CX0 n g gd ["found", "due"] (spSame K n)) (bG : Binds K gd ["found", "due"] []) (kG : PySem.W.keepIn K (.ref g) = true) (mG : mg "_law_same" = some (.ref g)) :
    FnOk P w K mg base CX0 (n + 1) f fd ["found", "due"] (spSame K (n + 1)) := by
  refine F.ok scSame (fun vs H Q E h => ?_) (fun cdv A outer s H vs Q E hr h => ?_)
  · obtain ⟨x, y, rfl, _⟩ := h
    rfl
  obtain ⟨x, y, rfl, ha, q⟩ := h
  refine ⟨_, pss_cons (ps_if (pt_val (pe_callB call_isiT rfl B.isi PyProof.Rows.boot_isinstance (pa_cons (pv 1) (pa_cons (pe_tup (pa_cons (pe_bltn (v := .ty "tuple") rfl B.tup bootTup rfl) (pa_cons (pe_bltn (v := .ty "list") rfl B.lst bootLst rfl) pa_nil))) pa_nil))))
      (pss_cons (ps_if (PW.pt (by exact (pw_or (pt_cmpR op_ne (pe_callB call_isi rfl B.isi PyProof.Rows.boot_isinstance (pa_cons (pv 0) (pa_cons (pe_bltn (v := .ty "tuple") rfl B.tup bootTup rfl) pa_nil))) (pe_callB call_isi rfl B.isi PyProof.Rows.boot_isinstance (pa_cons (pv 1) (pa_cons (pe_bltn (v := .ty "tuple") rfl B.tup bootTup rfl) pa_nil))) (nomark _))
          (pw_or1 (pt_cmpR op_ne (pe_callB call_isi rfl B.isi PyProof.Rows.boot_isinstance (pa_cons (pv 0) (pa_cons (pe_bltn (v := .ty "list") rfl B.lst bootLst rfl) pa_nil))) (pe_callB call_isi rfl B.isi PyProof.Rows.boot_isinstance (pa_cons (pv 1) (pa_cons (pe_bltn (v := .ty "list") rfl B.lst bootLst rfl) pa_nil))) (nomark _))))))
        (pss_one (ps_ret pe_bl)) pss_nil)
      (pss_cons (ps_if (pt_cmpR op_ne (pe_callB call_len_seq rfl B.len PySem.boot_len (pa_cons (pv 0) pa_nil)) (pe_callB call_len_seq rfl B.len PySem.boot_len (pa_cons (pv 1) pa_nil)) (nomark _)) (pss_one (ps_ret pe_bl)) pss_nil)
      (pss_one (ps_ret (pe_cmpR (op_eqD hr.units) (pe_lc (own := [("at", 2)]) (g := gName 2) rfl scSame.nd (pi_range1 rfl B.rng (pa_cons (pe_callB call_len_seq rfl B.len PySem.boot_len (pa_cons (pv 1) pa_nil)) pa_nil)) (blkOk_by (N := ["found", "due", "at"]) (sc := defScope s__law_same) (by decide +kernel)) (fun _ _ _ _ _ => pg_name (i := 2) scSame.nd rfl (Or.inl rfl))
          (fun _ _ _ _ _ => pts_one (pt_not (pt_val (pe_call G hr rfl mG kG bG .nil pass0 (pa_cons (pe_ix (r := rIx K) ix_seq (pv 0) (pv 2) (fun _ _ => rfl)) (pa_cons (pe_ix (r := rIx K) ix_seq (pv 1) (pv 2) (fun _ _ => rfl)) pa_nil))))))
          (fun _ _ _ _ _ => pv 2)) (pe_lst pa_nil) (nomark _)))))) pss_nil)
    (pss_cons (ps_if (pt_cmp (pc_isN (pv 1))) (pss_one (ps_ret (pe_cmp (pc_isN (pv 0))))) pss_nil)
    (pss_cons (ps_if (pt_val (pe_callB call_isi rfl B.isi PyProof.Rows.boot_isinstance (pa_cons (pv 1) (pa_cons (pe_bltn (v := .ty "str") rfl B.str bootStr rfl) pa_nil)))) (pss_one (ps_ret (pe_and (pe_callB call_isi rfl B.isi PyProof.Rows.boot_isinstance (pa_cons (pv 0) (pa_cons (pe_bltn (v := .ty "str") rfl B.str bootStr rfl) pa_nil))) (pe_one (pe_cmpR op_eq (pv 0) (pv 1) (nomark _)))))) pss_nil)
    (pss_cons (ps_if (PW.pt (by exact (pw_or (pt_val (pe_callB call_isi rfl B.isi PyProof.Rows.boot_isinstance (pa_cons (pv 1) (pa_cons (pe_bltn (v := .ty "bool") rfl B.bool bootBool rfl) pa_nil)))) (pw_or1 (pt_val (pe_callB call_isi rfl B.isi PyProof.Rows.boot_isinstance (pa_cons (pv 0) (pa_cons (pe_bltn (v := .ty "bool") rfl B.bool bootBool rfl) pa_nil))))))))
      (pss_one (ps_ret (pe_and (pe_callB call_isi rfl B.isi PyProof.Rows.boot_isinstance (pa_cons (pv 1) (pa_cons (pe_bltn (v := .ty "bool") rfl B.bool bootBool rfl) pa_nil))) (pe_and (pe_callB call_isi rfl B.isi PyProof.Rows.boot_isinstance (pa_cons (pv 0) (pa_cons (pe_bltn (v := .ty "bool") rfl B.bool bootBool rfl) pa_nil))) (pe_one (pe_cmpR op_eq (pv 0) (pv 1) (nomark _))))))) pss_nil)
    (pss_one (ps_ret (pe_and (pe_callB call_isi rfl B.isi PyProof.Rows.boot_isinstance (pa_cons (pv 0) (pa_cons (pe_bltn (v := .ty "int") rfl B.int PyProof.Rows.boot_int rfl) pa_nil))) (pe_one (pe_cmpR op_eq (pv 0) (pv 1) (nomark _))))))))), ?_⟩
  rcases ha with ⟨rfl, hs⟩ | ⟨a, b, xs, ys, rfl, rfl, hsz, hsq, hp⟩
  · -- a value without parts
    cases x with
    | non =>
      refine ⟨_, rfl, szL2, fun p hp => ⟨_, _, _, _, _, _, rfl, upd_same, clsTL, .base .non, kTL (b1 := false) (b2 := false) (by decide +kernel) (by decide +kernel), _, rfl, iteF ?_⟩⟩
      refine ⟨_, rfl, _, rfl, iteP rfl ?_⟩
      exact ⟨_, rfl, qd rfl (q _ ((Gr.refl _).new hp _))⟩
    | bl c =>
      refine ⟨_, rfl, szL2, fun p hp => ⟨_, _, _, _, _, _, rfl, upd_same, clsTL, .base (.bl c), kTL (b1 := false) (b2 := false) (by decide +kernel) (by decide +kernel), _, rfl, iteF ?_⟩⟩
      refine ⟨_, rfl, _, rfl, iteN (fun z => nomatch z) ?_⟩
      refine ⟨_, rfl, _, _, _, _, _, rfl, .ty _, .base (.bl c), kit_ty (r := false) (by decide +kernel), _, rfl, iteF ?_⟩
      refine ⟨_, rfl, _, _, _, _, _, rfl, .ty _, .base (.bl c), kit_ty (r := true) (by decide +kernel), _, rfl, iteT (iteT ?_)⟩
      refine ⟨_, rfl, _, _, _, _, _, rfl, .ty _, .base (.bl c), kit_ty (r := true) (by decide +kernel), _, rfl, iteT ⟨_, rfl, _, _, _, _, _, rfl, .ty _, .base (.bl c), kit_ty (r := true) (by decide +kernel), _, rfl, iteT ?_⟩⟩
      exact ⟨_, rfl, _, rfl, rfl, qd rfl (q _ ((Gr.refl _).new hp _))⟩
    | int i =>
      refine ⟨_, rfl, szL2, fun p hp => ⟨_, _, _, _, _, _, rfl, upd_same, clsTL, .base (.int i), kTL (b1 := false) (b2 := false) (by decide +kernel) (by decide +kernel), _, rfl, iteF ?_⟩⟩
      refine ⟨_, rfl, _, rfl, iteN (fun z => nomatch z) ?_⟩
      refine ⟨_, rfl, _, _, _, _, _, rfl, .ty _, .base (.int i), kit_ty (r := false) (by decide +kernel), _, rfl, iteF ?_⟩
      refine ⟨_, rfl, _, _, _, _, _, rfl, .ty _, .base (.int i), kit_ty (r := false) (by decide +kernel), _, rfl, iteF ⟨_, rfl, _, _, _, _, _, rfl, .ty _, .base (.int i), kit_ty (r := false) (by decide +kernel), _, rfl, iteF ?_⟩⟩
      refine ⟨_, rfl, _, _, _, _, _, rfl, .ty _, .base (.int i), kit_ty (r := true) (by decide +kernel), _, rfl, iteT ?_⟩
      exact ⟨_, rfl, _, rfl, rfl, qd rfl (q _ ((Gr.refl _).new hp _))⟩
    | str z =>
      refine ⟨_, rfl, szL2, fun p hp => ⟨_, _, _, _, _, _, rfl, upd_same, clsTL, .base (.str z), kTL (b1 := false) (b2 := false) (by decide +kernel) (by decide +kernel), _, rfl, iteF ?_⟩⟩
      refine ⟨_, rfl, _, rfl, iteN (fun z => nomatch z) ?_⟩
      refine ⟨_, rfl, _, _, _, _, _, rfl, .ty _, .base (.str z), kit_ty (r := true) (by decide +kernel), _, rfl, iteT ?_⟩
      refine ⟨_, rfl, _, _, _, _, _, rfl, .ty _, .base (.str z), kit_ty (r := true) (by decide +kernel), _, rfl, iteT ?_⟩
      exact ⟨_, rfl, _, rfl, rfl, qd rfl (q _ ((Gr.refl _).new hp _))⟩
    | byt _ => cases hs
    | flt _ => cases hs
    | ref _ => cases hs
    | ty _ => cases hs
  · rcases hsq with hsq | hsq
    · obtain ⟨h1, h2⟩ := hsq
      refine ⟨_, rfl, szL2, fun p hp0 => ?_⟩
      have g0 := (Gr.refl _).new hp0 (HO.tup [.ty "tuple", .ty "list"])
      have k1 := Gr.seqT g0 h1
      have k2 := Gr.seqT g0 h2
      have hl : xs.length = ys.length := Paired.length hp
      refine ⟨_, _, _, _, _, _, rfl, upd_same, clsTL, tyT k2, kTL (b1 := true) (b2 := false) (by decide +kernel) (by decide +kernel), _, rfl, iteT ?_⟩
      refine ⟨_, rfl, _, _, _, _, _, rfl, .ty _, tyT k1, kit_ty (r := true) (by decide +kernel), _, rfl, _, _, _, _, _, rfl, .ty _, tyT k2, kit_ty (r := true) (by decide +kernel), rfl, _, rfl, iteNS rfl ?_⟩
      refine ⟨_, rfl, _, _, _, _, _, rfl, .ty _, tyT k1, kit_ty (r := false) (by decide +kernel), _, rfl, _, _, _, _, _, rfl, .ty _, tyT k2, kit_ty (r := false) (by decide +kernel), rfl, _, rfl, iteNS rfl ?_⟩
      refine ⟨_, rfl, _, _, rfl, .inr k1, _, rfl, _, _, rfl, .inr k2, rfl, _, rfl, iteNS (congrArg (fun n : Nat => V.int n) hl) ?_⟩
      refine ⟨_, rfl, _, _, rfl, .inr k2, _, rfl, (len_rng hsz).1, (len_rng hsz).2, fun D hD => ?_⟩
      have hnD := (Gr.refl _).new hD (HO.lst [])
      refine lc_range (lo := 0) (Pv := fun _ H' => Gr (upd H p (.tup [.ty "tuple", .ty "list"])) H' ∧ H' D = some (.lst [])) ⟨hnD, upd_same⟩ (fun i H' hi hP => ?_) (fun H' hP => ?_)
      · obtain ⟨s1, d1⟩ := hP
        have hi' : i < ys.length := by
          rw [Int.toNat_natCast] at hi
          exact hi
        obtain ⟨v, u, e1, e2, al⟩ := paired_at hp i hi'
        have e0 : (0 : Int) + (i : Int) = ((i : Nat) : Int) := Int.zero_add _
        refine ⟨rfl, _, rfl, _, rfl, .inr (.inl ⟨_, _, _, _, rfl, rfl, Gr.seqT s1 k1, at_of e0 e1, ?_⟩)⟩
        refine ⟨_, rfl, _, rfl, .inr (.inl ⟨_, _, _, _, rfl, rfl, Gr.seqT s1 k2, at_of e0 e2, ?_⟩)⟩
        exact ⟨_, _, rfl, Alike.gr (g0.trans s1) al, fun H2 s2 => ⟨_, rfl, iteF ⟨s1.trans s2, s2.keep _ _ (fun _ z => nomatch z) d1⟩⟩⟩
      · obtain ⟨s1, d1⟩ := hP
        refine ⟨szL0, fun p2 hp2 => ?_⟩
        have s2 := (Gr.refl _).new hp2 (HO.lst [])
        exact ⟨.list [], .list [], .lst (SqL.of (s2.keep _ _ (fun _ z => nomatch z) d1)) .nil, .lst (SqL.of upd_same) .nil, by decide, by decide, qt (by decide +kernel) (q _ ((g0.trans s1).trans s2))⟩
    · obtain ⟨h1, h2⟩ := hsq
      refine ⟨_, rfl, szL2, fun p hp0 => ?_⟩
      have g0 := (Gr.refl _).new hp0 (HO.tup [.ty "tuple", .ty "list"])
      have k1 := g0.seqL h1
      have k2 := g0.seqL h2
      have hl : xs.length = ys.length := Paired.length hp
      refine ⟨_, _, _, _, _, _, rfl, upd_same, clsTL, tyL k2, kTL (b1 := false) (b2 := true) (by decide +kernel) (by decide +kernel), _, rfl, iteT ?_⟩
      refine ⟨_, rfl, _, _, _, _, _, rfl, .ty _, tyL k1, kit_ty (r := false) (by decide +kernel), _, rfl, _, _, _, _, _, rfl, .ty _, tyL k2, kit_ty (r := false) (by decide +kernel), rfl, _, rfl, iteNS rfl ?_⟩
      refine ⟨_, rfl, _, _, _, _, _, rfl, .ty _, tyL k1, kit_ty (r := true) (by decide +kernel), _, rfl, _, _, _, _, _, rfl, .ty _, tyL k2, kit_ty (r := true) (by decide +kernel), rfl, _, rfl, iteNS rfl ?_⟩
      refine ⟨_, rfl, _, _, rfl, .inl k1, _, rfl, _, _, rfl, .inl k2, rfl, _, rfl, iteNS (congrArg (fun n : Nat => V.int n) hl) ?_⟩
      refine ⟨_, rfl, _, _, rfl, .inl k2, _, rfl, (len_rng hsz).1, (len_rng hsz).2, fun D hD => ?_⟩
      have hnD := (Gr.refl _).new hD (HO.lst [])
      refine lc_range (lo := 0) (Pv := fun _ H' => Gr (upd H p (.tup [.ty "tuple", .ty "list"])) H' ∧ H' D = some (.lst [])) ⟨hnD, upd_same⟩ (fun i H' hi hP => ?_) (fun H' hP => ?_)
      · obtain ⟨s1, d1⟩ := hP
        have hi' : i < ys.length := by
          rw [Int.toNat_natCast] at hi
          exact hi
        obtain ⟨v, u, e1, e2, al⟩ := paired_at hp i hi'
        have e0 : (0 : Int) + (i : Int) = ((i : Nat) : Int) := Int.zero_add _
        refine ⟨rfl, _, rfl, _, rfl, .inl ⟨_, _, _, _, rfl, rfl, s1.seqL k1, at_of e0 e1, ?_⟩⟩
        refine ⟨_, rfl, _, rfl, .inl ⟨_, _, _, _, rfl, rfl, s1.seqL k2, at_of e0 e2, ?_⟩⟩
        exact ⟨_, _, rfl, Alike.gr (g0.trans s1) al, fun H2 s2 => ⟨_, rfl, iteF ⟨s1.trans s2, s2.keep _ _ (fun _ z => nomatch z) d1⟩⟩⟩
      · obtain ⟨s1, d1⟩ := hP
        refine ⟨szL0, fun p2 hp2 => ?_⟩
        have s2 := (Gr.refl _).new hp2 (HO.lst [])
        exact ⟨.list [], .list [], .lst (SqL.of (s2.keep _ _ (fun _ z => nomatch z) d1)) .nil, .lst (SqL.of upd_same) .nil, by decide, by decide, qt (by decide +kernel) (q _ ((g0.trans s1).trans s2))⟩
theorem same_all {f : Addr} {fd : FuncData} (F : Fun K "_law_same" "_law_same" s__law_same f fd) (B : Blt mg) (bF : Binds K fd ["found", "due"] []) (mF : mg "_law_same" = some (.ref f)) : ∀ n : Nat, FnOk P w K mg base CX0 n f fd ["found", "due"] (spSame K n)
  | 0 => by
    have no : ∀ vs H Q E, ¬ spSame K 0 vs H Q E := fun vs H Q E h => by
      obtain ⟨x, y, _, h, _⟩ := h
      exact h
    exact ⟨fun vs H Q E h => absurd h (no vs H Q E), fun A outer s H args us vs Q E _ _ _ _ h => absurd h (no vs H Q E)⟩
  | n + 1 => ok_same F B (same_all F B bF mF n) bF F.kp mF
end
end SB
namespace SB
open PySem L2 GxR GA
/-- the deck as it may stand at d -/
def DeckAt (d : Addr) (H : Hp) : Prop := ∃ a b : Int, H d = some (.lst [.int a, .int b]) ∧ 0 ≤ b ∧ b < 2 ^ 64
theorem DeckAt.gr {d : Addr} {H H' : Hp} (h : DeckAt d H) (g : Gr H H') : DeckAt d H' := let ⟨a, b, e, r⟩ := h; ⟨a, b, g.keep _ _ (fun _ z => nomatch z) e, r⟩
theorem GrD.st {K : PySem.W.Frag} {d : Addr} {H H' : Hp} (g : GrD d H H') (h : DeckAt d H) : Tst K H H' := fun a xs q => by
  obtain ⟨u, v, e, _⟩ := h
  exact g.seqT e q
/-- a deck: a new list of two ints -/
def spDeck (K : PySem.W.Frag) : Sp := fun vs H Q _ => ∃ (l : Addr) (ns : List Int) (k : Int), vs = [.ref l, .int k] ∧ SqL K H l (ns.map V.int) ∧ ns.length ≤ 63 ∧ 0 ≤ k ∧ k < 1000 ∧
  ∀ (p : Addr) (a b : Int), H p = none → 0 ≤ b → b < 2305843009213693951 → Q (.ref p) (upd H p (.lst [.int a, .int b]))
def spTake : Sp := fun vs H Q _ => ∃ (d : Addr) (many : Int), vs = [.ref d, .int many] ∧ DeckAt d H ∧ 1 ≤ many ∧ many.natAbs < 2 ^ 8000 ∧
  ∀ (t : Int) H', 0 ≤ t → t < many → GrD d H H' → DeckAt d H' → Q (.int t) H'
section
variable {P : Program} {w : World} {K : PySem.W.Frag} {mg : Str → Option Value} {base : Heap}
theorem scDeck : FnScope ["script", "at", "cell", "stir"] ["script", "at"] (defScope s__law_deck) := ⟨rfl, rfl, rfl, by decide +kernel, rfl, by decide +kernel, by decide +kernel⟩
theorem modB (x : Int) {m : Int} (h : 0 < m) : 0 ≤ x % m ∧ x % m < m := ⟨Int.emod_nonneg _ (by omega), Int.emod_lt_of_pos _ h⟩
theorem atL {ns : List Int} {k : Int} (h0 : 0 ≤ k) (h : k < (ns.length : Int)) : ∃ z : Int, atI (ns.map V.int) k = some (.int z) := by
  have hk : k.toNat < ns.length := by omega
  have ek : ((k.toNat : Nat) : Int) = k := Int.toNat_of_nonneg h0
  refine ⟨ns[k.toNat], ?_⟩
  have q : atI (ns.map V.int) ((k.toNat : Nat) : Int) = some (.int ns[k.toNat]) := atI_nat (by rw [List.getElem?_map, List.getElem?_eq_getElem hk] <;> rfl)
  rwa [ek] at q
theorem ok_deck {f : Addr} {fd : FuncData} (F : Fun K "_law_deck" "_law_deck" s__law_deck f fd) (ml : mg "len" = none) (mi : mg "int" = none) : FnOk P w K mg base CX0 1 f fd ["script", "at"] (spDeck K) := by
  refine F.ok scDeck (fun vs H Q E h => ?_) (fun cdv A outer s H vs Q E hr h => ?_)
  · obtain ⟨l, ns, k, rfl, _⟩ := h
    rfl
  obtain ⟨l, ns, k, rfl, hS, h63, h0, h1, q⟩ := h
  refine ⟨_, pss_cons (ps_set (i := 2) scDeck.nd rfl (.inl rfl) pe_int)
    (pss_cons (ps_if (pt_cmpR op_lt (pv 1) (pe_callB call_len_seq rfl ml PySem.boot_len (pa_cons (pv 0) pa_nil)) (nomark _)) (pss_one (ps_set (i := 2) scDeck.nd rfl (.inl rfl) (pe_ix ix_list (pv 0) (pv 1) (fun _ _ => rfl)))) pss_nil)
    (pss_cons (ps_set (i := 3) scDeck.nd rfl (.inl rfl) (pe_op op_mod (pe_callTy call_int1 rfl mi PyProof.Rows.boot_int (pa_cons (pe_op op_add (pe_op op_add (pv 2) (pe_op op_mul pe_int (pv 1))) pe_int) pa_nil)) pe_int))
    (pss_cons (ps_set (i := 3) scDeck.nd rfl (.inl rfl) (pe_op op_mod (pe_callTy call_int1 rfl mi PyProof.Rows.boot_int (pa_cons (pe_op op_add (pe_op op_add (pe_op op_mul (pe_op op_mul (pv 3) (pv 3)) (pv 3)) (pe_op op_mul pe_int (pv 1))) pe_int) pa_nil)) pe_int))
    (pss_cons (ps_if (pt_cmpR op_lt (pv 2) (pe_op op_pow pe_int pe_int) (nomark _)) (pss_one (ps_ret (pe_lst (pa_cons pe_int (pa_cons (pv 3) pa_nil))))) pss_nil)
    (pss_one (ps_ret (pe_lst (pa_cons (pe_op op_sub (pv 2) (pe_op op_pow pe_int pe_int)) (pa_cons (pv 3) pa_nil))))))))), ?_⟩
  have hl : (ns.map V.int).length = ns.length := List.length_map _
  refine ⟨_, rfl, _, rfl, l, _, rfl, .inl hS, _, _, rfl, rfl, _, rfl, ?_⟩
  refine ite2 (fun c => ?_) (fun c => ?_)
  · have c' : k < (((ns.map V.int).length : Nat) : Int) := of_decide_eq_true c
    rw [hl] at c'
    obtain ⟨z, hz⟩ := atL h0 c'
    refine ⟨_, rfl, _, rfl, l, _, _, _, rfl, rfl, hS, hz, ?_⟩
    refine ⟨_, rfl, _, rfl, _, _, rfl, rfl, .inl (by decide), _, _, rfl, rfl, _, _, rfl, rfl, .inl ⟨_, rfl, _, _, rfl, rfl, (by show (0 : Int) < 2305843009213693951; decide), ?_⟩⟩
    refine ⟨_, rfl, _, rfl, _, _, rfl, rfl, .inl ⟨by omega, by omega⟩, _, rfl, _, _, rfl, rfl, .inr ⟨by omega, by omega⟩, _, rfl, _, _, rfl, rfl, .inl (by decide), _, _, rfl, rfl, _, _, rfl, rfl, .inl ⟨_, rfl, _, _, rfl, rfl, (by show (0 : Int) < 2305843009213693951; decide), ?_⟩⟩
    refine ⟨_, rfl, _, _, rfl, rfl, ⟨by decide, by decide, by decide⟩, _, _, rfl, rfl, _, rfl, ?_⟩
    refine ite2 (fun c2 => ?_) (fun c2 => ?_)
    · exact ⟨_, rfl, (by show 2 ≤ sizeLine; decide), fun p hp => q p _ _ hp (modB _ (by decide)).1 (modB _ (by decide)).2⟩
    · exact ⟨_, rfl, _, _, rfl, rfl, ⟨by decide, by decide, by decide⟩, _, _, rfl, rfl, _, rfl, (by show 2 ≤ sizeLine; decide), fun p hp => q p _ _ hp (modB _ (by decide)).1 (modB _ (by decide)).2⟩
  · refine ⟨_, rfl, _, rfl, _, _, rfl, rfl, .inl (by decide), _, _, rfl, rfl, _, _, rfl, rfl, .inl ⟨_, rfl, _, _, rfl, rfl, (by show (0 : Int) < 2305843009213693951; decide), ?_⟩⟩
    refine ⟨_, rfl, _, rfl, _, _, rfl, rfl, .inl ⟨by omega, by omega⟩, _, rfl, _, _, rfl, rfl, .inr ⟨by omega, by omega⟩, _, rfl, _, _, rfl, rfl, .inl (by decide), _, _, rfl, rfl, _, _, rfl, rfl, .inl ⟨_, rfl, _, _, rfl, rfl, (by show (0 : Int) < 2305843009213693951; decide), ?_⟩⟩
    refine ⟨_, rfl, _, _, rfl, rfl, ⟨by decide, by decide, by decide⟩, _, _, rfl, rfl, _, rfl, ?_⟩
    refine ite2 (fun c2 => ?_) (fun c2 => ?_)
    · exact ⟨_, rfl, (by show 2 ≤ sizeLine; decide), fun p hp => q p _ _ hp (modB _ (by decide)).1 (modB _ (by decide)).2⟩
    · exact ⟨_, rfl, _, _, rfl, rfl, ⟨by decide, by decide, by decide⟩, _, _, rfl, rfl, _, rfl, (by show 2 ≤ sizeLine; decide), fun p hp => q p _ _ hp (modB _ (by decide)).1 (modB _ (by decide)).2⟩
theorem scTake : FnScope ["deck", "many", "taken"] ["deck", "many"] (defScope s__law_take) := ⟨rfl, rfl, rfl, by decide +kernel, rfl, by decide +kernel, by decide +kernel⟩
theorem ok_take {f : Addr} {fd : FuncData} (F : Fun K "_law_take" "_law_take" s__law_take f fd) (mi : mg "int" = none) : FnOk P w K mg base CX0 1 f fd ["deck", "many"] spTake := by
  refine F.ok scTake (fun vs H Q E h => ?_) (fun cdv A outer s H vs Q E hr h => ?_)
  · obtain ⟨d, m, rfl, _⟩ := h
    rfl
  obtain ⟨d, m, rfl, ⟨a, b, hd, hb0, hb1⟩, m1, mb, q2⟩ := h
  have q : ∀ t a' b' : Int, 0 ≤ t → t < m → 0 ≤ b' → b' < 2 ^ 64 → Q (.int t) (upd H d (.lst [.int a', .int b'])) := fun t a' b' t0 t1 h0 h1 => q2 t _ t0 t1 ((GrD.refl d H).set _) ⟨a', b', upd_same, h0, h1⟩
  have hdL : SqL K H d [.int a, .int b] := SqL.of hd
  refine ⟨_, pss_cons (ps_if (pt_cmpR op_gt (pe_ix ix_list (pv 0) pe_int (fun _ _ => rfl)) pe_int (nomark _))
      (pss_cons (ps_set (i := 2) scTake.nd rfl (.inl rfl) (pe_op op_mod (pe_callTy call_int1 rfl mi PyProof.Rows.boot_int (pa_cons (pe_ix ix_list (pv 0) pe_int (fun _ _ => rfl)) pa_nil)) (pv 1)))
      (pss_cons (ps_asg (pe_op op_fdivW (pe_ix ix_list (pv 0) pe_int (fun _ _ => rfl)) (pv 1)) (pg_sub (pv 0) pe_int set_list))
      (pss_one (ps_ret (pv 2))))) pss_nil)
    (pss_cons (ps_asg (pe_op op_mod (pe_callTy call_int1 rfl mi PyProof.Rows.boot_int (pa_cons (pe_op op_add (pe_op op_mulW (pe_ix ix_list (pv 0) pe_int (fun _ _ => rfl)) pe_int) pe_int) pa_nil)) (pe_op op_pow pe_int pe_int)) (pg_sub (pv 0) pe_int set_list))
    (pss_one (ps_ret (pe_op op_mod (pe_op op_fdivW (pe_ix ix_list (pv 0) pe_int (fun _ _ => rfl)) (pe_op op_pow pe_int pe_int)) (pv 1))))), ?_⟩
  have mw : CDivW 0 m := wide_div (b := 8000) (by omega) mb (by decide) (by decide)
  refine ⟨_, rfl, d, _, _, _, rfl, rfl, hdL, rfl, _, _, rfl, rfl, _, rfl, ?_⟩
  refine ite2 (fun c => ?_) (fun c => ?_)
  · refine ⟨_, rfl, d, _, _, _, rfl, rfl, hdL, rfl, .inl ⟨_, rfl, _, rfl, _, _, rfl, rfl, (by show (0 : Int) < m; omega), ?_⟩⟩
    refine ⟨_, rfl, d, _, _, _, rfl, rfl, hdL, rfl, _, rfl, _, _, rfl, rfl, mw, ?_⟩
    refine ⟨_, rfl, d, _, _, _, rfl, rfl, hd, rfl, _, rfl, ?_⟩
    obtain ⟨t0, t1⟩ := modB a (m := m) (by omega)
    exact q _ _ _ t0 t1 hb0 hb1
  · refine ⟨_, rfl, d, _, _, _, rfl, rfl, hdL, rfl, _, _, rfl, rfl, wide_mul (a := 65) (b := 65) (by omega) (by decide) (by decide) (by decide) (by decide), _, _, rfl, rfl, .inl ⟨_, rfl, ?_⟩⟩
    refine ⟨_, _, rfl, rfl, ⟨by decide, by decide, by decide⟩, _, _, rfl, rfl, (by show (0 : Int) < 2 ^ 64; decide), ?_⟩
    refine ⟨_, rfl, d, _, _, _, rfl, rfl, hd, rfl, ?_⟩
    refine ⟨_, rfl, d, _, _, _, rfl, rfl, SqL.of upd_same, rfl, _, _, rfl, rfl, ⟨by decide, by decide, by decide⟩, _, _, rfl, rfl, wide_div (b := 34) (by decide) (by decide) (by decide) (by decide), _, rfl, _, _, rfl, rfl, (by show (0 : Int) < m; omega), ?_⟩
    exact q _ _ _ (modB _ (by omega)).1 (modB _ (by omega)).2 (modB _ (by decide)).1 (modB _ (by decide)).2
end
section
variable {P : Program} {w : World} {K : PySem.W.Frag} {mg : Str → Option Value} {base : Heap}
theorem cl_deck (D : Df K mg "_law_deck" s__law_deck) (B : Blt mg) : Cl P w K mg base 1 "_law_deck" ["script", "at"] (spDeck K) :=
  D.cl (fun _ _ _ _ _ _ us hl => match us, hl with | [_, _], _ => rfl) fun f fd F => ok_deck F B.len B.int
theorem cl_take (D : Df K mg "_law_take" s__law_take) (B : Blt mg) : Cl P w K mg base 1 "_law_take" ["deck", "many"] spTake :=
  D.cl (fun _ _ _ _ _ _ us hl => match us, hl with | [_, _], _ => rfl) fun f fd F => ok_take F B.int
theorem cl_same (D : Df K mg "_law_same" s__law_same) (B : Blt mg) (n : Nat) : Cl P w K mg base n "_law_same" ["found", "due"] (spSame K n) := by
  obtain ⟨f, fd, F, m⟩ := D.ex
  have bF : Binds K fd ["found", "due"] [] := F.binds fun _ _ _ _ _ _ us hl => match us, hl with | [_, _], _ => rfl
  obtain ⟨oc, od, kV, doc, pm, an, cdv, ct, osl, e, lk, hcd⟩ := F.ex
  exact ⟨⟨f, fd, same_all F B bF m n, m, F.kp, bF⟩, fun g hg => by
    rw [m] at hg
    cases hg
    exact ⟨fd, same_all F B bF m n, oc, od, osl, lk⟩⟩
end
end SB
namespace SB
open PySem L2 GxR GA
section
variable {P : Program} {w : World} {K : PySem.W.Frag} {mg : Str → Option Value} {base : Heap}
def spGcd : Sp := fun vs H Q _ => ∃ u v : Nat, vs = [.int (u : Int), .int (v : Int)] ∧ Q (.int ((Nat.gcd u v : Nat) : Int)) H
theorem sc_gcd : FnScope ["u", "v"] ["u", "v"] (defScope s__law_gcd) := ⟨rfl, rfl, rfl, by decide +kernel, rfl, by decide +kernel, by decide +kernel⟩
theorem cl_gcd (D : Df K mg "_law_gcd" s__law_gcd) (B : Blt mg) : Cl P w K mg base 1 "_law_gcd" ["u", "v"] spGcd := by
  refine D.cl (fun _ _ _ _ _ _ us hl => match us, hl with | [_, _], _ => rfl) fun f fd F => F.ok sc_gcd (fun vs H Q E h => ?_) (fun cdv A outer s H vs Q E hr h => ?_)
  · obtain ⟨u, v, rfl, _⟩ := h
    rfl
  obtain ⟨u, v, rfl, q⟩ := h
  refine ⟨_, pss_cons (ps_while PassesOwn.never (pt_cmpR op_ne (pv 1) pe_int (nomark _)) (pss_one (ps_par (i := 0) (j := 1) rfl sc_gcd.nd rfl rfl (by decide) rfl rfl (pa_cons (pv 1) (pa_cons (pe_op op_mod (pe_callTy call_int1 rfl B.int PyProof.Rows.boot_int (pa_cons (pv 0) pa_nil)) (pv 1)) pa_nil)) rfl))) (pss_one (ps_ret (pv 0))), ?_⟩
  refine ⟨fun m σ H1 => ∃ x y : Nat, σ = [some (.int (x : Int)), some (.int (y : Int))] ∧ H1 = H ∧ m = y ∧ Nat.gcd x y = Nat.gcd u v, ⟨v, u, v, rfl, rfl, rfl, rfl⟩, fun m σ H1 hw => ?_⟩
  obtain ⟨x, y, rfl, rfl, rfl, hg⟩ := hw
  refine ⟨_, rfl, rfl, _, rfl, ?_⟩
  by_cases hy : m = 0
  · subst hy
    rw [Nat.gcd_zero_right] at hg
    rw [← hg] at q
    exact iteNS rfl ⟨_, rfl, q⟩
  · have hne : V.int ((m : Nat) : Int) ≠ V.int 0 := fun z => hy (by injection z with z; omega)
    rw [decide_eq_false hne]
    refine iteT ⟨fun σ H' => ∃ m', m' < m ∧ ∃ x y : Nat, σ = [some (.int (x : Int)), some (.int (y : Int))] ∧ H' = H1 ∧ m' = y ∧ Nat.gcd x y = Nat.gcd u v, fun σ' H' h => h, ?_⟩
    refine ⟨_, rfl, _, rfl, .inl ⟨_, rfl, _, rfl, _, _, rfl, rfl, by omega, _, _, rfl, x % m, Nat.mod_lt _ (by omega), m, x % m, ?_, rfl, rfl, ?_⟩⟩
    · simp
    · rw [← hg, Nat.gcd_comm x m, Nat.gcd_rec m x, Nat.gcd_comm]
def spPair (K : PySem.W.Frag) : Sp := fun vs H Q _ => ∃ t b : Int, vs = [.int t, .int b] ∧ b ≠ 0 ∧ Wd 310000 (t, b) ∧ ∀ v r H', Gr H H' → NuV K H' v r → Lo r → Eqr r t b → r.1.natAbs ≤ t.natAbs → r.2.natAbs ≤ b.natAbs → Q v H'
theorem sc_pair : FnScope ["upper", "lower", "common"] ["upper", "lower"] (defScope s__law_pair) := ⟨rfl, rfl, rfl, by decide +kernel, rfl, by decide +kernel, by decide +kernel⟩
theorem cl_pair (D : Df K mg "_law_pair" s__law_pair) (B : Blt mg) (NS : NSK P K) (CG : Cl P w K mg base 1 "_law_gcd" ["u", "v"] spGcd) : Cl P w K mg base 34 "_law_pair" ["upper", "lower"] (spPair K) := by
  refine D.cl (fun _ _ _ _ _ _ us hl => match us, hl with | [_, _], _ => rfl) fun f fd F => F.ok sc_pair (fun vs H Q E h => ?_) (fun cdv A outer s H vs Q E hr h => ?_)
  · obtain ⟨t, b, rfl, _⟩ := h
    rfl
  obtain ⟨t, b, rfl, hb, ⟨h1, h2⟩, q⟩ := h
  refine ⟨_, pss_cons (ps_set (i := 2) sc_pair.nd rfl (.inl rfl) (pe_cl CG (hr.mono (by decide)) (pa_cons (pe_callB call_abs rfl B.abs PyProof.Rows.boot_abs (pa_cons (pv 0) pa_nil)) (pa_cons (pe_callB call_abs rfl B.abs PyProof.Rows.boot_abs (pa_cons (pv 1) pa_nil)) pa_nil))))
    (pss_cons (ps_if (pt_cmpR op_lt (pv 1) pe_int (nomark _)) (pss_one (ps_set (i := 2) sc_pair.nd rfl (.inl rfl) (pe_un un_neg (pv 2)))) pss_nil)
    (pss_one (ps_ret (pe_tup (pa_cons (pe_op (op_fdivP NS (Room.far hr) rfl rfl rfl rfl rfl) (pv 0) (pv 2)) (pa_cons (pe_op (op_fdivP NS (Room.far hr) rfl rfl rfl rfl rfl) (pv 1) (pv 2)) pa_nil)))))), ?_⟩
  have fin : ∀ c : Int, c = (if b < 0 then -((Nat.gcd t.natAbs b.natAbs : Nat) : Int) else ((Nat.gcd t.natAbs b.natAbs : Nat) : Int)) → ∀ p, H p = none → c ≠ 0 ∧ Q (.ref p) (upd H p (.tup [.int (t.fdiv c), .int (b.fdiv c)])) := fun c hc p hp => by
    obtain ⟨e1, e2, e3, e4, e5, e6⟩ := pair_ok (up := t) hb _ c rfl hc
    refine ⟨e5, ?_⟩
    exact q _ _ _ ((Gr.refl H).new hp _) ⟨p, rfl, SqT.of upd_same⟩ e1 e2 e3 e4
  have ok : ∀ c : Int, c = (if b < 0 then -((Nat.gcd t.natAbs b.natAbs : Nat) : Int) else ((Nat.gcd t.natAbs b.natAbs : Nat) : Int)) → c ≠ 0 := fun c hc => by
    obtain ⟨e1, e2, e3, e4, e5, e6⟩ := pair_ok (up := t) hb _ c rfl hc
    exact e5
  refine ⟨_, rfl, _, rfl, _, rfl, _, rfl, t.natAbs, b.natAbs, by rw [abs_nat, abs_nat]; rfl, ?_⟩
  refine ⟨_, rfl, _, _, rfl, rfl, _, rfl, ?_⟩
  by_cases hn : b < 0
  · refine iteP hn ⟨_, rfl, _, rfl, ?_⟩
    have ec : (-((Nat.gcd t.natAbs b.natAbs : Nat) : Int)) = (if b < 0 then -((Nat.gcd t.natAbs b.natAbs : Nat) : Int) else ((Nat.gcd t.natAbs b.natAbs : Nat) : Int)) := by rw [if_pos hn]
    exact ⟨_, rfl, _, rfl, _, _, rfl, rfl, ok _ ec, _, rfl, _, rfl, _, _, rfl, rfl, ok _ ec, szN (by show 2 ≤ 1000000; decide), fun p hp => (fin _ ec p hp).2⟩
  · refine iteN hn ?_
    have ec : ((Nat.gcd t.natAbs b.natAbs : Nat) : Int) = (if b < 0 then -((Nat.gcd t.natAbs b.natAbs : Nat) : Int) else ((Nat.gcd t.natAbs b.natAbs : Nat) : Int)) := by rw [if_neg hn]
    exact ⟨_, rfl, _, rfl, _, _, rfl, rfl, ok _ ec, _, rfl, _, rfl, _, _, rfl, rfl, ok _ ec, szN (by show 2 ≤ 1000000; decide), fun p hp => (fin _ ec p hp).2⟩
theorem sc_lplus : FnScope ["u", "v"] ["u", "v"] (defScope s__law_plus) := ⟨rfl, rfl, rfl, by decide +kernel, rfl, by decide +kernel, by decide +kernel⟩
theorem cl_lplus (D : Df K mg "_law_plus" s__law_plus) (CL : Cl P w K mg base 34 "_law_pair" ["upper", "lower"] (spPair K)) : Cl P w K mg base 35 "_law_plus" ["u", "v"] (spBin K fPlus) := by
  refine D.cl (fun _ _ _ _ _ _ us hl => match us, hl with | [_, _], _ => rfl) fun f fd F => F.ok sc_lplus (fun vs H Q E h => ?_) (fun cdv A outer s H vs Q E hr h => ?_)
  · obtain ⟨x, y, p, q, m, n, rfl, _⟩ := h
    rfl
  obtain ⟨x, y, p, q, m, n, rfl, ⟨a, rfl, ha⟩, ⟨b, rfl, hb⟩, p2, q2, wp, wq, mn, hq⟩ := h
  refine ⟨_, pss_one (ps_ret (pe_cl CL (hr.mono (by decide)) (pa_cons (pe_op op_add (pe_op op_mulW (pe_ix ix_tup (pv 0) pe_int (fun _ _ => rfl)) (pe_ix ix_tup (pv 1) pe_int (fun _ _ => rfl))) (pe_op op_mulW (pe_ix ix_tup (pv 1) pe_int (fun _ _ => rfl)) (pe_ix ix_tup (pv 0) pe_int (fun _ _ => rfl))))
    (pa_cons (pe_op op_mulW (pe_ix ix_tup (pv 0) pe_int (fun _ _ => rfl)) (pe_ix ix_tup (pv 1) pe_int (fun _ _ => rfl))) pa_nil)))), ?_⟩
  refine ⟨_, rfl, a, _, _, _, rfl, rfl, ha, rfl, _, rfl, b, _, _, _, rfl, rfl, hb, rfl, _, _, rfl, rfl, cmw wp.1 wq.2 mn, ?_⟩
  refine ⟨_, rfl, b, _, _, _, rfl, rfl, hb, rfl, _, rfl, a, _, _, _, rfl, rfl, ha, rfl, _, _, rfl, rfl, cmw wq.1 wp.2 (by omega), _, _, rfl, rfl, ?_⟩
  refine ⟨_, rfl, a, _, _, _, rfl, rfl, ha, rfl, _, rfl, b, _, _, _, rfl, rfl, hb, rfl, _, _, rfl, rfl, cmw wp.2 wq.2 mn, ?_⟩
  have wf := wd_plus wp wq
  exact ⟨_, _, rfl, Int.ne_of_gt (Int.mul_pos p2 q2), wf.mono (by omega), fun v r H' g nv lo e l1 l2 => hq v r H' g nv lo e (wd_le wf l1 l2)⟩
theorem sc_ltimes : FnScope ["u", "v"] ["u", "v"] (defScope s__law_times) := ⟨rfl, rfl, rfl, by decide +kernel, rfl, by decide +kernel, by decide +kernel⟩
theorem cl_ltimes (D : Df K mg "_law_times" s__law_times) (CL : Cl P w K mg base 34 "_law_pair" ["upper", "lower"] (spPair K)) : Cl P w K mg base 35 "_law_times" ["u", "v"] (spBin K fTimes) := by
  refine D.cl (fun _ _ _ _ _ _ us hl => match us, hl with | [_, _], _ => rfl) fun f fd F => F.ok sc_ltimes (fun vs H Q E h => ?_) (fun cdv A outer s H vs Q E hr h => ?_)
  · obtain ⟨x, y, p, q, m, n, rfl, _⟩ := h
    rfl
  obtain ⟨x, y, p, q, m, n, rfl, ⟨a, rfl, ha⟩, ⟨b, rfl, hb⟩, p2, q2, wp, wq, mn, hq⟩ := h
  refine ⟨_, pss_one (ps_ret (pe_cl CL (hr.mono (by decide)) (pa_cons (pe_op op_mulW (pe_ix ix_tup (pv 0) pe_int (fun _ _ => rfl)) (pe_ix ix_tup (pv 1) pe_int (fun _ _ => rfl)))
    (pa_cons (pe_op op_mulW (pe_ix ix_tup (pv 0) pe_int (fun _ _ => rfl)) (pe_ix ix_tup (pv 1) pe_int (fun _ _ => rfl))) pa_nil)))), ?_⟩
  refine ⟨_, rfl, a, _, _, _, rfl, rfl, ha, rfl, _, rfl, b, _, _, _, rfl, rfl, hb, rfl, _, _, rfl, rfl, cmw wp.1 wq.1 mn, ?_⟩
  refine ⟨_, rfl, a, _, _, _, rfl, rfl, ha, rfl, _, rfl, b, _, _, _, rfl, rfl, hb, rfl, _, _, rfl, rfl, cmw wp.2 wq.2 mn, ?_⟩
  have wf := (wd_times wp wq).mono (Nat.le_succ _)
  exact ⟨_, _, rfl, Int.ne_of_gt (Int.mul_pos p2 q2), wf.mono (by omega), fun v r H' g nv lo e l1 l2 => hq v r H' g nv lo e (wd_le wf l1 l2)⟩
def spTenth : Sp := fun vs H Q _ => ∃ k : Nat, vs = [.int (k : Int)] ∧ k ≤ 64 ∧ Q (.int ((10 : Int) ^ k)) H
end
end SB
namespace ZM
open PySem PySem.Spec L2 RZ
/-- what an iterator over a row of items must do: It, the iterator; Sq, the row -/
structure Runs1 (prog : Program) (w : World) (It : Heap → Addr → Addr → Nat → Prop) (Sq : Heap → Addr → Array Value → Prop) : Prop where
  stay : ∀ {h h' : Heap} {i l b : Addr} {k : Nat}, It h i l k → Heap.ExtBut b h h' → i ≠ b → It h' i l k
  sits : ∀ {h h' : Heap} {l b : Addr} {v : Array Value}, Sq h l v → Heap.ExtBut b h h' → l ≠ b → Sq h' l v
  here : ∀ {h : Heap} {i l : Addr} {k : Nat}, It h i l k → ∃ o, h.get? i = some o ∧ ∀ z, o.data ≠ .cell z
  same : ∀ {h h' : Heap} {i l : Addr} {k : Nat}, It h i l k → (∀ o, h.get? i = some o → h'.get? i = some o) → It h' i l k
  more : ∀ {A : Around} {E : Value → Shared → Prop} {s : Shared} {i l : Addr} {k : Nat} {v : Array Value} {x : Value} {Q : Value → Shared → Prop}, It s.heap i l k → Sq s.heap l v → v[k]? = some x →
    (∀ h', It h' i l (k + 1) → Heap.SameBut i s.heap h' → Q x { s with heap := h' }) → wpAny (model prog w) A (Builtin.SmallTypes.nextOf (.ref i)) Q E s
  ends : ∀ {A : Around} {E : Value → Shared → Prop} {s : Shared} {i l : Addr} {k : Nat} {v : Array Value} {Q : Value → Shared → Prop}, A.handled = none → It s.heap i l k → Sq s.heap l v → v[k]? = none →
    (∀ h' e, Heap.ExtBut i s.heap h' → (∃ o, h'.get? e = some o ∧ o.cls = .type "StopIteration") → E (.ref e) { s with heap := h' }) → wpAny (model prog w) A (Builtin.SmallTypes.nextOf (.ref i)) Q E s
theorem runs_list {prog : Program} {w : World} : Runs1 prog w (fun h i l k => h.IsListIter i l k) (fun h l v => h.IsList l v) :=
  ⟨fun x e n => x.extBut e n, fun x e n => x.extBut e n, fun ⟨o, e, _, d⟩ => ⟨o, e, fun z q => by rw [d] at q; cases q⟩, fun x k => x.at k, fun a b c d => wpAny_nextOf_list_item a b c d, fun hh a b c d => wpAny_nextOf_list_end hh a b c d⟩
theorem runs_tup {prog : Program} {w : World} : Runs1 prog w (fun h i l k => h.IsTupleIter i l k) (fun h l v => h.IsTuple l v) :=
  ⟨fun x e n => x.extBut e n, fun x e n => x.extBut e n, fun ⟨o, e, _, d⟩ => ⟨o, e, fun z q => by rw [d] at q; cases q⟩, fun x k => x.at k, fun a b c d => nextOf_tuple_item a b c d, fun hh a b c d => nextOf_tuple_end hh a b c d⟩
/-- nothing but the zip, its own pair and the two iterators has changed -/
abbrev Kept (z TO i1 i2 : Addr) (h h' : Heap) : Prop := ∀ c o, c ≠ z → c ≠ TO → c ≠ i1 → c ≠ i2 → h.get? c = some o → h'.get? c = some o
section
variable {prog : Program} {w : World} {A : Around} {E : Value → Shared → Prop} {s : Shared} {I1 I2 : Heap → Addr → Addr → Nat → Prop} {S1 S2 : Heap → Addr → Array Value → Prop}
  {z TI TO i1 i2 l1 l2 : Addr} {k1 k2 : Nat} {xs ys : Array Value} {x y a b : Value}
theorem zip_more (r1 : Runs1 prog w I1 S1) (r2 : Runs1 prog w I2 S2) {Q : Value → Shared → Prop} (D : ZipApart z TI TO i1 i2 l1 l2) (hz : IsZip s.heap z TI TO .none) (hTI : IsPair s.heap TI (.ref i1) (.ref i2)) (hTO : IsPair s.heap TO a b)
    (h1 : I1 s.heap i1 l1 k1) (h2 : I2 s.heap i2 l2 k2) (hl1 : S1 s.heap l1 xs) (hl2 : S2 s.heap l2 ys) (hx : xs[k1]? = some x) (hy : ys[k2]? = some y)
    (hQ : ∀ h', IsZip h' z TI TO (rawInt s.heap.objs.size) → IsPair h' TO x y → I1 h' i1 l1 (k1 + 1) → I2 h' i2 l2 (k2 + 1) → IsPair h' s.heap.objs.size x y → h'.objs.size = s.heap.objs.size + 1 → Kept z TO i1 i2 s.heap h' → Q (.ref s.heap.objs.size) { s with heap := h' }) :
    wpAny (model prog w) A (Builtin.«zip.__next__» ⟨[.ref z], []⟩) (fun fin s' => ∃ v, fin = .done (.ret v) ∧ Q v s') E s := by
  show wpAny _ _ (field (.ref z) 2 >>= _) _ _ _
  refine wpAny_bind (wpAny_field hz rfl (x := .bool false) rfl ?_)
  show wpAny _ _ (field (.ref z) 3 >>= _) _ _ _
  refine wpAny_bind (wpAny_field hz rfl (x := .ref TI) rfl (wpAny_bind (wpAny_seqItems hTI rfl ?_)))
  show wpAny _ _ (Builtin.SmallTypes.ownedTupleIsFree (.ref z) >>= _) _ _ _
  unfold Builtin.SmallTypes.ownedTupleIsFree
  refine wpAny_bind (wpAny_bind (wpAny_field hz rfl (x := .none) rfl (wpAny_pure ?_)))
  simp only [if_true]
  refine wpAny_bind (wpAny_rule (wpAny_bind (wpAny_field hz rfl (x := .ref TO) rfl (wpAny_bind (wpAny_setField_rec hz (by simp) fun g1 z1 e1 => ?_)))))
  have z1' : IsZip g1 z TI TO .ellipsis := z1
  refine wpAny_bind ?_
  simp only [List.zipIdx_cons, List.zipIdx_nil, List.forIn_cons, List.forIn_nil]
  refine wpAny_bind (wpAny_bind (wpAny_onRaise ?_))
  show wpAny _ _ (Builtin.SmallTypes.nextOf (.ref i1) >>= _) _ _ _
  refine wpAny_bind (r1.more (r1.stay h1 e1.extBut D.i1z) (r1.sits hl1 e1.extBut D.l1z) hx fun g2 n2 e2 => wpAny_pure ?_)
  have o2 : IsPair g2 TO a b := e2.extBut _ _ D.TOi1 (e1.extBut _ _ D.TOz hTO)
  refine wpAny_bind (wpAny_seqItems o2 rfl (wpAny_bind (wpAny_updateSeq_pair o2 fun g3 o3 e3 => wpAny_bind (wpAny_letGo (wpAny_pure ?_)))))
  have o3' : IsPair g3 TO x b := o3
  refine wpAny_bind (wpAny_bind (wpAny_onRaise ?_))
  show wpAny _ _ (Builtin.SmallTypes.nextOf (.ref i2) >>= _) _ _ _
  refine wpAny_bind (r2.more (r2.stay (r2.stay (r2.stay h2 e1.extBut D.i2z) e2.extBut D.i12.symm) e3.extBut D.TOi2.symm) (r2.sits (r2.sits (r2.sits hl2 e1.extBut D.l2z) e2.extBut D.l2i1) e3.extBut D.l2TO) hy fun g4 n4 e4 => wpAny_pure ?_)
  have o4 : IsPair g4 TO x b := e4.extBut _ _ D.TOi2 o3'
  refine wpAny_bind (wpAny_seqItems o4 rfl (wpAny_bind (wpAny_updateSeq_pair o4 fun g5 o5 e5 => wpAny_bind (wpAny_letGo (wpAny_pure (wpAny_pure ?_))))))
  have o5' : IsPair g5 TO x y := o5
  refine wpAny_bind (wpAny_seqItems o5' rfl (wpAny_bind (wpAny_newTuple ?_)))
  have sz : g5.objs.size = s.heap.objs.size := by rw [e5.1, e4.1, e3.1, e2.1, e1.1]
  have z5 : IsZip g5 z TI TO .ellipsis := e5.extBut _ _ D.TOz.symm (e4.extBut _ _ D.i2z.symm (e3.extBut _ _ D.TOz.symm (e2.extBut _ _ D.i1z.symm z1')))
  have kp : Kept z TO i1 i2 s.heap g5 := fun c o c1 c2 c3 c4 e => e5.extBut _ _ c2 (e4.extBut _ _ c4 (e3.extBut _ _ c2 (e2.extBut _ _ c3 (e1.extBut _ _ c1 e))))
  have m1 : I1 g5 i1 l1 (k1 + 1) := r1.stay (r1.stay (r1.stay n2 e3.extBut D.TOi1.symm) e4.extBut D.i12) e5.extBut D.TOi1.symm
  have m2 : I2 g5 i2 l2 (k2 + 1) := r2.stay n4 e5.extBut D.TOi2.symm
  have zl : z < g5.objs.size := Heap.lt_size z5
  show wpAny _ _ (Builtin.SmallTypes.ownedTupleHandOut (.ref z) (.ref g5.objs.size) >>= _) _ _ _
  unfold Builtin.SmallTypes.ownedTupleHandOut
  have z6 : IsZip (g5.push { cls := .type "tuple", data := .seq #[x, y] }) z TI TO .ellipsis := Heap.get?_push_of_some _ z5
  refine wpAny_bind (wpAny_bind (wpAny_setField_rec z6 (by simp) fun g7 z7 e7 => ?_))
  have z7' : IsZip g7 z TI TO (rawInt g5.objs.size) := z7
  refine wpAny_setField_rec z7' (by simp) fun g8 z8 e8 => ?_
  have z8' : IsZip g8 z TI TO (rawInt g5.objs.size) := z8
  have up : ∀ c o, c ≠ z → g5.get? c = some o → g8.get? c = some o := fun c o n e => e8.extBut _ _ n (e7.extBut _ _ n (Heap.get?_push_of_some _ e))
  have pr : IsPair g8 g5.objs.size x y := e8.extBut _ _ (Nat.ne_of_gt zl) (e7.extBut _ _ (Nat.ne_of_gt zl) (Heap.get?_push_size _ rfl))
  have s8 : g8.objs.size = g5.objs.size + 1 := by rw [e8.1, e7.1, Heap.size_push]
  rw [sz] at z8' pr s8
  refine wpAny_pure ⟨_, rfl, ?_⟩
  show Q (.ref g5.objs.size) _
  rw [sz]
  exact hQ g8 z8' (up _ _ D.TOz o5') (r1.same m1 fun o e => up _ o D.i1z e) (r2.same m2 fun o e => up _ o D.i2z e) pr s8 fun c o c1 c2 c3 c4 e => up c o c1 (kp c o c1 c2 c3 c4 e)
theorem zip_ends (r1 : Runs1 prog w I1 S1) (r2 : Runs1 prog w I2 S2) {Q : Fin → Shared → Prop} (hh : A.handled = none) (D : ZipApart z TI TO i1 i2 l1 l2) (hz : IsZip s.heap z TI TO .none) (hTI : IsPair s.heap TI (.ref i1) (.ref i2)) (hTO : IsPair s.heap TO a b)
    (h1 : I1 s.heap i1 l1 k1) (h2 : I2 s.heap i2 l2 k2) (hl1 : S1 s.heap l1 xs) (hl2 : S2 s.heap l2 ys) (hend : xs[k1]? = none ∨ ys[k2]? = none)
    (hE : ∀ h' e, Kept z TO i1 i2 s.heap h' → (∃ o, h'.get? e = some o ∧ o.cls = .type "StopIteration") → E (.ref e) { s with heap := h' }) : wpAny (model prog w) A (Builtin.«zip.__next__» ⟨[.ref z], []⟩) Q E s := by
  show wpAny _ _ (field (.ref z) 2 >>= _) _ _ _
  refine wpAny_bind (wpAny_field hz rfl (x := .bool false) rfl ?_)
  show wpAny _ _ (field (.ref z) 3 >>= _) _ _ _
  refine wpAny_bind (wpAny_field hz rfl (x := .ref TI) rfl (wpAny_bind (wpAny_seqItems hTI rfl ?_)))
  show wpAny _ _ (Builtin.SmallTypes.ownedTupleIsFree (.ref z) >>= _) _ _ _
  unfold Builtin.SmallTypes.ownedTupleIsFree
  refine wpAny_bind (wpAny_bind (wpAny_field hz rfl (x := .none) rfl (wpAny_pure ?_)))
  simp only [if_true]
  refine wpAny_bind (wpAny_rule (wpAny_bind (wpAny_field hz rfl (x := .ref TO) rfl (wpAny_bind (wpAny_setField_rec hz (by simp) fun g1 z1 e1 => ?_)))))
  have z1' : IsZip g1 z TI TO .ellipsis := z1
  have noz : ∀ {g : Heap} {e : Addr} {o : Obj}, IsZip g z TI TO .ellipsis → g.get? e = some o → o.cls = .type "StopIteration" → e ≠ z := fun {g e o} hg ho hc q => by
    rw [q, hg] at ho
    cases ho
    simp at hc
  refine wpAny_bind ?_
  simp only [List.zipIdx_cons, List.zipIdx_nil, List.forIn_cons, List.forIn_nil]
  refine wpAny_bind (wpAny_bind (wpAny_onRaise ?_))
  show wpAny _ _ (Builtin.SmallTypes.nextOf (.ref i1) >>= _) _ _ _
  cases hx : xs[k1]? with
  | none =>
    refine wpAny_bind (r1.ends hh (r1.stay h1 e1.extBut D.i1z) (r1.sits hl1 e1.extBut D.l1z) hx fun g2 e e2 ⟨oe, ho, hc⟩ => ?_)
    have z2 : IsZip g2 z TI TO .ellipsis := e2 _ _ D.i1z.symm z1'
    exact wpAny_setField_rec z2 (by simp) fun g3 _ e3 => hE g3 e (fun c o c1 _ c3 _ q => e3.extBut _ _ c1 (e2 _ _ c3 (e1.extBut _ _ c1 q))) ⟨oe, e3.extBut _ _ (noz z2 ho hc) ho, hc⟩
  | some x =>
    have hy : ys[k2]? = none := hend.elim (fun q => by rw [hx] at q; cases q) id
    refine wpAny_bind (r1.more (r1.stay h1 e1.extBut D.i1z) (r1.sits hl1 e1.extBut D.l1z) hx fun g2 n2 e2 => wpAny_pure ?_)
    have o2 : IsPair g2 TO a b := e2.extBut _ _ D.TOi1 (e1.extBut _ _ D.TOz hTO)
    refine wpAny_bind (wpAny_seqItems o2 rfl (wpAny_bind (wpAny_updateSeq_pair o2 fun g3 o3 e3 => wpAny_bind (wpAny_letGo (wpAny_pure ?_)))))
    refine wpAny_bind (wpAny_bind (wpAny_onRaise ?_))
    show wpAny _ _ (Builtin.SmallTypes.nextOf (.ref i2) >>= _) _ _ _
    refine wpAny_bind (r2.ends hh (r2.stay (r2.stay (r2.stay h2 e1.extBut D.i2z) e2.extBut D.i12.symm) e3.extBut D.TOi2.symm) (r2.sits (r2.sits (r2.sits hl2 e1.extBut D.l2z) e2.extBut D.l2i1) e3.extBut D.l2TO) hy fun g4 e e4 ⟨oe, ho, hc⟩ => ?_)
    have z4 : IsZip g4 z TI TO .ellipsis := e4 _ _ D.i2z.symm (e3.extBut _ _ D.TOz.symm (e2.extBut _ _ D.i1z.symm z1'))
    exact wpAny_setField_rec z4 (by simp) fun g5 _ e5 => hE g5 e (fun c o c1 c2 c3 c4 q => e5.extBut _ _ c1 (e4 _ _ c4 (e3.extBut _ _ c2 (e2.extBut _ _ c3 (e1.extBut _ _ c1 q))))) ⟨oe, e5.extBut _ _ (noz z4 ho hc) ho, hc⟩
end
end ZM
namespace ZM
open PySem PySem.Spec L2 RZ
section
variable {prog : Program} {w : World} {A : Around} {E : Value → Shared → Prop} {s : Shared} {z TI TO i1 i2 l1 l2 : Addr} {k1 k2 : Nat} {xs ys : Array Value} {x y a b : Value}
/-- the zip's next, a tuple beside a list -/
theorem next_more {Q : Option Value → Shared → Prop} (D : ZipApart z TI TO i1 i2 l1 l2) (hz : IsZip s.heap z TI TO .none) (hTI : IsPair s.heap TI (.ref i1) (.ref i2)) (hTO : IsPair s.heap TO a b)
    (h1 : s.heap.IsTupleIter i1 l1 k1) (h2 : s.heap.IsListIter i2 l2 k2) (hl1 : s.heap.IsTuple l1 xs) (hl2 : s.heap.IsList l2 ys) (hx : xs[k1]? = some x) (hy : ys[k2]? = some y)
    (hQ : ∀ h', IsZip h' z TI TO (rawInt s.heap.objs.size) → IsPair h' TO x y → h'.IsTupleIter i1 l1 (k1 + 1) → h'.IsListIter i2 l2 (k2 + 1) → IsPair h' s.heap.objs.size x y → Kept z TO i1 i2 s.heap h' → Q (some (.ref s.heap.objs.size)) { s with heap := h' }) :
    wpAny (model prog w) A (pyNext (.ref z)) Q E s := by
  have hT : s.TypeIs (.ref z) "zip" := ⟨_, hz, rfl⟩
  unfold pyNext
  refine wpAny_bind (wpAny_attempt (wpAny_callSpecial?_slot (name := Str.ofString "__next__") hT F.slot_zip_next (wpAny_call_entry F.slot_zip_next hT F.entry_zip_next ?_ (F.args_zip_next_1 _))))
  exact zip_more runs_tup runs_list D hz hTI hTO h1 h2 hl1 hl2 hx hy fun h' a1 a2 a3 a4 a5 _ a7 => wpAny_pure (hQ h' a1 a2 a3 a4 a5 a7)
theorem next_ends {Q : Option Value → Shared → Prop} (hh : A.handled = none) (D : ZipApart z TI TO i1 i2 l1 l2) (hz : IsZip s.heap z TI TO .none) (hTI : IsPair s.heap TI (.ref i1) (.ref i2)) (hTO : IsPair s.heap TO a b)
    (h1 : s.heap.IsTupleIter i1 l1 k1) (h2 : s.heap.IsListIter i2 l2 k2) (hl1 : s.heap.IsTuple l1 xs) (hl2 : s.heap.IsList l2 ys) (hend : xs[k1]? = none ∨ ys[k2]? = none)
    (hQ : ∀ h', Kept z TO i1 i2 s.heap h' → Q none { s with heap := h' }) : wpAny (model prog w) A (pyNext (.ref z)) Q E s := by
  have hT : s.TypeIs (.ref z) "zip" := ⟨_, hz, rfl⟩
  unfold pyNext
  refine wpAny_bind (wpAny_attempt (wpAny_callSpecial?_slot (name := Str.ofString "__next__") hT F.slot_zip_next (wpAny_call_entry F.slot_zip_next hT F.entry_zip_next ?_ (F.args_zip_next_1 _))))
  refine zip_ends runs_tup runs_list hh D hz hTI hTO h1 h2 hl1 hl2 hend fun h' e hk ⟨o, ho, hc⟩ => ?_
  exact wpAny_bind (wpAny_isInstance (T := "StopIteration") (b := true) ⟨o, ho, hc⟩ isSubtype_stop (wpAny_pure (hQ _ hk)))
end
abbrev mH1 (h : Heap) (a : Addr) : Heap := h.push { cls := .type "tuple_iterator", data := .fields #[.ref a, .int 0 0] }
abbrev mH2 (h : Heap) (a b : Addr) : Heap := (mH1 h a).push { cls := .type "list_iterator", data := .fields #[.ref b, .int 0 0] }
abbrev mH3 (h : Heap) (a b : Addr) : Heap := (mH2 h a b).push { cls := .type "tuple", data := .seq #[.ref h.objs.size, .ref (mH1 h a).objs.size] }
abbrev mH4 (h : Heap) (a b : Addr) : Heap := (mH3 h a b).push { cls := .type "tuple", data := .seq #[.none, .none] }
abbrev mH5 (h : Heap) (a b : Addr) : Heap := (mH4 h a b).push { cls := .type "zip", data := .fields #[.none, .bool false, .bool false, .ref (mH2 h a b).objs.size, .ref (mH3 h a b).objs.size] }
theorem meets_mixed (a b : Addr) (xs ys : Array Value) :
    Meets (Builtin.«zip.__new__» ⟨[.type "zip", .ref a, .ref b], []⟩) (fun _ R s => s.heap.IsTuple a xs ∧ s.heap.IsList b ys ∧ R (.ok (.ret (.ref (mH4 s.heap a b).objs.size))) { s with heap := mH5 s.heap a b }) :=
  .of_wp fun prog w A R s h => by
    obtain ⟨hp, g, d, tk, os⟩ := s
    obtain ⟨q1, q2, h⟩ := h
    have hsub := sub_zip
    have r1 : Heap.IsTuple (Shared.heap ⟨hp, g, d, tk, os⟩) a xs := q1
    have r2 : Heap.IsList (Shared.heap ⟨hp.push { cls := .type "tuple_iterator", data := .fields #[.ref a, .int 0 0] }, g, d, tk, os⟩) b ys := Heap.IsList.push q2 _
    wp_walk using wpAny_pyIter_tuple r1, wpAny_pyIter_list r2
    exact ⟨_, rfl, h⟩
theorem call_mixed {prog : Program} {w : World} {A : Around} {E : Value → Shared → Prop} {s : Shared} {a b : Addr} {xs ys : Array Value} {Q : Value → Shared → Prop} (ha : s.heap.IsTuple a xs) (hb : s.heap.IsList b ys)
    (h : ∀ h', IsZip h' (s.heap.objs.size + 4) (s.heap.objs.size + 2) (s.heap.objs.size + 3) .none → IsPair h' (s.heap.objs.size + 2) (.ref s.heap.objs.size) (.ref (s.heap.objs.size + 1)) → IsPair h' (s.heap.objs.size + 3) .none .none →
      h'.IsTupleIter s.heap.objs.size a 0 → h'.IsListIter (s.heap.objs.size + 1) b 0 → (∀ c o, s.heap.get? c = some o → h'.get? c = some o) → Q (.ref (s.heap.objs.size + 4)) { s with heap := h' }) :
    wpAny (model prog w) A (call (.type "zip") [.ref a, .ref b]) Q E s := by
  refine callType_new F.called_zip (by decide) (F.typeCall_zip_2 _ _) (F.newCall_zip_2 _ _) (fun obj => F.args_object_init_3 obj _ _) F.entry_zip_new (meets_mixed a b xs ys) ⟨ha, hb, ?_⟩
  have n1 : (mH1 s.heap a).objs.size = s.heap.objs.size + 1 := Heap.size_push ..
  have n2 : (mH2 s.heap a b).objs.size = s.heap.objs.size + 2 := by rw [Heap.size_push, n1]
  have n3 : (mH3 s.heap a b).objs.size = s.heap.objs.size + 3 := by rw [Heap.size_push, n2]
  have n4 : (mH4 s.heap a b).objs.size = s.heap.objs.size + 4 := by rw [Heap.size_push, n3]
  have up : ∀ {h : Heap} {c : Addr} {o : Obj} (u : Obj), h.get? c = some o → (h.push u).get? c = some o := fun u e => Heap.get?_push_of_some _ e
  have p5 : (mH5 s.heap a b).get? (mH4 s.heap a b).objs.size = some _ := Heap.get?_push_size _ rfl
  have p4 : (mH5 s.heap a b).get? (mH3 s.heap a b).objs.size = some _ := up _ (Heap.get?_push_size _ rfl)
  have p3 : (mH5 s.heap a b).get? (mH2 s.heap a b).objs.size = some _ := up _ (up _ (Heap.get?_push_size _ rfl))
  have p2 : (mH5 s.heap a b).get? (mH1 s.heap a).objs.size = some _ := up _ (up _ (up _ (Heap.get?_push_size _ rfl)))
  have p1 : (mH5 s.heap a b).get? s.heap.objs.size = some _ := up _ (up _ (up _ (up _ (Heap.get?_push_size _ rfl))))
  show _ ∧ _
  rw [n2, n3, n4] at p5
  rw [n1, n2] at p3
  rw [n3] at p4
  rw [n1] at p2
  rw [n4]
  exact ⟨⟨_, p5, rfl⟩, h _ p5 p3 p4 ⟨_, p1, rfl, rfl⟩ ⟨_, p2, rfl, rfl⟩ fun c o e => up _ (up _ (up _ (up _ (up _ e))))⟩
/-- a tuple and a list, side by side -/
def ItzM (K : PySem.W.Frag) (a b : Addr) : It where
  go := fun i H => ∃ (xs ys : List V) (x y : V), SqT K H a xs ∧ SqL K H b ys ∧ xs[i]? = some x ∧ ys[i]? = some y
  yld := fun i H v H' => ∃ T x y, v = .ref T ∧ H T = none ∧ H' = upd H T (.tup [x, y]) ∧ (∀ xs, SqT K H a xs → xs[i]? = some x) ∧ ∀ ys, SqL K H b ys → ys[i]? = some y
  stop := fun i H => ∃ xs ys : List V, SqT K H a xs ∧ SqL K H b ys ∧ (xs.length ≤ i ∨ ys.length ≤ i)
theorem five {c z TI TO i1 i2 : Addr} (h : c ∈ [z, TI, TO, i1, i2]) : c = z ∨ c = TI ∨ c = TO ∨ c = i1 ∨ c = i2 := by simpa using h
theorem turn_mixed {P : Program} {w : World} {K : PySem.W.Frag} {elts : List Expr} {kk : Nat} {tpos : Pos} {a b z TI TO i1 i2 : Addr} (D : ZipApart z TI TO i1 i2 a b) :
    Turn P w K (.Tuple elts kk tpos) (ItzM K a b) [z, TI, TO, i1, i2] z (fun i h => IsZip h z TI TO .none ∧ IsPair h TI (.ref i1) (.ref i2) ∧ (∃ x y, IsPair h TO x y) ∧ h.IsTupleIter i1 a i ∧ h.IsListIter i2 b i) := by
  refine ⟨by simp, fun i h st c hc => ?_, fun i h h' st k => ?_, fun X hP hw hK hc i pins s σ H E I hf st hg => ?_, fun X hP hw hK hc i pins s σ H E I hf st hg => ?_, fun A i s Q E st h => wpAny_pyIter_zip st.1 h⟩
  · obtain ⟨q1, q2, ⟨x, y, q3⟩, ⟨o1, e1, _, d1⟩, ⟨o2, e2, _, d2⟩⟩ := st
    rcases five hc with q | q | q | q | q <;> subst q
    · exact ⟨_, q1, fun v r => nomatch r⟩
    · exact ⟨_, q2, fun v r => nomatch r⟩
    · exact ⟨_, q3, fun v r => nomatch r⟩
    · exact ⟨o1, e1, fun v r => by rw [d1] at r; cases r⟩
    · exact ⟨o2, e2, fun v r => by rw [d2] at r; cases r⟩
  · obtain ⟨q1, q2, ⟨x, y, q3⟩, q4, q5⟩ := st
    exact ⟨k z (by simp) _ q1, k TI (by simp) _ q2, ⟨x, y, k TO (by simp) _ q3⟩, q4.at fun o q => k i1 (by simp) o q, q5.at fun o q => k i2 (by simp) o q⟩
  · subst hP hw hK
    obtain ⟨q1, q2, ⟨x0, y0, q3⟩, q4, q5⟩ := st
    obtain ⟨xs, ys, x, y, sx, sy, hx, hy⟩ := hg
    obtain ⟨its, rv, p, _⟩ := I.tuple sx
    obtain ⟨its2, rv2, p2, _⟩ := I.list sy
    obtain ⟨u, hu, ru⟩ := rv.get hx
    obtain ⟨u2, hu2, ru2⟩ := rv2.get hy
    have zl : z < s.heap.objs.size := Heap.lt_size q1
    have tp : s.heap.IsTuple a its.toArray := p
    refine next_more D q1 q2 q3 q4 q5 tp p2.isList (x := u) (y := u2) (by simpa using hu) (by simpa using hu2) fun h' z' TO' n1 n2 pr kp => ?_
    refine ⟨_, rfl, wpAny_letOwnedTupleGo_zip (s := { s with heap := h' }) z' fun h'' z'' sb => ?_⟩
    have pr2 : h''.get? s.heap.objs.size = some { cls := .type "tuple", data := .seq #[u, u2] } := (sb.2 _ (Nat.ne_of_gt zl)).trans pr
    have new : ObjOk X.prog X.w (upd H s.heap.objs.size (.tup [x, y])) h'' s.heap.objs.size (.tup [x, y]) := ⟨by show 2 ≤ sizeLine; decide, [u, u2], .cons ru (.cons ru2 .nil), ⟨_, pr2, rfl, _, rfl⟩⟩
    have J := I.turnedNew (t' := s.toks) (ch := [z, TI, TO, i1, i2]) (h' := h'') (fun c o hb q => by
      have hb : ¬ (c = z ∨ c = TI ∨ c = TO ∨ c = i1 ∨ c = i2) := fun r => hb (by simpa using r)
      exact (sb.2 c fun r => hb (.inl r)).trans (kp c o (fun r => hb (.inl r)) (fun r => hb (.inr (.inr (.inl r)))) (fun r => hb (.inr (.inr (.inr (.inl r))))) (fun r => hb (.inr (.inr (.inr (.inr r))))) q)) hf (Nat.le_refl _) new
    refine ⟨.ref s.heap.objs.size, _, J, rfl, ⟨_, x, y, rfl, I.hok.fresh (Nat.le_refl _), rfl, fun l hl => by rw [I.tuple_inj hl sx]; exact hx, fun l hl => by rw [I.list_inj hl sy]; exact hy⟩, ⟨z'', (sb.2 _ D.TIz).trans (kp _ _ D.TIz D.TITO D.TIi1 D.TIi2 q2), ⟨u, u2, (sb.2 _ D.TOz).trans TO'⟩,
      n1.at fun o q => (sb.2 _ D.i1z).trans q, n2.at fun o q => (sb.2 _ D.i2z).trans q⟩, fun c hcm => ?_⟩
    have hlt : c < s.heap.objs.size := by
      obtain ⟨_, e1, _⟩ := q4
      obtain ⟨_, e2, _⟩ := q5
      rcases five hcm with q | q | q | q | q <;> subst q
      · exact zl
      · exact Heap.lt_size q2
      · exact Heap.lt_size q3
      · exact Heap.lt_size e1
      · exact Heap.lt_size e2
    rw [upd_ne (Nat.ne_of_lt hlt)]
    exact (hf c hcm).1
  · subst hP hw hK
    obtain ⟨q1, q2, ⟨x0, y0, q3⟩, q4, q5⟩ := st
    obtain ⟨xs, ys, sx, sy, he⟩ := hg
    obtain ⟨its, rv, p, _⟩ := I.tuple sx
    obtain ⟨its2, rv2, p2, _⟩ := I.list sy
    have m1 := rv.length
    have m2 := rv2.length
    have tp : s.heap.IsTuple a its.toArray := p
    have he' : its.toArray[i]? = none ∨ its2.toArray[i]? = none := he.imp (fun q => by simp; omega) fun q => by simp; omega
    refine next_ends (I.ok.hd hc) D q1 q2 q3 q4 q5 tp p2.isList he' fun h' kp => ⟨rfl, I.turnedL (t' := s.toks) (ch := [z, TI, TO, i1, i2]) (fun c o hb q => ?_) hf⟩
    have hb : ¬ (c = z ∨ c = TI ∨ c = TO ∨ c = i1 ∨ c = i2) := fun r => hb (by simpa using r)
    exact kp c o (fun r => hb (.inl r)) (fun r => hb (.inr (.inr (.inl r)))) (fun r => hb (.inr (.inr (.inr (.inl r))))) (fun r => hb (.inr (.inr (.inr (.inr r))))) q
/-- zip of a tuple and a tuple, or of a tuple and a list -/
def iZipM (K : PySem.W.Frag) (ta : TA) : TI := fun σ H R => ta σ H fun vs H1 => ∃ a b xs ys, vs = [.ref a, .ref b] ∧ SqT K H1 a xs ∧ ((SqT K H1 b ys ∧ R (ItzT K a b) H1) ∨ (SqL K H1 b ys ∧ R (ItzM K a b) H1))
theorem pi_zipM {X : Cx} {e e2 : Expr} {ta : TA} {p pos tpos : Pos} {elts : List Expr} {kk : Nat} (hg : Gl X "zip") (hm : X.mg "zip" = none) (ha : PA X [e, e2] ta)
    (hs : starEach [e, e2] X.env = (false, eval e X.env) :: starEach [e2] X.env := by rfl) (hpl : (backTo pos (starEach [e2] X.env)).any (·.1) = false := by rfl) : PI X (.Tuple elts kk tpos) (.Call (.Name "zip" p) [e, e2] [] pos) (iZipM X.K ta) := by
  refine ⟨fun pins s σ H R I h => PyProof.Rows.Call_ (ld_blt I hg hm PyProof.Rows.boot_zip (PyProof.Rows.callWith_type1 (thn (ha.run pos pins s σ H _ I h) fun us s1 ⟨vs, H1, I1, r1, a, b, xs, ys, ex, sx, q1⟩ => ?_) hs hpl))⟩
  subst ex
  obtain ⟨u1, u2, rfl, e1, e2⟩ := vals2 r1
  cases e1
  cases e2
  obtain ⟨its, rv, p1, _⟩ := I1.tuple sx
  have t1 : s1.heap.IsTuple a its.toArray := p1
  have la : a < s1.heap.objs.size := by obtain ⟨_, e, _⟩ := t1; exact Heap.lt_size e
  have fr : ∀ c, c ∈ [s1.heap.objs.size + 4, s1.heap.objs.size + 2, s1.heap.objs.size + 3, s1.heap.objs.size, s1.heap.objs.size + 1] → FpOk X pins H1 c := fun c hc => by
    have hle : s1.heap.objs.size ≤ c := by
      rcases five hc with q | q | q | q | q <;> rw [q]
      · exact Nat.le_add_right _ _
      · exact Nat.le_add_right _ _
      · exact Nat.le_add_right _ _
      · exact Nat.le_refl _
      · exact Nat.le_add_right _ _
    exact I1.fpOk hle (I1.hok.fresh hle)
  rcases q1 with ⟨sy, q⟩ | ⟨sy, q⟩
  · obtain ⟨its2, rv2, p2, _⟩ := I1.tuple sy
    have t2 : s1.heap.IsTuple b its2.toArray := p2
    have lb : b < s1.heap.objs.size := by obtain ⟨_, e, _⟩ := t2; exact Heap.lt_size e
    exact call_zipT t1 t2 fun h' hz hTI hTO h1 h2 hsz hk => wpAny_pyIter_zip hz ⟨_, _, _, _, H1, rfl, I1.kept (t' := s1.toks) hk, turn_zipT (PySem.W.ktu_apart s1.heap.objs.size a b la lb), ⟨hz, hTI, ⟨_, _, hTO⟩, h1, h2⟩, fr, q⟩
  · obtain ⟨its2, rv2, p2, _⟩ := I1.list sy
    have lb : b < s1.heap.objs.size := by obtain ⟨_, _, e, _⟩ := p2; exact Heap.lt_size e
    exact call_mixed t1 p2.isList fun h' hz hTI hTO h1 h2 hk => wpAny_pyIter_zip hz ⟨_, _, _, _, H1, rfl, I1.kept (t' := s1.toks) hk, turn_mixed (PySem.W.ktu_apart s1.heap.objs.size a b la lb), ⟨hz, hTI, ⟨_, _, hTO⟩, h1, h2⟩, fr, q⟩
/-- a loop over them -/
theorem for_zipM {K : PySem.W.Frag} {a b : Addr} {xs ys : List V} {g : TG} {tb : TS} {D : Ends} {σ : L2.St} {H : Hp} (hl : xs.length = ys.length) (Pv : Nat → L2.St → Hp → Prop) (h0 : Pv 0 σ H) (hq : ∀ i σ H, Pv i σ H → SqT K H a xs ∧ SqL K H b ys)
    (hs : ∀ (i : Nat) (x y : V) (T : Addr) (σ : L2.St) (H : Hp), xs[i]? = some x → ys[i]? = some y → Pv i σ H → H T = none → g (.ref T) σ (upd H T (.tup [x, y])) fun σ2 H2 => tb { D with nx := Pv (i + 1), ct := Pv (i + 1), bk := D.nx } σ2 H2) (hd : ∀ σ H, Pv xs.length σ H → D.nx σ H) :
    ∃ W : Nat → Nat → L2.St → Hp → Prop, (∃ m, W 0 m σ H) ∧ ∀ i m σ H, W i m σ H → ((ItzM K a b).stop i H ∧ D.nx σ H) ∨
      ((ItzM K a b).go i H ∧ ∃ N : L2.St → Hp → Prop, (∀ σ' H', N σ' H' → ∃ m', m' < m ∧ W (i + 1) m' σ' H') ∧ ∀ v H', (ItzM K a b).yld i H v H' → g v σ H' fun σ2 H2 => tb { D with nx := N, ct := N, bk := D.nx } σ2 H2) := by
  refine ⟨fun i m σ H => i + m = xs.length ∧ Pv i σ H, ⟨xs.length, Nat.zero_add _, h0⟩, fun i m σ H ⟨hm, p⟩ => ?_⟩
  obtain ⟨sx, sy⟩ := hq i σ H p
  cases m with
  | zero =>
    have e : i = xs.length := by omega
    subst e
    exact .inl ⟨⟨xs, ys, sx, sy, .inl (Nat.le_refl _)⟩, hd σ H p⟩
  | succ m =>
    have i1 : i < xs.length := by omega
    have i2 : i < ys.length := by omega
    refine .inr ⟨⟨xs, ys, xs[i], ys[i], sx, sy, List.getElem?_eq_getElem i1, List.getElem?_eq_getElem i2⟩, Pv (i + 1), fun σ' H' q => ⟨m, Nat.lt_succ_self _, by omega, q⟩, fun v H' ⟨T, x, y, ev, nT, eH, hx, hy⟩ => ?_⟩
    subst ev eH
    exact hs i x y T σ H (hx xs sx) (hy ys sy) p nT
end ZM
namespace SB
open PySem L2 GxR GA RZ
/-- numbers in a tuple or a list -/
def SpV (K : PySem.W.Frag) (H : Hp) (x : V) (us : List (Int × Int)) : Prop := ∃ a xs, x = .ref a ∧ (SqT K H a xs ∨ SqL K H a xs) ∧ Paired (NuV K H) xs us
theorem SpV.gr {K : PySem.W.Frag} {H H' : Hp} {x : V} {us : List (Int × Int)} (h : SpV K H x us) (g : Gr H H') : SpV K H' x us := let ⟨a, xs, e, s, p⟩ := h; ⟨a, xs, e, s.imp (fun q => g.seqT q) (fun q => g.seqL q), Paired.mapP p fun _ _ z => NuV.gr z g⟩
theorem PtV.sp {K : PySem.W.Frag} {H : Hp} {x : V} {us : List (Int × Int)} (h : PtV K H x us) : SpV K H x us := let ⟨a, xs, e, s, p⟩ := h; ⟨a, xs, e, .inl s, p⟩
/-- a drawn question: small -/
structure Q9 (q : List Int × Int) : Prop where
  nz : NonZ q.1
  ns : ∀ z, z ∈ q.1 → z.natAbs < 2 ^ 4
  wl : q.2.natAbs < 2 ^ 4
theorem Q9.g {q : List Int × Int} (h : Q9 q) : gcdL (q.1 ++ [q.2]) < 2 ^ 64 := by
  obtain ⟨z, h1, h2⟩ := h.nz.ex
  exact Nat.lt_of_le_of_lt (gcdL_le (List.mem_append_left _ h1) h2) (Nat.lt_of_lt_of_le (h.ns z h1) (by decide))
theorem two_le {a b : Nat} (h : a ≤ b) : 2 ^ a ≤ 2 ^ b := Nat.pow_le_pow_right (by decide) h
theorem Q9.ok {q : List Int × Int} (h : Q9 q) : QOk q := ⟨h.nz, fun z hz => Nat.lt_of_lt_of_le (h.ns z hz) (two_le (by decide)), Nat.lt_of_lt_of_le h.wl (two_le (by decide))⟩
section
variable {P : Program} {w : World} {K : PySem.W.Frag} {mg : Str → Option Value} {base : Heap}
def spWorth (K : PySem.W.Frag) : Sp := fun vs H Q _ => ∃ x y q us m, vs = [x, y] ∧ QuV K H x q ∧ SpV K H y us ∧ Q9 q ∧ q.1.length = us.length ∧ us.length ≤ 4 ∧ (∀ u, u ∈ us → Lo u) ∧ (∀ u, u ∈ us → Wd m u) ∧ m ≤ 20000 ∧
  ∀ v r H', Gr H H' → NuV K H' v r → 0 < r.2 → Eqr r (worthU q us).1 (worthU q us).2 → Wd (5 + us.length * (m + 6)) r → Q v H'
end
end SB
namespace SB
open PySem L2 GxR GA RZ
section
variable {P : Program} {w : World} {K : PySem.W.Frag} {mg : Str → Option Value} {base : Heap}
/-! ### the law's own row of a point -/
def spLRow (K : PySem.W.Frag) : Sp := fun vs H Q _ => ∃ x y d qs us m, vs = [x, y] ∧ BkV K H x d qs ∧ SpV K H y us ∧ qs.length ≤ 8 ∧ (∀ q, q ∈ qs → Q9 q ∧ q.1.length = us.length) ∧ us.length ≤ 4 ∧ (∀ u, u ∈ us → Lo u) ∧ (∀ u, u ∈ us → Wd m u) ∧ m ≤ 20000 ∧
  ∀ v H', Gr H H' → SiV K H' v (rowU qs us) → Q v H'
theorem sgn_two (i : Int) : (if decide (i > 0) = true then (1 : Int) else 0) - (if decide (i < 0) = true then (1 : Int) else 0) = sgn i := by
  unfold sgn
  by_cases h1 : 0 < i
  · rw [if_pos (decide_eq_true h1), if_neg (by simp; omega), if_pos h1]
    rfl
  · rw [if_neg (by simp; omega), if_neg h1]
    by_cases h2 : i < 0
    · rw [if_pos (decide_eq_true h2), if_pos h2]
      rfl
    · rw [if_neg (by simp; omega), if_neg h2]
      rfl
/-! ### whether a row fits -/
def spDoesFit (K : PySem.W.Frag) : Sp := fun vs H Q _ => ∃ a b zs hs, vs = [.ref a, .ref b] ∧ SqT K H a (zs.map V.int) ∧ SqT K H b (hs.map hopeV) ∧ hs.length = zs.length ∧ zs.length ≤ 8 ∧ ∀ H', Gr H H' → Q (.bl (fitU hs zs)) H'
end
end SB
namespace SB
open PySem L2 GxR GA RZ
section
variable {P : Program} {w : World} {K : PySem.W.Frag} {mg : Str → Option Value} {base : Heap}
theorem DeckAt.ne {d p : Addr} {H : Hp} (h : DeckAt d H) (n : H p = none) : p ≠ d := by
  obtain ⟨a, b, e, _⟩ := h
  exact Ne.symm (ne_of_none e n)
def spLNum (K : PySem.W.Frag) : Sp := fun vs H Q _ => ∃ d, vs = [.ref d] ∧ DeckAt d H ∧ ∀ v r H', GrD d H H' → DeckAt d H' → NuV K H' v r → Lo r → Wd 134 r → Q v H'
theorem lnum_wd {F L t u : Int} (hF : 0 ≤ F) (hF2 : F ≤ 10 ^ 40) (hL2 : L ≤ 10 ^ 40) (t0 : 0 ≤ t) (t1 : t < 2 * F + 1) (u0 : 0 ≤ u) (u1 : u < L) : (1 + u) ≠ 0 ∧ Wd 134 (t - F, 1 + u) := by
  have e : (10 : Int) ^ 40 < 2 ^ 133 := by decide
  have e2 : (2 : Nat) ^ 134 = 2 * 2 ^ 133 := by decide
  have e3 : ((2 ^ 133 : Nat) : Int) = (2 : Int) ^ 133 := by decide
  refine ⟨by omega, ?_, ?_⟩
  · show (t - F).natAbs < 2 ^ 134
    omega
  · show (1 + u).natAbs < 2 ^ 134
    omega
end
end SB
namespace SB
open PySem L2 GxR GA RZ
theorem dp_ints {K : PySem.W.Frag} {H : Hp} : ∀ js : List Int, DpAll K H (js.map V.int) (js.map PyData.int)
  | [] => .nil
  | j :: r => .cons (.int j) (dp_ints r)
theorem lay_ints : ∀ js : List Int, PyData.canLayAll0 (js.map PyData.int) = true
  | [] => rfl
  | j :: r => by
    show (PyData.canLay0 (.int j) && PyData.canLayAll0 (r.map PyData.int)) = true
    rw [lay_ints r]
    rfl
theorem dep_ints : ∀ js : List Int, PyData.depthAll (js.map PyData.int) = 0
  | [] => rfl
  | j :: r => by
    have h := dep_ints r
    rw [List.map_cons]
    simp [PyData.depthAll, PyData.depth, h]
theorem shp_ints (js : List Int) : SeqAt.shaped (.list (js.map PyData.int)) = true := by
  unfold SeqAt.shaped
  rw [Bool.and_eq_true]
  refine ⟨lay_ints js, decide_eq_true ?_⟩
  have h := dep_ints js
  simp [PyData.depth, h]
theorem eqv_nil (js : List Int) : PyData.eqv (.list (js.map PyData.int)) (.list []) = js.isEmpty := by
  cases js with
  | nil => decide
  | cons j r => rfl
section
variable {P : Program} {w : World} {K : PySem.W.Frag} {mg : Str → Option Value} {base : Heap}
theorem fit_all {hs : List (Option Int)} {zs : List Int} (hl : hs.length = zs.length) (h : ∀ (i : Nat) (h : Option Int) (z : Int), hs[i]? = some h → zs[i]? = some z → fit1 h z = true) : fitU hs zs = true := by
  refine List.all_eq_true.mpr fun p hp => ?_
  obtain ⟨i, hi⟩ := List.getElem?_of_mem hp
  have hz := List.getElem?_zip_eq_some.mp hi
  exact h i p.1 p.2 hz.1 hz.2
theorem fit_not {hs : List (Option Int)} {zs : List Int} {i : Nat} {h : Option Int} {z : Int} (e1 : hs[i]? = some h) (e2 : zs[i]? = some z) (n : fit1 h z = false) : fitU hs zs = false := by
  rw [Bool.eq_false_iff]
  intro q
  have := List.all_eq_true.mp q (h, z) (List.mem_of_getElem? (zip_at e1 e2))
  rw [n] at this
  cases this
end
end SB
namespace SB
open PySem L2 GxR GA RZ
section
variable {P : Program} {w : World} {K : PySem.W.Frag} {mg : Str → Option Value} {base : Heap}
def spGround (K : PySem.W.Frag) : Sp := fun vs H Q _ => ∃ x q, vs = [x] ∧ QuV K H x q ∧ Q9 q ∧ q.1.length ≤ 8 ∧ ∀ b H', Gr H H' → H' b = some (.tup ((grU q).map V.int)) → Q (.ref b) H'
theorem sc_ground : FnScope ["line", "cells", "common", "x", "lead"] ["line"] (defScope s__law_ground) := ⟨rfl, rfl, rfl, by decide +kernel, rfl, by decide +kernel, by decide +kernel⟩
theorem cl_ground (D : Df K mg "_law_ground" s__law_ground) (B : Blt mg) (CG : Cl P w K mg base 1 "_law_gcd" ["u", "v"] spGcd) : Cl P w K mg base 2 "_law_ground" ["line"] (spGround K) := by
  refine D.cl (fun _ _ _ _ _ _ us hl => match us, hl with | [_], _ => rfl) fun f fd F => F.ok sc_ground (fun vs H Q E h => ?_) (fun cdv A outer s H vs Q E hr h => ?_)
  · obtain ⟨x, q, rfl, _⟩ := h
    rfl
  obtain ⟨x, q, rfl, ⟨a, t, rfl, hs, b, rfl, hb⟩, ok, l8, hq⟩ := h
  refine ⟨_, pss_cons (ps_set (i := 1) sc_ground.nd rfl (.inl rfl) (pe_op op_catT (pe_ix ix_tup (pv 0) pe_int (fun _ _ => rfl)) (pe_tup (pa_cons (pe_ix ix_tup (pv 0) pe_int (fun _ _ => rfl)) pa_nil))))
    (pss_cons (ps_set (i := 2) sc_ground.nd rfl (.inr rfl) pe_int)
    (pss_cons (ps_for PassesOwn.never rfl (pi_tup (pv 1)) (pg_name (i := 3) sc_ground.nd rfl (Or.inl rfl)) (pss_one (ps_set (i := 2) sc_ground.nd rfl (.inr rfl) (pe_cl CG (hr.mono (by decide)) (pa_cons (pe_callB call_abs rfl B.abs PyProof.Rows.boot_abs (pa_cons (pv 3) pa_nil)) (pa_cons (pv 2) pa_nil))))))
    (pss_cons (ps_set (i := 4) sc_ground.nd rfl (.inr rfl) (pe_ix ix_list (pe_lc (own := [("x", 3)]) (g := gName 3) rfl sc_ground.nd (pi_tup (pv 1)) (blkOk_by (N := ["line", "cells", "common", "x", "lead"]) (sc := defScope s__law_ground) (by decide +kernel)) (fun _ _ _ _ _ => pg_name (i := 3) sc_ground.nd rfl (Or.inl rfl)) (fun _ _ _ _ _ => pts_one (pt_cmpR op_ne (pv 3) pe_int (nomark _))) (fun _ _ _ _ _ => pv 3)) pe_int (fun _ _ => rfl)))
    (pss_one (ps_ret (pe_callTy call_tuple_of rfl B.tup bootTup (pa_cons (pe_lc (own := [("x", 3)]) (g := gName 3) rfl sc_ground.nd (pi_tup (pv 1)) (blkOk_by (N := ["line", "cells", "common", "x", "lead"]) (sc := defScope s__law_ground) (by decide +kernel)) (fun _ _ _ _ _ => pg_name (i := 3) sc_ground.nd rfl (Or.inl rfl)) (fun _ _ _ _ _ => pts_nil)
      (fun _ _ _ _ _ => pe_ifExp (pt_cmpR op_gt (pv 4) pe_int (nomark _)) (pe_op op_fdivW (pv 3) (pv 2)) (pe_op op_fdivW (pe_un un_neg (pv 3)) (pv 2)))) pa_nil))))))), ?_⟩
  have q9 := ok
  have ok := q9.ok
  have g0 := ok.g.1
  have g1 := q9.g
  have cd : ∀ i, CDivW i ((gcdL (q.1 ++ [q.2]) : Nat) : Int) := fun i => wide_div (b := 64) (by omega) (by rw [Int.natAbs_natCast]; exact g1) (by decide) (by decide)
  refine ⟨_, rfl, a, _, _, _, rfl, rfl, hs, rfl, _, rfl, a, _, _, _, rfl, rfl, hs, rfl, szN (by show 1 ≤ 1000000; decide), fun p0 n0 => ?_⟩
  have k0 := (Gr.refl H).new n0 (.tup [.int q.2])
  refine ⟨_, _, _, _, rfl, rfl, k0.seqT hb, SqT.of upd_same, ne_of_nonZ ok.nz, ?_, fun z => absurd z (List.cons_ne_nil _ _), fun _ p1 n1 => ?_⟩
  · rw [List.length_map]
    exact szN (by show q.1.length + 1 ≤ 1000000; omega)
  have k1 := k0.new n1 (.tup (q.1.map V.int ++ [.int q.2]))
  have hc : SqT K (upd (upd H p0 (.tup [.int q.2])) p1 (.tup (q.1.map V.int ++ [.int q.2]))) p1 ((q.1 ++ [q.2]).map V.int) := SqT.of (by rw [upd_same, List.map_append]; rfl)
  generalize upd (upd H p0 (.tup [.int q.2])) p1 (.tup (q.1.map V.int ++ [.int q.2])) = H1 at k1 hc ⊢
  have lc : ((q.1 ++ [q.2]).map V.int).length ≤ 9 := by rw [List.length_map, List.length_append]; show q.1.length + 1 ≤ 9; omega
  refine ⟨_, rfl, p1, rfl, ⟨_, hc⟩, for_tup (xs := (q.1 ++ [q.2]).map V.int) (fun i σ H2 => ∃ c, σ = [some (.ref a), some (.ref p1), some (.int ((gcdL ((q.1 ++ [q.2]).take i) : Nat) : Int)), c, none] ∧ H2 = H1) ⟨_, rfl, rfl⟩ (fun i σ H2 _ h => ?_) (fun i x σ H2 hx h => ?_) (fun σ H2 h => ?_)⟩
  · obtain ⟨c, rfl, rfl⟩ := h
    exact hc
  · obtain ⟨c, rfl, rfl⟩ := h
    rw [List.getElem?_map] at hx
    obtain ⟨z, hz, rfl⟩ := Option.map_eq_some_iff.mp hx
    refine ⟨_, rfl, _, rfl, _, rfl, z.natAbs, gcdL ((q.1 ++ [q.2]).take i), by rw [abs_nat]; rfl, some (.int z), ?_, rfl⟩
    have e : gcdL ((q.1 ++ [q.2]).take (i + 1)) = Nat.gcd (gcdL ((q.1 ++ [q.2]).take i)) z.natAbs := fold_take (fun c (z : Int) => Nat.gcd c z.natAbs) 0 hz
    rw [e, Nat.gcd_comm]
    rfl
  · obtain ⟨c, rfl, rfl⟩ := h
    have et : (q.1 ++ [q.2]).take ((q.1 ++ [q.2]).map V.int).length = q.1 ++ [q.2] := List.take_of_length_le (by rw [List.length_map]; exact Nat.le_refl _)
    rw [et]
    refine ⟨_, rfl, p1, rfl, ⟨_, hc⟩, fun D nD => lc_tup (xs := (q.1 ++ [q.2]).map V.int) (fun i H' => H' D = some (.lst ((((q.1 ++ [q.2]).take i).filter fun z => decide (z ≠ 0)).map V.int)) ∧ GrD D H2 H') ⟨upd_same, (GrD.refl D H2).set _⟩ (fun i H' _ h => (h.2.to nD).seqT hc) (fun i x H' hx h => ?_) (fun H' h => ?_)⟩
    · obtain ⟨hD, gr⟩ := h
      rw [List.getElem?_map] at hx
      obtain ⟨z, hz, rfl⟩ := Option.map_eq_some_iff.mp hx
      have hi := (List.getElem?_eq_some_iff.mp hz).1
      rw [List.length_append] at hi
      have hi : i < q.1.length + 1 := hi
      refine ⟨rfl, _, rfl, rfl, _, rfl, ?_⟩
      by_cases hz0 : z = 0
      · rw [decide_eq_true (show V.int z = V.int 0 by rw [hz0])]
        refine ⟨?_, gr⟩
        rw [hD, List.take_add_one, hz, Option.toList_some, List.filter_append, List.filter_cons_of_neg (by simp [hz0]), List.filter_nil, List.append_nil]
      · rw [decide_eq_false (show ¬ V.int z = V.int 0 from fun y => hz0 (by injection y))]
        refine iteT ⟨_, rfl, _, hD, small1000 (by rw [List.length_map]; have := List.length_filter_le (fun z : Int => decide (z ≠ 0)) ((q.1 ++ [q.2]).take i); rw [List.length_take] at this; omega), ?_, gr.set _⟩
        rw [upd_same, List.take_add_one, hz, Option.toList_some, List.filter_append, List.filter_cons_of_pos (by simp [hz0]), List.filter_nil, List.map_append]
        rfl
    · obtain ⟨hD, gr⟩ := h
      have g2 := gr.to nD
      rw [et] at hD
      have ld := lead_filter (t := [q.2]) ok.nz
      refine ⟨D, _, _, .int (lead q.1), rfl, rfl, SqL.of hD, atI_nat (j := 0) (by rw [List.getElem?_map, ld]; rfl), ?_⟩
      refine ⟨_, rfl, p1, rfl, ⟨_, g2.seqT hc⟩, fun D2 nD2 => lc_mapT (xs := (q.1 ++ [q.2]).map V.int) (fun i y _ => ∃ z : Int, (q.1 ++ [q.2])[i]? = some z ∧ y = .int (if 0 < lead q.1 then z / ((gcdL (q.1 ++ [q.2]) : Nat) : Int) else (-z) / ((gcdL (q.1 ++ [q.2]) : Nat) : Int))) (fun _ _ _ _ h _ => h) nD2 (g2.seqT hc) (by omega) (fun i x H5 Kc hx g5 kc => ?_) (fun ys H5 hD5 hl g5 hR => ?_)⟩
      · rw [List.getElem?_map] at hx
        obtain ⟨z, hz, rfl⟩ := Option.map_eq_some_iff.mp hx
        refine ⟨rfl, _, rfl, _, _, rfl, rfl, _, rfl, ?_⟩
        by_cases hc2 : 0 < lead q.1
        · exact iteP hc2 ⟨_, rfl, _, rfl, _, _, rfl, rfl, cd _, kc _ _ (Gr.refl _) ⟨z, hz, by rw [if_pos hc2]⟩⟩
        · exact iteN hc2 ⟨_, rfl, _, rfl, _, rfl, _, _, rfl, rfl, cd _, kc _ _ (Gr.refl _) ⟨z, hz, by rw [if_neg hc2]⟩⟩
      · have ey : ys = (grU q).map V.int := by
          rw [grU_eq ok]
          refine ints_at (by rw [hl, List.length_map, List.length_map]) fun i y hy => ?_
          obtain ⟨z, hz, rfl⟩ := hR i y hy
          exact ⟨_, by rw [List.getElem?_map, hz]; rfl, rfl⟩
        subst ey
        refine ⟨D2, _, rfl, .inl ⟨SqL.of hD5, fun p2 n2 => ?_⟩⟩
        exact hq _ _ (((k1.trans g2).trans g5).new n2 _) upd_same
end
end SB
namespace SB
open PySem L2 GxR GA RZ
theorem GrD.put {d D : Addr} {H1 H : Hp} (g : GrD d H1 H) (nD : H1 D = none) (o : HO) : GrD d H1 (upd H D o) := ⟨fun b u n z e => by
  rw [upd_ne (ne_of_none e nD)]
  exact g.keep b u n z e, fun P n t => by
  obtain ⟨ps, e, tr⟩ := id t
  obtain ⟨qs, e2, t2⟩ := g.tab P n t
  exact ⟨qs, by rw [upd_ne (ne_of_none e nD)]; exact e2, t2⟩⟩
theorem DeckAt.put {d D : Addr} {H : Hp} (h : DeckAt d H) (n : D ≠ d) (o : HO) : DeckAt d (upd H D o) := let ⟨a, b, e, r⟩ := h; ⟨a, b, by rw [upd_ne (Ne.symm n)]; exact e, r⟩
/-- one item more -/
theorem deck_more {K : PySem.W.Frag} {d D : Addr} {H1 H H4 : Hp} {ys : List V} {y : V} {i : Nat} (R : Nat → V → Hp → Prop) (hst : ∀ i y H H', R i y H → Tst K H H' → R i y H') (nD : H1 D = none) (nd : D ≠ d) (hD : H D = some (.lst ys)) (hy : ys.length = i) (hi : i < 1000)
    (gr : GrD d H1 H) (dk : DeckAt d H) (hR : ∀ j z, ys[j]? = some z → R j z H) (g4 : GrD d H H4) (dk4 : DeckAt d H4) (r4 : R i y H4) :
    ∃ acc, H4 D = some (.lst acc) ∧ acc.length < sizeLine ∧ ∃ zs, (upd H4 D (.lst (acc ++ [y]))) D = some (.lst zs) ∧ zs.length = i + 1 ∧ GrD d H1 (upd H4 D (.lst (acc ++ [y]))) ∧ DeckAt d (upd H4 D (.lst (acc ++ [y]))) ∧ ∀ j z, zs[j]? = some z → R j z (upd H4 D (.lst (acc ++ [y]))) := by
  have hD4 : H4 D = some (.lst ys) := g4.keep D _ nd (fun _ z => nomatch z) hD
  have tp : Tst K H4 (upd H4 D (.lst (ys ++ [y]))) := Tst.put hD4
  refine ⟨ys, hD4, small1000 (by omega), ys ++ [y], upd_same, by rw [List.length_append, hy]; rfl, (gr.trans g4).put nD _, dk4.put nd _, fun j z hz => ?_⟩
  by_cases hj : j < ys.length
  · rw [List.getElem?_append_left hj] at hz
    exact hst _ _ _ _ (hR j z hz) ((g4.st dk).trans tp)
  · have hl := (List.getElem?_eq_some_iff.mp hz).1
    rw [List.length_append] at hl
    have hl : j < ys.length + 1 := hl
    have ej : j = ys.length := by omega
    subst ej
    rw [List.getElem?_append_right (Nat.le_refl _), Nat.sub_self] at hz
    cases hz
    rw [hy]
    exact hst _ _ _ _ r4 tp
/-- a list of n things drawn -/
theorem lc_deckR {K : PySem.W.Frag} {d : Addr} {lo : Int} {n : Nat} {g : TG} {te : TE} {vs : List Nat} {σ : L2.St} {H1 : Hp} {D : Addr} {Qd : Hp → Prop} (R : Nat → V → Hp → Prop) (hst : ∀ i y H H', R i y H → Tst K H H' → R i y H') (nD : H1 D = none) (dk : DeckAt d H1) (hz : n ≤ 1000)
    (step : ∀ (i : Nat) H (Kc : VK), i < n → GrD d H1 H → DeckAt d H → (∀ y H4, GrD d H H4 → DeckAt d H4 → R i y H4 → Kc y H4) → g (.int (lo + i)) (wipe σ vs) H fun σ2 H2 => wipe σ2 vs = wipe σ vs ∧ te σ2 H2 Kc)
    (fin : ∀ ys H, H D = some (.lst ys) → ys.length = n → GrD d H1 H → DeckAt d H → (∀ i y, ys[i]? = some y → R i y H) → Qd H) :
    ∃ W : Nat → Nat → Hp → Prop, (∃ m, W 0 m (upd H1 D (.lst []))) ∧ ∀ i m H, W i m H → ((Itr lo n).stop i H ∧ Qd H) ∨
      ((Itr lo n).go i H ∧ ∃ Nx : Hp → Prop, (∀ H', Nx H' → ∃ m', m' < m ∧ W (i + 1) m' H') ∧ ∀ x H', (Itr lo n).yld i H x H' → g x (wipe σ vs) H' fun σ2 H2 => wipe σ2 vs = wipe σ vs ∧ tYes σ2 H2 fun b H3 =>
        if b = true then te σ2 H3 fun y H4 => ∃ acc, H4 D = some (.lst acc) ∧ acc.length < sizeLine ∧ Nx (upd H4 D (.lst (acc ++ [y]))) else Nx H3) := by
  have nd := dk.ne nD
  refine ⟨fun i m H => i + m = n ∧ ∃ ys, H D = some (.lst ys) ∧ ys.length = i ∧ GrD d H1 H ∧ DeckAt d H ∧ ∀ j y, ys[j]? = some y → R j y H, ⟨n, Nat.zero_add _, [], upd_same, rfl, (GrD.refl d H1).put nD _, dk.put nd _, fun j y h => by simp at h⟩, fun i m H ⟨hm, ys, hD, hy, gr, dk', hR⟩ => ?_⟩
  cases m with
  | zero => exact .inl ⟨(by show n ≤ i; omega), fin ys H hD (by omega) gr dk' hR⟩
  | succ m =>
    refine .inr ⟨(by show i < n; omega), fun H' => ∃ ys, H' D = some (.lst ys) ∧ ys.length = i + 1 ∧ GrD d H1 H' ∧ DeckAt d H' ∧ ∀ j y, ys[j]? = some y → R j y H', fun H' h => ⟨m, Nat.lt_succ_self _, by omega, h⟩, fun x H' hyl => ?_⟩
    obtain ⟨rfl, rfl⟩ := hyl
    exact step i H' _ (by omega) gr dk' fun y H4 g4 dk4 r4 => deck_more R hst nD nd hD hy (by omega) gr dk' hR g4 dk4 r4
/-- one for each of a tuple's items -/
theorem lc_deckT {K : PySem.W.Frag} {d a : Addr} {xs : List V} {g : TG} {te : TE} {vs : List Nat} {σ : L2.St} {H1 : Hp} {D : Addr} {Qd : Hp → Prop} (R : Nat → V → Hp → Prop) (hst : ∀ i y H H', R i y H → Tst K H H' → R i y H') (nD : H1 D = none) (dk : DeckAt d H1) (hs : SqT K H1 a xs) (hz : xs.length ≤ 1000)
    (step : ∀ (i : Nat) x H (Kc : VK), xs[i]? = some x → GrD d H1 H → DeckAt d H → (∀ y H4, GrD d H H4 → DeckAt d H4 → R i y H4 → Kc y H4) → g x (wipe σ vs) H fun σ2 H2 => wipe σ2 vs = wipe σ vs ∧ te σ2 H2 Kc)
    (fin : ∀ ys H, H D = some (.lst ys) → ys.length = xs.length → GrD d H1 H → DeckAt d H → (∀ i y, ys[i]? = some y → R i y H) → Qd H) :
    ∃ W : Nat → Nat → Hp → Prop, (∃ m, W 0 m (upd H1 D (.lst []))) ∧ ∀ i m H, W i m H → ((Itt K a).stop i H ∧ Qd H) ∨
      ((Itt K a).go i H ∧ ∃ Nx : Hp → Prop, (∀ H', Nx H' → ∃ m', m' < m ∧ W (i + 1) m' H') ∧ ∀ x H', (Itt K a).yld i H x H' → g x (wipe σ vs) H' fun σ2 H2 => wipe σ2 vs = wipe σ vs ∧ tYes σ2 H2 fun b H3 =>
        if b = true then te σ2 H3 fun y H4 => ∃ acc, H4 D = some (.lst acc) ∧ acc.length < sizeLine ∧ Nx (upd H4 D (.lst (acc ++ [y]))) else Nx H3) := by
  have nd := dk.ne nD
  refine ⟨fun i m H => i + m = xs.length ∧ ∃ ys, H D = some (.lst ys) ∧ ys.length = i ∧ GrD d H1 H ∧ DeckAt d H ∧ ∀ j y, ys[j]? = some y → R j y H, ⟨xs.length, Nat.zero_add _, [], upd_same, rfl, (GrD.refl d H1).put nD _, dk.put nd _, fun j y h => by simp at h⟩, fun i m H ⟨hm, ys, hD, hy, gr, dk', hR⟩ => ?_⟩
  have sx := gr.st dk a xs hs
  cases m with
  | zero => exact .inl ⟨⟨xs, sx, by omega⟩, fin ys H hD (by omega) gr dk' hR⟩
  | succ m =>
    have hi : i < xs.length := by omega
    refine .inr ⟨⟨xs, xs[i], sx, List.getElem?_eq_getElem hi⟩, fun H' => ∃ ys, H' D = some (.lst ys) ∧ ys.length = i + 1 ∧ GrD d H1 H' ∧ DeckAt d H' ∧ ∀ j y, ys[j]? = some y → R j y H', fun H' h => ⟨m, Nat.lt_succ_self _, by omega, h⟩, fun x H' hyl => ?_⟩
    obtain ⟨rfl, hx⟩ := hyl
    exact step i x H' _ (hx xs sx) gr dk' fun y H4 g4 dk4 r4 => deck_more R hst nD nd hD hy (by omega) gr dk' hR g4 dk4 r4
end SB
namespace SB
open PySem L2 GxR GA RZ
def hopeP : Option Int → PyData
  | none => .none
  | some i => .int i
theorem dp_hopes {K : PySem.W.Frag} {H : Hp} : ∀ hs : List (Option Int), DpAll K H (hs.map hopeV) (hs.map hopeP)
  | [] => .nil
  | none :: r => .cons .non (dp_hopes r)
  | some i :: r => .cons (.int i) (dp_hopes r)
theorem shp_hopes (hs : List (Option Int)) : SeqAt.shaped (.list (hs.map hopeP)) = true := by
  have l : ∀ hs : List (Option Int), PyData.canLayAll0 (hs.map hopeP) = true := fun hs => by
    induction hs with
    | nil => rfl
    | cons h r ih =>
      rw [List.map_cons]
      cases h <;> simp [PyData.canLayAll0, hopeP, PyData.canLay0, ih]
  have d : ∀ hs : List (Option Int), PyData.depthAll (hs.map hopeP) = 0 := fun hs => by
    induction hs with
    | nil => rfl
    | cons h r ih =>
      rw [List.map_cons]
      cases h <;> simp [PyData.depthAll, PyData.depth, hopeP, ih]
  unfold SeqAt.shaped
  rw [Bool.and_eq_true]
  refine ⟨l hs, decide_eq_true ?_⟩
  have h := d hs
  simp [PyData.depth, h]
theorem eqv_nilP (hs : List (Option Int)) : PyData.eqv (.list (hs.map hopeP)) (.list []) = hs.isEmpty := by
  cases hs with
  | nil => decide
  | cons j r => rfl
theorem hopes_of {Pr : Option Int → Prop} : ∀ {ys : List V}, (∀ (i : Nat) (y : V), ys[i]? = some y → ∃ h, y = hopeV h ∧ Pr h) → ∃ hs : List (Option Int), ys = hs.map hopeV ∧ ∀ h, h ∈ hs → Pr h
  | [], _ => ⟨[], rfl, fun h hm => by simp at hm⟩
  | y :: r, f => by
    obtain ⟨h, rfl, ph⟩ := f 0 y rfl
    obtain ⟨hs, rfl, pr⟩ := hopes_of (ys := r) fun i z e => f (i + 1) z (by simpa using e)
    refine ⟨h :: hs, rfl, fun k hk => ?_⟩
    rcases List.mem_cons.mp hk with rfl | hk
    · exact ph
    · exact pr k hk
theorem ixN_nat {n j : Nat} (h : j < n) : ixN n (j : Int) = some j := by
  unfold ixN
  rw [if_pos (by omega), if_pos (by omega)]
  rfl
theorem big_take {n : Nat} (h : n ≤ 64) : ((n : Nat) : Int).natAbs < 2 ^ 8000 := Nat.lt_of_le_of_lt (by omega) (show 64 < 2 ^ 8000 by decide +kernel)
theorem three_less {c : Int} (h0 : -1 ≤ c) (h1 : c ≤ 1) : (([-1, 0, 1] : List Int).filter fun z => decide (z ≠ c)).length = 2 := by
  have : c = -1 ∨ c = 0 ∨ c = 1 := by omega
  rcases this with rfl | rfl | rfl <;> decide
section
variable {P : Program} {w : World} {K : PySem.W.Frag} {mg : Str → Option Value} {base : Heap}
/-- a row's cells: each -1, 0 or 1 -/
def CeOk (zs : List Int) : Prop := ∀ z, z ∈ zs → -1 ≤ z ∧ z ≤ 1
def spLWish (K : PySem.W.Frag) : Sp := fun vs H Q _ => ∃ d a zs, vs = [.ref d, .ref a] ∧ DeckAt d H ∧ SqT K H a (zs.map V.int) ∧ CeOk zs ∧ zs.length ≤ 8 ∧ ∀ p hs H', GrD d H H' → DeckAt d H' → SqT K H' p (hs.map hopeV) → hs.length = zs.length → HpOk hs → Q (.ref p) H'
end
end SB
namespace SB
open PySem L2 GxR GA RZ
/-- a question as data -/
def quP (q : List Int × Int) : PyData := .tuple [.tuple (q.1.map PyData.int), .int q.2]
theorem dp_qus {K : PySem.W.Frag} {H : Hp} : ∀ {xs : List V} {qs : List (List Int × Int)}, Paired (QuV K H) xs qs → DpAll K H xs (qs.map quP)
  | _, _, .nil => .nil
  | _, _, .cons ⟨a, t, ea, hs, b, et, hb⟩ r => by
    subst ea et
    exact .cons (.tup hs (.cons (.tup hb (dp_ints _)) (.cons (.int _) .nil))) (dp_qus r)
theorem shp_qus (qs : List (List Int × Int)) : SeqAt.shaped (.tuple (qs.map quP)) = true := by
  have l : ∀ qs : List (List Int × Int), PyData.canLayAll0 (qs.map quP) = true := fun qs => by
    induction qs with
    | nil => rfl
    | cons q r ih =>
      rw [List.map_cons]
      have h := lay_ints q.1
      simp [PyData.canLayAll0, quP, PyData.canLay0, ih, h]
  have d : ∀ qs : List (List Int × Int), PyData.depthAll (qs.map quP) ≤ 2 := fun qs => by
    induction qs with
    | nil => decide
    | cons q r ih =>
      rw [List.map_cons]
      have h := dep_ints q.1
      simp [PyData.depthAll, PyData.depth, quP, h]
      omega
  unfold SeqAt.shaped
  rw [Bool.and_eq_true]
  refine ⟨l qs, decide_eq_true ?_⟩
  have h := d qs
  simp [PyData.depth]
  omega
theorem eqv_nilT (ds : List PyData) : PyData.eqv (.tuple ds) (.tuple []) = ds.isEmpty := by
  cases ds with
  | nil => decide
  | cons j r => rfl
theorem nums_of {K : PySem.W.Frag} {H : Hp} {Pr : Int × Int → Prop} : ∀ {ys : List V}, (∀ (i : Nat) (y : V), ys[i]? = some y → ∃ u, NuV K H y u ∧ Pr u) → ∃ us : List (Int × Int), Paired (NuV K H) ys us ∧ ∀ u, u ∈ us → Pr u
  | [], _ => ⟨[], .nil, fun h hm => by simp at hm⟩
  | y :: r, f => by
    obtain ⟨u, nu, pu⟩ := f 0 y rfl
    obtain ⟨us, pa, pr⟩ := nums_of (ys := r) fun i z e => f (i + 1) z (by simpa using e)
    refine ⟨u :: us, .cons nu pa, fun k hk => ?_⟩
    rcases List.mem_cons.mp hk with rfl | hk
    · exact pu
    · exact pr k hk
theorem paired_set {α β : Type} {F : α → β → Prop} {x : α} {y : β} : ∀ {xs : List α} {ys : List β}, Paired F xs ys → F x y → ∀ i : Nat, Paired F (xs.set i x) (ys.set i y)
  | _, _, .nil, _, _ => .nil
  | _, _, .cons _ t, h, 0 => .cons h t
  | _, _, .cons r t, h, i + 1 => .cons r (paired_set t h i)
section
variable {P : Program} {w : World} {K : PySem.W.Frag} {mg : Str → Option Value} {base : Heap}
/-- a drawn page: its questions small, of one length -/
structure Pg9 (n : Nat) (qs : List (List Int × Int)) : Prop where
  n1 : 1 ≤ n
  n4 : n ≤ 4
  l8 : qs.length ≤ 8
  q9 : ∀ q, q ∈ qs → Q9 q ∧ q.1.length = n
def spSpot (K : PySem.W.Frag) : Sp := fun vs H Q _ => ∃ d x n qs, vs = [.ref d, x] ∧ DeckAt d H ∧ BkV K H x n qs ∧ Pg9 n qs ∧
  ∀ v us H', GrD d H H' → DeckAt d H' → PtV K H' v us → us.length = n → (∀ u, u ∈ us → Lo u) → (∀ u, u ∈ us → Wd 1000 u) → Q v H'
end
end SB
namespace SB
open PySem L2
theorem eqv_intsA : ∀ a b : List Int, PyData.eqvAll (a.map PyData.int) (b.map PyData.int) = decide (a = b)
  | [], [] => by decide
  | [], _ :: _ => by simp [PyData.eqvAll]
  | _ :: _, [] => by simp [PyData.eqvAll]
  | x :: r, y :: t => by
    have h := eqv_intsA r t
    simp only [List.map_cons, PyData.eqvAll, h, PyData.eqv]
    by_cases e : x = y <;> by_cases e2 : r = t <;> simp [e, e2]
theorem eqv_ints (a b : List Int) : PyData.eqv (.list (a.map PyData.int)) (.list (b.map PyData.int)) = decide (a = b) := by
  have h := eqv_intsA a b
  simp only [PyData.eqv, h]
theorem nonZ_or (zs : List Int) : NonZ zs ∨ zs = List.replicate zs.length 0 := by
  by_cases h : ∃ z, z ∈ zs ∧ z ≠ 0
  · obtain ⟨z, h1, h2⟩ := h
    exact .inl (nonZ_of h1 h2)
  · refine .inr (List.eq_replicate_iff.mpr ⟨rfl, fun z hz => ?_⟩)
    by_cases e : z = 0
    · exact e
    · exact absurd ⟨z, hz, e⟩ h
end SB
namespace SB
open PySem L2 GxR GA RZ
theorem shp_qusL (qs : List (List Int × Int)) : SeqAt.shaped (.list (qs.map quP)) = true := by
  have h := shp_qus qs
  unfold SeqAt.shaped at h ⊢
  rw [Bool.and_eq_true] at h ⊢
  refine ⟨h.1, decide_eq_true ?_⟩
  have h2 := of_decide_eq_true h.2
  simp [PyData.depth] at h2 ⊢
  omega
theorem eqv_nilL (ds : List PyData) : PyData.eqv (.list ds) (.list []) = ds.isEmpty := by
  cases ds with
  | nil => decide
  | cons j r => rfl
theorem ints_of {b : Nat} : ∀ {l : List V}, (∀ (i : Nat) (y : V), l[i]? = some y → ∃ z : Int, y = .int z ∧ z.natAbs ≤ b) → ∃ zs : List Int, l = zs.map V.int ∧ ∀ z, z ∈ zs → z.natAbs ≤ b
  | [], _ => ⟨[], rfl, fun z h => by simp at h⟩
  | y :: r, f => by
    obtain ⟨z, rfl, hz⟩ := f 0 y rfl
    obtain ⟨zs, rfl, hr⟩ := ints_of (l := r) fun i y e => f (i + 1) y (by simpa using e)
    refine ⟨z :: zs, rfl, fun k hk => ?_⟩
    rcases List.mem_cons.mp hk with rfl | hk
    · exact hz
    · exact hr k hk
/-- a list of what comes of two tuples side by side -/
theorem lc_mapZ {K : PySem.W.Frag} {a b : Addr} {xs zs : List V} {g : TG} {te : TE} {vs : List Nat} {σ : L2.St} {H1 : Hp} {D : Addr} {Qd : Hp → Prop} (R : Nat → V → Prop) (nD : H1 D = none) (hl : xs.length = zs.length) (hs : SqT K H1 a xs) (hs2 : SqT K H1 b zs) (hz : xs.length ≤ 1000)
    (step : ∀ (i : Nat) x y (T : Addr) H (Kc : VK), xs[i]? = some x → zs[i]? = some y → Gr H1 H → H T = none → (∀ v H4, Gr (upd H T (.tup [x, y])) H4 → R i v → Kc v H4) → g (.ref T) (wipe σ vs) (upd H T (.tup [x, y])) fun σ2 H2 => wipe σ2 vs = wipe σ vs ∧ te σ2 H2 Kc)
    (fin : ∀ ys H, H D = some (.lst ys) → ys.length = xs.length → Gr H1 H → (∀ i y, ys[i]? = some y → R i y) → Qd H) :
    ∃ W : Nat → Nat → Hp → Prop, (∃ m, W 0 m (upd H1 D (.lst []))) ∧ ∀ i m H, W i m H → ((ItzT K a b).stop i H ∧ Qd H) ∨
      ((ItzT K a b).go i H ∧ ∃ Nx : Hp → Prop, (∀ H', Nx H' → ∃ m', m' < m ∧ W (i + 1) m' H') ∧ ∀ x H', (ItzT K a b).yld i H x H' → g x (wipe σ vs) H' fun σ2 H2 => wipe σ2 vs = wipe σ vs ∧ tYes σ2 H2 fun b H3 =>
        if b = true then te σ2 H3 fun y H4 => ∃ acc, H4 D = some (.lst acc) ∧ acc.length < sizeLine ∧ Nx (upd H4 D (.lst (acc ++ [y]))) else Nx H3) := by
  refine ⟨fun i m H => i + m = xs.length ∧ ∃ ys, H D = some (.lst ys) ∧ ys.length = i ∧ GrD D H1 H ∧ ∀ j y, ys[j]? = some y → R j y, ⟨xs.length, Nat.zero_add _, [], upd_same, rfl, (GrD.refl D H1).set _, fun j y h => by simp at h⟩, fun i m H ⟨hm, ys, hD, hy, gr, hR⟩ => ?_⟩
  have g1 := gr.to nD
  have q1 := g1.seqT hs
  have q2 := g1.seqT hs2
  cases m with
  | zero => exact .inl ⟨⟨xs, zs, q1, q2, .inl (by omega)⟩, fin ys H hD (by omega) g1 hR⟩
  | succ m =>
    have i1 : i < xs.length := by omega
    have i2 : i < zs.length := by omega
    refine .inr ⟨⟨xs, zs, xs[i], zs[i], q1, q2, List.getElem?_eq_getElem i1, List.getElem?_eq_getElem i2⟩, fun H' => ∃ ys, H' D = some (.lst ys) ∧ ys.length = i + 1 ∧ GrD D H1 H' ∧ ∀ j y, ys[j]? = some y → R j y, fun H' h => ⟨m, Nat.lt_succ_self _, by omega, h⟩, fun v H' hyl => ?_⟩
    obtain ⟨T, x, y, rfl, nT, rfl, hx, hy2⟩ := hyl
    refine step i x y T H _ (hx xs q1) (hy2 zs q2) g1 nT fun v H4 g4 rv => ?_
    have gT : Gr H (upd H T (.tup [x, y])) := (Gr.refl H).new nT _
    have hD4 : H4 D = some (.lst ys) := (gT.trans g4).keep D _ (fun _ z => nomatch z) hD
    refine ⟨ys, hD4, small1000 (by omega), ys ++ [v], upd_same, by rw [List.length_append, hy]; rfl, (gr.trans ((gT.trans g4).d D)).set _, fun j z hz2 => ?_⟩
    by_cases hj : j < ys.length
    · rw [List.getElem?_append_left hj] at hz2
      exact hR j z hz2
    · have hl2 := (List.getElem?_eq_some_iff.mp hz2).1
      rw [List.length_append] at hl2
      have hl2 : j < ys.length + 1 := hl2
      have ej : j = ys.length := by omega
      subst ej
      rw [List.getElem?_append_right (Nat.le_refl _), Nat.sub_self] at hz2
      cases hz2
      rw [hy]
      exact rv
theorem flat_zero : ∀ n : Nat, (List.replicate n [V.int 0]).flatten = (List.replicate n (0 : Int)).map V.int
  | 0 => rfl
  | n + 1 => by
    rw [List.replicate_succ, List.flatten_cons, flat_zero n, List.replicate_succ, List.map_cons]
    rfl
/-- ways that come together again: Pst, what holds where they meet -/
theorem seq_join {t u : TS} {D : Ends} {σ : L2.St} {H : Hp} (Pst : L2.St → Hp → Prop) (h2 : ∀ σ' H', Pst σ' H' → u D σ' H') (h1 : ∀ Kn : L2.St → Hp → Prop, (∀ σ' H', Pst σ' H' → Kn σ' H') → t { D with nx := Kn } σ H) : tSeq t u D σ H := h1 (fun σ' H' => u D σ' H') h2
section
variable {P : Program} {w : World} {K : PySem.W.Frag} {mg : Str → Option Value} {base : Heap}
/-- questions in a list -/
def QlV (K : PySem.W.Frag) (H : Hp) (a : Addr) (n : Nat) (qs : List (List Int × Int)) : Prop := ∃ xs, H a = some (.lst xs) ∧ Paired (QuV K H) xs qs ∧ qs.length ≤ 8 ∧ ∀ q, q ∈ qs → Q9 q ∧ q.1.length = n
def spLine (K : PySem.W.Frag) : Sp := fun vs H Q _ => ∃ d a n qs, vs = [.ref d, .int ((n : Nat) : Int), .ref a] ∧ DeckAt d H ∧ a ≠ d ∧ 1 ≤ n ∧ n ≤ 4 ∧ QlV K H a n qs ∧ ∀ v q H', GrD d H H' → DeckAt d H' → QuV K H' v q → Q9 q → q.1.length = n → Q v H'
theorem sc_line : FnScope ["deck", "size", "lines", "far", "way", "sides", "j", "wall", "first", "second", "times", "x", "y"] ["deck", "size", "lines"] (defScope s__law_line) := ⟨rfl, rfl, rfl, by decide +kernel, rfl, by decide +kernel, by decide +kernel⟩
theorem cl_line (D : Df K mg "_law_line" s__law_line) (B : Blt mg) (CT : Cl P w K mg base 1 "_law_take" ["deck", "many"] spTake) : Cl P w K mg base 2 "_law_line" ["deck", "size", "lines"] (spLine K) := by
  refine D.cl (fun _ _ _ _ _ _ us hl => match us, hl with | [_, _, _], _ => rfl) fun f fd F => F.ok sc_line (fun vs H Q E h => ?_) (fun cdv A outer s H vs Q E hr h => ?_)
  · obtain ⟨d, a, n, qs, rfl, _⟩ := h
    rfl
  obtain ⟨d, a, n, qs, rfl, dk, nad, n1, n4, hql, hq⟩ := h
  refine ⟨_, pss_cons (ps_asg (pe_tup (pa_cons (pe_ix ix_list (pe_lst (pa_cons pe_int (pa_cons pe_int (pa_cons pe_int (pa_cons pe_int (pa_cons pe_int pa_nil)))))) (pe_cl CT (hr.mono (by decide)) (pa_cons (pv 0) (pa_cons pe_int pa_nil))) (fun _ _ => rfl)) (pa_cons (pe_cl CT (hr.mono (by decide)) (pa_cons (pv 0) (pa_cons pe_int pa_nil))) pa_nil))) (pg_tup rfl (pgs_cons (pg_name (i := 3) sc_line.nd rfl (Or.inr rfl)) (pgs_cons (pg_name (i := 4) sc_line.nd rfl (Or.inl rfl)) pgs_nil))))
    (pss_cons (ps_setLc (i := 5) (own := [("j", 6)]) (g := gName 6) rfl sc_line.nd rfl rfl rfl (pi_range1 rfl B.rng (pa_cons (pv 1) pa_nil)) (blkOk_by (N := ["deck", "size", "lines", "far", "way", "sides", "j", "wall", "first", "second", "times", "x", "y"]) (sc := defScope s__law_line) (by decide +kernel)) (fun _ _ _ _ _ => pg_name (i := 6) sc_line.nd rfl (Or.inl rfl)) (fun _ _ _ _ _ => pts_nil)
      (fun _ _ _ _ _ => pe_op op_sub (pe_cl CT (hr.mono (by decide)) (pa_cons (pv 0) (pa_cons (pe_op op_add (pe_op op_mul pe_int (pv 3)) pe_int) pa_nil))) (pv 3)))
    (pss_cons (ps_set (i := 7) sc_line.nd rfl (.inl rfl) (pe_op op_sub (pe_cl CT (hr.mono (by decide)) (pa_cons (pv 0) (pa_cons (pe_op op_add (pe_op op_mul pe_int (pv 3)) pe_int) pa_nil))) (pv 3)))
    (pss_cons (ps_if (PW.pt (by exact (pw_and (pt_cmpR (op_neD hr.units) (pv 2) (pe_lst pa_nil) (nomark _)) (pw_and1 (pt_cmpR op_lt (pv 4) pe_int (nomark _)))))) (pss_cons (ps_par (i := 8) (j := 9) rfl sc_line.nd rfl rfl (by decide) rfl rfl (pa_cons (pe_ix ix_list (pv 2) (pe_cl CT (hr.mono (by decide)) (pa_cons (pv 0) (pa_cons (pe_len (pv 2) B.len) pa_nil))) (fun _ _ => rfl)) (pa_cons (pe_ix ix_list (pv 2) (pe_cl CT (hr.mono (by decide)) (pa_cons (pv 0) (pa_cons (pe_len (pv 2) B.len) pa_nil))) (fun _ _ => rfl)) pa_nil)) rfl) (pss_cons (ps_set (i := 10) sc_line.nd rfl (.inr rfl) (pe_ix ix_list (pe_lst (pa_cons (pe_tup (pa_cons pe_int (pa_cons pe_int pa_nil))) (pa_cons (pe_tup (pa_cons pe_int (pa_cons pe_int pa_nil))) (pa_cons (pe_tup (pa_cons (pe_un un_neg pe_int) (pa_cons pe_int pa_nil))) (pa_cons (pe_tup (pa_cons pe_int (pa_cons pe_int pa_nil))) (pa_cons (pe_tup (pa_cons pe_int (pa_cons (pe_un un_neg pe_int) pa_nil))) (pa_cons (pe_tup (pa_cons pe_int (pa_cons (pe_un un_neg pe_int) pa_nil))) pa_nil))))))) (pe_cl CT (hr.mono (by decide)) (pa_cons (pv 0) (pa_cons pe_int pa_nil))) (fun _ _ => rfl))) (pss_cons (ps_setLc (i := 5) (own := [("x", 11), ("y", 12)]) (g := gTup K 2 (gCons (gName 11) (gCons (gName 12) gNil))) rfl sc_line.nd rfl rfl rfl (pi_zipA rfl B.zip (pa_cons (pe_ix ix_tup (pv 8) pe_int (fun _ _ => rfl)) (pa_cons (pe_ix ix_tup (pv 9) pe_int (fun _ _ => rfl)) pa_nil))) (blkOk_by (N := ["deck", "size", "lines", "far", "way", "sides", "j", "wall", "first", "second", "times", "x", "y"]) (sc := defScope s__law_line) (by decide +kernel)) (fun _ _ _ _ _ => pg_tup rfl (pgs_cons (pg_name (i := 11) sc_line.nd rfl (Or.inl rfl)) (pgs_cons (pg_name (i := 12) sc_line.nd rfl (Or.inl rfl)) pgs_nil))) (fun _ _ _ _ _ => pts_nil) (fun _ _ _ _ _ => pe_op op_add (pe_op op_mul (pe_ix (r := rIxT K) ix_tup (pv 10) pe_int (fun _ _ => rfl)) (pv 11)) (pe_op op_mul (pe_ix (r := rIxT K) ix_tup (pv 10) pe_int (fun _ _ => rfl)) (pv 12)))) (pss_one (ps_set (i := 7) sc_line.nd rfl (.inl rfl) (pe_ix ix_list (pe_lst (pa_cons (pv 7) (pa_cons (pe_op op_add (pe_op op_mul (pe_ix ix_tup (pv 10) pe_int (fun _ _ => rfl)) (pe_ix ix_tup (pv 8) pe_int (fun _ _ => rfl))) (pe_op op_mul (pe_ix ix_tup (pv 10) pe_int (fun _ _ => rfl)) (pe_ix ix_tup (pv 9) pe_int (fun _ _ => rfl)))) (pa_cons pe_int pa_nil)))) (pe_cl CT (hr.mono (by decide)) (pa_cons (pv 0) (pa_cons pe_int pa_nil))) (fun _ _ => rfl))))))) pss_nil)
    (pss_cons (ps_if (pt_cmpR op_eq (pv 4) pe_int (nomark _)) (pss_one (ps_set (i := 7) sc_line.nd rfl (.inl rfl) pe_int)) pss_nil)
    (pss_cons (ps_if (PW.pt (by exact (pw_or (pt_cmpR op_gt (pe_callB (cr_max rfl) rfl B.max PyProof.Rows.boot_max (pa_cons (pe_op op_cat (pe_lc (own := [("x", 11)]) (g := gName 11) rfl sc_line.nd (pi_list (pv 5)) (blkOk_by (N := ["deck", "size", "lines", "far", "way", "sides", "j", "wall", "first", "second", "times", "x", "y"]) (sc := defScope s__law_line) (by decide +kernel)) (fun _ _ _ _ _ => pg_name (i := 11) sc_line.nd rfl (Or.inl rfl)) (fun _ _ _ _ _ => pts_nil) (fun _ _ _ _ _ => (pe_callB call_abs rfl B.abs PyProof.Rows.boot_abs (pa_cons (pv 11) pa_nil)))) (pe_lst (pa_cons (pe_callB call_abs rfl B.abs PyProof.Rows.boot_abs (pa_cons (pv 7) pa_nil)) pa_nil))) pa_nil)) pe_int (nomark _)) (pw_or1 (pt_cmpR (op_eqD hr.units) (pv 5) (pe_op op_rep (pe_lst (pa_cons pe_int pa_nil)) (pv 1)) (nomark _)))))) (pss_cons (ps_set (i := 5) sc_line.nd rfl (.inl rfl) (pe_op op_rep (pe_lst (pa_cons pe_int pa_nil)) (pv 1))) (pss_cons (ps_asg (pe_ix ix_list (pe_lst (pa_cons pe_int (pa_cons (pe_un un_neg pe_int) (pa_cons pe_int pa_nil)))) (pe_cl CT (hr.mono (by decide)) (pa_cons (pv 0) (pa_cons pe_int pa_nil))) (fun _ _ => rfl)) (pg_sub (pv 5) (pe_cl CT (hr.mono (by decide)) (pa_cons (pv 0) (pa_cons (pv 1) pa_nil))) set_list)) (pss_one (ps_set (i := 7) sc_line.nd rfl (.inl rfl) (pe_op op_sub (pe_cl CT (hr.mono (by decide)) (pa_cons (pv 0) (pa_cons pe_int pa_nil))) pe_int))))) pss_nil)
    (pss_one (ps_ret (pe_tup (pa_cons (pe_callTy call_tuple_of rfl B.tup bootTup (pa_cons (pv 5) pa_nil)) (pa_cons (pv 7) pa_nil)))))))))), ?_⟩
  refine ⟨szN (by show 5 ≤ 1000000; decide), fun p0 n0 => ?_⟩
  have k0 := (Gr.refl H).new n0 (.lst [.int 1, .int 1, .int 2, .int 3, .int 9])
  refine ⟨_, rfl, d, 5, rfl, dk.gr k0, by decide, by decide +kernel, fun t H1 t0 t1 g1 dk1 => ?_⟩
  have l0 : SqL K H1 p0 [.int 1, .int 1, .int 2, .int 3, .int 9] := SqL.of (g1.keep p0 _ (dk.ne n0) (fun _ z => nomatch z) upd_same)
  have g01 := (k0.d d).trans g1
  have hF : ∃ F : Int, atI ([.int 1, .int 1, .int 2, .int 3, .int 9] : List V) t = some (.int F) ∧ 1 ≤ F ∧ F ≤ 9 := by
    have : t = 0 ∨ t = 1 ∨ t = 2 ∨ t = 3 ∨ t = 4 := by omega
    rcases this with rfl | rfl | rfl | rfl | rfl
    · exact ⟨1, rfl, by decide, by decide⟩
    · exact ⟨1, rfl, by decide, by decide⟩
    · exact ⟨2, rfl, by decide, by decide⟩
    · exact ⟨3, rfl, by decide, by decide⟩
    · exact ⟨9, rfl, by decide, by decide⟩
  obtain ⟨F', aF, F1, F9⟩ := hF
  refine ⟨p0, _, _, _, rfl, rfl, l0, aF, _, rfl, d, 6, rfl, dk1, by decide, by decide +kernel, fun wy H2 y0 y1 g2 dk2 => ⟨szN (by show 2 ≤ 1000000; decide), fun p1 n1 => ?_⟩⟩
  have k2 := (Gr.refl H2).new n1 (.tup [.int F', .int wy])
  refine ⟨p1, _, rfl, SqT.of upd_same, rfl, _, _, rfl, _, _, rfl, rfl, ?_⟩
  have g03 := (g01.trans g2).gr k2
  have dk3 := dk2.gr k2
  generalize upd H2 p1 (.tup [.int F', .int wy]) = H3 at k2 g03 dk3 ⊢
  have fb : (2 * F' + 1).natAbs < 2 ^ 8000 := Nat.lt_of_le_of_lt (by omega : (2 * F' + 1).natAbs ≤ 19) (by decide +kernel)
  refine ⟨_, rfl, _, rfl, by omega, by omega, fun D nD => lc_deckR (K := K) (lo := 0) (fun _ y _ => ∃ z : Int, y = .int z ∧ z.natAbs ≤ 9) (fun _ _ _ _ h _ => h) nD dk3 (by rw [Int.toNat_natCast]; omega) (fun i H5 Kc _ g5 dk5 kc => ?_) (fun ys H4 hD hl g4 dk4 hR => ?_)⟩
  · refine ⟨rfl, _, rfl, _, rfl, _, _, rfl, rfl, .inl ⟨by decide, by decide⟩, _, _, rfl, rfl, d, _, rfl, dk5, by omega, fb, fun u H6 u0 u1 g6 dk6 => ⟨_, rfl, _, _, rfl, rfl, kc _ _ g6 dk6 ⟨_, rfl, by omega⟩⟩⟩
  rw [Int.toNat_natCast] at hl
  refine ⟨_, rfl, _, rfl, _, _, rfl, rfl, .inl ⟨by decide, by decide⟩, _, _, rfl, rfl, d, _, rfl, dk4, by omega, fb, fun u H6 u0 u1 g6 dk6 => ⟨_, rfl, _, _, rfl, rfl, ?_⟩⟩
  have hz : ∃ zs : List Int, ys = zs.map V.int ∧ ∀ z, z ∈ zs → z.natAbs ≤ 9 := by
    have : ∀ {l : List V}, (∀ (i : Nat) (y : V), l[i]? = some y → ∃ z : Int, y = .int z ∧ z.natAbs ≤ 9) → ∃ zs : List Int, l = zs.map V.int ∧ ∀ z, z ∈ zs → z.natAbs ≤ 9 := fun {l} => by
      induction l with
      | nil => exact fun _ => ⟨[], rfl, fun z h => by simp at h⟩
      | cons y r ih =>
        intro f
        obtain ⟨z, rfl, hz⟩ := f 0 y rfl
        obtain ⟨zs, rfl, hr⟩ := ih fun i y e => f (i + 1) y (by simpa using e)
        refine ⟨z :: zs, rfl, fun k hk => ?_⟩
        rcases List.mem_cons.mp hk with rfl | hk
        · exact hz
        · exact hr k hk
    exact this hR
  obtain ⟨zs, rfl, z9⟩ := hz
  rw [List.length_map] at hl
  have nd := dk3.ne nD
  have hD6 : H6 D = some (.lst (zs.map V.int)) := g6.keep D _ nd (fun _ z => nomatch z) hD
  have g06 := (g03.trans g4).trans g6
  let Pst : L2.St → Hp → Prop := fun σ' H' => ∃ (zs : List Int) (wl : Int) (Dz : Addr) (c6 c8 c9 c10 c11 c12 : Option V), σ' = [some (.ref d), some (.int ((n : Nat) : Int)), some (.ref a), some (.int F'), some (.int wy), some (.ref Dz), c6, some (.int wl), c8, c9, c10, c11, c12] ∧
    H' Dz = some (.lst (zs.map V.int)) ∧ Dz ≠ d ∧ zs.length = n ∧ (∀ z, z ∈ zs → z.natAbs ≤ 100) ∧ wl.natAbs ≤ 100 ∧ GrD d H H' ∧ DeckAt d H'
  refine seq_join Pst (fun σ' H' h => ?_) (fun Kn hK => hK _ _ ⟨zs, _, D, _, _, _, _, _, _, rfl, hD6, nd, hl, fun z h => Nat.le_trans (z9 z h) (by decide), by omega, g06, dk6⟩)
  clear z9 hl hD6 nd g06 dk6
  obtain ⟨zs, wl, D, c6, c8, c9, c10, c11, c12, rfl, hD6, nd, hl, z9, w9, g06, dk6⟩ := h
  refine seq_join Pst (fun σ' H'' h => ?_) (fun Kn hK => ?_)
  · refine seq_join Pst (fun σ2 H2' h2 => ?_) (fun Kn hK => ?_)
    · let Pen : L2.St → Hp → Prop := fun σ' H' => ∃ (zs : List Int) (wl : Int) (Dz : Addr) (c6 c8 c9 c10 c11 c12 : Option V), σ' = [some (.ref d), some (.int ((n : Nat) : Int)), some (.ref a), some (.int F'), some (.int wy), some (.ref Dz), c6, some (.int wl), c8, c9, c10, c11, c12] ∧
        H' Dz = some (.lst (zs.map V.int)) ∧ zs.length = n ∧ (∀ z, z ∈ zs → z.natAbs ≤ 9) ∧ wl.natAbs ≤ 9 ∧ NonZ zs ∧ GrD d H H' ∧ DeckAt d H'
      refine seq_join Pen (fun σ3 H3' h3 => ?_) (fun Kn hK => ?_)
      · obtain ⟨zs, wl, D, c6, c8, c9, c10, c11, c12, rfl, hD, hl, z9, w9, nz, g, dk⟩ := h3
        refine ⟨_, rfl, D, _, rfl, .inl ⟨SqL.of hD, fun p2 m2 => ⟨_, rfl, szN (by show 2 ≤ 1000000; decide), fun p3 m3 => ?_⟩⟩⟩
        have r2 := (Gr.refl H3').new m2 (.tup (zs.map V.int))
        have r3 := r2.new m3 (.tup [.ref p2, .int wl])
        exact hq _ (zs, wl) _ (g.gr r3) (dk.gr r3) ⟨p3, _, rfl, SqT.of upd_same, p2, rfl, ((Gr.refl _).new m3 _).seqT (SqT.of upd_same)⟩ ⟨nz, fun z hz => Nat.lt_of_le_of_lt (z9 z hz) (by decide), Nat.lt_of_le_of_lt w9 (by decide)⟩ hl
      · obtain ⟨zs, wl, D, c6, c8, c9, c10, c11, c12, rfl, hD, nd, hl, z9, w9, g, dk⟩ := h2
        refine ⟨_, rfl, D, rfl, ⟨_, SqL.of hD⟩, fun D6 nD6 => lc_mapL (K := K) (xs := zs.map V.int) (fun i y _ => ∃ z : Int, zs[i]? = some z ∧ y = .int ((z.natAbs : Nat) : Int)) (fun _ _ _ _ h _ => h) nD6 (SqL.of hD) (by rw [List.length_map]; omega) (fun i x H5 Kc hx g5 kc => ?_) (fun ys H5 hD5 hl5 g5 hR5 => ?_)⟩
        · rw [List.getElem?_map] at hx
          obtain ⟨z, hz, rfl⟩ := Option.map_eq_some_iff.mp hx
          exact ⟨rfl, _, rfl, z, rfl, kc _ _ (Gr.refl _) ⟨z, hz, by rw [abs_nat]⟩⟩
        · have ey : ys = (zs.map fun z => ((z.natAbs : Nat) : Int)).map V.int := by
            refine ints_at (by rw [hl5, List.length_map, List.length_map]) fun i y hy => ?_
            obtain ⟨z, hz, rfl⟩ := hR5 i y hy
            exact ⟨_, by rw [List.getElem?_map, hz]; rfl, rfl⟩
          subst ey
          refine ⟨_, rfl, wl, rfl, szN (by show 1 ≤ 1000000; decide), fun p6 m6 => ?_⟩
          have r6 := (Gr.refl H5).new m6 (.lst [.int (if wl < 0 then -wl else wl)])
          have e6 : (upd H5 p6 (.lst [.int (if wl < 0 then -wl else wl)])) D6 = some (.lst ((zs.map fun z => ((z.natAbs : Nat) : Int)).map V.int)) := r6.keep D6 _ (fun _ z => nomatch z) hD5
          refine ⟨D6, p6, _, _, rfl, rfl, e6, upd_same, by rw [List.length_map, List.length_map]; exact szN (by show zs.length + 1 ≤ 1000000; omega), fun p7 m7 => ?_⟩
          have r7 := r6.new m7 (.lst ((zs.map fun z => ((z.natAbs : Nat) : Int)).map V.int ++ [.int (if wl < 0 then -wl else wl)]))
          refine ⟨p7, (zs.map fun z => ((z.natAbs : Nat) : Int)) ++ [((wl.natAbs : Nat) : Int)], rfl, SqL.of (by rw [upd_same, List.map_append, abs_nat]; rfl), by rw [List.length_append]; show 0 < _ + 1; omega, fun mx hm hge => ?_⟩
          refine ⟨_, _, rfl, rfl, _, rfl, ?_⟩
          have k7 := g5.trans r7
          have hD7 : (upd (upd H5 p6 (.lst [.int (if wl < 0 then -wl else wl)])) p7 (.lst ((zs.map fun z => ((z.natAbs : Nat) : Int)).map V.int ++ [.int (if wl < 0 then -wl else wl)]))) D = some (.lst (zs.map V.int)) := k7.keep D _ (fun _ z => nomatch z) hD
          have g7 := g.gr k7
          have dk7 := dk.gr k7
          generalize upd (upd H5 p6 (.lst [.int (if wl < 0 then -wl else wl)])) p7 (.lst ((zs.map fun z => ((z.natAbs : Nat) : Int)).map V.int ++ [.int (if wl < 0 then -wl else wl)])) = H7 at k7 hD7 g7 dk7 ⊢
          by_cases c : 9 < mx
          · refine iteP c ?_
            refine ⟨szN (by show 1 ≤ 1000000; decide), fun q0 u0' => ?_⟩
            have f0 := (Gr.refl H7).new u0' (.lst [.int 0])
            refine ⟨_, rfl, q0, _, _, rfl, rfl, upd_same, by omega, by omega, by rw [Int.toNat_natCast]; exact szN (by show 1 * n ≤ 1000000; omega), fun q1 u1' => ?_⟩
            have ez : (List.replicate ((n : Nat) : Int).toNat [V.int 0]).flatten = (List.replicate n (0 : Int)).map V.int := by rw [Int.toNat_natCast, flat_zero]
            rw [ez]
            have f1 := f0.new u1' (.lst ((List.replicate n (0 : Int)).map V.int))
            have f1b := (Gr.refl (upd H7 q0 (.lst [.int 0]))).new u1' (.lst ((List.replicate n (0 : Int)).map V.int))
            have e1 := upd_same (H := upd H7 q0 (.lst [.int 0])) (a := q1) (o := .lst ((List.replicate n (0 : Int)).map V.int))
            have n1d := (dk7.gr f0).ne u1'
            have j1 := dk7.gr f1
            have h1 := g7.gr f1
            generalize upd (upd H7 q0 (.lst [.int 0])) q1 (.lst ((List.replicate n (0 : Int)).map V.int)) = W1 at f1 f1b e1 j1 h1 ⊢
            refine ⟨_, rfl, szN (by show 3 ≤ 1000000; decide), fun q2 u2' => ?_⟩
            have f2 := (Gr.refl W1).new u2' (.lst [.int 1, .int (-1), .int 2])
            refine ⟨_, rfl, d, 3, rfl, j1.gr f2, by decide, by decide +kernel, fun ta W2 ta0 ta1 f3 j2 => ?_⟩
            have l2 : SqL K W2 q2 [.int 1, .int (-1), .int 2] := SqL.of (f3.keep q2 _ (j1.ne u2') (fun _ z => nomatch z) upd_same)
            have e2 : W2 q1 = some (.lst ((List.replicate n (0 : Int)).map V.int)) := f3.keep q1 _ n1d (fun _ z => nomatch z) (f2.keep q1 _ (fun _ z => nomatch z) e1)
            have hv : ∃ v : Int, atI ([.int 1, .int (-1), .int 2] : List V) ta = some (.int v) ∧ v.natAbs ≤ 9 ∧ v ≠ 0 := by
              have : ta = 0 ∨ ta = 1 ∨ ta = 2 := by omega
              rcases this with rfl | rfl | rfl
              · exact ⟨_, rfl, by decide, by decide⟩
              · exact ⟨_, rfl, by decide, by decide⟩
              · exact ⟨_, rfl, by decide, by decide⟩
            obtain ⟨v, av, v9, v0⟩ := hv
            refine ⟨q2, _, _, _, rfl, rfl, l2, av, ?_⟩
            refine ⟨_, rfl, _, rfl, _, rfl, d, _, rfl, j2, by omega, big_take (by omega), fun tb W3 tb0 tb1 f4 j3 => ?_⟩
            obtain ⟨kb, rfl⟩ : ∃ k : Nat, tb = (k : Int) := ⟨tb.toNat, by omega⟩
            have e3 : W3 q1 = some (.lst ((List.replicate n (0 : Int)).map V.int)) := f4.keep q1 _ n1d (fun _ z => nomatch z) e2
            refine ⟨q1, _, _, kb, rfl, rfl, e3, ixN_nat (by rw [List.length_map, List.length_replicate]; omega), ?_⟩
            have j4 := j3.put n1d (.lst (((List.replicate n (0 : Int)).map V.int).set kb (.int v)))
            have h4 : GrD d H (upd W3 q1 (.lst (((List.replicate n (0 : Int)).map V.int).set kb (.int v)))) := (g7.gr f0).trans (((((f1b.d d).trans (f2.d d)).trans f3).trans f4).put u1' _)
            refine ⟨_, rfl, d, 7, rfl, j4, by decide, by decide +kernel, fun tc W4 tc0 tc1 f5 j5 => ⟨_, _, rfl, rfl, ?_⟩⟩
            have e4 : W4 q1 = some (.lst (((List.replicate n (0 : Int)).set kb v).map V.int)) := f5.keep q1 _ n1d (fun _ z => nomatch z) (by rw [upd_same, List.map_set])
            refine hK _ W4 ⟨(List.replicate n (0 : Int)).set kb v, _, q1, c6, c8, c9, c10, c11, c12, rfl, e4, by rw [List.length_set, List.length_replicate], fun z hz => ?_, by omega, nonZ_of (List.mem_set (by rw [List.length_replicate]; omega) v) v0, h4.trans f5, j5⟩
            rcases List.mem_or_eq_of_mem_set hz with h | h
            · rw [(List.mem_replicate.mp h).2]; decide
            · rw [h]; exact v9
          · refine iteN c ?_
            have z99 : ∀ z, z ∈ zs → z.natAbs ≤ 9 := fun z hz => by
              have := hge _ (List.mem_append_left _ (List.mem_map.mpr ⟨z, hz, rfl⟩))
              omega
            have w99 : wl.natAbs ≤ 9 := by
              have := hge _ (List.mem_append_right _ (List.mem_singleton.mpr rfl))
              omega
            refine ⟨_, rfl, szN (by show 1 ≤ 1000000; decide), fun o0 w0' => ?_⟩
            have f0 := (Gr.refl H7).new w0' (.lst [.int 0])
            refine ⟨_, rfl, o0, _, _, rfl, rfl, upd_same, by omega, by omega, by rw [Int.toNat_natCast]; exact szN (by show 1 * n ≤ 1000000; omega), fun o1 w1' => ?_⟩
            have ez : (List.replicate ((n : Nat) : Int).toNat [V.int 0]).flatten = (List.replicate n (0 : Int)).map V.int := by rw [Int.toNat_natCast, flat_zero]
            rw [ez]
            have f1 := f0.new w1' (.lst ((List.replicate n (0 : Int)).map V.int))
            have e1 := upd_same (H := upd H7 o0 (.lst [.int 0])) (a := o1) (o := .lst ((List.replicate n (0 : Int)).map V.int))
            have hDw : (upd (upd H7 o0 (.lst [.int 0])) o1 (.lst ((List.replicate n (0 : Int)).map V.int))) D = some (.lst (zs.map V.int)) := f1.keep D _ (fun _ z => nomatch z) hD7
            have gw := g7.gr f1
            have dkw := dk7.gr f1
            generalize upd (upd H7 o0 (.lst [.int 0])) o1 (.lst ((List.replicate n (0 : Int)).map V.int)) = W0 at f1 e1 hDw gw dkw ⊢
            refine ⟨.list (zs.map PyData.int), .list ((List.replicate n (0 : Int)).map PyData.int), .lst (SqL.of hDw) (dp_ints zs), .lst (SqL.of e1) (dp_ints _), shp_ints zs, shp_ints _, _, rfl, ?_⟩
            rw [eqv_ints]
            clear f0 f1 e1 ez
            by_cases cz : zs = List.replicate n 0
            · refine iteP cz ?_
              refine ⟨szN (by show 1 ≤ 1000000; decide), fun q0 u0' => ?_⟩
              have f0 := (Gr.refl W0).new u0' (.lst [.int 0])
              refine ⟨_, rfl, q0, _, _, rfl, rfl, upd_same, by omega, by omega, by rw [Int.toNat_natCast]; exact szN (by show 1 * n ≤ 1000000; omega), fun q1 u1' => ?_⟩
              have ez : (List.replicate ((n : Nat) : Int).toNat [V.int 0]).flatten = (List.replicate n (0 : Int)).map V.int := by rw [Int.toNat_natCast, flat_zero]
              rw [ez]
              have f1 := f0.new u1' (.lst ((List.replicate n (0 : Int)).map V.int))
              have f1b := (Gr.refl (upd W0 q0 (.lst [.int 0]))).new u1' (.lst ((List.replicate n (0 : Int)).map V.int))
              have e1 := upd_same (H := upd W0 q0 (.lst [.int 0])) (a := q1) (o := .lst ((List.replicate n (0 : Int)).map V.int))
              have n1d := (dkw.gr f0).ne u1'
              have j1 := dkw.gr f1
              have h1 := gw.gr f1
              generalize upd (upd W0 q0 (.lst [.int 0])) q1 (.lst ((List.replicate n (0 : Int)).map V.int)) = W1 at f1 f1b e1 j1 h1 ⊢
              refine ⟨_, rfl, szN (by show 3 ≤ 1000000; decide), fun q2 u2' => ?_⟩
              have f2 := (Gr.refl W1).new u2' (.lst [.int 1, .int (-1), .int 2])
              refine ⟨_, rfl, d, 3, rfl, j1.gr f2, by decide, by decide +kernel, fun ta W2 ta0 ta1 f3 j2 => ?_⟩
              have l2 : SqL K W2 q2 [.int 1, .int (-1), .int 2] := SqL.of (f3.keep q2 _ (j1.ne u2') (fun _ z => nomatch z) upd_same)
              have e2 : W2 q1 = some (.lst ((List.replicate n (0 : Int)).map V.int)) := f3.keep q1 _ n1d (fun _ z => nomatch z) (f2.keep q1 _ (fun _ z => nomatch z) e1)
              have hv : ∃ v : Int, atI ([.int 1, .int (-1), .int 2] : List V) ta = some (.int v) ∧ v.natAbs ≤ 9 ∧ v ≠ 0 := by
                have : ta = 0 ∨ ta = 1 ∨ ta = 2 := by omega
                rcases this with rfl | rfl | rfl
                · exact ⟨_, rfl, by decide, by decide⟩
                · exact ⟨_, rfl, by decide, by decide⟩
                · exact ⟨_, rfl, by decide, by decide⟩
              obtain ⟨v, av, v9, v0⟩ := hv
              refine ⟨q2, _, _, _, rfl, rfl, l2, av, ?_⟩
              refine ⟨_, rfl, _, rfl, _, rfl, d, _, rfl, j2, by omega, big_take (by omega), fun tb W3 tb0 tb1 f4 j3 => ?_⟩
              obtain ⟨kb, rfl⟩ : ∃ k : Nat, tb = (k : Int) := ⟨tb.toNat, by omega⟩
              have e3 : W3 q1 = some (.lst ((List.replicate n (0 : Int)).map V.int)) := f4.keep q1 _ n1d (fun _ z => nomatch z) e2
              refine ⟨q1, _, _, kb, rfl, rfl, e3, ixN_nat (by rw [List.length_map, List.length_replicate]; omega), ?_⟩
              have j4 := j3.put n1d (.lst (((List.replicate n (0 : Int)).map V.int).set kb (.int v)))
              have h4 : GrD d H (upd W3 q1 (.lst (((List.replicate n (0 : Int)).map V.int).set kb (.int v)))) := (gw.gr f0).trans (((((f1b.d d).trans (f2.d d)).trans f3).trans f4).put u1' _)
              refine ⟨_, rfl, d, 7, rfl, j4, by decide, by decide +kernel, fun tc W4 tc0 tc1 f5 j5 => ⟨_, _, rfl, rfl, ?_⟩⟩
              have e4 : W4 q1 = some (.lst (((List.replicate n (0 : Int)).set kb v).map V.int)) := f5.keep q1 _ n1d (fun _ z => nomatch z) (by rw [upd_same, List.map_set])
              refine hK _ W4 ⟨(List.replicate n (0 : Int)).set kb v, _, q1, c6, c8, c9, c10, c11, c12, rfl, e4, by rw [List.length_set, List.length_replicate], fun z hz => ?_, by omega, nonZ_of (List.mem_set (by rw [List.length_replicate]; omega) v) v0, h4.trans f5, j5⟩
              rcases List.mem_or_eq_of_mem_set hz with h | h
              · rw [(List.mem_replicate.mp h).2]; decide
              · rw [h]; exact v9
            · refine iteN cz (hK _ W0 ⟨zs, wl, D, c6, c8, c9, c10, c11, c12, rfl, hDw, hl, z99, w99, ?_, gw, dkw⟩)
              rcases nonZ_or zs with h | h
              · exact h
              · rw [hl] at h
                exact absurd h cz
    · obtain ⟨zs, wl, D, c6, c8, c9, c10, c11, c12, rfl, hD, nd, hl, z9, w9, g, dk⟩ := h
      refine ⟨_, rfl, rfl, _, rfl, ?_⟩
      by_cases c : wy = 2
      · exact iteP (by rw [c]) (hK _ _ ⟨zs, 0, D, c6, c8, c9, c10, c11, c12, rfl, hD, nd, hl, z9, by decide, g, dk⟩)
      · exact iteN (fun z => c (by injection z)) (hK _ _ ⟨zs, wl, D, c6, c8, c9, c10, c11, c12, rfl, hD, nd, hl, z9, w9, g, dk⟩)
  · obtain ⟨xs, hxs, pq, l8, q9⟩ := hql
    have ha6 : H' a = some (.lst xs) := g06.keep a _ nad (fun _ z => nomatch z) hxs
    have pq6 : Paired (QuV K H') xs qs := Paired.mapP pq fun _ _ q => q.st (g06.st dk)
    refine ⟨_, rfl, szN (by show 0 ≤ 1000000; decide), fun p2 np2 => ?_⟩
    have kp := (Gr.refl H').new np2 (.lst [])
    refine ⟨.list (qs.map quP), .list [], .lst (SqL.of (kp.keep a _ (fun _ z => nomatch z) ha6)) (dp_qus (Paired.mapP pq6 fun _ _ q => q.gr kp)), .lst (SqL.of upd_same) .nil, shp_qusL qs, by decide, _, rfl, ?_⟩
    rw [eqv_nilL]
    have g07 := g06.gr kp
    have dk7 := dk6.gr kp
    have hD7 : (upd H' p2 (.lst [])) D = some (.lst (zs.map V.int)) := kp.keep D _ (fun _ z => nomatch z) hD6
    have ha7 : (upd H' p2 (.lst [])) a = some (.lst xs) := kp.keep a _ (fun _ z => nomatch z) ha6
    have pq7 : Paired (QuV K (upd H' p2 (.lst []))) xs qs := Paired.mapP pq6 fun _ _ q => q.gr kp
    generalize upd H' p2 (.lst []) = H7 at g07 dk7 hD7 ha7 pq7 ⊢
    have stay := hK _ H7 ⟨zs, wl, D, c6, c8, c9, c10, c11, c12, rfl, hD7, nd, hl, z9, w9, g07, dk7⟩
    cases hne : qs with
    | nil => exact iteF stay
    | cons q0 r0 =>
      rw [← hne]
      have lpos : 0 < qs.length := by rw [hne]; exact Nat.succ_pos _
      have gn : (qs.map quP).isEmpty = false := by rw [hne]; rfl
      rw [gn]
      refine iteT ⟨_, rfl, _, _, rfl, rfl, _, rfl, ?_⟩
      by_cases cw : wy < 2
      · refine iteP cw ?_
        have lxs : xs.length = qs.length := paired_len pq7
        refine ⟨_, rfl, _, rfl, _, rfl, a, xs, rfl, .inl (SqL.of ha7), d, _, rfl, dk7, by omega, big_take (by omega), fun t8 H8 t80 t81 g8 dk8 => ?_⟩
        obtain ⟨k8, rfl⟩ : ∃ k : Nat, t8 = (k : Int) := ⟨t8.toNat, by omega⟩
        have ha8 : H8 a = some (.lst xs) := g8.keep a _ nad (fun _ z => nomatch z) ha7
        have ex8 : xs[k8]? = some xs[k8] := List.getElem?_eq_getElem (by omega)
        refine ⟨a, xs, _, xs[k8], rfl, rfl, SqL.of ha8, atI_nat ex8, _, rfl, _, rfl, _, rfl, a, xs, rfl, .inl (SqL.of ha8), d, _, rfl, dk8, by omega, big_take (by omega), fun t9 H9 t90 t91 g9 dk9 => ?_⟩
        obtain ⟨k9, rfl⟩ : ∃ k : Nat, t9 = (k : Int) := ⟨t9.toNat, by omega⟩
        have ha9 : H9 a = some (.lst xs) := g9.keep a _ nad (fun _ z => nomatch z) ha8
        have ex9 : xs[k9]? = some xs[k9] := List.getElem?_eq_getElem (by omega)
        have pq9 : Paired (QuV K H9) xs qs := Paired.mapP pq7 fun _ _ q => (q.st (g8.st dk7)).st (g9.st dk8)
        obtain ⟨q1, eq1, v1⟩ := paired_get pq9 ex8
        obtain ⟨q2, eq2, v2⟩ := paired_get pq9 ex9
        obtain ⟨q91, ql1⟩ := q9 q1 (List.mem_of_getElem? eq1)
        obtain ⟨q92, ql2⟩ := q9 q2 (List.mem_of_getElem? eq2)
        refine ⟨a, xs, _, xs[k9], rfl, rfl, SqL.of ha9, atI_nat ex9, _, _, rfl, ?_⟩
        generalize xs[k8] = x1 at v1 ⊢
        generalize xs[k9] = x2 at v2 ⊢
        have g09 := (g07.trans g8).trans g9
        refine ⟨szN (by show 2 ≤ 1000000; decide), fun a0 m0 => ?_⟩
        have r0 := (Gr.refl H9).new m0 (.tup [.int 1, .int 0])
        have s0 : SqT K (upd H9 a0 (.tup [.int 1, .int 0])) a0 [.int 1, .int 0] := SqT.of upd_same
        generalize upd H9 a0 (.tup [.int 1, .int 0]) = G0 at r0 s0 ⊢
        refine ⟨szN (by show 2 ≤ 1000000; decide), fun a1 m1 => ?_⟩
        have r1 := (Gr.refl G0).new m1 (.tup [.int 2, .int 0])
        have s1 : SqT K (upd G0 a1 (.tup [.int 2, .int 0])) a1 [.int 2, .int 0] := SqT.of upd_same
        have s0 := r1.seqT s0
        generalize upd G0 a1 (.tup [.int 2, .int 0]) = G1 at r1 s0 s1 ⊢
        refine ⟨_, rfl, szN (by show 2 ≤ 1000000; decide), fun a2 m2 => ?_⟩
        have r2 := (Gr.refl G1).new m2 (.tup [.int (-1), .int 0])
        have s2 : SqT K (upd G1 a2 (.tup [.int (-1), .int 0])) a2 [.int (-1), .int 0] := SqT.of upd_same
        have s0 := r2.seqT s0
        have s1 := r2.seqT s1
        generalize upd G1 a2 (.tup [.int (-1), .int 0]) = G2 at r2 s0 s1 s2 ⊢
        refine ⟨szN (by show 2 ≤ 1000000; decide), fun a3 m3 => ?_⟩
        have r3 := (Gr.refl G2).new m3 (.tup [.int 1, .int 1])
        have s3 : SqT K (upd G2 a3 (.tup [.int 1, .int 1])) a3 [.int 1, .int 1] := SqT.of upd_same
        have s0 := r3.seqT s0
        have s1 := r3.seqT s1
        have s2 := r3.seqT s2
        generalize upd G2 a3 (.tup [.int 1, .int 1]) = G3 at r3 s0 s1 s2 s3 ⊢
        refine ⟨_, rfl, szN (by show 2 ≤ 1000000; decide), fun a4 m4 => ?_⟩
        have r4 := (Gr.refl G3).new m4 (.tup [.int 1, .int (-1)])
        have s4 : SqT K (upd G3 a4 (.tup [.int 1, .int (-1)])) a4 [.int 1, .int (-1)] := SqT.of upd_same
        have s0 := r4.seqT s0
        have s1 := r4.seqT s1
        have s2 := r4.seqT s2
        have s3 := r4.seqT s3
        generalize upd G3 a4 (.tup [.int 1, .int (-1)]) = G4 at r4 s0 s1 s2 s3 s4 ⊢
        refine ⟨_, rfl, szN (by show 2 ≤ 1000000; decide), fun a5 m5 => ?_⟩
        have r5 := (Gr.refl G4).new m5 (.tup [.int 2, .int (-1)])
        have s5 : SqT K (upd G4 a5 (.tup [.int 2, .int (-1)])) a5 [.int 2, .int (-1)] := SqT.of upd_same
        have s0 := r5.seqT s0
        have s1 := r5.seqT s1
        have s2 := r5.seqT s2
        have s3 := r5.seqT s3
        have s4 := r5.seqT s4
        generalize upd G4 a5 (.tup [.int 2, .int (-1)]) = G5 at r5 s0 s1 s2 s3 s4 s5 ⊢
        have rr := ((((r0.trans r1).trans r2).trans r3).trans r4).trans r5
        refine ⟨szN (by show 6 ≤ 1000000; decide), fun a6 m6 => ?_⟩
        have r6 := (Gr.refl G5).new m6 (.lst [.ref a0, .ref a1, .ref a2, .ref a3, .ref a4, .ref a5])
        have dkG := dk9.gr rr
        have nd6 := dkG.ne m6
        have e6 : (upd G5 a6 (.lst [.ref a0, .ref a1, .ref a2, .ref a3, .ref a4, .ref a5])) a6 = some (.lst [.ref a0, .ref a1, .ref a2, .ref a3, .ref a4, .ref a5]) := upd_same
        have dkA := dkG.gr r6
        have gA := (g09.gr rr).gr r6
        have stA : Tst K H9 (upd G5 a6 (.lst [.ref a0, .ref a1, .ref a2, .ref a3, .ref a4, .ref a5])) := (rr.trans r6).st
        have s0 := r6.seqT s0
        have s1 := r6.seqT s1
        have s2 := r6.seqT s2
        have s3 := r6.seqT s3
        have s4 := r6.seqT s4
        have s5 := r6.seqT s5
        generalize upd G5 a6 (.lst [.ref a0, .ref a1, .ref a2, .ref a3, .ref a4, .ref a5]) = HA at r6 e6 dkA gA stA s0 s1 s2 s3 s4 s5 ⊢
        refine ⟨_, rfl, d, 6, rfl, dkA, by decide, by decide +kernel, fun tt HB tt0 tt1 gB dkB => ?_⟩
        have e6B : HB a6 = some (.lst [.ref a0, .ref a1, .ref a2, .ref a3, .ref a4, .ref a5]) := gB.keep a6 _ nd6 (fun _ z => nomatch z) e6
        have stB : Tst K HA HB := gB.st dkA
        have hT : ∃ (p : Addr) (c0 c1 : Int), atI ([.ref a0, .ref a1, .ref a2, .ref a3, .ref a4, .ref a5] : List V) tt = some (.ref p) ∧ SqT K HB p [.int c0, .int c1] ∧ c0.natAbs ≤ 2 ∧ c1.natAbs ≤ 2 := by
          have : tt = 0 ∨ tt = 1 ∨ tt = 2 ∨ tt = 3 ∨ tt = 4 ∨ tt = 5 := by omega
          rcases this with rfl | rfl | rfl | rfl | rfl | rfl
          · exact ⟨a0, _, _, rfl, stB _ _ s0, by decide, by decide⟩
          · exact ⟨a1, _, _, rfl, stB _ _ s1, by decide, by decide⟩
          · exact ⟨a2, _, _, rfl, stB _ _ s2, by decide, by decide⟩
          · exact ⟨a3, _, _, rfl, stB _ _ s3, by decide, by decide⟩
          · exact ⟨a4, _, _, rfl, stB _ _ s4, by decide, by decide⟩
          · exact ⟨a5, _, _, rfl, stB _ _ s5, by decide, by decide⟩
        obtain ⟨pc, c0, c1, aT, sT, b0, b1⟩ := hT
        refine ⟨a6, _, _, _, rfl, rfl, SqL.of e6B, aT, ?_⟩
        have gB2 := gA.trans gB
        have v1 := v1.st (stA.trans stB)
        have v2 := v2.st (stA.trans stB)
        obtain ⟨qa1, qt1, rfl, z11, sa1, rfl, z12⟩ := v1
        obtain ⟨qa2, qt2, rfl, z21, sa2, rfl, z22⟩ := v2
        have small : ∀ {c z : Int}, c.natAbs ≤ 2 → z.natAbs < 2 ^ 4 → (c * z).natAbs ≤ 30 := fun {c z} h k => by
          rw [Int.natAbs_mul]
          exact Nat.mul_le_mul h (by omega : z.natAbs ≤ 15)
        have cm : ∀ {c z : Int}, c.natAbs ≤ 2 → CMul c z := fun {c z} h => .inl ⟨by omega, by omega⟩
        refine ⟨_, rfl, qa1, _, _, _, rfl, rfl, z11, rfl, _, rfl, qa2, _, _, _, rfl, rfl, z21, rfl, sa1, sa2, _, _, rfl, .inr ⟨z12, z22, fun D3 nD3 => lc_mapZ (xs := q1.1.map V.int) (zs := q2.1.map V.int) (fun _ y => ∃ z : Int, y = .int z ∧ z.natAbs ≤ 60) nD3 (by rw [List.length_map, List.length_map, ql1, ql2]) z12 z22 (by rw [List.length_map]; omega) (fun i x y T H5 Kc hx hy g5 nT kc => ?_) (fun ys H5 hD5 hl5 g5 hR5 => ?_)⟩⟩
        · rw [List.getElem?_map] at hx hy
          obtain ⟨e1, he1, rfl⟩ := Option.map_eq_some_iff.mp hx
          obtain ⟨e2, he2, rfl⟩ := Option.map_eq_some_iff.mp hy
          have n1' := q91.ns e1 (List.mem_of_getElem? he1)
          have n2' := q92.ns e2 (List.mem_of_getElem? he2)
          have sT5 := (g5.new nT (.tup [.int e1, .int e2])).seqT sT
          refine ⟨T, _, rfl, SqT.of upd_same, rfl, _, _, rfl, _, _, rfl, rfl, rfl, ?_⟩
          refine ⟨_, rfl, pc, _, _, _, rfl, rfl, sT5, rfl, _, rfl, _, _, rfl, rfl, cm b0, _, rfl, pc, _, _, _, rfl, rfl, sT5, rfl, _, rfl, _, _, rfl, rfl, cm b1, _, _, rfl, rfl, kc _ _ (Gr.refl _) ⟨_, rfl, ?_⟩⟩
          have m1' := small b0 n1'
          have m2' := small b1 n2'
          omega
        · have hz5 : ∃ zs5 : List Int, ys = zs5.map V.int ∧ ∀ z, z ∈ zs5 → z.natAbs ≤ 60 := ints_of hR5
          obtain ⟨zs5, rfl, z60⟩ := hz5
          rw [List.length_map, List.length_map, ql1] at hl5
          have sT5 := g5.seqT sT
          have y11 := g5.seqT z11
          have y21 := g5.seqT z21
          refine ⟨_, rfl, _, rfl, pc, _, _, _, rfl, rfl, sT5, rfl, _, rfl, qa1, _, _, _, rfl, rfl, y11, rfl, _, _, rfl, rfl, cm b0, _, rfl, pc, _, _, _, rfl, rfl, sT5, rfl, _, rfl, qa2, _, _, _, rfl, rfl, y21, rfl, _, _, rfl, rfl, cm b1, _, _, rfl, rfl, szN (by show 3 ≤ 1000000; decide), fun p9 m9 => ?_⟩
          have m1' := small b0 q91.wl
          have m2' := small b1 q92.wl
          have dk5 := dkB.gr g5
          have r9 := (Gr.refl H5).new m9 (.lst [.int wl, .int (c0 * q1.2 + c1 * q2.2), .int 0])
          refine ⟨_, rfl, d, 3, rfl, dk5.gr r9, by decide, by decide +kernel, fun tw HC tw0 tw1 gC dkC => ?_⟩
          have l9 : SqL K HC p9 [.int wl, .int (c0 * q1.2 + c1 * q2.2), .int 0] := SqL.of (gC.keep p9 _ (dk5.ne m9) (fun _ z => nomatch z) upd_same)
          have hDC : HC D3 = some (.lst (zs5.map V.int)) := gC.keep D3 _ (dkB.ne nD3) (fun _ z => nomatch z) (r9.keep D3 _ (fun _ z => nomatch z) hD5)
          have hw9 : ∃ w9 : Int, atI ([.int wl, .int (c0 * q1.2 + c1 * q2.2), .int 0] : List V) tw = some (.int w9) ∧ w9.natAbs ≤ 100 := by
            have : tw = 0 ∨ tw = 1 ∨ tw = 2 := by omega
            rcases this with rfl | rfl | rfl
            · exact ⟨_, rfl, w9⟩
            · exact ⟨_, rfl, by omega⟩
            · exact ⟨_, rfl, by decide⟩
          obtain ⟨wv, aw, wb⟩ := hw9
          refine ⟨p9, _, _, _, rfl, rfl, l9, aw, ?_⟩
          exact hK _ HC ⟨zs5, wv, D3, c6, some (.ref qa1), some (.ref qa2), some (.ref pc), c11, c12, rfl, hDC, dkB.ne nD3, hl5, fun z h => Nat.le_trans (z60 z h) (by decide), wb, ((gB2.gr g5).gr r9).trans gC, dkC⟩
      · exact iteN cw stay
end
end SB
namespace SB
open PySem L2 GxR GA RZ
/-- a ground as a dict's key -/
def grK (q : List Int × Int) : List Key := (grU q).map Sum.inl
theorem grK_kV (q : List Int × Int) : (grK q).map kV = (grU q).map V.int := by
  unfold grK
  rw [List.map_map]
  rfl
theorem nfU_gr {p q : List Int × Int} (h : nfU p = nfU q) : grK p = grK q := by
  unfold grK grU
  rw [h]
theorem new_none {H : Hp} {a b : Addr} {o : HO} (h : (upd H a o) b = none) : b ≠ a ∧ H b = none := by
  have n : b ≠ a := fun e => by
    rw [e, upd_same] at h
    cases h
  rw [upd_ne n] at h
  exact ⟨n, h⟩
section
variable {P : Program} {w : World} {K : PySem.W.Frag} {mg : Str → Option Value} {base : Heap}
def spPage (K : PySem.W.Frag) : Sp := fun vs H Q _ => ∃ (d : Addr) (m : Nat), vs = [.ref d, .int ((m : Nat) : Int)] ∧ DeckAt d H ∧ m ≤ 7 ∧ ∀ v n qs H', GrD d H H' → DeckAt d H' → BkV K H' v n qs → BOk n qs → Pg9 n qs → Q v H'
theorem sc_page : FnScope ["deck", "most", "size", "lines", "seen", "turn", "line"] ["deck", "most"] (defScope s__law_page) := ⟨rfl, rfl, rfl, by decide +kernel, rfl, by decide +kernel, by decide +kernel⟩
theorem cl_page (D : Df K mg "_law_page" s__law_page) (B : Blt mg) (CT : Cl P w K mg base 1 "_law_take" ["deck", "many"] spTake) (CL : Cl P w K mg base 2 "_law_line" ["deck", "size", "lines"] (spLine K)) (CG : Cl P w K mg base 2 "_law_ground" ["line"] (spGround K)) : Cl P w K mg base 3 "_law_page" ["deck", "most"] (spPage K) := by
  refine D.cl (fun _ _ _ _ _ _ us hl => match us, hl with | [_, _], _ => rfl) fun f fd F => F.ok sc_page (fun vs H Q E h => ?_) (fun cdv A outer s H vs Q E hr h => ?_)
  · obtain ⟨d, m, rfl, _⟩ := h
    rfl
  obtain ⟨d, m, rfl, dk, m7, hq⟩ := h
  refine ⟨_, pss_cons (ps_par3 (i := 2) (j := 3) (l := 4) rfl sc_page.nd rfl rfl rfl (by decide) (by decide) (by decide) rfl rfl rfl (pa_cons (pe_op op_add pe_int (pe_cl CT (hr.mono (by decide)) (pa_cons (pv 0) (pa_cons pe_int pa_nil)))) (pa_cons (pe_lst pa_nil) (pa_cons pe_dnewT pa_nil))) rfl)
    (pss_cons (ps_for PassesOwn.never rfl (pi_range1 rfl B.rng (pa_cons (pe_cl CT (hr.mono (by decide)) (pa_cons (pv 0) (pa_cons (pe_op op_add (pv 1) pe_int) pa_nil))) pa_nil)) (pg_name (i := 5) sc_page.nd rfl (Or.inl rfl))
      (pss_cons (ps_set (i := 6) sc_page.nd rfl (.inl rfl) (pe_cl CL (hr.mono (by decide)) (pa_cons (pv 0) (pa_cons (pv 2) (pa_cons (pv 3) pa_nil)))))
      (pss_one (ps_if (pt_cmp (pc_dnotin (hu_of hr) (pe_cl CG (hr.mono (by decide)) (pa_cons (pv 6) pa_nil)) (pv 4)))
        (pss_cons (ps_dput (hu_of hr) (pv 4) (pe_cl CG (hr.mono (by decide)) (pa_cons (pv 6) pa_nil)) pe_bl rfl)
        (pss_one (ps_expr (pe_bm PySem.F.plainAttrs_list PySem.F.slot_list_append PySem.F.type_list_append mt_append (pv 3) (pa_cons (pv 6) pa_nil))))) pss_nil))))
    (pss_one (ps_ret (pe_tup (pa_cons (pv 2) (pa_cons (pe_callTy call_tuple_of rfl B.tup bootTup (pa_cons (pv 3) pa_nil)) pa_nil)))))), ?_⟩
  refine ⟨_, rfl, d, 3, rfl, dk, by decide, by decide +kernel, fun t H1 t0 t1 g1 dk1 => ⟨_, _, rfl, rfl, ?_⟩⟩
  refine ⟨szN (by show 0 ≤ 1000000; decide), fun Dl nl Ds ns => ⟨_, _, _, rfl, ?_⟩⟩
  obtain ⟨nsl, ns1⟩ := new_none ns
  have kl := (Gr.refl H1).new nl (.lst [])
  have kp := kl.new ns (.dT [])
  have eS : (upd (upd H1 Dl (.lst [])) Ds (.dT [])) Ds = some (.dT []) := upd_same
  have eL : (upd (upd H1 Dl (.lst [])) Ds (.dT [])) Dl = some (.lst []) := by rw [upd_ne (Ne.symm nsl)]; exact upd_same
  have dk3 := dk1.gr kp
  generalize upd (upd H1 Dl (.lst [])) Ds (.dT []) = H3 at kp eS eL dk3 ⊢
  clear kl ns
  obtain ⟨n, hz⟩ : ∃ n : Nat, 1 + t = ((n : Nat) : Int) := ⟨(1 + t).toNat, by omega⟩
  have n1 : 1 ≤ n := by omega
  have n3 : n ≤ 3 := by omega
  have hld := dk1.ne nl
  have hsd := dk1.ne ns1
  refine ⟨_, rfl, _, rfl, _, _, rfl, rfl, d, _, rfl, dk3, by omega, Nat.lt_of_le_of_lt (by omega : ((m : Int) + 1).natAbs ≤ 8) (by decide +kernel), fun u H4 u0 u1 g4 dk4 => ?_⟩
  refine ⟨_, rfl, by omega, by omega, for_range (lo := 0) (fun i σ H' => ∃ (qs : List (List Int × Int)) (xs : List V) (kvs : List (List Key × V)) (c5 c6 : Option V), σ = [some (.ref d), some (.int ((m : Nat) : Int)), some (.int (1 + t)), some (.ref Dl), some (.ref Ds), c5, c6] ∧
    GrD d H1 H' ∧ DeckAt d H' ∧ H' Dl = some (.lst xs) ∧ Paired (QuV K H') xs qs ∧ qs.length ≤ i ∧ (∀ q, q ∈ qs → Q9 q ∧ q.1.length = n) ∧ H' Ds = some (.dT kvs) ∧ kvs.length = qs.length ∧ (∀ q, q ∈ qs → valV kvs (grK q) ≠ none) ∧ (qs.map nfU).Nodup)
    ⟨[], [], [], _, _, rfl, (kp.d d).trans g4, dk4, g4.keep Dl _ hld (fun _ z => nomatch z) eL, .nil, Nat.le_refl _, fun q h => by simp at h, g4.keep Ds _ hsd (fun _ z => nomatch z) eS, rfl, fun q h => by simp at h, by simp⟩ (fun i σ H' hi h => ?_) (fun σ H' h => ?_)⟩
  · obtain ⟨qs, xs, kvs, c5, c6, rfl, g, dk5, hl, hp, hlen, h9, hs, hk, hv, nd⟩ := h
    refine ⟨_, rfl, _, rfl, _, rfl, d, Dl, n, qs, by rw [hz]; rfl, dk5, hld, n1, by omega, ⟨xs, hl, hp, by omega, h9⟩, fun v q H6 g6 dk6 qv q9 ql => ?_⟩
    have g06 := g.trans g6
    refine ⟨_, rfl, v, q, rfl, qv, q9, by omega, fun b H7 g7 hb => ?_⟩
    have g07 := g06.gr g7
    have dk7 := dk6.gr g7
    have hl7 : H7 Dl = some (.lst xs) := g7.keep Dl _ (fun _ z => nomatch z) (g6.keep Dl _ hld (fun _ z => nomatch z) hl)
    have hs7 : H7 Ds = some (.dT kvs) := g7.keep Ds _ (fun _ z => nomatch z) (g6.keep Ds _ hsd (fun _ z => nomatch z) hs)
    have hp7 : Paired (QuV K H7) xs qs := Paired.mapP hp fun _ _ z => (z.st (g6.st dk5)).gr g7
    have qv7 := qv.gr g7
    refine ⟨_, rfl, Ds, _, rfl, DGet.t (k := grK q) hs7 (by rw [grK_kV]; exact hb), _, rfl, ?_⟩
    cases hv7 : valV kvs (grK q) with
    | some z =>
      exact iteF ⟨qs, xs, kvs, _, _, rfl, g07, dk7, hl7, hp7, by omega, h9, hs7, hk, hv, nd⟩
    | none =>
      refine iteT ⟨_, rfl, _, rfl, v, q, rfl, qv7, q9, by omega, fun b2 H8 g8 hb2 => ?_⟩
      have hs8 : H8 Ds = some (.dT kvs) := g8.keep Ds _ (fun _ z => nomatch z) hs7
      have hl8 : H8 Dl = some (.lst xs) := g8.keep Dl _ (fun _ z => nomatch z) hl7
      have xl : xs.length = qs.length := paired_len hp
      refine ⟨Ds, _, rfl, DPut.t (k := grK q) hs8 (by rw [grK_kV]; exact hb2) (small1000 (by omega)), ?_⟩
      have t9 : Tst K H8 (upd H8 Ds (.dT (putK kvs (grK q) (.bl true)))) := Tst.put2 hs8 (fun _ z => nomatch z) (fun _ _ z => nomatch z)
      have hl9 : (upd H8 Ds (.dT (putK kvs (grK q) (.bl true)))) Dl = some (.lst xs) := by rw [upd_ne (Ne.symm nsl)]; exact hl8
      have g09 := (g07.gr g8).put ns1 (.dT (putK kvs (grK q) (.bl true)))
      have dk9 := (dk7.gr g8).put hsd (.dT (putK kvs (grK q) (.bl true)))
      have hs9 : (upd H8 Ds (.dT (putK kvs (grK q) (.bl true)))) Ds = some (.dT (putK kvs (grK q) (.bl true))) := upd_same
      have hp9 : Paired (QuV K (upd H8 Ds (.dT (putK kvs (grK q) (.bl true))))) xs qs := Paired.mapP hp7 fun _ _ z => (z.gr g8).st t9
      have qv9 := (qv7.gr g8).st t9
      generalize upd H8 Ds (.dT (putK kvs (grK q) (.bl true))) = H9 at t9 hl9 g09 dk9 hs9 hp9 qv9 ⊢
      refine ⟨_, rfl, .inl ⟨rfl, _, SqL.of hl9⟩, _, rfl, Dl, _, _, rfl, rfl, hl9, small1000 (by omega), ?_⟩
      have t10 : Tst K H9 (upd H9 Dl (.lst (xs ++ [v]))) := Tst.put hl9
      refine ⟨qs ++ [q], xs ++ [v], putK kvs (grK q) (.bl true), _, _, rfl, g09.put nl _, dk9.put hld _, upd_same, paired_app (Paired.mapP hp9 fun _ _ z => z.st t10) (.cons (qv9.st t10) .nil), by rw [List.length_append]; show _ + 1 ≤ _; omega, fun q' h => ?_, by rw [upd_ne nsl]; exact hs9, ?_, fun q' h => ?_, ?_⟩
      · rcases List.mem_append.mp h with h | h
        · exact h9 q' h
        · rw [List.mem_singleton.mp h]
          exact ⟨q9, ql⟩
      · rw [putK_new _ hv7, List.length_append, List.length_append, hk]
        rfl
      · rw [valV_put]
        by_cases e : grK q' = grK q
        · rw [if_pos e]
          exact fun z => nomatch z
        · rw [if_neg e]
          rcases List.mem_append.mp h with h | h
          · exact hv q' h
          · exact absurd (by rw [List.mem_singleton.mp h]) e
      · rw [List.map_append, List.nodup_append]
        refine ⟨nd, by simp, fun a ha b hb2 => ?_⟩
        obtain ⟨q', hq', rfl⟩ := List.mem_map.mp ha
        have eb : b = nfU q := by simpa using hb2
        rw [eb]
        intro e
        have := hv q' hq'
        rw [nfU_gr e] at this
        exact this hv7
  · obtain ⟨qs, xs, kvs, c5, c6, rfl, g, dk5, hl, hp, hlen, h9, hs, hk, hv, nd⟩ := h
    have lq : qs.length ≤ 8 := by omega
    refine ⟨_, rfl, _, rfl, Dl, xs, rfl, .inl ⟨SqL.of hl, fun p2 m2 => ⟨szN (by show 2 ≤ 1000000; decide), fun p3 m3 => ?_⟩⟩⟩
    have r2 := (Gr.refl H').new m2 (.tup xs)
    have r3 := r2.new m3 (.tup [.int (1 + t), .ref p2])
    refine hq _ n qs _ ((g1.trans g).gr r3) (dk5.gr r3) ⟨p3, p2, xs, rfl, SqT.of (by rw [upd_same, hz]), ((Gr.refl _).new m3 _).seqT (SqT.of upd_same), Paired.mapP hp fun _ _ z => z.gr r3⟩ ⟨n1, by omega, lq, fun q h => ⟨(h9 q h).1.ok, (h9 q h).2⟩, nd⟩ ⟨n1, by omega, lq, h9⟩
end
end SB
namespace SB
open PySem L2 GxR GA RZ
/-- a list of what comes of two tuples side by side, with what stands in the heap -/
theorem lc_mapZH {K : PySem.W.Frag} {a b : Addr} {xs zs : List V} {g : TG} {te : TE} {vs : List Nat} {σ : L2.St} {H1 : Hp} {D : Addr} {Qd : Hp → Prop} (R : Nat → V → Hp → Prop) (hst : ∀ i y H H', R i y H → Tst K H H' → R i y H') (nD : H1 D = none) (hl : xs.length = zs.length) (hs : SqT K H1 a xs) (hs2 : SqT K H1 b zs) (hz : xs.length ≤ 1000)
    (step : ∀ (i : Nat) x y (T : Addr) H (Kc : VK), xs[i]? = some x → zs[i]? = some y → Gr H1 H → H T = none → (∀ v H4, Gr (upd H T (.tup [x, y])) H4 → R i v H4 → Kc v H4) → g (.ref T) (wipe σ vs) (upd H T (.tup [x, y])) fun σ2 H2 => wipe σ2 vs = wipe σ vs ∧ te σ2 H2 Kc)
    (fin : ∀ ys H, H D = some (.lst ys) → ys.length = xs.length → Gr H1 H → (∀ i y, ys[i]? = some y → R i y H) → Qd H) :
    ∃ W : Nat → Nat → Hp → Prop, (∃ m, W 0 m (upd H1 D (.lst []))) ∧ ∀ i m H, W i m H → ((ItzT K a b).stop i H ∧ Qd H) ∨
      ((ItzT K a b).go i H ∧ ∃ Nx : Hp → Prop, (∀ H', Nx H' → ∃ m', m' < m ∧ W (i + 1) m' H') ∧ ∀ x H', (ItzT K a b).yld i H x H' → g x (wipe σ vs) H' fun σ2 H2 => wipe σ2 vs = wipe σ vs ∧ tYes σ2 H2 fun b H3 =>
        if b = true then te σ2 H3 fun y H4 => ∃ acc, H4 D = some (.lst acc) ∧ acc.length < sizeLine ∧ Nx (upd H4 D (.lst (acc ++ [y]))) else Nx H3) := by
  refine ⟨fun i m H => i + m = xs.length ∧ ∃ ys, H D = some (.lst ys) ∧ ys.length = i ∧ GrD D H1 H ∧ ∀ j y, ys[j]? = some y → R j y H, ⟨xs.length, Nat.zero_add _, [], upd_same, rfl, (GrD.refl D H1).set _, fun j y h => by simp at h⟩, fun i m H ⟨hm, ys, hD, hy, gr, hR⟩ => ?_⟩
  have g1 := gr.to nD
  have q1 := g1.seqT hs
  have q2 := g1.seqT hs2
  cases m with
  | zero => exact .inl ⟨⟨xs, zs, q1, q2, .inl (by omega)⟩, fin ys H hD (by omega) g1 hR⟩
  | succ m =>
    have i1 : i < xs.length := by omega
    have i2 : i < zs.length := by omega
    refine .inr ⟨⟨xs, zs, xs[i], zs[i], q1, q2, List.getElem?_eq_getElem i1, List.getElem?_eq_getElem i2⟩, fun H' => ∃ ys, H' D = some (.lst ys) ∧ ys.length = i + 1 ∧ GrD D H1 H' ∧ ∀ j y, ys[j]? = some y → R j y H', fun H' h => ⟨m, Nat.lt_succ_self _, by omega, h⟩, fun v H' hyl => ?_⟩
    obtain ⟨T, x, y, rfl, nT, rfl, hx, hy2⟩ := hyl
    refine step i x y T H _ (hx xs q1) (hy2 zs q2) g1 nT fun v H4 g4 rv => ?_
    have gT : Gr H (upd H T (.tup [x, y])) := (Gr.refl H).new nT _
    have hD4 : H4 D = some (.lst ys) := (gT.trans g4).keep D _ (fun _ z => nomatch z) hD
    have t4 : Tst K H4 (upd H4 D (.lst (ys ++ [v]))) := Tst.put hD4
    refine ⟨ys, hD4, small1000 (by omega), ys ++ [v], upd_same, by rw [List.length_append, hy]; rfl, (gr.trans ((gT.trans g4).d D)).set _, fun j z hz2 => ?_⟩
    by_cases hj : j < ys.length
    · rw [List.getElem?_append_left hj] at hz2
      exact hst _ _ _ _ (hR j z hz2) ((gT.trans g4).st.trans t4)
    · have hl2 := (List.getElem?_eq_some_iff.mp hz2).1
      rw [List.length_append] at hl2
      have hl2 : j < ys.length + 1 := hl2
      have ej : j = ys.length := by omega
      subst ej
      rw [List.getElem?_append_right (Nat.le_refl _), Nat.sub_self] at hz2
      cases hz2
      rw [hy]
      exact hst _ _ _ _ rv t4
/-- numbers in a row, told place by place -/
theorem nums_at {K : PySem.W.Frag} {H : Hp} : ∀ {ys : List V} {Pr : Nat → Int × Int → Prop}, (∀ (i : Nat) (y : V), ys[i]? = some y → ∃ u, NuV K H y u ∧ Pr i u) → ∃ us : List (Int × Int), Paired (NuV K H) ys us ∧ ∀ i u, us[i]? = some u → Pr i u
  | [], _, _ => ⟨[], .nil, fun i u h => by simp at h⟩
  | y :: r, Pr, f => by
    obtain ⟨u, nu, pu⟩ := f 0 y rfl
    obtain ⟨us, pa, pr⟩ := nums_at (ys := r) (Pr := fun i => Pr (i + 1)) fun i z e => f (i + 1) z (by simpa using e)
    refine ⟨u :: us, .cons nu pa, fun i k hk => ?_⟩
    cases i with
    | zero =>
      have : u = k := by simpa using hk
      rw [← this]
      exact pu
    | succ i => exact pr i k (by simpa using hk)
/-- a number on the way from u to w -/
def OnWay (s u w : Int × Int) (m : Nat) (r : Int × Int) : Prop := Lo r ∧ Wd m r ∧ qv r = qv u + qv s * (qv w - qv u)
theorem mix_of {s : Int × Int} {us ws rs : List (Int × Int)} {m : Nat} (hl : us.length = ws.length) (lr : rs.length = us.length) (h : ∀ (i : Nat) (r : Int × Int), rs[i]? = some r → ∃ u w, us[i]? = some u ∧ ws[i]? = some w ∧ OnWay s u w m r) :
    (∀ r, r ∈ rs → Lo r) ∧ (∀ r, r ∈ rs → Wd m r) ∧ rs.map qv = mixQ (qv s) (us.map qv) (ws.map qv) := by
  refine ⟨fun r hr => ?_, fun r hr => ?_, List.ext_getElem? fun i => ?_⟩
  · obtain ⟨i, e⟩ := List.getElem?_of_mem hr
    obtain ⟨u, w, _, _, o⟩ := h i r e
    exact o.1
  · obtain ⟨i, e⟩ := List.getElem?_of_mem hr
    obtain ⟨u, w, _, _, o⟩ := h i r e
    exact o.2.1
  · rw [List.getElem?_map]
    cases e : rs[i]? with
    | none =>
      have : rs.length ≤ i := List.getElem?_eq_none_iff.mp e
      rw [Option.map_none]
      refine (List.getElem?_eq_none ?_).symm
      unfold mixQ
      rw [List.length_zipWith, List.length_map, List.length_map]
      omega
    | some r =>
      obtain ⟨u, w, eu, ew, o⟩ := h i r e
      rw [Option.map_some, mix_at (by rw [List.getElem?_map, eu]; rfl) (by rw [List.getElem?_map, ew]; rfl), o.2.2]
section
variable {P : Program} {w : World} {K : PySem.W.Frag} {mg : Str → Option Value} {base : Heap}
def spPutA (K : PySem.W.Frag) : Sp := fun vs H Q _ => ∃ a b zs ws, vs = [.ref a, .ref b] ∧ SqT K H a (zs.map V.int) ∧ SqT K H b (ws.map V.int) ∧ zs.length = ws.length ∧ zs.length ≤ 8 ∧ ∀ v H', Gr H H' → SiV K H' v (aheadU zs ws) → Q v H'
def spRowB (K : PySem.W.Frag) (T : Nat → Addr) : Sp := fun vs H Q _ => ∃ x y z d qs us ws, vs = [x, y, z] ∧ Tb5 T H ∧ BkV K H x d qs ∧ PtV K H y us ∧ PtV K H z ws ∧ BOk d qs ∧ UsOk us ∧ UsOk ws ∧ us.length = d ∧ ws.length = d ∧ ∀ v H', Gr H H' → SiV K H' v (aheadU (rowU qs us) (rowU qs ws)) → Q v H'
def spBetween (K : PySem.W.Frag) : Sp := fun vs H Q _ => ∃ x y z us ws s m n k, vs = [x, y, z] ∧ PtV K H x us ∧ PtV K H y ws ∧ NuV K H z s ∧ us ≠ [] ∧ us.length = ws.length ∧ us.length ≤ 8 ∧ (∀ u, u ∈ us → Lo u) ∧ (∀ u, u ∈ ws → Lo u) ∧ Lo s ∧ (∀ u, u ∈ us → Wd m u) ∧ (∀ u, u ∈ ws → Wd n u) ∧ Wd k s ∧ 2 * m + n + k ≤ 200000 ∧
  ∀ v rs H', Gr H H' → PtV K H' v rs → rs.length = us.length → (∀ r, r ∈ rs → Lo r) → (∀ r, r ∈ rs → Wd (2 * m + n + k + 4) r) → rs.map qv = mixQ (qv s) (us.map qv) (ws.map qv) → Q v H'
end
end SB
namespace SB
open PySem L2 GxR GA RZ
theorem paired_of {α β : Type} {F : α → β → Prop} : ∀ {ys : List α} {zs : List β}, ys.length = zs.length → (∀ (i : Nat) (y : α) (z : β), ys[i]? = some y → zs[i]? = some z → F y z) → Paired F ys zs
  | [], [], _, _ => .nil
  | [], _ :: _, h, _ => by cases h
  | _ :: _, [], h, _ => by cases h
  | y :: r, z :: t, h, f => .cons (f 0 y z rfl rfl) (paired_of (by simpa using h) fun i a b e1 e2 => f (i + 1) a b (by simpa using e1) (by simpa using e2))
/-- sides and wall of width k -/
def QW (k : Nat) (q : List Int × Int) : Prop := (∀ z, z ∈ q.1 → z.natAbs < 2 ^ k) ∧ q.2.natAbs < 2 ^ k
section
variable {P : Program} {w : World} {K : PySem.W.Frag} {mg : Str → Option Value} {base : Heap}
def spWithout (K : PySem.W.Frag) (T : Nat → Addr) : Sp := fun vs H Q _ => ∃ x d qs i, vs = [x, .int ((i : Nat) : Int)] ∧ Tb5 T H ∧ BkV K H x d qs ∧ BOk d qs ∧ i < qs.length ∧ ∀ v H', Gr H H' → BkV K H' v d (qs.take i ++ qs.drop (i + 1)) → Q v H'
theorem sc_without : FnScope ["book", "index", "d", "questions"] ["book", "index"] (defScope s_without) := ⟨rfl, rfl, rfl, by decide +kernel, rfl, by decide +kernel, by decide +kernel⟩
theorem cl_without {T : Nat → Addr} (D : Df K mg "without" s_without) (B : Blt mg) (CCB : Cl P w K mg base 38 "check_book" ["book"] (spChkBk K T)) (CCI : Cl P w K mg base 3 "check_index" ["index", "many"] spChkIx) : Cl P w K mg base 39 "without" ["book", "index"] (spWithout K T) := by
  refine D.cl (fun _ _ _ _ _ _ us hl => match us, hl with | [_, _], _ => rfl) fun f fd F => F.ok sc_without (fun vs H Q E h => ?_) (fun cdv A outer s H vs Q E hr h => ?_)
  · obtain ⟨x, d, qs, i, rfl, _⟩ := h
    rfl
  obtain ⟨x, d, qs, i, rfl, tb, hx, ok, hi, hq⟩ := h
  refine ⟨_, (pss_cons (ps_expr (pe_cl CCB (hr.mono (by decide)) (pa_cons (pv 0) pa_nil)))
    (pss_cons (ps_asg (pv 0) (pg_tup rfl (pgs_cons (pg_name (i := 2) sc_without.nd rfl (Or.inl rfl)) (pgs_cons (pg_name (i := 3) sc_without.nd rfl (Or.inl rfl)) pgs_nil))))
    (pss_cons (ps_expr (pe_cl CCI (hr.mono (by decide)) (pa_cons (pv 1) (pa_cons (pe_len (pv 3) B.len) pa_nil))))
    (pss_one (ps_ret (pe_tup (pa_cons (pv 2) (pa_cons (pe_op op_catA (pe_slice sl_tup (pv 3) po_none (po_some (pv 1))) (pe_slice sl_tup (pv 3) (po_some (pe_op op_add (pv 1) pe_int)) po_none)) pa_nil)))))))), ?_⟩
  refine ⟨_, rfl, x, d, qs, rfl, tb, hx, ok, fun H1 g1 => ?_⟩
  obtain ⟨a, b, xs, rfl, ha, hb, hp⟩ := hx.gr g1
  have lx : xs.length = qs.length := paired_len hp
  have l8 := ok.l8
  refine ⟨_, rfl, a, _, rfl, ha, rfl, _, _, rfl, _, _, rfl, rfl, ?_⟩
  refine ⟨_, rfl, _, rfl, b, xs, rfl, .inr hb, _, _, rfl, by omega, by rw [lx]; omega, ?_⟩
  refine ⟨_, rfl, _, rfl, _, rfl, _, rfl, b, xs, rfl, hb, ?_, fun p1 n1 => ?_⟩
  · rw [HT.sIx_nat]
    omega
  have k1 := (Gr.refl H1).new n1 (.tup (cutV xs none (some (i : Int))))
  rw [cut_to xs i (by omega)] at k1 ⊢
  refine ⟨_, rfl, _, rfl, _, _, rfl, rfl, _, rfl, b, xs, rfl, k1.seqT hb, ?_, fun p3 n3 => ?_⟩
  · rw [show ((i : Int) + 1) = ((i + 1 : Nat) : Int) from by simp, HT.sIx_nat]
    omega
  have e3 : cutV xs (some ((i : Int) + 1)) none = xs.drop (i + 1) := by
    rw [show ((i : Int) + 1) = ((i + 1 : Nat) : Int) from by simp]
    exact cut_from xs (i + 1) (by omega)
  have k5 := (Gr.refl (upd H1 p1 (.tup (xs.take i)))).new n3 (.tup (cutV xs (some ((i : Int) + 1)) none))
  refine rcat (k5.seqT (SqT.of upd_same)) (SqT.of upd_same) (by rw [e3, List.length_take, List.length_drop]; omega) fun c2 H5 g5 hc2 => ?_
  refine ⟨szN (by show 2 ≤ 1000000; decide), fun p4 n4 => ?_⟩
  have k6 := (((k1.trans k5).trans g5).new n4 (.tup [.int d, .ref c2]))
  rw [e3] at hc2
  exact hq _ _ (g1.trans k6) ⟨p4, c2, _, rfl, SqT.of upd_same, ((Gr.refl H5).new n4 _).seqT hc2, paired_app (paired_take i (Paired.mapP hp fun _ _ z => QuV.gr z k6)) (paired_drop (i + 1) (Paired.mapP hp fun _ _ z => QuV.gr z k6))⟩
/-! ### moved -/
def spMovQ (K : PySem.W.Frag) : Sp := fun vs H Q _ => ∃ x y q us k m, vs = [x, y] ∧ QuV K H x q ∧ PtV K H y us ∧ NonZ q.1 ∧ q.1.length = us.length ∧ us.length ≤ 4 ∧ (∀ u, u ∈ us → Lo u) ∧ (∀ u, u ∈ us → Wd m u) ∧ QW k q ∧ 4 * (m + k + 3) + 2 * k ≤ 200000 ∧
  ∀ v H', Gr H H' → QuV K H' v (movU q us) → Wd (3 + us.length * (m + k + 3) + k) (shiftU q us) → Q v H'
def spMoved (K : PySem.W.Frag) (T : Nat → Addr) : Sp := fun vs H Q _ => ∃ x y d qs us k m, vs = [x, y] ∧ Tb5 T H ∧ BkV K H x d qs ∧ PtV K H y us ∧ BOk d qs ∧ us.length = d ∧ us ≠ [] ∧ us.length ≤ 4 ∧ (∀ u, u ∈ us → Lo u) ∧ (∀ u, u ∈ us → Wd m u) ∧ (∀ q, q ∈ qs → QW k q) ∧ 4 * (m + k + 3) + 2 * k ≤ 200000 ∧
  ∀ v H', Gr H H' → BkV K H' v d (qs.map fun q => movU q us) → (∀ q, q ∈ qs → Wd (3 + us.length * (m + k + 3) + k) (shiftU q us)) → Q v H'
end
end SB
namespace SB
open PySem L2 GxR GA RZ
/-- a list of what comes of a tuple and a list side by side -/
theorem lc_mapM {K : PySem.W.Frag} {a b : Addr} {xs zs : List V} {g : TG} {te : TE} {vs : List Nat} {σ : L2.St} {H1 : Hp} {D : Addr} {Qd : Hp → Prop} (R : Nat → V → Prop) (nD : H1 D = none) (hl : xs.length = zs.length) (hs : SqT K H1 a xs) (hs2 : SqL K H1 b zs) (hz : xs.length ≤ 1000)
    (step : ∀ (i : Nat) x y (T : Addr) H (Kc : VK), xs[i]? = some x → zs[i]? = some y → Gr H1 H → H T = none → (∀ v H4, Gr (upd H T (.tup [x, y])) H4 → R i v → Kc v H4) → g (.ref T) (wipe σ vs) (upd H T (.tup [x, y])) fun σ2 H2 => wipe σ2 vs = wipe σ vs ∧ te σ2 H2 Kc)
    (fin : ∀ ys H, H D = some (.lst ys) → ys.length = xs.length → Gr H1 H → (∀ i y, ys[i]? = some y → R i y) → Qd H) :
    ∃ W : Nat → Nat → Hp → Prop, (∃ m, W 0 m (upd H1 D (.lst []))) ∧ ∀ i m H, W i m H → ((ZM.ItzM K a b).stop i H ∧ Qd H) ∨
      ((ZM.ItzM K a b).go i H ∧ ∃ Nx : Hp → Prop, (∀ H', Nx H' → ∃ m', m' < m ∧ W (i + 1) m' H') ∧ ∀ x H', (ZM.ItzM K a b).yld i H x H' → g x (wipe σ vs) H' fun σ2 H2 => wipe σ2 vs = wipe σ vs ∧ tYes σ2 H2 fun b H3 =>
        if b = true then te σ2 H3 fun y H4 => ∃ acc, H4 D = some (.lst acc) ∧ acc.length < sizeLine ∧ Nx (upd H4 D (.lst (acc ++ [y]))) else Nx H3) := by
  refine ⟨fun i m H => i + m = xs.length ∧ ∃ ys, H D = some (.lst ys) ∧ ys.length = i ∧ GrD D H1 H ∧ ∀ j y, ys[j]? = some y → R j y, ⟨xs.length, Nat.zero_add _, [], upd_same, rfl, (GrD.refl D H1).set _, fun j y h => by simp at h⟩, fun i m H ⟨hm, ys, hD, hy, gr, hR⟩ => ?_⟩
  have g1 := gr.to nD
  have q1 := g1.seqT hs
  have q2 := g1.seqL hs2
  cases m with
  | zero => exact .inl ⟨⟨xs, zs, q1, q2, .inl (by omega)⟩, fin ys H hD (by omega) g1 hR⟩
  | succ m =>
    have i1 : i < xs.length := by omega
    have i2 : i < zs.length := by omega
    refine .inr ⟨⟨xs, zs, xs[i], zs[i], q1, q2, List.getElem?_eq_getElem i1, List.getElem?_eq_getElem i2⟩, fun H' => ∃ ys, H' D = some (.lst ys) ∧ ys.length = i + 1 ∧ GrD D H1 H' ∧ ∀ j y, ys[j]? = some y → R j y, fun H' h => ⟨m, Nat.lt_succ_self _, by omega, h⟩, fun v H' hyl => ?_⟩
    obtain ⟨T, x, y, rfl, nT, rfl, hx, hy2⟩ := hyl
    refine step i x y T H _ (hx xs q1) (hy2 zs q2) g1 nT fun v H4 g4 rv => ?_
    have gT : Gr H (upd H T (.tup [x, y])) := (Gr.refl H).new nT _
    have hD4 : H4 D = some (.lst ys) := (gT.trans g4).keep D _ (fun _ z => nomatch z) hD
    refine ⟨ys, hD4, small1000 (by omega), ys ++ [v], upd_same, by rw [List.length_append, hy]; rfl, (gr.trans ((gT.trans g4).d D)).set _, fun j z hz2 => ?_⟩
    by_cases hj : j < ys.length
    · rw [List.getElem?_append_left hj] at hz2
      exact hR j z hz2
    · have hl2 := (List.getElem?_eq_some_iff.mp hz2).1
      rw [List.length_append] at hl2
      have hl2 : j < ys.length + 1 := hl2
      have ej : j = ys.length := by omega
      subst ej
      rw [List.getElem?_append_right (Nat.le_refl _), Nat.sub_self] at hz2
      cases hz2
      rw [hy]
      exact rv
/-- what the sides come to at a point, less the wall -/
def wq (q : List Int × Int) (us : List (Int × Int)) : Rat := qv (worthU q us)
/-- a share below the one at which the sign changes -/
def Near (s a b : Rat) : Prop := (0 < a → b < 0 → s * (a - b) < a) ∧ (a < 0 → 0 < b → s * (b - a) < -a)
def Upto (s a b : Rat) : Prop := (0 < a → b < 0 → s * (a - b) ≤ a) ∧ (a < 0 → 0 < b → s * (b - a) ≤ -a)
theorem Upto.less {s t a b : Rat} (h : Upto s a b) (hl : t ≤ s) : Upto t a b := by
  refine ⟨fun h1 h2 => ?_, fun h1 h2 => ?_⟩
  · have := h.1 h1 h2
    have : 0 ≤ (s - t) * (a - b) := Rat.mul_nonneg (by grind) (by grind)
    grind
  · have := h.2 h1 h2
    have : 0 ≤ (s - t) * (b - a) := Rat.mul_nonneg (by grind) (by grind)
    grind
theorem Upto.near {s t a b : Rat} (h : Upto s a b) (hl : t < s) : Near t a b := by
  refine ⟨fun h1 h2 => ?_, fun h1 h2 => ?_⟩
  · have := h.1 h1 h2
    have : 0 < (s - t) * (a - b) := Rat.mul_pos (by grind) (by grind)
    grind
  · have := h.2 h1 h2
    have : 0 < (s - t) * (b - a) := Rat.mul_pos (by grind) (by grind)
    grind
theorem qv_inv {r w : Int × Int} (e : Eqr r w.2 w.1) (h : 0 < r.2) (hw : 0 < w.2) (h0 : w.1 ≠ 0) : qv r * qv w = 1 := by
  have e : r.1 * w.1 = w.2 * r.2 := e
  have e2 : (r.1 : Rat) * (w.1 : Rat) = (w.2 : Rat) * (r.2 : Rat) := by rw [← Rat.intCast_mul, e, Rat.intCast_mul]
  have h1 := qv_mul h
  have h2 := qv_mul hw
  have n1 := rne h
  have n2 := rne hw
  have n3 := rne0 h0
  have key : (qv r * qv w - 1) * ((r.2 : Rat) * (w.2 : Rat)) = 0 := by grind
  rcases Rat.mul_eq_zero.mp key with z | z
  · grind
  · rcases Rat.mul_eq_zero.mp z with z | z
    · exact absurd z n1
    · exact absurd z n2
theorem less_qv {p q : Int × Int} (hp : 0 < p.2) (hq : 0 < q.2) : p.1 * q.2 - q.1 * p.2 < 0 ↔ qv p < qv q := by
  have h := qv_neg (p := fMinus p q) (Int.mul_pos hp hq)
  rw [qv_minus hp hq] at h
  have h : qv p - qv q < 0 ↔ p.1 * q.2 - q.1 * p.2 < 0 := h
  rw [← h]
  constructor <;> intro z <;> grind
section
variable {P : Program} {w : World} {K : PySem.W.Frag} {mg : Str → Option Value} {base : Heap}
def spLess (K : PySem.W.Frag) : Sp := fun vs H Q _ => ∃ x y p q m n, vs = [x, y] ∧ NuV K H x p ∧ NuV K H y q ∧ Wd m p ∧ Wd n q ∧ m + n ≤ 300000 ∧ Q (.bl (decide (p.1 * q.2 - q.1 * p.2 < 0))) H
theorem sc_lless : FnScope ["u", "v"] ["u", "v"] (defScope s__law_less) := ⟨rfl, rfl, rfl, by decide +kernel, rfl, by decide +kernel, by decide +kernel⟩
theorem cl_lless (D : Df K mg "_law_less" s__law_less) : Cl P w K mg base 1 "_law_less" ["u", "v"] (spLess K) := by
  refine D.cl (fun _ _ _ _ _ _ us hl => match us, hl with | [_, _], _ => rfl) fun f fd F => F.ok sc_lless (fun vs H Q E h => ?_) (fun cdv A outer s H vs Q E hr h => ?_)
  · obtain ⟨x, y, p, q, m, n, rfl, _⟩ := h
    rfl
  obtain ⟨x, y, p, q, m, n, rfl, ⟨a, rfl, ha⟩, ⟨b, rfl, hb⟩, wp, wq, mn, hq⟩ := h
  refine ⟨_, (pss_one (ps_ret (pe_cmpR op_lt (pe_op op_sub (pe_op op_mulW (pe_ix ix_tup (pv 0) pe_int (fun _ _ => rfl)) (pe_ix ix_tup (pv 1) pe_int (fun _ _ => rfl))) (pe_op op_mulW (pe_ix ix_tup (pv 1) pe_int (fun _ _ => rfl)) (pe_ix ix_tup (pv 0) pe_int (fun _ _ => rfl)))) pe_int (nomark _)))), ?_⟩
  refine ⟨_, rfl, a, _, _, _, rfl, rfl, ha, rfl, _, rfl, b, _, _, _, rfl, rfl, hb, rfl, _, _, rfl, rfl, cmw wp.1 wq.2 mn, ?_⟩
  exact ⟨_, rfl, b, _, _, _, rfl, rfl, hb, rfl, _, rfl, a, _, _, _, rfl, rfl, ha, rfl, _, _, rfl, rfl, cmw wq.1 wp.2 (by omega), _, _, rfl, rfl, _, _, rfl, rfl, hq⟩
def spLBet (K : PySem.W.Frag) : Sp := fun vs H Q _ => ∃ x y z us ws s m n k, vs = [x, y, z] ∧ PtV K H x us ∧ PtV K H y ws ∧ NuV K H z s ∧ us.length = ws.length ∧ us.length ≤ 8 ∧ (∀ u, u ∈ us → Lo u) ∧ (∀ u, u ∈ ws → Lo u) ∧ Lo s ∧ (∀ u, u ∈ us → Wd m u) ∧ (∀ u, u ∈ ws → Wd n u) ∧ Wd k s ∧ 2 * m + n + k ≤ 200000 ∧
  ∀ v rs H', Gr H H' → PtV K H' v rs → rs.length = us.length → (∀ r, r ∈ rs → Lo r) → (∀ r, r ∈ rs → Wd (2 * m + n + k + 4) r) → rs.map qv = mixQ (qv s) (us.map qv) (ws.map qv) → Q v H'
/-! ### a share -/
def spLPart (K : PySem.W.Frag) : Sp := fun vs H Q _ => ∃ d, vs = [.ref d] ∧ DeckAt d H ∧ ∀ v r H', GrD d H H' → DeckAt d H' → NuV K H' v r → Lo r → Wd 134 r → Q v H'
end
end SB
namespace SB
open PySem L2 GxR GA RZ
/-- the signs of two fractions are unlike -/
theorem two_sides {p q : Int × Int} (hp : 0 < p.2) (hq : 0 < q.2) : p.1 * q.1 < 0 ↔ (0 < qv p ∧ qv q < 0) ∨ (qv p < 0 ∧ 0 < qv q) := by
  rw [qv_pos hp, qv_pos hq, qv_neg hp, qv_neg hq]
  constructor
  · intro h
    rcases Int.lt_trichotomy p.1 0 with z | z | z
    · refine .inr ⟨z, ?_⟩
      rcases Int.lt_trichotomy q.1 0 with y | y | y
      · have := Int.mul_pos_of_neg_of_neg z y
        omega
      · rw [y, Int.mul_zero] at h
        omega
      · exact y
    · rw [z, Int.zero_mul] at h
      omega
    · refine .inl ⟨z, ?_⟩
      rcases Int.lt_trichotomy q.1 0 with y | y | y
      · exact y
      · rw [y, Int.mul_zero] at h
        omega
      · have := Int.mul_pos z y
        omega
  · rintro (⟨h1, h2⟩ | ⟨h1, h2⟩)
    · exact Int.mul_neg_of_pos_of_neg h1 h2
    · exact Int.mul_neg_of_neg_of_pos h1 h2
theorem not_near {s a b : Rat} (h : ¬ ((0 < a ∧ b < 0) ∨ (a < 0 ∧ 0 < b))) : Upto s a b := ⟨fun h1 h2 => absurd (.inl ⟨h1, h2⟩) h, fun h1 h2 => absurd (.inr ⟨h1, h2⟩) h⟩
section
variable {P : Program} {w : World} {K : PySem.W.Frag} {mg : Str → Option Value} {base : Heap}
def spLeast (K : PySem.W.Frag) : Sp := fun vs H Q _ => ∃ x y z d qs us ws, vs = [x, y, z] ∧ BkV K H x d qs ∧ PtV K H y us ∧ PtV K H z ws ∧ (∀ q, q ∈ qs → Q9 q ∧ q.1.length = us.length) ∧ us.length = ws.length ∧ us.length ≤ 4 ∧ (∀ u, u ∈ us → Lo u) ∧ (∀ u, u ∈ ws → Lo u) ∧ (∀ u, u ∈ us → Wd 1000 u) ∧ (∀ u, u ∈ ws → Wd 1000 u) ∧
  ∀ v r H', Gr H H' → NuV K H' v r → Lo r → Wd 12300 r → 0 < qv r → qv r < 1 → (∀ q, q ∈ qs → Near (qv r) (wq q us) (wq q ws)) → Q v H'
end
end SB
namespace SB
open PySem L2 GxR GA RZ
section
variable {P : Program} {w : World} {K : PySem.W.Frag} {mg : Str → Option Value} {base : Heap}
def spThr (K : PySem.W.Frag) : Sp := fun vs H Q _ => ∃ d x n qs, vs = [.ref d, x] ∧ DeckAt d H ∧ BkV K H x n qs ∧ Pg9 n qs ∧ ∀ v qs' H', GrD d H H' → DeckAt d H' → BkV K H' v n qs' → BOk n qs' → Pg9 n qs' → Q v H'
theorem sc_lthr : FnScope ["deck", "page", "j", "spot", "found", "seen", "line", "x", "y", "wall"] ["deck", "page"] (defScope s__law_through) := ⟨rfl, rfl, rfl, by decide +kernel, rfl, by decide +kernel, by decide +kernel⟩
theorem cl_lthr (D : Df K mg "_law_through" s__law_through) (B : Blt mg) (bsum : mg "sum" = none) (CT : Cl P w K mg base 1 "_law_take" ["deck", "many"] spTake) (CG : Cl P w K mg base 2 "_law_ground" ["line"] (spGround K)) : Cl P w K mg base 3 "_law_through" ["deck", "page"] (spThr K) := by
  refine D.cl (fun _ _ _ _ _ _ us hl => match us, hl with | [_, _], _ => rfl) fun f fd F => F.ok sc_lthr (fun vs H Q E h => ?_) (fun cdv A outer sh H vs Q E hr h => ?_)
  · obtain ⟨d, x, n, qs, rfl, _⟩ := h
    rfl
  obtain ⟨d, x, n, qs, rfl, dk, ⟨a, b, xs, rfl, ha, hb, hp⟩, pg, hq⟩ := h
  refine ⟨_, (pss_cons (ps_setLc (i := 3) (own := [("j", 2)]) (g := gName 2) rfl sc_lthr.nd rfl rfl rfl (pi_range1 rfl B.rng (pa_cons (pe_ix ix_tup (pv 1) pe_int (fun _ _ => rfl)) pa_nil)) (blkOk_by (N := ["deck", "page", "j", "spot", "found", "seen", "line", "x", "y", "wall"]) (sc := defScope s__law_through) (by decide +kernel)) (fun _ _ _ _ _ => (pg_name (i := 2) sc_lthr.nd rfl (Or.inl rfl))) (fun _ _ _ _ _ => pts_nil) (fun _ _ _ _ _ => (pe_op op_sub (pe_cl CT (hr.mono (by decide)) (pa_cons (pv 0) (pa_cons pe_int pa_nil))) pe_int)))
    (pss_cons (ps_par (i := 4) (j := 5) rfl sc_lthr.nd rfl rfl (by decide) rfl rfl (pa_cons (pe_lst pa_nil) (pa_cons pe_dnewT pa_nil)) rfl)
    (pss_cons (ps_for PassesOwn.never rfl (pi_tup (pe_ix ix_tup (pv 1) pe_int (fun _ _ => rfl))) (pg_name (i := 6) sc_lthr.nd rfl (Or.inl rfl))
      (pss_cons (ps_set (i := 9) sc_lthr.nd rfl (.inl rfl) (pe_callB (cr_sum rfl) rfl bsum PyProof.Rows.boot_sum (pa_cons (pe_lc (own := [("x", 7), ("y", 8)]) (g := gTup K 2 (gCons (gName 7) (gCons (gName 8) gNil))) rfl sc_lthr.nd (ZM.pi_zipM rfl B.zip (pa_cons (pe_ix ix_tup (pv 6) pe_int (fun _ _ => rfl)) (pa_cons (pv 3) pa_nil))) (blkOk_by (N := ["deck", "page", "j", "spot", "found", "seen", "line", "x", "y", "wall"]) (sc := defScope s__law_through) (by decide +kernel)) (fun _ _ _ _ _ => (pg_tup rfl (pgs_cons (pg_name (i := 7) sc_lthr.nd rfl (Or.inl rfl)) (pgs_cons (pg_name (i := 8) sc_lthr.nd rfl (Or.inl rfl)) pgs_nil)))) (fun _ _ _ _ _ => pts_nil) (fun _ _ _ _ _ => (pe_op op_mul (pv 7) (pv 8)))) pa_nil)))
      (pss_one (ps_if (PW.pt (by exact (pw_and (pt_cmpR op_lt (pe_callB call_abs rfl B.abs PyProof.Rows.boot_abs (pa_cons (pv 9) pa_nil)) pe_int (nomark _)) (pw_and1 (pt_cmp (pc_dnotin (hu_of hr) (pe_cl CG (hr.mono (by decide)) (pa_cons (pe_tup (pa_cons (pe_ix ix_tup (pv 6) pe_int (fun _ _ => rfl)) (pa_cons (pv 9) pa_nil))) pa_nil)) (pv 5))))))) (pss_cons (ps_dput (hu_of hr) (pv 5) (pe_cl CG (hr.mono (by decide)) (pa_cons (pe_tup (pa_cons (pe_ix ix_tup (pv 6) pe_int (fun _ _ => rfl)) (pa_cons (pv 9) pa_nil))) pa_nil)) pe_bl rfl)
        (pss_one (ps_expr (pe_bm PySem.F.plainAttrs_list PySem.F.slot_list_append PySem.F.type_list_append mt_append (pv 4) (pa_cons (pe_tup (pa_cons (pe_ix ix_tup (pv 6) pe_int (fun _ _ => rfl)) (pa_cons (pv 9) pa_nil))) pa_nil))))) pss_nil))))
    (pss_one (ps_ret (pe_tup (pa_cons (pe_ix ix_tup (pv 1) pe_int (fun _ _ => rfl)) (pa_cons (pe_callTy call_tuple_of rfl B.tup bootTup (pa_cons (pv 4) pa_nil)) pa_nil)))))))), ?_⟩
  have lx : xs.length = qs.length := paired_len hp
  have n4 := pg.n4
  have n1 := pg.n1
  have l8 := pg.l8
  refine ⟨_, rfl, a, _, _, _, rfl, rfl, ha, rfl, _, rfl, by omega, by omega, fun D nD => lc_deckR (K := K) (lo := 0) (fun _ y _ => ∃ z : Int, y = .int z ∧ z.natAbs ≤ 1) (fun _ _ _ _ h _ => h) nD dk (by rw [Int.toNat_natCast]; omega) (fun i H5 Kc _ g5 dk5 kc => ?_) (fun ys H1 hD hl g1 dk1 hR => ?_)⟩
  · exact ⟨rfl, _, rfl, d, 3, rfl, dk5, by decide, by decide +kernel, fun t H6 t0 t1 g6 dk6 => ⟨_, _, rfl, rfl, kc _ _ g6 dk6 ⟨_, rfl, by omega⟩⟩⟩
  rw [Int.toNat_natCast] at hl
  obtain ⟨zs, rfl, z1⟩ := ints_of hR
  rw [List.length_map] at hl
  have hDd := dk.ne nD
  refine ⟨szN (by show 0 ≤ 1000000; decide), fun Dl nl Ds ns => ⟨_, _, rfl, ?_⟩⟩
  obtain ⟨nsl, ns1⟩ := new_none ns
  have kl := (Gr.refl H1).new nl (.lst [])
  have kp := kl.new ns (.dT [])
  have eS : (upd (upd H1 Dl (.lst [])) Ds (.dT [])) Ds = some (.dT []) := upd_same
  have eL : (upd (upd H1 Dl (.lst [])) Ds (.dT [])) Dl = some (.lst []) := by rw [upd_ne (Ne.symm nsl)]; exact upd_same
  have dk3 := dk1.gr kp
  have hb3 := kp.seqT (g1.st dk _ _ hb)
  have ha3 := kp.seqT (g1.st dk _ _ ha)
  have hp3 : Paired (QuV K (upd (upd H1 Dl (.lst [])) Ds (.dT []))) xs qs := Paired.mapP hp fun _ _ z => (z.st (g1.st dk)).gr kp
  have hD3 : (upd (upd H1 Dl (.lst [])) Ds (.dT [])) D = some (.lst (zs.map V.int)) := kp.keep D _ (fun _ z => nomatch z) hD
  generalize upd (upd H1 Dl (.lst [])) Ds (.dT []) = H3 at kp eS eL dk3 ha3 hb3 hp3 hD3 ⊢
  clear kl ns
  have hld := dk1.ne nl
  have hsd := dk1.ne ns1
  refine ⟨_, rfl, a, _, _, _, rfl, rfl, ha3, rfl, b, rfl, ⟨xs, hb3⟩, ?_⟩
  -- what stands: the book, the spot, found and seen
  refine for_tup (xs := xs) (fun i σ H' => ∃ (rs : List (List Int × Int)) (vs : List V) (kvs : List (List Key × V)) (c2 c6 c7 c8 c9 : Option V), σ = [some (.ref d), some (.ref a), c2, some (.ref D), some (.ref Dl), some (.ref Ds), c6, c7, c8, c9] ∧
    GrD d H1 H' ∧ DeckAt d H' ∧ H' D = some (.lst (zs.map V.int)) ∧ H' Dl = some (.lst vs) ∧ Paired (QuV K H') vs rs ∧ rs.length ≤ i ∧ (∀ q, q ∈ rs → Q9 q ∧ q.1.length = n) ∧ H' Ds = some (.dT kvs) ∧ kvs.length = rs.length ∧ (∀ q, q ∈ rs → valV kvs (grK q) ≠ none) ∧ (rs.map nfU).Nodup ∧ Tst K H3 H')
    ⟨[], [], [], _, _, _, _, _, rfl, kp.d d, dk3, hD3, eL, .nil, Nat.le_refl _, fun q h => by simp at h, eS, rfl, fun q h => by simp at h, by simp, fun _ _ h => h⟩ (fun i σ H' _ h => ?_) (fun i x' σ H' hx h => ?_) (fun σ H' h => ?_)
  · obtain ⟨rs, vs, kvs, c2, c6, c7, c8, c9, rfl, g, dk5, hDD, hll, hpp, hlen, h9, hs, hk, hv, nd, st⟩ := h
    exact st _ _ hb3
  · obtain ⟨rs, vs, kvs, c2, c6, c7, c8, c9, rfl, g, dk5, hDD, hll, hpp, hlen, h9, hs, hk, hv, nd, st⟩ := h
    obtain ⟨q, eq, hn⟩ := paired_get hp3 hx
    have iq : i < qs.length := (List.getElem?_eq_some_iff.mp eq).1
    obtain ⟨q9, ql⟩ := pg.q9 q (List.mem_of_getElem? eq)
    obtain ⟨qa, qt, rfl, s1, sa, rfl, s2⟩ := hn.st st
    refine ⟨_, rfl, qa, _, _, _, rfl, rfl, s1, rfl, _, rfl, sa, D, _, _, rfl, s2, .inr ⟨SqL.of hDD, fun D2 nD2 => lc_mapM (K := K) (fun i y => ∃ z u : Int, q.1[i]? = some z ∧ zs[i]? = some u ∧ y = .int (z * u)) nD2 (by rw [List.length_map, List.length_map, ql, hl]) s2 (SqL.of hDD) (by rw [List.length_map]; omega) (fun j x y T' H5 Kc hx hy g5 nT kc => ?_) (fun ys H5 hD5 hl5 g5 hR5 => ?_)⟩⟩
    · rw [List.getElem?_map] at hx hy
      obtain ⟨z, hz, rfl⟩ := Option.map_eq_some_iff.mp hx
      obtain ⟨u, hu, rfl⟩ := Option.map_eq_some_iff.mp hy
      have u1 := z1 u (List.mem_of_getElem? hu)
      exact ⟨T', _, rfl, SqT.of upd_same, rfl, _, _, rfl, _, _, rfl, rfl, rfl, _, rfl, _, rfl, _, _, rfl, rfl, .inr ⟨by omega, by omega⟩, kc _ _ (Gr.refl _) ⟨z, u, hz, hu, rfl⟩⟩
    · obtain ⟨ms, rfl⟩ : ∃ ms : List Int, ys = ms.map V.int := by
        have : ∀ {l : List V}, (∀ (i : Nat) (y : V), l[i]? = some y → ∃ z : Int, y = .int z) → ∃ ms : List Int, l = ms.map V.int := fun {l} => by
          induction l with
          | nil => exact fun _ => ⟨[], rfl⟩
          | cons y r ih =>
            intro f
            obtain ⟨z, rfl⟩ := f 0 y rfl
            obtain ⟨zs, rfl⟩ := ih fun i y e => f (i + 1) y (by simpa using e)
            exact ⟨z :: zs, rfl⟩
        exact this fun i y e => let ⟨z, u, _, _, h⟩ := hR5 i y e; ⟨z * u, h⟩
      refine ⟨D2, ms, rfl, SqL.of hD5, ?_⟩
      generalize ms.sum = W
      have dk6 := dk5.gr g5
      have g06 := g.gr g5
      have st6 : Tst K H3 H5 := st.trans g5.st
      have hs6 : H5 Ds = some (.dT kvs) := g5.keep Ds _ (fun _ z => nomatch z) hs
      have hl6 : H5 Dl = some (.lst vs) := g5.keep Dl _ (fun _ z => nomatch z) hll
      have hD6 : H5 D = some (.lst (zs.map V.int)) := g5.keep D _ (fun _ z => nomatch z) hDD
      have hp6 : Paired (QuV K H5) vs rs := Paired.mapP hpp fun _ _ z => z.gr g5
      have s1 := g5.seqT s1
      have s2 := g5.seqT s2
      refine ⟨_, rfl, W, rfl, _, _, rfl, rfl, _, rfl, ?_⟩
      by_cases c : (if W < 0 then -W else W) < 10
      · refine iteP c ?_
        have W10 : W.natAbs < 2 ^ 4 := by
          have : (if W < 0 then -W else W) = ((W.natAbs : Nat) : Int) := abs_nat W
          rw [this] at c
          have : (2 : Nat) ^ 4 = 16 := rfl
          omega
        have q9' : Q9 (q.1, W) := ⟨q9.nz, q9.ns, W10⟩
        refine ⟨_, rfl, qa, _, _, _, rfl, rfl, s1, rfl, _, rfl, szN (by show 2 ≤ 1000000; decide), fun p7 n7 => ?_⟩
        have k7 := (Gr.refl H5).new n7 (.tup [.ref sa, .int W])
        have qv7 : QuV K (upd H5 p7 (.tup [.ref sa, .int W])) (.ref p7) (q.1, W) := ⟨p7, _, rfl, SqT.of upd_same, sa, rfl, k7.seqT s2⟩
        refine ⟨_, (q.1, W), rfl, qv7, q9', by show q.1.length ≤ 8; omega, fun bb H8 g8 hb8 => ?_⟩
        have k58 := k7.trans g8
        have hs8 : H8 Ds = some (.dT kvs) := k58.keep Ds _ (fun _ z => nomatch z) hs6
        refine ⟨_, rfl, Ds, _, rfl, DGet.t (k := grK (q.1, W)) hs8 (by rw [grK_kV]; exact hb8), _, rfl, ?_⟩
        have hl8 : H8 Dl = some (.lst vs) := k58.keep Dl _ (fun _ z => nomatch z) hl6
        have hD8 : H8 D = some (.lst (zs.map V.int)) := k58.keep D _ (fun _ z => nomatch z) hD6
        have hp8 : Paired (QuV K H8) vs rs := Paired.mapP hp6 fun _ _ z => z.gr k58
        have dk8 := dk6.gr k58
        have g08 := g06.gr k58
        have st8 : Tst K H3 H8 := st6.trans k58.st
        have s1 := k58.seqT s1
        have s2 := k58.seqT s2
        cases hv7 : valV kvs (grK (q.1, W)) with
        | some z => exact iteF ⟨rs, vs, kvs, _, _, _, _, _, rfl, g08, dk8, hD8, hl8, hp8, by omega, h9, hs8, hk, hv, nd, st8⟩
        | none =>
          have xl : vs.length = rs.length := paired_len hpp
          refine iteT ⟨_, rfl, _, rfl, qa, _, _, _, rfl, rfl, s1, rfl, _, rfl, szN (by show 2 ≤ 1000000; decide), fun p9 n9 => ?_⟩
          have k9 := (Gr.refl H8).new n9 (.tup [.ref sa, .int W])
          refine ⟨_, (q.1, W), rfl, ⟨p9, _, rfl, SqT.of upd_same, sa, rfl, k9.seqT s2⟩, q9', by show q.1.length ≤ 8; omega, fun b2 H9 g9 hb9 => ?_⟩
          have k89 := k9.trans g9
          have hs9 : H9 Ds = some (.dT kvs) := k89.keep Ds _ (fun _ z => nomatch z) hs8
          have hl9 : H9 Dl = some (.lst vs) := k89.keep Dl _ (fun _ z => nomatch z) hl8
          have hD9 : H9 D = some (.lst (zs.map V.int)) := k89.keep D _ (fun _ z => nomatch z) hD8
          have nDs : Ds ≠ D := fun e => by rw [e, hD9] at hs9; cases hs9
          have nDl : Dl ≠ D := fun e => by
            have h1 : H1 D = none := by rw [← e]; exact nl
            rw [h1] at hD
            cases hD
          refine ⟨Ds, _, rfl, DPut.t (k := grK (q.1, W)) hs9 (by rw [grK_kV]; exact hb9) (small1000 (by omega)), ?_⟩
          have t10 : Tst K H9 (upd H9 Ds (.dT (putK kvs (grK (q.1, W)) (.bl true)))) := Tst.put2 hs9 (fun _ z => nomatch z) (fun _ _ z => nomatch z)
          have hl10 : (upd H9 Ds (.dT (putK kvs (grK (q.1, W)) (.bl true)))) Dl = some (.lst vs) := by rw [upd_ne (Ne.symm nsl)]; exact hl9
          have hD10 : (upd H9 Ds (.dT (putK kvs (grK (q.1, W)) (.bl true)))) D = some (.lst (zs.map V.int)) := by rw [upd_ne (Ne.symm nDs)]; exact hD9
          have hs10 : (upd H9 Ds (.dT (putK kvs (grK (q.1, W)) (.bl true)))) Ds = some (.dT (putK kvs (grK (q.1, W)) (.bl true))) := upd_same
          have g10 := (g08.gr k89).put ns1 (.dT (putK kvs (grK (q.1, W)) (.bl true)))
          have dk10 := (dk8.gr k89).put hsd (.dT (putK kvs (grK (q.1, W)) (.bl true)))
          have st10 := (st8.trans k89.st).trans t10
          have hp10 : Paired (QuV K (upd H9 Ds (.dT (putK kvs (grK (q.1, W)) (.bl true))))) vs rs := Paired.mapP hp8 fun _ _ z => (z.gr k89).st t10
          have s1 := t10 _ _ (k89.seqT s1)
          have s2 := t10 _ _ (k89.seqT s2)
          generalize upd H9 Ds (.dT (putK kvs (grK (q.1, W)) (.bl true))) = H10 at hl10 hD10 hs10 g10 dk10 st10 hp10 s1 s2 ⊢
          clear t10
          refine ⟨_, rfl, .inl ⟨rfl, _, SqL.of hl10⟩, _, rfl, qa, _, _, _, rfl, rfl, s1, rfl, _, rfl, szN (by show 2 ≤ 1000000; decide), fun p11 n11 => ?_⟩
          have k11 := (Gr.refl H10).new n11 (.tup [.ref sa, .int W])
          have hl11 := k11.keep Dl (.lst vs) (fun _ z => nomatch z) hl10
          have hs11 := k11.keep Ds (.dT (putK kvs (grK (q.1, W)) (.bl true))) (fun _ z => nomatch z) hs10
          have hD11 := k11.keep D (.lst (zs.map V.int)) (fun _ z => nomatch z) hD10
          have qv11 : QuV K (upd H10 p11 (.tup [.ref sa, .int W])) (.ref p11) (q.1, W) := ⟨p11, _, rfl, SqT.of upd_same, sa, rfl, k11.seqT s2⟩
          have g11 := g10.gr k11
          have dk11 := dk10.gr k11
          have st11 := st10.trans k11.st
          have hp11 : Paired (QuV K (upd H10 p11 (.tup [.ref sa, .int W]))) vs rs := Paired.mapP hp10 fun _ _ z => z.gr k11
          generalize upd H10 p11 (.tup [.ref sa, .int W]) = H11 at hl11 hs11 hD11 qv11 g11 dk11 st11 hp11 ⊢
          have t12 : Tst K H11 (upd H11 Dl (.lst (vs ++ [.ref p11]))) := Tst.put hl11
          refine ⟨Dl, _, _, rfl, rfl, hl11, small1000 (by omega), rs ++ [(q.1, W)], vs ++ [.ref p11], putK kvs (grK (q.1, W)) (.bl true), _, _, _, _, _, rfl, g11.put nl _, dk11.put hld _, by rw [upd_ne (Ne.symm nDl)]; exact hD11, upd_same, paired_app (Paired.mapP hp11 fun _ _ z => z.st t12) (.cons (qv11.st t12) .nil), by rw [List.length_append]; show _ + 1 ≤ _; omega, fun q' h => ?_, by rw [upd_ne nsl]; exact hs11, ?_, fun q' h => ?_, ?_, st11.trans t12⟩
          · rcases List.mem_append.mp h with h | h
            · exact h9 q' h
            · rw [List.mem_singleton.mp h]
              exact ⟨q9', ql⟩
          · rw [putK_new _ hv7, List.length_append, List.length_append, hk]
            rfl
          · rw [valV_put]
            by_cases e : grK q' = grK (q.1, W)
            · rw [if_pos e]
              exact fun z => nomatch z
            · rw [if_neg e]
              rcases List.mem_append.mp h with h | h
              · exact hv q' h
              · exact absurd (by rw [List.mem_singleton.mp h]) e
          · rw [List.map_append, List.nodup_append]
            refine ⟨nd, by simp, fun y hy b' hb2 => ?_⟩
            obtain ⟨q', hq', rfl⟩ := List.mem_map.mp hy
            have eb : b' = nfU (q.1, W) := by simpa using hb2
            rw [eb]
            intro e
            have := hv q' hq'
            rw [nfU_gr e] at this
            exact this hv7
      · refine iteN c ⟨rs, vs, kvs, _, _, _, _, _, rfl, g06, dk6, hD6, hl6, hp6, by omega, h9, hs6, hk, hv, nd, st6⟩
  · obtain ⟨rs, vs, kvs, c2, c6, c7, c8, c9, rfl, g, dk5, hDD, hll, hpp, hlen, h9, hs, hk, hv, nd, st⟩ := h
    have lq : rs.length ≤ 8 := by omega
    refine ⟨_, rfl, a, _, _, _, rfl, rfl, st _ _ ha3, rfl, _, rfl, Dl, vs, rfl, .inl ⟨SqL.of hll, fun p2 m2 => ⟨szN (by show 2 ≤ 1000000; decide), fun p3 m3 => ?_⟩⟩⟩
    have r2 := (Gr.refl H').new m2 (.tup vs)
    have r3 := r2.new m3 (.tup [.int ((n : Nat) : Int), .ref p2])
    refine hq _ rs _ ((g1.trans g).gr r3) (dk5.gr r3) ⟨p3, p2, vs, rfl, SqT.of upd_same, ((Gr.refl _).new m3 _).seqT (SqT.of upd_same), Paired.mapP hpp fun _ _ z => z.gr r3⟩ ⟨n1, by omega, lq, fun q h => ⟨(h9 q h).1.ok, (h9 q h).2⟩, nd⟩ ⟨n1, n4, lq, h9⟩
end
end SB
namespace RP
open PySem PySem.Spec PyProof.Rows L2
theorem mulOne (l : Addr) (items : Array Value) (n : Nat) (dd : Option Addr) (sl : Array (Option Value)) (u : Tok) :
    Meets (Builtin.«tuple.__mul__» ⟨[.ref l, .int 1 u], []⟩) (fun _ R s => s.heap.get? l = some { cls := .type "tuple", dict := dd, data := .seq items n, slots := sl } ∧ R (.ok (.ret (Value.ref l))) s) :=
  .of_wp fun prog w A R s h => by
    obtain ⟨hp, g, d, tk, os⟩ := s
    obtain ⟨hl, h⟩ := h
    have f1 := AutoSeq1.idx_int
    wp_walk using wpAny_loadPart' hl
    repeat (first
      | (refine wpAny_ite_false (decide_eq_false (by decide)) ?_; wp_walk using wpAny_loadPart' hl)
      | (refine wpAny_ite_true (decide_eq_true (by simp)) ?_; wp_walk using wpAny_loadPart' hl))
    exact ⟨_, rfl, h⟩
theorem mulNone (l : Addr) (items : Array Value) (n : Nat) (dd : Option Addr) (sl : Array (Option Value)) (u : Tok) (hi : items.isEmpty = false) :
    Meets (Builtin.«tuple.__mul__» ⟨[.ref l, .int 0 u], []⟩) (fun _ R s => s.heap.get? l = some { cls := .type "tuple", dict := dd, data := .seq items n, slots := sl } ∧
      R (.ok (.ret (Value.ref s.heap.objs.size))) { s with heap := s.heap.push { cls := Value.type "tuple", data := Data.seq #[] }, toks := s.toks }) :=
  .of_wp fun prog w A R s h => by
    obtain ⟨hp, g, d, tk, os⟩ := s
    obtain ⟨hl, h⟩ := h
    have f1 := AutoSeq1.idx_int
    wp_walk using wpAny_loadPart' hl
    repeat (first
      | (refine wpAny_ite_false (decide_eq_false (by decide)) ?_; wp_walk using wpAny_loadPart' hl)
      | (refine wpAny_ite_false (decide_eq_false (by rw [hi]; decide)) ?_; wp_walk using wpAny_loadPart' hl)
      | (refine wpAny_ite_true (decide_eq_true (by simp)) ?_; wp_walk using wpAny_loadPart' hl))
    exact ⟨_, rfl, h⟩
/-- tuple * k, k from 0 on -/
def rRepA (K : PySem.W.Frag) : R2 := fun x y H Q => ∃ l k xs, x = .ref l ∧ y = .int k ∧ SqT K H l xs ∧ xs ≠ [] ∧ 0 ≤ k ∧ k ≤ 1000 ∧ xs.length ≤ 1000 ∧ (k = 1 → Q (.ref l) H) ∧ (k ≠ 1 → ∀ p, H p = none → Q (.ref p) (upd H p (.tup (List.replicate k.toNat xs).flatten)))
theorem op_repA {X : Cx} : OpR X (binaryOp .Mult) (rRepA X.K) := by
  intro pins s σ H x y v u Q I rx ry h
  obtain ⟨l, k, xs, rfl, rfl, hT, hne, h1, h2, hz, qa, qb⟩ := h
  by_cases c : 2 ≤ k
  · exact op_repT pins s σ H _ _ v u Q I rx ry ⟨l, k, xs, rfl, rfl, hT, hne, c, h2, hz, qb (by omega)⟩
  cases rx
  obtain ⟨t, rfl⟩ := ry
  obtain ⟨its, r, ⟨⟨cls, dd, data, sl⟩, ho, hc, n, hd⟩, hs⟩ := I.tuple hT
  simp only at hc hd
  subst hc hd
  have hle : its.length = xs.length := r.length.symm
  have hn : its ≠ [] := fun e => hne (by
    rw [e] at hle
    exact List.eq_nil_of_length_eq_zero hle.symm)
  have hi : its.toArray.isEmpty = false := by
    cases its with
    | nil => exact absurd rfl hn
    | cons a b => rfl
  have c2 : k = 0 ∨ k = 1 := by omega
  rcases c2 with rfl | rfl
  · refine wpAny_binaryOp_repeat_ref (T := "tuple") (U := "int") (by decide) ⟨_, ho, rfl⟩ (fun s' => typeIs_int s' 0 t) noFill_tuple_mul F.fills_int_mul F.slot_int_rmul repeat_tuple F.slot_int_index.lookup
      (call_meets F.slot_int_rmul (typeIs_int s 0 t) F.entry_int_rmul (F.args_int_rmul_2 _ _) (int_rmul_tuple 0 t l its.toArray n dd sl)
        ⟨ho, rfl, ⟨_, ho, rfl⟩, call_meets F.slot_tuple_mul ⟨_, ho, rfl⟩ F.entry_tuple_mul (F.args_tuple_mul_2 _ _) (mulNone l its.toArray n dd sl t hi) ⟨ho, ?_⟩⟩)
    refine ⟨.ref s.heap.objs.size, _, I.laid (t' := s.toks) (o := .tup []) (fun b ob q => Heap.get?_push_of_some _ q) (Nat.le_refl _) ?_, rfl, qb (by decide) _ (I.hok.fresh (Nat.le_refl _))⟩
    exact ⟨by decide, _, .nil, IsTup.new _ _⟩
  · refine wpAny_binaryOp_repeat_ref (T := "tuple") (U := "int") (by decide) ⟨_, ho, rfl⟩ (fun s' => typeIs_int s' 1 t) noFill_tuple_mul F.fills_int_mul F.slot_int_rmul repeat_tuple F.slot_int_index.lookup
      (call_meets F.slot_int_rmul (typeIs_int s 1 t) F.entry_int_rmul (F.args_int_rmul_2 _ _) (int_rmul_tuple 1 t l its.toArray n dd sl)
        ⟨ho, rfl, ⟨_, ho, rfl⟩, call_meets F.slot_tuple_mul ⟨_, ho, rfl⟩ F.entry_tuple_mul (F.args_tuple_mul_2 _ _) (mulOne l its.toArray n dd sl t) ⟨ho, ?_⟩⟩)
    exact ⟨.ref l, H, I, rfl, qa rfl⟩
end RP
namespace SB
open PySem L2 GxR GA RZ
/-! ### a call by names alone -/
structure ClK (P : Program) (w : World) (K : PySem.W.Frag) (mg : Str → Option Value) (base : Heap) (k : Nat) (x : Str) (ps ks : List Str) (g : List Value → List Value → List Value) (gV : List V → List V → List V) (sp : Sp) : Prop where
  ex : ∃ (f : Addr) (fd : FuncData), FnOk P w K mg base CX0 k f fd ps sp ∧ mg x = some (.ref f) ∧ PySem.W.keepIn K (.ref f) = true ∧ KBinds K fd ps ks g gV
theorem ClK.mono {P : Program} {w : World} {K : PySem.W.Frag} {mg : Str → Option Value} {base : Heap} {j k : Nat} {x : Str} {ps ks : List Str} {g : List Value → List Value → List Value} {gV : List V → List V → List V} {sp : Sp} (c : ClK P w K mg base j x ps ks g gV sp) (h : j ≤ k) : ClK P w K mg base k x ps ks g gV sp := by
  obtain ⟨f, fd, F, r⟩ := c.ex
  exact ⟨f, fd, F.mono h, r⟩
def tCallK0 (sp : Sp) (gV : List V → List V → List V) (tk : TA) : TE := fun σ H Q => tk σ H fun zs H2 => sp (gV [] zs) H2 Q E0
theorem pe_clK {X : Cx} {k : Nat} {x : Str} {ps ks : List Str} {g : List Value → List Value → List Value} {gV : List V → List V → List V} {sp : Sp} {p pos : Pos} {kws : List Keyword} {tk : TA} (c : ClK X.prog X.w X.K X.mg X.base k x ps ks g gV sp) (hr : Room k X.A) (hkw : PK X kws tk) (hg : Gl X x := by rfl)
    (hall : (backToKw pos (keywordEach kws X.env)).all (·.1.isSome) = true := by rfl) (hks : (backToKw pos (keywordEach kws X.env)).filterMap (·.1) = ks := by rfl) (hdb : (x == ("__debug__" : Str)) = false := by decide)
    (hpl : ((backTo pos (starEach [] X.env)).any (·.1) || (backToKw pos (keywordEach kws X.env)).any (·.1.isNone)) = false := by rfl) : PE X (.Call (.Name x p) [] kws pos) (tCallK0 sp gV tk) := by
  obtain ⟨f, fd, F, hm, hk, hb⟩ := c.ex
  refine ⟨fun pins s σ H Q I h => ?_⟩
  refine wpAny_Call_Name_kw (ld_glob I hg hm ?_ hdb)
  refine PySem.W.callWith_KW0 (h₀ := X.base) I.ok.mod.kin hk hall (thn (hkw.run pos pins s σ H _ I h) fun ws s2 ⟨zs, H2, I2, rz, q2⟩ => ⟨I2.kIn, ?_⟩) hpl
  rw [hks]
  exact run_fnk (us := []) (vs := []) F hr hb pass0 I2 .nil rz q2
/-- two, three, four names the other way round -/
def gR2 {α : Type} : List α → List α → List α
  | [], [a, b] => [b, a]
  | _, _ => []
def gR3 {α : Type} : List α → List α → List α
  | [], [a, b, c] => [c, b, a]
  | _, _ => []
theorem gR2_rel {vs : List V} {us : List Value} {zs : List V} {ws : List Value} (r : Vals vs us) (q : Vals zs ws) : Vals (gR2 vs zs) (gR2 us ws) := by
  cases r with
  | cons _ _ => exact .nil
  | nil =>
    cases q with
    | nil => exact .nil
    | cons h1 q =>
      cases q with
      | nil => exact .nil
      | cons h2 q =>
        cases q with
        | nil => exact .cons h2 (.cons h1 .nil)
        | cons h3 q => exact .nil
theorem gR3_rel {vs : List V} {us : List Value} {zs : List V} {ws : List Value} (r : Vals vs us) (q : Vals zs ws) : Vals (gR3 vs zs) (gR3 us ws) := by
  cases r with
  | cons _ _ => exact .nil
  | nil =>
    cases q with
    | nil => exact .nil
    | cons h1 q =>
      cases q with
      | nil => exact .nil
      | cons h2 q =>
        cases q with
        | nil => exact .nil
        | cons h3 q =>
          cases q with
          | nil => exact .cons h3 (.cons h2 (.cons h1 .nil))
          | cons h4 q => exact .nil
theorem gR2_len {us ws : List Value} (h : (gR2 us ws).length = 2) : ∃ a b, us = [] ∧ ws = [a, b] := by
  match us, ws, h with
  | [], [a, b], _ => exact ⟨a, b, rfl, rfl⟩
theorem gR3_len {us ws : List Value} (h : (gR3 us ws).length = 3) : ∃ a b c, us = [] ∧ ws = [a, b, c] := by
  match us, ws, h with
  | [], [a, b, c], _ => exact ⟨a, b, c, rfl, rfl⟩
section
variable {P : Program} {w : World} {K : PySem.W.Frag} {mg : Str → Option Value} {base : Heap} {k : Nat} {x : Str} {st : Stmt} {sp : Sp} {c : Addr}
/-- from a call by places, where the def is known -/
theorem clK_of {ps ks : List Str} {g : List Value → List Value → List Value} {gV : List V → List V → List V} (C : Cl P w K mg base k x ps sp) (D : Df K mg x st)
    (hb : ∀ (kV doc pm : Value) (an : Option Addr) (cdv ct : Value), KBinds K (PySem.W.fnOf x x (defArgs st) (defBody st) (defScope st) .none kV doc pm an cdv ct) ps ks g gV) : ClK P w K mg base k x ps ks g gV sp := by
  obtain ⟨f, fd, F, m⟩ := D.ex
  obtain ⟨oc, od, kV, doc, pm, an, cdv, ct, osl, rfl, lk, hcd⟩ := F.ex
  obtain ⟨fd2, G, oc2, od2, osl2, lk2⟩ := C.lk f m
  rw [lk] at lk2
  cases lk2
  exact ⟨f, _, G, m, F.kp, hb kV doc pm an cdv ct⟩
theorem DfT.df (D : DfT K mg x st c) : Df K mg x st := by
  obtain ⟨f, fd, F, m⟩ := D.ex
  exact ⟨f, fd, F.fn, m⟩
theorem clK2 {a b : Str} (C : Cl P w K mg base k x [a, b] sp) (D : Df K mg x st)
    (hb : ∀ (kV doc pm : Value) (an : Option Addr) (cdv ct : Value) (u v : Value), bindArgs (PySem.W.fnOf x x (defArgs st) (defBody st) (defScope st) .none kV doc pm an cdv ct) ⟨[], [(b, v), (a, u)]⟩ = pure [(a, u), (b, v)]) : ClK P w K mg base k x [a, b] [b, a] gR2 gR2 sp :=
  clK_of C D fun kV doc pm an cdv ct => ⟨fun s us ws _ hl => by
    obtain ⟨u, v, rfl, rfl⟩ := gR2_len hl
    exact .of_eq (hb kV doc pm an cdv ct v u), fun r q => gR2_rel r q⟩
theorem clK3 {a b d : Str} (C : Cl P w K mg base k x [a, b, d] sp) (D : Df K mg x st)
    (hb : ∀ (kV doc pm : Value) (an : Option Addr) (cdv ct : Value) (u v z : Value), bindArgs (PySem.W.fnOf x x (defArgs st) (defBody st) (defScope st) .none kV doc pm an cdv ct) ⟨[], [(d, z), (b, v), (a, u)]⟩ = pure [(a, u), (b, v), (d, z)]) : ClK P w K mg base k x [a, b, d] [d, b, a] gR3 gR3 sp :=
  clK_of C D fun kV doc pm an cdv ct => ⟨fun s us ws _ hl => by
    obtain ⟨u, v, z, rfl, rfl⟩ := gR3_len hl
    exact .of_eq (hb kV doc pm an cdv ct z v u), fun r q => gR3_rel r q⟩
end
def gR1 {α : Type} : List α → List α → List α
  | [], [a] => [a]
  | _, _ => []
theorem gR1_rel {vs : List V} {us : List Value} {zs : List V} {ws : List Value} (r : Vals vs us) (q : Vals zs ws) : Vals (gR1 vs zs) (gR1 us ws) := by
  cases r with
  | cons _ _ => exact .nil
  | nil =>
    cases q with
    | nil => exact .nil
    | cons h1 q =>
      cases q with
      | nil => exact .cons h1 .nil
      | cons h2 q => exact .nil
theorem gR1_len {us ws : List Value} (h : (gR1 us ws).length = 1) : ∃ a, us = [] ∧ ws = [a] := by
  match us, ws, h with
  | [], [a], _ => exact ⟨a, rfl, rfl⟩
section
variable {P : Program} {w : World} {K : PySem.W.Frag} {mg : Str → Option Value} {base : Heap} {k : Nat} {x : Str} {st : Stmt} {sp : Sp} {c : Addr}
theorem clK1 {a : Str} (C : Cl P w K mg base k x [a] sp) (D : Df K mg x st)
    (hb : ∀ (kV doc pm : Value) (an : Option Addr) (cdv ct : Value) (u : Value), bindArgs (PySem.W.fnOf x x (defArgs st) (defBody st) (defScope st) .none kV doc pm an cdv ct) ⟨[], [(a, u)]⟩ = pure [(a, u)]) : ClK P w K mg base k x [a] [a] gR1 gR1 sp :=
  clK_of C D fun kV doc pm an cdv ct => ⟨fun s us ws _ hl => by
    obtain ⟨u, rfl, rfl⟩ := gR1_len hl
    exact .of_eq (hb kV doc pm an cdv ct u), fun r q => gR1_rel r q⟩
end
end SB
namespace SB
open PySem L2 GxR GA RZ
theorem sgn_neg (i : Int) : sgn (-i) = -sgn i := by
  unfold sgn
  by_cases h1 : 0 < i
  · rw [if_pos h1, if_neg (by omega), if_pos (by omega)]
  · rw [if_neg h1]
    by_cases h2 : i < 0
    · rw [if_pos h2, if_pos (by omega)]
      rfl
    · rw [if_neg h2, if_neg (by omega), if_neg (by omega)]
      rfl
theorem sgn_in (i : Int) : -1 ≤ sgn i ∧ sgn i ≤ 1 := by
  unfold sgn
  by_cases h1 : 0 < i
  · rw [if_pos h1]; decide
  · rw [if_neg h1]
    by_cases h2 : i < 0
    · rw [if_pos h2]; decide
    · rw [if_neg h2]; decide
theorem ans_neg (q : List Int × Int) (us : List (Int × Int)) : ansU (negU q) us = -ansU q us := by
  unfold ansU
  rw [worth_neg, sgn_neg]
theorem row_len (qs : List (List Int × Int)) (us : List (Int × Int)) : (rowU qs us).length = qs.length := List.length_map _
theorem row_at {qs : List (List Int × Int)} {us : List (Int × Int)} {i : Nat} {q : List Int × Int} (e : qs[i]? = some q) : (rowU qs us)[i]? = some (ansU q us) := by
  unfold rowU
  rw [List.getElem?_map, e]
  rfl
theorem row_ce (qs : List (List Int × Int)) (us : List (Int × Int)) : CeOk (rowU qs us) := fun z hz => by
  obtain ⟨q, _, rfl⟩ := List.mem_map.mp hz
  exact sgn_in _
theorem turn_set {qs : List (List Int × Int)} {i : Nat} {q : List Int × Int} (e : qs[i]? = some q) : turnU qs i = qs.set i (negU q) := by
  unfold turnU
  rw [e]
  exact set_take _ (List.getElem?_eq_some_iff.mp e).1
theorem row_turn {qs : List (List Int × Int)} {i : Nat} {q : List Int × Int} (us : List (Int × Int)) (e : qs[i]? = some q) : rowU (turnU qs i) us = (rowU qs us).set i (-ansU q us) := by
  rw [turn_set e]
  unfold rowU
  rw [List.map_set, ans_neg]
theorem BOk.turn {d : Nat} {qs : List (List Int × Int)} {i : Nat} (ok : BOk d qs) (hi : i < qs.length) : BOk d (turnU qs i) := by
  have e : qs[i]? = some qs[i] := List.getElem?_eq_getElem hi
  obtain ⟨qo, ql⟩ := ok.ok qs[i] (List.getElem_mem hi)
  rw [turn_set e]
  refine ⟨ok.d1, ok.d8, by rw [List.length_set]; exact ok.l8, fun q hq => ?_, ?_⟩
  · rcases List.mem_or_eq_of_mem_set hq with h | h
    · exact ok.ok q h
    · rw [h]
      exact ⟨qo.neg, by show (List.map _ _).length = _; rw [List.length_map]; exact ql⟩
  · rw [List.map_set, nfU_neg qo]
    have : (qs.map nfU).set i (nfU qs[i]) = qs.map nfU := by
      refine List.ext_getElem? fun j => ?_
      rw [List.getElem?_set]
      by_cases h : i = j
      · subst h
        rw [if_pos rfl, if_pos (by rw [List.length_map]; exact hi), List.getElem?_map, e]
        rfl
      · rw [if_neg h]
    rw [this]
    exact ok.nd
theorem fit_none (n : Nat) (zs : List Int) : fitU (List.replicate n none) zs = true := by
  unfold fitU
  refine List.all_eq_true.mpr fun p hp => ?_
  have := (List.of_mem_zip (a := p.1) (b := p.2) hp).1
  rw [(List.mem_replicate.mp this).2]
  rfl
theorem Tb5.grd {T : Nat → Addr} {d : Addr} {H H' : Hp} (t : Tb5 T H) (dk : DeckAt d H) (g : GrD d H H') : Tb5 T H' := ⟨fun i h => by
  have z := t.t i h
  refine g.tab _ (fun e => ?_) z
  obtain ⟨ps, e1, _⟩ := z
  obtain ⟨a, b, e2, _⟩ := dk
  rw [e, e2] at e1
  cases e1⟩
/-! ### the same data -/
section
variable {K : PySem.W.Frag} {H : Hp}
theorem al_int (n : Nat) (i : Int) : Alike K H (n + 1) (.int i) (.int i) := .inl ⟨rfl, rfl⟩
theorem al_bl (n : Nat) (b : Bool) : Alike K H (n + 1) (.bl b) (.bl b) := .inl ⟨rfl, rfl⟩
theorem al_ints (n : Nat) : ∀ zs : List Int, Paired (Alike K H (n + 1)) (zs.map V.int) (zs.map V.int)
  | [] => .nil
  | z :: r => .cons (al_int n z) (al_ints n r)
theorem al_si (n : Nat) {x y : V} {zs : List Int} (hx : SiV K H x zs) (hy : SiV K H y zs) (hl : zs.length ≤ 1000) : Alike K H (n + 2) x y := by
  obtain ⟨a, rfl, ha⟩ := hx
  obtain ⟨b, rfl, hb⟩ := hy
  exact .inr ⟨a, b, _, _, rfl, rfl, szN (by rw [List.length_map]; omega), .inl ⟨ha, hb⟩, al_ints n zs⟩
theorem al_l2 {n : Nat} {p q : Addr} {x1 x2 y1 y2 : V} (hp : SqL K H p [x1, x2]) (hq : SqL K H q [y1, y2]) (h1 : Alike K H n x1 y1) (h2 : Alike K H n x2 y2) : Alike K H (n + 1) (.ref p) (.ref q) :=
  .inr ⟨p, q, _, _, rfl, rfl, szN (by show 2 ≤ 1000000; decide), .inr ⟨hp, hq⟩, .cons h1 (.cons h2 .nil)⟩
end
/-- what stands while the law looks at one point -/
structure RSt (K : PySem.W.Frag) (T : Nat → Addr) (d : Addr) (n : Nat) (qs : List (List Int × Int)) (us : List (Int × Int)) (x y : V) (r : Addr) (H0 H : Hp) : Prop where
  g : GrD d H0 H
  dk : DeckAt d H
  tb : Tb5 T H
  hx : BkV K H x n qs
  hy : PtV K H y us
  hr : SqT K H r ((rowU qs us).map V.int)
theorem RSt.grd {K : PySem.W.Frag} {T : Nat → Addr} {d : Addr} {n : Nat} {qs : List (List Int × Int)} {us : List (Int × Int)} {x y : V} {r : Addr} {H0 H H' : Hp} (s : RSt K T d n qs us x y r H0 H) (g : GrD d H H') (dk : DeckAt d H') : RSt K T d n qs us x y r H0 H' :=
  ⟨s.g.trans g, dk, s.tb.grd s.dk g, s.hx.st (g.st s.dk), s.hy.st (g.st s.dk), g.st s.dk _ _ s.hr⟩
theorem RSt.gr {K : PySem.W.Frag} {T : Nat → Addr} {d : Addr} {n : Nat} {qs : List (List Int × Int)} {us : List (Int × Int)} {x y : V} {r : Addr} {H0 H H' : Hp} (s : RSt K T d n qs us x y r H0 H) (g : Gr H H') : RSt K T d n qs us x y r H0 H' := s.grd (g.d d) (s.dk.gr g)
end SB
namespace SB
open PySem L2 GxR GA RZ
theorem sgn_qv {p : Int × Int} (h : 0 < p.2) : sgn p.1 = sgQ (qv p) := by
  unfold sgn sgQ
  by_cases h1 : 0 < p.1
  · rw [if_pos h1, if_pos ((qv_pos h).mpr h1)]
  · rw [if_neg h1, if_neg fun z => h1 ((qv_pos h).mp z)]
    by_cases h2 : p.1 < 0
    · rw [if_pos h2, if_pos ((qv_neg h).mpr h2)]
    · rw [if_neg h2, if_neg fun z => h2 ((qv_neg h).mp z)]
theorem ans_qv {q : List Int × Int} {us : List (Int × Int)} (h : ∀ u, u ∈ us → Lo u) : ansU q us = sgQ (wq q us) := sgn_qv (worth_pos h)
/-- the row of a point near enough to the one -/
theorem row_mix {qs : List (List Int × Int)} {us ws rs : List (Int × Int)} {s : Rat} (hu : ∀ u, u ∈ us → Lo u) (hw : ∀ u, u ∈ ws → Lo u) (hr : ∀ u, u ∈ rs → Lo u) (hl : us.length = ws.length) (e : rs.map qv = mixQ s (us.map qv) (ws.map qv)) (s0 : 0 < s) (s1 : s < 1) (hN : ∀ q, q ∈ qs → Near s (wq q us) (wq q ws)) :
    rowU qs rs = aheadU (rowU qs us) (rowU qs ws) := by
  refine List.ext_getElem? fun i => ?_
  cases eq : qs[i]? with
  | none =>
    have : qs.length ≤ i := List.getElem?_eq_none_iff.mp eq
    rw [List.getElem?_eq_none (by rw [row_len]; omega), List.getElem?_eq_none (by rw [ahead_len (by rw [row_len, row_len]), row_len]; omega)]
  | some q =>
    have nq := hN q (List.mem_of_getElem? eq)
    rw [row_at eq, ahead_at (row_at (us := us) eq) (row_at (us := ws) eq), ans_qv hu, ans_qv hw, ans_qv hr]
    have h1 : wq q rs = wq q us + s * (wq q ws - wq q us) := by
      have a1 := worth_qv (q := q) (us := us) fun u h => (hu u h).1
      have a2 := worth_qv (q := q) (us := ws) fun u h => (hw u h).1
      have a3 := worth_qv (q := q) (us := rs) fun u h => (hr u h).1
      unfold wq
      rw [a1, a2, a3, e, dot_mix _ _ _ _ (by rw [List.length_map, List.length_map, hl])]
      grind
    rw [h1, sg_ahead s0 s1 nq.1 nq.2]
theorem ahead_self (zs : List Int) : aheadU zs zs = zs := by
  refine List.ext_getElem? fun i => ?_
  cases e : zs[i]? with
  | none => rw [List.getElem?_eq_none (by rw [ahead_len rfl]; exact List.getElem?_eq_none_iff.mp e)]
  | some z =>
    rw [ahead_at e e]
    by_cases h : z = 0
    · rw [if_pos h]
    · rw [if_neg h]
section
variable {K : PySem.W.Frag} {H : Hp}
theorem al_nu (n : Nat) {x y : V} {q : Int × Int} (hx : NuV K H x q) (hy : NuV K H y q) : Alike K H (n + 2) x y := by
  obtain ⟨a, rfl, ha⟩ := hx
  obtain ⟨b, rfl, hb⟩ := hy
  exact .inr ⟨a, b, _, _, rfl, rfl, szN (by show 2 ≤ 1000000; decide), .inl ⟨ha, hb⟩, .cons (al_int n _) (.cons (al_int n _) .nil)⟩
theorem al_nus (n : Nat) : ∀ {xs ys : List V} {us : List (Int × Int)}, Paired (NuV K H) xs us → Paired (NuV K H) ys us → Paired (Alike K H (n + 2)) xs ys
  | _, _, _, .nil, .nil => .nil
  | _, _, _, .cons h1 t1, .cons h2 t2 => .cons (al_nu n h1 h2) (al_nus n t1 t2)
theorem al_pt (n : Nat) {x y : V} {us : List (Int × Int)} (hx : PtV K H x us) (hy : PtV K H y us) (hl : us.length ≤ 1000) : Alike K H (n + 3) x y := by
  obtain ⟨a, xs, rfl, ha, hp⟩ := hx
  obtain ⟨b, ys, rfl, hb, hq⟩ := hy
  have := paired_len hq
  exact .inr ⟨a, b, _, _, rfl, rfl, szN (by omega), .inl ⟨ha, hb⟩, al_nus n hp hq⟩
end
/-- what stands while the law looks at two points -/
structure RS5 (K : PySem.W.Frag) (T : Nat → Addr) (d : Addr) (n : Nat) (qs : List (List Int × Int)) (us ws : List (Int × Int)) (x y v : V) (H0 H : Hp) : Prop where
  g : GrD d H0 H
  dk : DeckAt d H
  tb : Tb5 T H
  hx : BkV K H x n qs
  hy : PtV K H y us
  hv : PtV K H v ws
theorem RS5.grd {K : PySem.W.Frag} {T : Nat → Addr} {d : Addr} {n : Nat} {qs : List (List Int × Int)} {us ws : List (Int × Int)} {x y v : V} {H0 H H' : Hp} (s : RS5 K T d n qs us ws x y v H0 H) (g : GrD d H H') (dk : DeckAt d H') : RS5 K T d n qs us ws x y v H0 H' :=
  ⟨s.g.trans g, dk, s.tb.grd s.dk g, s.hx.st (g.st s.dk), s.hy.st (g.st s.dk), s.hv.st (g.st s.dk)⟩
theorem RS5.gr {K : PySem.W.Frag} {T : Nat → Addr} {d : Addr} {n : Nat} {qs : List (List Int × Int)} {us ws : List (Int × Int)} {x y v : V} {H0 H H' : Hp} (s : RS5 K T d n qs us ws x y v H0 H) (g : Gr H H') : RS5 K T d n qs us ws x y v H0 H' := s.grd (g.d d) (s.dk.gr g)
/-! ### moved, turned, left out -/
theorem wq_line {q : List Int × Int} {us : List (Int × Int)} (h : ∀ u, u ∈ us → Lo u) : wq q us = lineQ q (us.map qv) := worth_qv fun u hu => (h u hu).1
theorem ans_mov {q : List Int × Int} {us by_ es : List (Int × Int)} (hq : NonZ q.1) (hu : ∀ u, u ∈ us → Lo u) (hb : ∀ u, u ∈ by_ → Lo u) (he : ∀ u, u ∈ es → Lo u) (hl : us.length = by_.length) (e : es.map qv = addQ (us.map qv) (by_.map qv)) : ansU (movU q by_) es = ansU q us := by
  obtain ⟨c, c0, hc⟩ := mov_line hq hb
  rw [ans_qv he, ans_qv hu, wq_line he, wq_line hu, hc, e, dot_add _ _ _ (by rw [List.length_map, List.length_map, hl])]
  have : c * (dotQ q.1 (us.map qv) + dotQ q.1 (by_.map qv) - dotQ q.1 (by_.map qv) - (q.2 : Rat)) = c * lineQ q (us.map qv) := by
    unfold lineQ
    grind
  rw [this, sgQ_mul c0]
theorem row_mov {qs : List (List Int × Int)} {us by_ es : List (Int × Int)} (hq : ∀ q, q ∈ qs → NonZ q.1) (hu : ∀ u, u ∈ us → Lo u) (hb : ∀ u, u ∈ by_ → Lo u) (he : ∀ u, u ∈ es → Lo u) (hl : us.length = by_.length) (e : es.map qv = addQ (us.map qv) (by_.map qv)) : rowU (qs.map fun q => movU q by_) es = rowU qs us := by
  unfold rowU
  rw [List.map_map]
  exact List.map_congr_left fun q h => ans_mov (hq q h) hu hb he hl e
theorem mov_wd {q : List Int × Int} {us : List (Int × Int)} {k W : Nat} (hq : NonZ q.1) (hu : ∀ u, u ∈ us → Lo u) (qw : QW k q) (w : Wd W (shiftU q us)) : QW (k + W) (movU q us) := by
  have lo := shift_lo (q := q) hu
  have e : movU q us = divU (rawU q (shiftU q us)) := rfl
  generalize shiftU q us = r at *
  have nz := raw_nz (r := r) hq lo.1
  have g0 := nonZ_g nz
  have le : ∀ z, z ∈ (rawU q r).1 ++ [(rawU q r).2] → (z / ((gcdL ((rawU q r).1 ++ [(rawU q r).2]) : Nat) : Int)).natAbs ≤ z.natAbs := fun z hz => (div_le g0 (gcdL_dvd hz)).1
  rw [e]
  refine ⟨fun z hz => ?_, ?_⟩
  · obtain ⟨y, hy, rfl⟩ := List.mem_map.mp hz
    refine Nat.lt_of_le_of_lt (le y (List.mem_append_left _ hy)) ?_
    obtain ⟨x, hx, rfl⟩ := List.mem_map.mp hy
    exact mul_lt2 (qw.1 x hx) w.2
  · refine Nat.lt_of_le_of_lt (le _ (List.mem_append_right _ List.mem_cons_self)) ?_
    exact Nat.lt_of_lt_of_le w.1 (Nat.pow_le_pow_right (by decide) (by omega))
theorem mov_len (q : List Int × Int) (us : List (Int × Int)) : (movU q us).1.length = q.1.length := by
  show (List.map _ (List.map _ q.1)).length = _
  rw [List.length_map, List.length_map]
theorem mov_ok {q : List Int × Int} {us : List (Int × Int)} {k W : Nat} (hq : NonZ q.1) (hu : ∀ u, u ∈ us → Lo u) (qw : QW k q) (w : Wd W (shiftU q us)) (h : k + W ≤ 10000) : QOk (movU q us) := by
  have m := mov_wd hq hu qw w
  have le : (2 : Nat) ^ (k + W) ≤ 2 ^ 10000 := Nat.pow_le_pow_right (by decide) h
  exact ⟨nonZ_div (raw_nz hq (shift_lo hu).1), fun z hz => Nat.lt_of_lt_of_le (m.1 z hz) le, Nat.lt_of_lt_of_le m.2 le⟩
theorem BOk.mov {d : Nat} {qs : List (List Int × Int)} {us : List (Int × Int)} {k W : Nat} (ok : BOk d qs) (hu : ∀ u, u ∈ us → Lo u) (qw : ∀ q, q ∈ qs → QW k q) (w : ∀ q, q ∈ qs → Wd W (shiftU q us)) (h : k + W ≤ 10000) : BOk d (qs.map fun q => movU q us) := by
  refine ⟨ok.d1, ok.d8, by rw [List.length_map]; exact ok.l8, fun q hq => ?_, ?_⟩
  · obtain ⟨p, hp, rfl⟩ := List.mem_map.mp hq
    obtain ⟨po, pl⟩ := ok.ok p hp
    exact ⟨mov_ok po.nz hu (qw p hp) (w p hp) h, by rw [mov_len]; exact pl⟩
  · have : ∀ l : List (List Int × Int), (∀ q, q ∈ l → QOk q) → (l.map nfU).Nodup → ((l.map fun q => movU q us).map nfU).Nodup := fun l => by
      induction l with
      | nil => exact fun _ _ => List.nodup_nil
      | cons p r ih =>
        intro ho hn
        rw [List.map_cons, List.nodup_cons] at hn
        rw [List.map_cons, List.map_cons, List.nodup_cons]
        refine ⟨fun hm => hn.1 ?_, ih (fun q h => ho q (List.mem_cons_of_mem _ h)) hn.2⟩
        obtain ⟨q', hq', e⟩ := List.mem_map.mp hm
        obtain ⟨q, hq, rfl⟩ := List.mem_map.mp hq'
        have := mov_nf (ho q (List.mem_cons_of_mem _ hq)) (ho p List.mem_cons_self) hu e
        exact List.mem_map.mpr ⟨q, hq, this⟩
    exact this qs (fun q h => (ok.ok q h).1) ok.nd
theorem BOk.wo {d : Nat} {qs : List (List Int × Int)} (ok : BOk d qs) (i : Nat) : BOk d (qs.take i ++ qs.drop (i + 1)) := by
  have sub : List.Sublist (qs.take i ++ qs.drop (i + 1)) qs := by
    rw [← List.eraseIdx_eq_take_drop_succ]
    exact List.eraseIdx_sublist qs i
  exact ⟨ok.d1, ok.d8, Nat.le_trans sub.length_le ok.l8, fun q hq => ok.ok q (sub.subset hq), ok.nd.sublist (sub.map nfU)⟩
theorem row_wo (qs : List (List Int × Int)) (us : List (Int × Int)) (i : Nat) : rowU (qs.take i ++ qs.drop (i + 1)) us = (rowU qs us).take i ++ (rowU qs us).drop (i + 1) := by
  unfold rowU
  rw [List.map_append, List.map_take, List.map_drop]
theorem zw_take {α : Type} (f : α → α → α) : ∀ (n : Nat) (xs ys : List α), (List.zipWith f xs ys).take n = List.zipWith f (xs.take n) (ys.take n)
  | 0, _, _ => rfl
  | _ + 1, [], _ => by simp
  | _ + 1, _ :: _, [] => by simp
  | n + 1, x :: r, y :: t => by simp [zw_take f n r t]
theorem zw_drop {α : Type} (f : α → α → α) : ∀ (n : Nat) (xs ys : List α), (List.zipWith f xs ys).drop n = List.zipWith f (xs.drop n) (ys.drop n)
  | 0, _, _ => rfl
  | _ + 1, [], _ => by simp
  | _ + 1, _ :: _, [] => by simp
  | n + 1, x :: r, y :: t => by simp [zw_drop f n r t]
theorem ahead_wo {zs ws : List Int} (h : zs.length = ws.length) (i : Nat) : aheadU (zs.take i ++ zs.drop (i + 1)) (ws.take i ++ ws.drop (i + 1)) = (aheadU zs ws).take i ++ (aheadU zs ws).drop (i + 1) := by
  unfold aheadU
  rw [zw_take, zw_drop, List.zipWith_append (by rw [List.length_take, List.length_take, h])]
theorem ahead_set {zs ws : List Int} {i : Nat} {z w : Int} (hz : zs[i]? = some z) (hw : ws[i]? = some w) : aheadU (zs.set i (-z)) (ws.set i (-w)) = (aheadU zs ws).set i (-(if z = 0 then w else z)) := by
  refine List.ext_getElem? fun j => ?_
  have iz := (List.getElem?_eq_some_iff.mp hz).1
  have iw := (List.getElem?_eq_some_iff.mp hw).1
  have il : i < (aheadU zs ws).length := by unfold aheadU; rw [List.length_zipWith]; omega
  rw [List.getElem?_set]
  by_cases e : i = j
  · subst e
    rw [if_pos rfl, if_pos il, ahead_at (z := -z) (w := -w) (by rw [List.getElem?_set, if_pos rfl, if_pos iz]) (by rw [List.getElem?_set, if_pos rfl, if_pos iw])]
    by_cases c : z = 0
    · rw [if_pos c, if_pos (by omega)]
    · rw [if_neg c, if_neg (by omega)]
  · rw [if_neg e]
    unfold aheadU
    rw [List.getElem?_zipWith, List.getElem?_zipWith, List.getElem?_set_ne e, List.getElem?_set_ne e]
/-- between two points the answers that both have -/
theorem row_same {qs : List (List Int × Int)} {us ws rs : List (Int × Int)} {s : Rat} (hu : ∀ u, u ∈ us → Lo u) (hw : ∀ u, u ∈ ws → Lo u) (hr : ∀ u, u ∈ rs → Lo u) (hl : us.length = ws.length) (e : rs.map qv = mixQ s (us.map qv) (ws.map qv)) (s0 : 0 ≤ s) (s1 : s ≤ 1) {i : Nat} {q : List Int × Int} (hq : qs[i]? = some q) (ha : ansU q us = ansU q ws) : ansU q rs = ansU q us := by
  rw [ans_qv hu, ans_qv hw] at ha
  rw [ans_qv hu, ans_qv hr]
  have h1 : wq q rs = wq q us + s * (wq q ws - wq q us) := by
    rw [wq_line hr, wq_line hu, wq_line hw]
    unfold lineQ
    rw [e, dot_mix _ _ _ _ (by rw [List.length_map, List.length_map, hl])]
    grind
  rw [h1, sg_same s0 s1 ha]
end SB
namespace SB
open PySem PySem.Spec PyProof.Rows L2 GxR GA RZ
/-! ### a def's promise where nothing is being shown yet (no repr under way) -/
structure FnG (P : Program) (w : World) (K : PySem.W.Frag) (mg : Str → Option Value) (base : Heap) (k : Nat) (f : Addr) (fd : FuncData) (ps : List Str) (sp : Sp) : Prop where
  len : ∀ vs H Q E, sp vs H Q E → vs.length = ps.length
  run : ∀ (A : Around) (out : List Env) (s : Shared) (H : Hp) (args : Args) (us : List Value) (vs : List V) (Q : VK) (E : XK), A.guards = some [] → Room k A → Env0 P w K mg base A out s H →
    BindsTo s fd args (ps.zip us) → Vals vs us → sp vs H Q E → codeAny (model P w) A (.call (.ref f) args) (CR CX0 out P w H s Q E) s
theorem FnG.mono {P : Program} {w : World} {K : PySem.W.Frag} {mg : Str → Option Value} {base : Heap} {j k : Nat} {f : Addr} {fd : FuncData} {ps : List Str} {sp : Sp} (F : FnG P w K mg base j f fd ps sp) (h : j ≤ k) : FnG P w K mg base k f fd ps sp :=
  ⟨F.len, fun A out s H args us vs Q E g r => F.run A out s H args us vs Q E g (r.mono h)⟩
section
variable {P : Program} {w : World} {K : PySem.W.Frag} {mg : Str → Option Value} {base : Heap}
theorem okG {x : Str} {st : Stmt} {f : Addr} {fd : FuncData} {N ps : List Str} {k : Nat} {sp : Sp} (F : Fun K x x st f fd) (S : FnScope N ps (defScope st)) (len : ∀ vs H Q E, sp vs H Q E → vs.length = ps.length)
    (B : ∀ (cdv : Value) (A : Around) (out : List Env) (s : Shared) (H : Hp) (vs : List V) (Q : VK) (E : XK), A.guards = some [] → Room k (A.deeper (envOfC x (defScope st) s.heap.objs.size f cdv)) → sp vs H Q E →
      ∃ t, PSs (cxOf CX0 P w K mg base N x (defScope st) f cdv A out s H E).nox (defBody st) t ∧ t { nx := fun _ H' => Q .non H', rt := Q } (start N vs) H) : FnG P w K mg base (k + 1) f fd ps sp := by
  obtain ⟨oc, od, kV, dc, pm, an, cdv, ct, sl, rfl, lk, cin⟩ := F.ex
  refine ⟨len, fun A out s0 H0 args us vs Q E gd rm env bnd rel hs => ?_⟩
  have kin : K.In s0.heap := env.mod.kin.keeps fun b o z => (env.bs b o z).1
  have knd : ∀ y ∈ ps.zip us, (defScope st).names.lookup y.1 = some .local ∨ ((defScope st).names.lookup y.1 = some .cell ∧ ((cellsFrom (s0.heap.objs.size + 1) (defScope st).names []).lookup y.1).isSome = true) := by
    intro y hy
    have hm := (List.of_mem_zip (a := y.1) (b := y.2) hy).1
    exact (S.par y.1 hm).imp id fun z => ⟨z, PySem.W.cellsFrom_some _ _ _ (.inl z)⟩
  refine codeAny_call_function rm.depth (kin _ _ lk) rfl S.co S.gen rfl (PySem.W.codeRec_of kin cin) (bnd _ _ _ _ (wpAny_newFunctionEnv_cells S.kind knd ?_))
  intro e0 ee sh inn
  cases ee
  have lim : s0.heap.NoLimit := env.mod.nolimit.keeps fun b o z => (env.bs b o z).1
  refine ⟨lim.keeps inn.toInCall.keep, codeAny_func ?_⟩
  obtain ⟨t, pt, rd⟩ := B cdv A out s0 H0 vs Q E gd (rm.deeper _) hs
  have inv : Inv (cxOf CX0 P w K mg base N x (defScope st) f cdv A out s0 H0 E) [] (start N vs) H0 sh := inv_start S rm.hd env (len _ _ _ _ hs) rel inn
  refine wpAny_mono (pt.nox.run [] sh (start N vs) H0 _ inv rd) (fun fl s' z => ?_) fun _ _ z => z
  match fl, z with
  | .ret u, ⟨v, σ', H', J, rv, q⟩ => exact ⟨v, H', J.os, J.bare, J.base, J.hok, rv, q⟩
  | .next, ⟨σ', H', J, q⟩ => exact ⟨V.non, H', J.os, J.bare, J.base, J.hok, rfl, q⟩
  | .brk, ⟨_, _, _, q⟩ => exact q.elim
  | .cont, ⟨_, _, _, q⟩ => exact q.elim
end
/-- a def of such a promise, by its name -/
structure ClG (P : Program) (w : World) (K : PySem.W.Frag) (mg : Str → Option Value) (base : Heap) (k : Nat) (x : Str) (ps : List Str) (sp : Sp) : Prop where
  ex : ∃ (f : Addr) (fd : FuncData), FnG P w K mg base k f fd ps sp ∧ mg x = some (.ref f) ∧ PySem.W.keepIn K (.ref f) = true ∧ Binds K fd ps []
theorem clG {P : Program} {w : World} {K : PySem.W.Frag} {mg : Str → Option Value} {base : Heap} {k : Nat} {x : Str} {st : Stmt} {ps : List Str} {sp : Sp} (D : Df K mg x st)
    (hb : ∀ (kV doc pm : Value) (an : Option Addr) (cdv ct : Value) (us : List Value), us.length = ps.length → bindArgs (PySem.W.fnOf x x (defArgs st) (defBody st) (defScope st) .none kV doc pm an cdv ct) ⟨us, []⟩ = pure (ps.zip us))
    (h : ∀ f fd, Fun K x x st f fd → FnG P w K mg base k f fd ps sp) : ClG P w K mg base k x ps sp := by
  obtain ⟨f, fd, F, m⟩ := D.ex
  exact ⟨f, fd, h f fd F, m, F.kp, F.binds hb⟩
theorem pe_clG {X : Cx} {k : Nat} {x : Str} {ps : List Str} {sp : Sp} {p pos : Pos} {e : Expr} {es : List Expr} {t : TA} (c : ClG X.prog X.w X.K X.mg X.base k x ps sp) (gd : X.A.guards = some []) (hr : Room k X.A) (ha : PA X (e :: es) t) (hg : Gl X x := by rfl) (hdb : (x == ("__debug__" : Str)) = false := by decide)
    (he : starEach (e :: es) X.env = (false, eval e X.env) :: starEach es X.env := by rfl) (hpl : (backTo pos (starEach es X.env)).any (·.1) = false := by rfl) :
    PE X (.Call (.Name x p) (e :: es) [] pos) (tCall sp [] E0 t) := by
  obtain ⟨f, fd, F, hm, hk, hb⟩ := c.ex
  refine ⟨fun pins s0 σ H0 Q I z => wpAny_Call_Name_kw (ld_glob I hg hm (PySem.W.callWith_K (h₀ := X.base) I.ok.mod.kin hk (thn (ha.run pos pins s0 σ H0 _ I z) fun us s1 y => ?_) he hpl) hdb)⟩
  obtain ⟨vs, H1, J, rel, q⟩ := y
  refine ⟨J.kIn, wpAny_call ?_⟩
  have q : sp vs H1 Q E0 := by
    have : vs ++ [] = vs := List.append_nil vs
    rw [← this]
    exact q
  have hl : us.length = ps.length := by rw [← rel.length]; exact F.len _ _ _ _ q
  have bd := hb s1 us J.kIn (by rw [List.append_nil]; exact hl)
  rw [List.append_nil] at bd
  refine codeAny_mono (F.run X.A X.stack s1 H1 ⟨us, []⟩ us vs Q E0 gd hr J.env0 bd rel q) fun r s' z => ?_
  match r, z with
  | .error e, z => exact pass0 pins σ H1 s1 e s' J z
  | .ok (.ret u), z => exact J.after z
  | .ok .next, z => exact z.elim
  | .ok .brk, z => exact z.elim
  | .ok .cont, z => exact z.elim
/-- repr of a list, a tuple of data -/
def rRepr (K : PySem.W.Frag) : List V → Hp → VK → Prop := fun xs H Q => ∃ a d, xs = [.ref a] ∧ Dp K H (.ref a) d ∧ d.showable = true ∧ d.hasDict = false ∧ d.depth ≤ 8 ∧ d.shown.length ≤ sizeLine ∧ Q (.str d.shown) H
theorem cr_repr {X : Cx} (gd : X.A.guards = some []) (hu : X.A.units + 64 < cLine) : CallR X (.builtin "repr") (rRepr X.K) := by
  intro pins s0 σ H0 xs us Q I r h
  obtain ⟨a, d, rfl, hd, h1, h2, h3, h4, q⟩ := h
  obtain ⟨u, rfl, rx⟩ := vals1 r
  cases rx
  obtain ⟨as, rd⟩ := Dp.reads I d _ _ hd rfl
  exact repr_of_reads' rd h1 (PyData.noDict_hsm h2) gd (by omega) (fun _ _ e => e) (fun h' u tk hk => ⟨.str d.shown, H0, I.kept hk, ⟨u, rfl⟩, q⟩) h4
end SB
/-! t[::-1] of a tuple -/
namespace HT
open PySem PySem.Spec PyProof.Rows L2
section
variable {prog : Program} {w : World} {A : Around} {E : Value → Shared → Prop} {s : Shared}
theorem rev_places (n : Nat) : Builtin.Slice.slicePlaces ((n : Int) - 1) (-1) (-1) = n := by
  unfold Builtin.Slice.slicePlaces
  rw [if_neg (by decide)]
  by_cases h : (n : Int) - 1 > -1
  · rw [if_pos h]
    have e : ((n : Int) - 1 - -1 - 1) / (- -1) + 1 = (n : Int) := by
      rw [show (- -1 : Int) = 1 by decide, Int.ediv_one]
      omega
    rw [e, Int.toNat_natCast]
  · rw [if_neg h]
    have : n = 0 := by omega
    rw [this]
    rfl
theorem rev_applied {c : Addr} {m : Tok} {n : Nat} {Q : Int × Int × Nat → Shared → Prop} (so : s.heap.IsSliceOf c .none .none (.int (-1) m)) (q : Q ((n : Int) - 1, -1, n) s) :
    wpAny (model prog w) A (Builtin.Slice.sliceApplied (.ref c) (pure (n : Int))) Q E s := by
  obtain ⟨o, hget, hcls, hfl⟩ := so
  unfold Builtin.Slice.sliceApplied Builtin.Slice.sliceFields
  refine wpAny_bind (wpAny_bind ?_)
  refine wpAny_field hget hfl (x := Value.none) rfl (wpAny_bind ?_)
  refine wpAny_field hget hfl (x := Value.none) rfl (wpAny_bind ?_)
  refine wpAny_field hget hfl (x := Value.int (-1) m) rfl (wpAny_pure ?_)
  refine wpAny_bind (slicePart_int (i := -1) (u := m) ?_)
  show wpAny _ _ (if ((-1 : Int) == 0) = true then _ else _) _ _ s
  rw [if_neg (by decide)]
  refine wpAny_bind (slicePart_none (wpAny_bind (slicePart_none (wpAny_bind (wpAny_pure ?_)))))
  show wpAny _ _ (pure ((n : Int) - 1, (-1 : Int), Builtin.Slice.slicePlaces ((n : Int) - 1) (-1) (-1))) _ _ s
  rw [rev_places]
  exact wpAny_pure q
theorem fm_congr {α β : Type} {f g : α → Option β} : ∀ {l : List α}, (∀ x, x ∈ l → f x = g x) → l.filterMap f = l.filterMap g
  | [], _ => rfl
  | x :: r, h => by rw [List.filterMap_cons, List.filterMap_cons, h x List.mem_cons_self, fm_congr (l := r) fun y hy => h y (List.mem_cons_of_mem _ hy)]
theorem rev_pick (xs : Array Value) : ((List.range xs.size).filterMap fun (k : Nat) => xs[(((xs.size : Nat) : Int) - 1 + (k : Int) * -1).toNat]?).toArray = xs.toList.reverse.toArray := by
  have h := PySem.W.krv_pick xs
  unfold slicePick at h
  rw [PySem.W.krv_bounds] at h
  have h : ((sliceRange ((xs.size : Int) - 1) (-1) (-1)).filterMap (xs[·]?)).toArray = xs.toList.reverse.toArray := h
  rw [PySem.W.krv_sliceRange, List.filterMap_map] at h
  rw [← h]
  congr 1
  refine fm_congr fun k hk => ?_
  have hk := List.mem_range.mp hk
  have e : (((xs.size : Nat) : Int) - 1 + (k : Int) * -1).toNat = xs.size - 1 - k := by omega
  show _ = xs[xs.size - 1 - k]?
  rw [e]
theorem rev_getItem {t c : Addr} {xs : Array Value} {m : Tok} {Q : Value → Shared → Prop} (it : IsTup s.heap t xs) (so : s.heap.IsSliceOf c .none .none (.int (-1) m)) (small : xs.size ≤ sizeLine)
    (q : Q (.ref s.heap.objs.size) { s with heap := s.heap.push { cls := .type "tuple", data := .seq xs.toList.reverse.toArray } }) : wpAny (model prog w) A (getItem (.ref t) (.ref c)) Q E s := by
  obtain ⟨o, hget, hcls, hfl⟩ := id so
  unfold getItem
  try with_reducible refine wpAny_holding ?_
  first | refine wpAny_bind (wpAny_pure ?_) | skip
  refine wpAny_bind (wpAny_sequenceKey it.typeIs (by decide) (wpAny_bind (wpAny_callSpecial?_slot (name := Str.ofString "__getitem__") it.typeIs slot_tuple_getitem
    (wpAny_call_entry slot_tuple_getitem it.typeIs entry_tuple_getitem ?_ (args_tuple_getitem _ _)))))
  show wpAny _ _ (Builtin.Tuple.tupleItemsOf (.ref t) >>= _) _ _ s
  refine wpAny_bind (tupleItemsOf_ it (wpAny_bind (wpAny_typeOf (T := "slice") ⟨o, hget, hcls⟩ ?_)))
  rw [if_pos (by decide)]
  refine wpAny_bind (rev_applied so ?_)
  have no : ¬ (((((xs.size : Nat) : Int) - 1) == 0 && (-1 : Int) == 1 && xs.size == xs.size) = true) := by
    intro z
    rw [Bool.and_eq_true, Bool.and_eq_true] at z
    exact absurd z.1.2 (by decide)
  show wpAny _ _ (if ((((xs.size : Nat) : Int) - 1) == 0 && (-1 : Int) == 1 && xs.size == xs.size) = true then _ else _) _ _ s
  rw [if_neg no, rev_pick]
  have sz : sizeOk (.seq xs.toList.reverse.toArray) := by
    show xs.toList.reverse.toArray.size ≤ sizeLine
    rw [List.size_toArray, List.length_reverse, Array.length_toList]
    exact small
  first
    | exact wpAny_bind (m := Builtin.Tuple.tupleExact _) (wpAny_newObj_type (wpAny_pure ⟨_, rfl, wpAny_pure q⟩) sz)
    | exact wpAny_bind (wpAny_bind (m := Builtin.Tuple.tupleExact _) (wpAny_newObj_type (wpAny_pure (wpAny_pure ⟨_, rfl, wpAny_pure q⟩)) sz))
end
end HT
namespace L2
open PySem PySem.Spec PyProof.Rows
section
variable {X : Cx}
def tRevT (K : PySem.W.Frag) (te : TE) : TE := fun σ H Q => te σ H fun x H1 => ∃ a xs, x = .ref a ∧ SqT K H1 a xs ∧ ∀ p, H1 p = none → Q (.ref p) (upd H1 p (.tup xs.reverse))
theorem pe_revT {e : Expr} {te : TE} {k : Nat} {p1 p2 p3 pos : Pos} (he : PE X e te) : PE X (.Subscript e (.Slice none none (some (.UnaryOp .USub (.Constant (.int 1) k p1) p2)) p3) pos) (tRevT X.K te) := by
  refine ⟨fun pins s0 σ H0 Q I0 z => Subscript_ (thn (he.run pins s0 σ H0 _ I0 z) fun v s1 y => ?_)⟩
  obtain ⟨x, H1, I1, rv, a, xs, rfl, sq, q⟩ := y
  cases rv
  have neg1 : PO X (some (.UnaryOp .USub (.Constant (.int 1) k p1) p2)) (tPart (tUn (rU fun i => .int (-i)) (tC (.int 1)))) := po_some (pe_un un_neg pe_int)
  refine wpAny_Slice (thn (po_none.run pins s1 σ H1 (fun o J => o = none ∧ J = H1) I1 ⟨rfl, rfl⟩) fun v1 s2 ⟨o1, J1, K1, b1, c1, d1⟩ => ?_)
  subst c1 d1
  refine thn (po_none.run pins s2 σ J1 (fun o J => o = none ∧ J = J1) K1 ⟨rfl, rfl⟩) fun v2 s3 ⟨o2, J2, K2, b2, c2, d2⟩ => ?_
  subst c2 d2
  refine thn (neg1.run pins s3 σ J2 (fun o J => o = some (-1) ∧ J = J2) K2 ⟨1, rfl, -1, rfl, rfl, rfl⟩) fun v3 s4 ⟨o3, J3, K3, b3, c3, d3⟩ => ?_
  subst c3 d3
  cases b1
  cases b2
  cases b3 with
  | int i m =>
    have K4 : Inv X pins σ J3 { s4 with heap := s4.heap.push { cls := .type "slice", data := .fields #[.none, .none, .int (-1) m] } } := K3.kept (t' := s4.toks) fun b ob q => Heap.get?_push_of_some _ q
    obtain ⟨its, r, it, few⟩ := K4.tuple sq
    have len := r.length
    show wpAny (model X.prog X.w) X.A (subscriptTail e (.Slice none none (some (.UnaryOp .USub (.Constant (.int 1) k p1) p2)) p3) (.ref a) (.ref s4.heap.objs.size)) (EP X pins σ Q) X.xe { s4 with heap := s4.heap.push { cls := .type "slice", data := .fields #[.none, .none, .int (-1) m] } }
    refine tail_any (ops := [.ref a, .ref s4.heap.objs.size]) it.typeIs (PyProof.Rows.slot_tuple_getitem.lookup) (HT.rev_getItem it (Heap.IsSliceOf.new _ _ _ _) (by rw [List.size_toArray]; omega) ?_) (by with_unfolding_all rfl)
    refine ⟨.ref _, _, K4.laid (t' := s4.toks) (o := .tup xs.reverse) (fun b ob q => Heap.get?_push_of_some _ q) (Nat.le_refl _) ?_, rfl, q _ (K4.hok.fresh (Nat.le_refl _))⟩
    exact ⟨by rw [List.length_reverse]; exact few, _, r.reverse, IsTup.new _ _⟩
end
end L2
namespace ZL
open PySem PySem.Spec L2 RZ
section
variable {prog : Program} {w : World} {A : Around} {E : Value → Shared → Prop} {s : Shared} {z TI TO i1 i2 l1 l2 : Addr} {k1 k2 : Nat} {xs ys : Array Value} {x y a b : Value}
/-- the zip's next, a tuple beside a list -/
theorem next_more {Q : Option Value → Shared → Prop} (D : ZipApart z TI TO i1 i2 l1 l2) (hz : IsZip s.heap z TI TO .none) (hTI : IsPair s.heap TI (.ref i1) (.ref i2)) (hTO : IsPair s.heap TO a b)
    (h1 : s.heap.IsListIter i1 l1 k1) (h2 : s.heap.IsTupleIter i2 l2 k2) (hl1 : s.heap.IsList l1 xs) (hl2 : s.heap.IsTuple l2 ys) (hx : xs[k1]? = some x) (hy : ys[k2]? = some y)
    (hQ : ∀ h', IsZip h' z TI TO (rawInt s.heap.objs.size) → IsPair h' TO x y → h'.IsListIter i1 l1 (k1 + 1) → h'.IsTupleIter i2 l2 (k2 + 1) → IsPair h' s.heap.objs.size x y → ZM.Kept z TO i1 i2 s.heap h' → Q (some (.ref s.heap.objs.size)) { s with heap := h' }) :
    wpAny (model prog w) A (pyNext (.ref z)) Q E s := by
  have hT : s.TypeIs (.ref z) "zip" := ⟨_, hz, rfl⟩
  unfold pyNext
  refine wpAny_bind (wpAny_attempt (wpAny_callSpecial?_slot (name := Str.ofString "__next__") hT F.slot_zip_next (wpAny_call_entry F.slot_zip_next hT F.entry_zip_next ?_ (F.args_zip_next_1 _))))
  exact ZM.zip_more ZM.runs_list ZM.runs_tup D hz hTI hTO h1 h2 hl1 hl2 hx hy fun h' a1 a2 a3 a4 a5 _ a7 => wpAny_pure (hQ h' a1 a2 a3 a4 a5 a7)
theorem next_ends {Q : Option Value → Shared → Prop} (hh : A.handled = none) (D : ZipApart z TI TO i1 i2 l1 l2) (hz : IsZip s.heap z TI TO .none) (hTI : IsPair s.heap TI (.ref i1) (.ref i2)) (hTO : IsPair s.heap TO a b)
    (h1 : s.heap.IsListIter i1 l1 k1) (h2 : s.heap.IsTupleIter i2 l2 k2) (hl1 : s.heap.IsList l1 xs) (hl2 : s.heap.IsTuple l2 ys) (hend : xs[k1]? = none ∨ ys[k2]? = none)
    (hQ : ∀ h', ZM.Kept z TO i1 i2 s.heap h' → Q none { s with heap := h' }) : wpAny (model prog w) A (pyNext (.ref z)) Q E s := by
  have hT : s.TypeIs (.ref z) "zip" := ⟨_, hz, rfl⟩
  unfold pyNext
  refine wpAny_bind (wpAny_attempt (wpAny_callSpecial?_slot (name := Str.ofString "__next__") hT F.slot_zip_next (wpAny_call_entry F.slot_zip_next hT F.entry_zip_next ?_ (F.args_zip_next_1 _))))
  refine ZM.zip_ends ZM.runs_list ZM.runs_tup hh D hz hTI hTO h1 h2 hl1 hl2 hend fun h' e hk ⟨o, ho, hc⟩ => ?_
  exact wpAny_bind (wpAny_isInstance (T := "StopIteration") (b := true) ⟨o, ho, hc⟩ isSubtype_stop (wpAny_pure (hQ _ hk)))
end
abbrev mH1 (h : Heap) (a : Addr) : Heap := h.push { cls := .type "list_iterator", data := .fields #[.ref a, .int 0 0] }
abbrev mH2 (h : Heap) (a b : Addr) : Heap := (mH1 h a).push { cls := .type "tuple_iterator", data := .fields #[.ref b, .int 0 0] }
abbrev mH3 (h : Heap) (a b : Addr) : Heap := (mH2 h a b).push { cls := .type "tuple", data := .seq #[.ref h.objs.size, .ref (mH1 h a).objs.size] }
abbrev mH4 (h : Heap) (a b : Addr) : Heap := (mH3 h a b).push { cls := .type "tuple", data := .seq #[.none, .none] }
abbrev mH5 (h : Heap) (a b : Addr) : Heap := (mH4 h a b).push { cls := .type "zip", data := .fields #[.none, .bool false, .bool false, .ref (mH2 h a b).objs.size, .ref (mH3 h a b).objs.size] }
theorem meets_mixed (a b : Addr) (xs ys : Array Value) :
    Meets (Builtin.«zip.__new__» ⟨[.type "zip", .ref a, .ref b], []⟩) (fun _ R s => s.heap.IsList a xs ∧ s.heap.IsTuple b ys ∧ R (.ok (.ret (.ref (mH4 s.heap a b).objs.size))) { s with heap := mH5 s.heap a b }) :=
  .of_wp fun prog w A R s h => by
    obtain ⟨hp, g, d, tk, os⟩ := s
    obtain ⟨q1, q2, h⟩ := h
    have hsub := sub_zip
    have r1 : Heap.IsList (Shared.heap ⟨hp, g, d, tk, os⟩) a xs := q1
    have r2 : Heap.IsTuple (Shared.heap ⟨hp.push { cls := .type "list_iterator", data := .fields #[.ref a, .int 0 0] }, g, d, tk, os⟩) b ys := Heap.IsTuple.push q2 _
    wp_walk using wpAny_pyIter_list r1, wpAny_pyIter_tuple r2
    exact ⟨_, rfl, h⟩
theorem call_mixed {prog : Program} {w : World} {A : Around} {E : Value → Shared → Prop} {s : Shared} {a b : Addr} {xs ys : Array Value} {Q : Value → Shared → Prop} (ha : s.heap.IsList a xs) (hb : s.heap.IsTuple b ys)
    (h : ∀ h', IsZip h' (s.heap.objs.size + 4) (s.heap.objs.size + 2) (s.heap.objs.size + 3) .none → IsPair h' (s.heap.objs.size + 2) (.ref s.heap.objs.size) (.ref (s.heap.objs.size + 1)) → IsPair h' (s.heap.objs.size + 3) .none .none →
      h'.IsListIter s.heap.objs.size a 0 → h'.IsTupleIter (s.heap.objs.size + 1) b 0 → (∀ c o, s.heap.get? c = some o → h'.get? c = some o) → Q (.ref (s.heap.objs.size + 4)) { s with heap := h' }) :
    wpAny (model prog w) A (call (.type "zip") [.ref a, .ref b]) Q E s := by
  refine callType_new F.called_zip (by decide) (F.typeCall_zip_2 _ _) (F.newCall_zip_2 _ _) (fun obj => F.args_object_init_3 obj _ _) F.entry_zip_new (meets_mixed a b xs ys) ⟨ha, hb, ?_⟩
  have n1 : (mH1 s.heap a).objs.size = s.heap.objs.size + 1 := Heap.size_push ..
  have n2 : (mH2 s.heap a b).objs.size = s.heap.objs.size + 2 := by rw [Heap.size_push, n1]
  have n3 : (mH3 s.heap a b).objs.size = s.heap.objs.size + 3 := by rw [Heap.size_push, n2]
  have n4 : (mH4 s.heap a b).objs.size = s.heap.objs.size + 4 := by rw [Heap.size_push, n3]
  have up : ∀ {h : Heap} {c : Addr} {o : Obj} (u : Obj), h.get? c = some o → (h.push u).get? c = some o := fun u e => Heap.get?_push_of_some _ e
  have p5 : (mH5 s.heap a b).get? (mH4 s.heap a b).objs.size = some _ := Heap.get?_push_size _ rfl
  have p4 : (mH5 s.heap a b).get? (mH3 s.heap a b).objs.size = some _ := up _ (Heap.get?_push_size _ rfl)
  have p3 : (mH5 s.heap a b).get? (mH2 s.heap a b).objs.size = some _ := up _ (up _ (Heap.get?_push_size _ rfl))
  have p2 : (mH5 s.heap a b).get? (mH1 s.heap a).objs.size = some _ := up _ (up _ (up _ (Heap.get?_push_size _ rfl)))
  have p1 : (mH5 s.heap a b).get? s.heap.objs.size = some _ := up _ (up _ (up _ (up _ (Heap.get?_push_size _ rfl))))
  show _ ∧ _
  rw [n2, n3, n4] at p5
  rw [n1, n2] at p3
  rw [n3] at p4
  rw [n1] at p2
  rw [n4]
  exact ⟨⟨_, p5, rfl⟩, h _ p5 p3 p4 ⟨_, p1, rfl, rfl⟩ ⟨_, p2, rfl, rfl⟩ fun c o e => up _ (up _ (up _ (up _ (up _ e))))⟩
/-- a tuple and a list, side by side -/
def ItzL (K : PySem.W.Frag) (a b : Addr) : It where
  go := fun i H => ∃ (xs ys : List V) (x y : V), SqL K H a xs ∧ SqT K H b ys ∧ xs[i]? = some x ∧ ys[i]? = some y
  yld := fun i H v H' => ∃ T x y, v = .ref T ∧ H T = none ∧ H' = upd H T (.tup [x, y]) ∧ (∀ xs, SqL K H a xs → xs[i]? = some x) ∧ ∀ ys, SqT K H b ys → ys[i]? = some y
  stop := fun i H => ∃ xs ys : List V, SqL K H a xs ∧ SqT K H b ys ∧ (xs.length ≤ i ∨ ys.length ≤ i)
theorem five2 {c z TI TO i1 i2 : Addr} (h : c ∈ [z, TI, TO, i1, i2]) : c = z ∨ c = TI ∨ c = TO ∨ c = i1 ∨ c = i2 := by simpa using h
theorem turn_mixed {P : Program} {w : World} {K : PySem.W.Frag} {elts : List Expr} {kk : Nat} {tpos : Pos} {a b z TI TO i1 i2 : Addr} (D : ZipApart z TI TO i1 i2 a b) :
    Turn P w K (.Tuple elts kk tpos) (ItzL K a b) [z, TI, TO, i1, i2] z (fun i h => IsZip h z TI TO .none ∧ IsPair h TI (.ref i1) (.ref i2) ∧ (∃ x y, IsPair h TO x y) ∧ h.IsListIter i1 a i ∧ h.IsTupleIter i2 b i) := by
  refine ⟨by simp, fun i h st c hc => ?_, fun i h h' st k => ?_, fun X hP hw hK hc i pins s σ H E I hf st hg => ?_, fun X hP hw hK hc i pins s σ H E I hf st hg => ?_, fun A i s Q E st h => wpAny_pyIter_zip st.1 h⟩
  · obtain ⟨q1, q2, ⟨x, y, q3⟩, ⟨o1, e1, _, d1⟩, ⟨o2, e2, _, d2⟩⟩ := st
    rcases five2 hc with q | q | q | q | q <;> subst q
    · exact ⟨_, q1, fun v r => nomatch r⟩
    · exact ⟨_, q2, fun v r => nomatch r⟩
    · exact ⟨_, q3, fun v r => nomatch r⟩
    · exact ⟨o1, e1, fun v r => by rw [d1] at r; cases r⟩
    · exact ⟨o2, e2, fun v r => by rw [d2] at r; cases r⟩
  · obtain ⟨q1, q2, ⟨x, y, q3⟩, q4, q5⟩ := st
    exact ⟨k z (by simp) _ q1, k TI (by simp) _ q2, ⟨x, y, k TO (by simp) _ q3⟩, q4.at fun o q => k i1 (by simp) o q, q5.at fun o q => k i2 (by simp) o q⟩
  · subst hP hw hK
    obtain ⟨q1, q2, ⟨x0, y0, q3⟩, q4, q5⟩ := st
    obtain ⟨xs, ys, x, y, sx, sy, hx, hy⟩ := hg
    obtain ⟨its, rv, p, _⟩ := I.list sx
    obtain ⟨its2, rv2, p2, _⟩ := I.tuple sy
    obtain ⟨u, hu, ru⟩ := rv.get hx
    obtain ⟨u2, hu2, ru2⟩ := rv2.get hy
    have zl : z < s.heap.objs.size := Heap.lt_size q1
    have tp : s.heap.IsTuple b its2.toArray := p2
    refine next_more D q1 q2 q3 q4 q5 p.isList tp (x := u) (y := u2) (by simpa using hu) (by simpa using hu2) fun h' z' TO' n1 n2 pr kp => ?_
    refine ⟨_, rfl, wpAny_letOwnedTupleGo_zip (s := { s with heap := h' }) z' fun h'' z'' sb => ?_⟩
    have pr2 : h''.get? s.heap.objs.size = some { cls := .type "tuple", data := .seq #[u, u2] } := (sb.2 _ (Nat.ne_of_gt zl)).trans pr
    have new : ObjOk X.prog X.w (upd H s.heap.objs.size (.tup [x, y])) h'' s.heap.objs.size (.tup [x, y]) := ⟨by show 2 ≤ sizeLine; decide, [u, u2], .cons ru (.cons ru2 .nil), ⟨_, pr2, rfl, _, rfl⟩⟩
    have J := I.turnedNew (t' := s.toks) (ch := [z, TI, TO, i1, i2]) (h' := h'') (fun c o hb q => by
      have hb : ¬ (c = z ∨ c = TI ∨ c = TO ∨ c = i1 ∨ c = i2) := fun r => hb (by simpa using r)
      exact (sb.2 c fun r => hb (.inl r)).trans (kp c o (fun r => hb (.inl r)) (fun r => hb (.inr (.inr (.inl r)))) (fun r => hb (.inr (.inr (.inr (.inl r))))) (fun r => hb (.inr (.inr (.inr (.inr r))))) q)) hf (Nat.le_refl _) new
    refine ⟨.ref s.heap.objs.size, _, J, rfl, ⟨_, x, y, rfl, I.hok.fresh (Nat.le_refl _), rfl, fun l hl => by rw [I.list_inj hl sx]; exact hx, fun l hl => by rw [I.tuple_inj hl sy]; exact hy⟩, ⟨z'', (sb.2 _ D.TIz).trans (kp _ _ D.TIz D.TITO D.TIi1 D.TIi2 q2), ⟨u, u2, (sb.2 _ D.TOz).trans TO'⟩,
      n1.at fun o q => (sb.2 _ D.i1z).trans q, n2.at fun o q => (sb.2 _ D.i2z).trans q⟩, fun c hcm => ?_⟩
    have hlt : c < s.heap.objs.size := by
      obtain ⟨_, e1, _⟩ := q4
      obtain ⟨_, e2, _⟩ := q5
      rcases five2 hcm with q | q | q | q | q <;> subst q
      · exact zl
      · exact Heap.lt_size q2
      · exact Heap.lt_size q3
      · exact Heap.lt_size e1
      · exact Heap.lt_size e2
    rw [upd_ne (Nat.ne_of_lt hlt)]
    exact (hf c hcm).1
  · subst hP hw hK
    obtain ⟨q1, q2, ⟨x0, y0, q3⟩, q4, q5⟩ := st
    obtain ⟨xs, ys, sx, sy, he⟩ := hg
    obtain ⟨its, rv, p, _⟩ := I.list sx
    obtain ⟨its2, rv2, p2, _⟩ := I.tuple sy
    have m1 := rv.length
    have m2 := rv2.length
    have tp : s.heap.IsTuple b its2.toArray := p2
    have he' : its.toArray[i]? = none ∨ its2.toArray[i]? = none := he.imp (fun q => by simp; omega) fun q => by simp; omega
    refine next_ends (I.ok.hd hc) D q1 q2 q3 q4 q5 p.isList tp he' fun h' kp => ⟨rfl, I.turnedL (t' := s.toks) (ch := [z, TI, TO, i1, i2]) (fun c o hb q => ?_) hf⟩
    have hb : ¬ (c = z ∨ c = TI ∨ c = TO ∨ c = i1 ∨ c = i2) := fun r => hb (by simpa using r)
    exact kp c o (fun r => hb (.inl r)) (fun r => hb (.inr (.inr (.inl r)))) (fun r => hb (.inr (.inr (.inr (.inl r))))) (fun r => hb (.inr (.inr (.inr (.inr r))))) q
end ZL
namespace SB
theorem rsub0 (a : Rat) : a - 0 = a := by grind
theorem rmz {a b : Rat} (h : a ≠ 0) (g : b ≠ 0) : a * b ≠ 0 := fun e => by
  rcases Rat.mul_eq_zero.mp e with e | e
  · exact h e
  · exact g e
/-! ### determinants, by taking out the first row -/
abbrev Vc := Nat → Rat
abbrev FmR := List Nat → Rat
def iotR (u : Vc) : FmR → List Nat → Rat
  | _, [] => 0
  | g, c :: cs => u c * g cs - iotR u (fun l => g (c :: l)) cs
def dt : List Vc → FmR
  | [], _ => 1
  | r :: rs, cols => iotR r (dt rs) cols
theorem iotR_lin (u : Vc) (a b : Rat) : ∀ (cols : List Nat) (g h : FmR), iotR u (fun l => a * g l + b * h l) cols = a * iotR u g cols + b * iotR u h cols
  | [], _, _ => by simp [iotR, Rat.add_zero, Rat.zero_add, Rat.zero_mul, Rat.mul_zero, Rat.one_mul, Rat.mul_one, rsub0]
  | c :: cs, g, h => by
    show u c * (a * g cs + b * h cs) - iotR u (fun l => a * g (c :: l) + b * h (c :: l)) cs = a * (u c * g cs - iotR u (fun l => g (c :: l)) cs) + b * (u c * h cs - iotR u (fun l => h (c :: l)) cs)
    rw [iotR_lin u a b cs (fun l => g (c :: l)) (fun l => h (c :: l))]
    grind
theorem iotR_zero (u : Vc) : ∀ (cols : List Nat) (g : FmR), (∀ l, l.length + 1 = cols.length → g l = 0) → iotR u g cols = 0
  | [], _, _ => rfl
  | c :: cs, g, z => by
    show u c * g cs - iotR u (fun l => g (c :: l)) cs = 0
    rw [z cs rfl, iotR_zero u cs _ fun l hl => z (c :: l) (by simp at hl ⊢; omega)]
    simp [Rat.add_zero, Rat.zero_add, Rat.zero_mul, Rat.mul_zero, Rat.one_mul, Rat.mul_one, rsub0]
theorem iotR_lin1 (u v : Vc) (a b : Rat) : ∀ (cols : List Nat) (g : FmR), iotR (fun j => a * u j + b * v j) g cols = a * iotR u g cols + b * iotR v g cols
  | [], _ => by simp [iotR, Rat.add_zero, Rat.zero_add, Rat.zero_mul, Rat.mul_zero, Rat.one_mul, Rat.mul_one, rsub0]
  | c :: cs, g => by
    show (a * u c + b * v c) * g cs - iotR _ (fun l => g (c :: l)) cs = a * (u c * g cs - iotR u (fun l => g (c :: l)) cs) + b * (v c * g cs - iotR v (fun l => g (c :: l)) cs)
    rw [iotR_lin1 u v a b cs]
    grind
theorem iotR_swap (u v : Vc) : ∀ (cols : List Nat) (g : FmR), iotR u (iotR v g) cols = - iotR v (iotR u g) cols
  | [], _ => by simp [iotR, Rat.add_zero, Rat.zero_add, Rat.zero_mul, Rat.mul_zero, Rat.one_mul, Rat.mul_one, rsub0]
  | c :: cs, g => by
    have e1 : iotR u (fun l => iotR v g (c :: l)) cs = v c * iotR u g cs - iotR u (iotR v (fun l => g (c :: l))) cs := by
      have := iotR_lin u (v c) (-1) cs g (iotR v fun l => g (c :: l))
      rw [show (fun l => iotR v g (c :: l)) = fun l => v c * g l + -1 * iotR v (fun l => g (c :: l)) l from funext fun l => by show v c * g l - _ = _; grind, this]
      grind
    have e2 : iotR v (fun l => iotR u g (c :: l)) cs = u c * iotR v g cs - iotR v (iotR u (fun l => g (c :: l))) cs := by
      have := iotR_lin v (u c) (-1) cs g (iotR u fun l => g (c :: l))
      rw [show (fun l => iotR u g (c :: l)) = fun l => u c * g l + -1 * iotR u (fun l => g (c :: l)) l from funext fun l => by show u c * g l - _ = _; grind, this]
      grind
    show u c * iotR v g cs - iotR u (fun l => iotR v g (c :: l)) cs = - (v c * iotR u g cs - iotR v (fun l => iotR u g (c :: l)) cs)
    rw [e1, e2]
    have := iotR_swap u v cs (fun l => g (c :: l))
    grind
theorem iotR_sq (u : Vc) (cols : List Nat) (g : FmR) : iotR u (iotR u g) cols = 0 := by
  have := iotR_swap u u cols g
  grind
/-- a row in its place: linear -/
theorem dt_lin (a b : Rat) (u v : Vc) (B : List Vc) : ∀ (A : List Vc) (cols : List Nat), dt (A ++ (fun j => a * u j + b * v j) :: B) cols = a * dt (A ++ u :: B) cols + b * dt (A ++ v :: B) cols
  | [], cols => iotR_lin1 u v a b cols (dt B)
  | x :: A, cols => by
    show iotR x (dt (A ++ _ :: B)) cols = a * iotR x (dt (A ++ u :: B)) cols + b * iotR x (dt (A ++ v :: B)) cols
    rw [← iotR_lin]
    exact congrArg (fun g => iotR x g cols) (funext fun l => dt_lin a b u v B A l)
theorem dt_front (u : Vc) : ∀ (B C : List Vc) (cols : List Nat), iotR u (dt (B ++ u :: C)) cols = 0
  | [], C, cols => iotR_sq u cols (dt C)
  | b :: B, C, cols => by
    show iotR u (iotR b (dt (B ++ u :: C))) cols = 0
    rw [iotR_swap, show (iotR u (dt (B ++ u :: C)) : FmR) = fun _ => 0 from funext fun l => dt_front u B C l, iotR_zero b cols _ fun _ _ => rfl]
    rfl
/-- a row twice -/
theorem dt_twice (u : Vc) (B C : List Vc) : ∀ (A : List Vc) (cols : List Nat), dt (A ++ u :: (B ++ u :: C)) cols = 0
  | [], cols => dt_front u B C cols
  | x :: A, cols => by
    show iotR x (dt (A ++ u :: (B ++ u :: C))) cols = 0
    exact iotR_zero x cols _ fun l _ => dt_twice u B C A l
theorem dt_twice' {u : Vc} {A B : List Vc} (cols : List Nat) (h : u ∈ A ∨ u ∈ B) : dt (A ++ u :: B) cols = 0 := by
  rcases h with h | h
  · obtain ⟨s, t, rfl⟩ := List.append_of_mem h
    have := dt_twice u t B s cols
    simpa [List.append_assoc] using this
  · obtain ⟨s, t, rfl⟩ := List.append_of_mem h
    exact dt_twice u s t A cols
theorem dt_swap (u v : Vc) (B : List Vc) : ∀ (A : List Vc) (cols : List Nat), dt (A ++ u :: v :: B) cols = - dt (A ++ v :: u :: B) cols
  | [], cols => iotR_swap u v cols (dt B)
  | x :: A, cols => by
    show iotR x (dt (A ++ u :: v :: B)) cols = - iotR x (dt (A ++ v :: u :: B)) cols
    rw [show (dt (A ++ u :: v :: B)) = fun l => (-1) * dt (A ++ v :: u :: B) l + 0 * dt (A ++ v :: u :: B) l from funext fun l => by rw [dt_swap u v B A l]; grind, iotR_lin]
    grind
/-- rows in another sequence: zero or not alike -/
theorem dt_perm {A B : List Vc} (h : A.Perm B) : ∀ (cols : List Nat), (dt A cols = dt B cols ∨ dt A cols = - dt B cols) := by
  suffices hs : (∀ cols, dt A cols = dt B cols) ∨ (∀ cols, dt A cols = - dt B cols) from fun cols => hs.imp (fun f => f cols) (fun f => f cols)
  induction h with
  | nil => exact .inl fun _ => rfl
  | cons x _ ih =>
    rcases ih with ih | ih
    · exact .inl fun cols => congrArg (fun g => iotR x g cols) (funext ih)
    · refine .inr fun cols => ?_
      show iotR x (dt _) cols = - iotR x (dt _) cols
      rw [show (dt _ : FmR) = _ from funext ih]
      have := iotR_lin x (-1) 0 cols
      rename_i l1 l2 _
      have := this (dt l2) (dt l2)
      rw [show (fun l => - dt l2 l) = fun l => (-1) * dt l2 l + 0 * dt l2 l from funext fun l => by grind, this]
      grind
  | swap x y l => exact .inr fun cols => iotR_swap y x cols (dt l)
  | trans _ _ i1 i2 =>
    rcases i1 with i1 | i1 <;> rcases i2 with i2 | i2
    · exact .inl fun c => (i1 c).trans (i2 c)
    · exact .inr fun c => (i1 c).trans (i2 c)
    · exact .inr fun c => by rw [i1 c, i2 c]
    · exact .inl fun c => by rw [i1 c, i2 c]; simp [Rat.add_zero, Rat.zero_add, Rat.zero_mul, Rat.mul_zero, Rat.one_mul, Rat.mul_one, rsub0]
theorem dt_perm0 {A B : List Vc} (h : A.Perm B) (cols : List Nat) : dt A cols = 0 ↔ dt B cols = 0 := by
  rcases dt_perm h cols with e | e <;> rw [e]
  constructor <;> intro h <;> grind
/-! ### vectors that come of others -/
/-- the sum of vectors, each so often -/
def mixV : List Rat → List Vc → Vc
  | c :: cs, k :: ks => fun j => c * k j + mixV cs ks j
  | _, _ => fun _ => 0
/-- v, some times, is such a sum -/
def Spn (K : List Vc) (v : Vc) : Prop := ∃ a : Rat, a ≠ 0 ∧ ∃ cs : List Rat, cs.length = K.length ∧ ∀ j, a * v j = mixV cs K j
theorem mixV_lin (a b : Rat) : ∀ (K : List Vc) (cs ds : List Rat), cs.length = K.length → ds.length = K.length → ∃ es : List Rat, es.length = K.length ∧ ∀ j, mixV es K j = a * mixV cs K j + b * mixV ds K j
  | [], [], [], _, _ => ⟨[], rfl, fun j => by simp [mixV, Rat.add_zero, Rat.zero_add, Rat.zero_mul, Rat.mul_zero, Rat.one_mul, Rat.mul_one, rsub0]⟩
  | k :: K, c :: cs, d :: ds, h1, h2 => by
    obtain ⟨es, e1, e2⟩ := mixV_lin a b K cs ds (by simpa [Rat.add_zero, Rat.zero_add, Rat.zero_mul, Rat.mul_zero, Rat.one_mul, Rat.mul_one, rsub0] using h1) (by simpa using h2)
    refine ⟨(a * c + b * d) :: es, by simp [e1], fun j => ?_⟩
    show (a * c + b * d) * k j + mixV es K j = a * (c * k j + mixV cs K j) + b * (d * k j + mixV ds K j)
    rw [e2]
    grind
theorem mixV_zero : ∀ (K : List Vc), ∃ cs : List Rat, cs.length = K.length ∧ ∀ j, mixV cs K j = 0
  | [] => ⟨[], rfl, fun _ => rfl⟩
  | k :: K => by
    obtain ⟨cs, h1, h2⟩ := mixV_zero K
    exact ⟨0 :: cs, by simp [h1], fun j => by show 0 * k j + _ = 0; rw [h2]; simp [Rat.add_zero, Rat.zero_add, Rat.zero_mul, Rat.mul_zero, Rat.one_mul, Rat.mul_one, rsub0]⟩
theorem mixV_mem : ∀ (K : List Vc) (v : Vc), v ∈ K → ∃ cs : List Rat, cs.length = K.length ∧ ∀ j, mixV cs K j = v j
  | k :: K, v, h => by
    rcases List.mem_cons.mp h with rfl | h
    · obtain ⟨cs, h1, h2⟩ := mixV_zero K
      exact ⟨1 :: cs, by simp [h1], fun j => by show 1 * v j + _ = v j; rw [h2]; simp [Rat.add_zero, Rat.zero_add, Rat.zero_mul, Rat.mul_zero, Rat.one_mul, Rat.mul_one, rsub0]⟩
    · obtain ⟨cs, h1, h2⟩ := mixV_mem K v h
      exact ⟨0 :: cs, by simp [h1], fun j => by show 0 * k j + _ = v j; rw [h2]; simp [Rat.add_zero, Rat.zero_add, Rat.zero_mul, Rat.mul_zero, Rat.one_mul, Rat.mul_one, rsub0]⟩
theorem Spn.mem {K : List Vc} {v : Vc} (h : v ∈ K) : Spn K v := by
  obtain ⟨cs, h1, h2⟩ := mixV_mem K v h
  exact ⟨1, by decide, cs, h1, fun j => by rw [h2]; simp [Rat.add_zero, Rat.zero_add, Rat.zero_mul, Rat.mul_zero, Rat.one_mul, Rat.mul_one, rsub0]⟩
theorem Spn.zero (K : List Vc) {v : Vc} (h : ∀ j, v j = 0) : Spn K v := by
  obtain ⟨cs, h1, h2⟩ := mixV_zero K
  exact ⟨1, by decide, cs, h1, fun j => by rw [h2, h j]; simp [Rat.add_zero, Rat.zero_add, Rat.zero_mul, Rat.mul_zero, Rat.one_mul, Rat.mul_one, rsub0]⟩
/-- c v = a u + b w: v comes of what u and w come of -/
theorem Spn.lin {K : List Vc} {u w v : Vc} {a b c : Rat} (hc : c ≠ 0) (h : ∀ j, c * v j = a * u j + b * w j) (hu : Spn K u) (hw : Spn K w) : Spn K v := by
  obtain ⟨p, p0, cs, c1, c2⟩ := hu
  obtain ⟨q, q0, ds, d1, d2⟩ := hw
  obtain ⟨es, e1, e2⟩ := mixV_lin (a * q) (b * p) K cs ds c1 d1
  refine ⟨p * q * c, rmz (rmz p0 q0) hc, es, e1, fun j => ?_⟩
  rw [e2, ← c2, ← d2]
  have := h j
  grind
theorem Spn.cons {K : List Vc} {k v : Vc} (h : Spn K v) : Spn (k :: K) v := by
  obtain ⟨a, a0, cs, h1, h2⟩ := h
  exact ⟨a, a0, 0 :: cs, by simp [h1], fun j => by show _ = 0 * k j + _; rw [h2]; simp [Rat.add_zero, Rat.zero_add, Rat.zero_mul, Rat.mul_zero, Rat.one_mul, Rat.mul_one, rsub0]⟩
theorem mixV_app : ∀ (K L : List Vc) (cs ds : List Rat), cs.length = K.length → ∀ j, mixV (cs ++ ds) (K ++ L) j = mixV cs K j + mixV ds L j
  | [], L, [], ds, _, j => by simp [mixV, Rat.add_zero, Rat.zero_add, Rat.zero_mul, Rat.mul_zero, Rat.one_mul, Rat.mul_one, rsub0]
  | k :: K, L, c :: cs, ds, h, j => by
    show c * k j + mixV (cs ++ ds) (K ++ L) j = c * k j + mixV cs K j + mixV ds L j
    rw [mixV_app K L cs ds (by simpa using h) j]
    grind
theorem Spn.app {K L : List Vc} {v : Vc} (h : Spn K v) : Spn (K ++ L) v := by
  obtain ⟨a, a0, cs, h1, h2⟩ := h
  obtain ⟨ds, d1, d2⟩ := mixV_zero L
  exact ⟨a, a0, cs ++ ds, by simp [h1, d1], fun j => by rw [mixV_app K L cs ds h1, d2, h2]; simp [Rat.add_zero, Rat.zero_add, Rat.zero_mul, Rat.mul_zero, Rat.one_mul, Rat.mul_one, rsub0]⟩
theorem mixV_sp {K : List Vc} : ∀ (L : List Vc) (cs : List Rat) {v : Vc} {a : Rat}, a ≠ 0 → (∀ x ∈ L, Spn K x) → (∀ j, a * v j = mixV cs L j) → Spn K v
  | [], cs, v, a, a0, _, h => .zero K fun j => by
    have := h j
    have e : mixV cs ([] : List Vc) j = 0 := by cases cs <;> rfl
    rw [e] at this
    rcases Rat.mul_eq_zero.mp this with h | h
    · exact (a0 h).elim
    · exact h
  | x :: L, [], v, a, a0, _, h => .zero K fun j => by
    have := h j
    rw [show mixV [] (x :: L) j = 0 from rfl] at this
    rcases Rat.mul_eq_zero.mp this with h | h
    · exact (a0 h).elim
    · exact h
  | x :: L, c :: cs, v, a, a0, hL, h => by
    have hr : Spn K (mixV cs L) := mixV_sp L cs (a := 1) (by decide) (fun y hy => hL y (List.mem_cons_of_mem _ hy)) fun j => by simp
    exact Spn.lin (a := c) (b := 1) (c := a) a0 (fun j => by rw [h]; show c * x j + _ = _; simp) (hL x (List.mem_cons_self ..)) hr
/-- what comes of what comes -/
theorem Spn.trans {K L : List Vc} {v : Vc} (h : Spn L v) (hL : ∀ x ∈ L, Spn K x) : Spn K v := by
  obtain ⟨a, a0, cs, _, h2⟩ := h
  exact mixV_sp L cs a0 hL h2
/-- zero at all rows of R, so at all that come of R -/
theorem dt_mix {A B : List Vc} {cols : List Nat} {u : Vc} {a : Rat} (a0 : a ≠ 0) : ∀ (L : List Vc) (cs : List Rat), (∀ x ∈ L, dt (A ++ x :: B) cols = 0) → (∀ j, a * u j = mixV cs L j) → dt (A ++ u :: B) cols = 0 := by
  have key : ∀ (L : List Vc) (cs : List Rat), (∀ x ∈ L, dt (A ++ x :: B) cols = 0) → dt (A ++ mixV cs L :: B) cols = 0 := by
    have hz : ∀ v : Vc, (∀ j, v j = 0) → dt (A ++ v :: B) cols = 0 := fun v hv => by
      have := dt_lin 0 0 v v B A cols
      rw [show (fun j => 0 * v j + 0 * v j) = v from funext fun j => by rw [hv j]; simp [Rat.add_zero, Rat.zero_add, Rat.zero_mul, Rat.mul_zero, Rat.one_mul, Rat.mul_one, rsub0]] at this
      rw [this]
      simp [Rat.add_zero, Rat.zero_add, Rat.zero_mul, Rat.mul_zero, Rat.one_mul, Rat.mul_one, rsub0]
    intro L
    induction L with
    | nil => intro cs _; exact hz _ fun j => by cases cs <;> rfl
    | cons x L ih =>
      intro cs h
      cases cs with
      | nil => exact hz _ fun j => rfl
      | cons c cs =>
        have e : mixV (c :: cs) (x :: L) = fun j => c * x j + 1 * mixV cs L j := funext fun j => by show _ + _ = _; simp [Rat.add_zero, Rat.zero_add, Rat.zero_mul, Rat.mul_zero, Rat.one_mul, Rat.mul_one, rsub0]
        rw [e, dt_lin, h x (List.mem_cons_self ..), ih cs fun y hy => h y (List.mem_cons_of_mem _ hy)]
        simp [Rat.add_zero, Rat.zero_add, Rat.zero_mul, Rat.mul_zero, Rat.one_mul, Rat.mul_one, rsub0]
  intro L cs h hu
  have h1 := key L cs h
  rw [← show (fun j => a * u j + 0 * u j) = mixV cs L from funext fun j => by rw [← hu j]; simp [Rat.add_zero, Rat.zero_add, Rat.zero_mul, Rat.mul_zero, Rat.one_mul, Rat.mul_one, rsub0], dt_lin] at h1
  have : a * dt (A ++ u :: B) cols = 0 := by simpa [Rat.add_zero, Rat.zero_add, Rat.zero_mul, Rat.mul_zero, Rat.one_mul, Rat.mul_one, rsub0] using h1
  exact (Rat.mul_eq_zero.mp this).resolve_left a0
theorem dt_of_rows {R : List Vc} {cols : List Nat} {s : Nat} (hz : ∀ Q : List Vc, Q.length = s → (∀ q ∈ Q, q ∈ R) → dt Q cols = 0) : ∀ (B A : List Vc), (A.length + B.length = s) → (∀ q ∈ A, q ∈ R) → (∀ q ∈ B, Spn R q) → dt (A ++ B) cols = 0
  | [], A, hl, hA, _ => hz _ (by simpa using hl) fun q hq => hA q (by simpa using hq)
  | b :: B, A, hl, hA, hB => by
    obtain ⟨a, a0, cs, _, h2⟩ := hB b (List.mem_cons_self ..)
    refine dt_mix a0 R cs (fun x hx => ?_) h2
    have := dt_of_rows hz B (A ++ [x]) (by simp at hl ⊢; omega) (fun q hq => by
      rcases List.mem_append.mp hq with h | h
      · exact hA q h
      · rw [List.mem_singleton.mp h]; exact hx) fun q hq => hB q (List.mem_cons_of_mem _ hq)
    simpa [List.append_assoc] using this
/-- more rows than those that they come of -/
theorem dt_more : ∀ (K Q : List Vc) (cols : List Nat), K.length < Q.length → (∀ q ∈ Q, Spn K q) → dt Q cols = 0
  | [], q :: Q, cols, _, h => by
    obtain ⟨a, a0, cs, _, h2⟩ := h q (List.mem_cons_self ..)
    exact dt_mix (A := []) (B := Q) (cols := cols) a0 [] cs (fun x hx => by cases hx) h2
  | k :: K, Q, cols, hl, h => by
    refine Classical.byCases (p := ∀ q ∈ Q, Spn K q) (fun hs => dt_more K Q cols (by simp at hl; omega) hs) fun hn => ?_
    obtain ⟨q0, hq0, hk0⟩ : ∃ q ∈ Q, ¬ Spn K q := Classical.byContradiction fun hc => hn fun q hq => Classical.byContradiction fun hs => hc ⟨q, hq, hs⟩
    obtain ⟨S, T, rfl⟩ := List.append_of_mem hq0
    have hp : (S ++ q0 :: T).Perm (q0 :: (S ++ T)) := List.perm_middle
    rw [dt_perm0 hp]
    have hrest : ∀ q ∈ S ++ T, Spn (k :: K) q := fun q hq => h q (by
      rcases List.mem_append.mp hq with h | h
      · exact List.mem_append_left _ h
      · exact List.mem_append_right _ (List.mem_cons_of_mem _ h))
    obtain ⟨a, a0, cs, c1, c2⟩ := h q0 hq0
    match cs, c1, c2 with
    | c :: cs, c1, c2 =>
      have c0 : c ≠ 0 := fun e => hk0 ⟨a, a0, cs, by simpa using c1, fun j => by rw [c2]; show c * k j + _ = _; rw [e]; simp [Rat.add_zero, Rat.zero_add, Rat.zero_mul, Rat.mul_zero, Rat.one_mul, Rat.mul_one, rsub0]⟩
      have hlen : K.length < (S ++ T).length := by simp at hl ⊢; omega
      generalize hW : S ++ T = W at hrest hlen
      -- each of W, less so much of q0, comes of K
      have each : ∀ q ∈ W, ∃ (m b : Rat) (q' : Vc), m ≠ 0 ∧ Spn K q' ∧ ∀ j, m * q j = 1 * q' j + b * q0 j := fun q hq => by
        obtain ⟨p, p0, ds, d1, d2⟩ := hrest q hq
        match ds, d1, d2 with
        | d :: ds, d1, d2 =>
          refine ⟨c * p, d * a, fun j => c * (p * q j) - d * (a * q0 j), rmz c0 p0, ?_, fun j => by grind⟩
          obtain ⟨es, e1, e2⟩ := mixV_lin c (-d) K ds cs (by simpa using d1) (by simpa using c1)
          refine ⟨1, by decide, es, e1, fun j => ?_⟩
          rw [e2]
          have x1 := d2 j
          have x2 := c2 j
          have y1 : p * q j = d * k j + mixV ds K j := x1
          have y2 : a * q0 j = c * k j + mixV cs K j := x2
          show 1 * (c * (p * q j) - d * (a * q0 j)) = _
          rw [y1, y2]
          grind
      have step : ∀ (B A : List Vc), (∀ q ∈ A, Spn K q) → (∀ q ∈ B, q ∈ W) → K.length < A.length + B.length → dt (q0 :: (A ++ B)) cols = 0 := by
        intro B
        induction B with
        | nil =>
          intro A hA _ hl
          rw [List.append_nil]
          exact iotR_zero q0 cols _ fun l _ => dt_more K A l (by simpa using hl) hA
        | cons b B ih =>
          intro A hA hB hl
          obtain ⟨m, e, q', m0, s', h'⟩ := each b (hB b (List.mem_cons_self ..))
          have z1 : dt ((q0 :: A) ++ q' :: B) cols = 0 := by
            have := ih (A ++ [q']) (fun q hq => by
              rcases List.mem_append.mp hq with h | h
              · exact hA q h
              · rw [List.mem_singleton.mp h]; exact s') (fun q hq => hB q (List.mem_cons_of_mem _ hq)) (by simp at hl ⊢; omega)
            simpa [List.append_assoc] using this
          have z2 : dt ((q0 :: A) ++ q0 :: B) cols = 0 := dt_twice' cols (.inl (List.mem_cons_self ..))
          have z3 := dt_lin 1 e q' q0 B (q0 :: A) cols
          rw [z1, z2, ← show (fun j => m * b j + 0 * b j) = fun j => 1 * q' j + e * q0 j from funext fun j => by rw [← h' j]; simp [Rat.add_zero, Rat.zero_add, Rat.zero_mul, Rat.mul_zero, Rat.one_mul, Rat.mul_one, rsub0], dt_lin] at z3
          have z4 : m * dt ((q0 :: A) ++ b :: B) cols = 0 := by simpa [Rat.add_zero, Rat.zero_add, Rat.zero_mul, Rat.mul_zero, Rat.one_mul, Rat.mul_one, rsub0] using z3
          exact (Rat.mul_eq_zero.mp z4).resolve_left m0
      exact step W [] (fun q hq => by cases hq) (fun q hq => hq) (by simpa using hlen)
end SB
namespace SB
/-! ### steps: rows, each with a place where those behind it have 0 -/
def Ech : List (Vc × Nat) → Prop
  | [] => True
  | p :: ps => p.1 p.2 ≠ 0 ∧ (∀ q ∈ ps, q.1 p.2 = 0) ∧ Ech ps
theorem Ech.ne : ∀ {L : List (Vc × Nat)}, Ech L → ∀ q ∈ L, q.1 q.2 ≠ 0
  | p :: ps, h, q, hq => by
    rcases List.mem_cons.mp hq with rfl | hq
    · exact h.1
    · exact Ech.ne h.2.2 q hq
theorem Ech.nd : ∀ {L : List (Vc × Nat)}, Ech L → (L.map (·.2)).Nodup
  | [], _ => List.nodup_nil
  | p :: ps, h => by
    refine List.nodup_cons.mpr ⟨fun hm => ?_, Ech.nd h.2.2⟩
    obtain ⟨q, hq, e⟩ := List.mem_map.mp hm
    have e : q.2 = p.2 := e
    have := Ech.ne h.2.2 q hq
    rw [e] at this
    exact this (h.2.1 q hq)
theorem Ech.snoc : ∀ {L : List (Vc × Nat)} {v : Vc} {n : Nat}, Ech L → v n ≠ 0 → (∀ q ∈ L, v q.2 = 0) → Ech (L ++ [(v, n)])
  | [], v, n, _, hv, _ => ⟨hv, (fun q (h : q ∈ []) => nomatch h), trivial⟩
  | p :: ps, v, n, h, hv, hz => by
    refine ⟨h.1, fun q hq => ?_, Ech.snoc h.2.2 hv fun q hq => hz q (List.mem_cons_of_mem _ hq)⟩
    rcases List.mem_append.mp hq with hq | hq
    · exact h.2.1 q hq
    · rw [List.mem_singleton.mp hq]
      exact hz p (List.mem_cons_self ..)
theorem iotR_col {u : Vc} {c : Nat} (hu : u c = 0) : ∀ (cols : List Nat) (g : FmR), c ∈ cols → (∀ l, l.length + 1 = cols.length → c ∈ l → g l = 0) → iotR u g cols = 0
  | x :: cs, g, hc, hg => by
    have r1 : u x * g cs = 0 := by
      rcases List.mem_cons.mp hc with rfl | h
      · rw [hu, Rat.zero_mul]
      · rw [hg cs rfl h, Rat.mul_zero]
    have r2 : iotR u (fun l => g (x :: l)) cs = 0 := by
      rcases List.mem_cons.mp hc with rfl | h
      · exact iotR_zero u cs _ fun l hl => hg (c :: l) (by simp at hl ⊢; omega) (List.mem_cons_self ..)
      · exact iotR_col hu cs _ h fun l hl hm => hg (x :: l) (by simp at hl ⊢; omega) (List.mem_cons_of_mem _ hm)
    show u x * g cs - iotR u (fun l => g (x :: l)) cs = 0
    rw [r1, r2, rsub0]
theorem dt_col {c : Nat} : ∀ (rows : List Vc) (cols : List Nat), (∀ r ∈ rows, r c = 0) → c ∈ cols → cols.length = rows.length → dt rows cols = 0
  | [], cols, _, hc, hl => by
    cases cols with
    | nil => cases hc
    | cons x xs => simp at hl
  | r :: rs, cols, hr, hc, hl => iotR_col (hr r (List.mem_cons_self ..)) cols (dt rs) hc fun l hll hm => dt_col rs l (fun q hq => hr q (List.mem_cons_of_mem _ hq)) hm (by simp at hl hll; omega)
theorem iotR_at {u : Vc} {c : Nat} : ∀ (pre post : List Nat) (g : FmR), (∀ l, l.length = pre.length + post.length → c ∈ l → g l = 0) → iotR u g (pre ++ c :: post) = u c * g (pre ++ post) ∨ iotR u g (pre ++ c :: post) = - (u c * g (pre ++ post))
  | [], post, g, h => by
    refine .inl ?_
    show u c * g post - iotR u (fun l => g (c :: l)) post = u c * g post
    rw [iotR_zero u post _ fun l hl => h (c :: l) (by simp at hl ⊢; omega) (List.mem_cons_self ..), rsub0]
  | p :: pre, post, g, h => by
    have r1 : g (pre ++ c :: post) = 0 := h _ (by simp; omega) (by simp)
    have ih := iotR_at (u := u) pre post (fun l => g (p :: l)) fun l hl hm => h (p :: l) (by simp at hl ⊢; omega) (List.mem_cons_of_mem _ hm)
    have e : iotR u g (p :: pre ++ c :: post) = - iotR u (fun l => g (p :: l)) (pre ++ c :: post) := by
      show u p * g (pre ++ c :: post) - iotR u (fun l => g (p :: l)) (pre ++ c :: post) = _
      rw [r1, Rat.mul_zero]
      grind
    rw [e]
    rcases ih with ih | ih
    · exact .inr (by rw [ih]; rfl)
    · exact .inl (by rw [ih, Rat.neg_neg]; rfl)
theorem dt_ech : ∀ (L : List (Vc × Nat)) (cols : List Nat), Ech L → cols.Perm (L.map (·.2)) → dt (L.map (·.1)) cols ≠ 0
  | [], cols, _, hp => by
    show (1 : Rat) ≠ 0
    decide
  | p :: ps, cols, h, hp => by
    have hm : p.2 ∈ cols := hp.mem_iff.mpr (by simp)
    obtain ⟨pre, post, rfl⟩ := List.append_of_mem hm
    have hp2 : (pre ++ post).Perm (ps.map (·.2)) := by
      have a : (p.2 :: (pre ++ post)).Perm (p.2 :: ps.map (·.2)) := (List.perm_middle.symm).trans hp
      exact List.Perm.cons_inv a
    have hn := dt_ech ps (pre ++ post) h.2.2 hp2
    have hl : (pre ++ post).length = ps.length := by rw [hp2.length_eq, List.length_map]
    have key := iotR_at (u := p.1) pre post (dt (ps.map (·.1))) fun l hl2 hm => dt_col _ l (fun r hr => by
      obtain ⟨q, hq, rfl⟩ := List.mem_map.mp hr
      exact h.2.1 q hq) hm (by rw [List.length_map, hl2, ← hl, List.length_append])
    show iotR p.1 (dt (ps.map (·.1))) (pre ++ p.2 :: post) ≠ 0
    have nz : p.1 p.2 * dt (ps.map (·.1)) (pre ++ post) ≠ 0 := rmz h.1 hn
    rcases key with e | e <;> rw [e]
    · exact nz
    · intro z
      exact nz (by grind)
/-! ### how many rows count -/
structure Rk (R : List Vc) (w r : Nat) : Prop where
  up : ∀ (Q : List Vc) (cols : List Nat), r < Q.length → (∀ q ∈ Q, q ∈ R) → dt Q cols = 0
  at' : ∃ (P : List Vc) (cols : List Nat), P.Sublist R ∧ P.length = r ∧ cols.length = r ∧ cols.Pairwise (· < ·) ∧ (∀ c ∈ cols, c < w) ∧ dt P cols ≠ 0
theorem nd_of_dt {Q : List Vc} {cols : List Nat} (h : dt Q cols ≠ 0) : Q.Nodup := by
  refine Classical.byContradiction fun hn => h ?_
  have : ∃ S u T, Q = S ++ u :: T ∧ u ∈ T := by
    clear h
    induction Q with
    | nil => exact (hn List.nodup_nil).elim
    | cons x Q ih =>
      refine Classical.byCases (p := x ∈ Q) (fun hx => ⟨[], x, Q, rfl, hx⟩) fun hx => ?_
      obtain ⟨S, u, T, e, hu⟩ := ih fun hd => hn (List.nodup_cons.mpr ⟨hx, hd⟩)
      exact ⟨x :: S, u, T, by rw [e]; rfl, hu⟩
  obtain ⟨S, u, T, rfl, hu⟩ := this
  exact dt_twice' cols (.inr hu)
theorem sub_of_mem : ∀ (R Q : List Vc), Q.Nodup → (∀ q ∈ Q, q ∈ R) → ∃ P : List Vc, P.Sublist R ∧ P.Perm Q
  | [], Q, _, h => by
    cases Q with
    | nil => exact ⟨[], List.Sublist.refl _, .refl _⟩
    | cons q Q => exact absurd (h q (List.mem_cons_self ..)) (by simp)
  | x :: R, Q, hn, h => by
    refine Classical.byCases (p := x ∈ Q) (fun hx => ?_) fun hx => ?_
    · obtain ⟨S, T, rfl⟩ := List.append_of_mem hx
      have hp : (S ++ x :: T).Perm (x :: (S ++ T)) := List.perm_middle
      have hn2 := List.nodup_cons.mp (hp.nodup_iff.mp hn)
      obtain ⟨P, p1, p2⟩ := sub_of_mem R (S ++ T) hn2.2 fun q hq => by
        have hq' : q ∈ S ++ x :: T := hp.mem_iff.mpr (List.mem_cons_of_mem _ hq)
        rcases List.mem_cons.mp (h q hq') with rfl | h
        · exact (hn2.1 hq).elim
        · exact h
      exact ⟨x :: P, List.Sublist.cons_cons x p1, (p2.cons x).trans hp.symm⟩
    · obtain ⟨P, p1, p2⟩ := sub_of_mem R Q hn fun q hq => by
        rcases List.mem_cons.mp (h q hq) with rfl | h
        · exact (hx hq).elim
        · exact h
      exact ⟨P, List.Sublist.cons x p1, p2⟩
theorem rise_of : ∀ (L : List Nat), L.Nodup → ∃ cols : List Nat, cols.Perm L ∧ cols.Pairwise (· < ·) := fun L hn => by
  refine ⟨L.mergeSort (fun a b => decide (a ≤ b)), List.mergeSort_perm .., ?_⟩
  have hs : (L.mergeSort (fun a b => decide (a ≤ b))).Pairwise (fun a b => (decide (a ≤ b)) = true) := List.pairwise_mergeSort (fun a b c h1 h2 => by simp at *; omega) (fun a b => by simp; omega) L
  have hd : (L.mergeSort (fun a b => decide (a ≤ b))).Nodup := (List.mergeSort_perm ..).nodup_iff.mpr hn
  generalize L.mergeSort (fun a b => decide (a ≤ b)) = M at hs hd
  clear hn
  induction M with
  | nil => exact .nil
  | cons x M ih =>
    have a := List.pairwise_cons.mp hs
    have b := List.nodup_cons.mp hd
    refine List.pairwise_cons.mpr ⟨fun y hy => ?_, ih a.2 b.2⟩
    have h1 := a.1 y hy
    have h2 : x ≠ y := fun e => b.1 (e ▸ hy)
    simp at h1
    omega
/-- members that come of R, with steps: so many of R's own -/
theorem rows_of {R : List Vc} {L : List (Vc × Nat)} {w : Nat} (h : Ech L) (hw : ∀ q ∈ L, q.2 < w) (hs : ∀ q ∈ L, Spn R q.1) : ∃ (P : List Vc) (cols : List Nat), P.Sublist R ∧ P.length = L.length ∧ cols.length = L.length ∧ cols.Pairwise (· < ·) ∧ (∀ c ∈ cols, c < w) ∧ dt P cols ≠ 0 := by
  obtain ⟨cols, c1, c2⟩ := rise_of _ h.nd
  have hd := dt_ech L cols h c1
  have : ∃ Q : List Vc, Q.length = L.length ∧ (∀ q ∈ Q, q ∈ R) ∧ dt Q cols ≠ 0 := Classical.byContradiction fun hn => hd (by
    have := dt_of_rows (R := R) (cols := cols) (s := L.length) (fun Q hl hq => Classical.byContradiction fun h0 => hn ⟨Q, hl, hq, h0⟩) (L.map (·.1)) [] (by simp) (fun q hq => by cases hq) fun q hq => by
      obtain ⟨p, hp, rfl⟩ := List.mem_map.mp hq
      exact hs p hp
    simpa using this)
  obtain ⟨Q, hl, hq, h0⟩ := this
  obtain ⟨P, p1, p2⟩ := sub_of_mem R Q (nd_of_dt h0) hq
  refine ⟨P, cols, p1, by rw [p2.length_eq, hl], by rw [c1.length_eq, List.length_map], c2, fun c hc => ?_, fun z => h0 ((dt_perm0 p2 cols).mp z)⟩
  obtain ⟨q, hq, rfl⟩ := List.mem_map.mp (c1.mem_iff.mp hc)
  exact hw q hq
theorem rk_of {R : List Vc} {L : List (Vc × Nat)} {w : Nat} (h : Ech L) (hw : ∀ q ∈ L, q.2 < w) (hs : ∀ q ∈ L, Spn R q.1) (hr : ∀ x ∈ R, Spn (L.map (·.1)) x) : Rk R w L.length :=
  ⟨fun Q cols hl hq => dt_more (L.map (·.1)) Q cols (by simpa using hl) fun q m => hr q (hq q m), rows_of h hw hs⟩
theorem Rk.uniq {R : List Vc} {w v r s : Nat} (h : Rk R w r) (g : Rk R v s) : r = s := by
  obtain ⟨P, c, p1, p2, _, _, _, p3⟩ := h.at'
  obtain ⟨Q, d, q1, q2, _, _, _, q3⟩ := g.at'
  have a : ¬ s < r := fun hl => p3 (g.up P c (by omega) fun q hq => p1.subset hq)
  have b : ¬ r < s := fun hl => q3 (h.up Q d (by omega) fun q hq => q1.subset hq)
  omega
/-- more of S can't come of R than R has -/
theorem Rk.le_of {R S : List Vc} {w v r s : Nat} (h : Rk R w r) (g : Rk S v s) (hs : ∀ x ∈ S, Spn R x) : s ≤ r := by
  obtain ⟨Q, d, q1, q2, _, _, _, q3⟩ := g.at'
  refine Nat.le_of_not_lt fun hl => q3 ?_
  have := dt_of_rows (R := R) (cols := d) (s := Q.length) (fun P hp hq => h.up P d (by omega) hq) Q [] (by simp) (fun q hq => by cases hq) fun q hq => hs q (q1.subset hq)
  simpa using this
theorem Rk.ech_le {R : List Vc} {w r : Nat} (h : Rk R w r) {L : List (Vc × Nat)} (e : Ech L) (hs : ∀ q ∈ L, Spn R q.1) : L.length ≤ r := by
  obtain ⟨b, hb⟩ : ∃ b, ∀ q ∈ L, q.2 < b := by
    clear e hs
    induction L with
    | nil => exact ⟨0, fun q hq => by cases hq⟩
    | cons p L ih =>
      obtain ⟨b, hb⟩ := ih
      refine ⟨p.2 + 1 + b, fun q hq => ?_⟩
      rcases List.mem_cons.mp hq with rfl | hq
      · omega
      · have := hb q hq
        omega
  obtain ⟨P, c, p1, p2, _, _, _, p3⟩ := rows_of e hb hs
  refine Nat.le_of_not_lt fun hl => p3 (h.up P c (by omega) fun q hq => p1.subset hq)
/-- at most one less without one -/
theorem Rk.less {A B : List Vc} {x : Vc} {w v r s : Nat} (h : Rk (A ++ x :: B) w r) (g : Rk (A ++ B) v s) : s ≤ r ∧ r ≤ s + 1 := by
  refine ⟨h.le_of g fun y hy => .mem (by
    rcases List.mem_append.mp hy with h | h
    · exact List.mem_append_left _ h
    · exact List.mem_append_right _ (List.mem_cons_of_mem _ h)), Nat.le_of_not_lt fun hl => ?_⟩
  obtain ⟨P, c, p1, p2, _, _, _, p3⟩ := h.at'
  have hmem : ∀ y, y ∈ A ++ x :: B → y = x ∨ y ∈ A ++ B := fun y hy => by
    rcases List.mem_append.mp hy with h | h
    · exact .inr (List.mem_append_left _ h)
    · rcases List.mem_cons.mp h with h | h
      · exact .inl h
      · exact .inr (List.mem_append_right _ h)
  refine Classical.byCases (p := x ∈ P) (fun hx => ?_) fun hx => p3 (g.up P c (by omega) fun q hq => by
    rcases hmem q (p1.subset hq) with rfl | h
    · exact (hx hq).elim
    · exact h)
  obtain ⟨S, T, rfl⟩ := List.append_of_mem hx
  have hp : (S ++ x :: T).Perm (x :: (S ++ T)) := List.perm_middle
  have hn := List.nodup_cons.mp (hp.nodup_iff.mp (nd_of_dt p3))
  refine p3 ((dt_perm0 hp c).mpr (iotR_zero x c _ fun l _ => g.up (S ++ T) l (by simp at p2 ⊢; omega) fun q hq => ?_))
  rcases hmem q (p1.subset (hp.mem_iff.mpr (List.mem_cons_of_mem _ hq))) with rfl | h
  · exact (hn.1 hq).elim
  · exact h
end SB
namespace SB
/-! ### the program's way: rows taken out of rows -/
def gI (l : List Int) (j : Nat) : Int := l.getD j 0
def vcI (l : List Int) : Vc := fun j => ((gI l j : Int) : Rat)
theorem gI_get {l : List Int} {j : Nat} {z : Int} (h : l[j]? = some z) : gI l j = z := by
  unfold gI
  rw [List.getD_eq_getElem?_getD, h]
  rfl
theorem gI_out {l : List Int} {j : Nat} (h : l.length ≤ j) : gI l j = 0 := by
  unfold gI
  rw [List.getD_eq_getElem?_getD, List.getElem?_eq_none h]
  rfl
theorem gI_map (f : Int → Int) (h0 : f 0 = 0) (l : List Int) (j : Nat) : gI (l.map f) j = f (gI l j) := by
  unfold gI
  rw [List.getD_eq_getElem?_getD, List.getD_eq_getElem?_getD, List.getElem?_map]
  cases l[j]? with
  | none => exact h0.symm
  | some z => rfl
theorem gI_mem {l : List Int} {j : Nat} (h : gI l j ≠ 0) : gI l j ∈ l := by
  have hl : j < l.length := Nat.lt_of_not_le fun hl => h (gI_out hl)
  have := gI_get (List.getElem?_eq_getElem hl)
  rw [this]
  exact List.getElem_mem hl
/-- b x - r y, place by place -/
def rawT (row begun : List Int) (b r : Int) : List Int := (row.zip begun).map fun p => b * p.1 - r * p.2
theorem rawT_len {row begun : List Int} {b r : Int} (h : row.length = begun.length) : (rawT row begun b r).length = row.length := by
  unfold rawT
  rw [List.length_map, List.length_zip, ← h, Nat.min_self]
theorem gI_raw {b r : Int} : ∀ {row begun : List Int}, row.length = begun.length → ∀ j, gI (rawT row begun b r) j = b * gI row j - r * gI begun j
  | [], [], _, j => by simp [rawT, gI]
  | x :: row, y :: begun, h, j => by
    cases j with
    | zero => rfl
    | succ j => exact gI_raw (row := row) (begun := begun) (by simpa using h) j
def takeO (row begun : List Int) : List Int :=
  let raw := rawT row begun (gI begun (firstNZ begun)) (gI row (firstNZ begun))
  if 1 < gcdL raw then raw.map fun z => z / ((gcdL raw : Nat) : Int) else raw
theorem takeO_len {row begun : List Int} (h : row.length = begun.length) : (takeO row begun).length = row.length := by
  unfold takeO
  dsimp only
  split
  · rw [List.length_map, rawT_len h]
  · exact rawT_len h
theorem takeO_eq {row begun : List Int} (h : row.length = begun.length) : ∃ g : Int, g ≠ 0 ∧ ∀ j, g * gI (takeO row begun) j = gI begun (firstNZ begun) * gI row j - gI row (firstNZ begun) * gI begun j := by
  unfold takeO
  dsimp only
  split
  · rename_i hg
    refine ⟨((gcdL (rawT row begun (gI begun (firstNZ begun)) (gI row (firstNZ begun))) : Nat) : Int), by omega, fun j => ?_⟩
    rw [← gI_raw h, gI_map (fun z => z / ((gcdL (rawT row begun (gI begun (firstNZ begun)) (gI row (firstNZ begun))) : Nat) : Int)) (Int.zero_ediv _)]
    generalize hr : rawT row begun (gI begun (firstNZ begun)) (gI row (firstNZ begun)) = raw at hg ⊢
    by_cases z : gI raw j = 0
    · rw [z]
      simp
    · exact Int.mul_ediv_cancel' (Int.ofNat_dvd_left.mpr (gcdL_dvd (gI_mem z)))
  · exact ⟨1, by decide, fun j => by rw [← gI_raw h, Int.one_mul]⟩
def restO (row : List Int) (kept : List (List Int)) : List Int := kept.foldl (fun rest begun => if gI rest (firstNZ begun) ≠ 0 then takeO rest begun else rest) row
def keptO (rows : List (List Int)) : List (List Int) := rows.foldl (fun kept row => if (restO row kept).any (fun z => decide (z ≠ 0)) then kept ++ [restO row kept] else kept) []
/-! ### widths -/
def BdI (n : Nat) (l : List Int) : Prop := ∀ z, z ∈ l → z.natAbs < 2 ^ n
theorem BdI.mono {m n : Nat} {l : List Int} (h : BdI m l) (hm : m ≤ n) : BdI n l := fun z hz => Nat.lt_of_lt_of_le (h z hz) (Nat.pow_le_pow_right (by decide) hm)
theorem BdI.g {n : Nat} {l : List Int} (h : BdI n l) (j : Nat) : (gI l j).natAbs < 2 ^ n := by
  by_cases z : gI l j = 0
  · rw [z]
    exact Nat.pow_pos (by decide)
  · exact h _ (gI_mem z)
theorem BdI.of {n : Nat} {l : List Int} (h : ∀ j, (gI l j).natAbs < 2 ^ n) : BdI n l := fun z hz => by
  obtain ⟨j, hj, rfl⟩ := List.getElem_of_mem hz
  rw [← gI_get (List.getElem?_eq_getElem hj)]
  exact h j
theorem BdI.raw {m n : Nat} {row begun : List Int} (hr : BdI n row) (hb : BdI m begun) (h : row.length = begun.length) : BdI (m + n + 1) (rawT row begun (gI begun (firstNZ begun)) (gI row (firstNZ begun))) := .of fun j => by
  rw [gI_raw h]
  have a1 := hb.g (firstNZ begun)
  have a2 := hr.g j
  have a3 := hr.g (firstNZ begun)
  have a4 := hb.g j
  have m1 : (gI begun (firstNZ begun) * gI row j).natAbs < 2 ^ (m + n) := by
    rw [Int.natAbs_mul, Nat.pow_add]
    exact Nat.mul_lt_mul'' a1 a2
  have m2 : (gI row (firstNZ begun) * gI begun j).natAbs < 2 ^ (m + n) := by
    rw [Int.natAbs_mul, Nat.add_comm, Nat.pow_add]
    exact Nat.mul_lt_mul'' a3 a4
  rw [Nat.pow_succ]
  omega
theorem BdI.take {m n : Nat} {row begun : List Int} (hr : BdI n row) (hb : BdI m begun) (h : row.length = begun.length) : BdI (m + n + 1) (takeO row begun) := by
  have := hr.raw hb h
  unfold takeO
  dsimp only
  split
  · rename_i hg
    intro z hz
    obtain ⟨y, hy, rfl⟩ := List.mem_map.mp hz
    exact Nat.lt_of_le_of_lt (div_le (by omega) (gcdL_dvd hy)).1 (this y hy)
  · exact this
/-! ### what is kept -/
theorem rcast {a b c d e f : Int} (h : a * b = c * d - e * f) : (a : Rat) * (b : Rat) = (c : Rat) * (d : Rat) + (-(e : Rat)) * (f : Rat) := by
  have : ((a * b : Int) : Rat) = ((c * d - e * f : Int) : Rat) := by rw [h]
  rw [Rat.intCast_mul, Rat.intCast_sub, Rat.intCast_mul, Rat.intCast_mul] at this
  rw [this]
  grind
theorem rne' {a : Int} (h : a ≠ 0) : (a : Rat) ≠ 0 := fun e => h (Rat.intCast_eq_zero_iff.mp e)
/-- steps of whole numbers: kept, in their turn -/
def EchI (K : List (List Int)) : Prop := Ech (K.map fun k => (vcI k, firstNZ k))
structure KpI (w n : Nat) (K : List (List Int)) : Prop where
  len : ∀ k ∈ K, k.length = w
  nz : ∀ k ∈ K, NonZ k
  ech : EchI K
  bd : ∀ i k, K[i]? = some k → BdI ((n + 1) * 2 ^ i - 1) k
theorem lead_gI {k : List Int} (h : NonZ k) : gI k (firstNZ k) ≠ 0 := by
  obtain ⟨a, b, _⟩ := firstNZ_at h
  rw [gI_get a]
  exact b
theorem restO_snoc (row : List Int) (K : List (List Int)) (k : List Int) : restO row (K ++ [k]) = if gI (restO row K) (firstNZ k) ≠ 0 then takeO (restO row K) k else restO row K := by
  unfold restO
  rw [List.foldl_append]
  rfl
theorem Ech.app_left : ∀ {A B : List (Vc × Nat)}, Ech (A ++ B) → Ech A
  | [], _, _ => trivial
  | p :: A, B, h => ⟨h.1, fun q hq => h.2.1 q (List.mem_append_left _ hq), Ech.app_left h.2.2⟩
theorem Ech.app_z : ∀ {A B : List (Vc × Nat)}, Ech (A ++ B) → ∀ p ∈ A, ∀ q ∈ B, q.1 p.2 = 0
  | x :: A, B, h, p, hp, q, hq => by
    rcases List.mem_cons.mp hp with rfl | hp
    · exact h.2.1 q (List.mem_append_right _ hq)
    · exact Ech.app_z h.2.2 p hp q hq
theorem vcI_zero {l : List Int} {j : Nat} (h : vcI l j = 0) : gI l j = 0 := Rat.intCast_eq_zero_iff.mp h
/-- what the rest of a row is, so far -/
structure RsI (w n : Nat) (row : List Int) (K : List (List Int)) (rest : List Int) : Prop where
  len : rest.length = w
  z : ∀ k ∈ K, gI rest (firstNZ k) = 0
  to : ∀ S : List Vc, Spn S (vcI row) → (∀ k ∈ K, Spn S (vcI k)) → Spn S (vcI rest)
  of : ∀ S : List Vc, Spn S (vcI rest) → (∀ k ∈ K, Spn S (vcI k)) → Spn S (vcI row)
  bd : BdI ((n + 1) * 2 ^ K.length - 1) rest
theorem rs_step {w n : Nat} {row : List Int} {K : List (List Int)} {k : List Int} (hk : KpI w n (K ++ [k])) (h : RsI w n row K (restO row K)) : RsI w n row (K ++ [k]) (restO row (K ++ [k])) := by
  have kl : k.length = w := hk.len k (by simp)
  have kz : NonZ k := hk.nz k (by simp)
  have kb : BdI ((n + 1) * 2 ^ K.length - 1) k := hk.bd K.length k (by simp)
  have e2 : (n + 1) * 2 ^ (K ++ [k]).length = (n + 1) * 2 ^ K.length + (n + 1) * 2 ^ K.length := by
    rw [List.length_append, List.length_singleton, Nat.pow_succ, ← Nat.mul_assoc]
    omega
  have z0 : ∀ j ∈ K, gI k (firstNZ j) = 0 := fun j hj => by
    have he := hk.ech
    unfold EchI at he
    rw [List.map_append] at he
    exact vcI_zero (he.app_z _ (List.mem_map.mpr ⟨j, hj, rfl⟩) (vcI k, firstNZ k) (by simp))
  rw [restO_snoc]
  by_cases c : gI (restO row K) (firstNZ k) = 0
  · rw [if_neg (by simpa using c)]
    refine ⟨h.len, fun j hj => ?_, fun S a b => h.to S a fun j hj => b j (List.mem_append_left _ hj), fun S a b => h.of S a fun j hj => b j (List.mem_append_left _ hj), h.bd.mono (by rw [e2]; omega)⟩
    rcases List.mem_append.mp hj with hj | hj
    · exact h.z j hj
    · rw [List.mem_singleton.mp hj]
      exact c
  · rw [if_pos c]
    have hl : (restO row K).length = k.length := by rw [h.len, kl]
    obtain ⟨g, g0, hg⟩ := takeO_eq hl
    have kn := lead_gI kz
    refine ⟨by rw [takeO_len hl, h.len], fun j hj => ?_, fun S a b => ?_, fun S a b => ?_, ?_⟩
    · have := hg (firstNZ j)
      rcases List.mem_append.mp hj with hj | hj
      · rw [h.z j hj, z0 j hj] at this
        have : g * gI (takeO (restO row K) k) (firstNZ j) = 0 := by rw [this]; simp
        exact (Int.mul_eq_zero.mp this).resolve_left g0
      · rw [List.mem_singleton.mp hj] at this ⊢
        have : g * gI (takeO (restO row K) k) (firstNZ k) = 0 := by rw [this, Int.mul_comm]; omega
        exact (Int.mul_eq_zero.mp this).resolve_left g0
    · have r := h.to S a fun j hj => b j (List.mem_append_left _ hj)
      exact Spn.lin (rne' g0) (fun j => rcast (hg j)) r (b k (by simp))
    · refine h.of S ?_ fun j hj => b j (List.mem_append_left _ hj)
      refine Spn.lin (a := (g : Rat)) (b := ((gI (restO row K) (firstNZ k) : Int) : Rat)) (rne' kn) (fun j => ?_) a (b k (by simp))
      have := rcast (hg j)
      show ((gI k (firstNZ k) : Int) : Rat) * ((gI (restO row K) j : Int) : Rat) = (g : Rat) * ((gI (takeO (restO row K) k) j : Int) : Rat) + _ * ((gI k j : Int) : Rat)
      rw [this]
      grind
    · have := h.bd.take kb hl
      have n1 : (n + 1) * 2 ^ K.length ≠ 0 := Nat.mul_ne_zero (by omega) (Nat.pos_iff_ne_zero.mp (Nat.pow_pos (by decide)))
      rw [e2]
      exact this.mono (by omega)
theorem kp_left {w n : Nat} {A B : List (List Int)} (h : KpI w n (A ++ B)) : KpI w n A := by
  refine ⟨fun k hk => h.len k (List.mem_append_left _ hk), fun k hk => h.nz k (List.mem_append_left _ hk), ?_, fun i k hi => h.bd i k ?_⟩
  · have := h.ech
    unfold EchI at this ⊢
    rw [List.map_append] at this
    exact this.app_left
  · obtain ⟨hl, e⟩ := List.getElem?_eq_some_iff.mp hi
    rw [List.getElem?_append_left hl, hi]
theorem rs_all {w n : Nat} {row : List Int} (hl : row.length = w) (hb : BdI n row) : ∀ (m : Nat) (K : List (List Int)), K.length = m → KpI w n K → RsI w n row K (restO row K)
  | 0, [], _, _ => ⟨hl, (fun k hk => nomatch hk), fun S a _ => a, fun S a _ => a, hb.mono (by simp)⟩
  | m + 1, K, hm, hk => by
    have hne : K ≠ [] := fun e => by rw [e] at hm; simp at hm
    have e := List.dropLast_concat_getLast hne
    rw [← e] at hk ⊢
    exact rs_step hk (rs_all hl hb m K.dropLast (by rw [List.length_dropLast]; omega) (kp_left hk))
theorem keptO_snoc (R : List (List Int)) (row : List Int) : keptO (R ++ [row]) = if (restO row (keptO R)).any (fun z => decide (z ≠ 0)) then keptO R ++ [restO row (keptO R)] else keptO R := by
  unfold keptO
  rw [List.foldl_append]
  rfl
structure KpR (w n : Nat) (R K : List (List Int)) : Prop where
  k : KpI w n K
  of : ∀ k ∈ K, Spn (R.map vcI) (vcI k)
  to : ∀ x ∈ R, Spn (K.map vcI) (vcI x)
  lt : ∀ k ∈ K, firstNZ k < w
  le : K.length ≤ R.length
theorem kp_step {w n : Nat} {R : List (List Int)} {row : List Int} (hl : row.length = w) (hb : BdI n row) (h : KpR w n R (keptO R)) : KpR w n (R ++ [row]) (keptO (R ++ [row])) := by
  have rs := rs_all hl hb _ (keptO R) rfl h.k
  have hR : ∀ v, Spn (R.map vcI) v → Spn ((R ++ [row]).map vcI) v := fun v hv => by
    rw [List.map_append]
    exact hv.app
  have hrow : Spn ((R ++ [row]).map vcI) (vcI row) := .mem (List.mem_map.mpr ⟨row, by simp, rfl⟩)
  rw [keptO_snoc]
  by_cases c : (restO row (keptO R)).any (fun z => decide (z ≠ 0)) = true
  · rw [if_pos c]
    have nz : NonZ (restO row (keptO R)) := c
    have hK : ∀ v, Spn ((keptO R).map vcI) v → Spn ((keptO R ++ [restO row (keptO R)]).map vcI) v := fun v hv => by
      rw [List.map_append]
      exact hv.app
    have hrest : Spn ((keptO R ++ [restO row (keptO R)]).map vcI) (vcI (restO row (keptO R))) := .mem (List.mem_map.mpr ⟨_, by simp, rfl⟩)
    have hkk : ∀ k ∈ keptO R, Spn ((keptO R ++ [restO row (keptO R)]).map vcI) (vcI k) := fun k hk => .mem (List.mem_map.mpr ⟨k, by simp [hk], rfl⟩)
    refine ⟨⟨fun k hk => ?_, fun k hk => ?_, ?_, fun i k hi => ?_⟩, fun k hk => ?_, fun x hx => ?_, fun k hk => ?_, by simp; exact h.le⟩
    · rcases List.mem_append.mp hk with hk | hk
      · exact h.k.len k hk
      · rw [List.mem_singleton.mp hk]; exact rs.len
    · rcases List.mem_append.mp hk with hk | hk
      · exact h.k.nz k hk
      · rw [List.mem_singleton.mp hk]; exact nz
    · show Ech _
      rw [List.map_append]
      refine Ech.snoc h.k.ech ?_ fun q hq => ?_
      · exact rne' (lead_gI nz)
      · obtain ⟨k, hk, rfl⟩ := List.mem_map.mp hq
        show vcI (restO row (keptO R)) (firstNZ k) = 0
        unfold vcI
        rw [rs.z k hk]
        rfl
    · rcases Nat.lt_or_ge i (keptO R).length with hi2 | hi2
      · rw [List.getElem?_append_left hi2] at hi
        exact h.k.bd i k hi
      · rw [List.getElem?_append_right hi2] at hi
        have e : i - (keptO R).length = 0 := by
          have := (List.getElem?_eq_some_iff.mp hi).1
          simp at this
          omega
        rw [e] at hi
        have e2 : i = (keptO R).length := by omega
        rw [e2, ← Option.some.inj hi]
        exact rs.bd
    · rcases List.mem_append.mp hk with hk | hk
      · exact hR _ (h.of k hk)
      · rw [List.mem_singleton.mp hk]
        exact rs.to _ hrow fun k hk => hR _ (h.of k hk)
    · rcases List.mem_append.mp hx with hx | hx
      · exact hK _ (h.to x hx)
      · rw [List.mem_singleton.mp hx]
        exact rs.of _ hrest hkk
    · rcases List.mem_append.mp hk with hk | hk
      · exact h.lt k hk
      · rw [List.mem_singleton.mp hk, ← rs.len]
        obtain ⟨a, _, _⟩ := firstNZ_at nz
        exact (List.getElem?_eq_some_iff.mp a).1
  · rw [if_neg c]
    refine ⟨h.k, fun k hk => hR _ (h.of k hk), fun x hx => ?_, h.lt, by simp; have := h.le; omega⟩
    rcases List.mem_append.mp hx with hx | hx
    · exact h.to x hx
    · rw [List.mem_singleton.mp hx]
      refine rs.of _ (.zero _ fun j => ?_) fun k hk => .mem (List.mem_map.mpr ⟨k, hk, rfl⟩)
      show ((gI (restO row (keptO R)) j : Int) : Rat) = 0
      have : gI (restO row (keptO R)) j = 0 := Classical.byContradiction fun hz => c (List.any_eq_true.mpr ⟨_, gI_mem hz, decide_eq_true hz⟩)
      rw [this]
      rfl
theorem kp_all {w n : Nat} : ∀ (m : Nat) (R : List (List Int)), R.length = m → (∀ x ∈ R, x.length = w ∧ BdI n x) → KpR w n R (keptO R)
  | 0, [], _, _ => ⟨⟨(fun k hk => nomatch hk), (fun k hk => nomatch hk), trivial, fun i k hi => by simp [keptO] at hi⟩, (fun k hk => nomatch hk), (fun k hk => nomatch hk), (fun k hk => nomatch hk), Nat.le_refl _⟩
  | m + 1, R, hm, h => by
    have hne : R ≠ [] := fun e => by rw [e] at hm; simp at hm
    have e := List.dropLast_concat_getLast hne
    rw [← e] at h ⊢
    have hl := h (R.getLast hne) (by simp)
    exact kp_step hl.1 hl.2 (kp_all m R.dropLast (by rw [List.length_dropLast]; omega) fun x hx => h x (List.mem_append_left _ hx))
/-- the program's rank is how many rows count -/
theorem rk_kept {w n : Nat} {R : List (List Int)} (h : ∀ x ∈ R, x.length = w ∧ BdI n x) : Rk (R.map vcI) w (keptO R).length := by
  have k := kp_all _ R rfl h
  have := rk_of (R := R.map vcI) (w := w) (L := (keptO R).map fun k => (vcI k, firstNZ k)) k.k.ech (fun q hq => by
    obtain ⟨x, hx, rfl⟩ := List.mem_map.mp hq
    exact k.lt x hx) (fun q hq => by
    obtain ⟨x, hx, rfl⟩ := List.mem_map.mp hq
    exact k.of x hx) fun x hx => by
    obtain ⟨y, hy, rfl⟩ := List.mem_map.mp hx
    rw [List.map_map]
    exact k.to y hy
  rwa [List.length_map] at this
end SB
namespace SB
/-! ### the law's way: the greatest part that is not 0 -/
def sgI : Nat → Int
  | 0 => 1
  | k + 1 => - sgI k
def altZ (f : Nat → Int) : Nat → Int
  | 0 => 0
  | k + 1 => altZ f k + sgI k * f k
def altR (f : Nat → Rat) : Nat → Rat
  | 0 => 0
  | k + 1 => altR f k + (sgI k : Rat) * f k
theorem altR_succ (f : Nat → Rat) : ∀ n, altR f (n + 1) = f 0 - altR (fun j => f (j + 1)) n
  | 0 => by
    show 0 + ((1 : Int) : Rat) * f 0 = f 0 - 0
    grind
  | n + 1 => by
    show altR f (n + 1) + ((- sgI n : Int) : Rat) * f (n + 1) = f 0 - (altR (fun j => f (j + 1)) n + (sgI n : Rat) * f (n + 1))
    rw [altR_succ f n, Rat.intCast_neg]
    grind
theorem altR_cast (f : Nat → Int) : ∀ n, ((altZ f n : Int) : Rat) = altR (fun j => (f j : Rat)) n
  | 0 => rfl
  | n + 1 => by
    show ((altZ f n + sgI n * f n : Int) : Rat) = altR _ n + (sgI n : Rat) * (f n : Rat)
    rw [Rat.intCast_add, Rat.intCast_mul, altR_cast f n]
theorem altR_congr {f g : Nat → Rat} : ∀ {n : Nat}, (∀ j, j < n → f j = g j) → altR f n = altR g n
  | 0, _ => rfl
  | n + 1, h => by
    show altR f n + _ * f n = altR g n + _ * g n
    rw [altR_congr fun j hj => h j (Nat.lt_succ_of_lt hj), h n (Nat.lt_succ_self n)]
theorem iotR_sum (u : Vc) : ∀ (cols : List Nat) (g : FmR), iotR u g cols = altR (fun j => u (cols.getD j 0) * g (cols.eraseIdx j)) cols.length
  | [], _ => rfl
  | c :: cs, g => by
    show u c * g cs - iotR u (fun l => g (c :: l)) cs = altR _ (cs.length + 1)
    rw [altR_succ, iotR_sum u cs]
    rfl
def cutR (j : Nat) (l : List Int) : List Int := l.take j ++ l.drop (j + 1)
theorem cutR_map (v : Nat → Int) (cols : List Nat) (j : Nat) : cutR j (cols.map v) = (cols.eraseIdx j).map v := by
  unfold cutR
  rw [List.eraseIdx_eq_take_drop_succ, List.map_append, List.map_take, List.map_drop]
def lsN : Nat → List (List Int) → Int
  | 0, _ => 1
  | n + 1, rows => altZ (fun j => gI (rows.headD []) j * lsN n (rows.tail.map (cutR j))) (n + 1)
def cV (v : Nat → Int) : Vc := fun j => (v j : Rat)
theorem ls_dt : ∀ (n : Nat) (P : List (Nat → Int)) (cols : List Nat), P.length = n → cols.length = n → ((lsN n (P.map fun v => cols.map v) : Int) : Rat) = dt (P.map cV) cols
  | 0, [], _, _, _ => rfl
  | n + 1, v :: P, cols, hp, hc => by
    show ((altZ (fun j => gI (cols.map v) j * lsN n ((P.map fun v => cols.map v).map (cutR j))) (n + 1) : Int) : Rat) = iotR (cV v) (dt (P.map cV)) cols
    rw [altR_cast, iotR_sum, hc]
    refine altR_congr fun j hj => ?_
    have e1 : gI (cols.map v) j = v (cols.getD j 0) := by
      have hj2 : j < cols.length := by omega
      unfold gI
      rw [List.getD_eq_getElem?_getD, List.getD_eq_getElem?_getD, List.getElem?_map, List.getElem?_eq_getElem hj2]
      rfl
    have e2 : (P.map fun v => cols.map v).map (cutR j) = P.map fun v => (cols.eraseIdx j).map v := by
      rw [List.map_map]
      exact List.map_congr_left fun v _ => cutR_map v cols j
    rw [e1, e2, Rat.intCast_mul, ls_dt n P (cols.eraseIdx j) (by simpa using hp) (by rw [List.length_eraseIdx, if_pos (by omega)]; omega)]
    rfl
/-- one further, from the last on -/
def nextP (many : Nat) (p : List Nat) : List (List Nat) :=
  let b := match p.getLast? with
    | some x => x + 1
    | none => 0
  (List.range (many - b)).map fun t => p ++ [b + t]
def pk (many : Nat) : Nat → List (List Nat)
  | 0 => [[]]
  | s + 1 => (pk many s).flatMap (nextP many)
theorem nextP_mem {many : Nat} {p q : List Nat} : q ∈ nextP many p ↔ ∃ j, q = p ++ [j] ∧ j < many ∧ ∀ x, p.getLast? = some x → x < j := by
  unfold nextP
  dsimp only
  cases h : p.getLast? with
  | none =>
    constructor
    · intro m
      obtain ⟨t, ht, rfl⟩ := List.mem_map.mp m
      exact ⟨_, rfl, by have := List.mem_range.mp ht; omega, fun x e => by cases e⟩
    · rintro ⟨j, rfl, hj, _⟩
      exact List.mem_map.mpr ⟨j, List.mem_range.mpr (by omega), by rw [Nat.zero_add]⟩
  | some y =>
    dsimp only
    constructor
    · intro m
      obtain ⟨t, ht, rfl⟩ := List.mem_map.mp m
      exact ⟨_, rfl, by have := List.mem_range.mp ht; omega, fun x e => by cases e; omega⟩
    · rintro ⟨j, rfl, hj, hx⟩
      have := hx y rfl
      exact List.mem_map.mpr ⟨j - (y + 1), List.mem_range.mpr (by omega), by rw [show y + 1 + (j - (y + 1)) = j by omega]⟩
theorem pk_ok {many : Nat} : ∀ (s : Nat) {p : List Nat}, p ∈ pk many s → p.length = s ∧ p.Pairwise (· < ·) ∧ ∀ x ∈ p, x < many
  | 0, p, h => by
    rw [List.mem_singleton.mp h]
    exact ⟨rfl, .nil, fun x hx => by cases hx⟩
  | s + 1, p, h => by
    obtain ⟨q, hq, hp⟩ := List.mem_flatMap.mp h
    obtain ⟨a, b, c⟩ := pk_ok s hq
    obtain ⟨j, rfl, hj, hx⟩ := nextP_mem.mp hp
    refine ⟨by simp [a], List.pairwise_append.mpr ⟨b, List.pairwise_singleton .., fun x hxq y hy => ?_⟩, fun x hx2 => ?_⟩
    · rw [List.mem_singleton.mp hy]
      rcases List.eq_nil_or_concat q with rfl | ⟨r, z, rfl⟩
      · cases hxq
      · rw [List.concat_eq_append] at hxq hx b
        have hz := hx z (by simp)
        rcases List.mem_append.mp hxq with h1 | h1
        · have := (List.pairwise_append.mp b).2.2 x h1 z (by simp)
          omega
        · rw [List.mem_singleton.mp h1]
          exact hz
    · rcases List.mem_append.mp hx2 with h1 | h1
      · exact c x h1
      · rw [List.mem_singleton.mp h1]
        exact hj
theorem pk_mem {many : Nat} : ∀ (s : Nat) {p : List Nat}, p.length = s → p.Pairwise (· < ·) → (∀ x ∈ p, x < many) → p ∈ pk many s
  | 0, p, h, _, _ => by
    rw [List.length_eq_zero_iff.mp h]
    exact List.mem_singleton.mpr rfl
  | s + 1, p, h, hp, hm => by
    rcases List.eq_nil_or_concat p with rfl | ⟨r, z, rfl⟩
    · simp at h
    · rw [List.concat_eq_append] at *
      have a := List.pairwise_append.mp hp
      refine List.mem_flatMap.mpr ⟨r, pk_mem s (by simpa using h) a.1 fun x hx => hm x (List.mem_append_left _ hx), nextP_mem.mpr ⟨z, rfl, hm z (by simp), fun x hx => a.2.2 x (List.mem_of_getLast? hx) z (by simp)⟩⟩
/-- the part of rows at picked places -/
def partM (rows : List (List Int)) (pick cols : List Nat) : List (List Int) := pick.map fun i => cols.map fun j => gI (rows.getD i []) j
theorem part_dt {rows : List (List Int)} {pick cols : List Nat} {s : Nat} (h1 : pick.length = s) (h2 : cols.length = s) : ((lsN s (partM rows pick cols) : Int) : Rat) = dt (pick.map fun i => vcI (rows.getD i [])) cols := by
  have := ls_dt s (pick.map fun i j => gI (rows.getD i []) j) cols (by rw [List.length_map, h1]) h2
  rw [List.map_map, List.map_map] at this
  exact this
theorem asc_lo : ∀ (cols : List Nat) (lo n : Nat), cols.Pairwise (· < ·) → (∀ c ∈ cols, lo ≤ c ∧ c < n) → cols.length ≤ n - lo
  | [], _, _, _, _ => Nat.zero_le _
  | c :: cs, lo, n, h1, h2 => by
    have a := List.pairwise_cons.mp h1
    have b := h2 c (List.mem_cons_self ..)
    have := asc_lo cs (c + 1) n a.2 fun x hx => ⟨a.1 x hx, (h2 x (List.mem_cons_of_mem _ hx)).2⟩
    rw [List.length_cons]
    omega
theorem asc_le {n : Nat} {cols : List Nat} (h1 : cols.Pairwise (· < ·)) (h2 : ∀ c ∈ cols, c < n) : cols.length ≤ n := asc_lo cols 0 n h1 fun c hc => ⟨Nat.zero_le _, h2 c hc⟩
/-- what the law finds is how many rows count -/
theorem lrk_is {rows : List (List Int)} {wide r r' : Nat} (h : Rk (rows.map vcI) wide r') (h1 : r ≤ min rows.length wide)
    (h2 : ∀ s, r < s → s ≤ min rows.length wide → ∀ pick ∈ pk rows.length s, ∀ cols ∈ pk wide s, lsN s (partM rows pick cols) = 0)
    (h3 : r ≠ 0 → ∃ pick ∈ pk rows.length r, ∃ cols ∈ pk wide r, lsN r (partM rows pick cols) ≠ 0) : r = r' := by
  obtain ⟨P, cols, p1, p2, c1, c2, c3, hd⟩ := h.at'
  have w1 : r' ≤ rows.length := by
    have := p1.length_le
    rw [List.length_map] at this
    omega
  have w2 : r' ≤ wide := by
    have := asc_le c2 c3
    omega
  rcases Nat.lt_trichotomy r r' with hlt | he | hlt
  · exfalso
    obtain ⟨is, e, hs⟩ := List.sublist_eq_map_getElem p1
    let pick := is.map fun i => i.val
    have pe : P = pick.map fun i => vcI (rows.getD i []) := by
      rw [e]
      show _ = (is.map _).map _
      rw [List.map_map]
      refine List.map_congr_left fun i _ => ?_
      have hi : i.val < rows.length := Nat.lt_of_lt_of_eq i.isLt (List.length_map ..)
      show (rows.map vcI)[i.val] = vcI (rows.getD i.val [])
      rw [List.getElem_map, List.getD_eq_getElem?_getD, List.getElem?_eq_getElem hi]
      rfl
    have pl : pick.length = r' := by
      have := congrArg List.length pe
      rw [List.length_map, p2] at this
      exact this.symm
    have pm : pick ∈ pk rows.length r' := pk_mem r' pl (List.pairwise_map.mpr (hs.imp fun h => h)) fun x hx => by
      obtain ⟨i, _, rfl⟩ := List.mem_map.mp hx
      exact Nat.lt_of_lt_of_eq i.isLt (List.length_map ..)
    have z := h2 r' hlt (by omega) pick pm cols (pk_mem r' c1 c2 c3)
    have := part_dt (rows := rows) pl c1
    rw [z, ← pe] at this
    exact hd this.symm
  · exact he
  · exfalso
    obtain ⟨pick, pm, cols', cm, hz⟩ := h3 (by omega)
    obtain ⟨a1, _, a3⟩ := pk_ok r pm
    obtain ⟨b1, _, _⟩ := pk_ok r cm
    have := part_dt (rows := rows) a1 b1
    rw [h.up _ cols' (by rw [List.length_map, a1]; exact hlt) fun q hq => by
      obtain ⟨i, hi, rfl⟩ := List.mem_map.mp hq
      have hl := a3 i hi
      rw [List.getD_eq_getElem?_getD, List.getElem?_eq_getElem hl]
      exact List.mem_map.mpr ⟨_, List.getElem_mem hl, rfl⟩] at this
    exact hz (Rat.intCast_eq_zero_iff.mp this)
end SB
namespace SB
/-! ### where all meet -/
structure MtI (R : List Vc) (kept : List (Vc × Nat)) (rows : List Vc) (j : Nat) : Prop where
  ech : Ech kept
  spk : ∀ q ∈ kept, Spn R q.1
  spr : ∀ x ∈ rows, Spn R x
  zr : ∀ x ∈ rows, ∀ i, i < j → x i = 0
  lt : ∀ q ∈ kept, q.2 < j
  back : ∀ x ∈ R, Spn (kept.map (·.1) ++ rows) x
theorem MtI.start (R : List Vc) : MtI R [] R 0 := ⟨trivial, (fun q hq => nomatch hq), (fun x hx => Spn.mem hx), (fun x _ i hi => absurd hi (Nat.not_lt_zero i)), (fun q hq => nomatch hq), (fun x hx => Spn.mem hx)⟩
theorem MtI.skip {R : List Vc} {kept : List (Vc × Nat)} {rows : List Vc} {j : Nat} (h : MtI R kept rows j) (hz : ∀ x ∈ rows, x j = 0) : MtI R kept rows (j + 1) :=
  ⟨h.ech, h.spk, h.spr, fun x hx i hi => by
    rcases Nat.lt_succ_iff_lt_or_eq.mp hi with h1 | rfl
    · exact h.zr x hx i h1
    · exact hz x hx, fun q hq => Nat.lt_succ_of_lt (h.lt q hq), h.back⟩
def lessV (x lead : Vc) (j : Nat) : Vc := fun i => x i + (- x j / lead j) * lead i
theorem lessV_at {x lead : Vc} {j : Nat} (h : lead j ≠ 0) : lessV x lead j j = 0 := by
  show x j + (- x j / lead j) * lead j = 0
  rw [Rat.div_def, Rat.mul_assoc, Rat.inv_mul_cancel _ h]
  grind
theorem lessV_sp {S : List Vc} {x lead : Vc} {j : Nat} (hx : Spn S x) (hl : Spn S lead) : Spn S (lessV x lead j) :=
  Spn.lin (a := 1) (b := - x j / lead j) (c := 1) (by decide) (fun i => by show 1 * (x i + _) = _; grind) hx hl
theorem lessV_of {S : List Vc} {x lead : Vc} {j : Nat} (hx : Spn S (lessV x lead j)) (hl : Spn S lead) : Spn S x :=
  Spn.lin (a := 1) (b := x j / lead j) (c := 1) (by decide) (fun i => by
    show 1 * x i = 1 * (x i + (- x j / lead j) * lead i) + x j / lead j * lead i
    rw [Rat.div_def, Rat.div_def]
    grind) hx hl
theorem MtI.step {R : List Vc} {kept : List (Vc × Nat)} {rows : List Vc} {j : Nat} {lead : Vc} (h : MtI R kept rows j) (hm : lead ∈ rows) (hn : lead j ≠ 0) : MtI R (kept ++ [(lead, j)]) (rows.map fun x => lessV x lead j) (j + 1) := by
  refine ⟨h.ech.snoc hn fun q hq => h.zr lead hm _ (h.lt q hq), fun q hq => ?_, fun x hx => ?_, fun x hx i hi => ?_, fun q hq => ?_, fun x hx => ?_⟩
  · rcases List.mem_append.mp hq with hq | hq
    · exact h.spk q hq
    · rw [List.mem_singleton.mp hq]
      exact h.spr lead hm
  · obtain ⟨y, hy, rfl⟩ := List.mem_map.mp hx
    exact lessV_sp (h.spr y hy) (h.spr lead hm)
  · obtain ⟨y, hy, rfl⟩ := List.mem_map.mp hx
    rcases Nat.lt_succ_iff_lt_or_eq.mp hi with h1 | rfl
    · show y i + _ * lead i = 0
      rw [h.zr y hy i h1, h.zr lead hm i h1]
      grind
    · exact lessV_at hn
  · rcases List.mem_append.mp hq with hq | hq
    · exact Nat.lt_succ_of_lt (h.lt q hq)
    · rw [List.mem_singleton.mp hq]
      exact Nat.lt_succ_self j
  · refine (h.back x hx).trans fun y hy => ?_
    have hl : Spn ((kept ++ [(lead, j)]).map (·.1) ++ rows.map fun x => lessV x lead j) lead := .mem (by simp)
    rcases List.mem_append.mp hy with hy | hy
    · exact .mem (by
        rw [List.map_append]
        exact List.mem_append_left _ (List.mem_append_left _ hy))
    · exact lessV_of (.mem (List.mem_append_right _ (List.mem_map.mpr ⟨y, hy, rfl⟩))) hl
/-- the first d places alone -/
def cutV' (d : Nat) (v : Vc) : Vc := fun i => if i < d then v i else 0
theorem mixV_cut (d : Nat) : ∀ (cs : List Rat) (K : List Vc) (j : Nat), mixV cs (K.map (cutV' d)) j = cutV' d (mixV cs K) j
  | [], K, j => by
    unfold cutV'
    cases K <;> (show (0 : Rat) = if j < d then 0 else 0) <;> split <;> rfl
  | c :: cs, [], j => by
    unfold cutV'
    show (0 : Rat) = if j < d then 0 else 0
    split <;> rfl
  | c :: cs, k :: K, j => by
    show c * cutV' d k j + mixV cs (K.map (cutV' d)) j = cutV' d (mixV (c :: cs) (k :: K)) j
    rw [mixV_cut d cs K j]
    unfold cutV'
    split
    · rfl
    · grind
theorem Spn.cut {K : List Vc} {v : Vc} (d : Nat) (h : Spn K v) : Spn (K.map (cutV' d)) (cutV' d v) := by
  obtain ⟨a, a0, cs, h1, h2⟩ := h
  refine ⟨a, a0, cs, by rw [List.length_map, h1], fun j => ?_⟩
  rw [mixV_cut]
  unfold cutV'
  split
  · exact h2 j
  · exact Rat.mul_zero a
theorem MtI.zero {R : List Vc} {kept : List (Vc × Nat)} {rows : List Vc} {d w v r : Nat} (h : MtI R kept rows d) (hf : Rk R w r) (hs : Rk (R.map (cutV' d)) v r) : ∀ x ∈ rows, x d = 0 := fun x hx => Classical.byContradiction fun hn => by
  have e : Ech (kept ++ [(x, d)]) := h.ech.snoc hn fun q hq => h.zr x hx _ (h.lt q hq)
  have a := hf.ech_le e fun q hq => by
    rcases List.mem_append.mp hq with hq | hq
    · exact h.spk q hq
    · rw [List.mem_singleton.mp hq]
      exact h.spr x hx
  obtain ⟨P, c, p1, p2, _, _, _, p3⟩ := hs.at'
  have b : ¬ (kept.map fun q => cutV' d q.1).length < P.length := fun hl => p3 (dt_more _ P c hl fun q hq => by
    obtain ⟨y, hy, rfl⟩ := List.mem_map.mp (p1.subset hq)
    refine ((h.back y hy).cut d).trans fun z hz => ?_
    rw [List.map_append, List.map_map] at hz
    rcases List.mem_append.mp hz with hz | hz
    · exact .mem hz
    · obtain ⟨t, ht, rfl⟩ := List.mem_map.mp hz
      refine .zero _ fun j => ?_
      unfold cutV'
      split
      · rename_i hj
        exact h.zr t ht j hj
      · rfl)
  rw [List.length_map] at b
  rw [List.length_append, List.length_singleton] at a
  omega
/-- v at a point, less its wall -/
def sumQ (d : Nat) (v spot : Vc) : Rat := match d with
  | 0 => 0
  | d + 1 => sumQ d v spot + v d * spot d
def offQ (d : Nat) (v spot : Vc) : Rat := sumQ d v spot - v d
theorem sumQ_lin (a b : Rat) (u v spot : Vc) : ∀ d, sumQ d (fun j => a * u j + b * v j) spot = a * sumQ d u spot + b * sumQ d v spot
  | 0 => by show (0 : Rat) = a * 0 + b * 0; grind
  | d + 1 => by
    show sumQ d _ spot + (a * u d + b * v d) * spot d = a * (sumQ d u spot + u d * spot d) + b * (sumQ d v spot + v d * spot d)
    rw [sumQ_lin a b u v spot d]
    grind
theorem sumQ_congr {u v spot spot' : Vc} : ∀ {d : Nat}, (∀ j, j < d → u j * spot j = v j * spot' j) → sumQ d u spot = sumQ d v spot'
  | 0, _ => rfl
  | d + 1, h => by
    show sumQ d u spot + u d * spot d = sumQ d v spot' + v d * spot' d
    rw [sumQ_congr fun j hj => h j (Nat.lt_succ_of_lt hj), h d (Nat.lt_succ_self d)]
theorem offQ_zero (d : Nat) (spot v : Vc) (h : ∀ j, v j = 0) : offQ d v spot = 0 := by
  have : sumQ d v spot = 0 := by
    induction d with
    | zero => rfl
    | succ d ih =>
      show sumQ d v spot + v d * spot d = 0
      rw [ih, h d]
      grind
  unfold offQ
  rw [this, h d]
  grind
theorem offQ_mix (d : Nat) (spot : Vc) : ∀ (K : List Vc) (cs : List Rat), (∀ k ∈ K, offQ d k spot = 0) → offQ d (mixV cs K) spot = 0
  | [], cs, _ => offQ_zero d spot _ fun j => by cases cs <;> rfl
  | k :: K, [], _ => offQ_zero d spot _ fun j => rfl
  | k :: K, c :: cs, h => by
    have e : mixV (c :: cs) (k :: K) = fun j => c * k j + 1 * mixV cs K j := funext fun j => by show _ + _ = _; rw [Rat.one_mul]
    have a := h k (List.mem_cons_self ..)
    have b := offQ_mix d spot K cs fun x hx => h x (List.mem_cons_of_mem _ hx)
    unfold offQ at a b ⊢
    rw [e, sumQ_lin]
    show c * sumQ d k spot + 1 * sumQ d (mixV cs K) spot - (c * k d + 1 * mixV cs K d) = 0
    grind
theorem offQ_of {d : Nat} {spot v : Vc} {K : List Vc} (h : Spn K v) (hk : ∀ k ∈ K, offQ d k spot = 0) : offQ d v spot = 0 := by
  obtain ⟨a, a0, cs, _, h2⟩ := h
  have b := offQ_mix d spot K cs hk
  rw [← show (fun j => a * v j + 0 * v j) = mixV cs K from funext fun j => by rw [← h2 j]; grind] at b
  unfold offQ at b ⊢
  rw [sumQ_lin] at b
  have : a * (sumQ d v spot - v d) = 0 := by grind
  exact (Rat.mul_eq_zero.mp this).resolve_left a0
/-- all that is kept is met, so all is -/
theorem MtI.meets {R : List Vc} {kept : List (Vc × Nat)} {rows : List Vc} {d w v r : Nat} {spot : Vc} (h : MtI R kept rows d) (hf : Rk R w r) (hs : Rk (R.map (cutV' d)) v r) (hw : ∀ x ∈ rows, ∀ i, d < i → x i = 0) (hm : ∀ q ∈ kept, offQ d q.1 spot = 0) : ∀ x ∈ R, offQ d x spot = 0 := fun x hx => offQ_of (h.back x hx) fun k hk => by
  rcases List.mem_append.mp hk with hk | hk
  · obtain ⟨q, hq, rfl⟩ := List.mem_map.mp hk
    exact hm q hq
  · refine offQ_zero d spot k fun j => ?_
    rcases Nat.lt_trichotomy j d with hj | rfl | hj
    · exact h.zr k hk j hj
    · exact h.zero hf hs k hk
    · exact hw k hk j hj
/-- one place told by one row -/
def setQ (spot : Vc) (j : Nat) (z : Rat) : Vc := fun i => if i = j then z else spot i
theorem sumQ_set {v spot : Vc} {j : Nat} {z : Rat} : ∀ {d : Nat}, j < d → sumQ d v (setQ spot j z) = sumQ d v (setQ spot j 0) + v j * z
  | d + 1, h => by
    show sumQ d v (setQ spot j z) + v d * setQ spot j z d = sumQ d v (setQ spot j 0) + v d * setQ spot j 0 d + v j * z
    rcases Nat.lt_succ_iff_lt_or_eq.mp h with h1 | rfl
    · rw [sumQ_set h1]
      have e1 : setQ spot j z d = spot d := if_neg (by omega)
      have e2 : setQ spot j 0 d = spot d := if_neg (by omega)
      rw [e1, e2]
      grind
    · have e1 : setQ spot j z j = z := if_pos rfl
      have e2 : setQ spot j 0 j = 0 := if_pos rfl
      have e3 : sumQ j v (setQ spot j z) = sumQ j v (setQ spot j 0) := sumQ_congr fun i hi => by
        unfold setQ
        rw [if_neg (by omega), if_neg (by omega)]
      rw [e1, e2, e3]
      grind
theorem off_set {d j : Nat} {v spot : Vc} (hj : j < d) (hn : v j ≠ 0) : offQ d v (setQ spot j ((v d - sumQ d v (setQ spot j 0)) / v j)) = 0 := by
  unfold offQ
  rw [sumQ_set hj, Rat.div_def, Rat.mul_comm (v j), Rat.mul_assoc, Rat.inv_mul_cancel _ hn]
  grind
theorem off_keep {d j : Nat} {v spot : Vc} {z : Rat} (hn : v j = 0) (h : offQ d v spot = 0) : offQ d v (setQ spot j z) = 0 := by
  unfold offQ at h ⊢
  rw [sumQ_congr (v := v) (spot' := spot) fun i hi => ?_]
  · exact h
  · unfold setQ
    split
    · rename_i e
      rw [e, hn]
      grind
    · rfl
end SB
namespace SB
open PySem L2 GxR GA RZ
/-! ### rows of numbers, lists or tuples -/
def SqE (K : PySem.W.Frag) (H : Hp) (a : Addr) (xs : List V) : Prop := SqL K H a xs ∨ SqT K H a xs
theorem SqE.gr {K : PySem.W.Frag} {H H' : Hp} {a : Addr} {xs : List V} (h : SqE K H a xs) (g : Gr H H') : SqE K H' a xs := h.imp (fun z => g.seqL z) fun z => g.seqT z
def SiE (K : PySem.W.Frag) (H : Hp) (x : V) (ns : List Int) : Prop := ∃ a, x = .ref a ∧ SqE K H a (ns.map V.int)
theorem SiE.gr {K : PySem.W.Frag} {H H' : Hp} {x : V} {ns : List Int} (h : SiE K H x ns) (g : Gr H H') : SiE K H' x ns := by
  obtain ⟨a, e, s⟩ := h
  exact ⟨a, e, s.gr g⟩
theorem fn_or {P : Program} {w : World} {K : PySem.W.Frag} {mg : Str → Option Value} {base : Heap} {CX : CXT} {k : Nat} {f : Addr} {fd : FuncData} {ps : List Str} {sp sp2 : Sp} (F : FnOk P w K mg base CX k f fd ps sp) (G : FnOk P w K mg base CX k f fd ps sp2) : FnOk P w K mg base CX k f fd ps (fun vs H Q E => sp vs H Q E ∨ sp2 vs H Q E) :=
  ⟨fun vs H Q E h => h.elim (F.len vs H Q E) (G.len vs H Q E), fun A outer s H args us vs Q E hr e b r h => h.elim (F.run A outer s H args us vs Q E hr e b r) (G.run A outer s H args us vs Q E hr e b r)⟩
section
variable {X : Cx}
def rAnyL (K : PySem.W.Frag) : List V → Hp → VK → Prop := fun vs H Q => ∃ (a : Addr) (ns : List Int), vs = [V.ref a] ∧ SqL K H a (ns.map V.int) ∧ Q (.bl (ns.any fun z => decide (z ≠ 0))) H
theorem cr_anyL (hc : X.calm = true) : CallR X (.builtin "any") (rAnyL X.K) := by
  intro pins s σ H vs us Q I r h
  obtain ⟨a, ns, rfl, hs, q⟩ := h
  obtain ⟨its, rv, hl, _⟩ := I.list hs
  rw [Vals.ref1 r]
  refine PySem.call_any_walk (iter_any hl.isList fun s₂ e2 st hne => ?_)
  subst e2
  refine ⟨_, _, _, _, _, _, _, rfl, PySem.Walks.list (A := X.A.in1) (I.ok.hd hc) _ a hne its.toArray, st, truth_ints rv, fun h' tk hk => ?_⟩
  refine ⟨.bl _, H, I.kept fun b o eo => hk b o (fun hmem => ?_) (Heap.get?_push_of_some _ eo), ?_, q⟩
  · rcases List.mem_cons.mp hmem with e1 | hmem
    · exact absurd (e1 ▸ Heap.lt_size eo) (Nat.lt_irrefl _)
    · cases hmem
  · show Value.bool _ = Value.bool _
    have hl2 := Vals.length rv
    rw [List.length_map] at hl2
    rw [← any_ints, List.size_toArray, hl2]
theorem cr_anyE (hc : X.calm = true) : CallR X (.builtin "any") (fun vs H Q => ∃ (a : Addr) (ns : List Int), vs = [V.ref a] ∧ SqE X.K H a (ns.map V.int) ∧ Q (.bl (ns.any fun z => decide (z ≠ 0))) H) := by
  intro pins s σ H vs us Q I r h
  obtain ⟨a, ns, e, hs, q⟩ := h
  rcases hs with hs | hs
  · exact cr_anyL hc pins s σ H vs us Q I r ⟨a, ns, e, hs, q⟩
  · exact cr_anyT hc pins s σ H vs us Q I r ⟨a, ns, e, hs, q⟩
end
/-- an iterator over two rows side by side -/
structure ZipIt (J : It) (xs zs : List V) (H1 : Hp) : Prop where
  stop : ∀ H, Gr H1 H → J.stop xs.length H
  go : ∀ H i, Gr H1 H → i < xs.length → J.go i H
  yld : ∀ H i v H', Gr H1 H → J.yld i H v H' → ∃ T x y, v = .ref T ∧ H T = none ∧ H' = upd H T (.tup [x, y]) ∧ xs[i]? = some x ∧ zs[i]? = some y
theorem zi_TT {K : PySem.W.Frag} {a b : Addr} {xs zs : List V} {H1 : Hp} (hl : xs.length = zs.length) (ha : SqT K H1 a xs) (hb : SqT K H1 b zs) : ZipIt (ItzT K a b) xs zs H1 :=
  ⟨fun H g => ⟨xs, zs, g.seqT ha, g.seqT hb, .inl (Nat.le_refl _)⟩, fun H i g hi => ⟨xs, zs, xs[i], zs[i]'(by omega), g.seqT ha, g.seqT hb, List.getElem?_eq_getElem hi, List.getElem?_eq_getElem (by omega)⟩, fun H i v H' g hy => by
    obtain ⟨T, x, y, e1, nT, e2, hx, hz⟩ := hy
    exact ⟨T, x, y, e1, nT, e2, hx xs (g.seqT ha), hz zs (g.seqT hb)⟩⟩
theorem zi_TL {K : PySem.W.Frag} {a b : Addr} {xs zs : List V} {H1 : Hp} (hl : xs.length = zs.length) (ha : SqT K H1 a xs) (hb : SqL K H1 b zs) : ZipIt (ZM.ItzM K a b) xs zs H1 :=
  ⟨fun H g => ⟨xs, zs, g.seqT ha, g.seqL hb, .inl (Nat.le_refl _)⟩, fun H i g hi => ⟨xs, zs, xs[i], zs[i]'(by omega), g.seqT ha, g.seqL hb, List.getElem?_eq_getElem hi, List.getElem?_eq_getElem (by omega)⟩, fun H i v H' g hy => by
    obtain ⟨T, x, y, e1, nT, e2, hx, hz⟩ := hy
    exact ⟨T, x, y, e1, nT, e2, hx xs (g.seqT ha), hz zs (g.seqL hb)⟩⟩
theorem zi_LT {K : PySem.W.Frag} {a b : Addr} {xs zs : List V} {H1 : Hp} (hl : xs.length = zs.length) (ha : SqL K H1 a xs) (hb : SqT K H1 b zs) : ZipIt (ZL.ItzL K a b) xs zs H1 :=
  ⟨fun H g => ⟨xs, zs, g.seqL ha, g.seqT hb, .inl (Nat.le_refl _)⟩, fun H i g hi => ⟨xs, zs, xs[i], zs[i]'(by omega), g.seqL ha, g.seqT hb, List.getElem?_eq_getElem hi, List.getElem?_eq_getElem (by omega)⟩, fun H i v H' g hy => by
    obtain ⟨T, x, y, e1, nT, e2, hx, hz⟩ := hy
    exact ⟨T, x, y, e1, nT, e2, hx xs (g.seqL ha), hz zs (g.seqT hb)⟩⟩
theorem zi_LL {K : PySem.W.Frag} {a b : Addr} {xs zs : List V} {H1 : Hp} (hl : xs.length = zs.length) (ha : SqL K H1 a xs) (hb : SqL K H1 b zs) : ZipIt (Itz K a b) xs zs H1 :=
  ⟨fun H g => ⟨xs, zs, g.seqL ha, g.seqL hb, .inl (Nat.le_refl _)⟩, fun H i g hi => ⟨xs, zs, xs[i], zs[i]'(by omega), g.seqL ha, g.seqL hb, List.getElem?_eq_getElem hi, List.getElem?_eq_getElem (by omega)⟩, fun H i v H' g hy => by
    obtain ⟨T, x, y, e1, nT, e2, hx, hz⟩ := hy
    exact ⟨T, x, y, e1, nT, e2, hx xs (g.seqL ha), hz zs (g.seqL hb)⟩⟩
/-- all four ways at once -/
theorem zip_any {K : PySem.W.Frag} {a b : Addr} {xs zs : List V} {H1 : Hp} {R : It → Hp → Prop} (hl : xs.length = zs.length) (ha : SqE K H1 a xs) (hb : SqE K H1 b zs) (h : ∀ J, ZipIt J xs zs H1 → R J H1) :
    (SqT K H1 a xs ∧ SqT K H1 b zs ∧ R (ItzT K a b) H1) ∨ (SqT K H1 a xs ∧ SqL K H1 b zs ∧ R (ZM.ItzM K a b) H1) ∨ (SqL K H1 a xs ∧ SqT K H1 b zs ∧ R (ZL.ItzL K a b) H1) ∨ (SqL K H1 a xs ∧ SqL K H1 b zs ∧ R (Itz K a b) H1) := by
  rcases ha with ha | ha <;> rcases hb with hb | hb
  · exact .inr (.inr (.inr ⟨ha, hb, h _ (zi_LL hl ha hb)⟩))
  · exact .inr (.inr (.inl ⟨ha, hb, h _ (zi_LT hl ha hb)⟩))
  · exact .inr (.inl ⟨ha, hb, h _ (zi_TL hl ha hb)⟩)
  · exact .inl ⟨ha, hb, h _ (zi_TT hl ha hb)⟩
section
open PySem.Spec
/-- zip of two tuples or lists, whichever -/
def iZipE (K : PySem.W.Frag) (ta : TA) : TI := fun σ H R => ta σ H fun vs H1 => ∃ a b xs ys, vs = [.ref a, .ref b] ∧ xs.length = ys.length ∧ SqE K H1 a xs ∧ SqE K H1 b ys ∧ ∀ J, ZipIt J xs ys H1 → R J H1
theorem pi_zipE {X : Cx} {e e2 : Expr} {ta : TA} {p pos tpos : Pos} {elts : List Expr} {kk : Nat} (hg : Gl X "zip") (hm : X.mg "zip" = none) (ha : PA X [e, e2] ta)
    (hs : starEach [e, e2] X.env = (false, eval e X.env) :: starEach [e2] X.env := by rfl) (hpl : (backTo pos (starEach [e2] X.env)).any (·.1) = false := by rfl) : PI X (.Tuple elts kk tpos) (.Call (.Name "zip" p) [e, e2] [] pos) (iZipE X.K ta) := by
  refine ⟨fun pins s σ H R I h => PyProof.Rows.Call_ (ld_blt I hg hm PyProof.Rows.boot_zip (PyProof.Rows.callWith_type1 (thn (ha.run pos pins s σ H _ I h) fun us s1 ⟨vs, H1, I1, r1, a, b, xs, ys, ex, zl, sqa, sqb, q0⟩ => ?_) hs hpl))⟩
  have q1 := zip_any zl sqa sqb q0
  subst ex
  obtain ⟨u1, u2, rfl, e1, e2⟩ := vals2 r1
  cases e1
  cases e2
  have fr : ∀ c, c ∈ [s1.heap.objs.size + 4, s1.heap.objs.size + 2, s1.heap.objs.size + 3, s1.heap.objs.size, s1.heap.objs.size + 1] → FpOk X pins H1 c := fun c hc => by
    have hle : s1.heap.objs.size ≤ c := by
      rcases ZL.five2 hc with q | q | q | q | q <;> rw [q]
      · exact Nat.le_add_right _ _
      · exact Nat.le_add_right _ _
      · exact Nat.le_add_right _ _
      · exact Nat.le_refl _
      · exact Nat.le_add_right _ _
    exact I1.fpOk hle (I1.hok.fresh hle)
  rcases q1 with ⟨sx, sy, q⟩ | ⟨sx, sy, q⟩ | ⟨sx, sy, q⟩ | ⟨sx, sy, q⟩
  · obtain ⟨its, rv, p1, _⟩ := I1.tuple sx
    obtain ⟨its2, rv2, p2, _⟩ := I1.tuple sy
    have t1 : s1.heap.IsTuple a its.toArray := p1
    have t2 : s1.heap.IsTuple b its2.toArray := p2
    have la : a < s1.heap.objs.size := by obtain ⟨_, e, _⟩ := t1; exact Heap.lt_size e
    have lb : b < s1.heap.objs.size := by obtain ⟨_, e, _⟩ := t2; exact Heap.lt_size e
    exact call_zipT t1 t2 fun h' hz hTI hTO h1 h2 hsz hk => wpAny_pyIter_zip hz ⟨_, _, _, _, H1, rfl, I1.kept (t' := s1.toks) hk, turn_zipT (PySem.W.ktu_apart s1.heap.objs.size a b la lb), ⟨hz, hTI, ⟨_, _, hTO⟩, h1, h2⟩, fr, q⟩
  · obtain ⟨its, rv, p1, _⟩ := I1.tuple sx
    obtain ⟨its2, rv2, p2, _⟩ := I1.list sy
    have t1 : s1.heap.IsTuple a its.toArray := p1
    have la : a < s1.heap.objs.size := by obtain ⟨_, e, _⟩ := t1; exact Heap.lt_size e
    have lb : b < s1.heap.objs.size := by obtain ⟨_, _, e, _⟩ := p2; exact Heap.lt_size e
    exact ZM.call_mixed t1 p2.isList fun h' hz hTI hTO h1 h2 hk => wpAny_pyIter_zip hz ⟨_, _, _, _, H1, rfl, I1.kept (t' := s1.toks) hk, ZM.turn_mixed (PySem.W.ktu_apart s1.heap.objs.size a b la lb), ⟨hz, hTI, ⟨_, _, hTO⟩, h1, h2⟩, fr, q⟩
  · obtain ⟨its, rv, p1, _⟩ := I1.list sx
    obtain ⟨its2, rv2, p2, _⟩ := I1.tuple sy
    have t2 : s1.heap.IsTuple b its2.toArray := p2
    have lb : b < s1.heap.objs.size := by obtain ⟨_, e, _⟩ := t2; exact Heap.lt_size e
    have la : a < s1.heap.objs.size := by obtain ⟨_, _, e, _⟩ := p1; exact Heap.lt_size e
    exact ZL.call_mixed p1.isList t2 fun h' hz hTI hTO h1 h2 hk => wpAny_pyIter_zip hz ⟨_, _, _, _, H1, rfl, I1.kept (t' := s1.toks) hk, ZL.turn_mixed (PySem.W.ktu_apart s1.heap.objs.size a b la lb), ⟨hz, hTI, ⟨_, _, hTO⟩, h1, h2⟩, fr, q⟩
  · obtain ⟨its, rv, p1, _⟩ := I1.list sx
    obtain ⟨its2, rv2, p2, _⟩ := I1.list sy
    exact call_zip_2 p1.isList p2.isList fun h' hz hTI hTO h1 h2 hsz hk => wpAny_pyIter_zip hz ⟨_, _, _, _, H1, rfl, I1.kept (t' := s1.toks) hk, turn_zip (PySem.W.ktu_apart s1.heap.objs.size a b p1.lt p2.lt), ⟨hz, hTI, ⟨_, _, hTO⟩, h1, h2⟩, fr, q⟩
end
/-- a list of what comes of two rows side by side -/
theorem lc_zipE {J : It} {xs zs : List V} {g : TG} {te : TE} {vs : List Nat} {σ : L2.St} {H1 : Hp} {D : Addr} {Qd : Hp → Prop} (Z : ZipIt J xs zs H1) (R : Nat → V → Hp → Prop) (hst : ∀ i y H H', R i y H → Gr H H' → R i y H') (hput : ∀ i y H D o xs0, H D = some (.lst xs0) → R i y H → R i y (upd H D o)) (nD : H1 D = none) (hz : xs.length ≤ sizeLine)
    (step : ∀ (i : Nat) x y (T : Addr) H (Kc : VK), xs[i]? = some x → zs[i]? = some y → Gr H1 H → H T = none → (∀ v H4, Gr (upd H T (.tup [x, y])) H4 → R i v H4 → Kc v H4) → g (.ref T) (wipe σ vs) (upd H T (.tup [x, y])) fun σ2 H2 => wipe σ2 vs = wipe σ vs ∧ te σ2 H2 Kc)
    (fin : ∀ ys H, H D = some (.lst ys) → ys.length = xs.length → Gr H1 H → (∀ i y, ys[i]? = some y → R i y H) → Qd H) :
    ∃ W : Nat → Nat → Hp → Prop, (∃ m, W 0 m (upd H1 D (.lst []))) ∧ ∀ i m H, W i m H → (J.stop i H ∧ Qd H) ∨
      (J.go i H ∧ ∃ Nx : Hp → Prop, (∀ H', Nx H' → ∃ m', m' < m ∧ W (i + 1) m' H') ∧ ∀ x H', J.yld i H x H' → g x (wipe σ vs) H' fun σ2 H2 => wipe σ2 vs = wipe σ vs ∧ tYes σ2 H2 fun b H3 =>
        if b = true then te σ2 H3 fun y H4 => ∃ acc, H4 D = some (.lst acc) ∧ acc.length < sizeLine ∧ Nx (upd H4 D (.lst (acc ++ [y]))) else Nx H3) := by
  refine ⟨fun i m H => i + m = xs.length ∧ ∃ ys, H D = some (.lst ys) ∧ ys.length = i ∧ GrD D H1 H ∧ ∀ j y, ys[j]? = some y → R j y H, ⟨xs.length, Nat.zero_add _, [], upd_same, rfl, (GrD.refl D H1).set _, fun j y h => by simp at h⟩, fun i m H ⟨hm, ys, hD, hy, gr, hR⟩ => ?_⟩
  have g1 := gr.to nD
  cases m with
  | zero =>
    have e : i = xs.length := by omega
    subst e
    exact .inl ⟨Z.stop H g1, fin ys H hD (by omega) g1 hR⟩
  | succ m =>
    have i1 : i < xs.length := by omega
    refine .inr ⟨Z.go H i g1 i1, fun H' => ∃ ys, H' D = some (.lst ys) ∧ ys.length = i + 1 ∧ GrD D H1 H' ∧ ∀ j y, ys[j]? = some y → R j y H', fun H' h => ⟨m, Nat.lt_succ_self _, by omega, h⟩, fun v H' hyl => ?_⟩
    obtain ⟨T, x, y, rfl, nT, rfl, hx, hy2⟩ := Z.yld H i v H' g1 hyl
    refine step i x y T H _ hx hy2 g1 nT fun v H4 g4 rv => ?_
    have gT : Gr H (upd H T (.tup [x, y])) := (Gr.refl H).new nT _
    have hD4 : H4 D = some (.lst ys) := (gT.trans g4).keep D _ (fun _ z => nomatch z) hD
    refine ⟨ys, hD4, Nat.lt_of_lt_of_le (by omega : ys.length < xs.length) hz, ys ++ [v], upd_same, by rw [List.length_append, hy]; rfl, (gr.trans ((gT.trans g4).d D)).set _, fun j z hz2 => ?_⟩
    by_cases hj : j < ys.length
    · rw [List.getElem?_append_left hj] at hz2
      exact hput _ _ _ _ _ _ hD4 (hst _ _ _ _ (hR j z hz2) (gT.trans g4))
    · have hl2 := (List.getElem?_eq_some_iff.mp hz2).1
      rw [List.length_append] at hl2
      have hl2 : j < ys.length + 1 := hl2
      have ej : j = ys.length := by omega
      subst ej
      rw [List.getElem?_append_right (Nat.le_refl _), Nat.sub_self] at hz2
      cases hz2
      rw [hy]
      exact hput _ _ _ _ _ _ hD4 rv
section
variable {P : Program} {w : World} {K : PySem.W.Frag} {mg : Str → Option Value} {base : Heap}
def spCommonL (K : PySem.W.Frag) : Sp := fun vs H Q _ => ∃ a ns, vs = [.ref a] ∧ SqL K H a (ns.map V.int) ∧ Q (.int ((gcdL ns : Nat) : Int)) H
theorem cl_commonL (D : Df K mg "common_of" s_common_of) (B : Blt mg) : Cl P w K mg base 1 "common_of" ["wholes"] (spCommonL K) := by
  refine D.cl (fun _ _ _ _ _ _ us hl => match us, hl with | [_], _ => rfl) fun f fd F => F.ok sc_common (fun vs H Q E h => ?_) (fun cdv A outer s H vs Q E hr h => ?_)
  · obtain ⟨a, ns, rfl, _⟩ := h
    rfl
  obtain ⟨a, ns, rfl, ha, q⟩ := h
  refine ⟨_, pss_cons (ps_set (i := 1) sc_common.nd rfl (.inl rfl) pe_int) (pss_cons (ps_for PassesOwn.never rfl (pi_list (pv 0)) (pg_name (i := 2) sc_common.nd rfl (Or.inl rfl))
    (pss_one (ps_set (i := 1) sc_common.nd rfl (.inl rfl) (pe_callBfun cr_gcd rfl B.gcd (pa_cons (pv 1) (pa_cons (pv 2) pa_nil)))))) (pss_one (ps_ret (pv 1)))), ?_⟩
  refine ⟨_, rfl, a, rfl, ⟨_, ha⟩, for_list (xs := ns.map V.int) (fun i σ H1 => ∃ c, σ = [some (.ref a), some (.int ((gcdL (ns.take i) : Nat) : Int)), c] ∧ H1 = H) ⟨_, rfl, rfl⟩ (fun i σ H1 _ h => ?_) (fun i x σ H1 hx h => ?_) (fun σ H1 h => ?_)⟩
  · obtain ⟨c, rfl, rfl⟩ := h
    exact ha
  · obtain ⟨c, rfl, rfl⟩ := h
    rw [List.getElem?_map] at hx
    obtain ⟨z, hz, rfl⟩ := Option.map_eq_some_iff.mp hx
    refine ⟨_, rfl, _, rfl, _, _, rfl, some (.int z), ?_, rfl⟩
    have e : gcdL (ns.take (i + 1)) = Nat.gcd (gcdL (ns.take i)) z.natAbs := fold_take (fun c (z : Int) => Nat.gcd c z.natAbs) 0 hz
    rw [e, Int.natAbs_natCast]
    rfl
  · obtain ⟨c, rfl, rfl⟩ := h
    have e : ns.take (ns.map V.int).length = ns := List.take_of_length_le (by rw [List.length_map]; exact Nat.le_refl _)
    rw [e]
    exact ⟨_, rfl, q⟩
def spBeginsE (K : PySem.W.Frag) : Sp := fun vs H Q _ => ∃ x ns, vs = [x] ∧ SiE K H x ns ∧ NonZ ns ∧ Q (.int ((firstNZ ns : Nat) : Int)) H
/-- reading a place of a row, whichever -/
theorem rIxE {K : PySem.W.Frag} {H : Hp} {a : Addr} {xs : List V} {i : Nat} {v : V} {Q : VK} (h : SqE K H a xs) (hv : xs[i]? = some v) (q : Q v H) : rIxL K (.ref a) (.int ((i : Nat) : Int)) H Q ∨ rIxT K (.ref a) (.int ((i : Nat) : Int)) H Q :=
  h.imp (fun h => ⟨a, xs, _, v, rfl, rfl, h, atI_nat hv, q⟩) fun h => ⟨a, xs, _, v, rfl, rfl, h, atI_nat hv, q⟩
theorem cl_beginsE (D : Df K mg "begins_at" s_begins_at) : Cl P w K mg base 1 "begins_at" ["wholes"] (spBeginsE K) := by
  refine D.cl (fun _ _ _ _ _ _ us hl => match us, hl with | [_], _ => rfl) fun f fd F => F.ok sc_begins (fun vs H Q E h => ?_) (fun cdv A outer s H vs Q E hr h => ?_)
  · obtain ⟨a, ns, rfl, _⟩ := h
    rfl
  obtain ⟨_, ns, rfl, ⟨a, rfl, ha⟩, nz, q⟩ := h
  obtain ⟨k1, k2, k3⟩ := firstNZ_at nz
  refine ⟨_, pss_cons (ps_set (i := 1) sc_begins.nd rfl (.inl rfl) pe_int) (pss_cons (ps_while PassesOwn.never (pt_cmpR op_eq (pe_ix (IxR.or ix_list ix_tup) (pv 0) (pv 1) (fun _ _ => rfl)) pe_int (nomark _)) (pss_one (ps_aug (i := 1) sc_begins.nd rfl (.inl rfl) pe_int ip_add))) (pss_one (ps_ret (pv 1)))), ?_⟩
  refine ⟨fun m σ H1 => ∃ i : Nat, σ = [some (.ref a), some (.int (i : Int))] ∧ H1 = H ∧ i + m = firstNZ ns, ⟨firstNZ ns, 0, rfl, rfl, Nat.zero_add _⟩, fun m σ H1 hw => ?_⟩
  obtain ⟨i, rfl, rfl, hm⟩ := hw
  have hl := (List.getElem?_eq_some_iff.mp k1).1
  have hi : i < ns.length := by omega
  have ei : ns[i]? = some ns[i] := List.getElem?_eq_getElem hi
  refine ⟨_, rfl, _, rfl, rIxE (v := .int ns[i]) ha (by rw [List.getElem?_map, ei]; rfl) ⟨rfl, _, rfl, ?_⟩⟩
  cases m with
  | zero =>
    have e : i = firstNZ ns := by omega
    subst e
    rw [ei] at k1
    have : ns[firstNZ ns] = lead ns := Option.some.inj k1
    exact iteN (fun z => k2 (by rw [← this]; injection z)) ⟨_, rfl, q⟩
  | succ m =>
    have z0 := k3 i _ (by omega) ei
    refine iteP (by rw [z0]) ⟨fun σ H' => ∃ i' : Nat, σ = [some (.ref a), some (.int (i' : Int))] ∧ H' = H1 ∧ i' + m = firstNZ ns, fun σ' H' h => ⟨m, Nat.lt_succ_self _, h⟩, ?_⟩
    refine ⟨_, rfl, _, _, rfl, rfl, i + 1, ?_, rfl, by omega⟩
    simp
end
end SB
namespace SB
open PySem L2 GxR GA RZ
section
variable {P : Program} {w : World} {K : PySem.W.Frag} {mg : Str → Option Value} {base : Heap}
theorem raw_at {row begun : List Int} {b r : Int} {i : Nat} {p q : Int} (hp : row[i]? = some p) (hq : begun[i]? = some q) : (rawT row begun b r)[i]? = some (b * p - r * q) := by
  unfold rawT
  rw [List.getElem?_map, (List.getElem?_zip_eq_some (z := (p, q))).mpr ⟨hp, hq⟩]
  rfl
def spTaken (K : PySem.W.Frag) : Sp := fun vs H Q _ => ∃ x y row begun, vs = [x, y, .int ((firstNZ begun : Nat) : Int)] ∧ SiE K H x row ∧ SiE K H y begun ∧ NonZ begun ∧ row.length = begun.length ∧ row.length ≤ 1000 ∧ (∃ m n, BdI m row ∧ BdI n begun ∧ n + m ≤ 300000) ∧ ∀ a H', Gr H H' → SqL K H' a ((takeO row begun).map V.int) → Q (.ref a) H'
theorem sc_taken : FnScope ["row", "begun", "at", "x", "y", "rest", "common"] ["row", "begun", "at"] (defScope s__taken_out) := ⟨rfl, rfl, rfl, by decide +kernel, rfl, by decide +kernel, by decide +kernel⟩
theorem cl_taken (D : Df K mg "_taken_out" s__taken_out) (B : Blt mg) (NS : NSK P K) (CC : Cl P w K mg base 1 "common_of" ["wholes"] (spCommonL K)) : Cl P w K mg base 34 "_taken_out" ["row", "begun", "at"] (spTaken K) := by
  refine D.cl (fun _ _ _ _ _ _ us hl => match us, hl with | [_, _, _], _ => rfl) fun f fd F => F.ok sc_taken (fun vs H Q E h => ?_) (fun cdv A outer s H vs Q E hr h => ?_)
  · obtain ⟨x, y, row, begun, rfl, _⟩ := h
    rfl
  obtain ⟨_, _, row, begun, rfl, ⟨a, rfl, ha⟩, ⟨c, rfl, hc⟩, nz, hl, h1000, ⟨bm, bn, hbm, hbn, hmn⟩, hQ⟩ := h
  refine ⟨_, (pss_cons (ps_setLc (i := 5) (own := [("x", 3), ("y", 4)]) (g := gTup K 2 (gCons (gName 3) (gCons (gName 4) gNil))) rfl sc_taken.nd rfl rfl rfl (pi_zipE rfl B.zip (pa_cons (pv 0) (pa_cons (pv 1) pa_nil))) (blkOk_by (N := ["row", "begun", "at", "x", "y", "rest", "common"]) (sc := defScope s__taken_out) (by decide +kernel)) (fun _ _ _ _ _ => (pg_tup rfl (pgs_cons (pg_name (i := 3) sc_taken.nd rfl (Or.inl rfl)) (pgs_cons (pg_name (i := 4) sc_taken.nd rfl (Or.inl rfl)) pgs_nil)))) (fun _ _ _ _ _ => pts_nil) (fun _ _ _ _ _ => (pe_op op_sub (pe_op op_mulW (pe_ix (r := fun x y H Q => rIxL K x y H Q ∨ rIxT K x y H Q) (IxR.or ix_list ix_tup) (pv 1) (pv 2) (fun _ _ => rfl)) (pv 3)) (pe_op op_mulW (pe_ix (r := fun x y H Q => rIxL K x y H Q ∨ rIxT K x y H Q) (IxR.or ix_list ix_tup) (pv 0) (pv 2) (fun _ _ => rfl)) (pv 4)))))
    (pss_cons (ps_set (i := 6) sc_taken.nd rfl (.inr rfl) (pe_cl CC (hr.mono (by decide)) (pa_cons (pv 5) pa_nil)))
    (pss_one (ps_ret (pe_ifExp (pt_cmpR op_gt (pv 6) pe_int (nomark _)) (pe_lc (own := [("x", 3)]) (g := gName 3) rfl sc_taken.nd (pi_list (pv 5)) (blkOk_by (N := ["row", "begun", "at", "x", "y", "rest", "common"]) (sc := defScope s__taken_out) (by decide +kernel)) (fun _ _ _ _ _ => (pg_name (i := 3) sc_taken.nd rfl (Or.inl rfl))) (fun _ _ _ _ _ => pts_nil) (fun _ _ _ _ _ => (pe_op (op_fdivP NS (Room.far hr) rfl rfl rfl rfl rfl) (pv 3) (pv 6)))) (pv 5)))))), ?_⟩
  obtain ⟨k1, k2, k3⟩ := firstNZ_at nz
  have hf : firstNZ begun < begun.length := (List.getElem?_eq_some_iff.mp k1).1
  have eb : begun[firstNZ begun]? = some (gI begun (firstNZ begun)) := by rw [k1, gI_get k1]
  have er : row[firstNZ begun]? = some (gI row (firstNZ begun)) := by
    have := List.getElem?_eq_getElem (l := row) (i := firstNZ begun) (by omega)
    rw [gI_get this, this]
  refine ⟨_, rfl, _, rfl, a, c, row.map V.int, begun.map V.int, rfl, by rw [List.length_map, List.length_map, hl], ha, hc, fun J Z D nD => lc_zipE Z (fun i y _ => y = .int (gI begun (firstNZ begun) * gI row i - gI row (firstNZ begun) * gI begun i) ∧ i < row.length) (fun _ _ _ _ h _ => h) (fun _ _ _ _ _ _ _ h => h) nD (by rw [List.length_map]; exact Nat.le_trans h1000 (by decide)) (fun i x y T H5 Kc hx hy g5 nT kc => ?_) (fun ys H5 hD hl5 g5 hR => ?_)⟩
  · rw [List.getElem?_map] at hx hy
    obtain ⟨p, hp, rfl⟩ := Option.map_eq_some_iff.mp hx
    obtain ⟨q, hq, rfl⟩ := Option.map_eq_some_iff.mp hy
    have gT := g5.new nT (.tup [.int p, .int q])
    refine ⟨T, _, rfl, SqT.of upd_same, rfl, _, _, rfl, _, _, rfl, rfl, rfl, ?_⟩
    refine ⟨_, rfl, _, rfl, rIxE (v := .int (gI begun (firstNZ begun))) (hc.gr gT) (by rw [List.getElem?_map, eb]; rfl) ⟨_, rfl, _, _, rfl, rfl, cmw (hbn.g _) (hbm _ (List.mem_of_getElem? hp)) hmn, ?_⟩⟩
    refine ⟨_, rfl, _, rfl, rIxE (v := .int (gI row (firstNZ begun))) (ha.gr gT) (by rw [List.getElem?_map, er]; rfl) ⟨_, rfl, _, _, rfl, rfl, cmw (hbm.g _) (hbn _ (List.mem_of_getElem? hq)) (by omega), _, _, rfl, rfl, ?_⟩⟩
    exact kc _ _ (Gr.refl _) ⟨by rw [gI_get hp, gI_get hq], (List.getElem?_eq_some_iff.mp hp).1⟩
  have ey : ys = (rawT row begun (gI begun (firstNZ begun)) (gI row (firstNZ begun))).map V.int := by
    refine ints_at (by rw [hl5, List.length_map, rawT_len hl]) fun i y hy => ?_
    obtain ⟨e, hi⟩ := hR i y hy
    have h1 := List.getElem?_eq_getElem hi
    have h2 := List.getElem?_eq_getElem (l := begun) (i := i) (by omega)
    exact ⟨_, raw_at h1 h2, by rw [e, gI_get h1, gI_get h2]⟩
  subst ey
  refine ⟨_, rfl, D, _, rfl, SqL.of hD, ?_⟩
  have et : takeO row begun = if 1 < gcdL (rawT row begun (gI begun (firstNZ begun)) (gI row (firstNZ begun))) then (rawT row begun (gI begun (firstNZ begun)) (gI row (firstNZ begun))).map fun z => z / ((gcdL (rawT row begun (gI begun (firstNZ begun)) (gI row (firstNZ begun))) : Nat) : Int) else rawT row begun (gI begun (firstNZ begun)) (gI row (firstNZ begun)) := rfl
  have rl := rawT_len (b := gI begun (firstNZ begun)) (r := gI row (firstNZ begun)) hl
  generalize rawT row begun (gI begun (firstNZ begun)) (gI row (firstNZ begun)) = raw at et hD hR rl hl5 ⊢
  refine ⟨_, rfl, _, _, rfl, rfl, ?_⟩
  refine ⟨_, rfl, ?_⟩
  by_cases cg : 1 < gcdL raw
  · rw [if_pos cg] at et
    refine iteP (show (1 : Int) < ((gcdL raw : Nat) : Int) by omega) ⟨_, rfl, D, rfl, ⟨_, SqL.of hD⟩, fun D2 nD2 => lc_mapL (xs := raw.map V.int) (fun i y _ => ∃ z, raw[i]? = some z ∧ y = .int (z / ((gcdL raw : Nat) : Int))) (fun _ _ _ _ h _ => h) nD2 (SqL.of hD) (by rw [List.length_map, rl]; exact h1000) (fun i x H6 Kc hx g6 kc => ?_) (fun ys H6 hD6 hl6 g6 hR6 => ?_)⟩
    · rw [List.getElem?_map] at hx
      obtain ⟨z, hz, rfl⟩ := Option.map_eq_some_iff.mp hx
      refine ⟨rfl, _, rfl, _, rfl, _, _, rfl, rfl, by omega, kc _ _ (Gr.refl _) ⟨z, hz, ?_⟩⟩
      show V.int (z.fdiv ((gcdL raw : Nat) : Int)) = _
      rw [Int.fdiv_eq_ediv_of_nonneg z (show (0 : Int) ≤ ((gcdL raw : Nat) : Int) by omega)]
    · have ey : ys = ((takeO row begun)).map V.int := by
        rw [et]
        refine ints_at (by rw [hl6, List.length_map, List.length_map]) fun i y hy => ?_
        obtain ⟨z, hz, rfl⟩ := hR6 i y hy
        exact ⟨_, by rw [List.getElem?_map, hz]; rfl, rfl⟩
      subst ey
      exact hQ _ _ (g5.trans g6) (SqL.of hD6)
  · rw [if_neg cg] at et
    refine iteN (show ¬ (1 : Int) < ((gcdL raw : Nat) : Int) by omega) ⟨_, rfl, ?_⟩
    exact hQ _ _ g5 (by rw [et]; exact SqL.of hD)
end
end SB
namespace SB
open PySem L2 GxR GA RZ
section
variable {P : Program} {w : World} {K : PySem.W.Frag} {mg : Str → Option Value} {base : Heap}
theorem neqD (z : Int) : (!decide (V.int z = V.int 0)) = decide (z ≠ 0) := by
  by_cases h : z = 0
  · rw [h]; rfl
  · rw [decide_eq_false (fun e => h (by injection e)), decide_eq_true h]; rfl
def spRest (K : PySem.W.Frag) : Sp := fun vs H Q _ => ∃ x a row xs kept m n, vs = [x, .ref a] ∧ SiE K H x row ∧ SqL K H a xs ∧ Paired (SiE K H) xs kept ∧ KpI m n kept ∧ row.length = m ∧ BdI n row ∧ m ≤ 1000 ∧ (n + 1) * 2 ^ kept.length ≤ 100000 ∧ ∀ v H', Gr H H' → SiE K H' v (restO row kept) → Q v H'
theorem sc_rest : FnScope ["row", "kept", "rest", "begun", "at"] ["row", "kept"] (defScope s_rest_of) := ⟨rfl, rfl, rfl, by decide +kernel, rfl, by decide +kernel, by decide +kernel⟩
theorem cl_rest (D : Df K mg "rest_of" s_rest_of) (CB : Cl P w K mg base 1 "begins_at" ["wholes"] (spBeginsE K)) (CT : Cl P w K mg base 34 "_taken_out" ["row", "begun", "at"] (spTaken K)) : Cl P w K mg base 35 "rest_of" ["row", "kept"] (spRest K) := by
  refine D.cl (fun _ _ _ _ _ _ us hl => match us, hl with | [_, _], _ => rfl) fun f fd F => F.ok sc_rest (fun vs H Q E h => ?_) (fun cdv A outer s H vs Q E hr h => ?_)
  · obtain ⟨x, a, row, xs, kept, m, n, rfl, _⟩ := h
    rfl
  obtain ⟨x, a, row, xs, kept, m, n, rfl, hx, ha, hp, hk, hl, hb, hm, hwd, hQ⟩ := h
  refine ⟨_, (pss_cons (ps_set (i := 2) sc_rest.nd rfl (.inl rfl) (pv 0))
    (pss_cons (ps_for PassesOwn.never rfl (pi_list (pv 1)) (pg_name (i := 3) sc_rest.nd rfl (Or.inl rfl))
      (pss_cons (ps_set (i := 4) sc_rest.nd rfl (.inl rfl) (pe_cl CB (hr.mono (by decide)) (pa_cons (pv 3) pa_nil)))
      (pss_one (ps_if (pt_cmpR op_ne (pe_ix (IxR.or ix_list ix_tup) (pv 2) (pv 4) (fun _ _ => rfl)) pe_int (nomark _)) (pss_one (ps_set (i := 2) sc_rest.nd rfl (.inl rfl) (pe_cl CT (hr.mono (by decide)) (pa_cons (pv 2) (pa_cons (pv 3) (pa_cons (pv 4) pa_nil)))))) pss_nil))))
    (pss_one (ps_ret (pv 2))))), ?_⟩
  have pl : xs.length = kept.length := paired_len hp
  have kt : ∀ i, KpI m n (kept.take i) := fun i => kp_left (B := kept.drop i) (by rw [List.take_append_drop]; exact hk)
  refine ⟨x, rfl, _, rfl, a, rfl, ⟨_, ha⟩, for_list (xs := xs) (fun i σ H1 => ∃ v c1 c2, σ = [some x, some (.ref a), some v, c1, c2] ∧ Gr H H1 ∧ SiE K H1 v (restO row (kept.take i))) ⟨x, _, _, rfl, Gr.refl H, hx⟩ (fun i σ H1 _ h => ?_) (fun i y σ H1 hy h => ?_) (fun σ H1 h => ?_)⟩
  · obtain ⟨v, c1, c2, rfl, g, _⟩ := h
    exact g.seqL ha
  · obtain ⟨v, c1, c2, rfl, g, hv⟩ := h
    have hi : i < kept.length := by
      have := (List.getElem?_eq_some_iff.mp hy).1
      omega
    have hki : kept[i]? = some kept[i] := List.getElem?_eq_getElem hi
    have hyk : SiE K H y kept[i] := by
      obtain ⟨kk, e, hyk⟩ := paired_get hp hy
      rw [hki] at e
      rw [Option.some.inj e]
      exact hyk
    have nz : NonZ kept[i] := hk.nz _ (List.getElem_mem hi)
    have kl : kept[i].length = m := hk.len _ (List.getElem_mem hi)
    have rs := rs_all hl hb _ (kept.take i) rfl (kt i)
    have et : kept.take (i + 1) = kept.take i ++ [kept[i]] := by rw [List.take_add_one, hki]; rfl
    obtain ⟨k1, _, _⟩ := firstNZ_at nz
    have hf : firstNZ kept[i] < m := by
      rw [← kl]
      exact (List.getElem?_eq_some_iff.mp k1).1
    have er := List.getElem?_eq_getElem (l := restO row (kept.take i)) (i := firstNZ kept[i]) (by rw [rs.len]; exact hf)
    obtain ⟨ra, rfl, hra⟩ := id hv
    refine ⟨_, rfl, y, kept[i], rfl, hyk.gr g, nz, _, rfl, _, rfl, rIxE hra (by rw [List.getElem?_map, er]; rfl) ⟨rfl, _, rfl, ?_⟩⟩
    rw [neqD]
    rw [← gI_get er]
    by_cases c : gI (restO row (kept.take i)) (firstNZ kept[i]) = 0
    · refine iteN (fun y => y c) ⟨.ref ra, _, _, rfl, g, ?_⟩
      rw [et, restO_snoc, if_neg (by simpa using c)]
      exact hv
    · have pw : 2 ^ (kept.take i).length ≤ 2 ^ kept.length := Nat.pow_le_pow_right (by decide) (by rw [List.length_take]; omega)
      have pw2 : (n + 1) * 2 ^ (kept.take i).length ≤ 100000 := Nat.le_trans (Nat.mul_le_mul_left _ pw) hwd
      have li : (kept.take i).length = i := by rw [List.length_take]; omega
      refine iteP c ⟨_, rfl, _, rfl, _, rfl, _, _, restO row (kept.take i), kept[i], rfl, hv, hyk.gr g, nz, by rw [rs.len, kl], by rw [rs.len]; exact hm, ⟨_, _, rs.bd, hk.bd i _ hki, by rw [li] at pw2 ⊢; omega⟩, fun b H2 g2 hb2 => ?_⟩
      refine ⟨.ref b, _, _, rfl, g.trans g2, b, rfl, .inl ?_⟩
      rw [et, restO_snoc, if_pos c]
      exact hb2
  · obtain ⟨v, c1, c2, rfl, g, hv⟩ := h
    refine ⟨v, rfl, hQ v H1 g ?_⟩
    rwa [pl, List.take_length] at hv
end
end SB
namespace SB
open PySem L2 GxR GA RZ
section
variable {P : Program} {w : World} {K : PySem.W.Frag} {mg : Str → Option Value} {base : Heap}
/-- a row of numbers stays while a list of other things is changed -/
theorem SiE.put {H : Hp} {L : Addr} {ys : List V} {o : HO} {x : V} {ns : List Int} (h : SiE K H x ns) (hn : ns ≠ []) (hL : H L = some (.lst ys)) (hy : ∀ z, ys[0]? ≠ some (.int z)) : SiE K (upd H L o) x ns := by
  obtain ⟨a, rfl, h⟩ := h
  refine ⟨a, rfl, ?_⟩
  have ne : ∀ {o1 : HO}, H a = some o1 → o1 ≠ .lst ys → upd H L o a = H a := fun e q => upd_ne fun z => q (by rw [z, hL] at e; exact (Option.some.inj e).symm)
  rcases h with ((h | ⟨u, h⟩) | h) | ((h | ⟨u, h⟩) | h)
  · refine .inl (.inl (.inl ?_))
    rw [ne h fun e => ?_]
    · exact h
    · injection e with e
      cases ns with
      | nil => exact hn rfl
      | cons z r => exact hy z (by rw [← e]; rfl)
  · exact .inl (.inl (.inr ⟨u, by rw [ne h fun e => nomatch e]; exact h⟩))
  · exact .inl (.inr h)
  · exact .inr (.inl (.inl (by rw [ne h fun e => nomatch e]; exact h)))
  · exact .inr (.inl (.inr ⟨u, by rw [ne h fun e => nomatch e]; exact h⟩))
  · exact .inr (.inr h)
/-- kept rows are no numbers -/
theorem no_int {H : Hp} {ys : List V} {ks : List (List Int)} (h : Paired (SiE K H) ys ks) : ∀ z, ys[0]? ≠ some (.int z) := fun z e => by
  obtain ⟨k, _, a, ea, _⟩ := paired_get h e
  cases ea
theorem pair_put {H : Hp} {L : Addr} {ys : List V} {o : HO} : ∀ {xs : List V} {ks : List (List Int)}, Paired (SiE K H) xs ks → (∀ k ∈ ks, k ≠ []) → H L = some (.lst ys) → (∀ z, ys[0]? ≠ some (.int z)) → Paired (SiE K (upd H L o)) xs ks
  | _, _, .nil, _, _, _ => .nil
  | _, _, .cons r t, hk, hL, hy => .cons (r.put (hk _ (List.mem_cons_self ..)) hL hy) (pair_put t (fun k m => hk k (List.mem_cons_of_mem _ m)) hL hy)
theorem pair_gr {H H' : Hp} (g : Gr H H') : ∀ {xs : List V} {ks : List (List Int)}, Paired (SiE K H) xs ks → Paired (SiE K H') xs ks
  | _, _, .nil => .nil
  | _, _, .cons r t => .cons (r.gr g) (pair_gr g t)
theorem kp_pre {m n : Nat} {R : List (List Int)} (h : ∀ x ∈ R, x.length = m ∧ BdI n x) (i : Nat) : KpR m n (R.take i) (keptO (R.take i)) := kp_all _ _ rfl fun x hx => h x (List.mem_of_mem_take hx)
def spKept (K : PySem.W.Frag) : Sp := fun vs H Q _ => ∃ a xs rows m n, vs = [.ref a] ∧ SqL K H a xs ∧ Paired (SiE K H) xs rows ∧ (∀ x ∈ rows, x.length = m ∧ BdI n x) ∧ 1 ≤ m ∧ m ≤ 1000 ∧ rows.length ≤ 1000 ∧ (n + 1) * 2 ^ rows.length ≤ 100000 ∧ ∀ b ys H', Gr H H' → SqL K H' b ys → ys.length = (keptO rows).length → Q (.ref b) H'
theorem sc_kept : FnScope ["rows", "kept", "row", "rest"] ["rows"] (defScope s_kept_of) := ⟨rfl, rfl, rfl, by decide +kernel, rfl, by decide +kernel, by decide +kernel⟩
theorem cl_kept (D : Df K mg "kept_of" s_kept_of) (B : Blt mg) (CR : Cl P w K mg base 35 "rest_of" ["row", "kept"] (spRest K)) : Cl P w K mg base 36 "kept_of" ["rows"] (spKept K) := by
  refine D.cl (fun _ _ _ _ _ _ us hl => match us, hl with | [_], _ => rfl) fun f fd F => F.ok sc_kept (fun vs H Q E h => ?_) (fun cdv A outer s H vs Q E hr h => ?_)
  · obtain ⟨a, xs, rows, m, n, rfl, _⟩ := h
    rfl
  obtain ⟨a, xs, rows, m, n, rfl, ha, hp, hrow, hm1, hm, hrl, hwd, hQ⟩ := h
  refine ⟨_, (pss_cons (ps_set (i := 1) sc_kept.nd rfl (.inl rfl) (pe_lst pa_nil))
    (pss_cons (ps_for PassesOwn.never rfl (pi_list (pv 0)) (pg_name (i := 2) sc_kept.nd rfl (Or.inl rfl))
      (pss_cons (ps_set (i := 3) sc_kept.nd rfl (.inl rfl) (pe_cl CR (hr.mono (by decide)) (pa_cons (pv 2) (pa_cons (pv 1) pa_nil))))
      (pss_one (ps_if (pt_val (pe_callB (cr_anyE rfl) rfl B.any bootAny (pa_cons (pv 3) pa_nil))) (pss_one (ps_expr (pe_bm PySem.F.plainAttrs_list PySem.F.slot_list_append PySem.F.type_list_append mt_append (pv 1) (pa_cons (pv 3) pa_nil)))) pss_nil))))
    (pss_one (ps_ret (pv 1))))), ?_⟩
  have pl : xs.length = rows.length := paired_len hp
  refine ⟨szN (by show 0 ≤ 1000000; decide), fun L nL => ?_⟩
  have rL := (Gr.refl H).new nL (.lst [])
  refine ⟨_, rfl, a, rfl, ⟨_, rL.seqL ha⟩, for_list (xs := xs) (fun i σ H1 => ∃ ys c2 c3, σ = [some (.ref a), some (.ref L), c2, c3] ∧ GrD L H H1 ∧ H1 L = some (.lst ys) ∧ Paired (SiE K H1) ys (keptO (rows.take i))) ⟨[], _, _, rfl, (GrD.refl L H).set _, upd_same, .nil⟩ (fun i σ H1 _ h => ?_) (fun i y σ H1 hy h => ?_) (fun σ H1 h => ?_)⟩
  · obtain ⟨ys, c2, c3, rfl, g, hL, hk⟩ := h
    exact (g.to nL).seqL ha
  · obtain ⟨ys, c2, c3, rfl, g, hL, hk⟩ := h
    have hi : i < rows.length := by
      have := (List.getElem?_eq_some_iff.mp hy).1
      omega
    have g1 := g.to nL
    have hri : rows[i]? = some rows[i] := List.getElem?_eq_getElem hi
    have hyr : SiE K H y rows[i] := by
      obtain ⟨kk, e, hyk⟩ := paired_get hp hy
      rw [hri] at e
      rw [Option.some.inj e]
      exact hyk
    obtain ⟨r1, r2⟩ := hrow _ (List.getElem_mem hi)
    have kp := kp_pre hrow i
    have kl : (keptO (rows.take i)).length ≤ rows.length := by
      have := kp.le
      rw [List.length_take] at this
      omega
    have et : rows.take (i + 1) = rows.take i ++ [rows[i]] := by rw [List.take_add_one, hri]; rfl
    refine ⟨_, rfl, _, rfl, y, L, rows[i], ys, keptO (rows.take i), m, n, rfl, hyr.gr g1, SqL.of hL, hk, kp.k, r1, r2, hm, Nat.le_trans (Nat.mul_le_mul_left _ (Nat.pow_le_pow_right (by decide) kl)) hwd, fun v H2 g2 hv => ?_⟩
    obtain ⟨ra, rfl, hra⟩ := id hv
    have hL2 : H2 L = some (.lst ys) := g2.keep L _ (fun _ z => nomatch z) hL
    have hk2 := pair_gr g2 hk
    refine ⟨_, rfl, ra, _, rfl, hra, _, rfl, ?_⟩
    by_cases c : ((restO rows[i] (keptO (rows.take i))).any fun z => decide (z ≠ 0)) = true
    · rw [c]
      have kp2 := kp_pre hrow (i + 1)
      have e2 : keptO (rows.take (i + 1)) = keptO (rows.take i) ++ [restO rows[i] (keptO (rows.take i))] := by rw [et, keptO_snoc, if_pos c]
      refine iteT ⟨_, rfl, .inl ⟨rfl, _, SqL.of hL2⟩, _, rfl, L, ys, _, rfl, rfl, hL2, small1000 ?_, ?_⟩
      · have := paired_len hk2
        omega
      · refine ⟨_, _, _, rfl, (g.gr g2).set _, upd_same, ?_⟩
        rw [e2]
        have hall : Paired (SiE K H2) (ys ++ [.ref ra]) (keptO (rows.take i) ++ [restO rows[i] (keptO (rows.take i))]) := paired_app hk2 (.cons hv .nil)
        refine pair_put hall (fun k hk => ?_) hL2 (no_int hk2)
        rw [← e2] at hk
        intro e
        have := kp2.k.len k hk
        rw [e] at this
        simp at this
        omega
    · rw [Bool.eq_false_iff.mpr c]
      refine iteF ⟨_, _, _, rfl, g.gr g2, hL2, ?_⟩
      rw [et, keptO_snoc, if_neg c]
      exact hk2
  · obtain ⟨ys, c2, c3, rfl, g, hL, hk⟩ := h
    rw [pl, List.take_length] at hk
    exact ⟨_, rfl, hQ L ys H1 (g.to nL) (SqL.of hL) (paired_len hk)⟩
def spRankOf (K : PySem.W.Frag) : Sp := fun vs H Q _ => ∃ a xs rows m n, vs = [.ref a] ∧ SqL K H a xs ∧ Paired (SiE K H) xs rows ∧ (∀ x ∈ rows, x.length = m ∧ BdI n x) ∧ 1 ≤ m ∧ m ≤ 1000 ∧ rows.length ≤ 1000 ∧ (n + 1) * 2 ^ rows.length ≤ 100000 ∧ ∀ H', Gr H H' → Q (.int (((keptO rows).length : Nat) : Int)) H'
theorem sc_rankOf : FnScope ["rows"] ["rows"] (defScope s_rank_of) := ⟨rfl, rfl, rfl, by decide +kernel, rfl, by decide +kernel, by decide +kernel⟩
theorem cl_rankOf (D : Df K mg "rank_of" s_rank_of) (B : Blt mg) (CK : Cl P w K mg base 36 "kept_of" ["rows"] (spKept K)) : Cl P w K mg base 37 "rank_of" ["rows"] (spRankOf K) := by
  refine D.cl (fun _ _ _ _ _ _ us hl => match us, hl with | [_], _ => rfl) fun f fd F => F.ok sc_rankOf (fun vs H Q E h => ?_) (fun cdv A outer s H vs Q E hr h => ?_)
  · obtain ⟨a, xs, rows, m, n, rfl, _⟩ := h
    rfl
  obtain ⟨a, xs, rows, m, n, rfl, ha, hp, hrow, hm1, hm, hrl, hwd, hQ⟩ := h
  refine ⟨_, (pss_one (ps_ret (pe_len (pe_cl CK (hr.mono (by decide)) (pa_cons (pv 0) pa_nil)) B.len))), ?_⟩
  refine ⟨_, rfl, a, xs, rows, m, n, rfl, ha, hp, hrow, hm1, hm, hrl, hwd, fun b ys H' g hb hl => ⟨b, ys, rfl, .inl hb, ?_⟩⟩
  rw [hl]
  exact hQ H' g
end
end SB
namespace SB
open PySem L2 GxR GA RZ
section
variable {P : Program} {w : World} {K : PySem.W.Frag} {mg : Str → Option Value} {base : Heap}
/-- rows told of a book's questions -/
def spRows (K : PySem.W.Frag) (f : List Int × Int → List Int) : Sp := fun vs H Q _ => ∃ x d qs, vs = [x] ∧ BkV K H x d qs ∧ qs.length ≤ 1000 ∧ (∀ q ∈ qs, NonZ q.1 ∧ q.1.length ≤ 1000) ∧ ∀ a xs H', Gr H H' → SqL K H' a xs → Paired (SiE K H') xs (qs.map f) → Q (.ref a) H'
theorem rows_of_list {H : Hp} {f : List Int × Int → List Int} {ys : List V} {qs : List (List Int × Int)} (hl : ys.length = qs.length) (h : ∀ (i : Nat) (y : V), ys[i]? = some y → ∃ q, qs[i]? = some q ∧ SiV K H y (f q)) : Paired (SiE K H) ys (qs.map f) := by
  refine paired_at2 (by rw [hl, List.length_map]) fun i x y hx hy => ?_
  obtain ⟨q, hq, hv⟩ := h i x hx
  rw [List.getElem?_map, hq] at hy
  cases hy
  obtain ⟨a, e, s⟩ := hv
  exact ⟨a, e, .inr s⟩
theorem sc_allS : FnScope ["book", "sides", "_"] ["book"] (defScope s_all_sides) := ⟨rfl, rfl, rfl, by decide +kernel, rfl, by decide +kernel, by decide +kernel⟩
theorem cl_allS (D : Df K mg "all_sides" s_all_sides) : Cl P w K mg base 1 "all_sides" ["book"] (spRows K fun q => q.1) := by
  refine D.cl (fun _ _ _ _ _ _ us hl => match us, hl with | [_], _ => rfl) fun f fd F => F.ok sc_allS (fun vs H Q E h => ?_) (fun cdv A outer s H vs Q E hr h => ?_)
  · obtain ⟨x, d, qs, rfl, _⟩ := h
    rfl
  obtain ⟨x, d, qs, rfl, hx, ql, hq, hQ⟩ := h
  refine ⟨_, (pss_one (ps_ret (pe_lc (own := [("sides", 1), ("_", 2)]) (g := gTup K 2 (gCons (gName 1) (gCons (gName 2) gNil))) rfl sc_allS.nd (pi_tup (pe_ix ix_tup (pv 0) pe_int (fun _ _ => rfl))) (blkOk_by (N := ["book", "sides", "_"]) (sc := defScope s_all_sides) (by decide +kernel)) (fun _ _ _ _ _ => (pg_tup rfl (pgs_cons (pg_name (i := 1) sc_allS.nd rfl (Or.inl rfl)) (pgs_cons (pg_name (i := 2) sc_allS.nd rfl (Or.inl rfl)) pgs_nil)))) (fun _ _ _ _ _ => pts_nil) (fun _ _ _ _ _ => (pv 1))))), ?_⟩
  obtain ⟨a, b, xs, rfl, ha, hb, hp⟩ := id hx
  have pl : xs.length = qs.length := paired_len hp
  refine ⟨_, rfl, a, _, _, _, rfl, rfl, ha, rfl, b, rfl, ⟨_, hb⟩, fun D nD => lc_mapT (xs := xs) (fun i y H => ∃ q, qs[i]? = some q ∧ SiV K H y q.1) (fun _ _ _ _ h g => let ⟨q, e, v⟩ := h; ⟨q, e, v.st g⟩) nD hb (by omega) (fun i x H5 Kc hx5 g5 kc => ?_) (fun ys H5 hD hl g5 hR => ?_)⟩
  · obtain ⟨q, hqi, hxq⟩ := paired_get hp hx5
    obtain ⟨t, s', rfl, ht, hs'⟩ := hxq.gr g5
    refine ⟨t, _, rfl, ht, rfl, _, _, rfl, _, _, rfl, rfl, rfl, _, rfl, kc _ _ (Gr.refl _) ⟨q, hqi, hs'⟩⟩
  · exact hQ D ys H5 g5 (SqL.of hD) (rows_of_list (by rw [hl, pl]) hR)
theorem sc_sww : FnScope ["book", "sides", "wall"] ["book"] (defScope s_sides_with_walls) := ⟨rfl, rfl, rfl, by decide +kernel, rfl, by decide +kernel, by decide +kernel⟩
theorem cl_sww (D : Df K mg "sides_with_walls" s_sides_with_walls) : Cl P w K mg base 1 "sides_with_walls" ["book"] (spRows K fun q => q.1 ++ [q.2]) := by
  refine D.cl (fun _ _ _ _ _ _ us hl => match us, hl with | [_], _ => rfl) fun f fd F => F.ok sc_sww (fun vs H Q E h => ?_) (fun cdv A outer s H vs Q E hr h => ?_)
  · obtain ⟨x, d, qs, rfl, _⟩ := h
    rfl
  obtain ⟨x, d, qs, rfl, hx, ql, hq, hQ⟩ := h
  refine ⟨_, (pss_one (ps_ret (pe_lc (own := [("sides", 1), ("wall", 2)]) (g := gTup K 2 (gCons (gName 1) (gCons (gName 2) gNil))) rfl sc_sww.nd (pi_tup (pe_ix ix_tup (pv 0) pe_int (fun _ _ => rfl))) (blkOk_by (N := ["book", "sides", "wall"]) (sc := defScope s_sides_with_walls) (by decide +kernel)) (fun _ _ _ _ _ => (pg_tup rfl (pgs_cons (pg_name (i := 1) sc_sww.nd rfl (Or.inl rfl)) (pgs_cons (pg_name (i := 2) sc_sww.nd rfl (Or.inl rfl)) pgs_nil)))) (fun _ _ _ _ _ => pts_nil) (fun _ _ _ _ _ => (pe_op (r := rCatT K) op_catT (pv 1) (pe_tup (pa_cons (pv 2) pa_nil))))))), ?_⟩
  obtain ⟨a, b, xs, rfl, ha, hb, hp⟩ := id hx
  have pl : xs.length = qs.length := paired_len hp
  refine ⟨_, rfl, a, _, _, _, rfl, rfl, ha, rfl, b, rfl, ⟨_, hb⟩, fun D nD => lc_mapT (xs := xs) (fun i y H => ∃ q, qs[i]? = some q ∧ SiV K H y (q.1 ++ [q.2])) (fun _ _ _ _ h g => let ⟨q, e, v⟩ := h; ⟨q, e, v.st g⟩) nD hb (by omega) (fun i x H5 Kc hx5 g5 kc => ?_) (fun ys H5 hD hl g5 hR => ?_)⟩
  · obtain ⟨q, hqi, hxq⟩ := paired_get hp hx5
    obtain ⟨t, s', rfl, ht, b', rfl, hb'⟩ := hxq.gr g5
    have ok := hq q (List.mem_of_getElem? hqi)
    refine ⟨t, _, rfl, ht, rfl, _, _, rfl, _, _, rfl, rfl, rfl, ?_⟩
    refine ⟨_, rfl, _, rfl, szN (by show 1 ≤ 1000000; decide), fun p0 n0 => ?_⟩
    have k0 := (Gr.refl H5).new n0 (.tup [.int q.2])
    refine ⟨_, _, _, _, rfl, rfl, k0.seqT hb', SqT.of upd_same, ne_of_nonZ ok.1, ?_, fun z => absurd z (List.cons_ne_nil _ _), fun _ p1 n1 => ?_⟩
    · rw [List.length_map]
      exact szN (by show q.1.length + 1 ≤ 1000000; have := ok.2; omega)
    have k1 := k0.new n1 (.tup (q.1.map V.int ++ [.int q.2]))
    exact kc _ _ k1 ⟨q, hqi, p1, rfl, SqT.of (by rw [upd_same, List.map_append]; rfl)⟩
  · exact hQ D ys H5 g5 (SqL.of hD) (rows_of_list (by rw [hl, pl]) hR)
/-- how many rows of a book count -/
def rankS (qs : List (List Int × Int)) : Nat := (keptO (qs.map fun q => q.1)).length
def rankW (qs : List (List Int × Int)) : Nat := (keptO (qs.map fun q => q.1 ++ [q.2])).length
def spRank (K : PySem.W.Frag) (T : Nat → Addr) : Sp := fun vs H Q _ => ∃ x d qs n, vs = [x] ∧ Tb5 T H ∧ BkV K H x d qs ∧ BOk d qs ∧ (∀ q ∈ qs, BdI n (q.1 ++ [q.2])) ∧ n ≤ 300 ∧ ∀ H', Gr H H' → Q (.int ((rankS qs : Nat) : Int)) H'
theorem rows_ok {d n : Nat} {qs : List (List Int × Int)} (ok : BOk d qs) (hb : ∀ q ∈ qs, BdI n (q.1 ++ [q.2])) : (∀ x ∈ qs.map (fun q => q.1), x.length = d ∧ BdI n x) ∧ ∀ x ∈ qs.map (fun q => q.1 ++ [q.2]), x.length = d + 1 ∧ BdI n x := by
  refine ⟨fun x hx => ?_, fun x hx => ?_⟩
  · obtain ⟨q, hq, rfl⟩ := List.mem_map.mp hx
    exact ⟨(ok.ok q hq).2, fun z hz => hb q hq z (List.mem_append_left _ hz)⟩
  · obtain ⟨q, hq, rfl⟩ := List.mem_map.mp hx
    exact ⟨by rw [List.length_append, (ok.ok q hq).2]; rfl, hb q hq⟩
theorem wd_rows {n k : Nat} (h : n ≤ 300) (hk : k ≤ 8) : (n + 1) * 2 ^ k ≤ 100000 :=
  Nat.le_trans (Nat.mul_le_mul (show n + 1 ≤ 301 by omega) (Nat.pow_le_pow_right (by decide) hk)) (by decide)
theorem sc_rank : FnScope ["book"] ["book"] (defScope s_rank) := ⟨rfl, rfl, rfl, by decide +kernel, rfl, by decide +kernel, by decide +kernel⟩
theorem cl_rank {T : Nat → Addr} (D : Df K mg "rank" s_rank) (CCB : Cl P w K mg base 38 "check_book" ["book"] (spChkBk K T)) (CA : Cl P w K mg base 1 "all_sides" ["book"] (spRows K fun q => q.1)) (CR : Cl P w K mg base 37 "rank_of" ["rows"] (spRankOf K)) : Cl P w K mg base 39 "rank" ["book"] (spRank K T) := by
  refine D.cl (fun _ _ _ _ _ _ us hl => match us, hl with | [_], _ => rfl) fun f fd F => F.ok sc_rank (fun vs H Q E h => ?_) (fun cdv A outer s H vs Q E hr h => ?_)
  · obtain ⟨x, d, qs, n, rfl, _⟩ := h
    rfl
  obtain ⟨x, d, qs, n, rfl, tb, hx, ok, hb, hn, hQ⟩ := h
  refine ⟨_, (pss_cons (ps_expr (pe_cl CCB (hr.mono (by decide)) (pa_cons (pv 0) pa_nil)))
    (pss_one (ps_ret (pe_cl CR (hr.mono (by decide)) (pa_cons (pe_cl CA (hr.mono (by decide)) (pa_cons (pv 0) pa_nil)) pa_nil))))), ?_⟩
  have d8 := ok.d8
  have d1 := ok.d1
  have l8 := ok.l8
  refine ⟨_, rfl, x, d, qs, rfl, tb, hx, ok, fun H1 g1 => ?_⟩
  refine ⟨_, rfl, x, d, qs, rfl, hx.gr g1, by omega, fun q hq => ⟨(ok.ok q hq).1.nz, by rw [(ok.ok q hq).2]; omega⟩, fun a xs H2 g2 ha hp => ?_⟩
  exact ⟨a, xs, _, d, n, rfl, ha, hp, (rows_ok ok hb).1, d1, by omega, by rw [List.length_map]; omega, wd_rows hn (by rw [List.length_map]; exact l8), fun H' g => hQ H' ((g1.trans g2).trans g)⟩
def spAtOnce (K : PySem.W.Frag) (T : Nat → Addr) : Sp := fun vs H Q _ => ∃ x d qs n, vs = [x] ∧ Tb5 T H ∧ BkV K H x d qs ∧ BOk d qs ∧ (∀ q ∈ qs, BdI n (q.1 ++ [q.2])) ∧ n ≤ 300 ∧ ∀ H', Gr H H' → Q (.bl (decide (rankS qs = rankW qs))) H'
theorem sc_atOnce : FnScope ["book"] ["book"] (defScope s_at_once) := ⟨rfl, rfl, rfl, by decide +kernel, rfl, by decide +kernel, by decide +kernel⟩
theorem cl_atOnce {T : Nat → Addr} (D : Df K mg "at_once" s_at_once) (CCB : Cl P w K mg base 38 "check_book" ["book"] (spChkBk K T)) (CA : Cl P w K mg base 1 "all_sides" ["book"] (spRows K fun q => q.1)) (CW : Cl P w K mg base 1 "sides_with_walls" ["book"] (spRows K fun q => q.1 ++ [q.2])) (CR : Cl P w K mg base 37 "rank_of" ["rows"] (spRankOf K)) : Cl P w K mg base 39 "at_once" ["book"] (spAtOnce K T) := by
  refine D.cl (fun _ _ _ _ _ _ us hl => match us, hl with | [_], _ => rfl) fun f fd F => F.ok sc_atOnce (fun vs H Q E h => ?_) (fun cdv A outer s H vs Q E hr h => ?_)
  · obtain ⟨x, d, qs, n, rfl, _⟩ := h
    rfl
  obtain ⟨x, d, qs, n, rfl, tb, hx, ok, hb, hn, hQ⟩ := h
  refine ⟨_, (pss_cons (ps_expr (pe_cl CCB (hr.mono (by decide)) (pa_cons (pv 0) pa_nil)))
    (pss_one (ps_ret (pe_cmpR op_eq (pe_cl CR (hr.mono (by decide)) (pa_cons (pe_cl CA (hr.mono (by decide)) (pa_cons (pv 0) pa_nil)) pa_nil)) (pe_cl CR (hr.mono (by decide)) (pa_cons (pe_cl CW (hr.mono (by decide)) (pa_cons (pv 0) pa_nil)) pa_nil)) (nomark _))))), ?_⟩
  have d8 := ok.d8
  have d1 := ok.d1
  have l8 := ok.l8
  have hq : ∀ q ∈ qs, NonZ q.1 ∧ q.1.length ≤ 1000 := fun q hq => ⟨(ok.ok q hq).1.nz, by rw [(ok.ok q hq).2]; omega⟩
  refine ⟨_, rfl, x, d, qs, rfl, tb, hx, ok, fun H1 g1 => ?_⟩
  refine ⟨_, rfl, x, d, qs, rfl, hx.gr g1, by omega, hq, fun a xs H2 g2 ha hp => ?_⟩
  refine ⟨a, xs, _, d, n, rfl, ha, hp, (rows_ok ok hb).1, d1, by omega, by rw [List.length_map]; omega, wd_rows hn (by rw [List.length_map]; exact l8), fun H3 g3 => ?_⟩
  have g13 := (g1.trans g2).trans g3
  refine ⟨_, rfl, x, d, qs, rfl, hx.gr g13, by omega, hq, fun a' xs' H4 g4 ha' hp' => ?_⟩
  refine ⟨a', xs', _, d + 1, n, rfl, ha', hp', (rows_ok ok hb).2, by omega, by omega, by rw [List.length_map]; omega, wd_rows hn (by rw [List.length_map]; exact l8), fun H5 g5 => ?_⟩
  refine ⟨rfl, ?_⟩
  have e : decide (V.int ((rankS qs : Nat) : Int) = V.int ((rankW qs : Nat) : Int)) = decide (rankS qs = rankW qs) := by
    by_cases c : rankS qs = rankW qs
    · rw [c, decide_eq_true rfl, decide_eq_true rfl]
    · rw [decide_eq_false c, decide_eq_false fun e => c (by injection e with e; omega)]
  have := hQ H5 ((g13.trans g4).trans g5)
  rw [← e] at this
  exact this
end
end SB
namespace SB
open PySem L2 GxR GA RZ
/-! ### lists of lists of numbers -/
def SiL (K : PySem.W.Frag) (H : Hp) (x : V) (ns : List Int) : Prop := ∃ a, x = .ref a ∧ SqL K H a (ns.map V.int)
theorem SiL.gr {K : PySem.W.Frag} {H H' : Hp} {x : V} {ns : List Int} (h : SiL K H x ns) (g : Gr H H') : SiL K H' x ns := by
  obtain ⟨a, e, s⟩ := h
  exact ⟨a, e, g.seqL s⟩
theorem silP_gr {K : PySem.W.Frag} {H H' : Hp} (g : Gr H H') : ∀ {xs : List V} {ks : List (List Int)}, Paired (SiL K H) xs ks → Paired (SiL K H') xs ks
  | _, _, .nil => .nil
  | _, _, .cons r t => .cons (r.gr g) (silP_gr g t)
def rwP (r : List Int) : PyData := .list (r.map PyData.int)
theorem dp_rows {K : PySem.W.Frag} {H : Hp} : ∀ {xs : List V} {rows : List (List Int)}, Paired (SiL K H) xs rows → DpAll K H xs (rows.map rwP)
  | _, _, .nil => .nil
  | _, _, .cons ⟨a, ea, hs⟩ r => by
    subst ea
    exact .cons (.lst hs (dp_ints _)) (dp_rows r)
theorem lay_rows : ∀ rows : List (List Int), PyData.canLayAll0 (rows.map rwP) = true
  | [] => rfl
  | r :: rs => by
    show (PyData.canLay0 (rwP r) && PyData.canLayAll0 (rs.map rwP)) = true
    rw [lay_rows rs, Bool.and_true]
    exact lay_ints r
theorem dep_rows : ∀ rows : List (List Int), PyData.depthAll (rows.map rwP) ≤ 2
  | [] => by decide
  | r :: rs => by
    have h := dep_ints r
    have ih := dep_rows rs
    simp [PyData.depthAll, rwP, PyData.depth] at h ih ⊢
    omega
theorem shp_rows (rows : List (List Int)) : SeqAt.shaped (.list (rows.map rwP)) = true := by
  unfold SeqAt.shaped
  rw [Bool.and_eq_true]
  refine ⟨lay_rows rows, decide_eq_true ?_⟩
  have h := dep_rows rows
  simp [PyData.depth] at h ⊢
  omega
theorem eqv_rows (rows : List (List Int)) : PyData.eqv (.list (rows.map rwP)) (.list []) = rows.isEmpty := by
  cases rows <;> rfl
/-! ### how wide the law's parts are -/
theorem sg_abs : ∀ k, (sgI k).natAbs = 1
  | 0 => rfl
  | k + 1 => by
    show (- sgI k).natAbs = 1
    rw [Int.natAbs_neg, sg_abs k]
theorem altZ_le {f : Nat → Int} {B : Nat} : ∀ (k : Nat), (∀ j, j < k → (f j).natAbs ≤ B) → (altZ f k).natAbs ≤ k * B
  | 0, _ => by show 0 ≤ _; omega
  | k + 1, h => by
    have a := altZ_le k fun j hj => h j (Nat.lt_succ_of_lt hj)
    have b : (sgI k * f k).natAbs ≤ B := by
      rw [Int.natAbs_mul, sg_abs, Nat.one_mul]
      exact h k (Nat.lt_succ_self k)
    show (altZ f k + sgI k * f k).natAbs ≤ (k + 1) * B
    rw [Nat.succ_mul]
    omega
theorem cutR_gI {j k : Nat} {l : List Int} {b : Nat} (h : BdI b l) : BdI b (cutR j l) := fun z hz => by
  unfold cutR at hz
  rcases List.mem_append.mp hz with hz | hz
  · exact h z (List.mem_of_mem_take hz)
  · exact h z (List.mem_of_mem_drop hz)
theorem ls_bd {b : Nat} : ∀ (n : Nat) (rows : List (List Int)), n ≤ 8 → (∀ r ∈ rows, BdI b r) → (lsN n rows).natAbs ≤ 2 ^ (n * (b + 3))
  | 0, rows, _, _ => by show 1 ≤ 2 ^ (0 * (b + 3)); rw [Nat.zero_mul]; decide
  | n + 1, rows, hn, h => by
    have key : ∀ j, j < n + 1 → (gI (rows.headD []) j * lsN n (rows.tail.map (cutR j))).natAbs ≤ 2 ^ b * 2 ^ (n * (b + 3)) := fun j _ => by
      rw [Int.natAbs_mul]
      refine Nat.mul_le_mul ?_ (ls_bd n _ (by omega) fun r hr => ?_)
      · cases rows with
        | nil => show (gI [] j).natAbs ≤ _; rw [gI_out (Nat.zero_le _)]; exact Nat.zero_le _
        | cons r rs => exact Nat.le_of_lt ((h r (List.mem_cons_self ..)).g j)
      · obtain ⟨q, hq, rfl⟩ := List.mem_map.mp hr
        exact cutR_gI (k := 0) (h q (List.mem_of_mem_tail hq))
    have := altZ_le (n + 1) key
    show (altZ _ (n + 1)).natAbs ≤ _
    refine Nat.le_trans this ?_
    have e : (n + 1) * (b + 3) = 3 + (b + n * (b + 3)) := by rw [Nat.succ_mul]; omega
    rw [e, Nat.pow_add 2 3, Nat.pow_add 2 b]
    exact Nat.mul_le_mul (by omega) (Nat.le_refl _)
end SB
namespace SB
open PySem L2 GxR GA RZ
/-- an iterator over a row that stands still -/
structure OneIt (J : It) (xs : List V) (H1 : Hp) : Prop where
  stop : ∀ H, Gr H1 H → J.stop xs.length H
  go : ∀ H i, Gr H1 H → i < xs.length → J.go i H
  yld : ∀ H i v H', Gr H1 H → i < xs.length → J.yld i H v H' → H' = H ∧ xs[i]? = some v
theorem oi_L {K : PySem.W.Frag} {a : Addr} {xs : List V} {H1 : Hp} (ha : SqL K H1 a xs) : OneIt (Itl K a) xs H1 :=
  ⟨fun H g => ⟨xs, g.seqL ha, Nat.le_refl _⟩, fun H i g hi => ⟨xs, xs[i], g.seqL ha, List.getElem?_eq_getElem hi⟩, fun H i v H' g _ hy => by
    obtain ⟨rfl, hx⟩ := hy
    exact ⟨rfl, hx xs (g.seqL ha)⟩⟩
theorem oi_T {K : PySem.W.Frag} {a : Addr} {xs : List V} {H1 : Hp} (ha : SqT K H1 a xs) : OneIt (Itt K a) xs H1 :=
  ⟨fun H g => ⟨xs, g.seqT ha, Nat.le_refl _⟩, fun H i g hi => ⟨xs, xs[i], g.seqT ha, List.getElem?_eq_getElem hi⟩, fun H i v H' g _ hy => by
    obtain ⟨rfl, hx⟩ := hy
    exact ⟨rfl, hx xs (g.seqT ha)⟩⟩
/-- a list of what comes of each, which may be lists -/
theorem lc_one {J : It} {xs : List V} {g : TG} {te : TE} {vs : List Nat} {σ : L2.St} {H1 : Hp} {D : Addr} {Qd : Hp → Prop} (Z : OneIt J xs H1) (R : Nat → V → Hp → Prop) (hst : ∀ i y H H', R i y H → Gr H H' → R i y H') (hput : ∀ i y H o, R i y H → R i y (upd H D o)) (nD : H1 D = none) (hz : xs.length ≤ sizeLine)
    (step : ∀ (i : Nat) x H (Kc : VK), xs[i]? = some x → Gr H1 H → (∃ ys, H D = some (.lst ys)) → (∀ v H4, Gr H H4 → R i v H4 → Kc v H4) → g x (wipe σ vs) H fun σ2 H2 => wipe σ2 vs = wipe σ vs ∧ te σ2 H2 Kc)
    (fin : ∀ ys H, H D = some (.lst ys) → ys.length = xs.length → Gr H1 H → (∀ i y, ys[i]? = some y → R i y H) → Qd H) :
    ∃ W : Nat → Nat → Hp → Prop, (∃ m, W 0 m (upd H1 D (.lst []))) ∧ ∀ i m H, W i m H → (J.stop i H ∧ Qd H) ∨
      (J.go i H ∧ ∃ Nx : Hp → Prop, (∀ H', Nx H' → ∃ m', m' < m ∧ W (i + 1) m' H') ∧ ∀ x H', J.yld i H x H' → g x (wipe σ vs) H' fun σ2 H2 => wipe σ2 vs = wipe σ vs ∧ tYes σ2 H2 fun b H3 =>
        if b = true then te σ2 H3 fun y H4 => ∃ acc, H4 D = some (.lst acc) ∧ acc.length < sizeLine ∧ Nx (upd H4 D (.lst (acc ++ [y]))) else Nx H3) := by
  refine ⟨fun i m H => i + m = xs.length ∧ ∃ ys, H D = some (.lst ys) ∧ ys.length = i ∧ GrD D H1 H ∧ ∀ j y, ys[j]? = some y → R j y H, ⟨xs.length, Nat.zero_add _, [], upd_same, rfl, (GrD.refl D H1).set _, fun j y h => by simp at h⟩, fun i m H ⟨hm, ys, hD, hy, gr, hR⟩ => ?_⟩
  have g1 := gr.to nD
  cases m with
  | zero =>
    have e : i = xs.length := by omega
    subst e
    exact .inl ⟨Z.stop H g1, fin ys H hD (by omega) g1 hR⟩
  | succ m =>
    have i1 : i < xs.length := by omega
    refine .inr ⟨Z.go H i g1 i1, fun H' => ∃ ys, H' D = some (.lst ys) ∧ ys.length = i + 1 ∧ GrD D H1 H' ∧ ∀ j y, ys[j]? = some y → R j y H', fun H' h => ⟨m, Nat.lt_succ_self _, by omega, h⟩, fun v H' hyl => ?_⟩
    obtain ⟨rfl, hx⟩ := Z.yld H i v H' g1 i1 hyl
    refine step i v H' _ hx g1 ⟨ys, hD⟩ fun y H4 g4 rv => ?_
    have hD4 : H4 D = some (.lst ys) := g4.keep D _ (fun _ z => nomatch z) hD
    refine ⟨ys, hD4, Nat.lt_of_lt_of_le (by omega : ys.length < xs.length) hz, ys ++ [y], upd_same, by rw [List.length_append, hy]; rfl, (gr.trans (g4.d D)).set _, fun j z hz2 => ?_⟩
    by_cases hj : j < ys.length
    · rw [List.getElem?_append_left hj] at hz2
      exact hput _ _ _ _ (hst _ _ _ _ (hR j z hz2) g4)
    · have hl2 := (List.getElem?_eq_some_iff.mp hz2).1
      rw [List.length_append] at hl2
      have hl2 : j < ys.length + 1 := hl2
      have ej : j = ys.length := by omega
      subst ej
      rw [List.getElem?_append_right (Nat.le_refl _), Nat.sub_self] at hz2
      cases hz2
      rw [hy]
      exact hput _ _ _ _ rv
theorem SqL.put {K : PySem.W.Frag} {H : Hp} {a D : Addr} {xs : List V} {o : HO} (h : SqL K H a xs) (n : a ≠ D) : SqL K (upd H D o) a xs := by
  rcases h with (h | ⟨u, h⟩) | h
  · exact .inl (.inl (by rw [upd_ne n]; exact h))
  · exact .inl (.inr ⟨u, by rw [upd_ne n]; exact h⟩)
  · exact .inr h
/-- a list of numbers that is not D -/
def SiN (K : PySem.W.Frag) (D : Addr) (H : Hp) (x : V) (ns : List Int) : Prop := ∃ a, x = .ref a ∧ a ≠ D ∧ SqL K H a (ns.map V.int)
theorem SiN.gr {K : PySem.W.Frag} {D : Addr} {H H' : Hp} {x : V} {ns : List Int} (h : SiN K D H x ns) (g : Gr H H') : SiN K D H' x ns := by
  obtain ⟨a, e, n, s⟩ := h
  exact ⟨a, e, n, g.seqL s⟩
theorem SiN.put {K : PySem.W.Frag} {D : Addr} {H : Hp} {x : V} {ns : List Int} {o : HO} (h : SiN K D H x ns) : SiN K D (upd H D o) x ns := by
  obtain ⟨a, e, n, s⟩ := h
  exact ⟨a, e, n, SqL.put s n⟩
theorem SiN.l {K : PySem.W.Frag} {D : Addr} {H : Hp} {x : V} {ns : List Int} (h : SiN K D H x ns) : SiL K H x ns := by
  obtain ⟨a, e, _, s⟩ := h
  exact ⟨a, e, s⟩
end SB
namespace SB
open PySem L2 GxR GA RZ
section
variable {P : Program} {w : World} {K : PySem.W.Frag} {mg : Str → Option Value} {base : Heap}
theorem grLst {H H' : Hp} {a : Addr} {xs : List V} (g : Gr H H') (h : H a = some (.lst xs)) : H' a = some (.lst xs) := g.keep a _ (fun _ z => nomatch z) h
def spLeastD (K : PySem.W.Frag) : Nat → Sp
  | 0 => fun _ _ _ _ => False
  | n + 1 => fun vs H Q _ => ∃ a xs rows b, vs = [.ref a] ∧ SqL K H a xs ∧ Paired (SiL K H) xs rows ∧ rows.length = n ∧ (∀ r ∈ rows, r.length = n ∧ BdI b r) ∧ n ≤ 8 ∧ b ≤ 1000 ∧ ∀ H', Gr H H' → Q (.int (lsN n rows)) H'
theorem sc_lst : FnScope ["rows", "total", "sign_v", "j", "row", "rest"] ["rows"] (defScope s__law_least) := ⟨rfl, rfl, rfl, by decide +kernel, rfl, by decide +kernel, by decide +kernel⟩
theorem cl_least (D : Df K mg "_law_least" s__law_least) (B : Blt mg) : ∀ n, Cl P w K mg base n "_law_least" ["rows"] (spLeastD K n)
  | 0 => D.cl (fun _ _ _ _ _ _ us hl => match us, hl with | [_], _ => rfl) fun f fd F => ⟨fun _ _ _ _ h => h.elim, fun A outer s H args us vs Q E hr e b r h => h.elim⟩
  | n + 1 => by
    have CL := cl_least D B n
    refine D.cl (fun _ _ _ _ _ _ us hl => match us, hl with | [_], _ => rfl) fun f fd F => F.ok sc_lst (fun vs H Q E h => ?_) (fun cdv A outer s H vs Q E hr h => ?_)
    · obtain ⟨a, xs, rows, b, rfl, _⟩ := h
      rfl
    obtain ⟨a, xs, rows, b, rfl, ha, hp, hrl, hrow, n8, b1000, hQ⟩ := h
    refine ⟨_, (pss_cons (ps_if (pt_cmpR (op_eqD hr.units) (pv 0) (pe_lst pa_nil) (nomark _)) (pss_one (ps_ret pe_int)) pss_nil)
      (pss_cons (ps_asg (pe_tup (pa_cons pe_int (pa_cons pe_int pa_nil))) (pg_tup rfl (pgs_cons (pg_name (i := 1) sc_lst.nd rfl (Or.inl rfl)) (pgs_cons (pg_name (i := 2) sc_lst.nd rfl (Or.inl rfl)) pgs_nil))))
      (pss_cons (ps_for PassesOwn.never rfl (pi_range1 rfl B.rng (pa_cons (pe_len (pv 0) B.len) pa_nil)) (pg_name (i := 3) sc_lst.nd rfl (Or.inr rfl))
        (pss_cons (ps_setLc (i := 5) (own := [("row", 4)]) (g := gName 4) rfl sc_lst.nd rfl rfl rfl (pi_list (pe_slice sl_list (pv 0) (po_some pe_int) po_none)) (blkOk_by (N := ["rows", "total", "sign_v", "j", "row", "rest"]) (sc := defScope s__law_least) (by decide +kernel)) (fun _ _ _ _ _ => (pg_name (i := 4) sc_lst.nd rfl (Or.inl rfl))) (fun _ _ _ _ _ => pts_nil) (fun _ _ _ _ _ => (pe_op (r := rCat) op_cat (pe_slice (r := rSlL K) sl_list (pv 4) po_none (po_some (pv 3))) (pe_slice (r := rSlL K) sl_list (pv 4) (po_some (pe_op op_add (pv 3) pe_int)) po_none))))
        (pss_cons (ps_set (i := 1) sc_lst.nd rfl (.inl rfl) (pe_op op_add (pv 1) (pe_op op_mulW (pe_op op_mulW (pv 2) (pe_ix ix_list (pe_ix ix_list (pv 0) pe_int (fun _ _ => rfl)) (pv 3) (fun _ _ => rfl))) (pe_cl CL hr (pa_cons (pv 5) pa_nil)))))
        (pss_one (ps_set (i := 2) sc_lst.nd rfl (.inl rfl) (pe_un un_neg (pv 2)))))))
      (pss_one (ps_ret (pv 1)))))), ?_⟩
    refine ⟨_, rfl, szN (by show 0 ≤ 1000000; decide), fun p0 n0 => ?_⟩
    have k0 := (Gr.refl H).new n0 (.lst [])
    have e0 : (upd H p0 (.lst [])) p0 = some (.lst []) := upd_same
    generalize upd H p0 (.lst []) = H0 at k0 e0 ⊢
    refine ⟨.list (rows.map rwP), .list [], .lst (k0.seqL ha) (dp_rows (silP_gr k0 hp)), .lst (SqL.of e0) .nil, shp_rows rows, by decide, _, rfl, ?_⟩
    rw [eqv_rows]
    cases n with
    | zero =>
      rw [List.length_eq_zero_iff.mp hrl] at hQ ⊢
      exact iteT (hQ H0 k0)
    | succ m =>
      obtain ⟨r0, rs, rfl⟩ : ∃ r0 rs, rows = r0 :: rs := by
        cases rows with
        | nil => simp at hrl
        | cons r0 rs => exact ⟨r0, rs, rfl⟩
      refine iteF ⟨szN (by show 2 ≤ 1000000; decide), fun p1 n1 => ?_⟩
      have k1 := k0.new n1 (.tup [.int 0, .int 1])
      have e1 : (upd H0 p1 (.tup [.int 0, .int 1])) p1 = some (.tup [.int 0, .int 1]) := upd_same
      generalize upd H0 p1 (.tup [.int 0, .int 1]) = H1 at k1 e1 ⊢
      refine ⟨p1, _, rfl, SqT.of e1, rfl, _, _, rfl, _, _, rfl, rfl, ?_⟩
      have pl : xs.length = m + 1 := by rw [paired_len hp, hrl]
      let F' : Nat → Int := fun j => gI r0 j * lsN m (rs.map (cutR j))
      have hr0 := hrow r0 (List.mem_cons_self ..)
      refine ⟨_, rfl, a, xs, rfl, .inl (k1.seqL ha), _, rfl, by omega, by omega, for_range (lo := 0) (n := xs.length) (fun k σ H2 => ∃ c3 c4 c5, σ = [some (.ref a), some (.int (altZ F' k)), some (.int (sgI k)), c3, c4, c5] ∧ Gr H H2) ⟨_, _, _, rfl, k1⟩ (fun i σ H2 hi h => ?_) (fun σ H2 h => ?_)⟩
      · obtain ⟨c3, c4, c5, rfl, g2⟩ := h
        rw [Int.zero_add]
        rw [pl] at hi
        refine ⟨_, rfl, _, rfl, a, xs, rfl, g2.seqL ha, fun p2 n2 => ?_⟩
        rw [show cutV xs (some 1) none = xs.drop 1 from cut_from xs 1 (by omega)]
        have k2 := g2.new n2 (.lst (xs.drop 1))
        have e2 : (upd H2 p2 (.lst (xs.drop 1))) p2 = some (.lst (xs.drop 1)) := upd_same
        generalize upd H2 p2 (.lst (xs.drop 1)) = H3 at k2 e2 ⊢
        have hp3 : Paired (SiL K H3) (xs.drop 1) rs := paired_drop 1 (silP_gr k2 hp)
        refine ⟨p2, rfl, ⟨_, SqL.of e2⟩, fun D nD => lc_one (oi_L (SqL.of e2)) (fun k y H' => ∃ r, rs[k]? = some r ∧ SiN K D H' y (cutR i r)) (fun k y H' H'' h g => let ⟨r, e, v⟩ := h; ⟨r, e, v.gr g⟩) (fun k y H' o h => let ⟨r, e, v⟩ := h; ⟨r, e, v.put⟩) nD (by rw [List.length_drop]; exact szN (by omega)) (fun k y H5 Kc hy g5 hDl kc => ?_) (fun ys H5 hD hl5 g5 hR => ?_)⟩
        · obtain ⟨r, hr2, a4, rfl, ha4⟩ := paired_get hp3 hy
          have rl : r.length = m + 1 := (hrow r (List.mem_cons_of_mem _ (List.mem_of_getElem? hr2))).1
          have ha5 := g5.seqL ha4
          refine ⟨rfl, _, rfl, _, rfl, _, rfl, a4, _, rfl, ha5, fun p3 n3 => ?_⟩
          rw [show cutV (r.map V.int) none (some ((i : Nat) : Int)) = (r.map V.int).take i from cut_to _ i (by rw [List.length_map]; omega)]
          have k3 := (Gr.refl H5).new n3 (.lst ((r.map V.int).take i))
          have e3 : (upd H5 p3 (.lst ((r.map V.int).take i))) p3 = some (.lst ((r.map V.int).take i)) := upd_same
          generalize upd H5 p3 (.lst ((r.map V.int).take i)) = H6 at k3 e3 ⊢
          refine ⟨_, rfl, _, rfl, _, _, rfl, rfl, _, rfl, a4, _, rfl, k3.seqL ha5, fun p4 n4 => ?_⟩
          rw [show cutV (r.map V.int) (some (((i : Nat) : Int) + 1)) none = (r.map V.int).drop (i + 1) from cut_from _ (i + 1) (by rw [List.length_map]; omega)]
          have k4 := (Gr.refl H6).new n4 (.lst ((r.map V.int).drop (i + 1)))
          have e4 : (upd H6 p4 (.lst ((r.map V.int).drop (i + 1)))) p4 = some (.lst ((r.map V.int).drop (i + 1))) := upd_same
          have e34 := grLst k4 e3
          generalize upd H6 p4 (.lst ((r.map V.int).drop (i + 1))) = H7 at k4 e4 e34 ⊢
          have em : (r.map V.int).take i ++ (r.map V.int).drop (i + 1) = (cutR i r).map V.int := by
            unfold cutR
            rw [List.map_append, List.map_take, List.map_drop]
          refine ⟨p3, p4, _, _, rfl, rfl, e34, e4, by rw [List.length_take, List.length_drop, List.length_map]; exact szN (by omega), fun p5 n5 => ?_⟩
          rw [em]
          obtain ⟨ys0, hD0⟩ := hDl
          have hD7 := grLst k4 (grLst k3 hD0)
          exact kc _ _ ((k3.trans k4).new n5 _) ⟨r, hr2, p5, rfl, (fun e => by rw [e, hD7] at n5; cases n5), SqL.of upd_same⟩
        · have hpy : Paired (SiL K H5) ys (rs.map (cutR i)) := paired_at2 (by rw [hl5, List.length_map, ← paired_len hp3]) fun k y c hy hc => by
            obtain ⟨r, e, v⟩ := hR k y hy
            rw [List.getElem?_map, e] at hc
            cases hc
            exact v.l
          have gH := k2.trans g5
          have hx0 : ∃ x0, xs[0]? = some x0 ∧ SiL K H5 x0 r0 := by
            obtain ⟨x0, e⟩ : ∃ x0, xs[0]? = some x0 := ⟨_, List.getElem?_eq_getElem (by omega)⟩
            obtain ⟨r, er, v⟩ := paired_get hp e
            cases er
            exact ⟨x0, e, v.gr gH⟩
          obtain ⟨x0, ex0, q0, rfl, hq0⟩ := hx0
          have er0 := List.getElem?_eq_getElem (l := r0) (i := i) (by rw [hr0.1]; exact hi)
          have bF : (gI r0 i).natAbs < 2 ^ b := hr0.2.g i
          have bL := ls_bd (b := b) m (rs.map (cutR i)) (by omega) fun r hr => by
            obtain ⟨q, hq, rfl⟩ := List.mem_map.mp hr
            exact cutR_gI (k := 0) (hrow q (List.mem_cons_of_mem _ hq)).2
          have wd : m * (b + 3) ≤ 8 * 1003 := Nat.mul_le_mul (by omega) (by omega)
          have s1 : (sgI i).natAbs < 2 ^ 1 := by rw [sg_abs]; decide
          have s2 : (sgI i * gI r0 i).natAbs < 2 ^ b := by rw [Int.natAbs_mul, sg_abs, Nat.one_mul]; exact bF
          have s3 : (lsN m (rs.map (cutR i))).natAbs < 2 ^ (m * (b + 3) + 1) := Nat.lt_of_le_of_lt bL (Nat.pow_lt_pow_right (by decide) (by omega))
          refine ⟨_, rfl, _, rfl, _, rfl, a, xs, _, .ref q0, rfl, rfl, gH.seqL ha, atI_nat (j := 0) ex0, _, rfl, q0, _, _, .int (gI r0 i), rfl, rfl, hq0, atI_nat (by rw [List.getElem?_map, er0, gI_get er0]; rfl), _, _, rfl, rfl, cmw s1 bF (by omega), ?_⟩
          refine ⟨_, rfl, D, ys, rs.map (cutR i), b, rfl, SqL.of hD, hpy, by rw [List.length_map]; simpa using hrl, fun r hr => ?_, by omega, b1000, fun H6 g6 => ?_⟩
          · obtain ⟨q, hq, rfl⟩ := List.mem_map.mp hr
            have hq2 := hrow q (List.mem_cons_of_mem _ hq)
            refine ⟨?_, cutR_gI (k := 0) hq2.2⟩
            unfold cutR
            rw [List.length_append, List.length_take, List.length_drop, hq2.1]
            omega
          · refine ⟨_, _, rfl, rfl, cmw s2 s3 (by omega), _, _, rfl, rfl, _, rfl, _, rfl, ?_⟩
            refine ⟨some (.int ((i : Nat) : Int)), c4, some (.ref D), ?_, gH.trans g6⟩
            have ea : altZ F' (i + 1) = altZ F' i + sgI i * gI r0 i * lsN m (rs.map (cutR i)) := by
              show altZ F' i + sgI i * (gI r0 i * lsN m (rs.map (cutR i))) = _
              rw [Int.mul_assoc]
            have es : sgI (i + 1) = - sgI i := rfl
            rw [ea, es]
            rfl
      · obtain ⟨c3, c4, c5, rfl, g2⟩ := h
        rw [pl]
        exact ⟨_, rfl, hQ H2 g2⟩
end
end SB
namespace SB
open PySem L2 GxR GA RZ
theorem oi_R {lo : Int} {n : Nat} {H1 : Hp} : OneIt (Itr lo n) ((List.range n).map fun i => V.int (lo + ((i : Nat) : Int))) H1 :=
  ⟨fun H g => by show n ≤ _; rw [List.length_map, List.length_range]; exact Nat.le_refl _, fun H i g hi => by rw [List.length_map, List.length_range] at hi; exact hi, fun H i v H' g hi hy => by
    rw [List.length_map, List.length_range] at hi
    obtain ⟨rfl, rfl⟩ := hy
    exact ⟨rfl, by rw [List.getElem?_map, List.getElem?_range hi]; rfl⟩⟩
/-- a pick: a list of places that stands -/
def natV (p : List Nat) : List V := p.map fun i => V.int ((i : Nat) : Int)
def PkV (H : Hp) (x : V) (p : List Nat) : Prop := ∃ a, x = .ref a ∧ H a = some (.lst (natV p))
theorem PkV.gr {H H' : Hp} {x : V} {p : List Nat} (h : PkV H x p) (g : Gr H H') : PkV H' x p := by
  obtain ⟨a, e, s⟩ := h
  exact ⟨a, e, grLst g s⟩
theorem pkP_gr {H H' : Hp} (g : Gr H H') : ∀ {xs : List V} {ks : List (List Nat)}, Paired (PkV H) xs ks → Paired (PkV H') xs ks
  | _, _, .nil => .nil
  | _, _, .cons r t => .cons (r.gr g) (pkP_gr g t)
def PkN (D : Addr) (H : Hp) (x : V) (p : List Nat) : Prop := ∃ a, x = .ref a ∧ a ≠ D ∧ H a = some (.lst (natV p))
theorem PkN.gr {D : Addr} {H H' : Hp} {x : V} {p : List Nat} (h : PkN D H x p) (g : Gr H H') : PkN D H' x p := by
  obtain ⟨a, e, n, s⟩ := h
  exact ⟨a, e, n, grLst g s⟩
theorem PkN.put {D : Addr} {H : Hp} {x : V} {p : List Nat} {o : HO} (h : PkN D H x p) : PkN D (upd H D o) x p := by
  obtain ⟨a, e, n, s⟩ := h
  exact ⟨a, e, n, by rw [upd_ne n]; exact s⟩
theorem natV_ints (p : List Nat) : natV p = (p.map fun i => ((i : Nat) : Int)).map V.int := by
  unfold natV
  rw [List.map_map]
  rfl
theorem nextP_len {many : Nat} (h : many ≤ 8) (p : List Nat) : (nextP many p).length ≤ 8 := by
  unfold nextP
  dsimp only
  rw [List.length_map, List.length_range]
  omega
theorem flat_len {many : Nat} (h : many ≤ 8) : ∀ ps : List (List Nat), (ps.flatMap (nextP many)).length ≤ 8 * ps.length
  | [] => Nat.zero_le _
  | p :: ps => by
    have a := nextP_len h p
    have b := flat_len h ps
    rw [List.flatMap_cons, List.length_append, List.length_cons]
    omega
theorem pk_len {many : Nat} (h : many ≤ 8) : ∀ s, (pk many s).length ≤ 8 ^ s
  | 0 => Nat.le_refl _
  | s + 1 => by
    have a := flat_len h (pk many s)
    have b := pk_len h s
    show ((pk many s).flatMap (nextP many)).length ≤ 8 ^ (s + 1)
    rw [Nat.pow_succ]
    omega
end SB
namespace SB
open PySem L2 GxR GA RZ
section
variable {P : Program} {w : World} {K : PySem.W.Frag} {mg : Str → Option Value} {base : Heap}
theorem at_last {p : List Nat} {z : Nat} (gl : p.getLast? = some z) : atI ((p.map fun i => ((i : Nat) : Int)).map V.int) (-1) = some (.int ((z : Nat) : Int)) := by
  have hn : p ≠ [] := fun e => by rw [e] at gl; cases gl
  have hl : 0 < p.length := List.length_pos_iff.mpr hn
  have e1 : ixN p.length (-1) = some (p.length - 1) := by
    unfold ixN
    split <;> simp <;> omega
  unfold atI
  rw [List.length_map, List.length_map, e1]
  show ((p.map _).map V.int)[p.length - 1]? = _
  rw [List.getElem?_map, List.getElem?_map, ← List.getLast?_eq_getElem?, gl]
  rfl
/-- the picks -/
def spPicks (K : PySem.W.Frag) : Sp := fun vs H Q _ => ∃ many size : Nat, vs = [.int ((many : Nat) : Int), .int ((size : Nat) : Int)] ∧ many ≤ 8 ∧ size ≤ 8 ∧ ∀ a xs H', Gr H H' → H' a = some (.lst xs) → Paired (PkV H') xs (pk many size) → Q (.ref a) H'
theorem sc_lpk : FnScope ["many", "size", "found", "turn", "longer", "pick", "j"] ["many", "size"] (defScope s__law_picks) := ⟨rfl, rfl, rfl, by decide +kernel, rfl, by decide +kernel, by decide +kernel⟩
theorem cl_lpk (D : Df K mg "_law_picks" s__law_picks) (B : Blt mg) : Cl P w K mg base 1 "_law_picks" ["many", "size"] (spPicks K) := by
  refine D.cl (fun _ _ _ _ _ _ us hl => match us, hl with | [_, _], _ => rfl) fun f fd F => F.ok sc_lpk (fun vs H Q E h => ?_) (fun cdv A outer s H vs Q E hr h => ?_)
  · obtain ⟨many, size, rfl, _⟩ := h
    rfl
  obtain ⟨many, size, rfl, hm, hs, hQ⟩ := h
  refine ⟨_, (pss_cons (ps_set (i := 2) sc_lpk.nd rfl (.inl rfl) (pe_lst (pa_cons (pe_lst pa_nil) pa_nil)))
    (pss_cons (ps_for PassesOwn.never rfl (pi_range1 rfl B.rng (pa_cons (pv 1) pa_nil)) (pg_name (i := 3) sc_lpk.nd rfl (Or.inl rfl))
      (pss_cons (ps_set (i := 4) sc_lpk.nd rfl (.inl rfl) (pe_lst pa_nil))
      (pss_cons (ps_for PassesOwn.never rfl (pi_list (pv 2)) (pg_name (i := 5) sc_lpk.nd rfl (Or.inr rfl))
        (pss_one (ps_set (i := 4) sc_lpk.nd rfl (.inl rfl) (pe_op op_cat (pv 4) (pe_lc (own := [("j", 6)]) (g := gName 6) rfl sc_lpk.nd (pi_range2 rfl B.rng (pa_cons (pe_ifExp (pt_cmpR (op_neD hr.units) (pv 5) (pe_lst pa_nil) (nomark _)) (pe_op op_add (pe_ix ix_list (pv 5) (pe_un un_neg pe_int) (fun _ _ => rfl)) pe_int) pe_int) (pa_cons (pv 0) pa_nil))) (blkOk_by (N := ["many", "size", "found", "turn", "longer", "pick", "j"]) (sc := defScope s__law_picks) (by decide +kernel)) (fun _ _ _ _ _ => (pg_name (i := 6) sc_lpk.nd rfl (Or.inl rfl))) (fun _ _ _ _ _ => pts_nil) (fun _ _ _ _ _ => (pe_op (r := rCat) op_cat (pv 5) (pe_lst (pa_cons (pv 6) pa_nil)))))))))
      (pss_one (ps_set (i := 2) sc_lpk.nd rfl (.inl rfl) (pv 4))))))
    (pss_one (ps_ret (pv 2))))), ?_⟩
  refine ⟨szN (by show 0 ≤ 1000000; decide), fun p0 n0 => ⟨szN (by show 1 ≤ 1000000; decide), fun p1 n1 => ?_⟩⟩
  have k0 := (Gr.refl H).new n0 (.lst [])
  have k1 := k0.new n1 (.lst [.ref p0])
  have e0 : (upd H p0 (.lst [])) p0 = some (.lst []) := upd_same
  have e01 := grLst ((Gr.refl _).new n1 (.lst [.ref p0])) e0
  have e1 : (upd (upd H p0 (.lst [])) p1 (.lst [.ref p0])) p1 = some (.lst [.ref p0]) := upd_same
  generalize upd (upd H p0 (.lst [])) p1 (.lst [.ref p0]) = H1 at k1 e01 e1 ⊢
  refine ⟨_, rfl, _, rfl, by omega, by omega, for_range (lo := 0) (n := size) (fun k σ H2 => ∃ a xs c3 c4 c5 c6, σ = [some (.int ((many : Nat) : Int)), some (.int ((size : Nat) : Int)), some (.ref a), c3, c4, c5, c6] ∧ Gr H H2 ∧ H2 a = some (.lst xs) ∧ Paired (PkV H2) xs (pk many k)) ⟨p1, _, _, _, _, _, rfl, k1, e1, .cons ⟨p0, rfl, e01⟩ .nil⟩ (fun k σ H2 hk h => ?_) (fun σ H2 h => ?_)⟩
  · obtain ⟨a, xs, c3, c4, c5, c6, rfl, g2, ha, hp⟩ := h
    rw [Int.zero_add]
    refine ⟨szN (by show 0 ≤ 1000000; decide), fun l0 nl => ?_⟩
    have k2 := g2.new nl (.lst [])
    have ha2 := grLst ((Gr.refl H2).new nl (.lst [])) ha
    have hp2 := pkP_gr ((Gr.refl H2).new nl (.lst [])) hp
    have el : (upd H2 l0 (.lst [])) l0 = some (.lst []) := upd_same
    generalize upd H2 l0 (.lst []) = H3 at k2 ha2 hp2 el ⊢
    have pl : xs.length = (pk many k).length := paired_len hp2
    refine ⟨_, rfl, a, rfl, ⟨_, SqL.of ha2⟩, for_list (xs := xs) (fun i σ H4 => ∃ l ys c5 c6, σ = [some (.int ((many : Nat) : Int)), some (.int ((size : Nat) : Int)), some (.ref a), some (.int ((k : Nat) : Int)), some (.ref l), c5, c6] ∧ Gr H3 H4 ∧ H4 l = some (.lst ys) ∧ Paired (PkV H4) ys (((pk many k).take i).flatMap (nextP many))) ⟨l0, [], _, _, rfl, Gr.refl H3, el, .nil⟩ (fun i σ H4 _ h => ?_) (fun i y σ H4 hy h => ?_) (fun σ H4 h => ?_)⟩
    · obtain ⟨l, ys, c5, c6, rfl, g4, _⟩ := h
      exact SqL.of (grLst g4 ha2)
    · obtain ⟨l, ys, c5', c6', rfl, g4, hl, hys⟩ := h
      obtain ⟨p, hpi, yp, rfl, hyp⟩ := paired_get hp2 hy
      have hyp4 := grLst g4 hyp
      obtain ⟨q1, q2, q3⟩ := pk_ok k (List.mem_of_getElem? hpi)
      refine ⟨_, rfl, _, rfl, szN (by show 0 ≤ 1000000; decide), fun p2 n2 => ?_⟩
      have k5 := (Gr.refl H4).new n2 (.lst [])
      have e5 : (upd H4 p2 (.lst [])) p2 = some (.lst []) := upd_same
      generalize upd H4 p2 (.lst []) = H5 at k5 e5 ⊢
      have hyp5 := grLst k5 hyp4
      have hl5 := grLst k5 hl
      have hys5 := pkP_gr k5 hys
      have sy : SqL K H5 yp ((p.map fun i => ((i : Nat) : Int)).map V.int) := by rw [← natV_ints]; exact SqL.of hyp5
      refine ⟨.list ((p.map fun i => ((i : Nat) : Int)).map PyData.int), .list [], .lst sy (dp_ints _), .lst (SqL.of e5) .nil, shp_ints _, by decide, _, rfl, ?_⟩
      rw [eqv_nil]
      have hb : ∃ b : Nat, b ≤ many ∧ nextP many p = (List.range (many - b)).map (fun t => p ++ [b + t]) ∧ (p = [] ∧ b = 0 ∨ ∃ z, p.getLast? = some z ∧ b = z + 1) := by
        rcases List.eq_nil_or_concat p with rfl | ⟨r, z, rfl⟩
        · exact ⟨0, Nat.zero_le _, rfl, .inl ⟨rfl, rfl⟩⟩
        · rw [List.concat_eq_append] at q3 ⊢
          have gl : (r ++ [z]).getLast? = some z := by simp
          refine ⟨z + 1, q3 z (by simp), ?_, .inr ⟨z, gl, rfl⟩⟩
          unfold nextP
          rw [gl]
      obtain ⟨b, hbm, hnp, hbv⟩ := hb
      have tl : ((pk many k).take i).length ≤ 8 ^ k := by
        have := pk_len hm k
        rw [List.length_take]
        omega
      have kk : 8 ^ k ≤ 8 ^ 7 := Nat.pow_le_pow_right (by decide) (by omega)
      have yl : ys.length ≤ 8 * 8 ^ 7 - 8 := by
        have a := paired_len hys
        have b := flat_len hm ((pk many k).take i)
        have hi : i < (pk many k).length := (List.getElem?_eq_some_iff.mp hpi).1
        have c := pk_len hm k
        rw [List.length_take] at b
        omega
      rcases hbv with ⟨hp0, hb0⟩ | ⟨z, gl, hb0⟩
      · rw [hp0]
        refine iteF ⟨_, rfl, ((b : Nat) : Int), ((many : Nat) : Int), by rw [hb0]; rfl, ⟨by omega, by omega, by omega, by omega⟩, fun D nD => ?_⟩
        rw [show (((many : Nat) : Int) - ((b : Nat) : Int)).toNat = many - b by omega]
        refine lc_one (oi_R (lo := ((b : Nat) : Int)) (n := many - b)) (fun t y H' => PkN D H' y (p ++ [b + t]) ∧ t < many - b) (fun t y H' H'' h g => ⟨h.1.gr g, h.2⟩) (fun t y H' o h => ⟨h.1.put, h.2⟩) nD (by rw [List.length_map, List.length_range]; exact szN (by omega)) (fun t x H6 Kc hx g6 hDl kc => ?_) (fun zs H6 hD hl6 g6 hR => ?_)
        · rw [List.getElem?_map] at hx
          obtain ⟨t', ht, rfl⟩ := Option.map_eq_some_iff.mp hx
          obtain ⟨h1, h2⟩ := List.getElem?_eq_some_iff.mp ht
          rw [List.getElem_range] at h2
          rw [List.length_range] at h1
          subst h2
          refine ⟨rfl, _, rfl, _, rfl, szN (by show 1 ≤ 1000000; decide), fun p3 n3 => ?_⟩
          have k6 := (Gr.refl H6).new n3 (.lst [.int (((b : Nat) : Int) + ((t : Nat) : Int))])
          have e6 : (upd H6 p3 (.lst [.int (((b : Nat) : Int) + ((t : Nat) : Int))])) p3 = some (.lst [.int (((b : Nat) : Int) + ((t : Nat) : Int))]) := upd_same
          generalize upd H6 p3 (.lst [.int (((b : Nat) : Int) + ((t : Nat) : Int))]) = H7 at k6 e6 ⊢
          obtain ⟨ds, hD6⟩ := hDl
          have hD7 := grLst k6 hD6
          refine ⟨yp, p3, _, _, rfl, rfl, grLst k6 (grLst g6 hyp5), e6, by show (natV p).length + 1 ≤ sizeLine; unfold natV; rw [List.length_map, q1]; exact szN (by omega), fun p4 n4 => kc _ _ (k6.new n4 _) ⟨⟨p4, rfl, (fun e => by rw [e, hD7] at n4; cases n4), ?_⟩, h1⟩⟩
          rw [upd_same]
          unfold natV
          rw [List.map_append]
          rfl
        · have g56 := g6
          have pz : Paired (PkV H6) zs (nextP many p) := by
            rw [hnp]
            refine paired_at2 (by rw [hl6, List.length_map, List.length_range, List.length_map, List.length_range]) fun t x y hx hy => ?_
            obtain ⟨⟨a', e, _, h⟩, ht⟩ := hR t x hx
            rw [List.getElem?_map, List.getElem?_range ht] at hy
            cases hy
            exact ⟨a', e, h⟩
          have zl : zs.length ≤ 8 := by rw [hl6, List.length_map, List.length_range]; omega
          refine ⟨l, D, ys, zs, rfl, rfl, grLst g6 hl5, hD, Nat.le_trans (show ys.length + zs.length ≤ 8 * 8 ^ 7 by omega) (by decide), fun p5 n5 => ?_⟩
          have k8 := (Gr.refl H6).new n5 (.lst (ys ++ zs))
          refine ⟨p5, ys ++ zs, _, _, rfl, ((g4.trans k5).trans g6).new n5 _, upd_same, ?_⟩
          have et : (pk many k).take (i + 1) = (pk many k).take i ++ [p] := by rw [List.take_add_one, hpi]; rfl
          rw [et, List.flatMap_append]
          refine pkP_gr k8 (paired_app (pkP_gr g6 hys5) ?_)
          show Paired (PkV H6) zs (nextP many p ++ [])
          rw [List.append_nil]
          exact pz
      · have pn : p.map (fun i => ((i : Nat) : Int)) ≠ [] := fun e => by
          have : p = [] := by simpa using e
          rw [this] at gl
          cases gl
        rw [List.isEmpty_eq_false_iff.mpr pn]
        refine iteT ⟨_, rfl, _, rfl, yp, _, _, .int ((z : Nat) : Int), rfl, rfl, sy, ?_, _, _, rfl, rfl, _, rfl, ((b : Nat) : Int), ((many : Nat) : Int), by rw [hb0]; rfl, ⟨by omega, by omega, by omega, by omega⟩, fun D nD => ?_⟩
        · exact at_last gl
        rw [show (((many : Nat) : Int) - ((b : Nat) : Int)).toNat = many - b by omega]
        refine lc_one (oi_R (lo := ((b : Nat) : Int)) (n := many - b)) (fun t y H' => PkN D H' y (p ++ [b + t]) ∧ t < many - b) (fun t y H' H'' h g => ⟨h.1.gr g, h.2⟩) (fun t y H' o h => ⟨h.1.put, h.2⟩) nD (by rw [List.length_map, List.length_range]; exact szN (by omega)) (fun t x H6 Kc hx g6 hDl kc => ?_) (fun zs H6 hD hl6 g6 hR => ?_)
        · rw [List.getElem?_map] at hx
          obtain ⟨t', ht, rfl⟩ := Option.map_eq_some_iff.mp hx
          obtain ⟨h1, h2⟩ := List.getElem?_eq_some_iff.mp ht
          rw [List.getElem_range] at h2
          rw [List.length_range] at h1
          subst h2
          refine ⟨rfl, _, rfl, _, rfl, szN (by show 1 ≤ 1000000; decide), fun p3 n3 => ?_⟩
          have k6 := (Gr.refl H6).new n3 (.lst [.int (((b : Nat) : Int) + ((t : Nat) : Int))])
          have e6 : (upd H6 p3 (.lst [.int (((b : Nat) : Int) + ((t : Nat) : Int))])) p3 = some (.lst [.int (((b : Nat) : Int) + ((t : Nat) : Int))]) := upd_same
          generalize upd H6 p3 (.lst [.int (((b : Nat) : Int) + ((t : Nat) : Int))]) = H7 at k6 e6 ⊢
          obtain ⟨ds, hD6⟩ := hDl
          have hD7 := grLst k6 hD6
          refine ⟨yp, p3, _, _, rfl, rfl, grLst k6 (grLst g6 hyp5), e6, by show (natV p).length + 1 ≤ sizeLine; unfold natV; rw [List.length_map, q1]; exact szN (by omega), fun p4 n4 => kc _ _ (k6.new n4 _) ⟨⟨p4, rfl, (fun e => by rw [e, hD7] at n4; cases n4), ?_⟩, h1⟩⟩
          rw [upd_same]
          unfold natV
          rw [List.map_append]
          rfl
        · have g56 := g6
          have pz : Paired (PkV H6) zs (nextP many p) := by
            rw [hnp]
            refine paired_at2 (by rw [hl6, List.length_map, List.length_range, List.length_map, List.length_range]) fun t x y hx hy => ?_
            obtain ⟨⟨a', e, _, h⟩, ht⟩ := hR t x hx
            rw [List.getElem?_map, List.getElem?_range ht] at hy
            cases hy
            exact ⟨a', e, h⟩
          have zl : zs.length ≤ 8 := by rw [hl6, List.length_map, List.length_range]; omega
          refine ⟨l, D, ys, zs, rfl, rfl, grLst g6 hl5, hD, Nat.le_trans (show ys.length + zs.length ≤ 8 * 8 ^ 7 by omega) (by decide), fun p5 n5 => ?_⟩
          have k8 := (Gr.refl H6).new n5 (.lst (ys ++ zs))
          refine ⟨p5, ys ++ zs, _, _, rfl, ((g4.trans k5).trans g6).new n5 _, upd_same, ?_⟩
          have et : (pk many k).take (i + 1) = (pk many k).take i ++ [p] := by rw [List.take_add_one, hpi]; rfl
          rw [et, List.flatMap_append]
          refine pkP_gr k8 (paired_app (pkP_gr g6 hys5) ?_)
          show Paired (PkV H6) zs (nextP many p ++ [])
          rw [List.append_nil]
          exact pz
    · obtain ⟨l, ys, c5', c6', rfl, g4, hl, hys⟩ := h
      rw [pl, List.take_length] at hys
      exact ⟨_, rfl, l, ys, _, _, _, _, rfl, k2.trans g4, hl, hys⟩
  · obtain ⟨a, xs, c3, c4, c5, c6, rfl, g2, ha, hp⟩ := h
    exact ⟨_, rfl, hQ a xs H2 g2 ha hp⟩
end
end SB
namespace SB
open PySem L2 GxR GA RZ
section
variable {P : Program} {w : World} {K : PySem.W.Frag} {mg : Str → Option Value} {base : Heap} {k : Nat} {x : Str} {st : Stmt} {ps : List Str}
/-- many promises of one def at once -/
theorem Df.cl_all {I : Nat → Prop} {sp : Nat → Sp} (D : Df K mg x st) (hb : ∀ (kV doc pm : Value) (an : Option Addr) (cdv ct : Value) (us : List Value), us.length = ps.length → bindArgs (PySem.W.fnOf x x (defArgs st) (defBody st) (defScope st) .none kV doc pm an cdv ct) ⟨us, []⟩ = pure (ps.zip us))
    (h : ∀ n, I n → Cl P w K mg base k x ps (sp n)) : Cl P w K mg base k x ps (fun vs H Q E => ∃ n, I n ∧ sp n vs H Q E) := by
  obtain ⟨f, fd, F, m⟩ := D.ex
  obtain ⟨oc, od, kV, doc, pm, an, cdv, ct, osl, e, lk, hcd⟩ := F.ex
  have hB := F.binds hb
  have key : ∀ n, I n → FnOk P w K mg base CX0 k f fd ps (sp n) := fun n hn => by
    obtain ⟨gd, G, oc', od', osl', lk'⟩ := (h n hn).lk f m
    rw [lk] at lk'
    injection lk' with e1
    injection e1 with _ _ e2 _
    injection e2 with e3
    subst e3
    exact G
  have all : FnOk P w K mg base CX0 k f fd ps (fun vs H Q E => ∃ n, I n ∧ sp n vs H Q E) :=
    ⟨fun vs H Q E ⟨n, hn, hs⟩ => (key n hn).len vs H Q E hs, fun A outer s H args us vs Q E hr e b r ⟨n, hn, hs⟩ => (key n hn).run A outer s H args us vs Q E hr e b r hs⟩
  exact ⟨⟨f, fd, all, m, F.kp, hB⟩, fun g hg => by
    rw [m] at hg
    cases hg
    exact ⟨fd, all, oc, od, osl, lk⟩⟩
end
section
variable {P : Program} {w : World} {K : PySem.W.Frag} {mg : Str → Option Value} {base : Heap}
theorem pi_listK {X : Cx} {tg l : Expr} {tl : TE} (K : PySem.W.Frag) (e : X.K = K) (hl : PE X l tl) : PI X tg l (iList K tl) := by
  subst e
  exact pi_list hl
def spLeastA (K : PySem.W.Frag) : Sp := fun vs H Q E => ∃ n, n ≤ 8 ∧ spLeastD K (n + 1) vs H Q E
theorem cl_leastA (D : Df K mg "_law_least" s__law_least) (B : Blt mg) : Cl P w K mg base 9 "_law_least" ["rows"] (spLeastA K) :=
  D.cl_all (I := fun n => n ≤ 8) (sp := fun n => spLeastD K (n + 1)) (fun _ _ _ _ _ _ us hl => match us, hl with | [_], _ => rfl) fun n hn => (cl_least D B (n + 1)).mono (Nat.succ_le_succ hn)
def spLRank (K : PySem.W.Frag) : Sp := fun vs H Q _ => ∃ a xs rows wide b, vs = [.ref a, .int ((wide : Nat) : Int)] ∧ SqL K H a xs ∧ Paired (SiL K H) xs rows ∧ rows.length ≤ 8 ∧ wide ≤ 8 ∧ (∀ r ∈ rows, BdI b r ∧ r.length = wide) ∧ b ≤ 1000 ∧ ∃ r : Nat, Rk (rows.map vcI) wide r ∧ ∀ H', Gr H H' → Q (.int ((r : Nat) : Int)) H'
theorem sc_lrk : FnScope ["rows", "wide", "size", "pick", "columns", "i", "j"] ["rows", "wide"] (defScope s__law_rank) := ⟨rfl, rfl, rfl, by decide +kernel, rfl, by decide +kernel, by decide +kernel⟩
theorem iteNR {c A B : Prop} [Decidable c] (hc : ¬ c) (h : A) : if (!decide c) = true then A else B := by
  rw [decide_eq_false hc]
  exact iteT h
theorem min_nat (a b : Nat) : (if ((b : Nat) : Int) < ((a : Nat) : Int) then ((b : Nat) : Int) else ((a : Nat) : Int)) = ((min a b : Nat) : Int) := by
  split <;> omega
theorem pk_at {many s : Nat} {p : List Nat} {k : Nat} (h : (pk many s)[k]? = some p) : p.length = s ∧ ∀ x ∈ p, x < many := by
  obtain ⟨a, _, c⟩ := pk_ok s (List.mem_of_getElem? h)
  exact ⟨a, c⟩
theorem take_all {α : Type} {Pr : α → Prop} {l : List α} {k : Nat} {x : α} (h : ∀ y ∈ l.take k, Pr y) (e : l[k]? = some x) (hx : Pr x) : ∀ y ∈ l.take (k + 1), Pr y := fun y hy => by
  rw [List.take_add_one, e] at hy
  rcases List.mem_append.mp hy with hy | hy
  · exact h y hy
  · rw [Option.toList_some, List.mem_singleton] at hy
    rw [hy]
    exact hx
theorem intsF_at {cols : List Nat} {f : Nat → Int} {zs : List V} (hl : zs.length = (natV cols).length) (h : ∀ (i : Nat) y, zs[i]? = some y → ∃ j, cols[i]? = some j ∧ y = V.int (f j)) : zs = (cols.map f).map V.int := by
  refine List.ext_getElem? fun i => ?_
  cases hz : zs[i]? with
  | none =>
    have := List.getElem?_eq_none_iff.mp hz
    rw [hl] at this
    unfold natV at this
    rw [List.length_map] at this
    rw [List.getElem?_eq_none (by simpa using this)]
  | some y =>
    obtain ⟨j, e, rfl⟩ := h i y hz
    rw [List.getElem?_map, List.getElem?_map, e]
    rfl
theorem natV_at {p : List Nat} {k : Nat} {y : V} (h : (natV p)[k]? = some y) : ∃ i, p[k]? = some i ∧ y = .int ((i : Nat) : Int) := by
  unfold natV at h
  rw [List.getElem?_map] at h
  obtain ⟨i, e, rfl⟩ := Option.map_eq_some_iff.mp h
  exact ⟨i, e, rfl⟩
theorem natV_len (p : List Nat) : (natV p).length = p.length := List.length_map ..
theorem getD_at {rows : List (List Int)} {i : Nat} (h : i < rows.length) : rows.getD i [] = rows[i] := by
  rw [List.getD_eq_getElem?_getD, List.getElem?_eq_getElem h]
  rfl
theorem rowL_at {K : PySem.W.Frag} {H : Hp} {xs : List V} {rows : List (List Int)} (hp : Paired (SiL K H) xs rows) {i : Nat} (h : i < rows.length) : ∃ q, xs[i]? = some (V.ref q) ∧ SqL K H q ((rows.getD i []).map V.int) := by
  obtain ⟨x, r, e1, e2, q, rfl, hq⟩ := paired_at hp i h
  refine ⟨q, e1, ?_⟩
  rw [List.getD_eq_getElem?_getD, e2]
  exact hq
theorem part_ok {rows : List (List Int)} {pick cols : List Nat} {b s wide : Nat} (hrow : ∀ r ∈ rows, BdI b r ∧ r.length = wide) (h1 : ∀ i ∈ pick, i < rows.length) (hc : cols.length = s) : ∀ r ∈ partM rows pick cols, r.length = s ∧ BdI b r := fun r hr => by
  obtain ⟨i, hi, rfl⟩ := List.mem_map.mp hr
  refine ⟨by rw [List.length_map, hc], fun z hz => ?_⟩
  obtain ⟨j, hj, rfl⟩ := List.mem_map.mp hz
  rw [getD_at (h1 i hi)]
  exact (hrow _ (List.getElem_mem _)).1.g j
theorem cl_lrk (D : Df K mg "_law_rank" s__law_rank) (B : Blt mg) (CP : Cl P w K mg base 1 "_law_picks" ["many", "size"] (spPicks K)) (CA : Cl P w K mg base 9 "_law_least" ["rows"] (spLeastA K)) : Cl P w K mg base 10 "_law_rank" ["rows", "wide"] (spLRank K) := by
  refine D.cl (fun _ _ _ _ _ _ us hl => match us, hl with | [_, _], _ => rfl) fun f fd F => F.ok sc_lrk (fun vs H Q E h => ?_) (fun cdv A outer s H vs Q E hr h => ?_)
  · obtain ⟨a, xs, rows, wide, b, rfl, _⟩ := h
    rfl
  obtain ⟨a, xs, rows, wide, b, rfl, ha, hp, r8, w8, hrow, b1000, r, hrk, hQ⟩ := h
  refine ⟨_, (pss_cons (ps_for PassesOwn.never rfl (pi_range3 rfl B.rng (pa_cons (pe_callB (call_min2 rfl) rfl B.min PyProof.Rows.boot_min (pa_cons (pe_len (pv 0) B.len) (pa_cons (pv 1) pa_nil))) (pa_cons pe_int (pa_cons (pe_un un_neg pe_int) pa_nil)))) (pg_name (i := 2) sc_lrk.nd rfl (Or.inl rfl))
      (pss_one (ps_for PassesOwn.never rfl (pi_list (pe_cl CP (hr.mono (by decide)) (pa_cons (pe_len (pv 0) B.len) (pa_cons (pv 2) pa_nil)))) (pg_name (i := 3) sc_lrk.nd rfl (Or.inl rfl))
        (pss_one (ps_for PassesOwn.never rfl (pi_list (pe_cl CP (hr.mono (by decide)) (pa_cons (pv 1) (pa_cons (pv 2) pa_nil)))) (pg_name (i := 4) sc_lrk.nd rfl (Or.inr rfl))
          (pss_one (ps_if (pt_cmpR op_ne (pe_cl CA (hr.mono (by decide)) (pa_cons (pe_lc (own := [("i", 5)]) (g := gName 5) rfl sc_lrk.nd (pi_list (pv 3)) (blkOk_by (N := ["rows", "wide", "size", "pick", "columns", "i", "j"]) (sc := defScope s__law_rank) (by decide +kernel)) (fun _ _ _ _ _ => (pg_name (i := 5) sc_lrk.nd rfl (Or.inr rfl))) (fun _ _ _ _ _ => pts_nil) (fun s H C cl fp =>
            (pe_lc (own := [("j", 6)]) (g := gName 6) rfl sc_lrk.nd (pi_listK K rfl (pv 4)) (by exact blkOk_by (N := ["rows", "wide", "size", "pick", "columns", "i", "j"]) (by rfl)) (fun _ _ _ _ _ => (pg_name (i := 6) sc_lrk.nd rfl (Or.inl rfl))) (fun _ _ _ _ _ => pts_nil) (fun _ _ _ _ _ => (pe_ix (r := rIxL K) ix_list (pe_ix (r := rIxL K) ix_list (pv 0) (pv 5) (fun _ _ => rfl)) (pv 6) (fun _ _ => rfl)))))) pa_nil)) pe_int (nomark _))
            (pss_one (ps_ret (pv 2))) pss_nil)))))))
    (pss_one (ps_ret pe_int))), ?_⟩
  have pl : xs.length = rows.length := paired_len hp
  obtain ⟨m, hm⟩ : ∃ m : Nat, m = min rows.length wide := ⟨_, rfl⟩
  have rg : RgC ((m : Nat) : Int) 0 (-1) m := by
    have := RgC.neg (i := ((m : Nat) : Int)) (j := 0) (by omega) (by omega) (by decide) (by decide)
    rw [show (((m : Nat) : Int) - 0).toNat = m by omega] at this
    exact this
  refine ⟨_, rfl, a, xs, rfl, .inl ha, _, rfl, _, _, rfl, _, rfl, ((m : Nat) : Int), 0, -1, m, by rw [min_nat, pl, ← hm], rg, for_rangeC (lo := ((m : Nat) : Int)) (c := -1) (n := m) (fun k σ H2 => ∃ c2 c3 c4 c5 c6, σ = [some (.ref a), some (.int ((wide : Nat) : Int)), c2, c3, c4, c5, c6] ∧ Gr H H2 ∧ ∀ s, m - k < s → s ≤ m → ∀ pick ∈ pk rows.length s, ∀ cols ∈ pk wide s, lsN s (partM rows pick cols) = 0) ⟨_, _, _, _, _, rfl, Gr.refl H, fun s h1 h2 => by omega⟩ (fun k σ H2 hk h => ?_) (fun σ H2 h => ?_)⟩
  · obtain ⟨c2, c3, c4, c5, c6, rfl, g2, hz⟩ := h
    obtain ⟨s, hs⟩ : ∃ s, s = m - k := ⟨_, rfl⟩
    rw [show ((m : Nat) : Int) + ((k : Nat) : Int) * -1 = ((s : Nat) : Int) by omega]
    rw [← hs] at hz
    have s8 : s ≤ 8 := by omega
    refine ⟨_, rfl, a, xs, rfl, .inl (g2.seqL ha), _, rfl, xs.length, s, rfl, by omega, s8, fun pa ps H3 g3 hpa hpp => ⟨pa, rfl, ⟨ps, SqL.of hpa⟩, for_list (xs := ps) (fun k3 σ H4 => ∃ c3 c4 c5 c6, σ = [some (.ref a), some (.int ((wide : Nat) : Int)), some (.int ((s : Nat) : Int)), c3, c4, c5, c6] ∧ Gr H3 H4 ∧ ∀ pick ∈ (pk rows.length s).take k3, ∀ cols ∈ pk wide s, lsN s (partM rows pick cols) = 0) ⟨_, _, _, _, rfl, Gr.refl H3, fun p h => by simp at h⟩ (fun k3 σ H4 _ h => ?_) (fun k3 y3 σ H4 hy3 h => ?_) (fun σ H4 h => ?_)⟩⟩
    · obtain ⟨c3, c4, c5, c6, rfl, g4, _⟩ := h
      exact SqL.of (grLst g4 hpa)
    · obtain ⟨c3, c4, c5, c6, rfl, g4, hz3⟩ := h
      rw [pl] at hpp
      obtain ⟨pick, ep, yp, rfl, hyp⟩ := paired_get hpp hy3
      obtain ⟨pk1, pk2⟩ := pk_at ep
      have G4 : Gr H H4 := (g2.trans g3).trans g4
      have hyp4 := grLst g4 hyp
      refine ⟨_, rfl, _, rfl, wide, s, rfl, w8, s8, fun ca cs H5 g5 hca hcc => ⟨ca, rfl, ⟨cs, SqL.of hca⟩, for_list (xs := cs) (fun k4 σ H6 => ∃ c4 c5 c6, σ = [some (.ref a), some (.int ((wide : Nat) : Int)), some (.int ((s : Nat) : Int)), some (.ref yp), c4, c5, c6] ∧ Gr H5 H6 ∧ ∀ cols ∈ (pk wide s).take k4, lsN s (partM rows pick cols) = 0) ⟨_, _, _, rfl, Gr.refl H5, fun p h => by simp at h⟩ (fun k4 σ H6 _ h => ?_) (fun k4 y4 σ H6 hy4 h => ?_) (fun σ H6 h => ?_)⟩⟩
      · obtain ⟨c4, c5, c6, rfl, g6, _⟩ := h
        exact SqL.of (grLst g6 hca)
      · obtain ⟨c4, c5, c6, rfl, g6, hz4⟩ := h
        obtain ⟨cols, ec, yc, rfl, hyc⟩ := paired_get hcc hy4
        obtain ⟨ck1, ck2⟩ := pk_at ec
        have G6 : Gr H H6 := (G4.trans g5).trans g6
        have hyc6 := grLst g6 hyc
        have hyp6 := grLst g6 (grLst g5 hyp4)
        refine ⟨_, rfl, yp, rfl, ⟨_, SqL.of hyp6⟩, fun D nD => lc_one (oi_L (SqL.of hyp6)) (fun k5 y H' => ∃ i, pick[k5]? = some i ∧ SiN K D H' y (cols.map fun j => gI (rows.getD i []) j)) (fun k5 y H' H'' h g => let ⟨i, e, v⟩ := h; ⟨i, e, v.gr g⟩) (fun k5 y H' o h => let ⟨i, e, v⟩ := h; ⟨i, e, v.put⟩) nD (by rw [natV_len]; exact szN (by omega)) (fun k5 y5 H7 Kc hy5 g7 hDl kc => ?_) (fun ys H7 hD hl7 g7 hR => ?_)⟩
        · obtain ⟨i, ei, rfl⟩ := natV_at hy5
          have hi : i < rows.length := pk2 i (List.mem_of_getElem? ei)
          have hyc7 := grLst g7 hyc6
          refine ⟨rfl, _, rfl, yc, rfl, ⟨_, SqL.of hyc7⟩, fun D2 nD2 => lc_one (oi_L (SqL.of hyc7)) (fun k6 y H' => ∃ j, cols[k6]? = some j ∧ y = V.int (gI (rows.getD i []) j)) (fun k6 y H' H'' h g => h) (fun k6 y H' o h => h) nD2 (by rw [natV_len]; exact szN (by omega)) (fun k6 y6 H8 Kc2 hy6 g8 hDl2 kc2 => ?_) (fun zs H8 hD2 hl8 g8 hR2 => ?_)⟩
          · obtain ⟨j, ej, rfl⟩ := natV_at hy6
            have hj : j < wide := ck2 j (List.mem_of_getElem? ej)
            have G8 := (G6.trans g7).trans g8
            obtain ⟨q, eq, hq⟩ := rowL_at (silP_gr G8 hp) hi
            have ej2 : ((rows.getD i []).map V.int)[j]? = some (V.int (gI (rows.getD i []) j)) := by
              have hl : j < (rows.getD i []).length := by rw [getD_at hi, (hrow _ (List.getElem_mem hi)).2]; exact hj
              have e0 := List.getElem?_eq_getElem hl
              rw [List.getElem?_map, e0, gI_get e0]
              rfl
            exact ⟨rfl, _, rfl, _, rfl, a, xs, _, .ref q, rfl, rfl, G8.seqL ha, atI_nat eq, _, rfl, q, _, _, .int (gI (rows.getD i []) j), rfl, rfl, hq, atI_nat ej2, kc2 _ _ (Gr.refl _) ⟨j, ej, rfl⟩⟩
          · obtain ⟨ys0, hD0⟩ := hDl
            exact kc _ _ g8 ⟨i, ei, D2, rfl, (fun e => by rw [e, hD0] at nD2; cases nD2), by rw [← intsF_at hl8 hR2]; exact SqL.of hD2⟩
        · have hpy : Paired (SiL K H7) ys (partM rows pick cols) := paired_at2 (by rw [hl7, natV_len]; unfold partM; rw [List.length_map]) fun k5 y c hy hc => by
            obtain ⟨i, e, v⟩ := hR k5 y hy
            unfold partM at hc
            rw [List.getElem?_map, e] at hc
            cases hc
            exact v.l
          refine ⟨s, s8, D, ys, partM rows pick cols, b, rfl, SqL.of hD, hpy, by unfold partM; rw [List.length_map, pk1], part_ok hrow pk2 ck1, s8, b1000, fun H8 g8 => ⟨rfl, ?_⟩⟩
          have G8 : Gr H H8 := (G6.trans g7).trans g8
          by_cases hz0 : lsN s (partM rows pick cols) = 0
          · exact ⟨_, rfl, iteNS (by rw [hz0]) ⟨_, _, _, rfl, (g6.trans g7).trans g8, take_all hz4 ec hz0⟩⟩
          · have er := lrk_is hrk (r := s) (by omega) (fun s' h1 h2 => hz s' h1 (by omega)) fun _ => ⟨pick, List.mem_of_getElem? ep, cols, List.mem_of_getElem? ec, hz0⟩
            refine ⟨_, rfl, iteNR (fun e => hz0 (by injection e)) ⟨_, rfl, ?_⟩⟩
            rw [er]
            exact hQ H8 G8
      · obtain ⟨c4, c5, c6, rfl, g6, hz4⟩ := h
        rw [paired_len hcc, List.take_length] at hz4
        exact ⟨_, _, _, _, rfl, (g4.trans g5).trans g6, take_all hz3 ep hz4⟩
    · obtain ⟨c3, c4, c5, c6, rfl, g4, hz3⟩ := h
      rw [pl] at hpp
      rw [paired_len hpp, List.take_length] at hz3
      refine ⟨_, _, _, _, _, rfl, (g2.trans g3).trans g4, fun s' h1 h2 => ?_⟩
      by_cases e : s' = s
      · rw [e]
        exact hz3
      · exact hz s' (by omega) h2
  · obtain ⟨c2, c3, c4, c5, c6, rfl, g2, hz⟩ := h
    have er := lrk_is hrk (r := 0) (Nat.zero_le _) (fun s' h1 h2 => hz s' (by omega) (by omega)) fun h => absurd rfl h
    have := hQ H2 g2
    rw [← er] at this
    exact this
end
end SB
namespace SB
open PySem L2 GxR GA RZ
/-! ### rows of fractions -/
def FrR (m : Nat) (u : Int × Int) : Prop := Lo u ∧ Wd m u
theorem FrR.mono {m n : Nat} {u : Int × Int} (h : FrR m u) (k : m ≤ n) : FrR n u := ⟨h.1, h.2.mono k⟩
def FlV (K : PySem.W.Frag) (H : Hp) (x : V) (us : List (Int × Int)) : Prop := ∃ a zs, x = .ref a ∧ SqL K H a zs ∧ Paired (NuV K H) zs us
theorem FlV.gr {K : PySem.W.Frag} {H H' : Hp} {x : V} {us : List (Int × Int)} (h : FlV K H x us) (g : Gr H H') : FlV K H' x us := by
  obtain ⟨a, zs, e, s, p⟩ := h
  exact ⟨a, zs, e, g.seqL s, Paired.mapP p fun _ _ z => z.gr g⟩
/-- .. a list that stands -/
def FlL (K : PySem.W.Frag) (H : Hp) (x : V) (us : List (Int × Int)) : Prop := ∃ a zs, x = .ref a ∧ H a = some (.lst zs) ∧ Paired (NuV K H) zs us
theorem FlL.v {K : PySem.W.Frag} {H : Hp} {x : V} {us : List (Int × Int)} (h : FlL K H x us) : FlV K H x us := by
  obtain ⟨a, zs, e, s, p⟩ := h
  exact ⟨a, zs, e, SqL.of s, p⟩
theorem FlL.gr {K : PySem.W.Frag} {H H' : Hp} {x : V} {us : List (Int × Int)} (h : FlL K H x us) (g : Gr H H') : FlL K H' x us := by
  obtain ⟨a, zs, e, s, p⟩ := h
  exact ⟨a, zs, e, grLst g s, Paired.mapP p fun _ _ z => z.gr g⟩
theorem FlL.put {K : PySem.W.Frag} {H : Hp} {x : V} {us : List (Int × Int)} {D : Addr} {ys : List V} {o : HO} (h : FlL K H x us) (hD : H D = some (.lst ys)) (n : x ≠ .ref D) : FlL K (upd H D o) x us := by
  obtain ⟨a, zs, rfl, s, p⟩ := h
  exact ⟨a, zs, rfl, by rw [upd_ne fun e => n (by rw [e])]; exact s, Paired.mapP p fun _ _ z => z.st (Tst.put hD)⟩
theorem FlL.ne {K : PySem.W.Frag} {H : Hp} {x : V} {us : List (Int × Int)} {D : Addr} (h : FlL K H x us) (n : H D = none) : x ≠ .ref D := by
  obtain ⟨a, zs, rfl, s, p⟩ := h
  intro e
  injection e with e
  rw [e, n] at s
  cases s
def vcF (us : List (Int × Int)) : Vc := fun i => qv (us.getD i (0, 1))
theorem qv_zero : qv (0, 1) = 0 := by rw [qv_int]; rfl
theorem vcF_get {us : List (Int × Int)} {i : Nat} {u : Int × Int} (h : us[i]? = some u) : vcF us i = qv u := by
  unfold vcF
  rw [List.getD_eq_getElem?_getD, h]
  rfl
theorem vcF_out {us : List (Int × Int)} {i : Nat} (h : us.length ≤ i) : vcF us i = 0 := by
  unfold vcF
  rw [List.getD_eq_getElem?_getD, List.getElem?_eq_none h]
  exact qv_zero
theorem lo_int (z : Int) : Lo (z, 1) := ⟨Int.one_pos, by rw [show (1 : Int).natAbs = 1 from rfl, Nat.gcd_one_right]⟩
theorem lo_neg {u : Int × Int} (h : Lo u) : Lo (-u.1, u.2) := ⟨h.1, by show Nat.gcd (-u.1).natAbs _ = 1; rw [Int.natAbs_neg]; exact h.2⟩
theorem qv_negI {u : Int × Int} (h : 0 < u.2) : qv (-u.1, u.2) = - qv u := qv_of h (by
  have := qv_mul h
  show - qv u * (u.2 : Rat) = ((-u.1 : Int) : Rat)
  rw [Rat.intCast_neg, ← this]
  grind)
theorem wd_neg {m : Nat} {u : Int × Int} (h : Wd m u) : Wd m (-u.1, u.2) := ⟨by show (-u.1).natAbs < _; rw [Int.natAbs_neg]; exact h.1, h.2⟩
theorem qv_ne {u : Int × Int} (h : 0 < u.2) : qv u ≠ 0 ↔ u.1 ≠ 0 := by
  constructor
  · intro a e
    refine a ?_
    have := qv_mul h
    rw [e] at this
    rcases Rat.mul_eq_zero.mp (show qv u * (u.2 : Rat) = 0 from this) with z | z
    · exact z
    · exact absurd z (rne h)
  · intro a e
    have := qv_mul h
    rw [e, Rat.zero_mul] at this
    exact rne0 a this.symm
theorem qvF_inv {r l : Int × Int} (hr : 0 < r.2) (hl : 0 < l.2) (e : Eqr r l.2 l.1) : qv r * qv l = 1 := by
  have a := qv_mul hr
  have b := qv_mul hl
  have c : (r.1 : Rat) * (l.1 : Rat) = (l.2 : Rat) * (r.2 : Rat) := by
    have e : r.1 * l.1 = l.2 * r.2 := e
    rw [← Rat.intCast_mul, ← Rat.intCast_mul, e]
  have n1 := rne hr
  have n2 := rne hl
  have z : (qv r * qv l - 1) * ((r.2 : Rat) * (l.2 : Rat)) = 0 := by
    rw [← a, ← b] at c
    grind
  rcases Rat.mul_eq_zero.mp z with z | z
  · grind
  · rcases Rat.mul_eq_zero.mp z with z | z
    · exact absurd z n1
    · exact absurd z n2
theorem inv_of {x y : Rat} (h : x * y = 1) : y ≠ 0 ∧ x = y⁻¹ := by
  have hy : y ≠ 0 := fun e => by
    rw [e, Rat.mul_zero] at h
    exact absurd h (by decide +kernel)
  refine ⟨hy, ?_⟩
  have := Rat.mul_inv_cancel _ hy
  calc x = x * (y * y⁻¹) := by rw [this, Rat.mul_one]
    _ = (x * y) * y⁻¹ := by rw [Rat.mul_assoc]
    _ = y⁻¹ := by rw [h, Rat.one_mul]
theorem wd_swap {m : Nat} {u : Int × Int} (h : Wd m u) : Wd m (u.2, u.1) := ⟨h.2, h.1⟩
theorem NuV.of {K : PySem.W.Frag} {H : Hp} {p : Addr} {a b : Int} (h : SqT K H p [.int a, .int b]) : NuV K H (.ref p) (a, b) := ⟨p, rfl, h⟩
theorem numsF_at {K : PySem.W.Frag} {H : Hp} : ∀ {ys : List V} {Pr : Nat → Int × Int → Prop}, (∀ (i : Nat) (y : V), ys[i]? = some y → ∃ u, NuV K H y u ∧ Pr i u) → ∃ us : List (Int × Int), Paired (NuV K H) ys us ∧ ∀ (i : Nat) u, us[i]? = some u → Pr i u
  | [], _, _ => ⟨[], .nil, fun i u h => by simp at h⟩
  | y :: ys, Pr, h => by
    obtain ⟨u, hu, pu⟩ := h 0 y rfl
    obtain ⟨us, p, q⟩ := numsF_at (ys := ys) (Pr := fun i u => Pr (i + 1) u) fun i z hz => h (i + 1) z (by simpa using hz)
    refine ⟨u :: us, .cons hu p, fun i v hv => ?_⟩
    cases i with
    | zero => simp at hv; subst hv; exact pu
    | succ i => exact q i v (by simpa using hv)
section
variable {P : Program} {w : World} {K : PySem.W.Frag} {mg : Str → Option Value} {base : Heap}
def spLessR (K : PySem.W.Frag) : Sp := fun vs H Q _ => ∃ x y us ls m, ∃ j : Nat, vs = [x, y, .int ((j : Nat) : Int)] ∧ FlV K H x us ∧ FlV K H y ls ∧ us.length = ls.length ∧ j < us.length ∧ us.length ≤ 8 ∧ (∀ u ∈ us, FrR m u) ∧ (∀ u ∈ ls, FrR m u) ∧ vcF ls j ≠ 0 ∧ m ≤ 1000 ∧
  ∀ a ws H', Gr H H' → (∀ b ys, H b = some (.lst ys) → b ≠ a) → FlL K H' (.ref a) ws → ws.length = us.length → (∀ u ∈ ws, FrR (4 * m + 3) u) → vcF ws = lessV (vcF us) (vcF ls) j → Q (.ref a) H'
theorem sc_less : FnScope ["row", "lead", "j", "share", "u", "v"] ["row", "lead", "j"] (defScope s__law_less_row) := ⟨rfl, rfl, rfl, by decide +kernel, rfl, by decide +kernel, by decide +kernel⟩
theorem cl_less (D : Df K mg "_law_less_row" s__law_less_row) (B : Blt mg) (CPl : Cl P w K mg base 35 "_law_plus" ["u", "v"] (spBin K fPlus)) (CTi : Cl P w K mg base 35 "_law_times" ["u", "v"] (spBin K fTimes)) (CPa : Cl P w K mg base 34 "_law_pair" ["upper", "lower"] (spPair K)) : Cl P w K mg base 36 "_law_less_row" ["row", "lead", "j"] (spLessR K) := by
  refine D.cl (fun _ _ _ _ _ _ us hl => match us, hl with | [_, _, _], _ => rfl) fun f fd F => F.ok sc_less (fun vs H Q E h => ?_) (fun cdv A outer s H vs Q E hr h => ?_)
  · obtain ⟨x, y, us, ls, m, j, rfl, _⟩ := h
    rfl
  obtain ⟨_, _, us, ls, m, j, rfl, ⟨a, xs, rfl, ha, hxs⟩, ⟨b, zs, rfl, hb, hzs⟩, hl, hj, h8, hus, hls, hne, hm, hQ⟩ := h
  refine ⟨_, (pss_cons (ps_set (i := 3) sc_less.nd rfl (.inr rfl) (pe_cl CTi (hr.mono (by decide)) (pa_cons (pe_tup (pa_cons (pe_un un_neg (pe_ix ix_tup (pe_ix ix_list (pv 0) (pv 2) (fun _ _ => rfl)) pe_int (fun _ _ => rfl))) (pa_cons (pe_ix ix_tup (pe_ix ix_list (pv 0) (pv 2) (fun _ _ => rfl)) pe_int (fun _ _ => rfl)) pa_nil))) (pa_cons (pe_cl CPa (hr.mono (by decide)) (pa_cons (pe_ix ix_tup (pe_ix ix_list (pv 1) (pv 2) (fun _ _ => rfl)) pe_int (fun _ _ => rfl)) (pa_cons (pe_ix ix_tup (pe_ix ix_list (pv 1) (pv 2) (fun _ _ => rfl)) pe_int (fun _ _ => rfl)) pa_nil))) pa_nil))))
    (pss_one (ps_ret (pe_lc (own := [("u", 4), ("v", 5)]) (g := gTup K 2 (gCons (gName 4) (gCons (gName 5) gNil))) rfl sc_less.nd (pi_zipE rfl B.zip (pa_cons (pv 0) (pa_cons (pv 1) pa_nil))) (blkOk_by (N := ["row", "lead", "j", "share", "u", "v"]) (sc := defScope s__law_less_row) (by decide +kernel)) (fun _ _ _ _ _ => (pg_tup rfl (pgs_cons (pg_name (i := 4) sc_less.nd rfl (Or.inl rfl)) (pgs_cons (pg_name (i := 5) sc_less.nd rfl (Or.inl rfl)) pgs_nil)))) (fun _ _ _ _ _ => pts_nil) (fun _ _ _ _ _ => (pe_cl CPl (hr.mono (by decide)) (pa_cons (pv 4) (pa_cons (pe_cl CTi (hr.mono (by decide)) (pa_cons (pv 3) (pa_cons (pv 5) pa_nil))) pa_nil)))))))), ?_⟩
  have xl : xs.length = us.length := paired_len hxs
  have zl : zs.length = ls.length := paired_len hzs
  obtain ⟨x, u, ex, eu, q, rfl, hq⟩ := paired_at hxs j hj
  obtain ⟨z, l, ez, el, p, rfl, hp⟩ := paired_at hzs j (by omega)
  have ru := hus u (List.mem_of_getElem? eu)
  have rl := hls l (List.mem_of_getElem? el)
  have l0 : l.1 ≠ 0 := (qv_ne rl.1.1).mp (by rw [← vcF_get el]; exact hne)
  refine ⟨_, rfl, _, rfl, a, xs, _, .ref q, rfl, rfl, ha, atI_nat ex, q, _, _, _, rfl, rfl, hq, rfl, _, rfl, _, rfl, _, rfl, a, xs, _, .ref q, rfl, rfl, ha, atI_nat ex, q, _, _, _, rfl, rfl, hq, rfl, szN (by show 2 ≤ 1000000; decide), fun t nt => ?_⟩
  have g1 := (Gr.refl H).new nt (.tup [.int (-u.1), .int u.2])
  have ht : NuV K (upd H t (.tup [.int (-u.1), .int u.2])) (.ref t) (-u.1, u.2) := NuV.of (SqT.of upd_same)
  generalize upd H t (.tup [.int (-u.1), .int u.2]) = H1 at g1 ht ⊢
  refine ⟨_, rfl, _, rfl, b, zs, _, .ref p, rfl, rfl, g1.seqL hb, atI_nat ez, p, _, _, _, rfl, rfl, g1.seqT hp, rfl, _, rfl, _, rfl, b, zs, _, .ref p, rfl, rfl, g1.seqL hb, atI_nat ez, p, _, _, _, rfl, rfl, g1.seqT hp, rfl, l.2, l.1, rfl, l0, (wd_swap rl.2).mono (by omega), fun iv r H2 g2 nv lo e le1 le2 => ?_⟩
  refine ⟨_, _, (-u.1, u.2), r, m, m, rfl, ht.gr g2, nv, ru.1.1, lo.1, wd_neg ru.2, wd_le (wd_swap rl.2) le1 le2, by omega, fun sv sh H3 g3 sn slo se sw => ?_⟩
  have b1 : 0 < (fTimes (-u.1, u.2) r).2 := Int.mul_pos ru.1.1 lo.1
  have e1 : qv r * qv l = 1 := qvF_inv lo.1 rl.1.1 e
  have hsh : qv sh = - vcF us j / vcF ls j := by
    rw [qv_eqr' se slo.1 b1, qv_times (p := (-u.1, u.2)) ru.1.1 lo.1, qv_negI ru.1.1, (inv_of e1).2, vcF_get eu, vcF_get el, Rat.div_def]
  have g03 := (g1.trans g2).trans g3
  refine ⟨_, rfl, _, rfl, a, b, xs, zs, rfl, by omega, .inl (g03.seqL ha), .inl (g03.seqL hb), fun J Z D nD => lc_zipE Z (fun i y H => ∃ u, NuV K H y u ∧ FrR (4 * m + 3) u ∧ qv u = lessV (vcF us) (vcF ls) j i) (fun i y H H' h g => let ⟨u, a, b⟩ := h; ⟨u, a.gr g, b⟩) (fun i y H D o xs0 hD h => let ⟨u, a, b⟩ := h; ⟨u, a.st (Tst.put hD), b⟩) nD (by rw [xl]; exact szN (by omega)) (fun i x y T H5 Kc hx hy g5 nT kc => ?_) (fun ys H5 hD hl5 g5 hR => ?_)⟩
  · obtain ⟨u', eu', hu'⟩ := paired_get hxs hx
    obtain ⟨l', el', hl'⟩ := paired_get hzs hy
    have gT := g5.new nT (.tup [x, y])
    have ru' := hus u' (List.mem_of_getElem? eu')
    have rl' := hls l' (List.mem_of_getElem? el')
    refine ⟨T, _, rfl, SqT.of upd_same, rfl, _, _, rfl, _, _, rfl, rfl, rfl, ?_⟩
    generalize upd H5 T (.tup [x, y]) = H6 at gT kc ⊢
    have k6 := g03.trans gT
    refine ⟨_, rfl, _, rfl, _, rfl, sv, y, sh, l', m + m + 1, m, rfl, sn.gr gT, hl'.gr k6, slo.1, rl'.1.1, sw, rl'.2, by omega, fun v r H7 g7 nv lo7 e7 w7 => ?_⟩
    refine ⟨x, v, u', r, m, m + m + 1 + m + 1, rfl, (hu'.gr k6).gr g7, nv, ru'.1.1, lo7.1, ru'.2, w7, by omega, fun v8 r8 H8 g8 nv8 lo8 e8 w8 => kc _ _ (g7.trans g8) ⟨r8, nv8, ⟨lo8, w8.mono (by omega)⟩, ?_⟩⟩
    rw [qv_eqr' e8 lo8.1 (Int.mul_pos ru'.1.1 lo7.1), qv_plus ru'.1.1 lo7.1, qv_eqr' e7 lo7.1 (Int.mul_pos slo.1 rl'.1.1), qv_times slo.1 rl'.1.1, hsh, ← vcF_get eu', ← vcF_get el']
    rfl
  · obtain ⟨ws, hws, hw2⟩ := numsF_at (K := K) (H := H5) (Pr := fun i u => FrR (4 * m + 3) u ∧ qv u = lessV (vcF us) (vcF ls) j i) (ys := ys) hR
    have hw : ∀ u ∈ ws, FrR (4 * m + 3) u := fun u hu => by
      obtain ⟨i, hi⟩ := List.getElem?_of_mem hu
      exact (hw2 i u hi).1
    have wl : ws.length = us.length := by rw [← paired_len hws, hl5, xl]
    refine hQ D ws H5 (g03.trans g5) (fun b ys h e => ?_) ⟨D, ys, rfl, hD, hws⟩ wl hw (funext fun i => ?_)
    · have := g03.keep b (.lst ys) (fun _ z => nomatch z) h
      rw [e, nD] at this
      cases this
    · by_cases hi : i < us.length
      · obtain ⟨y, w', ey, ew, hyw⟩ := paired_at hws i (by omega)
        rw [vcF_get ew, (hw2 i w' ew).2]
      · rw [vcF_out (by omega)]
        show (0 : Rat) = vcF us i + _ * vcF ls i
        rw [vcF_out (us := us) (i := i) (by omega), vcF_out (us := ls) (i := i) (by omega)]
        grind
end
end SB
namespace SB
open PySem L2 GxR GA RZ
/-! ### lists of lists of fractions -/
def FlN (K : PySem.W.Frag) (D : Addr) (H : Hp) (x : V) (us : List (Int × Int)) : Prop := FlL K H x us ∧ x ≠ .ref D
theorem FlN.gr {K : PySem.W.Frag} {D : Addr} {H H' : Hp} {x : V} {us : List (Int × Int)} (h : FlN K D H x us) (g : Gr H H') : FlN K D H' x us := ⟨h.1.gr g, h.2⟩
theorem FlN.put {K : PySem.W.Frag} {D : Addr} {H : Hp} {x : V} {us : List (Int × Int)} {ys : List V} {o : HO} (h : FlN K D H x us) (hD : H D = some (.lst ys)) : FlN K D (upd H D o) x us := ⟨h.1.put hD h.2, h.2⟩
def KpN (K : PySem.W.Frag) (D : Addr) (H : Hp) (x : V) (q : Nat × List (Int × Int)) : Prop := ∃ a b, x = .ref a ∧ SqT K H a [.int ((q.1 : Nat) : Int), b] ∧ FlN K D H b q.2
theorem KpN.gr {K : PySem.W.Frag} {D : Addr} {H H' : Hp} {x : V} {q : Nat × List (Int × Int)} (h : KpN K D H x q) (g : Gr H H') : KpN K D H' x q := by
  obtain ⟨a, b, e, s, f⟩ := h
  exact ⟨a, b, e, g.seqT s, f.gr g⟩
theorem KpN.put {K : PySem.W.Frag} {D : Addr} {H : Hp} {x : V} {q : Nat × List (Int × Int)} {ys : List V} {o : HO} (h : KpN K D H x q) (hD : H D = some (.lst ys)) : KpN K D (upd H D o) x q := by
  obtain ⟨a, b, e, s, f⟩ := h
  exact ⟨a, b, e, Tst.put hD a _ s, f.put hD⟩
def frP (r : Int × Int) : PyData := .tuple [.int r.1, .int r.2]
def frsP (us : List (Int × Int)) : PyData := .list (us.map frP)
theorem lay_frs : ∀ rs : List (Int × Int), PyData.canLayAll0 (rs.map frP) = true
  | [] => rfl
  | j :: r => by
    show (PyData.canLay0 (frP j) && PyData.canLayAll0 (r.map frP)) = true
    rw [lay_frs r]
    rfl
theorem dep_frs : ∀ rs : List (Int × Int), PyData.depthAll (rs.map frP) ≤ 1
  | [] => Nat.zero_le _
  | j :: r => by
    have h := dep_frs r
    rw [List.map_cons]
    simp [PyData.depthAll, PyData.depth, frP]
    omega
theorem dp_frs {K : PySem.W.Frag} {H : Hp} : ∀ {xs : List V} {rs : List (Int × Int)}, Paired (NuV K H) xs rs → DpAll K H xs (rs.map frP)
  | _, _, .nil => .nil
  | _, _, .cons ⟨a, e, h⟩ t => by
    subst e
    exact .cons (.tup h (.cons (.int _) (.cons (.int _) .nil))) (dp_frs t)
theorem lay_frss : ∀ us : List (List (Int × Int)), PyData.canLayAll0 (us.map frsP) = true
  | [] => rfl
  | u :: us => by
    show (PyData.canLay0 (frsP u) && PyData.canLayAll0 (us.map frsP)) = true
    rw [lay_frss us, Bool.and_true]
    exact lay_frs u
theorem dep_frss : ∀ us : List (List (Int × Int)), PyData.depthAll (us.map frsP) ≤ 2
  | [] => by decide
  | u :: us => by
    have h := dep_frs u
    have ih := dep_frss us
    simp [PyData.depthAll, frsP, PyData.depth] at h ih ⊢
    omega
theorem shp_frss (us : List (List (Int × Int))) : SeqAt.shaped (.list (us.map frsP)) = true := by
  unfold SeqAt.shaped
  rw [Bool.and_eq_true]
  refine ⟨lay_frss us, decide_eq_true ?_⟩
  have h := dep_frss us
  simp [PyData.depth] at h ⊢
  omega
theorem dp_frss {K : PySem.W.Frag} {D : Addr} {H : Hp} : ∀ {xs : List V} {us : List (List (Int × Int))}, Paired (FlN K D H) xs us → DpAll K H xs (us.map frsP)
  | _, _, .nil => .nil
  | _, _, .cons ⟨⟨a, zs, ea, hs, p⟩, _⟩ r => by
    subst ea
    exact .cons (.lst (SqL.of hs) (dp_frs p)) (dp_frss r)
theorem eqv_frss (us : List (List (Int × Int))) : PyData.eqv (.list (us.map frsP)) (.list []) = us.isEmpty := by
  cases us <;> rfl
/-! ### two comprehensions -/
/-- those that pass -/
def filt2 {α : Type} (xs : List V) (zs : List α) (p : α → Bool) : List V := ((xs.zip zs).filter fun q => p q.2).map (·.1)
theorem filt2_len {α : Type} (xs : List V) (zs : List α) (p : α → Bool) : (filt2 xs zs p).length ≤ xs.length := by
  unfold filt2
  rw [List.length_map]
  refine Nat.le_trans (List.length_filter_le ..) ?_
  rw [List.length_zip]
  omega
theorem filt2_snoc {α : Type} {xs : List V} {zs : List α} {p : α → Bool} {i : Nat} {x : V} {z : α} (hx : xs[i]? = some x) (hz : zs[i]? = some z) : filt2 (xs.take (i + 1)) (zs.take (i + 1)) p = filt2 (xs.take i) (zs.take i) p ++ if p z = true then [x] else [] := by
  have h1 := (List.getElem?_eq_some_iff.mp hx).1
  have h2 := (List.getElem?_eq_some_iff.mp hz).1
  unfold filt2
  rw [List.take_add_one, List.take_add_one, hx, hz, Option.toList_some, Option.toList_some, List.zip_append (by rw [List.length_take, List.length_take]; omega), List.filter_append, List.map_append]
  congr 1
  show ((List.filter (fun q => p q.2) [(x, z)]).map (·.1)) = _
  by_cases c : p z = true
  · rw [if_pos c]
    simp [List.filter, c]
  · rw [if_neg c]
    simp [List.filter, c]
theorem filt2_paired {α : Type} {F : V → α → Prop} {p : α → Bool} : ∀ {xs : List V} {zs : List α}, Paired F xs zs → Paired F (filt2 xs zs p) (zs.filter p)
  | _, _, .nil => .nil
  | x :: xs, z :: zs, .cons r t => by
    have ih := filt2_paired (p := p) t
    unfold filt2 at ih ⊢
    by_cases c : p z = true
    · rw [List.zip_cons_cons, List.filter_cons_of_pos (by exact c), List.filter_cons_of_pos (by exact c)]
      exact .cons r ih
    · rw [List.zip_cons_cons, List.filter_cons_of_neg (by exact c), List.filter_cons_of_neg (by exact c)]
      exact ih
theorem lc_filt {α : Type} {J : It} {xs : List V} {zs : List α} {p : α → Bool} {g : TG} {tt : TT} {te : TE} {vs : List Nat} {σ : L2.St} {H1 : Hp} {D : Addr} {Qd : Hp → Prop} (Z : OneIt J xs H1) (hl : xs.length = zs.length) (nD : H1 D = none) (hz : xs.length ≤ 1000)
    (step : ∀ (i : Nat) x z H (Ky : VK) (Nx : Hp → Prop), xs[i]? = some x → zs[i]? = some z → Gr H1 H → (p z = true → Ky x H) → (p z = false → Nx H) → g x (wipe σ vs) H fun σ2 H2 => wipe σ2 vs = wipe σ vs ∧ tt σ2 H2 fun b H3 => if b = true then te σ2 H3 Ky else Nx H3)
    (fin : ∀ H, H D = some (.lst (filt2 xs zs p)) → Gr H1 H → Qd H) :
    ∃ W : Nat → Nat → Hp → Prop, (∃ m, W 0 m (upd H1 D (.lst []))) ∧ ∀ i m H, W i m H → (J.stop i H ∧ Qd H) ∨
      (J.go i H ∧ ∃ Nx : Hp → Prop, (∀ H', Nx H' → ∃ m', m' < m ∧ W (i + 1) m' H') ∧ ∀ x H', J.yld i H x H' → g x (wipe σ vs) H' fun σ2 H2 => wipe σ2 vs = wipe σ vs ∧ tt σ2 H2 fun b H3 =>
        if b = true then te σ2 H3 fun y H4 => ∃ acc, H4 D = some (.lst acc) ∧ acc.length < sizeLine ∧ Nx (upd H4 D (.lst (acc ++ [y]))) else Nx H3) := by
  refine ⟨fun i m H => i + m = xs.length ∧ H D = some (.lst (filt2 (xs.take i) (zs.take i) p)) ∧ GrD D H1 H, ⟨xs.length, Nat.zero_add _, upd_same, (GrD.refl D H1).set _⟩, fun i m H ⟨hm, hD, gr⟩ => ?_⟩
  have g1 := gr.to nD
  cases m with
  | zero =>
    have e : i = xs.length := by omega
    subst e
    rw [List.take_length, hl, List.take_length] at hD
    exact .inl ⟨Z.stop H g1, fin H hD g1⟩
  | succ m =>
    have i1 : i < xs.length := by omega
    refine .inr ⟨Z.go H i g1 i1, fun H' => H' D = some (.lst (filt2 (xs.take (i + 1)) (zs.take (i + 1)) p)) ∧ GrD D H1 H', fun H' h => ⟨m, Nat.lt_succ_self _, by omega, h⟩, fun v H' hyl => ?_⟩
    obtain ⟨rfl, hx⟩ := Z.yld H i v H' g1 i1 hyl
    have ez : zs[i]? = some (zs[i]'(by omega)) := List.getElem?_eq_getElem (by omega)
    have sn := filt2_snoc (p := p) hx ez
    refine step i v _ _ _ _ hx ez g1 (fun c => ⟨_, hD, ?_, ?_, gr.set _⟩) fun c => ⟨?_, gr⟩
    · have := filt2_len (xs.take i) (zs.take i) p
      rw [List.length_take] at this
      exact small1000 (by omega)
    · rw [upd_same, sn, if_pos c]
    · rw [hD, sn, if_neg (by rw [c]; exact Bool.false_ne_true), List.append_nil]
/-- as lc_one; what is said of an item may rest on that D is a list -/
theorem lc_oneL {J : It} {xs : List V} {g : TG} {te : TE} {vs : List Nat} {σ : L2.St} {H1 : Hp} {D : Addr} {Qd : Hp → Prop} (Z : OneIt J xs H1) (R : Nat → V → Hp → Prop) (hst : ∀ i y H H', R i y H → Gr H H' → R i y H') (hput : ∀ i y H o xs0, H D = some (.lst xs0) → R i y H → R i y (upd H D o)) (nD : H1 D = none) (hz : xs.length ≤ sizeLine)
    (step : ∀ (i : Nat) x H (Kc : VK), xs[i]? = some x → Gr H1 H → (∃ ys, H D = some (.lst ys)) → (∀ v H4, Gr H H4 → R i v H4 → Kc v H4) → g x (wipe σ vs) H fun σ2 H2 => wipe σ2 vs = wipe σ vs ∧ te σ2 H2 Kc)
    (fin : ∀ ys H, H D = some (.lst ys) → ys.length = xs.length → Gr H1 H → (∀ i y, ys[i]? = some y → R i y H) → Qd H) :
    ∃ W : Nat → Nat → Hp → Prop, (∃ m, W 0 m (upd H1 D (.lst []))) ∧ ∀ i m H, W i m H → (J.stop i H ∧ Qd H) ∨
      (J.go i H ∧ ∃ Nx : Hp → Prop, (∀ H', Nx H' → ∃ m', m' < m ∧ W (i + 1) m' H') ∧ ∀ x H', J.yld i H x H' → g x (wipe σ vs) H' fun σ2 H2 => wipe σ2 vs = wipe σ vs ∧ tYes σ2 H2 fun b H3 =>
        if b = true then te σ2 H3 fun y H4 => ∃ acc, H4 D = some (.lst acc) ∧ acc.length < sizeLine ∧ Nx (upd H4 D (.lst (acc ++ [y]))) else Nx H3) := by
  refine ⟨fun i m H => i + m = xs.length ∧ ∃ ys, H D = some (.lst ys) ∧ ys.length = i ∧ GrD D H1 H ∧ ∀ j y, ys[j]? = some y → R j y H, ⟨xs.length, Nat.zero_add _, [], upd_same, rfl, (GrD.refl D H1).set _, fun j y h => by simp at h⟩, fun i m H ⟨hm, ys, hD, hy, gr, hR⟩ => ?_⟩
  have g1 := gr.to nD
  cases m with
  | zero =>
    have e : i = xs.length := by omega
    subst e
    exact .inl ⟨Z.stop H g1, fin ys H hD (by omega) g1 hR⟩
  | succ m =>
    have i1 : i < xs.length := by omega
    refine .inr ⟨Z.go H i g1 i1, fun H' => ∃ ys, H' D = some (.lst ys) ∧ ys.length = i + 1 ∧ GrD D H1 H' ∧ ∀ j y, ys[j]? = some y → R j y H', fun H' h => ⟨m, Nat.lt_succ_self _, by omega, h⟩, fun v H' hyl => ?_⟩
    obtain ⟨rfl, hx⟩ := Z.yld H i v H' g1 i1 hyl
    refine step i v H' _ hx g1 ⟨ys, hD⟩ fun y H4 g4 rv => ?_
    have hD4 : H4 D = some (.lst ys) := g4.keep D _ (fun _ z => nomatch z) hD
    refine ⟨ys, hD4, Nat.lt_of_lt_of_le (by omega : ys.length < xs.length) hz, ys ++ [y], upd_same, by rw [List.length_append, hy]; rfl, (gr.trans (g4.d D)).set _, fun j z hz2 => ?_⟩
    by_cases hj : j < ys.length
    · rw [List.getElem?_append_left hj] at hz2
      exact hput _ _ _ _ _ hD4 (hst _ _ _ _ (hR j z hz2) g4)
    · have hl2 := (List.getElem?_eq_some_iff.mp hz2).1
      rw [List.length_append] at hl2
      have hl2 : j < ys.length + 1 := hl2
      have ej : j = ys.length := by omega
      subst ej
      rw [List.getElem?_append_right (Nat.le_refl _), Nat.sub_self] at hz2
      cases hz2
      rw [hy]
      exact hput _ _ _ _ _ hD4 rv
end SB
namespace SB
open PySem L2 GxR GA RZ
/-! ### the law's point, pure -/
def wdT : Nat → Nat
  | 0 => 4
  | j + 1 => 4 * wdT j + 3
theorem wdT_le {j : Nat} (h : j ≤ 3) : wdT j ≤ 319 := by
  match j, h with
  | 0, _ => decide
  | 1, _ => decide
  | 2, _ => decide
  | 3, _ => decide
structure Ph1 (n : Nat) (R : List Vc) (us : List (List (Int × Int))) (ks : List (Nat × List (Int × Int))) (j : Nat) : Prop where
  wu : ∀ u ∈ us, u.length = n + 1 ∧ ∀ f ∈ u, FrR (wdT j) f
  wk : ∀ q ∈ ks, q.2.length = n + 1 ∧ (∀ f ∈ q.2, FrR 320 f) ∧ (∀ i, i < q.1 → vcF q.2 i = 0) ∧ vcF q.2 q.1 ≠ 0 ∧ q.1 < j
  mt : MtI R (ks.map fun q => (vcF q.2, q.1)) (us.map vcF) j
  asc : ks.Pairwise fun p q => p.1 < q.1
theorem Ph1.start {n : Nat} {us : List (List (Int × Int))} (h : ∀ u ∈ us, u.length = n + 1 ∧ ∀ f ∈ u, FrR 4 f) : Ph1 n (us.map vcF) us [] 0 :=
  ⟨h, (fun q hq => by cases hq), MtI.start _, .nil⟩
theorem Ph1.skip {n : Nat} {R : List Vc} {us : List (List (Int × Int))} {ks : List (Nat × List (Int × Int))} {j : Nat} (h : Ph1 n R us ks j) (hz : ∀ u ∈ us, vcF u j = 0) : Ph1 n R us ks (j + 1) :=
  ⟨fun u hu => ⟨(h.wu u hu).1, fun f hf => ((h.wu u hu).2 f hf).mono (by show wdT j ≤ 4 * wdT j + 3; omega)⟩, fun q hq => let ⟨a, b, c, d, e⟩ := h.wk q hq; ⟨a, b, c, d, Nat.lt_succ_of_lt e⟩, h.mt.skip fun x hx => by
    obtain ⟨u, hu, rfl⟩ := List.mem_map.mp hx
    exact hz u hu, h.asc⟩
theorem Ph1.step {n : Nat} {R : List Vc} {us ws : List (List (Int × Int))} {ks : List (Nat × List (Int × Int))} {j : Nat} {lead : List (Int × Int)} (h : Ph1 n R us ks j) (hj : j ≤ 3) (hl : lead ∈ us) (hn : vcF lead j ≠ 0)
    (hw : Paired (fun w u => w.length = n + 1 ∧ (∀ f ∈ w, FrR (4 * wdT j + 3) f) ∧ vcF w = lessV (vcF u) (vcF lead) j) ws us) : Ph1 n R ws (ks ++ [(j, lead)]) (j + 1) := by
  obtain ⟨l1, l2⟩ := h.wu lead hl
  have ew : ws.map vcF = (us.map vcF).map fun x => lessV x (vcF lead) j := by
    rw [List.map_map]
    refine List.ext_getElem? fun i => ?_
    rw [List.getElem?_map, List.getElem?_map]
    cases hwi : ws[i]? with
    | none =>
      have h1 := List.getElem?_eq_none_iff.mp hwi
      rw [paired_len hw] at h1
      rw [List.getElem?_eq_none h1]
      rfl
    | some w =>
      obtain ⟨u, e, _, _, ev⟩ := paired_get hw hwi
      rw [e]
      show some (vcF w) = some (lessV (vcF u) (vcF lead) j)
      rw [ev]
  refine ⟨fun w hw2 => ?_, fun q hq => ?_, ?_, ?_⟩
  · obtain ⟨i, hi⟩ := List.getElem?_of_mem hw2
    obtain ⟨u, e, a, b, _⟩ := paired_get hw hi
    exact ⟨a, b⟩
  · rcases List.mem_append.mp hq with hq | hq
    · obtain ⟨a, b, c, d, e⟩ := h.wk q hq
      exact ⟨a, b, c, d, Nat.lt_succ_of_lt e⟩
    · rw [List.mem_singleton.mp hq]
      exact ⟨l1, fun f hf => (l2 f hf).mono (Nat.le_trans (wdT_le hj) (by decide)), fun i hi => h.mt.zr _ (List.mem_map.mpr ⟨lead, hl, rfl⟩) i hi, hn, Nat.lt_succ_self j⟩
  · rw [ew, List.map_append]
    exact h.mt.step (List.mem_map.mpr ⟨lead, hl, rfl⟩) hn
  · refine List.pairwise_append.mpr ⟨h.asc, List.pairwise_singleton .., fun p hp q hq => ?_⟩
    rw [List.mem_singleton.mp hq]
    exact (h.wk p hp).2.2.2.2
def bq : Nat → Nat
  | 0 => 15086
  | 1 => 4493
  | 2 => 1604
  | 3 => 641
  | _ => 1
theorem bq_step {j n : Nat} (hj : j < n) (hn : n ≤ 4) : 320 + (n - 1 - j) * (bq (j + 1) + 322) + 320 + 1 ≤ bq j := by
  have h3 : j = 0 ∨ j = 1 ∨ j = 2 ∨ j = 3 := by omega
  rcases h3 with rfl | rfl | rfl | rfl
  · have : (n - 1 - 0) * (4493 + 322) ≤ 3 * 4815 := Nat.mul_le_mul (by omega) (Nat.le_refl _)
    show 320 + (n - 1 - 0) * (4493 + 322) + 320 + 1 ≤ 15086
    omega
  · have : (n - 1 - 1) * (1604 + 322) ≤ 2 * 1926 := Nat.mul_le_mul (by omega) (Nat.le_refl _)
    show 320 + (n - 1 - 1) * (1604 + 322) + 320 + 1 ≤ 4493
    omega
  · have : (n - 1 - 2) * (641 + 322) ≤ 1 * 963 := Nat.mul_le_mul (by omega) (Nat.le_refl _)
    show 320 + (n - 1 - 2) * (641 + 322) + 320 + 1 ≤ 1604
    omega
  · have : (n - 1 - 3) * (1 + 322) ≤ 0 * 323 := Nat.mul_le_mul (by omega) (Nat.le_refl _)
    show 320 + (n - 1 - 3) * (1 + 322) + 320 + 1 ≤ 641
    omega
theorem bq_mono {i j : Nat} (h : i ≤ j) : bq j ≤ bq i := by
  have b : ∀ k, bq (k + 4) = 1 := fun k => rfl
  by_cases hj : j ≤ 3
  · have h1 : j = 0 ∨ j = 1 ∨ j = 2 ∨ j = 3 := by omega
    have h2 : i = 0 ∨ i = 1 ∨ i = 2 ∨ i = 3 := by omega
    rcases h1 with rfl | rfl | rfl | rfl <;> rcases h2 with rfl | rfl | rfl | rfl <;> first | decide | omega
  · obtain ⟨k, rfl⟩ : ∃ k, j = k + 4 := ⟨j - 4, by omega⟩
    rw [b]
    by_cases hi : i ≤ 3
    · have h2 : i = 0 ∨ i = 1 ∨ i = 2 ∨ i = 3 := by omega
      rcases h2 with rfl | rfl | rfl | rfl <;> decide
    · obtain ⟨k, rfl⟩ : ∃ k, i = k + 4 := ⟨i - 4, by omega⟩
      rw [b]
      exact Nat.le_refl _
theorem bq_le (j : Nat) : bq j ≤ 15086 := bq_mono (i := 0) (Nat.zero_le j)
/-- going back: qs are done, all from lo on are told -/
structure Ph2 (n : Nat) (qs : List (Nat × List (Int × Int))) (lo : Nat) (sp : List (Int × Int)) : Prop where
  len : sp.length = n
  zr : ∀ i, i < lo → i < n → sp[i]? = some (0, 1)
  fr : ∀ f ∈ sp, FrR (bq lo) f
  off : ∀ q ∈ qs, offQ n (vcF q.2) (vcF sp) = 0
  lw : ∀ q ∈ qs, lo ≤ q.1
theorem lo_zero {r : Int × Int} (h : Lo r) (e : qv r = 0) : r = (0, 1) := qv_inj h (lo_int 0) (by rw [e, qv_zero])
theorem fr_one : ∀ m, 1 ≤ m → FrR m (0, 1) := fun m hm => ⟨lo_int 0, show (0 : Nat) < 2 ^ m from Nat.two_pow_pos m, Nat.one_lt_two_pow (by omega)⟩
theorem bq_pos (j : Nat) : 1 ≤ bq j := by
  unfold bq
  split <;> decide
theorem Ph2.start (n : Nat) : Ph2 n [] n (List.replicate n (0, 1)) :=
  ⟨List.length_replicate, fun i _ h => by rw [List.getElem?_replicate, if_pos h], fun f hf => by
    rw [List.eq_of_mem_replicate hf]
    exact fr_one _ (bq_pos n), (fun q hq => by cases hq), (fun q hq => by cases hq)⟩
theorem vcF_set {sp : List (Int × Int)} {j : Nat} {z : Int × Int} (h : j < sp.length) : vcF (sp.set j z) = setQ (vcF sp) j (qv z) := funext fun i => by
  unfold setQ vcF
  rw [List.getD_eq_getElem?_getD, List.getD_eq_getElem?_getD, List.getElem?_set]
  by_cases e : i = j
  · rw [if_pos e.symm, if_pos e, if_pos h]
    rfl
  · rw [if_neg (Ne.symm e), if_neg e]
theorem setQ_same {s : Vc} {j : Nat} (h : s j = 0) : setQ s j 0 = s := funext fun i => by
  unfold setQ
  by_cases e : i = j
  · rw [if_pos e, e, h]
  · rw [if_neg e]
theorem Ph2.step {n lo : Nat} {qs : List (Nat × List (Int × Int))} {sp : List (Int × Int)} {q : Nat × List (Int × Int)} {z : Int × Int} (h : Ph2 n qs lo sp) (hq : q.1 < lo) (hn : q.1 < n) (hz : ∀ p ∈ qs, ∀ i, i < p.1 → vcF p.2 i = 0) (hne : vcF q.2 q.1 ≠ 0)
    (zf : FrR (bq q.1) z) (ez : qv z = (vcF q.2 n - sumQ n (vcF q.2) (setQ (vcF sp) q.1 0)) / vcF q.2 q.1) : Ph2 n (qs ++ [q]) q.1 (sp.set q.1 z) := by
  have hl := h.len
  have ev := vcF_set (sp := sp) (j := q.1) (z := z) (by omega)
  refine ⟨by rw [List.length_set]; exact hl, fun i hi hin => ?_, fun f hf => ?_, fun p hp => ?_, fun p hp => ?_⟩
  · rw [List.getElem?_set, if_neg (by omega)]
    exact h.zr i (by omega) hin
  · rcases List.mem_or_eq_of_mem_set hf with hf | rfl
    · exact (h.fr f hf).mono (bq_mono (by omega))
    · exact zf
  · rcases List.mem_append.mp hp with hp | hp
    · rw [ev]
      exact off_keep (hz p hp q.1 (by have := h.lw p hp; omega)) (h.off p hp)
    · rw [List.mem_singleton.mp hp, ev, ez]
      exact off_set hn hne
  · rcases List.mem_append.mp hp with hp | hp
    · have := h.lw p hp
      omega
    · rw [List.mem_singleton.mp hp]
      exact Nat.le_refl _
/-- rest, as far as i -/
structure RsT (n j : Nat) (ls sp : List (Int × Int)) (i : Nat) (r : Int × Int) : Prop where
  fr : FrR (320 + (i - 1 - j) * (bq (j + 1) + 322)) r
  val : qv r = vcF ls n - sumQ i (vcF ls) (setQ (vcF sp) j 0)
theorem sumQ_succ (d : Nat) (v s : Vc) : sumQ (d + 1) v s = sumQ d v s + v d * s d := rfl
theorem RsT.start {n j : Nat} {ls sp : List (Int × Int)} {l : Int × Int} (hl : ls[n]? = some l) (h : FrR 320 l) : RsT n j ls sp 0 l :=
  ⟨h.mono (by omega), by rw [vcF_get hl]; show _ = _ - (0 : Rat); grind⟩
theorem RsT.same {n j : Nat} {ls sp : List (Int × Int)} {r : Int × Int} (h : RsT n j ls sp j r) : RsT n j ls sp (j + 1) r :=
  ⟨h.fr.mono (by rw [show j - 1 - j = 0 by omega, Nat.zero_mul]; omega), by
    rw [sumQ_succ, show setQ (vcF sp) j 0 j = 0 from if_pos rfl, h.val]
    grind⟩
theorem RsT.zero {n j i : Nat} {ls sp : List (Int × Int)} {r : Int × Int} (h : RsT n j ls sp i r) (hi : i < j) (hz : sp[i]? = some (0, 1)) : RsT n j ls sp (i + 1) r :=
  ⟨h.fr.mono (by rw [show i - 1 - j = 0 by omega, Nat.zero_mul]; omega), by
    rw [sumQ_succ, show setQ (vcF sp) j 0 i = vcF sp i from if_neg (by omega), vcF_get hz, qv_zero, h.val]
    grind⟩
theorem RsT.more {n j i : Nat} {ls sp : List (Int × Int)} {r r' l s : Int × Int} (h : RsT n j ls sp i r) (hi : j < i) (hl : ls[i]? = some l) (hs : sp[i]? = some s) (lo : Lo r') (w : Wd (320 + (i - 1 - j) * (bq (j + 1) + 322) + (320 + bq (j + 1) + 1) + 1) r') (e : qv r' = qv r + - qv l * qv s) : RsT n j ls sp (i + 1) r' :=
  ⟨⟨lo, w.mono (by rw [show i + 1 - 1 - j = (i - 1 - j) + 1 by omega, Nat.succ_mul]; omega)⟩, by
    rw [sumQ_succ, show setQ (vcF sp) j 0 i = vcF sp i from if_neg (by omega), vcF_get hl, vcF_get hs, e, h.val]
    grind⟩
/-! ### sums by rows and by places -/
theorem dot_snoc : ∀ (ns : List Int) (xs : List Rat) (z : Int) (y : Rat), ns.length = xs.length → dotQ (ns ++ [z]) (xs ++ [y]) = dotQ ns xs + (z : Rat) * y
  | [], [], z, y, _ => by
    show (z : Rat) * y + 0 = 0 + (z : Rat) * y
    grind
  | n :: ns, x :: xs, z, y, h => by
    show (n : Rat) * x + dotQ (ns ++ [z]) (xs ++ [y]) = (n : Rat) * x + dotQ ns xs + (z : Rat) * y
    rw [dot_snoc ns xs z y (by simpa using h)]
    grind
theorem sum_dot : ∀ (d : Nat) (ns : List Int) (xs : List Rat) (v s : Vc), ns.length = d → xs.length = d → (∀ (i : Nat) (z : Int), ns[i]? = some z → v i = (z : Rat)) → (∀ (i : Nat) (y : Rat), xs[i]? = some y → s i = y) → sumQ d v s = dotQ ns xs
  | 0, [], [], _, _, _, _, _, _ => rfl
  | d + 1, ns, xs, v, s, h1, h2, hv, hs => by
    rcases List.eq_nil_or_concat ns with rfl | ⟨ns', z, rfl⟩
    · simp at h1
    rcases List.eq_nil_or_concat xs with rfl | ⟨xs', y, rfl⟩
    · simp at h2
    rw [List.concat_eq_append] at *
    rw [List.concat_eq_append] at *
    have l1 : ns'.length = d := by simpa using h1
    have l2 : xs'.length = d := by simpa using h2
    rw [dot_snoc _ _ _ _ (by omega), sumQ_succ, sum_dot d ns' xs' v s l1 l2 (fun i z h => hv i z (by rw [List.getElem?_append_left (List.getElem?_eq_some_iff.mp h).1]; exact h)) fun i y h => hs i y (by rw [List.getElem?_append_left (List.getElem?_eq_some_iff.mp h).1]; exact h), hv d z (by rw [List.getElem?_append_right (by omega), l1, Nat.sub_self]; rfl), hs d y (by rw [List.getElem?_append_right (by omega), l2, Nat.sub_self]; rfl)]
/-- a question's row -/
def rowF (q : List Int × Int) : List (Int × Int) := q.1.map (fun z => (z, 1)) ++ [(q.2, 1)]
theorem vcF_row (q : List Int × Int) : vcF (rowF q) = vcI (q.1 ++ [q.2]) := funext fun i => by
  have e : rowF q = (q.1 ++ [q.2]).map fun z => (z, 1) := by
    rw [List.map_append]
    rfl
  rw [e]
  cases h : (q.1 ++ [q.2])[i]? with
  | none =>
    have hl := List.getElem?_eq_none_iff.mp h
    rw [vcF_out (by rw [List.length_map]; exact hl)]
    unfold vcI
    rw [gI_out hl]
    rfl
  | some z =>
    rw [vcF_get (u := (z, 1)) (by rw [List.getElem?_map, h]; rfl), qv_int]
    unfold vcI
    rw [gI_get h]
theorem cut_row {q : List Int × Int} {n : Nat} (h : q.1.length = n) : cutV' n (vcI (q.1 ++ [q.2])) = vcI q.1 := funext fun i => by
  unfold cutV' vcI
  by_cases hi : i < n
  · rw [if_pos hi]
    have e := List.getElem?_eq_getElem (l := q.1) (i := i) (by omega)
    rw [gI_get e, gI_get (z := q.1[i]) (by rw [List.getElem?_append_left (by omega)]; exact e)]
  · rw [if_neg hi, gI_out (by omega)]
    rfl
theorem off_dot {q : List Int × Int} {n : Nat} {sp : List (Int × Int)} (h : q.1.length = n) (hs : sp.length = n) (e : offQ n (vcI (q.1 ++ [q.2])) (vcF sp) = 0) : dotQ q.1 (sp.map qv) = (q.2 : Rat) := by
  unfold offQ at e
  rw [sum_dot n q.1 (sp.map qv) _ _ h (by rw [List.length_map]; exact hs) (fun i z hz => by
    unfold vcI
    rw [gI_get (z := z) (by rw [List.getElem?_append_left (List.getElem?_eq_some_iff.mp hz).1]; exact hz)]) (fun i y hy => by
    rw [List.getElem?_map] at hy
    obtain ⟨u, hu, rfl⟩ := Option.map_eq_some_iff.mp hy
    exact vcF_get hu)] at e
  have e2 : vcI (q.1 ++ [q.2]) n = (q.2 : Rat) := by
    unfold vcI
    rw [gI_get (z := q.2) (by rw [List.getElem?_append_right (by omega), h, Nat.sub_self]; rfl)]
  rw [e2] at e
  grind
end SB
namespace SB
open PySem L2 GxR GA RZ
theorem pi_tupK {X : Cx} {tg l : Expr} {tl : TE} (K : PySem.W.Frag) (e : X.K = K) (hl : PE X l tl) : PI X tg l (iTup K tl) := by
  subst e
  exact pi_tup hl
/-- the rows that one begins with -/
def Q99 (n : Nat) (q : List Int × Int) : Prop := q.1.length = n ∧ (∀ z ∈ q.1, z.natAbs < 2 ^ 4) ∧ q.2.natAbs < 2 ^ 4
theorem fr_nine {z : Int} (h : z.natAbs < 2 ^ 4) : FrR 4 (z, 1) := ⟨lo_int z, h, show (1 : Int).natAbs < 2 ^ 4 by decide⟩
theorem rowF_ok {n : Nat} {q : List Int × Int} (h : Q99 n q) : (rowF q).length = n + 1 ∧ ∀ f ∈ rowF q, FrR 4 f := by
  obtain ⟨h1, h2, h3⟩ := h
  unfold rowF
  refine ⟨by rw [List.length_append, List.length_map, h1]; rfl, fun f hf => ?_⟩
  rcases List.mem_append.mp hf with hf | hf
  · obtain ⟨z, hz, rfl⟩ := List.mem_map.mp hf
    exact fr_nine (h2 z hz)
  · rw [List.mem_singleton.mp hf]
    exact fr_nine h3
section
variable {P : Program} {w : World} {K : PySem.W.Frag} {mg : Str → Option Value} {base : Heap}
theorem pair_of {α : Type} {F : Hp → V → α → Prop} {H : Hp} : ∀ {ys : List V} {Pr : Nat → α → Prop}, (∀ (i : Nat) (y : V), ys[i]? = some y → ∃ u, F H y u ∧ Pr i u) → ∃ us : List α, Paired (F H) ys us ∧ ∀ (i : Nat) u, us[i]? = some u → Pr i u
  | [], _, _ => ⟨[], .nil, fun i u h => by simp at h⟩
  | y :: ys, Pr, h => by
    obtain ⟨u, hu, pu⟩ := h 0 y rfl
    obtain ⟨us, p, q⟩ := pair_of (F := F) (ys := ys) (Pr := fun i u => Pr (i + 1) u) fun i z hz => h (i + 1) z (by simpa using hz)
    refine ⟨u :: us, .cons hu p, fun i v hv => ?_⟩
    cases i with
    | zero => simp at hv; subst hv; exact pu
    | succ i => exact q i v (by simpa using hv)
theorem flat_one (x : V) : ∀ n : Nat, (List.replicate n [x]).flatten = List.replicate n x
  | 0 => rfl
  | n + 1 => by
    rw [List.replicate_succ, List.flatten_cons, flat_one x n, List.replicate_succ]
    rfl
theorem paired_rev {α β : Type} {F : α → β → Prop} : ∀ {xs : List α} {ys : List β}, Paired F xs ys → Paired F xs.reverse ys.reverse
  | _, _, .nil => .nil
  | _, _, .cons r t => by
    rw [List.reverse_cons, List.reverse_cons]
    exact paired_app (paired_rev t) (.cons r .nil)
theorem ixN_at {n j : Nat} (h : j < n) : ixN n ((j : Nat) : Int) = some j := ixN_nat h
theorem rs_le {n j i : Nat} (hi : i ≤ n) (hn : n ≤ 4) : 320 + (i - 1 - j) * (bq (j + 1) + 322) ≤ 50000 := by
  have h1 := bq_le (j + 1)
  have : (i - 1 - j) * (bq (j + 1) + 322) ≤ 3 * 15408 := Nat.mul_le_mul (by omega) (by omega)
  omega
def spMeet (K : PySem.W.Frag) : Sp := fun vs H Q _ => ∃ x n qs w v r, vs = [x] ∧ BkV K H x n qs ∧ 1 ≤ n ∧ n ≤ 4 ∧ qs.length ≤ 8 ∧ (∀ q ∈ qs, Q99 n q) ∧ Rk (qs.map fun q => vcI (q.1 ++ [q.2])) w r ∧ Rk (qs.map fun q => vcI q.1) v r ∧
  ∀ y sp H', Gr H H' → PtV K H' y sp → sp.length = n → (∀ u ∈ sp, FrR 15086 u) → (∀ q ∈ qs, dotQ q.1 (sp.map qv) = (q.2 : Rat)) → Q y H'
theorem sc_meet : FnScope ["page", "line", "x", "size", "rows", "kept", "j", "row", "leads", "lead", "spot", "rest", "i"] ["page"] (defScope s__law_meeting) := ⟨rfl, rfl, rfl, by decide +kernel, rfl, by decide +kernel, by decide +kernel⟩
theorem cl_meet (D : Df K mg "_law_meeting" s__law_meeting) (B : Blt mg) (CPl : Cl P w K mg base 35 "_law_plus" ["u", "v"] (spBin K fPlus)) (CTi : Cl P w K mg base 35 "_law_times" ["u", "v"] (spBin K fTimes)) (CPa : Cl P w K mg base 34 "_law_pair" ["upper", "lower"] (spPair K)) (CLr : Cl P w K mg base 36 "_law_less_row" ["row", "lead", "j"] (spLessR K)) : Cl P w K mg base 37 "_law_meeting" ["page"] (spMeet K) := by
  refine D.cl (fun _ _ _ _ _ _ us hl => match us, hl with | [_], _ => rfl) fun f fd F => F.ok sc_meet (fun vs H Q E h => ?_) (fun cdv A outer s H vs Q E hr h => ?_)
  · obtain ⟨x, n, qs, _, _, _, rfl, _⟩ := h
    rfl
  obtain ⟨_, n, qs, wf, wv, r, rfl, ⟨a, b, xs, rfl, ha, hb, hp⟩, n1, n4, q8, h99, hf, hv, hQ⟩ := h
  refine ⟨_, (pss_cons (ps_par3 (i := 3) (j := 4) (l := 5) rfl sc_meet.nd rfl rfl rfl (by decide) (by decide) (by decide) rfl rfl rfl (pa_cons (pe_ix ix_tup (pv 0) pe_int (fun _ _ => rfl)) (pa_cons (pe_lc (own := [("line", 1)]) (g := gName 1) rfl sc_meet.nd (pi_tup (pe_ix ix_tup (pv 0) pe_int (fun _ _ => rfl))) (blkOk_by (N := ["page", "line", "x", "size", "rows", "kept", "j", "row", "leads", "lead", "spot", "rest", "i"]) (sc := defScope s__law_meeting) (by decide +kernel)) (fun _ _ _ _ _ => (pg_name (i := 1) sc_meet.nd rfl (Or.inl rfl))) (fun _ _ _ _ _ => pts_nil) (fun _ _ _ _ _ => (pe_op (r := rCat) op_cat (pe_lc (own := [("x", 2)]) (g := gName 2) rfl sc_meet.nd (pi_tupK K rfl (pe_ix (r := rIxT K) ix_tup (pv 1) pe_int (fun _ _ => rfl))) (by exact blkOk_by (N := ["page", "line", "x", "size", "rows", "kept", "j", "row", "leads", "lead", "spot", "rest", "i"]) (by rfl)) (fun _ _ _ _ _ => (pg_name (i := 2) sc_meet.nd rfl (Or.inl rfl))) (fun _ _ _ _ _ => pts_nil) (fun _ _ _ _ _ => (pe_tup (pa_cons (pv 2) (pa_cons pe_int pa_nil))))) (pe_lst (pa_cons (pe_tup (pa_cons (pe_ix (r := rIxT K) ix_tup (pv 1) pe_int (fun _ _ => rfl)) (pa_cons pe_int pa_nil))) pa_nil))))) (pa_cons (pe_lst pa_nil) pa_nil))) rfl)
    (pss_cons (ps_for PassesOwn.never rfl (pi_range1 rfl B.rng (pa_cons (pv 3) pa_nil)) (pg_name (i := 6) sc_meet.nd rfl (Or.inr rfl))
      (pss_cons (ps_setLc (i := 8) (own := [("row", 7)]) (g := gName 7) rfl sc_meet.nd rfl rfl rfl (pi_list (pv 4)) (blkOk_by (N := ["page", "line", "x", "size", "rows", "kept", "j", "row", "leads", "lead", "spot", "rest", "i"]) (sc := defScope s__law_meeting) (by decide +kernel)) (fun _ _ _ _ _ => (pg_name (i := 7) sc_meet.nd rfl (Or.inl rfl))) (fun _ _ _ _ _ => pts_one (pt_cmpR op_ne (pe_ix (r := rIxT K) ix_tup (pe_ix (r := rIxL K) ix_list (pv 7) (pv 6) (fun _ _ => rfl)) pe_int (fun _ _ => rfl)) pe_int (nomark _))) (fun _ _ _ _ _ => (pv 7)))
      (pss_one (ps_if (pt_cmpR (op_neD hr.units) (pv 8) (pe_lst pa_nil) (nomark _)) (pss_cons (ps_set (i := 9) sc_meet.nd rfl (.inr rfl) (pe_ix ix_list (pv 8) pe_int (fun _ _ => rfl)))
        (pss_cons (ps_expr (pe_bm PySem.F.plainAttrs_list PySem.F.slot_list_append PySem.F.type_list_append mt_append (pv 5) (pa_cons (pe_tup (pa_cons (pv 6) (pa_cons (pv 9) pa_nil))) pa_nil)))
        (pss_one (ps_setLc (i := 4) (own := [("row", 7)]) (g := gName 7) rfl sc_meet.nd rfl rfl rfl (pi_list (pv 4)) (blkOk_by (N := ["page", "line", "x", "size", "rows", "kept", "j", "row", "leads", "lead", "spot", "rest", "i"]) (sc := defScope s__law_meeting) (by decide +kernel)) (fun _ _ _ _ _ => (pg_name (i := 7) sc_meet.nd rfl (Or.inl rfl))) (fun _ _ _ _ _ => pts_nil) (fun _ _ _ _ _ => (pe_cl CLr (hr.mono (by decide)) (pa_cons (pv 7) (pa_cons (pv 9) (pa_cons (pv 6) pa_nil))))))))) pss_nil))))
    (pss_cons (ps_set (i := 10) sc_meet.nd rfl (.inl rfl) (pe_op op_rep (pe_lst (pa_cons (pe_tup (pa_cons pe_int (pa_cons pe_int pa_nil))) pa_nil)) (pv 3)))
    (pss_cons (ps_for PassesOwn.never rfl (pi_list (pe_revL (pv 5))) (pg_tup rfl (pgs_cons (pg_name (i := 6) sc_meet.nd rfl (Or.inr rfl)) (pgs_cons (pg_name (i := 9) sc_meet.nd rfl (Or.inr rfl)) pgs_nil)))
      (pss_cons (ps_set (i := 11) sc_meet.nd rfl (.inl rfl) (pe_ix ix_list (pv 9) (pv 3) (fun _ _ => rfl)))
      (pss_cons (ps_for PassesOwn.never rfl (pi_range1 rfl B.rng (pa_cons (pv 3) pa_nil)) (pg_name (i := 12) sc_meet.nd rfl (Or.inl rfl))
        (pss_one (ps_if (pt_cmpR op_ne (pv 12) (pv 6) (nomark _)) (pss_one (ps_set (i := 11) sc_meet.nd rfl (.inl rfl) (pe_cl CPl (hr.mono (by decide)) (pa_cons (pv 11) (pa_cons (pe_cl CTi (hr.mono (by decide)) (pa_cons (pe_tup (pa_cons (pe_un un_neg (pe_ix ix_tup (pe_ix ix_list (pv 9) (pv 12) (fun _ _ => rfl)) pe_int (fun _ _ => rfl))) (pa_cons (pe_ix ix_tup (pe_ix ix_list (pv 9) (pv 12) (fun _ _ => rfl)) pe_int (fun _ _ => rfl)) pa_nil))) (pa_cons (pe_ix ix_list (pv 10) (pv 12) (fun _ _ => rfl)) pa_nil))) pa_nil))))) pss_nil)))
      (pss_one (ps_asg (pe_cl CTi (hr.mono (by decide)) (pa_cons (pv 11) (pa_cons (pe_cl CPa (hr.mono (by decide)) (pa_cons (pe_ix ix_tup (pe_ix ix_list (pv 9) (pv 6) (fun _ _ => rfl)) pe_int (fun _ _ => rfl)) (pa_cons (pe_ix ix_tup (pe_ix ix_list (pv 9) (pv 6) (fun _ _ => rfl)) pe_int (fun _ _ => rfl)) pa_nil))) pa_nil))) (pg_sub (pv 10) (pv 6) set_list))))))
    (pss_one (ps_ret (pe_callTy call_tuple_of rfl B.tup bootTup (pa_cons (pv 10) pa_nil)))))))), ?_⟩
  have xl : xs.length = qs.length := paired_len hp
  refine ⟨_, rfl, a, _, _, _, rfl, rfl, ha, rfl, _, rfl, a, _, _, _, rfl, rfl, ha, rfl, b, rfl, ⟨_, hb⟩, fun D nD => lc_oneL (oi_T hb) (fun k y H' => ∃ q, FlN K D H' y (rowF q) ∧ qs[k]? = some q) (fun k y H' H'' h g => let ⟨q, v, e⟩ := h; ⟨q, v.gr g, e⟩) (fun k y H' o ys h0 h => let ⟨q, v, e⟩ := h; ⟨q, v.put h0, e⟩) nD (by rw [xl]; exact szN (by omega)) (fun k y H5 Kc hy g5 hDl kc => ?_) (fun ys H5 hD hl5 g5 hR => ?_)⟩
  · obtain ⟨q, eq, qa, _, rfl, hqa, sa, rfl, hsa⟩ := paired_get hp hy
    obtain ⟨qn, q9, qw⟩ := h99 q (List.mem_of_getElem? eq)
    have hqa5 := g5.seqT hqa
    have hsa5 := g5.seqT hsa
    refine ⟨rfl, _, rfl, qa, _, _, _, rfl, rfl, hqa5, rfl, sa, rfl, ⟨_, hsa5⟩, fun D2 nD2 => lc_mapT (R := fun i y H' => ∃ z, q.1[i]? = some z ∧ NuV K H' y (z, 1)) (fun i y H' H'' h g => let ⟨z, e, v⟩ := h; ⟨z, e, v.st g⟩) nD2 hsa5 (by rw [List.length_map]; omega) (fun i x H6 Kc2 hx g6 kc2 => ?_) (fun zs H6 hD2 hl6 g6 hR6 => ?_)⟩
    · rw [List.getElem?_map] at hx
      obtain ⟨z, hz, rfl⟩ := Option.map_eq_some_iff.mp hx
      exact ⟨rfl, _, rfl, szN (by show 2 ≤ 1000000; decide), fun p np => kc2 _ _ ((Gr.refl H6).new np _) ⟨z, hz, NuV.of (SqT.of upd_same)⟩⟩
    · refine ⟨_, rfl, qa, _, _, _, rfl, rfl, g6.seqT hqa5, rfl, szN (by show 2 ≤ 1000000; decide), fun p1 m1 => ⟨szN (by show 1 ≤ 1000000; decide), fun p2 m2 => ?_⟩⟩
      have k1 := (Gr.refl H6).new m1 (.tup [.int q.2, .int 1])
      have hw1 : NuV K (upd H6 p1 (.tup [.int q.2, .int 1])) (.ref p1) (q.2, 1) := NuV.of (SqT.of upd_same)
      have k2 := (Gr.refl (upd H6 p1 (.tup [.int q.2, .int 1]))).new m2 (.lst [.ref p1])
      have e2 : (upd (upd H6 p1 (.tup [.int q.2, .int 1])) p2 (.lst [.ref p1])) p2 = some (.lst [.ref p1]) := upd_same
      have hw2 := hw1.gr k2
      have k12 := k1.trans k2
      generalize upd (upd H6 p1 (.tup [.int q.2, .int 1])) p2 (.lst [.ref p1]) = H7 at k12 e2 hw2 ⊢
      clear k1 k2 hw1 m2
      refine ⟨D2, p2, _, _, rfl, rfl, grLst k12 hD2, e2, by rw [hl6, List.length_map]; exact szN (by show q.1.length + 1 ≤ 1000000; omega), fun p3 m3 => ?_⟩
      have k3 := (Gr.refl H7).new m3 (.lst (zs ++ [.ref p1]))
      obtain ⟨ys0, hD0⟩ := hDl
      have hD7 := grLst (g6.trans k12) hD0
      refine kc _ _ ((g6.trans k12).trans k3) ⟨q, ⟨⟨p3, _, rfl, upd_same, ?_⟩, fun e => by injection e with e; rw [e, hD7] at m3; cases m3⟩, eq⟩
      have pz : Paired (NuV K H6) zs (q.1.map fun z => (z, 1)) := paired_at2 (by rw [hl6, List.length_map, List.length_map]) fun i y c hy hc => by
        obtain ⟨z, e, v⟩ := hR6 i y hy
        rw [List.getElem?_map, e] at hc
        cases hc
        exact v
      exact paired_app (Paired.mapP pz fun _ _ z => z.gr (k12.trans k3)) (.cons (hw2.gr k3) .nil)
  obtain ⟨us0, hus0, hu0⟩ := pair_of (F := fun H y q => FlN K D H y (rowF q)) (Pr := fun i q => qs[i]? = some q) hR
  have eus : us0 = qs := by
    refine List.ext_getElem? fun i => ?_
    cases h : us0[i]? with
    | none =>
      have h1 := List.getElem?_eq_none_iff.mp h
      rw [← paired_len hus0, hl5, xl] at h1
      rw [List.getElem?_eq_none h1]
    | some u => exact (hu0 i u h).symm
  subst eus
  have hus : Paired (FlN K D H5) ys (us0.map rowF) := paired_at2 (by rw [hl5, xl, List.length_map]) fun i y c hy hc => by
    obtain ⟨q, e, v⟩ := paired_get hus0 hy
    rw [List.getElem?_map, e] at hc
    cases hc
    exact v
  clear hus0 hu0 hR
  have eR : (us0.map rowF).map vcF = us0.map fun q => vcI (q.1 ++ [q.2]) := by
    rw [List.map_map]
    exact List.map_congr_left fun q _ => vcF_row q
  have ph0 : Ph1 n ((us0.map rowF).map vcF) (us0.map rowF) [] 0 := Ph1.start fun u hu => by
    obtain ⟨q, hq, rfl⟩ := List.mem_map.mp hu
    exact rowF_ok (h99 q hq)
  rw [eR] at ph0
  refine ⟨szN (by show 0 ≤ 1000000; decide), fun kA nkA => ⟨_, _, _, rfl, ?_⟩⟩
  have k0 := (Gr.refl H5).new nkA (.lst [])
  have eA : (upd H5 kA (.lst [])) kA = some (.lst []) := upd_same
  have hD6 := grLst k0 hD
  have hDA : D ≠ kA := fun e => by rw [e, nkA] at hD; cases hD
  have hus6 : Paired (FlN K kA (upd H5 kA (.lst []))) ys (us0.map rowF) := Paired.mapP hus fun _ _ z => ⟨z.1.gr k0, z.1.ne nkA⟩
  generalize upd H5 kA (.lst []) = H6 at k0 eA hD6 hus6 ⊢
  clear hus
  have ylen : ys.length = us0.length := by rw [hl5, xl]
  -- putting out unknowns
  refine ⟨_, rfl, _, rfl, by omega, by omega, for_range (lo := 0) (n := n) (fun j σ H' => ∃ ra rxs us kxs ks c1 c2 c6 c7 c8 c9 c10 c11 c12, σ = [some (.ref a), c1, c2, some (.int ((n : Nat) : Int)), some (.ref ra), some (.ref kA), c6, c7, c8, c9, c10, c11, c12] ∧ GrD kA H5 H' ∧ H' ra = some (.lst rxs) ∧ ra ≠ kA ∧ Paired (FlN K kA H') rxs us ∧ us.length = us0.length ∧ H' kA = some (.lst kxs) ∧ Paired (KpN K kA H') kxs ks ∧ ks.length ≤ j ∧ Ph1 n (us0.map fun q => vcI (q.1 ++ [q.2])) us ks j)
    ⟨D, ys, _, [], [], _, _, _, _, _, _, _, _, _, rfl, k0.d kA, hD6, hDA, hus6, List.length_map .., eA, .nil, Nat.le_refl _, ph0⟩ (fun j σ H7 hj h => ?_) (fun σ H7 h => ?_)⟩
  · clear hD6 hus6 eA ph0
    obtain ⟨ra, rxs, us, kxs, ks, c1, c2, c6, c7, c8, c9, c10, c11, c12, rfl, g7, hra, hrA, hrx, hul, hkA, hkx, hkl, ph⟩ := h
    rw [Int.zero_add]
    have rl : rxs.length = us.length := paired_len hrx
    refine ⟨_, rfl, ra, rfl, ⟨_, SqL.of hra⟩, fun D1 nD1 => lc_filt (zs := us) (p := fun u => decide (vcF u j ≠ 0)) (oi_L (K := K) (SqL.of hra)) rl nD1 (by omega) (fun i x u H8 Ky Nx hx hu g8 k1 k0 => ?_) (fun H8 hD1 g8 => ?_)⟩
    · obtain ⟨u', eu', ⟨q, zs, rfl, hq, hz⟩, _⟩ := paired_get hrx hx
      rw [hu] at eu'
      cases eu'
      have ul := (ph.wu u (List.mem_of_getElem? hu)).1
      have hj2 : j < u.length := by omega
      obtain ⟨z, f, ez, ef, p, rfl, hp⟩ := paired_at hz j hj2
      have lf := ((ph.wu u (List.mem_of_getElem? hu)).2 f (List.mem_of_getElem? ef)).1
      refine ⟨rfl, _, rfl, _, rfl, q, zs, _, .ref p, rfl, rfl, SqL.of (grLst g8 hq), atI_nat ez, p, _, _, _, rfl, rfl, g8.seqT hp, rfl, rfl, _, rfl, ?_⟩
      have key : vcF u j ≠ 0 ↔ f.1 ≠ 0 := by rw [vcF_get ef]; exact qv_ne lf.1
      by_cases hz0 : f.1 = 0
      · exact iteNS (by rw [hz0]) (k0 (decide_eq_false fun e => key.mp e hz0))
      · exact iteNR (fun e => hz0 (by injection e)) ⟨_, rfl, k1 (decide_eq_true (key.mpr hz0))⟩
    · have hle : Paired (FlN K kA H8) (filt2 rxs us fun u => decide (vcF u j ≠ 0)) (us.filter fun u => decide (vcF u j ≠ 0)) := filt2_paired (Paired.mapP hrx fun _ _ z => z.gr g8)
      refine ⟨_, rfl, szN (by show 0 ≤ 1000000; decide), fun p np => ?_⟩
      have k9 := (Gr.refl H8).new np (.lst [])
      have e9 : (upd H8 p (.lst [])) p = some (.lst []) := upd_same
      generalize upd H8 p (.lst []) = H9 at k9 e9 ⊢
      have hle9 := Paired.mapP hle fun _ _ z => FlN.gr z k9
      have hD9 := grLst k9 hD1
      have G9 := g8.trans k9
      refine ⟨.list ((us.filter fun u => decide (vcF u j ≠ 0)).map frsP), .list [], .lst (SqL.of hD9) (dp_frss hle9), .lst (SqL.of e9) .nil, shp_frss _, by decide, _, rfl, ?_⟩
      rw [eqv_frss]
      generalize hfl : (us.filter fun u => decide (vcF u j ≠ 0)) = lus at hle9 ⊢
      generalize (filt2 rxs us fun u => decide (vcF u j ≠ 0)) = lxs at hle9 hD9
      clear hle hD1 e9 np
      cases lus with
      | nil =>
        refine iteF ⟨ra, rxs, us, kxs, ks, _, _, _, _, _, _, _, _, _, rfl, g7.gr G9, grLst G9 hra, hrA, Paired.mapP hrx fun _ _ z => z.gr G9, hul, grLst G9 hkA, Paired.mapP hkx fun _ _ z => z.gr G9, by omega, ph.skip fun u hu => Classical.byContradiction fun hn => ?_⟩
        have : u ∈ us.filter fun u => decide (vcF u j ≠ 0) := List.mem_filter.mpr ⟨hu, decide_eq_true hn⟩
        rw [hfl] at this
        cases this
      | cons lead rest =>
        have hl2 : lead ∈ us.filter fun u => decide (vcF u j ≠ 0) := by rw [hfl]; exact List.mem_cons_self ..
        obtain ⟨hlu, hln⟩ := List.mem_filter.mp hl2
        have hln := of_decide_eq_true hln
        obtain ⟨lx, _, elx, e2, hlx⟩ := paired_at hle9 0 (by simp)
        cases e2
        refine iteT ⟨_, rfl, D1, _, _, lx, rfl, rfl, SqL.of hD9, atI_nat (j := 0) elx, ?_⟩
        clear hle9 hD9 elx
        have hra9 := grLst G9 hra
        have hrx9 : Paired (FlN K kA H9) rxs us := Paired.mapP hrx fun _ _ z => z.gr G9
        have hkA9 := grLst G9 hkA
        have hkx9 : Paired (KpN K kA H9) kxs ks := Paired.mapP hkx fun _ _ z => z.gr G9
        have g9 := g7.gr G9
        clear hra hrx hkA hkx g7 G9 k9 g8 nD1
        refine ⟨_, rfl, .inl ⟨rfl, _, SqL.of hkA9⟩, _, rfl, _, rfl, szN (by show 2 ≤ 1000000; decide), fun p np => ?_⟩
        have k10 := (Gr.refl H9).new np (.tup [.int ((j : Nat) : Int), lx])
        have e10 : SqT K (upd H9 p (.tup [.int ((j : Nat) : Int), lx])) p [.int ((j : Nat) : Int), lx] := SqT.of upd_same
        generalize upd H9 p (.tup [.int ((j : Nat) : Int), lx]) = H10 at k10 e10 ⊢
        have kl : kxs.length = ks.length := paired_len hkx9
        have hkA10 := grLst k10 hkA9
        have hra10 := grLst k10 hra9
        have hrx10 : Paired (FlN K kA H10) rxs us := Paired.mapP hrx9 fun _ _ z => z.gr k10
        have hkp10 : Paired (KpN K kA H10) (kxs ++ [.ref p]) (ks ++ [(j, lead)]) := paired_app (Paired.mapP hkx9 fun _ _ z => z.gr k10) (.cons ⟨p, lx, rfl, e10, hlx.gr k10⟩ .nil)
        have hlx10 := hlx.gr k10
        have g10 := (g9.gr k10).set (.lst (kxs ++ [.ref p]))
        clear hkA9 hra9 hrx9 hkx9 hlx g9 k10 e10 np
        refine ⟨kA, _, _, rfl, rfl, hkA10, small1000 (by omega), ?_⟩
        have hra11 : (upd H10 kA (.lst (kxs ++ [.ref p]))) ra = some (.lst rxs) := by rw [upd_ne hrA]; exact hra10
        have hrx11 : Paired (FlN K kA (upd H10 kA (.lst (kxs ++ [.ref p])))) rxs us := Paired.mapP hrx10 fun _ _ z => z.put hkA10
        have hkp11 : Paired (KpN K kA (upd H10 kA (.lst (kxs ++ [.ref p])))) (kxs ++ [.ref p]) (ks ++ [(j, lead)]) := Paired.mapP hkp10 fun _ _ z => z.put hkA10
        have hlx11 : FlN K kA (upd H10 kA (.lst (kxs ++ [.ref p]))) lx lead := hlx10.put hkA10
        have hkA11 : (upd H10 kA (.lst (kxs ++ [.ref p]))) kA = some (.lst (kxs ++ [.ref p])) := upd_same
        generalize upd H10 kA (.lst (kxs ++ [.ref p])) = H11 at hra11 hrx11 hkp11 hlx11 hkA11 g10 ⊢
        clear hra10 hrx10 hkp10 hlx10 hkA10
        obtain ⟨ll, lfr⟩ := ph.wu lead hlu
        have jw := wdT_le (j := j) (by omega)
        refine ⟨_, rfl, ra, rfl, ⟨_, SqL.of hra11⟩, fun D2 nD2 => lc_oneL (oi_L (K := K) (SqL.of hra11)) (fun k y H' => ∃ w, (FlL K H' y w ∧ y ≠ .ref D2 ∧ y ≠ .ref kA) ∧ ∃ u, us[k]? = some u ∧ w.length = n + 1 ∧ (∀ f ∈ w, FrR (4 * wdT j + 3) f) ∧ vcF w = lessV (vcF u) (vcF lead) j) (fun k y H' H'' h g => let ⟨w, ⟨a, b, c⟩, d⟩ := h; ⟨w, ⟨a.gr g, b, c⟩, d⟩) (fun k y H' o zs h0 h => let ⟨w, ⟨a, b, c⟩, d⟩ := h; ⟨w, ⟨a.put h0 b, b, c⟩, d⟩) nD2 (by rw [rl]; exact szN (by omega)) (fun k y H12 Kc hy g12 hDl kc => ?_) (fun zs H12 hD2 hl12 g12 hR => ?_)⟩
        · obtain ⟨u, eu, hyu⟩ := paired_get hrx11 hy
          obtain ⟨ul, ufr⟩ := ph.wu u (List.mem_of_getElem? eu)
          refine ⟨rfl, _, rfl, _, rfl, _, rfl, y, lx, u, lead, wdT j, j, rfl, (hyu.1.gr g12).v, (hlx11.1.gr g12).v, by omega, by omega, by omega, ufr, lfr, hln, by omega, fun a' ws H13 g13 hnew hL hlen hfr hval => ?_⟩
          obtain ⟨ys0, hD0⟩ := hDl
          exact kc _ _ g13 ⟨ws, ⟨hL, fun e => by injection e with e; exact hnew _ _ hD0 e.symm, fun e => by injection e with e; exact hnew _ _ (grLst g12 hkA11) e.symm⟩, u, eu, by omega, hfr, hval⟩
        · obtain ⟨ws, hws, hw2⟩ := pair_of (F := fun H y w => FlL K H y w ∧ y ≠ .ref D2 ∧ y ≠ .ref kA) hR
          have wl : ws.length = us.length := by rw [← paired_len hws, hl12, rl]
          refine ⟨D2, zs, ws, kxs ++ [.ref p], ks ++ [(j, lead)], _, _, _, _, _, _, _, _, _, rfl, g10.gr g12, hD2, (fun e => by rw [e, grLst g12 hkA11] at hD2; rw [e, hkA11] at nD2; cases nD2), Paired.mapP hws fun _ _ z => ⟨z.1, z.2.2⟩, by omega, grLst g12 hkA11, Paired.mapP hkp11 fun _ _ z => z.gr g12, by rw [List.length_append]; show ks.length + 1 ≤ j + 1; omega, ph.step (by omega) hlu hln (paired_at2 wl fun i w' u' h1 h2 => ?_)⟩
          obtain ⟨u'', e1, e2⟩ := hw2 i w' h1
          rw [h2] at e1
          cases e1
          exact e2
  · clear hD6 hus6 eA ph0
    obtain ⟨ra, rxs, us, kxs, ks, c1, c2, c6, c7, c8, c9, c10, c11, c12, rfl, g7, _, _, hrx, hul, hkA, hkx, hkl, ph⟩ := h
    have G7 : Gr H H7 := g5.trans (g7.to nkA)
    have hf' : Rk (us0.map fun q => vcI (q.1 ++ [q.2])) wf r := hf
    have hv' : Rk ((us0.map fun q => vcI (q.1 ++ [q.2])).map (cutV' n)) wv r := by
      rw [List.map_map]
      rw [show (us0.map (cutV' n ∘ fun q => vcI (q.1 ++ [q.2]))) = us0.map fun q => vcI q.1 from List.map_congr_left fun q hq => cut_row (h99 q hq).1]
      exact hv
    refine ⟨szN (by show 2 ≤ 1000000; decide), fun p1 m1 => ⟨szN (by show 1 ≤ 1000000; decide), fun p2 m2 => ?_⟩⟩
    have q1 := (Gr.refl H7).new m1 (.tup [.int 0, .int 1])
    have hz1 : NuV K (upd H7 p1 (.tup [.int 0, .int 1])) (.ref p1) (0, 1) := NuV.of (SqT.of upd_same)
    have q2 := (Gr.refl (upd H7 p1 (.tup [.int 0, .int 1]))).new m2 (.lst [.ref p1])
    have e2 : (upd (upd H7 p1 (.tup [.int 0, .int 1])) p2 (.lst [.ref p1])) p2 = some (.lst [.ref p1]) := upd_same
    have hz2 := hz1.gr q2
    have q12 := q1.trans q2
    generalize upd (upd H7 p1 (.tup [.int 0, .int 1])) p2 (.lst [.ref p1]) = H8 at q12 e2 hz2 ⊢
    clear q1 q2 hz1 m2
    refine ⟨_, rfl, p2, _, _, rfl, rfl, e2, by omega, by omega, szN (by rw [Int.toNat_natCast]; show 1 * n ≤ 1000000; omega), fun sA nsA => ?_⟩
    have efl : (List.replicate ((n : Nat) : Int).toNat [V.ref p1]).flatten = List.replicate n (V.ref p1) := by rw [Int.toNat_natCast, flat_one]
    rw [efl]
    have G8 : Gr H H8 := G7.trans q12
    have q3 := (Gr.refl H8).new nsA (.lst (List.replicate n (V.ref p1)))
    have esA : (upd H8 sA (.lst (List.replicate n (V.ref p1)))) sA = some (.lst (List.replicate n (V.ref p1))) := upd_same
    have hsp0 : Paired (NuV K (upd H8 sA (.lst (List.replicate n (V.ref p1))))) (List.replicate n (V.ref p1)) (List.replicate n (0, 1)) := paired_at2 (by rw [List.length_replicate, List.length_replicate]) fun i x u hx hu => by
      rw [List.getElem?_replicate] at hx hu
      split at hx
      · cases hx
        rw [if_pos (by assumption)] at hu
        cases hu
        exact hz2.gr q3
      · cases hx
    have hkA9 := grLst (q12.trans q3) hkA
    have hkx9 : Paired (KpN K sA (upd H8 sA (.lst (List.replicate n (V.ref p1))))) kxs ks := Paired.mapP hkx fun _ _ z => by
      obtain ⟨a1, b1, e, s, fl⟩ := (z.gr q12)
      exact ⟨a1, b1, e, q3.seqT s, fl.1.gr q3, fl.1.ne nsA⟩
    have gS : GrD sA H8 (upd H8 sA (.lst (List.replicate n (V.ref p1)))) := q3.d sA
    generalize upd H8 sA (.lst (List.replicate n (V.ref p1))) = H9 at q3 esA hsp0 hkA9 hkx9 gS ⊢
    clear hkx hkA hz2 e2 m1 q12 efl
    refine ⟨_, rfl, kA, kxs, rfl, SqL.of hkA9, fun rA nrA => ?_⟩
    have q4 := (Gr.refl H9).new nrA (.lst kxs.reverse)
    have erA : (upd H9 rA (.lst kxs.reverse)) rA = some (.lst kxs.reverse) := upd_same
    have esA10 := grLst q4 esA
    have hsp10 : Paired (NuV K (upd H9 rA (.lst kxs.reverse))) (List.replicate n (V.ref p1)) (List.replicate n (0, 1)) := Paired.mapP hsp0 fun _ _ z => z.gr q4
    have hkx10 : Paired (KpN K sA (upd H9 rA (.lst kxs.reverse))) kxs ks := Paired.mapP hkx9 fun _ _ z => z.gr q4
    have gS10 := gS.gr q4
    have nrs : rA ≠ sA := fun e => by rw [e, esA] at nrA; cases nrA
    generalize upd H9 rA (.lst kxs.reverse) = H10 at q4 erA esA10 hsp10 hkx10 gS10 ⊢
    clear hsp0 hkx9 gS hkA9 nrA esA
    have hrx' := paired_rev hkx10
    have asc' : ks.reverse.Pairwise fun p q => q.1 < p.1 := List.pairwise_reverse.mpr ph.asc
    have wk' : ∀ q ∈ ks.reverse, q.2.length = n + 1 ∧ (∀ f ∈ q.2, FrR 320 f) ∧ (∀ i, i < q.1 → vcF q.2 i = 0) ∧ vcF q.2 q.1 ≠ 0 ∧ q.1 < n := fun q hq => ph.wk q (List.mem_reverse.mp hq)
    have hrl : kxs.reverse.length = ks.reverse.length := paired_len hrx'
    refine ⟨rA, rfl, ⟨_, SqL.of erA⟩, for_list (xs := kxs.reverse) (fun t σ H' => ∃ sxs sp lo c1 c2 c4 c5 c6 c7 c8 c9 c11 c12, σ = [some (.ref a), c1, c2, some (.int ((n : Nat) : Int)), c4, c5, c6, c7, c8, c9, some (.ref sA), c11, c12] ∧ GrD sA H10 H' ∧ H' sA = some (.lst sxs) ∧ Paired (NuV K H') sxs sp ∧ Ph2 n (ks.reverse.take t) lo sp ∧ ∀ q ∈ ks.reverse.drop t, q.1 < lo)
      ⟨List.replicate n (.ref p1), _, n, _, _, _, _, _, _, _, _, _, _, rfl, GrD.refl sA H10, esA10, hsp10, Ph2.start n, fun q hq => (wk' q hq).2.2.2.2⟩ (fun t σ H11 _ h => ?_) (fun t y σ H11 hy h => ?_) (fun σ H11 h => ?_)⟩
    · obtain ⟨sxs, sp, lo, c1, c2, c4, c5, c6, c7, c8, c9, c11, c12, rfl, g11, _⟩ := h
      exact SqL.of (g11.keep rA _ nrs (fun _ z => nomatch z) erA)
    · obtain ⟨sxs, sp, lo, c1, c2, c4, c5, c6, c7, c8, c9, c11, c12, rfl, g11, hsA, hsp, ph2, hlo⟩ := h
      obtain ⟨q, eq, ta, _, rfl, hta, ⟨lq, zs, rfl, hlq, hzs⟩, nls⟩ := paired_get hrx' hy
      have eqm := List.mem_of_getElem? eq
      obtain ⟨ql, qfr, qz, qne, qn⟩ := wk' q eqm
      have tst : Tst K H10 H11 := fun b xs h => g11.seqT esA10 h
      have nls' : lq ≠ sA := fun e => nls (by rw [e])
      have hlq11 : H11 lq = some (.lst zs) := g11.keep lq _ nls' (fun _ z => nomatch z) hlq
      have hzs11 : Paired (NuV K H11) zs q.2 := Paired.mapP hzs fun _ _ z => z.st tst
      have hta11 := tst _ _ hta
      have zl : zs.length = n + 1 := by rw [paired_len hzs, ql]
      have sl : sxs.length = n := by rw [paired_len hsp, ph2.len]
      have qlo : q.1 < lo := hlo q (List.mem_of_getElem? (i := 0) (by rw [List.getElem?_drop, Nat.add_zero]; exact eq))
      obtain ⟨lz, l, elz, el, hlz⟩ := paired_at hzs11 n (by omega)
      have rl0 := qfr l (List.mem_of_getElem? el)
      refine ⟨ta, _, rfl, hta11, rfl, _, _, rfl, _, _, rfl, rfl, ?_⟩
      refine ⟨_, rfl, _, rfl, lq, zs, _, lz, rfl, rfl, SqL.of hlq11, atI_nat elz, ?_⟩
      refine ⟨_, rfl, _, rfl, by omega, by omega, for_range (lo := 0) (n := n) (fun i σ H' => ∃ rv r c12, σ = [some (.ref a), c1, c2, some (.int ((n : Nat) : Int)), c4, c5, some (.int ((q.1 : Nat) : Int)), c7, c8, some (.ref lq), some (.ref sA), some rv, c12] ∧ Gr H11 H' ∧ NuV K H' rv r ∧ RsT n q.1 q.2 sp i r) ⟨lz, l, _, rfl, Gr.refl H11, hlz, RsT.start el rl0⟩ (fun i σ H12 hi h => ?_) (fun σ H12 h => ?_)⟩
      · obtain ⟨rv, r, c12', rfl, g12, hrv, hr0⟩ := h
        rw [Int.zero_add]
        refine ⟨_, rfl, _, rfl, rfl, _, rfl, ?_⟩
        by_cases hij : i = q.1
        · exact iteNS (by rw [hij]) ⟨rv, r, _, rfl, g12, hrv, by rw [hij] at hr0 ⊢; exact hr0.same⟩
        · obtain ⟨tz, tl, etz, etl, tp, rfl, htp⟩ := paired_at hzs11 i (by omega)
          obtain ⟨sv, s0, esv, es0, hsv⟩ := paired_at hsp i (by rw [ph2.len]; exact hi)
          have rtl := qfr tl (List.mem_of_getElem? etl)
          have rs0 := ph2.fr s0 (List.mem_of_getElem? es0)
          have hlq12 := grLst g12 hlq11
          refine iteNR (fun e => hij (by injection e with e; omega)) ⟨_, rfl, _, rfl, _, rfl, lq, zs, _, .ref tp, rfl, rfl, SqL.of hlq12, atI_nat etz, tp, _, _, _, rfl, rfl, g12.seqT htp, rfl, _, rfl, _, rfl, _, rfl, lq, zs, _, .ref tp, rfl, rfl, SqL.of hlq12, atI_nat etz, tp, _, _, _, rfl, rfl, g12.seqT htp, rfl, szN (by show 2 ≤ 1000000; decide), fun p np => ?_⟩
          have k1 := (Gr.refl H12).new np (.tup [.int (-tl.1), .int tl.2])
          have ht : NuV K (upd H12 p (.tup [.int (-tl.1), .int tl.2])) (.ref p) (-tl.1, tl.2) := NuV.of (SqT.of upd_same)
          generalize upd H12 p (.tup [.int (-tl.1), .int tl.2]) = H13 at k1 ht ⊢
          have g13 := g12.trans k1
          have bqm : bq lo ≤ bq (q.1 + 1) := bq_mono (by omega)
          have rsle := rs_le (n := n) (j := q.1) (i := i) (by omega) n4
          have bqle := bq_le (q.1 + 1)
          refine ⟨_, rfl, _, rfl, sA, sxs, _, sv, rfl, rfl, SqL.of (grLst g13 hsA), atI_nat esv, .ref p, sv, (-tl.1, tl.2), s0, 320, bq (q.1 + 1), rfl, ht, hsv.gr g13, rtl.1.1, rs0.1.1, wd_neg rtl.2, rs0.2.mono bqm, by omega, fun v1 r1 H14 g14 nv1 lo1 e1 w1 => ?_⟩
          refine ⟨rv, v1, r, r1, 320 + (i - 1 - q.1) * (bq (q.1 + 1) + 322), 320 + bq (q.1 + 1) + 1, rfl, (hrv.gr k1).gr g14, nv1, hr0.fr.1.1, lo1.1, hr0.fr.2, w1, by omega, fun v2 r2 H15 g15 nv2 lo2 e2 w2 => ?_⟩
          have v1e : qv r1 = - qv tl * qv s0 := by rw [qv_eqr' e1 lo1.1 (Int.mul_pos rtl.1.1 rs0.1.1), qv_times (p := (-tl.1, tl.2)) rtl.1.1 rs0.1.1, qv_negI rtl.1.1]
          have v2e : qv r2 = qv r + qv r1 := by rw [qv_eqr' e2 lo2.1 (Int.mul_pos hr0.fr.1.1 lo1.1), qv_plus hr0.fr.1.1 lo1.1]
          refine ⟨v2, r2, _, rfl, (g13.trans g14).trans g15, nv2, ?_⟩
          rcases Nat.lt_or_gt_of_ne hij with hlt | hgt
          · have z := ph2.zr i (by omega) hi
            have es : s0 = (0, 1) := by rw [es0] at z; injection z
            have er : r2 = r := qv_inj lo2 hr0.fr.1 (by rw [v2e, v1e, es, qv_zero]; grind)
            rw [er]
            exact hr0.zero hlt (by rw [es0, es])
          · exact hr0.more hgt etl es0 lo2 w2 (by rw [v2e, v1e])
      · obtain ⟨rv, r, c12', rfl, g12, hrv, hr0⟩ := h
        obtain ⟨tz, tl, etz, etl, tp, rfl, htp⟩ := paired_at hzs11 q.1 (by omega)
        have rtl := qfr tl (List.mem_of_getElem? etl)
        have l0 : tl.1 ≠ 0 := (qv_ne rtl.1.1).mp (by rw [← vcF_get etl]; exact qne)
        have hlq12 := grLst g12 hlq11
        have htp12 := g12.seqT htp
        have rsle := rs_le (n := n) (j := q.1) (i := n) (by omega) n4
        refine ⟨_, rfl, _, rfl, _, rfl, lq, zs, _, .ref tp, rfl, rfl, SqL.of hlq12, atI_nat etz, tp, _, _, _, rfl, rfl, htp12, rfl, _, rfl, _, rfl, lq, zs, _, .ref tp, rfl, rfl, SqL.of hlq12, atI_nat etz, tp, _, _, _, rfl, rfl, htp12, rfl, tl.2, tl.1, rfl, l0, (wd_swap rtl.2).mono (by omega), fun iv ir H13 g13 niv ilo ie le1 le2 => ?_⟩
        refine ⟨rv, iv, r, ir, 320 + (n - 1 - q.1) * (bq (q.1 + 1) + 322), 320, rfl, hrv.gr g13, niv, hr0.fr.1.1, ilo.1, hr0.fr.2, wd_le (wd_swap rtl.2) le1 le2, by omega, fun zv z H14 g14 nz zlo ze zw => ?_⟩
        have G14 := (g12.trans g13).trans g14
        have hsA14 := grLst G14 hsA
        have ezq : qv z = (vcF q.2 n - sumQ n (vcF q.2) (setQ (vcF sp) q.1 0)) / vcF q.2 q.1 := by
          rw [qv_eqr' ze zlo.1 (Int.mul_pos hr0.fr.1.1 ilo.1), qv_times hr0.fr.1.1 ilo.1, hr0.val, (inv_of (qvF_inv ilo.1 rtl.1.1 ie)).2, vcF_get etl, Rat.div_def]
        have st := ph2.step (q := q) (z := z) qlo qn (fun p hp i hi => (wk' p (List.mem_of_mem_take hp)).2.2.1 i hi) qne ⟨zlo, zw.mono (bq_step qn n4)⟩ ezq
        refine ⟨_, rfl, _, rfl, sA, sxs, _, q.1, rfl, rfl, hsA14, ixN_at (by omega), ?_⟩
        refine ⟨sxs.set q.1 zv, sp.set q.1 z, q.1, _, _, _, _, _, _, _, _, _, _, rfl, (g11.gr G14).set _, upd_same, ?_, ?_, fun p hp => ?_⟩
        · have tp := Tst.put (K := K) (o := .lst (sxs.set q.1 zv)) hsA14
          exact paired_set (Paired.mapP hsp fun _ _ y => (y.gr G14).st tp) (nz.st tp) q.1
        · rw [List.take_add_one, eq, Option.toList_some]
          exact st
        · obtain ⟨k, hk⟩ := List.getElem?_of_mem hp
          rw [List.getElem?_drop] at hk
          obtain ⟨h1, e1⟩ := List.getElem?_eq_some_iff.mp hk
          obtain ⟨h2, e2⟩ := List.getElem?_eq_some_iff.mp eq
          have := List.pairwise_iff_getElem.mp asc' t (t + 1 + k) h2 h1 (by omega)
          rw [e1, e2] at this
          exact this
    · obtain ⟨sxs, sp, lo, c1, c2, c4, c5, c6, c7, c8, c9, c11, c12, rfl, g11, hsA, hsp, ph2, _⟩ := h
      rw [hrl, List.take_length] at ph2
      have hall := ph.mt.meets (spot := vcF sp) hf' hv' (fun x hx i hi => by
        obtain ⟨u, hu, rfl⟩ := List.mem_map.mp hx
        exact vcF_out (by rw [(ph.wu u hu).1]; omega)) fun q hq => by
        obtain ⟨q', hq', rfl⟩ := List.mem_map.mp hq
        exact ph2.off q' (List.mem_reverse.mpr hq')
      refine ⟨_, rfl, sA, sxs, rfl, .inl ⟨SqL.of hsA, fun l nl => ?_⟩⟩
      have kz := (Gr.refl H11).new nl (.tup sxs)
      refine hQ (.ref l) sp _ (((G8.trans ((gS10.trans g11).to nsA))).trans kz) ⟨l, sxs, rfl, SqT.of upd_same, Paired.mapP hsp fun _ _ y => y.gr kz⟩ ph2.len (fun u hu => (ph2.fr u hu).mono (bq_le lo)) fun q hq => ?_
      exact off_dot (h99 q hq).1 ph2.len (hall _ (List.mem_map.mpr ⟨q, hq, rfl⟩))
end
end SB
namespace SB
open PySem L2 GxR GA RZ
/-! ### webs of two to four things -/
def webQ (n : Nat) (p : Nat × Nat) : List Int × Int := ((List.range n).map fun k => (if k = p.1 then (1 : Int) else 0) - (if k = p.2 then 1 else 0), 0)
def prs (n : Nat) : List (Nat × Nat) := [(0, 1), (0, 2), (0, 3), (1, 2), (1, 3), (2, 3)].filter fun p => decide (p.2 < n)
theorem web_fact : ∀ n ∈ [2, 3, 4], ∀ p ∈ prs n, ((webQ n p).1.any fun z => decide (z ≠ 0)) = true ∧ (∀ z ∈ (webQ n p).1, z.natAbs < 2 ^ 4) ∧ ∀ q ∈ prs n, nfU (webQ n p) = nfU (webQ n q) → p = q := by decide +kernel
theorem web_len (n : Nat) (p : Nat × Nat) : (webQ n p).1.length = n := by
  unfold webQ
  rw [List.length_map, List.length_range]
theorem in_prs {n : Nat} {p : Nat × Nat} (hn : n ≤ 4) (h1 : p.1 < p.2) (h2 : p.2 < n) : p ∈ prs n := by
  obtain ⟨a, b⟩ := p
  refine List.mem_filter.mpr ⟨?_, decide_eq_true h2⟩
  have hb : b = 1 ∨ b = 2 ∨ b = 3 := by
    have h1 : a < b := h1
    have h2 : b < n := h2
    omega
  have h1 : a < b := h1
  rcases hb with rfl | rfl | rfl
  · have : a = 0 := by omega
    subst this
    decide
  · have : a = 0 ∨ a = 1 := by omega
    rcases this with rfl | rfl <;> decide
  · have : a = 0 ∨ a = 1 ∨ a = 2 := by omega
    rcases this with rfl | rfl | rfl <;> decide
theorem web_nd {n : Nat} (hn : n ∈ [2, 3, 4]) : ∀ {L : List (Nat × Nat)}, L.Nodup → (∀ p ∈ L, p ∈ prs n) → ((L.map (webQ n)).map nfU).Nodup
  | [], _, _ => List.nodup_nil
  | p :: r, h, s => by
    obtain ⟨h1, h2⟩ := List.nodup_cons.mp h
    rw [List.map_cons, List.map_cons]
    refine List.nodup_cons.mpr ⟨fun z => ?_, web_nd hn h2 fun p hp => s p (List.mem_cons_of_mem _ hp)⟩
    obtain ⟨q', hq', e⟩ := List.mem_map.mp z
    obtain ⟨q, hq, rfl⟩ := List.mem_map.mp hq'
    have := (web_fact n hn q (s q (List.mem_cons_of_mem _ hq))).2.2 p (s p List.mem_cons_self) e
    rw [this] at hq
    exact h1 hq
def cntW (n : Nat) : Nat → Nat
  | 0 => 0
  | i + 1 => cntW n i + (n - 1 - i)
theorem cntW_le : ∀ n ∈ [2, 3, 4], cntW n n ≤ 6 := by decide
theorem cntW_mono (n : Nat) : ∀ {i j : Nat}, i ≤ j → cntW n i ≤ cntW n j
  | i, 0, h => by rw [show i = 0 by omega]; exact Nat.le_refl _
  | i, j + 1, h => by
    rcases Nat.lt_or_ge i (j + 1) with h1 | h1
    · exact Nat.le_trans (cntW_mono n (show i ≤ j by omega)) (Nat.le_add_right _ _)
    · rw [show i = j + 1 by omega]
      exact Nat.le_refl _
theorem eq_decZ (a b : Int) : (if decide (V.int a = V.int b) = true then (1 : Int) else 0) = if a = b then 1 else 0 := by
  by_cases c : a = b
  · rw [if_pos c, if_pos (decide_eq_true (by rw [c]))]
  · rw [if_neg c, if_neg]
    rw [decide_eq_true_eq]
    intro z
    injection z with z
    exact c z
theorem web_cell (k i u : Nat) : (if decide (V.int ((0 : Int) + (k : Int)) = V.int ((0 : Int) + (i : Int))) = true then (1 : Int) else 0) - (if decide (V.int ((0 : Int) + (k : Int)) = V.int ((0 : Int) + (i : Int) + 1 + (u : Int))) = true then (1 : Int) else 0) = (if k = i then (1 : Int) else 0) - (if k = i + 1 + u then 1 else 0) := by
  rw [eq_decZ, eq_decZ]
  congr 1
  · by_cases c : k = i
    · rw [if_pos c, if_pos (by omega)]
    · rw [if_neg c, if_neg (by omega)]
  · by_cases c : k = i + 1 + u
    · rw [if_pos c, if_pos (by omega)]
    · rw [if_neg c, if_neg (by omega)]
section
variable {P : Program} {w : World} {K : PySem.W.Frag} {mg : Str → Option Value} {base : Heap}
def spLWeb (K : PySem.W.Frag) : Sp := fun vs H Q _ => ∃ d, vs = [.ref d] ∧ DeckAt d H ∧ ∀ v n qs H', GrD d H H' → DeckAt d H' → BkV K H' v n qs → BOk n qs → Pg9 n qs → Q v H'
theorem sc_lweb : FnScope ["deck", "size", "lines", "i", "j", "k"] ["deck"] (defScope s__law_web) := ⟨rfl, rfl, rfl, by decide +kernel, rfl, by decide +kernel, by decide +kernel⟩
theorem cl_lweb (D : Df K mg "_law_web" s__law_web) (B : Blt mg) (CT : Cl P w K mg base 1 "_law_take" ["deck", "many"] spTake) : Cl P w K mg base 2 "_law_web" ["deck"] (spLWeb K) := by
  refine D.cl (fun _ _ _ _ _ _ us hl => match us, hl with | [_], _ => rfl) fun f fd F => F.ok sc_lweb (fun vs H Q E h => ?_) (fun cdv A outer s H vs Q E hr h => ?_)
  · obtain ⟨d, rfl, _⟩ := h
    rfl
  obtain ⟨d, rfl, dk, hQ⟩ := h
  refine ⟨_, (pss_cons (ps_par (i := 1) (j := 2) rfl sc_lweb.nd rfl rfl (by decide) rfl rfl (pa_cons (pe_op op_add pe_int (pe_cl CT (hr.mono (by decide)) (pa_cons (pv 0) (pa_cons pe_int pa_nil)))) (pa_cons (pe_lst pa_nil) pa_nil)) rfl)
    (pss_cons (ps_for PassesOwn.never rfl (pi_range1 rfl B.rng (pa_cons (pv 1) pa_nil)) (pg_name (i := 3) sc_lweb.nd rfl (Or.inr rfl))
      (pss_one (ps_for PassesOwn.never rfl (pi_range2 rfl B.rng (pa_cons (pe_op op_add (pv 3) pe_int) (pa_cons (pv 1) pa_nil))) (pg_name (i := 4) sc_lweb.nd rfl (Or.inr rfl))
        (pss_one (ps_if (pt_cmpR op_gt (pe_cl CT (hr.mono (by decide)) (pa_cons (pv 0) (pa_cons pe_int pa_nil))) pe_int (nomark _)) (pss_one (ps_expr (pe_bm PySem.F.plainAttrs_list PySem.F.slot_list_append PySem.F.type_list_append mt_append (pv 2) (pa_cons (pe_tup (pa_cons (pe_callTy call_tuple_of rfl B.tup bootTup (pa_cons (pe_lc (own := [("k", 5)]) (g := gName 5) rfl sc_lweb.nd (pi_range1 rfl B.rng (pa_cons (pv 1) pa_nil)) (blkOk_by (N := ["deck", "size", "lines", "i", "j", "k"]) (sc := defScope s__law_web) (by decide +kernel)) (fun _ _ _ _ _ => (pg_name (i := 5) sc_lweb.nd rfl (Or.inl rfl))) (fun _ _ _ _ _ => pts_nil) (fun _ _ _ _ _ => (pe_op op_sub (pe_callTy call_int1 rfl B.int PyProof.Rows.boot_int (pa_cons (pe_cmpR op_eq (pv 5) (pv 3) (nomark _)) pa_nil)) (pe_callTy call_int1 rfl B.int PyProof.Rows.boot_int (pa_cons (pe_cmpR op_eq (pv 5) (pv 4) (nomark _)) pa_nil))))) pa_nil)) (pa_cons pe_int pa_nil))) pa_nil)))) pss_nil)))))
    (pss_one (ps_ret (pe_tup (pa_cons (pv 1) (pa_cons (pe_callTy call_tuple_of rfl B.tup bootTup (pa_cons (pv 2) pa_nil)) pa_nil))))))), ?_⟩
  refine ⟨_, rfl, d, 3, rfl, dk, by decide, by decide +kernel, fun t H1 t0 t1 g1 dk1 => ⟨_, _, rfl, rfl, ?_⟩⟩
  refine ⟨szN (by show 0 ≤ 1000000; decide), fun Dl nl => ⟨_, _, rfl, ?_⟩⟩
  obtain ⟨n, hz⟩ : ∃ n : Nat, 2 + t = ((n : Nat) : Int) := ⟨(2 + t).toNat, by omega⟩
  have n2 : n ∈ [2, 3, 4] := by
    have : n = 2 ∨ n = 3 ∨ n = 4 := by omega
    rcases this with rfl | rfl | rfl <;> decide
  have n4 : n ≤ 4 := by omega
  have kl := (Gr.refl H1).new nl (.lst [])
  have hld := dk1.ne nl
  have dk2 := dk1.gr kl
  have eL : (upd H1 Dl (.lst [])) Dl = some (.lst []) := upd_same
  have g2 := kl.d d
  generalize upd H1 Dl (.lst []) = H2 at kl dk2 eL g2 ⊢
  clear kl
  refine ⟨_, rfl, _, rfl, by omega, by omega, for_range (lo := 0) (fun i σ H' => ∃ (L : List (Nat × Nat)) (xs : List V) (c3 c4 c5 : Option V), σ = [some (.ref d), some (.int (2 + t)), some (.ref Dl), c3, c4, c5] ∧ GrD d H1 H' ∧ DeckAt d H' ∧ H' Dl = some (.lst xs) ∧ Paired (QuV K H') xs (L.map (webQ n)) ∧ L.length ≤ cntW n i ∧ L.Nodup ∧ ∀ p ∈ L, p.1 < p.2 ∧ p.2 < n ∧ p.1 < i)
    ⟨[], [], _, _, _, rfl, ?_, dk2, eL, .nil, Nat.le_refl _, List.nodup_nil, fun p hp => by cases hp⟩ (fun i σ H3 hi h => ?_) (fun σ H3 h => ?_)⟩
  · exact g2
  · obtain ⟨L, xs, c3, c4, c5, rfl, g3, dk3, hl, hp, hlen, nd, hall⟩ := h
    have hi : i < n := by omega
    have c6 := Nat.le_trans (cntW_mono n (show i + 1 ≤ n by omega)) (cntW_le n n2)
    have ci : cntW n (i + 1) = cntW n i + (n - 1 - i) := rfl
    refine ⟨_, rfl, _, _, rfl, rfl, _, rfl, ((0 : Int) + (i : Int) + 1), 2 + t, rfl, ⟨by omega, by omega, by omega, by omega⟩, ?_⟩
    rw [show ((2 + t) - ((0 : Int) + (i : Int) + 1)).toNat = n - 1 - i by omega]
    refine for_range (n := n - 1 - i) (fun u σ H' => ∃ (L : List (Nat × Nat)) (xs : List V) (c4 c5 : Option V), σ = [some (.ref d), some (.int (2 + t)), some (.ref Dl), some (.int ((0 : Int) + (i : Int))), c4, c5] ∧ GrD d H1 H' ∧ DeckAt d H' ∧ H' Dl = some (.lst xs) ∧ Paired (QuV K H') xs (L.map (webQ n)) ∧ L.length ≤ cntW n i + u ∧ L.Nodup ∧ ∀ p ∈ L, p.1 < p.2 ∧ p.2 < n ∧ (p.1 < i ∨ p.1 = i ∧ p.2 < i + 1 + u)) ⟨L, xs, _, _, rfl, g3, dk3, hl, hp, hlen, nd, fun p hp => let ⟨a, b, c⟩ := hall p hp; ⟨a, b, .inl c⟩⟩ (fun u σ H4 hu h => ?_) (fun σ H4 h => ?_)
    · obtain ⟨L, xs, c4, c5, rfl, g4, dk4, hl, hp, hlen, nd, hall⟩ := h
      have hu : u < n - 1 - i := hu
      refine ⟨_, rfl, d, 4, rfl, dk4, by decide, by decide +kernel, fun t4 H5 t40 t41 g5 dk5 => ⟨_, _, rfl, rfl, _, rfl, ?_⟩⟩
      have g15 := g4.trans g5
      have hl5 : H5 Dl = some (.lst xs) := g5.keep Dl _ hld (fun _ z => nomatch z) hl
      have hp5 : Paired (QuV K H5) xs (L.map (webQ n)) := Paired.mapP hp fun _ _ z => z.st (g5.st dk4)
      have xl : xs.length = L.length := by rw [paired_len hp5, List.length_map]
      clear hl hp g5 dk4 g4
      by_cases c : 0 < t4
      · refine iteP c ⟨_, rfl, .inl ⟨rfl, _, SqL.of hl5⟩, _, rfl, _, rfl, by omega, by omega, fun D nD => ?_⟩
        rw [show (2 + t).toNat = n by omega]
        refine lc_one (oi_R (lo := 0) (n := n)) (fun k y H' => y = V.int ((if k = i then (1 : Int) else 0) - (if k = i + 1 + u then 1 else 0)) ∧ k < n) (fun k y H' H'' h g => h) (fun k y H' o h => h) nD (by rw [List.length_map, List.length_range]; exact szN (by omega)) (fun k x H6 Kc hx g6 hDl kc => ?_) (fun ys H6 hD hl6 g6 hR => ?_)
        · rw [List.getElem?_map] at hx
          obtain ⟨t', ht, rfl⟩ := Option.map_eq_some_iff.mp hx
          obtain ⟨h1, h2⟩ := List.getElem?_eq_some_iff.mp ht
          rw [List.getElem_range] at h2
          rw [List.length_range] at h1
          subst h2
          exact ⟨rfl, _, rfl, _, rfl, rfl, .inr ⟨_, rfl, _, rfl, _, rfl, rfl, .inr ⟨_, rfl, _, _, rfl, rfl, kc _ _ (Gr.refl _) ⟨congrArg V.int (web_cell k i u), h1⟩⟩⟩⟩
        · have ey : ys = (webQ n (i, i + 1 + u)).1.map V.int := by
            refine List.ext_getElem? fun k => ?_
            have hyl : ys.length = n := by rw [hl6, List.length_map, List.length_range]
            have hwl := web_len n (i, i + 1 + u)
            cases hk : ys[k]? with
            | none =>
              have := List.getElem?_eq_none_iff.mp hk
              rw [List.getElem?_eq_none (by rw [List.length_map, hwl]; omega)]
            | some y =>
              obtain ⟨rfl, hkn⟩ := hR k y hk
              unfold webQ
              rw [List.getElem?_map, List.getElem?_map, List.getElem?_range hkn]
              rfl
          refine ⟨D, ys, rfl, .inl ⟨SqL.of hD, fun p1 m1 => ⟨szN (by show 2 ≤ 1000000; decide), fun p2 m2 => ?_⟩⟩⟩
          have k1 := (Gr.refl H6).new m1 (.tup ys)
          have t1 : SqT K (upd H6 p1 (.tup ys)) p1 ((webQ n (i, i + 1 + u)).1.map V.int) := by rw [← ey]; exact SqT.of upd_same
          have k2 := (Gr.refl (upd H6 p1 (.tup ys))).new m2 (.tup [.ref p1, .int 0])
          have hq : QuV K (upd (upd H6 p1 (.tup ys)) p2 (.tup [.ref p1, .int 0])) (.ref p2) (webQ n (i, i + 1 + u)) := ⟨p2, _, rfl, SqT.of upd_same, p1, rfl, k2.seqT t1⟩
          have k6 := g6.trans (k1.trans k2)
          generalize upd (upd H6 p1 (.tup ys)) p2 (.tup [.ref p1, .int 0]) = H7 at hq k6 ⊢
          have hl7 : H7 Dl = some (.lst xs) := grLst k6 hl5
          have tp := Tst.put (K := K) (o := .lst (xs ++ [.ref p2])) hl7
          refine ⟨Dl, xs, _, rfl, rfl, hl7, small1000 (by omega), L ++ [(i, i + 1 + u)], xs ++ [.ref p2], _, _, rfl, (g15.gr k6).put nl _, (dk5.gr k6).put hld _, upd_same, ?_, by rw [List.length_append]; show L.length + 1 ≤ cntW n i + (u + 1); omega, ?_, fun p hp => ?_⟩
          · rw [List.map_append]
            exact paired_app (Paired.mapP hp5 fun _ _ z => (z.gr k6).st tp) (.cons (hq.st tp) .nil)
          · refine List.nodup_append.mpr ⟨nd, by simp, fun p hp q hq' => ?_⟩
            rw [List.mem_singleton.mp hq']
            obtain ⟨_, _, c⟩ := hall p hp
            intro e
            rw [e] at c
            rcases c with c | ⟨_, c⟩
            · exact absurd c (Nat.lt_irrefl _)
            · exact absurd c (Nat.lt_irrefl _)
          · rcases List.mem_append.mp hp with hp | hp
            · obtain ⟨a, b, c⟩ := hall p hp
              exact ⟨a, b, by omega⟩
            · rw [List.mem_singleton.mp hp]
              exact ⟨by show i < i + 1 + u; omega, by show i + 1 + u < n; omega, .inr ⟨rfl, by show i + 1 + u < i + 1 + (u + 1); omega⟩⟩
      · exact iteN c ⟨L, xs, _, _, rfl, g15, dk5, hl5, hp5, by omega, nd, fun p hp => let ⟨a, b, c⟩ := hall p hp; ⟨a, b, by omega⟩⟩
    · obtain ⟨L, xs, c4, c5, rfl, g4, dk4, hl, hp, hlen, nd, hall⟩ := h
      exact ⟨L, xs, _, _, _, rfl, g4, dk4, hl, hp, by omega, nd, fun p hp => let ⟨a, b, c⟩ := hall p hp; ⟨a, b, by omega⟩⟩
  · obtain ⟨L, xs, c3, c4, c5, rfl, g3, dk3, hl, hp, hlen, nd, hall⟩ := h
    have hin : ∀ p ∈ L, p ∈ prs n := fun p hp => let ⟨a, b, _⟩ := hall p hp; in_prs n4 a b
    have l6 : L.length ≤ 6 := by
      have := cntW_le n n2
      rw [show (2 + t).toNat = n by omega] at hlen
      omega
    have h9 : ∀ q ∈ L.map (webQ n), Q9 q ∧ q.1.length = n := fun q hq => by
      obtain ⟨p, hp, rfl⟩ := List.mem_map.mp hq
      obtain ⟨a, b, _⟩ := web_fact n n2 p (hin p hp)
      exact ⟨⟨a, b, show (0 : Int).natAbs < 2 ^ 4 by decide⟩, web_len n p⟩
    refine ⟨_, rfl, _, rfl, Dl, xs, rfl, .inl ⟨SqL.of hl, fun p2 m2 => ⟨szN (by show 2 ≤ 1000000; decide), fun p3 m3 => ?_⟩⟩⟩
    have r2 := (Gr.refl H3).new m2 (.tup xs)
    have r3 := r2.new m3 (.tup [.int (2 + t), .ref p2])
    refine hQ _ n (L.map (webQ n)) _ ((g1.trans g3).gr r3) (dk3.gr r3) ⟨p3, p2, xs, rfl, SqT.of (by rw [upd_same, hz]), ((Gr.refl _).new m3 _).seqT (SqT.of upd_same), Paired.mapP hp fun _ _ z => z.gr r3⟩ ⟨by omega, by omega, by rw [List.length_map]; omega, fun q h => ⟨(h9 q h).1.ok, (h9 q h).2⟩, web_nd n2 nd hin⟩ ⟨by omega, by omega, by rw [List.length_map]; omega, h9⟩
end
end SB
namespace SB
open PySem L2 GxR GA RZ
/-! ### what the law asks of ranks -/
theorem rkS {d b : Nat} {qs : List (List Int × Int)} (h : ∀ q ∈ qs, q.1.length = d ∧ BdI b (q.1 ++ [q.2])) : Rk (qs.map fun q => vcI q.1) d (rankS qs) := by
  have := rk_kept (R := qs.map fun q => q.1) (w := d) (n := b) fun x hx => by
    obtain ⟨q, hq, rfl⟩ := List.mem_map.mp hx
    exact ⟨(h q hq).1, fun z hz => (h q hq).2 z (List.mem_append_left _ hz)⟩
  rw [List.map_map] at this
  exact this
theorem rkW {d b : Nat} {qs : List (List Int × Int)} (h : ∀ q ∈ qs, q.1.length = d ∧ BdI b (q.1 ++ [q.2])) : Rk (qs.map fun q => vcI (q.1 ++ [q.2])) (d + 1) (rankW qs) := by
  have := rk_kept (R := qs.map fun q => q.1 ++ [q.2]) (w := d + 1) (n := b) fun x hx => by
    obtain ⟨q, hq, rfl⟩ := List.mem_map.mp hx
    exact ⟨by rw [List.length_append, (h q hq).1]; rfl, (h q hq).2⟩
  rw [List.map_map] at this
  exact this
theorem rank_less {d b i : Nat} {qs : List (List Int × Int)} (h : ∀ q ∈ qs, q.1.length = d ∧ BdI b (q.1 ++ [q.2])) (hi : i < qs.length) : rankS (qs.take i ++ qs.drop (i + 1)) ≤ rankS qs ∧ rankS qs ≤ rankS (qs.take i ++ qs.drop (i + 1)) + 1 := by
  have e : qs = qs.take i ++ qs[i] :: qs.drop (i + 1) := by
    rw [← List.drop_eq_getElem_cons hi, List.take_append_drop]
  have a := rkS h
  have c := rkS (qs := qs.take i ++ qs.drop (i + 1)) (d := d) (b := b) fun q hq => by
    rcases List.mem_append.mp hq with hq | hq
    · exact h q (List.mem_of_mem_take hq)
    · exact h q (List.mem_of_mem_drop hq)
  rw [List.map_append] at c
  have a2 : Rk ((qs.take i).map (fun q => vcI q.1) ++ vcI qs[i].1 :: (qs.drop (i + 1)).map fun q => vcI q.1) d (rankS qs) := by
    have e2 : (qs.map fun q => vcI q.1) = (qs.take i).map (fun q => vcI q.1) ++ vcI qs[i].1 :: (qs.drop (i + 1)).map fun q => vcI q.1 := by
      conv => lhs; rw [e]
      rw [List.map_append, List.map_cons]
    rw [← e2]
    exact a
  exact a2.less c
theorem vc_neg (l : List Int) : vcI (l.map fun z => -z) = fun j => - vcI l j := funext fun j => by
  show vcI (l.map fun z => -z) j = - vcI l j
  unfold vcI
  cases h : l[j]? with
  | none =>
    have hl := List.getElem?_eq_none_iff.mp h
    rw [gI_out (by rw [List.length_map]; exact hl), gI_out hl]
    rfl
  | some z =>
    rw [gI_get h, gI_get (z := -z) (by rw [List.getElem?_map, h]; rfl), Rat.intCast_neg]
theorem sp_neg {S : List Vc} {v : Vc} (h : Spn S v) : Spn S fun j => - v j := Spn.lin (a := -1) (b := 0) (c := 1) (by decide) (fun j => by grind) h h
theorem rank_set {f : List Int × Int → List Int} (hf : ∀ q, f (negU q) = (f q).map fun z => -z) {qs : List (List Int × Int)} {i : Nat} {q : List Int × Int} (e : qs[i]? = some q) {w v r s : Nat} (h : Rk (qs.map fun q => vcI (f q)) w r) (g : Rk ((qs.set i (negU q)).map fun q => vcI (f q)) v s) : s = r := by
  have hi := (List.getElem?_eq_some_iff.mp e).1
  refine Nat.le_antisymm (h.le_of g fun x hx => ?_) (g.le_of h fun x hx => ?_)
  · obtain ⟨p, hp, rfl⟩ := List.mem_map.mp hx
    rcases List.mem_or_eq_of_mem_set hp with hp | rfl
    · exact .mem (List.mem_map.mpr ⟨p, hp, rfl⟩)
    · show Spn _ (vcI (f (negU q)))
      rw [hf, vc_neg]
      exact sp_neg (.mem (List.mem_map.mpr ⟨q, List.mem_of_getElem? e, rfl⟩))
  · obtain ⟨p, hp, rfl⟩ := List.mem_map.mp hx
    obtain ⟨k, hk⟩ := List.getElem?_of_mem hp
    by_cases c : k = i
    · subst c
      rw [e] at hk
      cases hk
      have hm : negU q ∈ qs.set k (negU q) := List.mem_of_getElem? (i := k) (by rw [List.getElem?_set_self hi])
      have := sp_neg (Spn.mem (K := (qs.set k (negU q)).map fun q => vcI (f q)) (List.mem_map.mpr ⟨negU q, hm, rfl⟩))
      rw [hf, vc_neg] at this
      have e2 : (fun j => - - vcI (f q) j) = vcI (f q) := funext fun j => by grind
      rw [e2] at this
      exact this
    · exact .mem (List.mem_map.mpr ⟨p, List.mem_of_getElem? (i := k) (by rw [List.getElem?_set_ne (Ne.symm c)]; exact hk), rfl⟩)
theorem neg_len (q : List Int × Int) : (negU q).1.length = q.1.length := List.length_map ..
theorem bd_neg {b : Nat} {l : List Int} (h : BdI b l) : BdI b (l.map fun z => -z) := fun z hz => by
  obtain ⟨y, hy, rfl⟩ := List.mem_map.mp hz
  rw [Int.natAbs_neg]
  exact h y hy
theorem cells_neg (q : List Int × Int) : (negU q).1 ++ [(negU q).2] = (q.1 ++ [q.2]).map fun z => -z := by
  rw [List.map_append]
  rfl
theorem turn_ok {d b i : Nat} {qs : List (List Int × Int)} (h : ∀ q ∈ qs, q.1.length = d ∧ BdI b (q.1 ++ [q.2])) : ∀ q ∈ turnU qs i, q.1.length = d ∧ BdI b (q.1 ++ [q.2]) := by
  cases e : qs[i]? with
  | none =>
    unfold turnU
    rw [e]
    exact h
  | some p =>
    rw [turn_set e]
    intro q hq
    rcases List.mem_or_eq_of_mem_set hq with hq | rfl
    · exact h q hq
    · have hp := h p (List.mem_of_getElem? e)
      exact ⟨by rw [neg_len]; exact hp.1, by rw [cells_neg]; exact bd_neg hp.2⟩
theorem rank_turn {d b i : Nat} {qs : List (List Int × Int)} (h : ∀ q ∈ qs, q.1.length = d ∧ BdI b (q.1 ++ [q.2])) (hi : i < qs.length) : rankS (turnU qs i) = rankS qs ∧ rankW (turnU qs i) = rankW qs := by
  have e := List.getElem?_eq_getElem hi
  have h2 := turn_ok (i := i) h
  have a1 := rkS h2
  have a2 := rkW h2
  rw [turn_set e] at a1 a2 ⊢
  exact ⟨rank_set (f := fun q => q.1) (fun q => rfl) e (rkS h) a1, rank_set (f := fun q => q.1 ++ [q.2]) cells_neg e (rkW h) a2⟩
theorem q9_bd {q : List Int × Int} (h : Q9 q) : BdI 4 (q.1 ++ [q.2]) := fun z hz => by
  rcases List.mem_append.mp hz with hz | hz
  · exact h.ns z hz
  · rw [List.mem_singleton.mp hz]
    exact h.wl
theorem row_zero {qs : List (List Int × Int)} {us : List (Int × Int)} (hu : ∀ u ∈ us, Lo u) (h : ∀ q ∈ qs, dotQ q.1 (us.map qv) = (q.2 : Rat)) : rowU qs us = List.replicate qs.length 0 := by
  refine List.ext_getElem? fun i => ?_
  cases e : qs[i]? with
  | none =>
    have hl := List.getElem?_eq_none_iff.mp e
    rw [List.getElem?_eq_none (by rw [row_len]; exact hl), List.getElem?_eq_none (by rw [List.length_replicate]; exact hl)]
  | some q =>
    have hi := (List.getElem?_eq_some_iff.mp e).1
    rw [row_at e, List.getElem?_replicate, if_pos hi, ans_qv hu]
    have : wq q us = 0 := by
      unfold wq
      rw [worth_qv fun u hu2 => (hu u hu2).1, h q (List.mem_of_getElem? e)]
      grind
    rw [this, sgQ_zero]
end SB
namespace SB
open PySem L2 GxR GA RZ
def rLstOf (K : PySem.W.Frag) : List V → Hp → VK → Prop := fun xs H Q => ∃ p ys, xs = [V.ref p] ∧ (SqL K H p ys ∨ SqT K H p ys) ∧ ∀ (l : Addr), H l = none → Q (V.ref l) (upd H l (.lst ys))
section
variable {P : Program} {w : World} {K : PySem.W.Frag} {mg : Str → Option Value} {base : Heap}
theorem al_l4 {H : Hp} {n : Nat} {p q : Addr} {x1 x2 x3 x4 y1 y2 y3 y4 : V} (hp : SqL K H p [x1, x2, x3, x4]) (hq : SqL K H q [y1, y2, y3, y4]) (h1 : Alike K H n x1 y1) (h2 : Alike K H n x2 y2) (h3 : Alike K H n x3 y3) (h4 : Alike K H n x4 y4) : Alike K H (n + 1) (.ref p) (.ref q) :=
  .inr ⟨p, q, _, _, rfl, rfl, szN (by show 4 ≤ 1000000; decide), .inr ⟨hp, hq⟩, .cons h1 (.cons h2 (.cons h3 (.cons h4 .nil)))⟩
def spRight (K : PySem.W.Frag) (T : Nat → Addr) : Sp := fun vs H Q _ => ∃ d x n qs, vs = [.ref d, x] ∧ DeckAt d H ∧ Tb5 T H ∧ BkV K H x n qs ∧ BOk n qs ∧ Pg9 n qs ∧ ∀ H', GrD d H H' → DeckAt d H' → Q (.bl true) H'
theorem sc_right : FnScope ["deck", "page", "size", "lines", "line", "due", "meets", "place", "less"] ["deck", "page"] (defScope s__law_right) := ⟨rfl, rfl, rfl, by decide +kernel, rfl, by decide +kernel, by decide +kernel⟩
theorem cl_right {T : Nat → Addr} (D : Df K mg "_law_right" s__law_right) (B : Blt mg) (CT : Cl P w K mg base 1 "_law_take" ["deck", "many"] spTake) (CRk : Cl P w K mg base 10 "_law_rank" ["rows", "wide"] (spLRank K)) (CSm : Cl P w K mg base 4 "_law_same" ["found", "due"] (spSame K 4))
    (CRa : Cl P w K mg base 39 "rank" ["book"] (spRank K T)) (KRa : ClK P w K mg base 39 "rank" ["book"] ["book"] gR1 gR1 (spRank K T)) (CAt : Cl P w K mg base 39 "at_once" ["book"] (spAtOnce K T)) (KAt : ClK P w K mg base 39 "at_once" ["book"] ["book"] gR1 gR1 (spAtOnce K T))
    (CRO : Cl P w K mg base 39 "row_of" ["book", "point"] (spRowOf K T)) (CMe : Cl P w K mg base 37 "_law_meeting" ["page"] (spMeet K)) (CWo : Cl P w K mg base 39 "without" ["book", "index"] (spWithout K T)) (CTu : Cl P w K mg base 39 "turned" ["book", "index"] (spTurned K T)) : Cl P w K mg base 40 "_law_right" ["deck", "page"] (spRight K T) := by
  refine D.cl (fun _ _ _ _ _ _ us hl => match us, hl with | [_, _], _ => rfl) fun f fd F => F.ok sc_right (fun vs H Q E h => ?_) (fun cdv A outer s H vs Q E hr h => ?_)
  · obtain ⟨d, x, n, qs, rfl, _⟩ := h
    rfl
  obtain ⟨d, x, n, qs, rfl, dk, tb, hx, ok, pg, hq⟩ := h
  refine ⟨_, (pss_cons (ps_asg (pv 1) (pg_tup rfl (pgs_cons (pg_name (i := 2) sc_right.nd rfl (Or.inl rfl)) (pgs_cons (pg_name (i := 3) sc_right.nd rfl (Or.inl rfl)) pgs_nil))))
    (pss_cons (ps_set (i := 5) sc_right.nd rfl (.inl rfl) (pe_cl CRk (hr.mono (by decide)) (pa_cons (pe_lc (own := [("line", 4)]) (g := gName 4) rfl sc_right.nd (pi_tup (pv 3)) (blkOk_by (N := ["deck", "page", "size", "lines", "line", "due", "meets", "place", "less"]) (sc := defScope s__law_right) (by decide +kernel)) (fun _ _ _ _ _ => (pg_name (i := 4) sc_right.nd rfl (Or.inl rfl))) (fun _ _ _ _ _ => pts_nil) (fun _ _ _ _ _ => (pe_callTy (r := rLstOf K) call_list_of rfl B.lst bootLst (pa_cons (pe_ix (r := rIxT K) ix_tup (pv 4) pe_int (fun _ _ => rfl)) pa_nil)))) (pa_cons (pv 2) pa_nil))))
    (pss_cons (ps_set (i := 6) sc_right.nd rfl (.inl rfl) (pe_cmpR op_eq (pe_cl CRk (hr.mono (by decide)) (pa_cons (pe_lc (own := [("line", 4)]) (g := gName 4) rfl sc_right.nd (pi_tup (pv 3)) (blkOk_by (N := ["deck", "page", "size", "lines", "line", "due", "meets", "place", "less"]) (sc := defScope s__law_right) (by decide +kernel)) (fun _ _ _ _ _ => (pg_name (i := 4) sc_right.nd rfl (Or.inl rfl))) (fun _ _ _ _ _ => pts_nil) (fun _ _ _ _ _ => (pe_op (r := rCat) op_cat (pe_callTy (r := rLstOf K) call_list_of rfl B.lst bootLst (pa_cons (pe_ix (r := rIxT K) ix_tup (pv 4) pe_int (fun _ _ => rfl)) pa_nil)) (pe_lst (pa_cons (pe_ix (r := rIxT K) ix_tup (pv 4) pe_int (fun _ _ => rfl)) pa_nil))))) (pa_cons (pe_op op_add (pv 2) pe_int) pa_nil))) (pv 5) (nomark _)))
    (pss_cons (ps_if (pt_not (pt_val (pe_cl CSm (hr.mono (by decide)) (pa_cons (pe_lst (pa_cons (pe_cl CRa (hr.mono (by decide)) (pa_cons (pv 1) pa_nil)) (pa_cons (pe_clK KRa (hr.mono (by decide)) (pk_cons (pv 1) pk_nil)) (pa_cons (pe_cl CAt (hr.mono (by decide)) (pa_cons (pv 1) pa_nil)) (pa_cons (pe_clK KAt (hr.mono (by decide)) (pk_cons (pv 1) pk_nil)) pa_nil))))) (pa_cons (pe_lst (pa_cons (pv 5) (pa_cons (pv 5) (pa_cons (pv 6) (pa_cons (pv 6) pa_nil))))) pa_nil))))) pss_no pss_nil)
    (pss_cons (ps_if (PW.pt (by exact (pw_and (pt_val (pv 6)) (pw_and1 (pt_not (pt_val (pe_cl CSm (hr.mono (by decide)) (pa_cons (pe_cl CRO (hr.mono (by decide)) (pa_cons (pv 1) (pa_cons (pe_cl CMe (hr.mono (by decide)) (pa_cons (pv 1) pa_nil)) pa_nil))) (pa_cons (pe_op RP.op_repA (pe_tup (pa_cons pe_int pa_nil)) (pe_len (pv 3) B.len)) pa_nil))))))))) pss_no pss_nil)
    (pss_cons (ps_if (pt_cmpR (op_eqD hr.units) (pv 3) (pe_tup pa_nil) (nomark _)) (pss_one (ps_ret pe_bl)) pss_nil)
    (pss_cons (ps_set (i := 7) sc_right.nd rfl (.inl rfl) (pe_cl CT (hr.mono (by decide)) (pa_cons (pv 0) (pa_cons (pe_len (pv 3) B.len) pa_nil))))
    (pss_cons (ps_set (i := 8) sc_right.nd rfl (.inl rfl) (pe_cl CRa (hr.mono (by decide)) (pa_cons (pe_cl CWo (hr.mono (by decide)) (pa_cons (pv 1) (pa_cons (pv 7) pa_nil))) pa_nil)))
    (pss_one (ps_ret (pe_and (pe_cmpR op_in_seq (pv 8) (pe_lst (pa_cons (pe_op op_sub (pv 5) pe_int) (pa_cons (pv 5) pa_nil))) rfl) (pe_one (pe_cl CSm (hr.mono (by decide)) (pa_cons (pe_lst (pa_cons (pe_cl CRa (hr.mono (by decide)) (pa_cons (pe_cl CTu (hr.mono (by decide)) (pa_cons (pv 1) (pa_cons (pv 7) pa_nil))) pa_nil)) (pa_cons (pe_cl CAt (hr.mono (by decide)) (pa_cons (pe_cl CTu (hr.mono (by decide)) (pa_cons (pv 1) (pa_cons (pv 7) pa_nil))) pa_nil)) pa_nil))) (pa_cons (pe_lst (pa_cons (pv 5) (pa_cons (pv 6) pa_nil))) pa_nil))))))))))))))), ?_⟩
  obtain ⟨a, b, xs, ea, ha, hb, hp⟩ := id hx
  subst ea
  have n1 := pg.n1
  have n4 := pg.n4
  have l8 := pg.l8
  have xl : xs.length = qs.length := paired_len hp
  have hq9 : ∀ q ∈ qs, q.1.length = n ∧ BdI 4 (q.1 ++ [q.2]) := fun q hq => ⟨(pg.q9 q hq).2, q9_bd (pg.q9 q hq).1⟩
  have hS := rkS hq9
  have hW := rkW hq9
  refine ⟨_, rfl, a, _, rfl, ha, rfl, _, _, rfl, _, _, rfl, rfl, ?_⟩
  -- how many rows count
  refine ⟨_, rfl, b, rfl, ⟨_, hb⟩, fun D0 nD0 => lc_one (oi_T hb) (fun k y H' => ∃ q, qs[k]? = some q ∧ SiN K D0 H' y q.1) (fun k y H' H'' h g => let ⟨q, e, v⟩ := h; ⟨q, e, v.gr g⟩) (fun k y H' o h => let ⟨q, e, v⟩ := h; ⟨q, e, v.put⟩) nD0 (by rw [xl]; exact szN (by omega)) (fun k y H5 Kc hy g5 hDl kc => ?_) (fun ys H1 hD1 hl1 g1 hR => ?_)⟩
  · obtain ⟨q, eq, qa, _, rfl, hqa, sa, rfl, hsa⟩ := paired_get hp hy
    refine ⟨rfl, _, rfl, qa, _, _, _, rfl, rfl, g5.seqT hqa, rfl, sa, _, rfl, .inr (g5.seqT hsa), fun l nl => ?_⟩
    obtain ⟨ys0, hD⟩ := hDl
    exact kc _ _ ((Gr.refl H5).new nl _) ⟨q, eq, l, rfl, (fun e => by rw [e, hD] at nl; cases nl), SqL.of upd_same⟩
  have hp1 : Paired (SiL K H1) ys (qs.map fun q => q.1) := paired_at2 (by rw [hl1, xl, List.length_map]) fun i y c hy hc => by
    obtain ⟨q, e, v⟩ := hR i y hy
    rw [List.getElem?_map, e] at hc
    cases hc
    exact v.l
  refine ⟨_, rfl, D0, ys, qs.map fun q => q.1, n, 4, rfl, SqL.of hD1, hp1, by rw [List.length_map]; exact l8, by omega, fun r hr => ?_, by decide, rankS qs, by rw [List.map_map]; exact hS, fun H2 g2 => ?_⟩
  · obtain ⟨q, hq, rfl⟩ := List.mem_map.mp hr
    exact ⟨fun z hz => (hq9 q hq).2 z (List.mem_append_left _ hz), (hq9 q hq).1⟩
  have G2 := g1.trans g2
  clear hR hp1 hD1 g1 g2
  have hb2 := G2.seqT hb
  have hp2 : Paired (QuV K H2) xs qs := Paired.mapP hp fun _ _ z => z.gr G2
  refine ⟨_, rfl, b, rfl, ⟨_, hb2⟩, fun D0 nD0 => lc_one (oi_T hb2) (fun k y H' => ∃ q, qs[k]? = some q ∧ SiN K D0 H' y (q.1 ++ [q.2])) (fun k y H' H'' h g => let ⟨q, e, v⟩ := h; ⟨q, e, v.gr g⟩) (fun k y H' o h => let ⟨q, e, v⟩ := h; ⟨q, e, v.put⟩) nD0 (by rw [xl]; exact szN (by omega)) (fun k y H5 Kc hy g5 hDl kc => ?_) (fun ys H3 hD1 hl1 g3 hR => ?_)⟩
  · obtain ⟨q, eq, qa, _, rfl, hqa, sa, rfl, hsa⟩ := paired_get hp2 hy
    have ql := (hq9 q (List.mem_of_getElem? eq)).1
    refine ⟨rfl, _, rfl, qa, _, _, _, rfl, rfl, g5.seqT hqa, rfl, sa, _, rfl, .inr (g5.seqT hsa), fun l nl => ?_⟩
    have k1 := (Gr.refl H5).new nl (.lst (q.1.map V.int))
    have e1 : (upd H5 l (.lst (q.1.map V.int))) l = some (.lst (q.1.map V.int)) := upd_same
    generalize upd H5 l (.lst (q.1.map V.int)) = H6 at k1 e1 ⊢
    refine ⟨_, rfl, qa, _, _, _, rfl, rfl, (g5.trans k1).seqT hqa, rfl, szN (by show 1 ≤ 1000000; decide), fun p np => ?_⟩
    have k2 := (Gr.refl H6).new np (.lst [.int q.2])
    have e2 : (upd H6 p (.lst [.int q.2])) p = some (.lst [.int q.2]) := upd_same
    have e12 := grLst k2 e1
    generalize upd H6 p (.lst [.int q.2]) = H7 at k2 e2 e12 ⊢
    refine ⟨l, p, _, _, rfl, rfl, e12, e2, by rw [List.length_map]; exact szN (by show q.1.length + 1 ≤ 1000000; omega), fun p3 m3 => ?_⟩
    obtain ⟨ys0, hD⟩ := hDl
    have hD7 := grLst (k1.trans k2) hD
    exact kc _ _ ((k1.trans k2).trans ((Gr.refl H7).new m3 _)) ⟨q, eq, p3, rfl, (fun e => by rw [e, hD7] at m3; cases m3), SqL.of (by rw [upd_same, List.map_append]; rfl)⟩
  have hp3 : Paired (SiL K H3) ys (qs.map fun q => q.1 ++ [q.2]) := paired_at2 (by rw [hl1, xl, List.length_map]) fun i y c hy hc => by
    obtain ⟨q, e, v⟩ := hR i y hy
    rw [List.getElem?_map, e] at hc
    cases hc
    exact v.l
  refine ⟨_, rfl, _, _, rfl, rfl, D0, ys, qs.map fun q => q.1 ++ [q.2], n + 1, 4, rfl, SqL.of hD1, hp3, by rw [List.length_map]; exact l8, by omega, fun r hr => ?_, by decide, rankW qs, by rw [List.map_map]; exact hW, fun H4 g4 => ?_⟩
  · obtain ⟨q, hq, rfl⟩ := List.mem_map.mp hr
    exact ⟨(hq9 q hq).2, by rw [List.length_append, (hq9 q hq).1]; rfl⟩
  have G4 := (G2.trans g3).trans g4
  clear hR hp3 hD1 g3 g4 hb2 hp2 G2
  refine ⟨_, rfl, rfl, ?_⟩
  have em : decide (V.int ((rankW qs : Nat) : Int) = V.int ((rankS qs : Nat) : Int)) = decide (rankS qs = rankW qs) := by
    by_cases c : rankS qs = rankW qs
    · rw [decide_eq_true c, decide_eq_true (by rw [c])]
    · rw [decide_eq_false c, decide_eq_false fun e => c (by injection e with e; omega)]
  rw [em]
  have bd : ∀ q ∈ qs, BdI 4 (q.1 ++ [q.2]) := fun q hq => (hq9 q hq).2
  have hx4 := hx.gr G4
  have tb4 := tb.gr G4
  have dk4 := dk.gr G4
  -- all four
  refine ⟨_, rfl, .ref a, n, qs, 4, rfl, tb4, hx4, ok, bd, by decide, fun H5 g5 => ?_⟩
  have hx5 := hx4.gr g5
  have tb5 := tb4.gr g5
  refine ⟨_, rfl, .ref a, n, qs, 4, rfl, tb5, hx5, ok, bd, by decide, fun H6 g6 => ?_⟩
  have hx6 := hx5.gr g6
  have tb6 := tb5.gr g6
  refine ⟨_, rfl, .ref a, n, qs, 4, rfl, tb6, hx6, ok, bd, by decide, fun H7 g7 => ?_⟩
  have hx7 := hx6.gr g7
  have tb7 := tb6.gr g7
  refine ⟨_, rfl, .ref a, n, qs, 4, rfl, tb7, hx7, ok, bd, by decide, fun H8 g8 => ⟨szN (by show 4 ≤ 1000000; decide), fun p1 m1 => ⟨_, rfl, _, rfl, _, rfl, _, rfl, szN (by show 4 ≤ 1000000; decide), fun p2 m2 => ?_⟩⟩⟩
  have G8 := (((G4.trans g5).trans g6).trans g7).trans g8
  generalize hmt : decide (rankS qs = rankW qs) = mt at m1 m2 ⊢
  have k1 := (Gr.refl H8).new m1 (.lst [.int ((rankS qs : Nat) : Int), .int ((rankS qs : Nat) : Int), .bl mt, .bl mt])
  have k2 := (Gr.refl (upd H8 p1 (.lst [.int ((rankS qs : Nat) : Int), .int ((rankS qs : Nat) : Int), .bl mt, .bl mt]))).new m2 (.lst [.int ((rankS qs : Nat) : Int), .int ((rankS qs : Nat) : Int), .bl mt, .bl mt])
  refine ⟨_, _, rfl, al_l4 (n := 3) (SqL.of (k2.keep p1 _ (fun _ z => nomatch z) upd_same)) (SqL.of upd_same) (al_int 2 _) (al_int 2 _) (al_bl 2 _) (al_bl 2 _), fun H9 g9 => ⟨_, rfl, iteF ?_⟩⟩
  have G9 := ((G8.trans k1).trans k2).trans g9
  clear k1 k2 m1 m2 g9 g8 g7 g6 g5 hx4 hx5 hx6 hx7 tb4 tb5 tb6 tb7 G8
  let Pst : L2.St → Hp → Prop := fun σ' H' => (∃ c4 c7 c8 : Option V, σ' = [some (.ref d), some (.ref a), some (.int ((n : Nat) : Int)), some (.ref b), c4, some (.int ((rankS qs : Nat) : Int)), some (.bl mt), c7, c8]) ∧ Gr H H'
  refine seq_join Pst (fun σ' H' h => ?_) (fun Kn hK => hK _ _ ⟨⟨_, _, _, rfl⟩, G9⟩)
  clear G9
  obtain ⟨⟨c4, c7, c8, rfl⟩, G9⟩ := h
  refine seq_join Pst (fun σ' H' h => ?_) (fun Kn hK => ?_)
  · clear G9
    obtain ⟨⟨c4, c7, c8, rfl⟩, G9⟩ := h
    refine ⟨_, rfl, szN (by show 0 ≤ 1000000; decide), fun p np => ?_⟩
    have k1 := (Gr.refl H').new np (.tup [])
    have e1 : SqT K (upd H' p (.tup [])) p [] := SqT.of upd_same
    generalize upd H' p (.tup []) = H3 at k1 e1 ⊢
    have G3 := G9.trans k1
    have hp3 : Paired (QuV K H3) xs qs := Paired.mapP hp fun _ _ z => z.gr G3
    refine ⟨.tuple (qs.map quP), .tuple [], .tup (G3.seqT hb) (dp_qus hp3), .tup e1 .nil, shp_qus qs, by decide, _, rfl, ?_⟩
    rw [eqv_nilT]
    have dk3 := dk.gr G3
    have tb3 := tb.gr G3
    have hx3 := hx.gr G3
    clear np e1 k1 G9
    cases hne : qs with
    | nil => exact iteT (hq H3 (G3.d d) dk3)
    | cons q0 r0 =>
      rw [← hne]
      have lpos : 0 < qs.length := by rw [hne]; exact Nat.succ_pos _
      have gn : (qs.map quP).isEmpty = false := by rw [hne]; rfl
      rw [gn]
      clear hne gn
      refine iteF ⟨_, rfl, _, rfl, b, xs, rfl, .inr (G3.seqT hb), d, xs.length, rfl, dk3, by omega, big_take (by omega), fun t H4 t0 t1 g4 dk4 => ?_⟩
      obtain ⟨i, rfl⟩ : ∃ i : Nat, t = ((i : Nat) : Int) := ⟨t.toNat, by omega⟩
      have hi : i < qs.length := by omega
      have hx4 := hx3.st (g4.st dk3)
      have tb4 := tb3.grd dk3 g4
      have G4 : GrD d H H4 := (G3.d d).trans g4
      clear hx3 tb3 g4 hp3
      have l1 := rank_less hq9 hi
      have okw := ok.wo i
      have bdw : ∀ q ∈ qs.take i ++ qs.drop (i + 1), BdI 4 (q.1 ++ [q.2]) := fun q hq => by
        rcases List.mem_append.mp hq with hq | hq
        · exact bd q (List.mem_of_mem_take hq)
        · exact bd q (List.mem_of_mem_drop hq)
      refine ⟨_, rfl, _, rfl, .ref a, n, qs, i, rfl, tb4, hx4, ok, hi, fun v H5 g5 hv => ?_⟩
      refine ⟨v, n, _, 4, rfl, tb4.gr g5, hv, okw, bdw, by decide, fun H6 g6 => ?_⟩
      have k6 := g5.trans g6
      generalize hrl : rankS (qs.take i ++ qs.drop (i + 1)) = rl at l1 ⊢
      refine ⟨_, rfl, _, rfl, _, _, rfl, rfl, _, rfl, szN (by show 2 ≤ 1000000; decide), fun p2 m2 => ?_⟩
      have k7 := (Gr.refl H6).new m2 (.lst [.int (((rankS qs : Nat) : Int) - 1), .int ((rankS qs : Nat) : Int)])
      have e7 : SqL K (upd H6 p2 (.lst [.int (((rankS qs : Nat) : Int) - 1), .int ((rankS qs : Nat) : Int)])) p2 [.int (((rankS qs : Nat) : Int) - 1), .int ((rankS qs : Nat) : Int)] := SqL.of upd_same
      generalize upd H6 p2 (.lst [.int (((rankS qs : Nat) : Int) - 1), .int ((rankS qs : Nat) : Int)]) = H7 at k7 e7 ⊢
      have K7 := k6.trans k7
      have hin : inV (.int ((rl : Nat) : Int)) [.int (((rankS qs : Nat) : Int) - 1), .int ((rankS qs : Nat) : Int)] = true := by
        show ((((rankS qs : Nat) : Int) - 1 == ((rl : Nat) : Int)) || ((((rankS qs : Nat) : Int) == ((rl : Nat) : Int)) || false)) = true
        rw [Bool.or_false, Bool.or_eq_true, beq_iff_eq, beq_iff_eq]
        omega
      refine ⟨p2, _, rfl, .inl e7, rfl, rfl, true, by show V.bl (inV _ _) = _; rw [hin], iteT ?_⟩
      clear hin e7 k7 m2 k6 g5 g6 hv
      obtain ⟨r1, r2⟩ := rank_turn (i := i) hq9 hi
      have okt := ok.turn hi
      have bdt : ∀ q ∈ turnU qs i, BdI 4 (q.1 ++ [q.2]) := fun q hq => (turn_ok hq9 q hq).2
      have hx7 := hx4.gr K7
      have tb7 := tb4.gr K7
      refine ⟨_, rfl, _, rfl, .ref a, n, qs, i, rfl, tb7, hx7, ok, hi, fun v H8 g8 hv => ⟨v, n, _, 4, rfl, tb7.gr g8, hv, okt, bdt, by decide, fun H9 g9 => ?_⟩⟩
      have g89 := g8.trans g9
      refine ⟨_, rfl, _, rfl, .ref a, n, qs, i, rfl, tb7.gr g89, hx7.gr g89, ok, hi, fun v2 H10 g10 hv2 => ⟨v2, n, _, 4, rfl, (tb7.gr g89).gr g10, hv2, okt, bdt, by decide, fun H11 g11 => ?_⟩⟩
      rw [r1, r2, hmt]
      have g11' := (g89.trans g10).trans g11
      refine ⟨szN (by show 2 ≤ 1000000; decide), fun p3 m3 => ⟨_, rfl, _, rfl, szN (by show 2 ≤ 1000000; decide), fun p4 m4 => ?_⟩⟩
      have q1 := (Gr.refl H11).new m3 (.lst [.int ((rankS qs : Nat) : Int), .bl mt])
      have q2 := (Gr.refl (upd H11 p3 (.lst [.int ((rankS qs : Nat) : Int), .bl mt]))).new m4 (.lst [.int ((rankS qs : Nat) : Int), .bl mt])
      refine ⟨_, _, rfl, al_l2 (n := 3) (SqL.of (q2.keep p3 _ (fun _ z => nomatch z) upd_same)) (SqL.of upd_same) (al_int 2 _) (al_bl 2 _), fun H12 g12 => ?_⟩
      have gz := (((K7.trans g11').trans q1).trans q2).trans g12
      exact hq H12 (G4.gr gz) (dk4.gr gz)
  · refine ⟨_, rfl, _, rfl, ?_⟩
    cases mt with
    | false => exact hK _ _ ⟨⟨_, _, _, rfl⟩, G9⟩
    | true =>
      have eSW := of_decide_eq_true hmt
      have hx9 := hx.gr G9
      have tb9 := tb.gr G9
      refine ⟨_, rfl, _, rfl, .ref a, n, qs, n + 1, n, rankS qs, rfl, hx9, n1, n4, l8, fun q hq => ⟨(pg.q9 q hq).2, (pg.q9 q hq).1.ns, (pg.q9 q hq).1.wl⟩, by rw [eSW]; exact hW, hS, fun y sp H10 g10 hy slen sfr sdot => ?_⟩
      have uo : UsOk sp := ⟨fun e => by rw [e] at slen; simp at slen; omega, by omega, fun u hu => (sfr u hu).1, fun u hu => (sfr u hu).2.mono (by decide)⟩
      refine ⟨.ref a, y, n, qs, sp, rfl, tb9.gr g10, hx9.gr g10, hy, ok, uo, slen, fun v H11 g11 hv => ⟨szN (by show 1 ≤ 1000000; decide), fun p np => ?_⟩⟩
      have k1 := (Gr.refl H11).new np (.tup [.int 0])
      have e1 : SqT K (upd H11 p (.tup [.int 0])) p [.int 0] := SqT.of upd_same
      have hv2 := hv.gr k1
      generalize upd H11 p (.tup [.int 0]) = H12 at k1 e1 hv2 ⊢
      have G12 := ((G9.trans g10).trans g11).trans k1
      have ez := row_zero (fun u hu => (sfr u hu).1) sdot
      rw [ez] at hv2
      refine ⟨_, rfl, b, xs, rfl, .inr (G12.seqT hb), p, _, [.int 0], rfl, rfl, e1, by simp, by omega, by omega, by show 1 ≤ 1000; decide, fun e => ?_, fun e l nl => ?_⟩
      · have e1q : qs.length = 1 := by omega
        refine ⟨_, _, rfl, al_si 2 hv2 ⟨p, rfl, by rw [e1q]; exact e1⟩ (by rw [List.length_replicate]; omega), fun H13 g13 => ⟨_, rfl, ?_⟩⟩
        exact hK _ _ ⟨⟨_, _, _, rfl⟩, G12.trans g13⟩
      · have kl := (Gr.refl H12).new nl (.tup (List.replicate ((xs.length : Nat) : Int).toNat [V.int 0]).flatten)
        refine ⟨_, _, rfl, al_si 2 (hv2.gr kl) ⟨l, rfl, SqT.of (by rw [upd_same, Int.toNat_natCast, flat_zero, xl])⟩ (by rw [List.length_replicate]; omega), fun H13 g13 => ⟨_, rfl, ?_⟩⟩
        exact hK _ _ ⟨⟨_, _, _, rfl⟩, (G12.trans kl).trans g13⟩
end
end SB
namespace SB
open PySem L2 GxR GA RZ
theorem seqL_deck3 {K : PySem.W.Frag} {H H3 : Hp} {p l : Addr} {o : HO} {xs : List V} (np : H p = none) (g : GrD p (upd H p o) H3) (h : SqL K H l xs) : SqL K H3 l xs := by
  rcases h with (h | ⟨u, h⟩) | h
  · have ne : l ≠ p := ne_of_none h np
    exact .inl (.inl (g.keep l _ ne (fun _ z => nomatch z) (by rw [upd_ne ne]; exact h)))
  · have ne : l ≠ p := ne_of_none h np
    exact .inl (.inr ⟨u, g.keep l _ ne (fun _ z => nomatch z) (by rw [upd_ne ne]; exact h)⟩)
  · exact .inr h
section
variable {P : Program} {w : World} {K : PySem.W.Frag} {mg : Str → Option Value} {base : Heap}
def spLaw (K : PySem.W.Frag) (T : Nat → Addr) : Sp := fun vs H Q _ => ∃ (a : Addr) (ns : List Int), vs = [.ref a] ∧ SqL K H a (ns.map V.int) ∧ ns.length ≤ 63 ∧ Tb5 T H ∧ ∀ H', Q (.bl true) H'
theorem sc_law : FnScope ["script", "at", "deck", "page"] ["script"] (defScope s_law) := ⟨rfl, rfl, rfl, by decide +kernel, rfl, by decide +kernel, by decide +kernel⟩
theorem ok_law {T : Nat → Addr} {f : Addr} {fd : FuncData} (F : Fun K "law" "law" s_law f fd) (B : Blt mg) (CD : Cl P w K mg base 1 "_law_deck" ["script", "at"] (spDeck K)) (CP : Cl P w K mg base 3 "_law_page" ["deck", "most"] (spPage K)) (CTh : Cl P w K mg base 3 "_law_through" ["deck", "page"] (spThr K)) (CW : Cl P w K mg base 2 "_law_web" ["deck"] (spLWeb K)) (CR : Cl P w K mg base 40 "_law_right" ["deck", "page"] (spRight K T)) :
    FnOk P w K mg base CX0 41 f fd ["script"] (spLaw K T) := by
  refine F.ok sc_law (fun vs H Q E h => ?_) (fun cdv A outer s H vs Q E hr h => ?_)
  · obtain ⟨a, ns, rfl, _⟩ := h
    rfl
  obtain ⟨l, ns, rfl, hS, h63, tb, q⟩ := h
  refine ⟨_, (pss_cons (ps_for PassesOwn.never rfl (pi_range1 rfl B.rng (pa_cons (pe_callB (call_max2 rfl) rfl B.max PyProof.Rows.boot_max (pa_cons pe_int (pa_cons (pe_callB (call_min2 rfl) rfl B.min PyProof.Rows.boot_min (pa_cons (pe_len (pv 0) B.len) (pa_cons pe_int pa_nil))) pa_nil))) pa_nil)) (pg_name (i := 1) sc_law.nd rfl (Or.inl rfl))
      (pss_cons (ps_set (i := 2) sc_law.nd rfl (.inl rfl) (pe_cl CD (hr.mono (by decide)) (pa_cons (pv 0) (pa_cons (pv 1) pa_nil))))
      (pss_cons (ps_set (i := 3) sc_law.nd rfl (.inl rfl) (pe_cl CP (hr.mono (by decide)) (pa_cons (pv 2) (pa_cons pe_int pa_nil))))
      (pss_cons (ps_if (PW.pt (by exact (pw_or (pt_not (pt_val (pe_cl CR (hr.mono (by decide)) (pa_cons (pv 2) (pa_cons (pv 3) pa_nil))))) (pw_or1 (pt_not (pt_val (pe_cl CR (hr.mono (by decide)) (pa_cons (pv 2) (pa_cons (pe_cl CTh (hr.mono (by decide)) (pa_cons (pv 2) (pa_cons (pv 3) pa_nil))) pa_nil))))))))) pss_no pss_nil)
      (pss_one (ps_if (PW.pt (by exact (pw_and (pt_cmpR op_lt (pv 1) pe_int (nomark _)) (pw_and1 (pt_not (pt_val (pe_cl CR (hr.mono (by decide)) (pa_cons (pv 2) (pa_cons (pe_cl CW (hr.mono (by decide)) (pa_cons (pv 2) pa_nil)) pa_nil))))))))) pss_no pss_nil))))))
    (pss_one (ps_ret pe_bl))), ?_⟩
  refine ⟨_, rfl, l, _, rfl, .inl hS, _, _, rfl, _, _, rfl, _, rfl, ?_, ?_, ?_⟩
  · split <;> (try split) <;> omega
  · split <;> (try split) <;> omega
  refine for_range (lo := 0) (Pv := fun _ σ H' => ∃ a1 a2 a3 : Option V, σ = [some (.ref l), a1, a2, a3] ∧ SqL K H' l (ns.map V.int) ∧ Tb5 T H') ⟨_, _, _, rfl, hS, tb⟩ (fun k σ H' hk hP => ?_) (fun σ H' hP => ?_)
  · obtain ⟨a1, a2, a3, rfl, hSk, tbk⟩ := hP
    have hk' : k < 64 := by
      split at hk <;> (try split at hk) <;> omega
    refine ⟨_, rfl, _, rfl, l, ns, (0 : Int) + k, rfl, hSk, h63, by omega, by omega, fun dk a b ndk hb0 hb1 => ?_⟩
    have dA : DeckAt dk (upd H' dk (.lst [.int a, .int b])) := ⟨a, b, upd_same, hb0, by omega⟩
    have tA : Tb5 T (upd H' dk (.lst [.int a, .int b])) := tbk.gr ((Gr.refl H').new ndk _)
    refine ⟨_, rfl, dk, 6, rfl, dA, by decide, fun v n qs H3 g3 d3 hv ok pg => ?_⟩
    have t3 := tA.grd dA g3
    refine ⟨_, rfl, _, rfl, dk, v, n, qs, rfl, d3, t3, hv, ok, pg, fun H4 g4 d4 => ⟨_, rfl, ?_⟩⟩
    have hv4 := hv.st (g4.st d3)
    have t4 := t3.grd d3 g4
    refine ⟨_, rfl, _, rfl, _, rfl, dk, v, n, qs, rfl, d4, hv4, pg, fun v2 qs2 H5 g5 d5 hv5 ok5 pg5 => ?_⟩
    have t5 := t4.grd d4 g5
    refine ⟨dk, v2, n, qs2, rfl, d5, t5, hv5, ok5, pg5, fun H6 g6 d6 => ⟨_, rfl, ?_⟩⟩
    have t6 := t5.grd d5 g6
    have g36 := ((g3.trans g4).trans g5).trans g6
    refine ⟨_, rfl, _, _, rfl, rfl, _, rfl, ?_⟩
    by_cases c : (0 : Int) + k < 2
    · refine iteP c ?_
      refine ⟨_, rfl, _, rfl, dk, rfl, d6, fun v7 n7 qs7 H7 g7 d7 hv7 ok7 pg7 => ?_⟩
      have t7 := t6.grd d6 g7
      refine ⟨dk, v7, n7, qs7, rfl, d7, t7, hv7, ok7, pg7, fun H8 g8 d8 => ⟨_, rfl, ?_⟩⟩
      exact ⟨_, _, _, rfl, seqL_deck3 ndk ((g36.trans g7).trans g8) hSk, t7.grd d7 g8⟩
    · exact iteN c ⟨_, _, _, rfl, seqL_deck3 ndk g36 hSk, t6⟩
  · obtain ⟨a1, a2, a3, rfl, _, _⟩ := hP
    exact q H'
end
end SB
namespace SB
open PySem PySem.Spec PyProof.Rows L2
/-- the table of the code of the def of this name is empty -/
def TabE (K : PySem.W.Frag) (x : Str) (mg : Str → Option Value) (h : Heap) : Prop := ∀ (fa c Q : Addr) (o : Obj) (fd : FuncData) (e : Value) (dd : Option Addr) (vs : Array Value) (sl : Array (Option Value)),
  mg x = some (.ref fa) → K.lookup fa = some o → o.data = .func fd → fd.code = .ref c → K.lookup c = some ⟨e, dd, .fields vs, sl⟩ → vs[11]? = some (.ref Q) → h.get? Q = some { cls := .none, data := .fields #[] }
theorem lk_mem {β : Type} : ∀ {l : List (Addr × β)} {b : Addr} {o : β}, l.lookup b = some o → (b, o) ∈ l
  | [], _, _, e => by cases e
  | (k, v) :: r, b, o, e => by
    rw [List.lookup_cons] at e
    cases h : (b == k) with
    | true =>
      rw [h] at e
      cases e
      rw [beq_iff_eq.mp h]
      exact List.mem_cons_self
    | false =>
      rw [h] at e
      exact List.mem_cons_of_mem _ (lk_mem e)
theorem lk_has {β : Type} : ∀ {l : List (Addr × β)} {p : Addr × β}, p ∈ l → ∃ o, l.lookup p.1 = some o
  | (k, v) :: r, p, h => by
    rw [List.lookup_cons]
    cases e : (p.1 == k) with
    | true => exact ⟨v, rfl⟩
    | false =>
      rcases List.mem_cons.mp h with h | h
      · rw [h] at e
        simp at e
      · exact lk_has h
/-- K with the few objects besides that tell that nobody looks on -/
theorem seer_ext {K : PySem.W.Frag} {h : Heap} (X : K.In h) (N : h.NoSeer) : ∃ K2 : PySem.W.Frag, K2.In h ∧ (∀ b o, K.lookup b = some o → K2.lookup b = some o) ∧ (∀ h2 : Heap, K2.In h2 → h2.NoSeer) ∧
    ∀ b, h.get? b = some { cls := .none, data := .fields #[] } → K.lookup b = none → K2.lookup b = none := by
  obtain ⟨⟨mc, ⟨o1, es1, ep1, g1, d1, r1⟩, c1, c2⟩, ⟨mm, ⟨o2, es2, ep2, g2, d2, r2⟩, m1⟩, ⟨mb, ⟨o3, es3, ep3, g3, d3, r3⟩, b0⟩, ⟨mg, bm, ob, ⟨o4, es4, ep4, g4, d4, r4⟩, q1, g5, q3, q4⟩⟩ := N
  let ex : List (Addr × Obj) := [(cStatics, o1), (sysModules, o2), (builtinsNs, o3), (mainGlobals, o4), (bm, ob)]
  have hex : ∀ p, p ∈ ex → h.get? p.1 = some p.2 := fun p hp => by
    simp only [ex, List.mem_cons, List.not_mem_nil, or_false] at hp
    rcases hp with rfl | rfl | rfl | rfl | rfl <;> assumption
  have mem_of : ∀ {l : List (Addr × Obj)} {b : Addr} {o : Obj}, l.lookup b = some o → (b, o) ∈ l := fun {l b o} e => lk_mem e
  have In2 : (K ++ ex).In h := fun b o e => by
    rw [List.lookup_append] at e
    cases hk : K.lookup b with
    | some o' =>
      rw [hk] at e
      cases e
      exact X _ _ hk
    | none =>
      rw [hk] at e
      exact hex _ (mem_of e)
  have has : ∀ p, p ∈ ex → (K ++ ex).lookup p.1 = some p.2 := fun p hp => by
    have hm : ∀ {l : List (Addr × Obj)} {p : Addr × Obj}, p ∈ l → ∃ o, l.lookup p.1 = some o := fun {l p} h => lk_has h
    obtain ⟨o, ho⟩ := hm (List.mem_append_right K hp)
    have e1 := In2 _ _ ho
    rw [hex p hp] at e1
    rw [ho, ← e1]
  refine ⟨K ++ ex, In2, fun b o e => by rw [List.lookup_append, e]; rfl, fun h2 X2 => ?_, fun b hb hk => ?_⟩
  · have a1 := X2 _ _ (has (cStatics, o1) (by simp [ex]))
    have a2 := X2 _ _ (has (sysModules, o2) (by simp [ex]))
    have a3 := X2 _ _ (has (builtinsNs, o3) (by simp [ex]))
    have a4 := X2 _ _ (has (mainGlobals, o4) (by simp [ex]))
    have a5 := X2 _ _ (has (bm, ob) (by simp [ex]))
    exact ⟨⟨mc, ⟨o1, es1, ep1, a1, d1, r1⟩, c1, c2⟩, ⟨mm, ⟨o2, es2, ep2, a2, d2, r2⟩, m1⟩, ⟨mb, ⟨o3, es3, ep3, a3, d3, r3⟩, b0⟩, ⟨mg, bm, ob, ⟨o4, es4, ep4, a4, d4, r4⟩, q1, a5, q3, q4⟩⟩
  · rw [List.lookup_append, hk]
    cases e : ex.lookup b with
    | none => rfl
    | some o =>
      have hm := mem_of e
      have ho := hex _ hm
      have ho : h.get? b = some o := ho
      rw [hb] at ho
      have eo : o = { cls := .none, data := .fields #[] } := (Option.some.inj ho).symm
      simp only [ex, List.mem_cons, List.not_mem_nil, or_false, Prod.mk.injEq] at hm
      rcases hm with ⟨_, z⟩ | ⟨_, z⟩ | ⟨_, z⟩ | ⟨_, z⟩ | ⟨_, z⟩
      · rw [← z, eo] at d1; cases d1
      · rw [← z, eo] at d2; cases d2
      · rw [← z, eo] at d3; cases d3
      · rw [← z, eo] at d4; cases d4
      · rw [← z, eo] at q3; cases q3
theorem walk_names {l : PySem.W.OpenLaw} {n k : Nat} {q : Program} {loose : List Str} {XP : (Str → Option Value) → Heap → Prop} {YP : World → Heap → Prop} {d : DefRec} {K : Params → PySem.W.Frag} {CX : World → CXT} {x : Str} (names : List Str)
    (hn : l.most = some n) (hn2 : n ≤ sizeLine) (hdf : d.params.defaults = []) (hr : Room k callerA) (hrec : (names.all fun y => (recsOf q).any fun e => e.name == y) = true) (hi : importsNone q = true) (hY : ∀ (w : World) (h : Heap), YP w h → (K w.params).In h)
    (F : ∀ (w : World) (mg : Str → Option Value) (fa : Addr) (h : Heap) (K2 : PySem.W.Frag), (K w.params).In h → h.Ns mainGlobals mg → mg d.name = some (.ref fa) → (∀ y, names.contains y = true → TabE (K w.params) y mg h) → K2.In h → (∀ b o, (K w.params).lookup b = some o → K2.lookup b = some o) → (∀ h2 : Heap, K2.In h2 → h2.NoSeer) →
      (∀ b, h.get? b = some { cls := .none, data := .fields #[] } → (K w.params).lookup b = none → K2.lookup b = none) → LamX.LawAtS l w K2 (CX w) k n x mg fa h)
    (hCX : ∀ (w : World) (H : Hp) (s : Shared) (e : Value) (s' : Shared), CX w [] H s (fun _ _ _ => False) e s' → False) :
    PySem.W.WalkO q loose XP YP l.row.toRowW d [] (fun f vs => PySem.call f vs) := by
  refine Att.attach_callB hn hdf fun w s₀ s₁ mg mb fa o pm cd doc a vs ns G Y ho hd hcd hmg hobj hints hlen hbits hg => ?_
  have KX := hY w _ Y
  have own : ∀ y, names.contains y = true → TabE (K w.params) y mg s₁.heap := fun y hy fa2 c Q o1 fd1 e dd vs1 sl k0 k1 k2 k3 k4 k5 => by
    have hy2 := List.all_eq_true.mp hrec y (by simpa using hy)
    obtain ⟨dL, hm, hn1⟩ := List.any_eq_true.mp hy2
    have e2 : dL.name = y := beq_iff_eq.mp hn1
    obtain ⟨a', o', fd', c', P', h1, h2, h3, h4, h5, h6⟩ := G.T.tab dL hm
    rw [e2, k0] at h1
    cases h1
    have g1 := KX _ _ k1
    rw [g1] at h2
    cases h2
    rw [k2] at h3
    cases h3
    rw [k3] at h4
    cases h4
    obtain ⟨⟨oc, vc, e1, _, e3, e4⟩, hP⟩ := h6
    have g2 := KX _ _ k4
    rw [g2] at e1
    cases e1
    cases e3
    rw [k5] at e4
    cases e4
    exact hP
  obtain ⟨K2, X2, ext, seer, nT2⟩ := seer_ext KX (PyProof.Rows.Top.seer G.T hi)
  obtain ⟨fd, cs, sp, hT, nT, C, hb, hsp, hF⟩ := F w mg fa _ K2 KX G.T.g hmg own X2 ext seer nT2
  exact LamX.law_callTs X2 G.T.g G.T.b G.T.builtins G.T.nolimit hg hT nT C G.T.bmain hobj hints (Nat.le_trans hlen hn2) hr hF hb (fun H hH hS => hsp H a ns hlen hbits hH hS) fun H e s' => hCX w H s₁ e s'
theorem tabB {base : Heap} {mg : Str → Option Value} {c Q : Addr} (b : LamX.TabB base mg c Q) : GxR.TabB base mg c Q := ⟨b.code, b.bm, b.gP⟩
section
variable {K : PySem.W.Frag} {mg : Str → Option Value} {h : Heap} {x : Str} {st : Stmt}
theorem df_mk {f : Addr} {od an : Option Addr} {sl : Array (Option Value)} {oc kV dc pm cd ct : Value} (X : K.In h) (G : h.Ns mainGlobals mg) (a : PySem.W.nsIn K mainGlobals x = some (some (.ref f)))
    (l : K.lookup f = some ⟨oc, od, .func (PySem.W.fnOf x x (defArgs st) (defBody st) (defScope st) .none kV dc pm an cd ct), sl⟩) (c : PySem.W.codeIn K cd x = true) (k : PySem.W.keepIn K (.ref f) = true) : Df K mg x st :=
  ⟨⟨f, _, fun_mk l c k, PySem.W.mg_of X G a⟩⟩
/-- a def whose code object's table is empty yet -/
structure DtE (K : PySem.W.Frag) (mg : Str → Option Value) (h : Heap) (x : Str) (st : Stmt) : Prop where
  ex : ∃ c Q : Addr, DfT K mg x st c ∧ K.lookup Q = none ∧ PySem.W.CodeHd h c Q ∧ h.get? Q = some { cls := .none, data := .fields #[] }
theorem dt_mk {f c Q : Addr} {od an dd : Option Addr} {sl sl2 : Array (Option Value)} {oc kV dc pm ct e : Value} {vs : Array Value} (X : K.In h) (G : h.Ns mainGlobals mg) (T : TabE K x mg h) (a : PySem.W.nsIn K mainGlobals x = some (some (.ref f)))
    (l : K.lookup f = some ⟨oc, od, .func (PySem.W.fnOf x x (defArgs st) (defBody st) (defScope st) .none kV dc pm an (.ref c) ct), sl⟩) (c1 : PySem.W.codeIn K (.ref c) x = true) (k : PySem.W.keepIn K (.ref f) = true)
    (tl : K.lookup c = some ⟨e, dd, .fields vs, sl2⟩) (tv : vs[11]? = some (.ref Q)) (ch : PySem.W.codeHdIn K c Q = true) (tn : K.lookup Q = none) : DtE K mg h x st :=
  ⟨⟨c, Q, ⟨⟨f, _, ⟨⟨oc, od, kV, dc, pm, an, ct, sl, rfl, l, c1⟩, k⟩, PySem.W.mg_of X G a⟩⟩, tn, PySem.W.codeHd_of_K X ch, T f c Q _ _ e dd vs sl2 (PySem.W.mg_of X G a) l rfl rfl tl tv⟩⟩
/-- from K to what holds more -/
structure Ext (K K2 : PySem.W.Frag) (h : Heap) : Prop where
  up : ∀ b o, K.lookup b = some o → K2.lookup b = some o
  no : ∀ b, h.get? b = some { cls := .none, data := .fields #[] } → K.lookup b = none → K2.lookup b = none
theorem Ext.code {K2 : PySem.W.Frag} (e : Ext K K2 h) {cd : Value} {q : Str} (c : PySem.W.codeIn K cd q = true) : PySem.W.codeIn K2 cd q = true := by
  unfold PySem.W.codeIn at c ⊢
  split at c
  · rename_i a
    cases ho : K.lookup a with
    | none =>
      rw [ho] at c
      cases c
    | some o =>
      rw [ho] at c
      simp only [e.up _ _ ho]
      exact c
  · cases c
theorem keep_fn {K2 : PySem.W.Frag} {f : Addr} {oc : Value} {od : Option Addr} {fd : FuncData} {sl : Array (Option Value)} (l : K2.lookup f = some ⟨oc, od, .func fd, sl⟩) : PySem.W.keepIn K2 (.ref f) = true := by
  unfold PySem.W.keepIn
  simp only [l]
theorem Df.ext {K2 : PySem.W.Frag} (e : Ext K K2 h) (D : Df K mg x st) : Df K2 mg x st := by
  obtain ⟨f, fd, F, m⟩ := D.ex
  obtain ⟨oc, od, kV, doc, pm, an, cdv, ct, osl, rfl, lk, hcd⟩ := F.ex
  exact ⟨f, _, ⟨⟨oc, od, kV, doc, pm, an, cdv, ct, osl, rfl, e.up _ _ lk, e.code hcd⟩, keep_fn (e.up _ _ lk)⟩, m⟩
theorem DtE.ext {K2 : PySem.W.Frag} (e : Ext K K2 h) (D : DtE K mg h x st) : DtE K2 mg h x st := by
  obtain ⟨c, Q, ⟨f, fd, F, m⟩, n, ch, emp⟩ := D.ex
  obtain ⟨oc, od, kV, doc, pm, an, ct, osl, rfl, lk, hcd⟩ := F.ex
  exact ⟨c, Q, ⟨f, _, ⟨⟨oc, od, kV, doc, pm, an, ct, osl, rfl, e.up _ _ lk, e.code hcd⟩, keep_fn (e.up _ _ lk)⟩, m⟩, e.no _ emp n, ch, emp⟩
end
end SB
namespace SB
open PySem PySem.Spec PyProof.Rows L2
theorem law_at {l : PySem.W.OpenLaw} {w : World} {K : PySem.W.Frag} {mg : Str → Option Value} {h : Heap} {fa : Addr} (hmg : mg "law" = some (.ref fa)) (NS : NSK l.prog K) (B : Blt mg) (bsum : mg "sum" = none)
    (D_is_whole : Df K mg "is_whole" s_is_whole)
    (D_is_number : Df K mg "is_number" s_is_number)
    (D_are_numbers : Df K mg "are_numbers" s_are_numbers)
    (D_is_point : Df K mg "is_point" s_is_point)
    (D_are_wholes : Df K mg "are_wholes" s_are_wholes)
    (D_are_sides : Df K mg "are_sides" s_are_sides)
    (D_is_question : Df K mg "is_question" s_is_question)
    (D_is_question_of : Df K mg "is_question_of" s_is_question_of)
    (D_is_index : Df K mg "is_index" s_is_index)
    (D_check_point : Df K mg "check_point" s_check_point)
    (D_check_index : Df K mg "check_index" s_check_index)
    (D_sign : Df K mg "sign" s_sign)
    (D_answer_at : Df K mg "answer_at" s_answer_at)
    (D__sum_at : Df K mg "_sum_at" s__sum_at)
    (D_common_of : Df K mg "common_of" s_common_of)
    (D_begins_at : Df K mg "begins_at" s_begins_at)
    (D_normal_form : Df K mg "normal_form" s_normal_form)
    (D_rank_of : Df K mg "rank_of" s_rank_of)
    (D_kept_of : Df K mg "kept_of" s_kept_of)
    (D_rest_of : Df K mg "rest_of" s_rest_of)
    (D__taken_out : Df K mg "_taken_out" s__taken_out)
    (D_is_book : Df K mg "is_book" s_is_book)
    (D_check_book : Df K mg "check_book" s_check_book)
    (D_without : Df K mg "without" s_without)
    (D_turned : Df K mg "turned" s_turned)
    (D_at_once : Df K mg "at_once" s_at_once)
    (D_rank : Df K mg "rank" s_rank)
    (D__is_many : Df K mg "_is_many" s__is_many)
    (D_all_sides : Df K mg "all_sides" s_all_sides)
    (D_sides_with_walls : Df K mg "sides_with_walls" s_sides_with_walls)
    (D__turned_question : Df K mg "_turned_question" s__turned_question)
    (D_nought_form : Df K mg "nought_form" s_nought_form)
    (D_row_of : Df K mg "row_of" s_row_of)
    (D__row_at : Df K mg "_row_at" s__row_at)
    (D__law_deck : Df K mg "_law_deck" s__law_deck)
    (D__law_take : Df K mg "_law_take" s__law_take)
    (D__law_gcd : Df K mg "_law_gcd" s__law_gcd)
    (D__law_pair : Df K mg "_law_pair" s__law_pair)
    (D__law_plus : Df K mg "_law_plus" s__law_plus)
    (D__law_times : Df K mg "_law_times" s__law_times)
    (D__law_same : Df K mg "_law_same" s__law_same)
    (D__law_ground : Df K mg "_law_ground" s__law_ground)
    (D__law_line : Df K mg "_law_line" s__law_line)
    (D__law_page : Df K mg "_law_page" s__law_page)
    (D__law_through : Df K mg "_law_through" s__law_through)
    (D__law_web : Df K mg "_law_web" s__law_web)
    (D__law_least : Df K mg "_law_least" s__law_least)
    (D__law_picks : Df K mg "_law_picks" s__law_picks)
    (D__law_rank : Df K mg "_law_rank" s__law_rank)
    (D__law_meeting : Df K mg "_law_meeting" s__law_meeting)
    (D__law_less_row : Df K mg "_law_less_row" s__law_less_row)
    (D__law_right : Df K mg "_law_right" s__law_right)
    (D_law : Df K mg "law" s_law) :
    LamX.LawAtS l w K CX0 41 63 "script" mg fa h := by
  obtain ⟨f, fd, F, m⟩ := D_law.ex
  rw [m] at hmg
  cases hmg
  have nl : ∀ p : Addr × Addr, ¬ p ∈ ([] : List (Addr × Addr)) := fun p h => nomatch h
  refine ⟨fd, [], spLaw K (fun i => [0].getD i 0), (fun p h => absurd h (nl p)), (fun p h => absurd h (nl p)), (fun p h => absurd h (nl p)), fun s u => ?_, fun H a ns hl _ hH hS => ?_, fun base _ _ tb => ?_⟩
  · obtain ⟨oc, od, kV, doc, pm, an, cdv, ct, osl, rfl, lk, hcd⟩ := F.ex
    exact .of_eq rfl
  · refine ⟨a, ns, rfl, hS, hl, ⟨fun i hi => ?_⟩, fun _ => rfl⟩
    exact absurd (show i < 0 from hi) (Nat.not_lt_zero _)
  have Cwhole := cl_whole (P := l.prog) (w := w) (base := base) D_is_whole B
  have Cnumber := cl_number D_is_number B Cwhole
  have Cnumbers := cl_numbers D_are_numbers Cnumber
  have Cpoint := cl_point D_is_point B Cnumbers
  have Cwholes := cl_wholes D_are_wholes Cwhole
  have Csides := cl_sides D_are_sides B Cwholes
  have Cquest := cl_quest D_is_question B Cwhole Csides
  have CquestOf := cl_questOf D_is_question_of B Cquest
  have Cindex := cl_index D_is_index Cwhole
  have CchkPt := cl_chkPt D_check_point B Cpoint
  have CchkIx := cl_chkIx D_check_index Cindex
  have Csign := cl_sign (P := l.prog) (w := w) (base := base) D_sign
  have CsumAt := cl_sumAt (P := l.prog) (w := w) (base := base) D__sum_at B
  have Ccommon := cl_common (P := l.prog) (w := w) (base := base) D_common_of B
  have Cbegins := cl_begins (P := l.prog) (w := w) (base := base) D_begins_at
  have Cmany := cl_many D__is_many Cwhole
  have CturnQ := cl_turnQ (P := l.prog) (w := w) (base := base) D__turned_question B
  have Cnorm := cl_norm D_normal_form B NS Ccommon Cbegins
  have Cnought := cl_nought D_nought_form Cnorm
  have Cbook := cl_book D_is_book B Cmany CquestOf Cnought
  have CchkBk := cl_chkBk (T := fun i => [0].getD i 0) D_check_book Cbook
  have CansAt := cl_ansAt D_answer_at Csign CsumAt
  have CrowAt := cl_rowAt D__row_at B CansAt
  have CrowOf := cl_rowOf D_row_of CchkBk CchkPt CrowAt
  have Cturned := cl_turned D_turned B CchkBk CchkIx CturnQ
  have Cwithout := cl_without D_without B CchkBk CchkIx
  have Cdeck := cl_deck (P := l.prog) (w := w) (base := base) D__law_deck B
  have Ctake := cl_take (P := l.prog) (w := w) (base := base) D__law_take B
  have Csame := cl_same (P := l.prog) (w := w) (base := base) D__law_same B 4
  have Cgcd := cl_gcd (P := l.prog) (w := w) (base := base) D__law_gcd B
  have Cpair := cl_pair D__law_pair B NS Cgcd
  have Clplus := cl_lplus D__law_plus Cpair
  have Cltimes := cl_ltimes D__law_times Cpair
  have Cground := cl_ground D__law_ground B Cgcd
  have Cline := cl_line D__law_line B Ctake
  have Cpage := cl_page D__law_page B Ctake Cline Cground
  have CcommonL := cl_commonL (P := l.prog) (w := w) (base := base) D_common_of B
  have CbeginsE := cl_beginsE (P := l.prog) (w := w) (base := base) D_begins_at
  have Ctaken := cl_taken D__taken_out B NS CcommonL
  have Crest := cl_rest D_rest_of CbeginsE Ctaken
  have Ckept := cl_kept D_kept_of B Crest
  have CrankOf := cl_rankOf D_rank_of B Ckept
  have CallS := cl_allS (P := l.prog) (w := w) (base := base) D_all_sides
  have Csww := cl_sww (P := l.prog) (w := w) (base := base) D_sides_with_walls
  have Crank := cl_rank D_rank CchkBk CallS CrankOf
  have CatOnce := cl_atOnce D_at_once CchkBk CallS Csww CrankOf
  have Krank := clK1 Crank D_rank fun _ _ _ _ _ _ _ => rfl
  have KatOnce := clK1 CatOnce D_at_once fun _ _ _ _ _ _ _ => rfl
  have Clthr := cl_lthr D__law_through B bsum Ctake Cground
  have Cleast := cl_leastA (P := l.prog) (w := w) (base := base) D__law_least B
  have Clpk := cl_lpk (P := l.prog) (w := w) (base := base) D__law_picks B
  have Clrk := cl_lrk D__law_rank B Clpk Cleast
  have Clless := cl_less D__law_less_row B Clplus Cltimes Cpair
  have Cmeet := cl_meet D__law_meeting B Clplus Cltimes Cpair Clless
  have Clweb := cl_lweb D__law_web B Ctake
  have Cright := cl_right D__law_right B Ctake Clrk Csame Crank Krank CatOnce KatOnce CrowOf Cmeet Cwithout Cturned
  exact ok_law F B Cdeck Cpage Clthr Clweb Cright
end SB
open PySem PySem.W PyProof.Rows
set_option maxRecDepth 100000 in
set_option maxHeartbeats 0 in
theorem PySem.Challenge.cw_sidebooks_k03_whole_rank_and_at_once_holds : PySem.Challenge.rw_sidebooks_k03_whole_rank_and_at_once.Holds := by
  w_on; o_law; k_head; (case hw => w_witness2)
  k_fill
  refine SB.walk_names (l := PySem.Challenge.rw_sidebooks_k03_whole_rank_and_at_once) (n := 63) (k := 41) (x := "script") (CX := fun _ => L2.CX0) [] rfl (by decide) rfl ⟨rfl, by decide, by decide⟩ ?R ?I (fun w h Y => PySem.W.kIn_of Y) ?F (fun _ _ _ _ _ z => z)
  case R => decide +kernel
  case I => decide +kernel
  case F =>
    intro w mg fa h K2 KX G hmg hT X2 up seer no
    refine' SB.law_at (K := K2) hmg ⟨seer, rfl⟩ ?B ?xsum   (SB.Df.ext ⟨up, no⟩ ?D_is_whole) (SB.Df.ext ⟨up, no⟩ ?D_is_number) (SB.Df.ext ⟨up, no⟩ ?D_are_numbers) (SB.Df.ext ⟨up, no⟩ ?D_is_point) (SB.Df.ext ⟨up, no⟩ ?D_are_wholes) (SB.Df.ext ⟨up, no⟩ ?D_are_sides) (SB.Df.ext ⟨up, no⟩ ?D_is_question) (SB.Df.ext ⟨up, no⟩ ?D_is_question_of) (SB.Df.ext ⟨up, no⟩ ?D_is_index) (SB.Df.ext ⟨up, no⟩ ?D_check_point) (SB.Df.ext ⟨up, no⟩ ?D_check_index) (SB.Df.ext ⟨up, no⟩ ?D_sign) (SB.Df.ext ⟨up, no⟩ ?D_answer_at) (SB.Df.ext ⟨up, no⟩ ?D__sum_at) (SB.Df.ext ⟨up, no⟩ ?D_common_of) (SB.Df.ext ⟨up, no⟩ ?D_begins_at) (SB.Df.ext ⟨up, no⟩ ?D_normal_form) (SB.Df.ext ⟨up, no⟩ ?D_rank_of) (SB.Df.ext ⟨up, no⟩ ?D_kept_of) (SB.Df.ext ⟨up, no⟩ ?D_rest_of) (SB.Df.ext ⟨up, no⟩ ?D__taken_out) (SB.Df.ext ⟨up, no⟩ ?D_is_book) (SB.Df.ext ⟨up, no⟩ ?D_check_book) (SB.Df.ext ⟨up, no⟩ ?D_without) (SB.Df.ext ⟨up, no⟩ ?D_turned) (SB.Df.ext ⟨up, no⟩ ?D_at_once) (SB.Df.ext ⟨up, no⟩ ?D_rank) (SB.Df.ext ⟨up, no⟩ ?D__is_many) (SB.Df.ext ⟨up, no⟩ ?D_all_sides) (SB.Df.ext ⟨up, no⟩ ?D_sides_with_walls) (SB.Df.ext ⟨up, no⟩ ?D__turned_question) (SB.Df.ext ⟨up, no⟩ ?D_nought_form) (SB.Df.ext ⟨up, no⟩ ?D_row_of) (SB.Df.ext ⟨up, no⟩ ?D__row_at) (SB.Df.ext ⟨up, no⟩ ?D__law_deck) (SB.Df.ext ⟨up, no⟩ ?D__law_take) (SB.Df.ext ⟨up, no⟩ ?D__law_gcd) (SB.Df.ext ⟨up, no⟩ ?D__law_pair) (SB.Df.ext ⟨up, no⟩ ?D__law_plus) (SB.Df.ext ⟨up, no⟩ ?D__law_times) (SB.Df.ext ⟨up, no⟩ ?D__law_same) (SB.Df.ext ⟨up, no⟩ ?D__law_ground) (SB.Df.ext ⟨up, no⟩ ?D__law_line) (SB.Df.ext ⟨up, no⟩ ?D__law_page) (SB.Df.ext ⟨up, no⟩ ?D__law_through) (SB.Df.ext ⟨up, no⟩ ?D__law_web) (SB.Df.ext ⟨up, no⟩ ?D__law_least) (SB.Df.ext ⟨up, no⟩ ?D__law_picks) (SB.Df.ext ⟨up, no⟩ ?D__law_rank) (SB.Df.ext ⟨up, no⟩ ?D__law_meeting) (SB.Df.ext ⟨up, no⟩ ?D__law_less_row) (SB.Df.ext ⟨up, no⟩ ?D__law_right) (SB.Df.ext ⟨up, no⟩ ?D_law)
    case D_is_whole =>
      refine' SB.df_mk KX G ?a ?l ?c ?k
      (case a => k_is)
      (case l => k_is)
      (case c => k_is)
      (case k => k_is)
    case D_is_number =>
      refine' SB.df_mk KX G ?a ?l ?c ?k
      (case a => k_is)
      (case l => k_is)
      (case c => k_is)
      (case k => k_is)
    case D_are_numbers =>
      refine' SB.df_mk KX G ?a ?l ?c ?k
      (case a => k_is)
      (case l => k_is)
      (case c => k_is)
      (case k => k_is)
    case D_is_point =>
      refine' SB.df_mk KX G ?a ?l ?c ?k
      (case a => k_is)
      (case l => k_is)
      (case c => k_is)
      (case k => k_is)
    case D_are_wholes =>
      refine' SB.df_mk KX G ?a ?l ?c ?k
      (case a => k_is)
      (case l => k_is)
      (case c => k_is)
      (case k => k_is)
    case D_are_sides =>
      refine' SB.df_mk KX G ?a ?l ?c ?k
      (case a => k_is)
      (case l => k_is)
      (case c => k_is)
      (case k => k_is)
    case D_is_question =>
      refine' SB.df_mk KX G ?a ?l ?c ?k
      (case a => k_is)
      (case l => k_is)
      (case c => k_is)
      (case k => k_is)
    case D_is_question_of =>
      refine' SB.df_mk KX G ?a ?l ?c ?k
      (case a => k_is)
      (case l => k_is)
      (case c => k_is)
      (case k => k_is)
    case D_is_index =>
      refine' SB.df_mk KX G ?a ?l ?c ?k
      (case a => k_is)
      (case l => k_is)
      (case c => k_is)
      (case k => k_is)
    case D_check_point =>
      refine' SB.df_mk KX G ?a ?l ?c ?k
      (case a => k_is)
      (case l => k_is)
      (case c => k_is)
      (case k => k_is)
    case D_check_index =>
      refine' SB.df_mk KX G ?a ?l ?c ?k
      (case a => k_is)
      (case l => k_is)
      (case c => k_is)
      (case k => k_is)
    case D_sign =>
      refine' SB.df_mk KX G ?a ?l ?c ?k
      (case a => k_is)
      (case l => k_is)
      (case c => k_is)
      (case k => k_is)
    case D_answer_at =>
      refine' SB.df_mk KX G ?a ?l ?c ?k
      (case a => k_is)
      (case l => k_is)
      (case c => k_is)
      (case k => k_is)
    case D__sum_at =>
      refine' SB.df_mk KX G ?a ?l ?c ?k
      (case a => k_is)
      (case l => k_is)
      (case c => k_is)
      (case k => k_is)
    case D_common_of =>
      refine' SB.df_mk KX G ?a ?l ?c ?k
      (case a => k_is)
      (case l => k_is)
      (case c => k_is)
      (case k => k_is)
    case D_begins_at =>
      refine' SB.df_mk KX G ?a ?l ?c ?k
      (case a => k_is)
      (case l => k_is)
      (case c => k_is)
      (case k => k_is)
    case D_normal_form =>
      refine' SB.df_mk KX G ?a ?l ?c ?k
      (case a => k_is)
      (case l => k_is)
      (case c => k_is)
      (case k => k_is)
    case D_rank_of =>
      refine' SB.df_mk KX G ?a ?l ?c ?k
      (case a => k_is)
      (case l => k_is)
      (case c => k_is)
      (case k => k_is)
    case D_kept_of =>
      refine' SB.df_mk KX G ?a ?l ?c ?k
      (case a => k_is)
      (case l => k_is)
      (case c => k_is)
      (case k => k_is)
    case D_rest_of =>
      refine' SB.df_mk KX G ?a ?l ?c ?k
      (case a => k_is)
      (case l => k_is)
      (case c => k_is)
      (case k => k_is)
    case D__taken_out =>
      refine' SB.df_mk KX G ?a ?l ?c ?k
      (case a => k_is)
      (case l => k_is)
      (case c => k_is)
      (case k => k_is)
    case D_is_book =>
      refine' SB.df_mk KX G ?a ?l ?c ?k
      (case a => k_is)
      (case l => k_is)
      (case c => k_is)
      (case k => k_is)
    case D_check_book =>
      refine' SB.df_mk KX G ?a ?l ?c ?k
      (case a => k_is)
      (case l => k_is)
      (case c => k_is)
      (case k => k_is)
    case D_without =>
      refine' SB.df_mk KX G ?a ?l ?c ?k
      (case a => k_is)
      (case l => k_is)
      (case c => k_is)
      (case k => k_is)
    case D_turned =>
      refine' SB.df_mk KX G ?a ?l ?c ?k
      (case a => k_is)
      (case l => k_is)
      (case c => k_is)
      (case k => k_is)
    case D_at_once =>
      refine' SB.df_mk KX G ?a ?l ?c ?k
      (case a => k_is)
      (case l => k_is)
      (case c => k_is)
      (case k => k_is)
    case D_rank =>
      refine' SB.df_mk KX G ?a ?l ?c ?k
      (case a => k_is)
      (case l => k_is)
      (case c => k_is)
      (case k => k_is)
    case D__is_many =>
      refine' SB.df_mk KX G ?a ?l ?c ?k
      (case a => k_is)
      (case l => k_is)
      (case c => k_is)
      (case k => k_is)
    case D_all_sides =>
      refine' SB.df_mk KX G ?a ?l ?c ?k
      (case a => k_is)
      (case l => k_is)
      (case c => k_is)
      (case k => k_is)
    case D_sides_with_walls =>
      refine' SB.df_mk KX G ?a ?l ?c ?k
      (case a => k_is)
      (case l => k_is)
      (case c => k_is)
      (case k => k_is)
    case D__turned_question =>
      refine' SB.df_mk KX G ?a ?l ?c ?k
      (case a => k_is)
      (case l => k_is)
      (case c => k_is)
      (case k => k_is)
    case D_nought_form =>
      refine' SB.df_mk KX G ?a ?l ?c ?k
      (case a => k_is)
      (case l => k_is)
      (case c => k_is)
      (case k => k_is)
    case D_row_of =>
      refine' SB.df_mk KX G ?a ?l ?c ?k
      (case a => k_is)
      (case l => k_is)
      (case c => k_is)
      (case k => k_is)
    case D__row_at =>
      refine' SB.df_mk KX G ?a ?l ?c ?k
      (case a => k_is)
      (case l => k_is)
      (case c => k_is)
      (case k => k_is)
    case D__law_deck =>
      refine' SB.df_mk KX G ?a ?l ?c ?k
      (case a => k_is)
      (case l => k_is)
      (case c => k_is)
      (case k => k_is)
    case D__law_take =>
      refine' SB.df_mk KX G ?a ?l ?c ?k
      (case a => k_is)
      (case l => k_is)
      (case c => k_is)
      (case k => k_is)
    case D__law_gcd =>
      refine' SB.df_mk KX G ?a ?l ?c ?k
      (case a => k_is)
      (case l => k_is)
      (case c => k_is)
      (case k => k_is)
    case D__law_pair =>
      refine' SB.df_mk KX G ?a ?l ?c ?k
      (case a => k_is)
      (case l => k_is)
      (case c => k_is)
      (case k => k_is)
    case D__law_plus =>
      refine' SB.df_mk KX G ?a ?l ?c ?k
      (case a => k_is)
      (case l => k_is)
      (case c => k_is)
      (case k => k_is)
    case D__law_times =>
      refine' SB.df_mk KX G ?a ?l ?c ?k
      (case a => k_is)
      (case l => k_is)
      (case c => k_is)
      (case k => k_is)
    case D__law_same =>
      refine' SB.df_mk KX G ?a ?l ?c ?k
      (case a => k_is)
      (case l => k_is)
      (case c => k_is)
      (case k => k_is)
    case D__law_ground =>
      refine' SB.df_mk KX G ?a ?l ?c ?k
      (case a => k_is)
      (case l => k_is)
      (case c => k_is)
      (case k => k_is)
    case D__law_line =>
      refine' SB.df_mk KX G ?a ?l ?c ?k
      (case a => k_is)
      (case l => k_is)
      (case c => k_is)
      (case k => k_is)
    case D__law_page =>
      refine' SB.df_mk KX G ?a ?l ?c ?k
      (case a => k_is)
      (case l => k_is)
      (case c => k_is)
      (case k => k_is)
    case D__law_through =>
      refine' SB.df_mk KX G ?a ?l ?c ?k
      (case a => k_is)
      (case l => k_is)
      (case c => k_is)
      (case k => k_is)
    case D__law_web =>
      refine' SB.df_mk KX G ?a ?l ?c ?k
      (case a => k_is)
      (case l => k_is)
      (case c => k_is)
      (case k => k_is)
    case D__law_least =>
      refine' SB.df_mk KX G ?a ?l ?c ?k
      (case a => k_is)
      (case l => k_is)
      (case c => k_is)
      (case k => k_is)
    case D__law_picks =>
      refine' SB.df_mk KX G ?a ?l ?c ?k
      (case a => k_is)
      (case l => k_is)
      (case c => k_is)
      (case k => k_is)
    case D__law_rank =>
      refine' SB.df_mk KX G ?a ?l ?c ?k
      (case a => k_is)
      (case l => k_is)
      (case c => k_is)
      (case k => k_is)
    case D__law_meeting =>
      refine' SB.df_mk KX G ?a ?l ?c ?k
      (case a => k_is)
      (case l => k_is)
      (case c => k_is)
      (case k => k_is)
    case D__law_less_row =>
      refine' SB.df_mk KX G ?a ?l ?c ?k
      (case a => k_is)
      (case l => k_is)
      (case c => k_is)
      (case k => k_is)
    case D__law_right =>
      refine' SB.df_mk KX G ?a ?l ?c ?k
      (case a => k_is)
      (case l => k_is)
      (case c => k_is)
      (case k => k_is)
    case D_law =>
      refine' SB.df_mk KX G ?a ?l ?c ?k
      (case a => k_is)
      (case l => k_is)
      (case c => k_is)
      (case k => k_is)
    case B =>
      refine' ⟨PySem.W.mg_none_of KX G ?z_len, PySem.W.mg_none_of KX G ?z_int, PySem.W.mg_none_of KX G ?z_isinstance, PySem.W.mg_none_of KX G ?z_tuple, PySem.W.mg_none_of KX G ?z_list, PySem.W.mg_none_of KX G ?z_str, PySem.W.mg_none_of KX G ?z_bool, PySem.W.mg_none_of KX G ?z_range, PySem.W.mg_none_of KX G ?z_abs, PySem.W.mg_none_of KX G ?z_max, PySem.W.mg_none_of KX G ?z_min, PySem.W.mg_none_of KX G ?z_any, PySem.W.mg_none_of KX G ?z_all, PySem.W.mg_none_of KX G ?z_zip, PySem.W.mg_of KX G ?z_gcd⟩
      (case z_len => k_is)
      (case z_int => k_is)
      (case z_isinstance => k_is)
      (case z_tuple => k_is)
      (case z_list => k_is)
      (case z_str => k_is)
      (case z_bool => k_is)
      (case z_range => k_is)
      (case z_abs => k_is)
      (case z_max => k_is)
      (case z_min => k_is)
      (case z_any => k_is)
      (case z_all => k_is)
      (case z_zip => k_is)
      (case z_gcd => k_is)
    case xsum => exact PySem.W.mg_none_of KX G (by k_is)
