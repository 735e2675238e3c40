import PyProof.Rows.All
import Wide.All
import OpenK.AllK
import Wide.FinOn
import PySem.Challenge.RW_sidebooks_k43_whole_sayings_at_points
import HandS.ForExc
import HandS.ForMost
import HandS.Wide
import HandS.IsInst
import HandS.Flow
import HandS.Call
import PyProof.NoPylong
import PyProof.Rows.RuleB_floordiv
import HandS.TupSets
import HandS.SetBool
import KE.KeyNested
import HandS.Comp
import HandS.AnyAll
import HandS.GenOver
import PyProof.GenRules
import PyProof.GenQ
import PyProof.ConsumeS
import HandS.Gcd
import HandS.Zip
import HandS.TupMul
import HandS.TupAny
import PyProof.WalksMore
import HandS.TryOnly
import HandS.Style
import HandS.WordsDict
import HandS.List
import PyProof.Rows.SeqCalls
import PyProof.ListMulRoad
import PyProof.FactsAll.tuple_2
import HandS.Base
import PyProof.ReprRoads
import HandS.Ends
import KE.KRevSl
import HandS.SetKeys
import HandS.Deep
import HandS.More
import HandS.EndOwn
import KE.KNestM
set_option Elab.async false
set_option linter.all false
set_option maxRecDepth 100000
set_option maxHeartbeats 8000000
namespace SB
open PySem L2
def topI (i : Nat) : Stmt := PySem.Challenge.pw_sidebooks_k43_whole_sayings_at_points.main.body.getD i (.Pass ⟨0, 0, 0, 0⟩)
abbrev s_is_whole : Stmt := topI 7
abbrev s_is_number : Stmt := topI 8
abbrev s_are_numbers : Stmt := topI 9
abbrev s_is_point : Stmt := topI 10
abbrev s_are_wholes : Stmt := topI 11
abbrev s_check_point : Stmt := topI 12
abbrev s_sign : Stmt := topI 13
abbrev s_answer_at : Stmt := topI 14
abbrev s__sum_at : Stmt := topI 15
abbrev s_common_of : Stmt := topI 16
abbrev s_begins_at : Stmt := topI 17
abbrev s_normal_form : Stmt := topI 18
abbrev s_made_book : Stmt := topI 20
abbrev s_divided : Stmt := topI 21
abbrev s_nought_form : Stmt := topI 22
abbrev s_is_saying : Stmt := topI 26
abbrev s_holds : Stmt := topI 27
abbrev s_book_for : Stmt := topI 28
abbrev s__check_unknowns : Stmt := topI 29
abbrev s__check_saying : Stmt := topI 30
abbrev s__is_saying_of : Stmt := topI 31
abbrev s__are_sides_of : Stmt := topI 32
abbrev s__holds_at : Stmt := topI 33
abbrev s__questions_in : Stmt := topI 34
abbrev s__law_well : Stmt := topI 36
abbrev s__law_draw : Stmt := topI 37
abbrev s__law_same : Stmt := topI 38
abbrev s__law_low : Stmt := topI 39
abbrev s__law_plus : Stmt := topI 40
abbrev s__law_times : Stmt := topI 41
abbrev s__law_value : Stmt := topI 42
abbrev s__law_answer : Stmt := topI 43
abbrev s__law_divided : Stmt := topI 44
abbrev s__law_ground : Stmt := topI 45
abbrev s__law_unlike : Stmt := topI 46
abbrev s__law_questions : Stmt := topI 47
abbrev s__law_saying : Stmt := topI 48
abbrev s__law_holds : Stmt := topI 49
abbrev s__law_asked : Stmt := topI 50
abbrev s__law_point : Stmt := topI 51
abbrev s__law_right : Stmt := topI 52
abbrev s_law : Stmt := topI 53
end SB
namespace SB
open PySem PySem.Spec PyProof.Rows L2
/-- nobody looks on when two long integers are divided -/
structure NSK (P : Program) (K : PySem.W.Frag) : Prop where
  seer : ∀ h : Heap, K.In h → h.NoSeer
  tree : P.given.tree = none
/-- // by any number but 0 -/
theorem op_fdivP {X : Cx} {e : Env} {l : List Env} (NS : NSK X.prog X.K) (hd : X.A.depth + Builtin.pylongFrames < recursionLimit) (hst : X.stack = e :: l) (hg : e.scope.isGenerator = false) (hc : e.scope.isCoroutine = false) (hb : e.builtins = builtinsNs) (hm : e.globals = mainGlobals) :
    OpR X (binaryOp .FloorDiv) (rI (fun _ j => j ≠ 0) fun i j => .int (i.fdiv j)) := by
  intro pins s σ H x y v u Q I rx ry h
  obtain ⟨i, j, rfl, rfl, hj, q⟩ := h
  obtain ⟨t, rfl⟩ := rx
  obtain ⟨t', rfl⟩ := ry
  refine floordiv_int hj ?_ (.inr (PylongRoom.of I.nolimit hd (SeerAt.of (NS.seer _ I.kIn) NS.tree (by rw [I.ok.frames, hst]) hg hc hb hm)))
  exact ⟨.int (i.fdiv j), H, I.tok _, ⟨_, rfl⟩, q⟩
/-- // by a number above 0 -/
theorem op_fdivE {X : Cx} {e : Env} {l : List Env} (NS : NSK X.prog X.K) (hd : X.A.depth + Builtin.pylongFrames < recursionLimit) (hst : X.stack = e :: l) (hg : e.scope.isGenerator = false) (hc : e.scope.isCoroutine = false) (hb : e.builtins = builtinsNs) (hm : e.globals = mainGlobals) :
    OpR X (binaryOp .FloorDiv) (rI (fun _ j => 0 < j) fun i j => .int (i / j)) := by
  intro pins s σ H x y v u Q I rx ry h
  obtain ⟨i, j, rfl, rfl, hj, q⟩ := h
  refine op_fdivP NS hd hst hg hc hb hm pins s σ H _ _ v u Q I rx ry ⟨i, j, rfl, rfl, Int.ne_of_gt hj, ?_⟩
  have q : Q (V.int (i / j)) H := q
  rw [← Int.fdiv_eq_ediv_of_nonneg i (Int.le_of_lt hj)] at q
  exact q
theorem Room.far {k : Nat} {A : Around} (r : Room (k + 33) A) : A.depth + Builtin.pylongFrames < recursionLimit := by
  have := r.dp
  show A.depth + 100 < _
  omega
end SB
/-! Small sets whose members are objects of one sort (tuples of tuples): searched, filled. Over the table's own facts (HandS.TupSets). -/
namespace SG
open PySem PySem.Spec PyProof.Rows L2
/-- a sort of members -/
structure Kd (P : Program) (w : World) (κ : Type) [DecidableEq κ] where
  is : Heap → κ → Addr → Prop
  hash : κ → Int
  draws : κ → Nat
  keep : ∀ {h h' : Heap} {k : κ} {b : Addr}, is h k b → (∀ c o, h.get? c = some o → (∃ vs n, o.data = .seq vs n) → h'.get? c = some o) → is h' k b
  eqB : ∀ {A : Around} {E : Value → Shared → Prop} {s : Shared} {x y : κ} {a b : Addr} {Q : Bool → Shared → Prop}, A.units + 8 < cLine → is s.heap x a → is s.heap y b → Q (decide (x = y)) s → wpAny (model P w) A (eqBool (.ref a) (.ref b)) Q E s
  pyH : ∀ {A : Around} {E : Value → Shared → Prop} {s : Shared} {k : κ} {a : Addr} {Q : Int → Shared → Prop}, A.units + 8 < cLine → is s.heap k a → Q (hash k) { s with toks := s.toks + draws k } → wpAny (model P w) A (pyHash (.ref a)) Q E s
  quiet : ∀ {A : Around} {E : Value → Shared → Prop} {s : Shared} {k : κ} {a : Addr} {Q : Bool → Shared → Prop}, is s.heap k a → Q true s → wpAny (model P w) A (eqIsQuiet 8 (.ref a)) Q E s
  noCls : ∀ {A : Around} {E : Value → Shared → Prop} {s : Shared} {k : κ} {a : Addr} {Q : Bool → Shared → Prop}, is s.heap k a → Q false s → wpAny (model P w) A (ofAClassStatement 8 (.ref a)) Q E s
  byV : ∀ {A : Around} {E : Value → Shared → Prop} {s : Shared} {k : κ} {a : Addr} {Q : Bool → Shared → Prop}, is s.heap k a → Q true s → wpAny (model P w) A (hashByValue 8 (.ref a)) Q E s
section
variable {P : Program} {w : World} {κ : Type} [DecidableEq κ] (kd : Kd P w κ) {A : Around} {E : Value → Shared → Prop} {s : Shared}
theorem kd_same {h h' : Heap} {k : κ} {b a : Addr} {o : Obj} {es : Array (Int × Value)} {ep : Nat} {t : SetTable} (hb : kd.is h k b) (ho : h.get? a = some o) (hd : o.data = .set es ep t) (sb : Heap.SameBut a h h') : kd.is h' k b :=
  kd.keep hb fun c o' hc hseq => (sb.2 c fun z => by
    obtain ⟨vs, n, hs⟩ := hseq
    rw [z, ho] at hc
    cases hc
    rw [hd] at hs
    cases hs).trans hc
/-- looking among members of the sort tells nothing -/
theorem kd_unseen {x : Addr} {k : κ} {ys : List Value} {Q : Bool → Shared → Prop} (hx : kd.is s.heap k x) (hy : ∀ y ∈ ys, ∃ c k', y = Value.ref c ∧ kd.is s.heap k' c) (q : Q false s) : wpAny (model P w) A (searchCouldBeSeen (.ref x) ys) Q E s := by
  unfold searchCouldBeSeen
  refine wpAny_bind ?_
  refine wpAny_forIn_list _ (fun left r s2 => r.1 = none ∧ s2 = s ∧ ∀ y ∈ left, ∃ c k', y = Value.ref c ∧ kd.is s.heap k' c) _ ?_ ?_ _ _ ⟨rfl, rfl, hy⟩
  · rintro y left r s2 ⟨er, rfl, al⟩
    obtain ⟨c, k', rfl, hc⟩ := al _ List.mem_cons_self
    have al2 : ∀ y ∈ left, ∃ c k', y = Value.ref c ∧ kd.is s2.heap k' c := fun u hu => al u (List.mem_cons_of_mem _ hu)
    dsimp only
    by_cases same : (x == c || (carriedByValue (.ref x) && carriedByValue (.ref c))) = true
    · exact wp_if_pos same (wpAny_pure ⟨rfl, rfl, al2⟩)
    · refine wp_if_neg same (wpAny_bind (kd.quiet hx ?_))
      simp only [Bool.not_true, Bool.false_eq_true, if_false]
      refine wpAny_bind (kd.quiet hc ?_)
      simp only [Bool.not_true, Bool.false_eq_true, if_false]
      refine wpAny_bind (kd.noCls hx ?_)
      simp only [Bool.false_eq_true, if_false]
      refine wpAny_bind (kd.noCls hc ?_)
      simp only [Bool.false_eq_true, if_false]
      exact wpAny_pure ⟨rfl, rfl, al2⟩
  · rintro ⟨r1, r2⟩ s2 ⟨er, rfl, _⟩
    simp only at er
    subst er
    exact wpAny_pure q
def rowsG (L : List (Addr × κ)) : List (Int × Value) := L.map fun p => (kd.hash p.2, Value.ref p.1)
/-- a set at a that holds L, each key once -/
structure SR (h : Heap) (a : Addr) (L : List (Addr × κ)) (es : Array (Int × Value)) (ep : Nat) (t : SetTable) : Prop where
  ob : ∃ o, h.get? a = some o ∧ o.ExactSet ∧ o.data = .set es ep t
  rows : es.toList = rowsG kd L
  tab : TabOk t (L.map fun p => kd.hash p.2)
  nd : (L.map (·.2)).Nodup
  mem : ∀ p ∈ L, kd.is h p.2 p.1
  plain : t.plain = true
  led : w.params.followText "set-order" = true ∨ t.led = true
  room : L.length * 5 < t.mask * 3
  few : L.length < 64
variable {kd} {a : Addr} {L : List (Addr × κ)} {es : Array (Int × Value)} {ep : Nat} {t : SetTable}
theorem SR.size (R : SR kd s.heap a L es ep t) : es.size = L.length := by
  have e := congrArg List.length R.rows
  rwa [rowsG, Array.length_toList, List.length_map] at e
theorem SR.len (R : SR kd s.heap a L es ep t) : t.place.toList.length = L.length := by
  have e := R.tab.sz
  rwa [List.length_map, ← Array.length_toList] at e
theorem SR.fits (R : SR kd s.heap a L es ep t) : t.fits es.size = true := by
  have e1 := R.size
  have e2 := R.len
  have e3 := R.room
  rw [Array.length_toList] at e2
  unfold SetTable.fits SetTable.fill
  rw [R.tab.dm, Bool.and_eq_true, beq_iff_eq, decide_eq_true_eq]
  exact ⟨by omega, by show t.place.size + 0 ≤ t.mask; omega⟩
theorem SR.at_ (R : SR kd s.heap a L es ep t) {i : Nat} {p : Addr × κ} (h : L[i]? = some p) : es[i]? = some (kd.hash p.2, Value.ref p.1) := by
  have e : es.toList[i]? = some (kd.hash p.2, Value.ref p.1) := by rw [R.rows, rowsG, List.getElem?_map, h] <;> rfl
  rwa [Array.getElem?_toList] at e
/-- the c-th look on the way of a hash -/
abbrev look (t : SetTable) (hk : Int) (c : Nat) : SetTable.Probe := nth t.mask (runAt t.mask (SetTable.bits hk % (t.mask + 1)) (SetTable.bits hk)) c
theorem look_add (t : SetTable) (hk : Int) (c q : Nat) : nth t.mask (look t hk c) q = look t hk (c + q) := (nth_add t.mask c _ q).symm
theorem look_clean (t : SetTable) (hk : Int) (c : Nat) : (look t hk c).dummy = none := by
  have go : ∀ (n : Nat) (p : SetTable.Probe), p.dummy = none → (nth t.mask p n).dummy = none := fun n => by
    induction n with
    | zero => exact fun _ h => h
    | succ n ih => exact fun p h => ih _ (by unfold adv; split <;> exact h)
  exact go c _ rfl
/-- how the search answers where a member is met -/
def met (add : Bool) (i : Nat) : SetFound := .there (if add = true then none else some i)
theorem sr_search (R : SR kd s.heap a L es ep t) (add : Bool) {x : Addr} {k : κ} (hx : kd.is s.heap k x) (hu : A.units + 8 < cLine) {K : Nat} (hKf : K < 10 * SetTable.turns t.mask) (hK : way t.mask (kd.hash k) K ∉ t.place.toList)
    (hKb : ∀ c, c < K → way t.mask (kd.hash k) c ∈ t.place.toList) {Q : SetFound → Shared → Prop} (yes : ∀ i, k ∈ L.map (·.2) → Q (met add i) s) (no : k ∉ L.map (·.2) → Q (.free (way t.mask (kd.hash k) K) false) s) :
    ∀ (f c : Nat) (stand : Option SetTable.Probe), stand.getD (t.probeStart (kd.hash k)) = look t (kd.hash k) c → c ≤ K → K - c < f →
      (∀ (i : Nat) p, L[i]? = some p → p.2 = k → ∃ c', c ≤ c' ∧ c' < K ∧ t.place.toList[i]? = some (way t.mask (kd.hash k) c')) →
      wpAny (model P w) A (setSearchFrom a (.ref x) (kd.hash k) add f stand) Q E s
  | 0, c, stand, _, _, hf, _ => absurd hf (Nat.not_lt_zero _)
  | f + 1, c, stand, est, hc, hf, ahead => by
    obtain ⟨o, ho, hex, hd⟩ := R.ob
    have hAt : Nat → Int := fun i => (es[i]?.map (·.1)).getD 0
    have hashAt : ∀ {i : Nat} {p}, L[i]? = some p → (es[i]?.map (·.1)).getD 0 = kd.hash p.2 := fun {i p} hp => by rw [R.at_ hp] <;> rfl
    have wy : ∀ q, (nth t.mask (look t (kd.hash k) c) q).j = way t.mask (kd.hash k) (c + q) := fun q => congrArg SetTable.Probe.j (look_add t _ c q)
    rw [setSearchFrom_succ]
    refine wpAny_bind (wpAny_setState_of ho hd R.fits ?_)
    dsimp only
    refine wp_if_neg (by unfold SetTable.gaveWay; rw [mask_odd R.tab.mok]; decide) ?_
    try refine wpAny_bind (wpAny_pure ?_)
    have spec := go_spec t R.tab.ris R.tab.dm (fun i => (es[i]?.map (·.1)).getD 0) (kd.hash k) (10 * SetTable.turns t.mask) (K - c) _ (look_clean t (kd.hash k) c) (by omega)
      (fun q hq => by rw [wy]; exact hKb (c + q) (by omega)) (by rw [wy, show c + (K - c) = K by omega]; exact hK)
    rcases spec with ⟨q, i, hq, hi, hh, early, hpr⟩ | ⟨early, hpr⟩
    · rw [wy] at hi
      have hil : i < L.length := by
        have z := (List.getElem?_eq_some_iff.mp hi).1
        rwa [R.len] at z
      obtain ⟨p, hp⟩ : ∃ p, L[i]? = some p := ⟨_, List.getElem?_eq_getElem hil⟩
      have pin : p ∈ L := List.mem_of_getElem? hp
      have hsl : t.slot (way t.mask (kd.hash k) (c + q)) = .live i := slot_live R.tab.ris hi
      have probe : t.probe (fun i => (es[i]?.map (·.1)).getD 0) (kd.hash k) (stand.getD (t.probeStart (kd.hash k))) = some (.candidate (way t.mask (kd.hash k) (c + q)) i (look t (kd.hash k) (c + (q + 1)))) := by
        rw [est, ← wy, ← look_add]
        exact hpr
      rw [probe]
      dsimp only
      have behind : wpAny (model P w) A (searchRest a (.ref x) (kd.hash k) add f es t (way t.mask (kd.hash k) (c + q)) i (look t (kd.hash k) (c + (q + 1)))) Q E s := by
        unfold searchRest
        rw [R.at_ hp]
        dsimp only
        refine wpAny_bind (wpAny_holding (kd.eqB hu (R.mem p pin) hx ?_))
        refine wpAny_bind (wpAny_setState_of ho hd R.fits ?_)
        dsimp only
        by_cases eqk : p.2 = k
        · have mem : k ∈ L.map (·.2) := List.mem_map.mpr ⟨p, pin, eqk⟩
          cases add with
          | true => exact wp_if_pos (by simp [eqk]) (wpAny_pure (yes i mem))
          | false =>
            refine wp_if_neg (by simp) ?_
            try refine wpAny_bind (wpAny_pure ?_)
            rw [sameMem]
            dsimp only
            simp only [if_true, hsl, R.at_ hp]
            refine wpAny_bind (wpAny_isSame_ref_self (wpAny_bind (wpAny_pure ?_)))
            simp only [if_true]
            exact wp_if_pos (by simp [eqk]) (wpAny_pure (yes i mem))
        · refine wp_if_neg (by simp [eqk]) ?_
          try refine wpAny_bind (wpAny_pure ?_)
          rw [sameMem]
          dsimp only
          simp only [if_true, hsl, R.at_ hp]
          refine wpAny_bind (wpAny_isSame_ref_self (wpAny_bind (wpAny_pure ?_)))
          simp only [if_true]
          refine wp_if_neg (by simp [eqk]) ?_
          refine sr_search R add hx hu hKf hK hKb yes no f (c + (q + 1)) _ rfl (by omega) (by omega) fun i0 p0 h0 k0 => ?_
          obtain ⟨c', l1, l2, l3⟩ := ahead i0 p0 h0 k0
          have nlt : ¬ c' < c + q := fun z => early (c' - c) i0 (by omega) (by rw [wy, show c + (c' - c) = c' by omega]; exact l3) ((hashAt h0).trans (congrArg kd.hash k0))
          have nne : c' ≠ c + q := fun z => by
            rw [z] at l3
            have z2 := slot_live R.tab.ris l3
            rw [hsl] at z2
            injection z2 with z2
            rw [← z2, hp] at h0
            exact eqk ((congrArg Prod.snd (Option.some.inj h0)).trans k0)
          exact ⟨c', by omega, l2, l3⟩
      by_cases hl : t.led = true
      · refine wp_if_neg (by simp [hl]) ?_
        try refine wpAny_bind (wpAny_pure ?_)
        exact behind
      · refine wp_if_pos (by simp [hl]) (wpAny_bind (kd_unseen kd hx (fun y hy => ?_) ?_))
        · obtain ⟨e, he, rfl⟩ := List.mem_map.mp hy
          have he2 : e ∈ es.toList := by
            have z : e ∈ es ∧ e.1 = kd.hash k := by simpa using he
            simpa using z.1
          rw [R.rows, rowsG] at he2
          obtain ⟨p2, m2, rfl⟩ := List.mem_map.mp he2
          exact ⟨p2.1, p2.2, rfl, R.mem p2 m2⟩
        · refine wp_if_neg (by decide) ?_
          try refine wpAny_bind (wpAny_pure ?_)
          exact behind
    · have probe : t.probe (fun i => (es[i]?.map (·.1)).getD 0) (kd.hash k) (stand.getD (t.probeStart (kd.hash k))) = some (.empty (way t.mask (kd.hash k) K) none) := by
        have z : way t.mask (kd.hash k) K = (nth t.mask (look t (kd.hash k) c) (K - c)).j := by rw [wy, show c + (K - c) = K by omega]
        rw [est, z]
        exact hpr
      rw [probe]
      dsimp only
      refine wpAny_pure (no fun hm => ?_)
      obtain ⟨p0, m0, k0⟩ := List.mem_map.mp hm
      obtain ⟨i0, l0, e0⟩ := List.getElem_of_mem m0
      have h0 : L[i0]? = some p0 := by rw [List.getElem?_eq_getElem l0, e0]
      obtain ⟨c', l1, l2, l3⟩ := ahead i0 p0 h0 k0
      exact early (c' - c) i0 (by omega) (by rw [wy, show c + (c' - c) = c' by omega]; exact l3) ((hashAt h0).trans (congrArg kd.hash k0))
theorem sr_find (R : SR kd s.heap a L es ep t) (add : Bool) {x : Addr} {k : κ} (hx : kd.is s.heap k x) (hu : A.units + 8 < cLine) {Q : SetFound → Shared → Prop} (yes : ∀ i, k ∈ L.map (·.2) → Q (met add i) s)
    (no : ∀ K, k ∉ L.map (·.2) → way t.mask (kd.hash k) K ∉ t.place.toList → (∀ c, c < K → way t.mask (kd.hash k) c ∈ t.place.toList) → Q (.free (way t.mask (kd.hash k) K) false) s) :
    wpAny (model P w) A (setSearch a (.ref x) (kd.hash k) add) Q E s := by
  have hroom := R.room
  obtain ⟨K, hKf, hK, hKb⟩ := R.tab.first (by rw [List.length_map]; omega) (kd.hash k)
  have few : 10 * SetTable.turns t.mask ≤ 1420 := by
    unfold SetTable.turns
    rcases R.tab.mok with e | e | e <;> omega
  unfold setSearch
  refine sr_search R add hx hu hKf hK hKb yes (fun n => no K n hK hKb) 100000 0 none rfl (Nat.zero_le _) (by omega) fun i p hp hk => ?_
  have hi : (L.map fun p => kd.hash p.2)[i]? = some (kd.hash k) := by rw [List.getElem?_map, hp, ← hk] <;> rfl
  have hil : i < t.place.toList.length := by
    rw [R.len]
    exact (List.getElem?_eq_some_iff.mp hp).1
  obtain ⟨c, hc, e⟩ := R.tab.before hK hi (List.getElem?_eq_getElem hil)
  exact ⟨c, Nat.zero_le _, hc, by rw [List.getElem?_eq_getElem hil, e]⟩
end
end SG
namespace SG
open PySem PySem.Spec PyProof.Rows L2
section
variable {P : Program} {w : World} {κ : Type} [DecidableEq κ] {kd : Kd P w κ} {A : Around} {E : Value → Shared → Prop} {s : Shared} {a : Addr} {L : List (Addr × κ)} {es : Array (Int × Value)} {ep : Nat} {t : SetTable}
theorem rowsG_len : (rowsG kd L).length = L.length := List.length_map _
theorem rowsG_at {es : Array (Int × Value)} (hr : es.toList = rowsG kd L) {i : Nat} (h : i < L.length) : es[i]? = some (kd.hash (L[i]).2, Value.ref (L[i]).1) := by
  rw [← Array.getElem?_toList, hr, rowsG, List.getElem?_map, List.getElem?_eq_getElem h] <;> rfl
/-- the rows taken in another sequence -/
theorem rows_pick {es : Array (Int × Value)} (hr : es.toList = rowsG kd L) : ∀ l : List Nat, (∀ i ∈ l, i < L.length) →
    l.filterMap (fun i => es[i]?) = rowsG kd (l.filterMap fun i => L[i]?) ∧ ((l.filterMap fun i => L[i]?).map fun p => kd.hash p.2) = l.map fun i => (es.map (·.1)).getD i 0
  | [], _ => ⟨rfl, rfl⟩
  | i :: l, h => by
    have hi := h i List.mem_cons_self
    obtain ⟨e1, e2⟩ := rows_pick hr l fun j hj => h j (List.mem_cons_of_mem _ hj)
    have e3 := rowsG_at hr hi
    have e4 : (es.map (·.1)).getD i 0 = kd.hash (L[i]).2 := by
      have z : (es.map (·.1))[i]? = some (kd.hash (L[i]).2) := by rw [Array.getElem?_map, e3] <;> rfl
      simp [Array.getD_eq_getD_getElem?, z]
    constructor
    · rw [List.filterMap_cons_some e3, List.filterMap_cons_some (List.getElem?_eq_getElem hi), e1] <;> rfl
    · rw [List.filterMap_cons_some (List.getElem?_eq_getElem hi), List.map_cons, List.map_cons, e2, e4]
theorem pick_all : ∀ l : List (Addr × κ), (List.range l.length).filterMap (fun i => l[i]?) = l := by
  intro l
  have go : ∀ n, n ≤ l.length → (List.range n).filterMap (fun i => l[i]?) = l.take n := fun n => by
    induction n with
    | zero => exact fun _ => rfl
    | succ n ih =>
      intro hn
      rw [List.range_succ, List.filterMap_append, ih (Nat.le_of_lt hn), List.take_succ, List.getElem?_eq_getElem hn, List.filterMap_cons_some (List.getElem?_eq_getElem hn)] <;> rfl
  rw [go _ (Nat.le_refl _), List.take_length]
/-- the table is laid anew, larger -/
theorem sr_relay {o : Obj} (ho : s.heap.get? a = some o) (hex : o.ExactSet) (hd : o.data = .set es ep t) (hr : es.toList = rowsG kd L) (hps : t.place.size = es.size) (hdm : t.dummies = #[]) (hm : es.size ≤ t.mask) (nd : (L.map (·.2)).Nodup) (mem : ∀ p ∈ L, kd.is s.heap p.2 p.1)
    (pl : t.plain = true) (ld : w.params.followText "set-order" = true ∨ t.led = true) (few : L.length < 64) {wanted M : Nat} (eM : SetTable.sizeAbove wanted - 1 = M) (hM : MaskOk M) (small : SetTable.sizeAbove wanted ≤ 128) (fit : L.length * 5 < M * 3) {Q : Unit → Shared → Prop}
    (q : ∀ h' L' es' ep' t', Heap.SameBut a s.heap h' → SR kd h' a L' es' ep' t' → L'.Perm L → Q () { s with heap := h' }) : wpAny (model P w) A (setRelay a wanted) Q E s := by
  have el : es.size = L.length := by
    have z := congrArg List.length hr
    rwa [rowsG_len, Array.length_toList] at z
  have fits : t.fits es.size = true := by
    unfold SetTable.fits SetTable.fill
    rw [hdm, Bool.and_eq_true, beq_iff_eq, decide_eq_true_eq]
    exact ⟨hps, by show t.place.size + 0 ≤ t.mask; omega⟩
  obtain ⟨t', ord, e, hp, T, em, ell, epl, _⟩ := relaid_ok t (hs := es.map (·.1)) (wanted := wanted) eM hM (by rw [Array.size_map, el]; omega)
  rw [Array.size_map, el] at hp
  obtain ⟨r1, r2⟩ := rows_pick hr ord.toList fun i hi => List.mem_range.mp (hp.mem_iff.mp hi)
  have pm : (ord.toList.filterMap fun i => L[i]?).Perm L := by
    have z := hp.filterMap fun i => L[i]?
    rwa [pick_all L] at z
  rw [← r2] at T
  have rws : (ord.filterMap (es[·]?)).toList = rowsG kd (ord.toList.filterMap fun i => L[i]?) := by
    first | (rw [Array.toList_filterMap]; exact r1) | simpa using r1
  generalize ord.toList.filterMap (fun i => L[i]?) = L2 at pm T rws
  have sz2 : (ord.filterMap (es[·]?)).size = es.size := by
    have z := congrArg List.length rws
    rw [rowsG_len, Array.length_toList, pm.length_eq] at z
    rw [z, el]
  rw [setRelay_eq]
  refine wpAny_bind (wpAny_setState_of ho hd fits ?_)
  dsimp only
  refine wp_if_neg (by rw [sizeLine_eq]; omega) ?_
  try refine wpAny_bind (wpAny_pure ?_)
  rw [e]
  dsimp only
  refine wpAny_bind (wp_if_neg (by rw [sz2]; simp) ?_)
  try refine wpAny_bind (wpAny_pure ?_)
  refine wpAny_pure ?_
  dsimp only
  refine wpAny_storeSet_of ho hd ?_ (by rw [sz2, el, sizeLine_eq]; omega)
  have sb : Heap.SameBut a s.heap (s.heap.update a (Obj.putSet (ord.filterMap (es[·]?)) t')) := Heap.SameBut.update ..
  exact q _ L2 _ (ep + 1) t' sb ⟨⟨_, store_at ho hd, ⟨hex.1, hex.2.1, hex.2.2⟩, rfl⟩, rws, T, (pm.map (·.2)).nodup_iff.mpr nd, fun p hpm => kd_same kd (mem p (pm.mem_iff.mp hpm)) ho hd sb, by rw [epl]; exact pl, by rw [ell]; exact ld,
    by rw [pm.length_eq, em]; exact fit, by rw [pm.length_eq]; exact few⟩ pm
/-- a member more, or no more -/
theorem sr_add (R : SR kd s.heap a L es ep t) {x : Addr} {k : κ} (hx : kd.is s.heap k x) (hu : A.units + 8 < cLine) (few : L.length + 1 < 64) {Q : Bool → Shared → Prop}
    (q : ∀ b h' L' es' ep' t', Heap.SameBut a s.heap h' → SR kd h' a L' es' ep' t' → (k ∈ L.map (·.2) → L' = L) → (k ∉ L.map (·.2) → L'.Perm ((x, k) :: L)) → Q b { s with heap := h' }) :
    wpAny (model P w) A (setAddHashed a (.ref x) (kd.hash k)) Q E s := by
  obtain ⟨o, ho, hex, hd⟩ := R.ob
  have el := R.size
  have hroom := R.room
  unfold setAddHashed
  refine wpAny_holding ?_
  rw [show (100000 : Nat) = 99999 + 1 from rfl, setAddHashedIn_succ]
  refine wpAny_bind (wpAny_setState_of ho hd R.fits ?_)
  dsimp only
  refine wp_if_neg (by simp [byScan, Value.scannable]) ?_
  try refine wpAny_bind (wpAny_pure ?_)
  refine wpAny_bind (sr_find R true hx hu (fun i hm => ?_) fun K hm hK hb => ?_)
  · unfold met
    dsimp only
    exact wpAny_pure (q false s.heap L es ep t (Heap.SameBut.refl a s.heap) R (fun _ => rfl) fun z => absurd hm z)
  · dsimp only
    refine wpAny_bind (wpAny_setState_of ho hd R.fits ?_)
    dsimp only
    obtain ⟨q1, q2, q3, q4, q5, q6, q7, q8, q9⟩ := R.tab.put hK hb
    have pl1 : (t.put (way t.mask (kd.hash k) K)).1.plain = true := by rw [q6]; exact R.plain
    generalize ept : t.put (way t.mask (kd.hash k) K) = pt at q1 q3 q4 q5 q6 q7 q8 q9 pl1 ⊢
    obtain ⟨t1, p⟩ := pt
    dsimp only at q1 q3 q4 q5 q6 q7 q8 q9 pl1 ⊢
    subst q1
    first
      | (refine wpAny_bind ?_; refine wp_if_pos pl1 ?_; refine kd.byV hx ?_)
      | refine wp_if_pos pl1 (wpAny_bind (kd.byV hx ?_))
    simp only [if_true]
    have ein : (SetTable.insertAt es (SetTable.below t.place (way t.mask (kd.hash k) K)) (kd.hash k, Value.ref x)).toList = rowsG kd (L.take (SetTable.below t.place (way t.mask (kd.hash k) K)) ++ (x, k) :: L.drop (SetTable.below t.place (way t.mask (kd.hash k) K))) := by
      rw [SetTable.toList_insertAt, R.rows]
      unfold rowsG
      rw [List.map_append, List.map_cons, List.map_take, List.map_drop]
    generalize SetTable.below t.place (way t.mask (kd.hash k) K) = p at q2 q3 ein ⊢
    have pm : (L.take p ++ (x, k) :: L.drop p).Perm ((x, k) :: L) := put_perm L p (x, k)
    have lh : (L.take p ++ (x, k) :: L.drop p).map (fun p => kd.hash p.2) = (L.map fun p => kd.hash p.2).take p ++ kd.hash k :: (L.map fun p => kd.hash p.2).drop p := by
      rw [List.map_append, List.map_cons, List.map_take, List.map_drop]
    rw [← lh] at q3
    generalize L.take p ++ (x, k) :: L.drop p = L1 at pm q3 ein
    have l1 : L1.length = L.length + 1 := pm.length_eq
    have nd1 : (L1.map (·.2)).Nodup := (pm.map (·.2)).nodup_iff.mpr (List.nodup_cons.mpr ⟨hm, R.nd⟩)
    have es1l : (SetTable.insertAt es p (kd.hash k, Value.ref x)).size = L.length + 1 := by
      have z := congrArg List.length ein
      rwa [rowsG_len, Array.length_toList, l1] at z
    generalize SetTable.insertAt es p (kd.hash k, Value.ref x) = es1 at ein es1l ⊢
    refine wpAny_bind (wpAny_storeSet_of ho hd ?_ (by rw [es1l, sizeLine_eq]; omega))
    have sb : Heap.SameBut a s.heap (s.heap.update a (Obj.putSet es1 t1)) := Heap.SameBut.update ..
    have ho1 := store_at (es' := es1) (t' := t1) ho hd
    generalize s.heap.update a (Obj.putSet es1 t1) = h1 at sb ho1 ⊢
    have mem1 : ∀ p ∈ L1, kd.is h1 p.2 p.1 := fun p hp => by
      rcases List.mem_cons.mp (pm.mem_iff.mp hp) with e | hp
      · rw [e]
        exact kd_same kd hx ho hd sb
      · exact kd_same kd (R.mem p hp) ho hd sb
    have ld1 : w.params.followText "set-order" = true ∨ t1.led = true := by rw [q5]; exact R.led
    have ps1 : t1.place.size = es1.size := by
      have z := q3.sz
      rw [List.length_map, l1] at z
      rw [z, es1l]
    by_cases full : t1.tooFull = true
    · first
        | (refine wpAny_bind ?_; refine wp_if_pos (by simp [full]) ?_)
        | (refine wp_if_pos (by simp [full]) ?_; refine wpAny_bind ?_)
      have five : (L.length + 1) * 5 ≥ t1.mask * 3 := by
        have z := full
        unfold SetTable.tooFull at z
        rwa [decide_eq_true_eq, q9, List.length_map] at z
      rw [el]
      have two : (t.mask = 7 ∧ L.length = 4) ∨ (t.mask = 31 ∧ L.length = 18) := by
        rcases R.tab.mok with e | e | e
        · exact .inl ⟨e, by rw [q4, e] at five; rw [e] at hroom; omega⟩
        · exact .inr ⟨e, by rw [q4, e] at five; rw [e] at hroom; omega⟩
        · exact absurd five (by rw [q4, e]; omega)
      have go : ∀ M, SetTable.sizeAbove (SetTable.grown (L.length + 1)) - 1 = M → MaskOk M → SetTable.sizeAbove (SetTable.grown (L.length + 1)) ≤ 128 → (L.length + 1) * 5 < M * 3 →
          wpAny (model P w) A (setRelay a (SetTable.grown (L.length + 1))) (fun _ s' => wpAny (model P w) A (pure true) Q E s') E { s with heap := h1 } := fun M m1 m2 m3 m4 =>
        sr_relay (s := { s with heap := h1 }) ho1 ⟨hex.1, hex.2.1, hex.2.2⟩ rfl ein ps1 q3.dm (by rw [es1l, q4]; rcases two with ⟨e, e2⟩ | ⟨e, e2⟩ <;> omega) nd1 mem1 pl1 ld1 (by rw [l1]; exact few) m1 m2 m3 (by rw [l1]; exact m4)
          fun h2 L2 es2 ep2 t2 sb2 R2 pm2 => wpAny_pure (q true h2 L2 es2 ep2 t2 (sb.trans sb2) R2 (fun z => absurd z hm) fun _ => pm2.trans pm)
      rcases two with ⟨_, e2⟩ | ⟨_, e2⟩
      · exact go 31 (by rw [e2, size_20]) (.inr (.inl rfl)) (by rw [e2, size_20]; decide) (by omega)
      · exact go 127 (by rw [e2, size_76]) (.inr (.inr rfl)) (by rw [e2, size_76]; decide) (by omega)
    · first
        | refine wp_if_neg (by simp [full]) ?_
        | (refine wpAny_bind ?_; refine wp_if_neg (by simp [full]) ?_; refine wpAny_pure ?_)
      have z := full
      unfold SetTable.tooFull at z
      rw [decide_eq_true_eq, q9, List.length_map] at z
      exact wpAny_pure (q true h1 L1 es1 (ep + 1) t1 sb ⟨⟨_, ho1, ⟨hex.1, hex.2.1, hex.2.2⟩, rfl⟩, ein, q3, nd1, mem1, pl1, ld1, by rw [l1]; omega, by rw [l1]; exact few⟩ (fun y => absurd y hm) fun _ => pm)
theorem sr_fresh {h : Heap} {a : Addr} (ho : h.get? a = some { cls := .type "set", dict := none, data := .set #[] 0 (.fresh 0 0 (!w.params.followText "set-order")) }) : SR kd h a [] #[] 0 (.fresh 0 0 (!w.params.followText "set-order")) where
  ob := ⟨_, ho, ⟨rfl, rfl, rfl⟩, rfl⟩
  rows := rfl
  tab := ⟨List.Pairwise.nil, rfl, rfl, .inl rfl, (fun x hx => (nomatch hx)), (fun i h j hi => by simp at hi)⟩
  nd := List.nodup_nil
  mem := fun p hp => (nomatch hp)
  plain := rfl
  led := by
    show _ ∨ (!w.params.followText "set-order") = true
    cases w.params.followText "set-order"
    · exact .inr rfl
    · exact .inl rfl
  room := by
    show 0 * 5 < 7 * 3
    decide
  few := by
    show 0 < 64
    decide
/-- found.add(x) -/
theorem sr_add_call (R : SR kd s.heap a L es ep t) {x : Addr} {k : κ} (hx : kd.is s.heap k x) (hu : A.units + 9 < cLine) (few : L.length + 1 < 64) {Q : Value → Shared → Prop}
    (q : ∀ h' L' es' ep' t' tk, Heap.SameBut a s.heap h' → SR kd h' a L' es' ep' t' → (k ∈ L.map (·.2) → L' = L) → (k ∉ L.map (·.2) → L'.Perm ((x, k) :: L)) → Q .none { s with heap := h', toks := tk }) :
    wpAny (model P w) A (call (.builtin "set.add") [.ref a, .ref x]) Q E s := by
  have hT : s.TypeIs (.ref a) "set" := by
    obtain ⟨o, ho, hex, _⟩ := R.ob
    exact ⟨o, ho, hex.1⟩
  have hu1 : A.in1.units + 8 < cLine := by
    show A.units + 1 + 8 < cLine
    omega
  refine wpAny_call_entry F.slot_set_add hT F.entry_set_add ?_ (F.args_set_add_2 _ _)
  unfold Builtin.«set.add» Builtin.Frozenset.oneOther
  simp only [List.isEmpty_nil, bind_assoc]
  unfold Builtin.Frozenset.addrOf setAdd
  refine wpAny_bind (wpAny_pure ?_)
  try dsimp only
  refine wpAny_bind (wpAny_pure ?_)
  try dsimp only
  refine wpAny_bind (wpAny_holding ?_)
  refine wpAny_bind (kd.pyH hu1 hx ?_)
  refine sr_add (s := { s with toks := s.toks + kd.draws k }) R hx hu1 few fun b h' L' es' ep' t' sb r e1 e2 => ?_
  show wpAny _ _ (ret Value.none) _ _ _
  exact wpAny_pure ⟨_, rfl, q h' L' es' ep' t' _ sb r e1 e2⟩
end
end SG
namespace SG
open PySem PySem.Spec PyProof.Rows L2 PpSet
/-! ### members (n, .., m): a tuple of ints, the last one apart -/
abbrev Fm := List Int × Int
def emb (k : Fm) : NestedKey := .tup ((k.1 ++ [k.2]).map .num)
theorem num_inj : ∀ {a b : List Int}, a.map NestedKey.num = b.map NestedKey.num → a = b
  | [], [], _ => rfl
  | [], _ :: _, h => by cases h
  | _ :: _, [], h => by cases h
  | x :: a, y :: b, h => by
    injection h with h1 h2
    injection h1 with h1
    rw [h1, num_inj h2]
theorem emb_inj {a b : Fm} (h : emb a = emb b) : a = b := by
  unfold emb at h
  injection h with h
  have e := num_inj h
  obtain ⟨h1, h2⟩ := List.append_inj' e rfl
  injection h2 with h2 _
  exact Prod.ext h1 h2
theorem emb_dec (a b : Fm) : decide (emb a = emb b) = decide (a = b) := by
  by_cases h : a = b
  · rw [h, decide_eq_true rfl, decide_eq_true rfl]
  · rw [decide_eq_false h, decide_eq_false fun z => h (emb_inj z)]
theorem nums_depth : ∀ l : List Int, NestedKey.depthAll (l.map .num) = 0
  | [] => rfl
  | _ :: l => by
    show max 0 (NestedKey.depthAll (l.map .num)) = 0
    rw [nums_depth l]
    rfl
theorem emb_depth (k : Fm) : (emb k).depth = 1 := by
  show NestedKey.depthAll ((k.1 ++ [k.2]).map .num) + 1 = 1
  rw [nums_depth]
section
variable {P : Program} {w : World} {A : Around} {E : Value → Shared → Prop} {s : Shared}
theorem num_val {h : Heap} {i : Int} {v : Value} (x : NestedIs h (.num i) v) : carriedByValue v = true ∧ (∀ n, ofAClassStatement n v = pure false) ∧ ∀ n, hashByValue n v = pure true := by
  cases x with
  | bool e => exact ⟨rfl, fun n => by cases n <;> rfl, fun n => by cases n <;> rfl⟩
  | int _ _ => exact ⟨rfl, fun n => by cases n <;> rfl, fun n => by cases n <;> rfl⟩
theorem nums_val {h : Heap} : ∀ {l : List Int} {vs : List Value}, NestedAll h (l.map .num) vs → ∀ v ∈ vs, (∀ n, ofAClassStatement n v = pure false) ∧ ∀ n, hashByValue n v = pure true
  | [], _, x, v, hv => by cases x; cases hv
  | i :: l, _, x, v, hv => by
    cases x with
    | cons x1 x2 =>
      rcases List.mem_cons.mp hv with e | hv
      · rw [e]
        exact (num_val x1).2
      · exact nums_val x2 v hv
/-- a tuple is of no class statement, if its items are of none -/
theorem cls_tup {a : Addr} {o : Obj} {vs : Array Value} {m d : Nat} {Q : Bool → Shared → Prop} (ho : s.heap.get? a = some o) (hc : o.cls = .type "tuple") (hd : o.data = .seq vs m)
    (hi : ∀ v ∈ vs.toList, ∀ (Q' : Bool → Shared → Prop), Q' false s → wpAny (model P w) A (ofAClassStatement d v) Q' E s) (q : Q false s) : wpAny (model P w) A (ofAClassStatement (d + 1) (.ref a)) Q E s := by
  have hT : s.TypeIs (.ref a) "tuple" := ⟨o, ho, hc⟩
  unfold ofAClassStatement
  refine wpAny_bind (wpAny_typeOf hT ?_)
  dsimp only
  simp only [show (("tuple" : String) == "tuple") = true by decide, if_true, Bool.not_true, Bool.false_eq_true, if_false]
  try refine wpAny_bind (wpAny_pure ?_)
  try simp only [Bool.not_true, Bool.false_eq_true, if_false]
  show wpAny _ _ (seqItems? (.ref a) >>= _) _ _ s
  refine wpAny_bind (wpAny_seqItems ho hd ?_)
  dsimp only
  refine wpAny_bind ?_
  show wpAny _ _ (forIn vs _ _) _ _ s
  rw [← Array.forIn_toList]
  refine wpAny_forIn_list _ (fun left r s2 => r.1 = none ∧ s2 = s ∧ ∀ v ∈ left, v ∈ vs.toList) _ ?_ ?_ _ _ ⟨rfl, rfl, fun _ h => h⟩
  · rintro v left r s2 ⟨er, rfl, al⟩
    refine wpAny_bind (hi v (al v List.mem_cons_self) _ ?_)
    simp only [Bool.false_eq_true, if_false]
    exact wpAny_pure ⟨rfl, rfl, fun u hu => al u (List.mem_cons_of_mem _ hu)⟩
  · rintro ⟨r1, r2⟩ s2 ⟨er, rfl, _⟩
    simp only at er
    subst er
    exact wpAny_pure q
theorem hby_tup {a : Addr} {o : Obj} {vs : Array Value} {m d : Nat} {Q : Bool → Shared → Prop} (ho : s.heap.get? a = some o) (hc : o.cls = .type "tuple") (hd : o.data = .seq vs m)
    (hi : ∀ v ∈ vs.toList, ∀ (Q' : Bool → Shared → Prop), Q' true s → wpAny (model P w) A (hashByValue d v) Q' E s) (q : Q true s) : wpAny (model P w) A (hashByValue (d + 1) (.ref a)) Q E s := by
  have hT : s.TypeIs (.ref a) "tuple" := ⟨o, ho, hc⟩
  unfold hashByValue
  refine wpAny_bind (wpAny_specialOf hT F.slot_tuple_hash.lookup ?_)
  show wpAny _ _ (seqItems? (.ref a) >>= _) _ _ s
  refine wpAny_bind (wpAny_seqItems ho hd ?_)
  refine wpAny_bind ?_
  show wpAny _ _ (forIn vs _ _) _ _ s
  rw [← Array.forIn_toList]
  refine wpAny_forIn_list _ (fun left r s2 => r.1 = none ∧ s2 = s ∧ ∀ v ∈ left, v ∈ vs.toList) _ ?_ ?_ _ _ ⟨rfl, rfl, fun _ h => h⟩
  · rintro v left r s2 ⟨er, rfl, al⟩
    refine wpAny_bind (hi v (al v List.mem_cons_self) _ ?_)
    simp only [Bool.not_true, Bool.false_eq_true, if_false]
    exact wpAny_pure ⟨rfl, rfl, fun u hu => al u (List.mem_cons_of_mem _ hu)⟩
  · rintro ⟨r1, r2⟩ s2 ⟨er, rfl, _⟩
    simp only at er
    subst er
    exact wpAny_pure q
end
def KF (P : Program) (w : World) : Kd P w Fm where
  is := fun h k a => NestedIs h (emb k) (.ref a)
  hash := fun k => (emb k).hash w
  draws := fun k => (emb k).draws
  keep := fun x k => NestedIs.at (fun b o vs n hb hd => k b o hb ⟨vs, n, hd⟩) _ _ x
  eqB := fun {A E s x y a b Q} hu hx hy q => eqAt_key (emb x) (emb y) A s _ _ hx hy (by rw [emb_depth, emb_depth]; omega) _ _ _ _ (by rw [← NestedKey.decide_eq, emb_dec]; exact q)
  pyH := fun {A E s k a Q} hu hk q => pyHash_key _ _ _ _ _ hk (by rw [emb_depth]; omega) q
  quiet := fun {A E s k a Q} hk q => quiet_key (emb k) (.ref a) 8 s hk (by rw [emb_depth]; decide) _ _ _ q
  noCls := fun {A E s k a Q} hk q => by
    cases hk with
    | tup ho hc hd hi => exact cls_tup ho hc hd (fun v hv Q' q' => by rw [(nums_val hi v hv).1]; exact wpAny_pure q') q
  byV := fun {A E s k a Q} hk q => by
    cases hk with
    | tup ho hc hd hi => exact hby_tup ho hc hd (fun v hv Q' q' => by rw [(nums_val hi v hv).2]; exact wpAny_pure q') q
end SG
namespace SG
open PySem PySem.Spec PyProof.Rows L2 PpSet
/-- the set's own object -/
structure S0 (P : Program) (w : World) (h : Heap) (a : Addr) (L : List (Addr × Fm)) (es : Array (Int × Value)) (ep : Nat) (t : SetTable) : Prop where
  ob : ∃ o, h.get? a = some o ∧ o.ExactSet ∧ o.data = .set es ep t
  rows : es.toList = rowsG (KF P w) L
  tab : TabOk t (L.map fun p => (KF P w).hash p.2)
  nd : (L.map (·.2)).Nodup
  plain : t.plain = true
  led : w.params.followText "set-order" = true ∨ t.led = true
  room : L.length * 5 < t.mask * 3
  few : L.length < 64
theorem SR.s0 {P : Program} {w : World} {h : Heap} {a : Addr} {L : List (Addr × Fm)} {es : Array (Int × Value)} {ep : Nat} {t : SetTable} (R : SR (KF P w) h a L es ep t) : S0 P w h a L es ep t := ⟨R.ob, R.rows, R.tab, R.nd, R.plain, R.led, R.room, R.few⟩
theorem S0.sr {P : Program} {w : World} {h : Heap} {a : Addr} {L : List (Addr × Fm)} {es : Array (Int × Value)} {ep : Nat} {t : SetTable} (R : S0 P w h a L es ep t) (m : ∀ p ∈ L, (KF P w).is h p.2 p.1) : SR (KF P w) h a L es ep t := ⟨R.ob, R.rows, R.tab, R.nd, m, R.plain, R.led, R.room, R.few⟩
/-- a set of members at a: which objects, which keys -/
def SetGO (P : Program) (w : World) (a : Addr) (L : List (Addr × Fm)) : HO := .ext fun h => ∃ es ep t, S0 P w h a L es ep t
theorem setGO_ok {P : Program} {w : World} {H : Hp} {h : Heap} {a : Addr} {L : List (Addr × Fm)} {es : Array (Int × Value)} {ep : Nat} {t : SetTable} (R : S0 P w h a L es ep t) : ObjOk P w H h a (SetGO P w a L) := by
  refine ⟨⟨es, ep, t, R⟩, ?_, fun h1 h2 ⟨es, ep, t, q⟩ k => ⟨es, ep, t, ?_⟩⟩
  · obtain ⟨o, ho, _⟩ := R.ob
    exact ⟨o, ho⟩
  · obtain ⟨o, ho, r⟩ := q.ob
    exact ⟨⟨o, k o ho, r⟩, q.rows, q.tab, q.nd, q.plain, q.led, q.room, q.few⟩
/-- the tuple at a is (n, .., m) -/
def VF (K : PySem.W.Frag) (H : Hp) (a : Addr) (k : Fm) : Prop := SqT K H a ((k.1 ++ [k.2]).map V.int)
theorem nums_all {h : Heap} : ∀ {l : List Int} {us : List Value}, Vals (l.map V.int) us → NestedAll h (l.map .num) us
  | [], _, .nil => .nil
  | i :: l, _, .cons r t => by
    obtain ⟨tk, rfl⟩ := r
    exact .cons (.int i tk) (nums_all t)
section
variable {X : Cx} {pins : List (Addr × Obj)} {σ : L2.St} {H : Hp} {s : Shared}
theorem vf_is (I : Inv X pins σ H s) {a : Addr} {k : Fm} (h : VF X.K H a k) : (KF X.prog X.w).is s.heap k a := by
  obtain ⟨us, r, ⟨o, ho, hc, n, hd⟩, _⟩ := I.tuple h
  exact NestedIs.tup ho hc hd (nums_all r)
/-- a member is added -/
theorem addG_ok (hu : X.A.units + 64 < cLine) {E : Value → Shared → Prop} {D x : Addr} {k : Fm} {L : List (Addr × Fm)} {Q : Value → Shared → Prop} (I : Inv X pins σ H s) (hD : H D = some (SetGO X.prog X.w D L)) (hx : VF X.K H x k) (hm : ∀ p ∈ L, VF X.K H p.1 p.2) (few : L.length + 1 < 64)
    (q : ∀ L' s', (k ∈ L.map (·.2) → L' = L) → (k ∉ L.map (·.2) → L'.Perm ((x, k) :: L)) → Inv X pins σ (upd H D (SetGO X.prog X.w D L')) s' → Q .none s') : wpAny (model X.prog X.w) X.A (call (.builtin "set.add") [.ref D, .ref x]) Q E s := by
  obtain ⟨es, ep, t, R⟩ := (show ObjOk X.prog X.w H s.heap D (SetGO X.prog X.w D L) from I.hok D _ hD).1
  refine sr_add_call (R.sr fun p hp => vf_is I (hm p hp)) (vf_is I hx) (by omega) few fun h' L' es' ep' t' tk sb r e1 e2 => q L' _ e1 e2 ?_
  have new := r.s0
  have he : ∃ u, h'.get? D = some u := by
    obtain ⟨o, ho, _⟩ := new.ob
    exact ⟨o, ho⟩
  exact I.write (e := D) (t' := tk) (by rw [hD]; trivial) (.inl rfl) (fun b u hb hu => (sb.2 b hb).trans hu) he (setGO_ok new)
/-- {elt for target in iter if ..}, elt a member: D the new set -/
def tSg (P : Program) (w : World) (K : PySem.W.Frag) (wi : TI) (g : TG) (tt : TT) (te : TE) (vs : List Nat) : TE := fun σ H Q => wi σ H fun J H1 => ∀ D, H1 D = none → ∃ W : Nat → Nat → Hp → Prop, (∃ m, W 0 m (upd H1 D (SetGO P w D []))) ∧ ∀ i m H, W i m H →
  (J.stop i H ∧ Q (.ref D) H) ∨ (J.go i H ∧ ∃ Nx : Hp → Prop, (∀ H', Nx H' → ∃ m', m' < m ∧ W (i + 1) m' H') ∧ ∀ x H', J.yld i H x H' → g x (wipe σ vs) H' fun σ2 H2 => wipe σ2 vs = wipe σ vs ∧ tt σ2 H2 fun b H3 =>
    if b = true then te σ2 H3 fun y H4 => ∃ (x : Addr) (k : Fm) (L : List (Addr × Fm)), y = .ref x ∧ VF K H4 x k ∧ H4 D = some (SetGO P w D L) ∧ (∀ p ∈ L, VF K H4 p.1 p.2) ∧ L.length + 1 < 64 ∧
      (∀ L', (k ∈ L.map (·.2) → L' = L) → (k ∉ L.map (·.2) → L'.Perm ((x, k) :: L)) → Nx (upd H4 D (SetGO P w D L'))) else Nx H3)
theorem pe_sg {Q0 : True} {elt tg iter : Expr} {ifs : List Expr} {scope : Scope} {own : List (PySem.Str × Nat)} {pos : Pos} {wi : TI} {g : TG} {tt : TT} {te : TE} (hc : X.calm = true) (hu : X.A.units + 64 < cLine) (hN : X.N.Nodup) (hi : PI X tg iter wi) (ok : BlkOk X.N X.env.scope scope own)
    (hg : ∀ (s : Shared) (H : Hp) (C : Addr) (cl : List (PySem.Str × Addr)) (fp : List Addr), PG (X.blk s H scope (compEnvC scope cl C X.env) fp) tg g) (ht : ∀ (s : Shared) (H : Hp) (C : Addr) (cl : List (PySem.Str × Addr)) (fp : List Addr), PTs (X.blk s H scope (compEnvC scope cl C X.env) fp) ifs tt)
    (he : ∀ (s : Shared) (H : Hp) (C : Addr) (cl : List (PySem.Str × Addr)) (fp : List Addr), PE (X.blk s H scope (compEnvC scope cl C X.env) fp) elt te) (hs : ∀ x, foldedSetIterable iter X.env x = pure x := by intro _; rfl) :
    PE X (.SetComp elt [⟨tg, iter, ifs, 0⟩] scope pos) (tSg X.prog X.w X.K wi g tt te (own.map (·.2))) := by
  refine ⟨fun pins s σ H Q I h => ?_⟩
  rw [eval_SetComp]
  have hfree : ∀ y ∈ scope.names, y.2 = .free → ∃ c, X.env.cells.lookup y.1 = some c := fun y hy e => I.ok.has _ (ok.free y hy e)
  refine wpAny_comprehension_free (use := none) rfl hs (closure_ok hfree) ok.kind (fun y hy e => by rw [ok.uniq y hy, e]) (thn (hi.run pins s σ H _ I h) fun xv s1 hx => thn hx fun itv s2 h2 => ?_)
  obtain ⟨it, fp, tn, J, H2, e, I2, T, st2, f2, q⟩ := h2
  subst e
  refine newSet_ok (newEnv_comp ?_)
  obtain ⟨D, hD⟩ : ∃ D, s2.heap.objs.size = D := ⟨_, rfl⟩
  rw [hD]
  obtain ⟨W, ⟨m0, w0⟩, turn⟩ := q D (I2.hok.fresh (Nat.le_of_eq hD))
  obtain ⟨s3, hs3⟩ : ∃ s3 : Shared, s3 = { s2 with heap := s2.heap.push { cls := .type "set", dict := none, data := .set #[] 0 (.fresh 0 0 (!X.w.params.followText "set-order")) } } := ⟨_, rfl⟩
  rw [← hs3]
  have h3 : s3.heap = s2.heap.push { cls := .type "set", dict := none, data := .set #[] 0 (.fresh 0 0 (!X.w.params.followText "set-order")) } := by rw [hs3]
  have I3 : Inv X pins σ (upd H2 D (SetGO X.prog X.w D [])) s3 := by
    rw [hs3]
    refine I2.laid (t' := s2.toks) (fun b o e => Heap.get?_push_of_some _ e) (Nat.le_of_eq hD) ?_
    rw [← hD]
    exact setGO_ok (SR.s0 (sr_fresh (Heap.get?_push_size _ rfl)))
  have below : ∀ b ∈ fp, b < s2.heap.objs.size := fun b hb => by
    obtain ⟨o, e, _⟩ := T.obj _ _ st2 b hb
    exact Heap.lt_size e
  have f3 : ∀ b ∈ fp, FpOk X pins (upd H2 D (SetGO X.prog X.w D [])) b ∧ b < s3.heap.objs.size := fun b hb => by
    have hlt := below b hb
    refine ⟨⟨?_, (f2 b hb).2⟩, by rw [h3, Heap.size_push]; exact Nat.lt_succ_of_lt hlt⟩
    rw [upd_ne (by rw [← hD]; exact Nat.ne_of_lt hlt)]
    exact (f2 b hb).1
  have st3 : tn 0 s3.heap := T.keep _ _ _ st2 fun b _ o e => by rw [h3]; exact Heap.get?_push_of_some _ e
  generalize hH3 : upd H2 D (SetGO X.prog X.w D []) = H3 at I3 w0 f3
  have I4 := block_start I3 ok hN f3
  have pg := hg s3 H3 s3.heap.objs.size (cellsFrom (s3.heap.objs.size + 1) scope.names (cloFrom X.env.cells scope.names [])) fp
  have pt := ht s3 H3 s3.heap.objs.size (cellsFrom (s3.heap.objs.size + 1) scope.names (cloFrom X.env.cells scope.names [])) fp
  have pe := he s3 H3 s3.heap.objs.size (cellsFrom (s3.heap.objs.size + 1) scope.names (cloFrom X.env.cells scope.names [])) fp
  have post : ∀ s' m H', Inv X pins σ H' s' → Q (.ref D) H' → s'.heap.Ns s3.heap.objs.size m → FpOk X pins H' s3.heap.objs.size → compPost (model X.prog X.w) X.A X.xe none (EP X pins σ Q) (.ref D) s3.heap.objs.size (.ok .next) s' := fun s' m H' I' q hn f => ⟨m, hn, fun h'' sb => by
    obtain ⟨z0, z1, z2, z3, z4, z5⟩ := f
    exact ⟨.ref D, H', I'.turned (t' := s'.toks) (fun b o hb e => (sb.2 b hb).trans e) z0 z1 z3 z4 z5, rfl, q⟩⟩
  show codeAny _ _ (.compStart (.SetComp elt [⟨tg, iter, ifs, 0⟩] scope pos) 0 (.ref it) (.ref D) (compEnvC scope (cellsFrom (s3.heap.objs.size + 1) scope.names (cloFrom X.env.cells scope.names [])) s3.heap.objs.size X.env)) (compPost (model X.prog X.w) X.A X.xe none (EP X pins σ Q) (.ref D) s3.heap.objs.size) { s3 with heap := pushCells (s3.heap.push { cls := .type "dict", data := .dict #[] }) scope.names }
  have n3 : ∀ b ∈ fp, H3 b = none := fun b hb => (f3 b hb).1.1
  generalize hce : compEnvC scope (cellsFrom (s3.heap.objs.size + 1) scope.names (cloFrom X.env.cells scope.names [])) s3.heap.objs.size X.env = ce at I4 pg pt pe ⊢
  have cL : ce.locals = s3.heap.objs.size := by subst hce; rfl
  generalize hs4 : ({ s3 with heap := pushCells (s3.heap.push { cls := .type "dict", data := .dict #[] }) scope.names } : Shared) = s4 at I4 ⊢
  have st4 : tn 0 s4.heap := T.keep _ _ _ st3 fun b _ o e => by rw [← hs4]; exact pushCells_keeps _ _ _ _ (Heap.get?_push_of_some _ e)
  have stat : ∀ {σ' : L2.St} {H' : Hp} {s' : Shared}, Inv (X.blk s3 H3 scope ce fp) [] σ' H' s' → (∀ b ∈ fp, H' b = none) → ∀ b ∈ fp, FpOk (X.blk s3 H3 scope ce fp) [] H' b := fun {σ' H' s'} I' hn b hb =>
    ⟨hn b hb, (I'.ok.exf b hb).1, I'.ok.exfs b hb, .inl hb, fun x c e => (I'.ok.exf b hb).2 x c e, fun p hp => absurd (show p ∈ ([] : List (Addr × Obj)) ++ [] from hp) (by simp)⟩
  have loop : codeAny (model X.prog X.w) X.A (.compLoop (.SetComp elt [⟨tg, iter, ifs, 0⟩] scope pos) 0 (.ref it) (.ref D) ce) (compPost (model X.prog X.w) X.A X.xe none (EP X pins σ Q) (.ref D) s3.heap.objs.size) s4 := by
    refine compLoopS_any (fun n s' => ∃ i H', Inv (X.blk s3 H3 scope ce fp) [] (wipe σ (own.map (·.2))) H' s' ∧ tn i s'.heap ∧ (∀ b ∈ fp, H' b = none) ∧ W i n H') ?_ m0 ⟨0, H3, I4, st4, n3, w0⟩
    rintro n s5 ⟨i, H5, I5, st5, n5, w5⟩
    rcases turn i n H5 w5 with ⟨stop, qq⟩ | ⟨go, Nx, hNx, step⟩
    · refine thnF (T.done (X.blk s3 H3 scope ce fp) rfl rfl rfl hc i [] s5 _ H5 (fun _ _ => False) I5 (stat I5 n5) st5 stop) fun r s6 ⟨hr, I6⟩ => ?_
      subst hr
      have I7 : Inv X pins σ H5 s6 := I3.call' (ch := fp) I6.os I6.base I6.hok I6.bare fun b hb => ⟨(f3 b hb).1.2.2.2.1, (f3 b hb).1.2.1, (f3 b hb).1.2.2.2.2.1, (f3 b hb).1.2.2.2.2.2⟩
      have nC : H5 s3.heap.objs.size = none := by
        have z : H5 ce.locals = none := I6.free
        rwa [cL] at z
      obtain ⟨m, hn, _⟩ := I6.loc
      have hn2 : s6.heap.Ns ce.locals m := hn
      rw [cL] at hn2
      exact post s6 m H5 I7 qq hn2 (I3.fpOk (Nat.le_refl _) nC)
    · refine thnF (T.item (X.blk s3 H3 scope ce fp) rfl rfl rfl hc i [] s5 _ H5 (fun _ _ => False) I5 (stat I5 n5) st5 go) fun r s6 ⟨u, hr, h6⟩ => ?_
      subst hr
      refine thnF h6 fun _ s7 ⟨x, H7, I7, r7, y7, st7, n7⟩ => ?_
      refine thnF (pg.run _ s7 _ H7 x u _ (I7.pinned (stat I7 n7) (T.obj _ _ st7)) r7 (step x H7 y7)) fun _ s8 ⟨σ8, H8, I8, hw8, q8⟩ => ?_
      refine thnF (pt.run _ s8 σ8 H8 _ I8 q8) fun b s9 ⟨H9, I9, q9⟩ => ?_
      have fin : ∀ {s' : Shared} {H' : Hp}, Inv (X.blk s3 H3 scope ce fp) ([] ++ pinsAt fp s7.heap) σ8 H' s' → Nx H' → ∃ m, m < n ∧ ∃ i H', Inv (X.blk s3 H3 scope ce fp) [] (wipe σ (own.map (·.2))) H' s' ∧ tn i s'.heap ∧ (∀ b ∈ fp, H' b = none) ∧ W i m H' := fun {s' H'} I' nx => by
        obtain ⟨m', hm, w'⟩ := hNx H' nx
        have pin' : ∀ b ∈ fp, ∀ o, s7.heap.get? b = some o → s'.heap.get? b = some o ∧ H' b = none := fun b hb o e =>
          let z := I'.pin (b, o) (List.mem_append_right _ (List.mem_append_right _ (mem_pinsAt hb e)))
          ⟨z.1, z.2.1⟩
        have hl : (wipe σ (own.map (·.2))).length = σ8.length := by rw [← hw8, wipe_length]
        refine ⟨m', hm, i + 1, H', (I'.unpinned (pins := [])).weak hl (fun j v e => ?_), T.keep _ _ _ st7 fun b hb o e => (pin' b hb o e).1, fun b hb => ?_, w'⟩
        · rw [← hw8] at e
          exact (wipe_some e).1
        · obtain ⟨o, e, _⟩ := T.obj _ _ st7 b hb
          exact (pin' b hb o e).2
      cases b with
      | false =>
        simp only [Bool.false_eq_true, if_false] at q9 ⊢
        exact fin I9 q9
      | true =>
        simp only [if_true] at q9 ⊢
        refine thnF (pe.run _ s9 σ8 H9 _ I9 q9) fun z s10 ⟨yv, H10, I10, r10, xa, k, L, ey, vf, hD10, hm, few, nx⟩ => ?_
        subst ey
        cases (show z = Value.ref xa from r10)
        exact addG_ok (X := X.blk s3 H3 scope ce fp) hu I10 hD10 vf hm few fun L' s11 e1 e2 I11 => fin I11 (nx L' e1 e2)
  exact codeAny_compStart_set loop (T.self X.A 0 _ _ _ st4 loop)
end
end SG
namespace SG
open PySem PySem.Spec PyProof.Rows L2 PpSet
section
variable {X : Cx}
/-- len of a set of members -/
theorem len_setG : CallR X (.builtin "len") (fun xs H Q => ∃ (D : Addr) (L : List (Addr × Fm)), xs = [.ref D] ∧ H D = some (SetGO X.prog X.w D L) ∧ Q (.int L.length) H) := by
  intro pins s σ H xs us Q I r h
  obtain ⟨D, L, rfl, hD, q⟩ := h
  cases r with
  | cons r1 r2 =>
    cases r2
    cases r1
    obtain ⟨es, ep, t, R⟩ := (show ObjOk X.prog X.w H s.heap D (SetGO X.prog X.w D L) from I.hok D _ hD).1
    obtain ⟨o, ho, hex, hd⟩ := R.ob
    have el : es.size = L.length := by
      have z := congrArg List.length R.rows
      rwa [rowsG_len, Array.length_toList] at z
    have e2 := R.tab.sz
    rw [List.length_map] at e2
    have hroom := R.room
    have few := R.few
    have fits : t.fits es.size = true := by
      unfold SetTable.fits SetTable.fill
      rw [R.tab.dm, Bool.and_eq_true, beq_iff_eq, decide_eq_true_eq]
      exact ⟨by omega, by show t.place.size + 0 ≤ t.mask; omega⟩
    refine call_len_set ho hex hd fits (by omega) ⟨.int L.length, H, I.tok _, ⟨_, by rw [el]⟩, q⟩
end
/-- over a tuple that the block leaves as it is -/
theorem sg_tup {P : Program} {w : World} {K : PySem.W.Frag} {a : Addr} {xs : List V} {g : TG} {tt : TT} {te : TE} {vs : List Nat} {σ : L2.St} {H1 : Hp} {D : Addr} {Qd : Hp → Prop} (Pv : Nat → Hp → Prop) (h0 : Pv 0 (upd H1 D (SetGO P w D []))) (hl : ∀ i H, i ≤ xs.length → Pv i H → SqT K H a xs)
    (hs : ∀ i x H, xs[i]? = some x → Pv i H → g x (wipe σ vs) H fun σ2 H2 => wipe σ2 vs = wipe σ vs ∧ tt σ2 H2 fun b H3 =>
      if b = true then te σ2 H3 fun y H4 => ∃ (x : Addr) (k : Fm) (L : List (Addr × Fm)), y = .ref x ∧ VF K H4 x k ∧ H4 D = some (SetGO P w D L) ∧ (∀ p ∈ L, VF K H4 p.1 p.2) ∧ L.length + 1 < 64 ∧
        (∀ L', (k ∈ L.map (·.2) → L' = L) → (k ∉ L.map (·.2) → L'.Perm ((x, k) :: L)) → Pv (i + 1) (upd H4 D (SetGO P w D L'))) else Pv (i + 1) H3) (hd : ∀ H, Pv xs.length H → Qd H) :
    ∃ W : Nat → Nat → Hp → Prop, (∃ m, W 0 m (upd H1 D (SetGO P w D []))) ∧ ∀ i m H, W i m H →
      ((Itt K a).stop i H ∧ Qd H) ∨ ((Itt K a).go i H ∧ ∃ Nx : Hp → Prop, (∀ H', Nx H' → ∃ m', m' < m ∧ W (i + 1) m' H') ∧ ∀ x H', (Itt K a).yld i H x H' → g x (wipe σ vs) H' fun σ2 H2 => wipe σ2 vs = wipe σ vs ∧ tt σ2 H2 fun b H3 =>
        if b = true then te σ2 H3 fun y H4 => ∃ (x : Addr) (k : Fm) (L : List (Addr × Fm)), y = .ref x ∧ VF K H4 x k ∧ H4 D = some (SetGO P w D L) ∧ (∀ p ∈ L, VF K H4 p.1 p.2) ∧ L.length + 1 < 64 ∧
          (∀ L', (k ∈ L.map (·.2) → L' = L) → (k ∉ L.map (·.2) → L'.Perm ((x, k) :: L)) → Nx (upd H4 D (SetGO P w D L'))) else Nx H3) := by
  refine ⟨fun i m H => m = xs.length - i ∧ i ≤ xs.length ∧ Pv i H, ⟨xs.length, by simp, Nat.zero_le _, h0⟩, ?_⟩
  rintro i m H ⟨rfl, hi, p⟩
  have q := hl i H hi p
  by_cases hlt : i < xs.length
  · refine .inr ⟨⟨xs, xs[i], q, by simp [hlt]⟩, Pv (i + 1), fun H' p' => ⟨xs.length - (i + 1), by omega, rfl, hlt, p'⟩, fun x H' y => ?_⟩
    obtain ⟨e, y⟩ := y
    subst e
    exact hs i x _ (y xs q) p
  · have e : i = xs.length := by omega
    subst e
    exact .inl ⟨⟨xs, q, Nat.le_refl _⟩, hd H p⟩
end SG
namespace GA
open PySem PySem.Spec PyProof.Rows L2 GenW GxR

/-- the frame of a generator expression runs: around it, its consumer's two units -/
abbrev arG (X : Cx) (cenv : Env) : Around := X.A.in1.in1.deeper cenv
/-- the context of a generator expression's frame -/
abbrev cxG (X : Cx) (s : Shared) (H : Hp) (cenv : Env) (fp : List Addr) : Cx :=
  { X with A := arG X cenv, s_0 := s, H_0 := H, env := cenv, outer := X.stack, stack := cenv :: X.stack, ex := fp, fn := fun _ => false, calm := true, pn := [], xe := fun _ _ => False }
/-- the frame's names, its cells, its object at C -/
abbrev envG (X : Cx) (scope : Scope) (C : Addr) (code : Value) : Env := genEnv scope (cloFrom X.env.cells scope.names []) C code builtinsNs X.env
/-- the expression's own scope: no cells of its own -/
structure GenOk (N : List Str) (sc scope : Scope) (own : List (Str × Nat)) : Prop extends BlkOk N sc scope own where
  co : scope.isCoroutine = false
  cell : ∀ y ∈ scope.names, y.2 ≠ .cell
  dot : scope.names.lookup (".0" : Str) = some NameKind.local

theorem over_gen {A : Around} {elt : Expr} {cls : List Comprehension} {scope : Scope} {pos : Pos} {it acc : Value} {env : Env} : A.over (.compLoop (.GeneratorExp elt cls scope pos) 0 it acc env) [] = A.deeper env := by
  first
    | rfl
    | (obtain ⟨hd, d, fr, gs, u⟩ := A; simp [Around.over, Around.deeper, marksOver, frameCount, unitsOf, envsOf, guardsOf, pushEnvs, pushGuards, Code.envs, Code.env?, Code.isFrame, Code.guards, Code.isGuard, Code.weight, Code.frames, Code.isCreation, Code.isCaller, Code.cUnits])
theorem over_gen0 {A : Around} {elt : Expr} {cls : List Comprehension} {scope : Scope} {pos : Pos} {it acc : Value} {env : Env} : A.over (.compStart (.GeneratorExp elt cls scope pos) 0 it acc env) [] = A.deeper env := by
  first
    | rfl
    | (obtain ⟨hd, d, fr, gs, u⟩ := A; simp [Around.over, Around.deeper, marksOver, frameCount, unitsOf, envsOf, guardsOf, pushEnvs, pushGuards, Code.envs, Code.env?, Code.isFrame, Code.guards, Code.isGuard, Code.weight, Code.frames, Code.isCreation, Code.isCaller, Code.cUnits])

section
variable {X : Cx} {pins : List (Addr × Obj)} {σ : L2.St} {H : Hp} {s : Shared}
theorem gen_start {scope : Scope} {own : List (Str × Nat)} {fp : List Addr} {code : Value} {h' : Heap} {go : Obj} {m0 : Str → Option Value} {c : GenState} {tk : Nat} (hd : X.A.handled = none) (I : L2.Inv X pins σ H s) (ok : GenOk X.N X.env.scope scope own) (hN : X.N.Nodup)
    (hfp : ∀ b ∈ fp, FpOk X pins H b ∧ b < s.heap.objs.size) (hns : h'.Ns s.heap.objs.size m0) (kp : ∀ b o, s.heap.get? b = some o → h'.get? b = some o) (hsz : s.heap.objs.size < h'.objs.size) (hgo : ∀ v, go.data ≠ .cell v) (hpu : ∀ h : Heap, (h.push go).get? h.objs.size = some go) (hc : c.bare = true) :
    L2.Inv (cxG X s H (envG X scope s.heap.objs.size code) fp) [(h'.objs.size, go)] (wipe σ (own.map (·.2))) H { s with gens := s.gens.push c, toks := tk, heap := h'.push go } := by
  have hfree : ∀ y ∈ scope.names, y.2 = .free → ∃ c, X.env.cells.lookup y.1 = some c := fun y hy e => by
    rcases ok.free y hy e with k | k
    · exact I.ok.has _ (.inl k)
    · exact I.ok.has _ (.inr k)
  have kp2 : ∀ b o, s.heap.get? b = some o → (h'.push go).get? b = some o := fun b o e => Heap.get?_push_of_some _ (kp b o e)
  have cm : ∀ {y c}, (y, c) ∈ cloFrom X.env.cells scope.names [] → X.env.cells.lookup y = some c ∧ c < s.heap.objs.size := fun {y c} hm => by
    rcases cloFrom_mem hm with hm | ⟨h1, rfl⟩
    · cases hm
    · obtain ⟨c, hc⟩ := hfree _ h1 rfl
      rw [hc]
      obtain ⟨w, z⟩ := I.cell _ _ hc
      exact ⟨rfl, z.lt⟩
  have mem : ∀ {y c}, (envG X scope s.heap.objs.size code).cells.lookup y = some c → X.env.cells.lookup y = some c ∧ c < s.heap.objs.size := fun {y c} e => cm (PySem.mem_of_lookup e)
  have look : ∀ {y}, scope.names.lookup y = some .free → ∃ c, (envG X scope s.heap.objs.size code).cells.lookup y = some c ∧ X.env.cells.lookup y = some c := fun {y} hl => by
    have hy : (y, NameKind.free) ∈ scope.names := PySem.mem_of_lookup hl
    obtain ⟨c', e'⟩ := mem_lookup (cloFrom_has (cells := X.env.cells) (acc := []) hy)
    exact ⟨c', e', (mem e').1⟩
  have nofs : ∀ b, s.heap.objs.size ≤ b → b ∉ frs X.stack := fun b hb hm => by
    rcases List.mem_cons.mp (I.stkSub b hm) with z | z
    · have := I.lt
      rw [← z] at this
      exact absurd (Nat.lt_of_lt_of_le this hb) (Nat.lt_irrefl _)
    · exact I.nofs hb z
  have okG : (cxG X s H (envG X scope s.heap.objs.size code) fp).Ok := by
    refine ⟨I.ok.mod, ok.kind, I.ok.glob, rfl, Nat.le_refl _, fun y z c e1 e2 => I.ok.inj y z c (mem e1).1 (mem e2).1, fun y hy => ?_, fun y c z e => absurd z (by simp), fun _ => hd, Around.frames_deeper I.ok.frames, .inr ⟨rfl, rfl⟩,
      fun b hb => ⟨Nat.ne_of_lt (hfp b hb).2, fun y c e z => (hfp b hb).1.2.2.2.2.1 y c (mem e).1 z⟩, I.bs, Nat.le_trans I.ok.bsz I.sz, fun b o e hb => ?_, fun b hb z => ?_, I.stack, I.stkFree⟩
    · have hy : scope.names.lookup y = some .cell ∨ scope.names.lookup y = some .free := hy
      rcases hy with hy | hy
      · exact absurd rfl (ok.cell _ (PySem.mem_of_lookup hy))
      · obtain ⟨c, h1, _⟩ := look hy
        exact ⟨c, h1⟩
    · rcases (hfp b hb).1.2.2.2.1 with z | z
      · exact I.ok.noex b o e z
      · exact absurd (Nat.lt_of_lt_of_le (Heap.lt_size e) (Nat.le_trans I.ok.bsz z)) (Nat.lt_irrefl _)
    · rcases List.mem_cons.mp (I.stkSub b z) with z | z
      · exact (hfp b hb).1.2.1 z
      · exact (hfp b hb).1.2.2.1 z
  refine ⟨okG, rfl, AllBare.push I.bare hc, Un.kept kp2, ⟨m0, hns.keeps fun b o e => Heap.get?_push_of_some _ e, fun i y av e1 e2 e3 => ?_⟩, fun y c e => ?_, I.hok.fresh (Nat.le_refl _), fun y c e => I.freeC y c (mem e).1, fun p hp => ?_, I.hok.kept kp2, by rw [wipe_length]; exact I.len⟩
  · obtain ⟨e2, hne⟩ := wipe_some e2
    have hfr : scope.names.lookup y = some .free := by
      have no : ∀ k, scope.names.lookup y = some k → ¬ (k = .local ∨ k = .cell) := fun k hk hh => by
        rcases ok.own _ (PySem.mem_of_lookup hk) hh with e' | e'
        · obtain ⟨p, hp, hpy⟩ := List.mem_map.mp e'
          have e3 := ok.ix p hp
          have : p.1 = y := hpy
          rw [this] at e3
          exact hne (List.mem_map.mpr ⟨p, hp, nodup_ix hN e3 e1⟩)
        · exact e' (List.mem_of_getElem? e1)
      have e3 : Vis scope y := e3
      rcases e3 with e3 | e3 | e3
      · exact absurd (.inl rfl) (no _ e3)
      · exact absurd (.inr rfl) (no _ e3)
      · exact e3
    obtain ⟨m, hn, hl⟩ := I.loc
    have hvis : Vis X.env.scope y := (ok.free _ (PySem.mem_of_lookup hfr) rfl).elim (fun k => .inr (.inl k)) (fun k => .inr (.inr k))
    obtain ⟨w, r, q⟩ := hl i y av e1 e2 hvis
    refine ⟨w, r, .inr ⟨.inr hfr, ?_⟩⟩
    obtain ⟨c, h1, h2⟩ := look hfr
    rcases q with ⟨k, _⟩ | ⟨_, c', e', z⟩
    · have k : X.env.scope.names.lookup y = some .local := k
      rcases ok.free _ (PySem.mem_of_lookup hfr) rfl with k' | k' <;> rw [show X.env.scope.names.lookup y = _ from k'] at k <;> cases k
    · rw [h2] at e'; cases e'
      exact ⟨c, h1, z.keeps kp2⟩
  · obtain ⟨w, z⟩ := I.cell y c (mem e).1
    exact ⟨w, z.keeps kp2⟩
  · have hp : p ∈ [(h'.objs.size, go)] := hp
    rw [List.mem_singleton.mp hp]
    exact ⟨hpu _, I.hok.fresh (Nat.le_of_lt hsz), Nat.ne_of_gt hsz, nofs _ (Nat.le_of_lt hsz), hgo⟩
end
end GA
namespace GA
open PySem PySem.Spec PyProof.Rows L2 GenW GxR

theorem inv_same {X : Cx} {pins : List (Addr × Obj)} {σ : L2.St} {H : Hp} {s s' : Shared} (I : L2.Inv X pins σ H s) (hh : s'.heap = s.heap) (ho : s'.os = s.os) (hb : AllBare s'.gens) : L2.Inv X pins σ H s' := by
  obtain ⟨h', g, d, t, o⟩ := s'
  have e1 : h' = s.heap := hh
  have e2 : o = s.os := ho
  subst e1 e2
  exact ⟨I.ok, I.os, hb, I.base, I.loc, I.cell, I.free, I.freeC, I.pin, I.hok, I.len⟩

/-- the plan of a walk: W by the turn and a measure; QT behind its end, QF behind the first item that is false -/
def Plan (J : It) (g : TG) (tt : TT) (te : TE) (σ0 : L2.St) (vs : List Nat) (QT QF : Hp → Prop) (W : Nat → Nat → Hp → Prop) : Prop :=
  ∀ i m H, W i m H → (J.stop i H ∧ QT H) ∨ (J.go i H ∧ ∃ Nx : Hp → Prop, (∀ H', Nx H' → ∃ m', m' < m ∧ W (i + 1) m' H') ∧ ∀ x H', J.yld i H x H' → g x σ0 H' fun σ2 H2 => wipe σ2 vs = σ0 ∧ tt σ2 H2 fun b H3 =>
    if b = true then te σ2 H3 fun y H4 => ∃ b, y = .bl b ∧ (if b = true then Nx H4 else QF H4) else Nx H3)
def GYp (X : Cx) (pins : List (Addr × Obj)) (QF : Hp → Prop) : Protocol := fun n s₀ v s kap =>
  ∃ b σ' H', v = .bool b ∧ L2.Inv X pins σ' H' s ∧ (b = false → QF H') ∧ (b = true → ∀ s'' : Shared, s''.heap = s.heap → s''.os = s.os → AllBare s''.gens → kap (.send .none) s'')
def GPn (X : Cx) (pins : List (Addr × Obj)) (σ0 : L2.St) (QT : Hp → Prop) : Nat → Shared → Shared → Prop := fun _ _ s₁ => ∃ H', L2.Inv X pins σ0 H' s₁ ∧ QT H'

theorem wipe_wipe (σ : L2.St) (vs : List Nat) (h : wipe σ vs = σ') : σ'.length = σ.length := by rw [← h, wipe_length]

section
variable {X : Cx} {s0 : Shared} {H0 : Hp} {cenv : Env} {fp : List Addr} {elt tg iter : Expr} {ifs : List Expr} {scope : Scope} {pos : Pos} {it a : Addr} {go : Obj} {tn : Nat → Heap → Prop} {J : It} {g : TG} {tt : TT} {te : TE} {σ0 : L2.St} {vs : List Nat} {QT QF : Hp → Prop} {W : Nat → Nat → Hp → Prop}
theorem gen_loop (hd : X.A.handled = none) (hco : cenv.scope.isCoroutine = false) (T : Turn X.prog X.w X.K tg J fp it tn) (ha : a ∉ fp) (pg : PG (cxG X s0 H0 cenv fp) tg g) (pt : PTs (cxG X s0 H0 cenv fp) ifs tt) (pe : PE (cxG X s0 H0 cenv fp) elt te)
    (hW : Plan J g tt te σ0 vs QT QF W) : ∀ (m n i : Nat) (H : Hp) (s₀ s : Shared), m < n → W i m H → L2.Inv (cxG X s0 H0 cenv fp) [(a, go)] σ0 H s → tn i s.heap → (∀ b ∈ fp, H b = none) →
      Seg (model X.prog X.w) X.A.in1.in1 (fun n s₀ r s₁ => r = .ok .next ∧ GPn (cxG X s0 H0 cenv fp) [(a, go)] σ0 QT n s₀ s₁) (GYp (cxG X s0 H0 cenv fp) [(a, go)] QF) n s₀
        (.compLoop (.GeneratorExp elt [⟨tg, iter, ifs, 0⟩] scope pos) 0 (.ref it) .none cenv) ((model X.prog X.w).den (.compLoop (.GeneratorExp elt [⟨tg, iter, ifs, 0⟩] scope pos) 0 (.ref it) .none cenv)) [] s := by
  intro m
  induction m using Nat.strongRecOn with
  | ind m ih =>
    intro n i H s₀ s hmn w I st nf
    have eA : X.A.in1.in1.over (.compLoop (.GeneratorExp elt [⟨tg, iter, ifs, 0⟩] scope pos) 0 (.ref it) .none cenv) [] = (cxG X s0 H0 cenv fp).A := over_gen
    have stat : ∀ {σ' : L2.St} {H' : Hp} {s' : Shared}, L2.Inv (cxG X s0 H0 cenv fp) [(a, go)] σ' H' s' → (∀ b ∈ fp, H' b = none) → ∀ b ∈ fp, FpOk (cxG X s0 H0 cenv fp) [(a, go)] H' b := fun {σ' H' s'} I' hn b hb =>
      ⟨hn b hb, (I'.ok.exf b hb).1, I'.ok.exfs b hb, .inl hb, fun x c e => (I'.ok.exf b hb).2 x c e, fun p hp e => by
        have hp : p ∈ [(a, go)] := hp
        rw [List.mem_singleton.mp hp] at e
        exact ha (by rw [show a = b from e]; exact hb)⟩
    show Seg _ _ _ _ _ s₀ _ ((compTurn (.GeneratorExp elt [⟨tg, iter, ifs, 0⟩] scope pos) 0 (.ref it) .none cenv).onRaise (leaving cenv)) [] s
    rw [compTurn_gen, Sem.onRaise_eq_wrap]
    refine seg_bind_wrap (wpAny_standAt ?_)
    rcases hW i m H w with ⟨stop, qq⟩ | ⟨go', Nx, hNx, step⟩
    · refine seg_bind_wrap ?_
      rw [eA]
      refine thnF (T.done (cxG X s0 H0 cenv fp) rfl rfl rfl rfl i [(a, go)] s _ H (fun _ _ => False) I (stat I nf) st stop) fun r s6 ⟨hr, I6⟩ => ?_
      subst hr
      exact seg_end (.ok .next) ⟨rfl, H, I6, qq⟩
    · refine seg_bind_wrap ?_
      rw [eA]
      refine thnF (T.item (cxG X s0 H0 cenv fp) rfl rfl rfl rfl i [(a, go)] s _ H (fun _ _ => False) I (stat I nf) st go') fun r s6 ⟨u, hr, h6⟩ => ?_
      subst hr
      show Seg _ _ _ _ _ s₀ _ (Sem.wrap _ _ _ _ (letOwnedTupleGo tg (.ref it) u >>= _)) [] s6
      refine seg_bind_wrap ?_
      rw [eA]
      refine thnF h6 fun _ s7 ⟨x, H7, I7, r7, y7, st7, n7⟩ => ?_
      have I7' := I7.pinned (stat I7 n7) (T.obj _ _ st7)
      refine seg_bind_wrap ?_
      rw [eA]
      refine thnF (pg.run _ s7 _ H7 x u _ I7' r7 (step x H7 y7)) fun _ s8 ⟨σ8, H8, I8, hw8, q8⟩ => ?_
      refine seg_bind_wrap ?_
      rw [eA]
      refine thnF (pt.run _ s8 σ8 H8 _ I8 q8) fun b s9 ⟨H9, I9, q9⟩ => ?_
      -- the turn's end
      have fin : ∀ {s' : Shared} {H' : Hp}, L2.Inv (cxG X s0 H0 cenv fp) ([(a, go)] ++ pinsAt fp s7.heap) σ8 H' s' → L2.Inv (cxG X s0 H0 cenv fp) [(a, go)] σ0 H' s' ∧ tn (i + 1) s'.heap ∧ (∀ b ∈ fp, H' b = none) := fun {s' H'} I' => by
        have pin' : ∀ b ∈ fp, ∀ o, s7.heap.get? b = some o → s'.heap.get? b = some o ∧ H' b = none := fun b hb o e =>
          let z := I'.pin (b, o) (List.mem_append_right _ (List.mem_append_right _ (mem_pinsAt hb e)))
          ⟨z.1, z.2.1⟩
        have hl : σ0.length = σ8.length := by rw [← hw8, wipe_length]
        refine ⟨(I'.unpinned (pins := [(a, go)])).weak hl (fun j v e => ?_), T.keep _ _ _ st7 fun b hb o e => (pin' b hb o e).1, fun b hb => ?_⟩
        · rw [← hw8] at e
          exact (wipe_some e).1
        · obtain ⟨o, e, _⟩ := T.obj _ _ st7 b hb
          exact (pin' b hb o e).2
      cases b with
      | false =>
        simp only [Bool.false_eq_true, if_false] at q9 ⊢
        obtain ⟨m', hm, w'⟩ := hNx H9 q9
        obtain ⟨f1, f2, f3⟩ := fin I9
        exact seg_again rfl (ih m' hm n (i + 1) H9 s₀ s9 (by omega) w' f1 f2 f3)
      | true =>
        simp only [if_true] at q9 ⊢
        have hy : ∀ v, yieldOut cenv v = yieldValue v := fun v => by simp only [yieldOut, hco, Bool.false_eq_true, if_false]
        simp only [hy]
        rw [Sem.bind_eq_wrap', Sem.bind_eq_wrap', Sem.wrap_wrap, Sem.wrap_wrap]
        refine seg_wrap ?_
        rw [eA]
        refine thnF (pe.run _ s9 σ8 H9 _ I9 q9) fun z s10 ⟨yv, H10, I10, r10, bb, ey, q10⟩ => ?_
        subst ey
        have ez : z = Value.bool bb := r10
        subst ez
        obtain ⟨f1, f2, f3⟩ := fin I10
        obtain ⟨n', rfl⟩ : ∃ n', n = n' + 1 := ⟨n - 1, by omega⟩
        refine seg_at (seg_yield rfl rfl rfl ⟨bb, σ0, H10, rfl, f1, fun hb => ?_, fun hb s'' e1 e2 e3 => ?_⟩)
        · rw [hb, if_neg Bool.false_ne_true] at q10
          exact q10
        · rw [hb, if_pos rfl] at q10
          obtain ⟨m', hm, w'⟩ := hNx H10 q10
          exact seg_again rfl (ih m' hm n' (i + 1) H10 s'' s'' (by omega) w' (inv_same f1 e1 e2 e3) (T.keep _ _ _ f2 fun b hb o e => by rw [e1]; exact e) f3)

theorem gen_first (hd : X.A.handled = none) (hco : cenv.scope.isCoroutine = false) (T : Turn X.prog X.w X.K tg J fp it tn) (ha : a ∉ fp) (pg : PG (cxG X s0 H0 cenv fp) tg g) (pt : PTs (cxG X s0 H0 cenv fp) ifs tt) (pe : PE (cxG X s0 H0 cenv fp) elt te)
    (hW : Plan J g tt te σ0 vs QT QF W) (m n : Nat) (H : Hp) (s₀ s : Shared) (hmn : m < n) (w : W 0 m H) (I : L2.Inv (cxG X s0 H0 cenv fp) [(a, go)] σ0 H s) (st : tn 0 s.heap) (nf : ∀ b ∈ fp, H b = none) :
      Seg (model X.prog X.w) X.A.in1.in1 (fun n s₀ r s₁ => r = .ok .next ∧ GPn (cxG X s0 H0 cenv fp) [(a, go)] σ0 QT n s₀ s₁) (GYp (cxG X s0 H0 cenv fp) [(a, go)] QF) n s₀
        (.compStart (.GeneratorExp elt [⟨tg, iter, ifs, 0⟩] scope pos) 0 (.ref it) .none cenv) ((model X.prog X.w).den (.compStart (.GeneratorExp elt [⟨tg, iter, ifs, 0⟩] scope pos) 0 (.ref it) .none cenv)) [] s := by
  have loop := gen_loop (elt := elt) (iter := iter) (ifs := ifs) (scope := scope) (pos := pos) (go := go) hd hco T ha pg pt pe hW m n 0 H s₀ s hmn w I st nf
  show Seg _ _ _ _ _ s₀ _ ((compStart (.GeneratorExp elt [⟨tg, iter, ifs, 0⟩] scope pos) 0 (.ref it) .none cenv).onRaise (leaving cenv)) [] s
  unfold compStart
  rw [Sem.onRaise_eq_wrap]
  show Seg _ _ _ _ _ s₀ _ ((ask >>= _).wrap _ _ _ _) [] s
  refine seg_bind_wrap (wpAny_askSetting ?_)
  split
  · exact seg_again rfl loop
  · first
      | exact seg_bind_wrap (wpAny_rule (seg_bind_wrap (wpAny_standAt (seg_bind_wrap (T.self _ 0 s _ _ st (seg_again rfl loop))))))
      | (refine seg_bind_wrap (wpAny_rule ?_); show Seg _ _ _ _ _ s₀ _ ((standAt iter.pos >>= _).wrap _ _ _ _) [] s; exact seg_bind_wrap (wpAny_standAt (seg_bind_wrap (T.self _ 0 s _ _ st (seg_again rfl loop)))))
end
end GA
namespace GA
open PySem PySem.Spec PyProof.Rows L2 GenW GxR

theorem bare_set {s : Shared} {g : Nat} {gs x : GenState} (h : AllBare s.gens) (hg : s.gens[g]? = some gs) (hx : x.bare = true) : AllBare (s.setGen g x).gens :=
  AllBare.moved h (g := g) (.inr ⟨GenOnly.setGen s g x, fun z hz => by rw [setGen_self hg] at hz; cases hz; exact hx⟩)

/-- the generator's own object -/
def GoAt (go : Obj) (g : Nat) : Prop := go.cls = .type "generator" ∧ (∃ nm qn, go.data = .fields #[.int g 0, nm, qn]) ∧ go.slots = #[]

section
variable {X : Cx} {pins : List (Addr × Obj)} {σ : L2.St} {H4 : Hp} {s4 : Shared} {cenv : Env} {fp : List Addr} {a : Addr} {go : Obj} {g : Nat} {σ0 : L2.St} {QT QF : Hp → Prop} {RR : Result → Shared → Prop}
theorem all_loop (hd : X.A.handled = none) (hdp : X.A.depth < recursionLimit) (hgo : GoAt go g) (I4 : L2.Inv X pins σ H4 s4) (f4 : ∀ b ∈ fp, FpOk X pins H4 b)
    (hT : ∀ s' H', L2.Inv X pins σ H' s' → QT H' → RR (.ok (.ret (.bool true))) s') (hF : ∀ s' H', L2.Inv X pins σ H' s' → QF H' → RR (.ok (.ret (.bool false))) s') :
    ∀ (n : Nat) (gs : GenState) (s : Shared) (σ' : L2.St) (H' : Hp), L2.Inv (cxG X s4 H4 cenv fp) [(a, go)] σ' H' s → s.gens[g]? = some gs →
      (∀ s'' : Shared, s''.heap = s.heap → s''.os = s.os → AllBare s''.gens → gs.Goes (model X.prog X.w) X.A.in1.in1 (fun n s₀ r s₁ => r = .ok .next ∧ GPn (cxG X s4 H4 cenv fp) [(a, go)] σ0 QT n s₀ s₁) (GYp (cxG X s4 H4 cenv fp) [(a, go)] QF) n (.send .none) s'') →
      codeAny (model X.prog X.w) X.A (.builtin "all.loop" ⟨[.ref a], []⟩) RR s := by
  have back : ∀ {σ' : L2.St} {H' : Hp} {s1 s' : Shared}, L2.Inv (cxG X s4 H4 cenv fp) [(a, go)] σ' H' s1 → s'.heap = s1.heap → s'.os = s1.os → AllBare s'.gens → L2.Inv X pins σ H' s' := fun {σ' H' s1 s'} I6 e1 e2 e3 => by
    refine I4.call' (ch := fp) (e2.trans I6.os) (by rw [e1]; exact I6.base) (by rw [e1]; exact I6.hok) e3 fun b hb => ⟨(f4 b hb).2.2.2.1, (f4 b hb).2.1, (f4 b hb).2.2.2.2.1, (f4 b hb).2.2.2.2.2⟩
  intro n
  induction n with
  | zero =>
    intro gs s σ' H' I hg hgs
    obtain ⟨gc, ⟨nm, qn, gd⟩, gsl⟩ := hgo
    have isg : s.heap.IsGen a g := ⟨go, nm, qn, (I.pin (a, go) (List.mem_append_right _ (List.mem_singleton.mpr rfl))).1, gc, gd, gsl⟩
    refine codeAny_builtin F.entry_all_loop ?_
    rw [Around.under_plainId F.plain_all_loop _]
    show wpAny _ X.A.in1 (pyNext (.ref a) >>= _) _ _ s
    refine wpAny_bind (wpAny_gsz (Nat.le_refl s.gens.size) ?_)
    refine wpAny_pyNext_genexpQ (A := X.A.in1) (n := 0) (P := GPn (cxG X s4 H4 cenv fp) [(a, go)] σ0 QT) (Y := GYp (cxG X s4 H4 cenv fp) [(a, go)] QF) hd I.nolimit hdp isg hg
      (hgs (s.setGen g .running) rfl rfl (bare_set I.bare hg rfl)) (fun v s₁ gs' hb hv => ?_) (fun s₁ hp h' hk => ?_)
    · intro hsz
      obtain ⟨b, σ2, H2, ev, I2, q1, q2⟩ := hv
      subst ev
      have hlt : g < s.gens.size := by
        rcases Nat.lt_or_ge g s.gens.size with h | h
        · exact h
        · rw [Array.getElem?_eq_none h] at hg; cases hg
      have hsz2 : g < s₁.gens.size := by
        have e := setGen_size s₁ g gs'
        have hsz : s.gens.size ≤ (s₁.setGen g gs').gens.size := hsz
        omega
      have hg1 := Array.getElem?_eq_getElem hsz2
      refine wpAny_bind (wpAny_holding (wpAny_truthy_bool ?_))
      refine wpAny_bind (wpAny_letGo ?_)
      cases b with
      | true => exact False.elim (q2 rfl (s₁.setGen g gs') rfl rfl (bare_set I2.bare hg1 hb))
      | false =>
        simp only [Bool.false_eq_true, if_false]
        refine wpAny_bind (wpAny_rule (wpAny_pure ?_))
        exact hF _ H2 (back I2 rfl rfl (bare_set I2.bare hg1 hb)) (q1 rfl)
    · intro hsz
      obtain ⟨H2, I2, q⟩ := hp
      have hlt : g < s.gens.size := by
        rcases Nat.lt_or_ge g s.gens.size with h | h
        · exact h
        · rw [Array.getElem?_eq_none h] at hg; cases hg
      have hsz2 : g < s₁.gens.size := by
        have e := setGen_size s₁ g .finished
        have hsz : s.gens.size ≤ (s₁.setGen g .finished).gens.size := hsz
        omega
      have hg1 := Array.getElem?_eq_getElem hsz2
      refine wpAny_bind (wpAny_rule (wpAny_pure ?_))
      exact hT _ H2 ((back (s' := s₁.setGen g .finished) I2 rfl rfl (bare_set I2.bare hg1 rfl)).kept (t' := s₁.toks) hk) q
  | succ n ih =>
    intro gs s σ' H' I hg hgs
    obtain ⟨gc, ⟨nm, qn, gd⟩, gsl⟩ := hgo
    have isg : s.heap.IsGen a g := ⟨go, nm, qn, (I.pin (a, go) (List.mem_append_right _ (List.mem_singleton.mpr rfl))).1, gc, gd, gsl⟩
    refine codeAny_builtin F.entry_all_loop ?_
    rw [Around.under_plainId F.plain_all_loop _]
    show wpAny _ X.A.in1 (pyNext (.ref a) >>= _) _ _ s
    refine wpAny_bind (wpAny_gsz (Nat.le_refl s.gens.size) ?_)
    refine wpAny_pyNext_genexpQ (A := X.A.in1) (n := n + 1) (P := GPn (cxG X s4 H4 cenv fp) [(a, go)] σ0 QT) (Y := GYp (cxG X s4 H4 cenv fp) [(a, go)] QF) hd I.nolimit hdp isg hg
      (hgs (s.setGen g .running) rfl rfl (bare_set I.bare hg rfl)) (fun v s₁ gs' hb hv => ?_) (fun s₁ hp h' hk => ?_)
    · intro hsz
      obtain ⟨b, σ2, H2, ev, I2, q1, q2⟩ := hv
      subst ev
      have hlt : g < s.gens.size := by
        rcases Nat.lt_or_ge g s.gens.size with h | h
        · exact h
        · rw [Array.getElem?_eq_none h] at hg; cases hg
      have hsz2 : g < s₁.gens.size := by
        have e := setGen_size s₁ g gs'
        have hsz : s.gens.size ≤ (s₁.setGen g gs').gens.size := hsz
        omega
      have hg1 := Array.getElem?_eq_getElem hsz2
      refine wpAny_bind (wpAny_holding (wpAny_truthy_bool ?_))
      refine wpAny_bind (wpAny_letGo ?_)
      cases b with
      | true =>
        simp only [if_true]
        refine wpAny_pure ⟨plainId_quiet F.plain_all_loop _, ih gs' (s₁.setGen g gs') σ2 H2 (inv_same I2 rfl rfl (bare_set I2.bare hg1 hb)) (setGen_self hg1) fun s'' e1 e2 e3 => q2 rfl s'' e1 e2 e3⟩
      | false =>
        simp only [Bool.false_eq_true, if_false]
        refine wpAny_bind (wpAny_rule (wpAny_pure ?_))
        exact hF _ H2 (back I2 rfl rfl (bare_set I2.bare hg1 hb)) (q1 rfl)
    · intro hsz
      obtain ⟨H2, I2, q⟩ := hp
      have hlt : g < s.gens.size := by
        rcases Nat.lt_or_ge g s.gens.size with h | h
        · exact h
        · rw [Array.getElem?_eq_none h] at hg; cases hg
      have hsz2 : g < s₁.gens.size := by
        have e := setGen_size s₁ g .finished
        have hsz : s.gens.size ≤ (s₁.setGen g .finished).gens.size := hsz
        omega
      have hg1 := Array.getElem?_eq_getElem hsz2
      refine wpAny_bind (wpAny_rule (wpAny_pure ?_))
      exact hT _ H2 ((back (s' := s₁.setGen g .finished) I2 rfl rfl (bare_set I2.bare hg1 rfl)).kept (t' := s₁.toks) hk) q
end

section
variable {X : Cx} {pins : List (Addr × Obj)} {σ : L2.St} {H : Hp} {s : Shared}
/-- a generator expression is made -/
theorem gen_made {c P : Addr} {elt tg iter : Expr} {gpos : Pos} {scope : Scope} {own : List (Str × Nat)} {wi : TI} {k : Nat} {Q' : Value → Shared → Prop} {R : It → Hp → Prop}
    (hr : Room k X.A) (TB : TabB X.base X.mg c P) (hcode : X.env.code = .ref c) (hN : X.N.Nodup) (ok : GenOk X.N X.env.scope scope own) (hi : PI X tg iter wi)
    (hs : ∀ v, genFold iter X.env v = pure v) (I : L2.Inv X pins σ H s) (h : wi σ H fun J H1 => TabG H1 P ∧ R J H1)
    (hQ : ∀ J H1 H2 s4 it fp tn code g a go s5, R J H1 → Tabbed P H1 H2 → L2.Inv X pins σ H2 s4 → Turn X.prog X.w X.K tg J fp it tn → (∀ b ∈ fp, FpOk X pins H2 b) → a ∉ fp → GoAt go g →
      L2.Inv (cxG X s4 H2 (envG X scope s4.heap.objs.size code) fp) [(a, go)] (wipe σ (own.map (·.2))) H2 s5 → tn 0 s5.heap →
      s5.gens[g]? = some (.fresh (.compStart (.GeneratorExp elt [⟨tg, iter, [], 0⟩] scope gpos) 0 (.ref it) .none (envG X scope s4.heap.objs.size code))) → Q' (.ref a) s5) :
    wpAny (model X.prog X.w) X.A (eval (.GeneratorExp elt [⟨tg, iter, [], 0⟩] scope gpos) X.env) Q' X.xe s := by
  have hfree : ∀ y ∈ scope.names, y.2 = .free → ∃ c, X.env.cells.lookup y.1 = some c := fun y hy e => by
    rcases ok.free y hy e with k | k
    · exact I.ok.has _ (.inl k)
    · exact I.ok.has _ (.inr k)
  refine wpAny_GeneratorExp_make ok.co (closure_ok hfree) ok.cell ok.dot ok.kind (by have := hr.dp; omega) (thn (hi.run pins s σ H _ I h) fun xv s1 hx => thn hx fun itv s2 h2 => ?_) hs
  obtain ⟨it, fp, tn, J, H1, e, I1, T, st1, f1, ⟨ps, hP, ht⟩, q1⟩ := h2
  subst e
  have hPs : s2.heap.get? P = some { cls := .none, data := .fields ps } := I1.hok P _ hP
  have cd : PySem.W.CodeHd s2.heap c P := TB.code.keeps fun b u e => I1.bk b u e
  have cont : ∀ (code : Value) (h3 : Heap) (tk : Nat) (ps' : Array Value), Heap.ExtBut P s2.heap h3 → s2.heap.objs.size ≤ h3.objs.size → h3.get? P = some { cls := .none, data := .fields ps' } → (∃ more, ps' = ps ++ more) → TriplesOk ps'.toList →
      wpAny (model X.prog X.w) X.A (builtinsFor X.env.globals X.env.builtins) (fun bi s₄ =>
        ∀ h', h'.Ns s₄.heap.objs.size (fun y => if y = ".0" then some (.ref it) else none) → Heap.SameBut s₄.heap.objs.size (s₄.heap.push { cls := .type "frame", data := .dict #[] }) h' →
          Q' (.ref h'.objs.size) { s₄ with
            gens := s₄.gens.push (.fresh (.compStart (.GeneratorExp elt [⟨tg, iter, [], 0⟩] scope gpos) 0 (.ref it) .none (genEnv scope (cloFrom X.env.cells scope.names []) s₄.heap.objs.size code bi X.env))),
            toks := s₄.toks + 1 + 1 + 1,
            heap := h'.push { cls := .type "generator", data := .fields #[.int s₄.gens.size 0, .str "<genexpr>" (s₄.toks + 1), .str (X.env.qual ++ "<genexpr>") (s₄.toks + 1 + 1)] } }) X.xe { s2 with heap := h3, toks := tk } := by
    intro code h3 tk ps' hx hsz hP3 hmore ht3
    obtain ⟨bm, ob, e1, e2, e3, e4, e5, e6, e7, e8⟩ := TB.bm
    have keep3 : ∀ b u, b ≠ P → s2.heap.get? b = some u → h3.get? b = some u := fun b u hb e => hx b u hb e
    refine wpAny_builtinsFor (m := X.mg) (by rw [I1.ok.glob]; exact (I1.mod.glob.keeps I1.bk).extBut hx TB.gP) e1 e2 (keep3 _ _ e4 (I1.bk _ _ e5)) e6 e7 e8 ?_
    intro h' hns hsb
    obtain ⟨more, em⟩ := hmore
    have I4 := inv_tab (more := more) (h' := h3) (g' := s2.gens) (d' := s2.drawn) (t' := tk) I1 hP keep3 (by rw [← em]; exact hP3) I1.bare
    have nP : ∀ b ∈ fp, b ≠ P := fun b hb e => by
      have := (f1 b hb).1
      rw [e, hP] at this
      cases this
    have f4 : ∀ b ∈ fp, FpOk X pins (upd H1 P (.tbl (ps ++ more))) b := fun b hb => ⟨by rw [upd_ne (nP b hb)]; exact (f1 b hb).1, (f1 b hb).2⟩
    have st4 : tn 0 h3 := T.keep _ _ _ st1 fun b hb o e => keep3 b o (nP b hb) e
    have hszC : h'.objs.size = h3.objs.size + 1 := by
      have e := hsb.1
      rw [Heap.size_push] at e
      exact e
    have kp : ∀ b o, h3.get? b = some o → h'.get? b = some o := fun b o e => hsb.extBut b o (Nat.ne_of_lt (Heap.lt_size e)) (Heap.get?_push_of_some _ e)
    have lt4 : ∀ b ∈ fp, b < h3.objs.size := fun b hb => by
      obtain ⟨o, e, _⟩ := T.obj _ _ st4 b hb
      exact Heap.lt_size e
    have I5 := gen_start (scope := scope) (own := own) (fp := fp) (code := code) (h' := h') (m0 := fun y => if y = ".0" then some (.ref it) else none)
      (go := { cls := .type "generator", data := .fields #[.int s2.gens.size 0, .str "<genexpr>" (tk + 1), .str (X.env.qual ++ "<genexpr>") (tk + 1 + 1)] })
      (c := .fresh (.compStart (.GeneratorExp elt [⟨tg, iter, [], 0⟩] scope gpos) 0 (.ref it) .none (envG X scope h3.objs.size code))) (tk := tk + 1 + 1 + 1) hr.hd I4 ok hN (fun b hb => ⟨f4 b hb, lt4 b hb⟩) hns kp (by rw [hszC]; exact Nat.lt_succ_self _) (fun v q => by cases q) (fun h => Heap.get?_push_size _ rfl) rfl
    refine hQ J H1 (upd H1 P (.tbl (ps ++ more))) _ it fp tn code s2.gens.size h'.objs.size _ _ q1 ⟨⟨ps ++ more, upd_same, by rw [← em]; exact ht3⟩, fun b hb => upd_ne hb⟩ I4 T f4 (fun hm => ?_) ⟨rfl, ⟨_, _, rfl⟩, rfl⟩ I5 ?_ (Array.getElem?_push_size ..)
    · have := lt4 _ hm
      rw [hszC] at this
      exact absurd (Nat.lt_of_succ_lt this) (Nat.lt_irrefl _)
    · exact T.keep _ _ _ st4 fun b hb o e => Heap.get?_push_of_some _ (kp b o e)
  refine ⟨I1.nolimit, ?_⟩
  cases hf : codeAmong gpos ps.toList with
  | none =>
    refine wpAny_genexprCodeX hcode (cd.code hPs ht) (cd.tab hPs) hf fun c' h' tk hx hge hlt hco' _ htab' _ => ?_
    obtain ⟨o1, vs, f1, tf, fl, tg, inF, tx, tt, op, _, _, _, _, _, _, _, _, _, htr, _⟩ := hco'
    exact cont _ h' tk _ hx (Nat.le_trans hge (Nat.le_of_lt hlt)) htab'.2 ⟨_, rfl⟩ htr
  | some cv =>
    refine wpAny_genexprCode_hit hcode (cd.code hPs ht) hf ?_
    exact cont cv s2.heap s2.toks ps (Heap.ExtBut.refl _ _) (Nat.le_refl _) hPs ⟨#[], by simp⟩ ht

/-- all(elt for tg in iter), elt a truth -/
def tAllG (P : Addr) (wi : TI) (g : TG) (te : TE) (vs : List Nat) : TE := fun σ H Q => wi σ H fun J H1 => TabG H1 P ∧ ∀ H2, Tabbed P H1 H2 →
  ∃ W : Nat → Nat → Hp → Prop, (∃ m, W 0 m H2) ∧ Plan J g tYes te (wipe σ vs) vs (fun H' => Q (.bl true) H') (fun H' => Q (.bl false) H') W
theorem pe_allG {c P : Addr} {elt tg iter : Expr} {p pos gpos : Pos} {scope : Scope} {own : List (Str × Nat)} {wi : TI} {g : TG} {te : TE} {k : Nat}
    (hr : Room k X.A) (hg : Gl X "all") (hm : X.mg "all" = none) (hb : bootBuiltins "all" = some (.builtin "all")) (TB : TabB X.base X.mg c P) (hcode : X.env.code = .ref c) (hN : X.N.Nodup) (ok : GenOk X.N X.env.scope scope own) (hi : PI X tg iter wi)
    (hgt : ∀ (s : Shared) (H : Hp) (C : Addr) (code : Value) (fp : List Addr), PG (cxG X s H (envG X scope C code) fp) tg g) (he : ∀ (s : Shared) (H : Hp) (C : Addr) (code : Value) (fp : List Addr), PE (cxG X s H (envG X scope C code) fp) elt te)
    (hs : ∀ v, genFold iter X.env v = pure v := by intro _; rfl)
    (hst : starEach [.GeneratorExp elt [⟨tg, iter, [], 0⟩] scope gpos] X.env = (false, eval (.GeneratorExp elt [⟨tg, iter, [], 0⟩] scope gpos) X.env) :: starEach [] X.env := by rfl) :
    PE X (.Call (.Name "all" p) [.GeneratorExp elt [⟨tg, iter, [], 0⟩] scope gpos] [] pos) (tAllG P wi g te (own.map (·.2))) := by
  refine ⟨fun pins s σ H Q I h => ?_⟩
  refine wpAny_Call_Name_kw (ld_blt I hg hm hb ?_)
  refine PyProof.Rows.callWith_builtin1 ?_ hst (by rfl)
  rw [hst]
  show wpAny _ _ (spliced ((false, eval (.GeneratorExp elt [⟨tg, iter, [], 0⟩] scope gpos) X.env) :: backTo pos (starEach [] X.env))) _ _ s
  refine Calls.spliced_cons (gen_made (R := fun J H1 => ∀ H2, Tabbed P H1 H2 → ∃ W : Nat → Nat → Hp → Prop, (∃ m, W 0 m H2) ∧ Plan J g tYes te (wipe σ (List.map (fun q : Str × Nat => q.2) own)) (List.map (fun q : Str × Nat => q.2) own) (fun H' => Q (.bl true) H') (fun H' => Q (.bl false) H') W)
    hr TB hcode hN ok hi hs I h fun J H1 H2 s4 it fp tn code g' a go s5 hR hT I4 T f4 ha hgo I5 st5 hg5 => ?_)
  refine Calls.spliced_nil ?_
  obtain ⟨W, ⟨m, w0⟩, pl⟩ := hR H2 hT
  have cn : (envG X scope s4.heap.objs.size code).scope.isCoroutine = false := ok.co
  have nf5 : ∀ b ∈ fp, H2 b = none := fun b hb => (f4 b hb).1
  refine call_function_tree F.kind_all F.plain_all F.entry_all (F.args_all1 _) ?_
  unfold Builtin.«all»
  refine wpAny_bind (m := oneArg "all" _) (wpAny_pure ?_)
  have isg : s5.heap.IsGen a g' := by
    obtain ⟨gc, ⟨nm, qn, gd⟩, gsl⟩ := hgo
    exact ⟨go, nm, qn, (I5.pin (a, go) (List.mem_append_right _ (List.mem_singleton.mpr rfl))).1, gc, gd, gsl⟩
  refine wpAny_bind (wpAny_pyIter_gen isg ?_)
  refine wpAny_pure ⟨plainId_quiet F.plain_all_loop _, ?_⟩
  refine all_loop (σ0 := wipe σ (List.map (fun q : Str × Nat => q.2) own)) (QT := fun H' => Q (.bl true) H') (QF := fun H' => Q (.bl false) H') hr.hd (by have := hr.dp; omega) hgo I4 f4 (fun s' H' I' q => ⟨.bl true, H', I', rfl, q⟩) (fun s' H' I' q => ⟨.bl false, H', I', rfl, q⟩)
    (m + 1) _ s5 _ H2 I5 hg5 fun s'' e1 e2 e3 => ⟨rfl, ?_⟩
  exact gen_first (X := X) (go := go) hr.hd cn T ha (hgt _ _ _ _ _) pts_nil (he _ _ _ _ _) pl m (m + 1) H2 s'' s'' (Nat.lt_succ_self _) w0 (inv_same I5 e1 e2 e3) (by rw [e1]; exact st5) nf5
end
end GA
namespace SB
/-! ### numbers in lowest terms -/
def Lo (q : Int × Int) : Prop := 0 < q.2 ∧ Nat.gcd q.1.natAbs q.2.natAbs = 1
/-- the same number as N / D -/
def Eqr (r : Int × Int) (N D : Int) : Prop := r.1 * D = N * r.2
theorem gcd_pos {t b : Int} (h : b ≠ 0) : 0 < Nat.gcd t.natAbs b.natAbs := Nat.gcd_pos_of_pos_right _ (by omega)
theorem gcd_dvd_l (t b : Int) : ((Nat.gcd t.natAbs b.natAbs : Nat) : Int) ∣ t := Int.ofNat_dvd_left.mpr (Nat.gcd_dvd_left _ _)
theorem gcd_dvd_r (t b : Int) : ((Nat.gcd t.natAbs b.natAbs : Nat) : Int) ∣ b := Int.ofNat_dvd_left.mpr (Nat.gcd_dvd_right _ _)
theorem low_split {t b : Int} (h : 0 < b) : ∃ t' b' g : Int, 0 < g ∧ ((Nat.gcd t.natAbs b.natAbs : Nat) : Int) = g ∧ t = g * t' ∧ b = g * b' ∧ t / g = t' ∧ b / g = b' ∧ 0 < b' ∧ Nat.gcd t'.natAbs b'.natAbs = 1 := by
  have hg := gcd_pos (t := t) (b := b) (by omega)
  obtain ⟨t', e1⟩ := gcd_dvd_l t b
  obtain ⟨b', e2⟩ := gcd_dvd_r t b
  generalize hG : Nat.gcd t.natAbs b.natAbs = G at *
  have gp : (0 : Int) < (G : Int) := by omega
  have hb : 0 < b' := by
    rcases Int.lt_trichotomy b' 0 with z | z | z
    · have := Int.mul_neg_of_pos_of_neg gp z
      omega
    · rw [z, Int.mul_zero] at e2; omega
    · exact z
  refine ⟨t', b', G, gp, rfl, e1, e2, by rw [e1]; exact Int.mul_ediv_cancel_left _ (by omega), by rw [e2]; exact Int.mul_ediv_cancel_left _ (by omega), hb, ?_⟩
  have h1 : t.natAbs = G * t'.natAbs := by rw [e1, Int.natAbs_mul]; rfl
  have h2 : b.natAbs = G * b'.natAbs := by rw [e2, Int.natAbs_mul]; rfl
  have h3 : G * Nat.gcd t'.natAbs b'.natAbs = G * 1 := by
    rw [← Nat.gcd_mul_left, ← h1, ← h2, hG, Nat.mul_one]
  exact Nat.eq_of_mul_eq_mul_left hg h3
theorem natAbs_le_mul {g t : Int} (h : 0 < g) : t.natAbs ≤ (g * t).natAbs := by
  rw [Int.natAbs_mul]
  exact Nat.le_mul_of_pos_left _ (by omega)
theorem low_ok {t b : Int} (h : 0 < b) : ∀ g : Int, ((Nat.gcd t.natAbs b.natAbs : Nat) : Int) = g → Lo (t / g, b / g) ∧ Eqr (t / g, b / g) t b ∧ (t / g).natAbs ≤ t.natAbs ∧ (b / g).natAbs ≤ b.natAbs ∧ 0 < g ∧ g.natAbs ≤ b.natAbs := by
  intro g hg
  obtain ⟨t', b', g', gp, eg, e1, e2, e3, e4, hb, hc⟩ := low_split (t := t) h
  have : g' = g := eg.symm.trans hg
  subst this
  refine ⟨⟨by rw [e4]; exact hb, by rw [e3, e4]; exact hc⟩, ?_, ?_, ?_, gp, ?_⟩
  · show t / g' * b = t * (b / g')
    rw [e3, e4]
    conv => lhs; rw [e2]
    conv => rhs; rw [e1]
    rw [Int.mul_left_comm, Int.mul_assoc]
  · rw [e3, e1]; exact natAbs_le_mul gp
  · rw [e4, e2]; exact natAbs_le_mul gp
  · rw [e2, Int.mul_comm]; exact natAbs_le_mul hb
/-- a number has one form in lowest terms -/
theorem lo_uniq {r s : Int × Int} (hr : Lo r) (hs : Lo s) (h : r.1 * s.2 = s.1 * r.2) : r = s := by
  obtain ⟨r1, r2⟩ := hr
  obtain ⟨s1, s2⟩ := hs
  have e : r.1.natAbs * s.2.natAbs = s.1.natAbs * r.2.natAbs := by rw [← Int.natAbs_mul, ← Int.natAbs_mul, h]
  have d1 : r.2.natAbs ∣ s.2.natAbs := by
    have : r.2.natAbs ∣ r.1.natAbs * s.2.natAbs := by rw [e]; exact Nat.dvd_mul_left _ _
    exact (Nat.Coprime.symm r2).dvd_of_dvd_mul_left this
  have d2 : s.2.natAbs ∣ r.2.natAbs := by
    have : s.2.natAbs ∣ s.1.natAbs * r.2.natAbs := by rw [← e]; exact Nat.dvd_mul_left _ _
    exact (Nat.Coprime.symm s2).dvd_of_dvd_mul_left this
  have e2 : r.2 = s.2 := by
    have := Nat.dvd_antisymm d1 d2
    omega
  have e1 : r.1 = s.1 := by
    rw [e2] at h
    exact Int.eq_of_mul_eq_mul_right (by omega) h
  exact Prod.ext e1 e2
/-- unreduced -/
def fPlus (p q : Int × Int) : Int × Int := (p.1 * q.2 + q.1 * p.2, p.2 * q.2)
def fMinus (p q : Int × Int) : Int × Int := (p.1 * q.2 - q.1 * p.2, p.2 * q.2)
def fTimes (p q : Int × Int) : Int × Int := (p.1 * q.1, p.2 * q.2)
/-- both parts below 2 ^ m -/
def Wd (m : Nat) (p : Int × Int) : Prop := p.1.natAbs < 2 ^ m ∧ p.2.natAbs < 2 ^ m
theorem Wd.mono {m n : Nat} {p : Int × Int} (h : Wd m p) (k : m ≤ n) : Wd n p := ⟨Nat.lt_of_lt_of_le h.1 (Nat.pow_le_pow_right (by decide) k), Nat.lt_of_lt_of_le h.2 (Nat.pow_le_pow_right (by decide) k)⟩
theorem mul_lt2 {a b : Int} {m n : Nat} (h : a.natAbs < 2 ^ m) (k : b.natAbs < 2 ^ n) : (a * b).natAbs < 2 ^ (m + n) := by
  rw [Int.natAbs_mul, Nat.pow_add]
  exact Nat.mul_lt_mul'' h k
theorem add_lt2 {a b : Int} {m : Nat} (h : a.natAbs < 2 ^ m) (k : b.natAbs < 2 ^ m) : (a + b).natAbs < 2 ^ (m + 1) := by
  rw [Nat.pow_succ]
  omega
theorem sub_lt2 {a b : Int} {m : Nat} (h : a.natAbs < 2 ^ m) (k : b.natAbs < 2 ^ m) : (a - b).natAbs < 2 ^ (m + 1) := by
  rw [Nat.pow_succ]
  omega
theorem wd_plus {m n : Nat} {p q : Int × Int} (h : Wd m p) (k : Wd n q) : Wd (m + n + 1) (fPlus p q) :=
  ⟨add_lt2 (mul_lt2 h.1 k.2) (by rw [Nat.add_comm m n]; exact mul_lt2 k.1 h.2), Nat.lt_of_lt_of_le (mul_lt2 h.2 k.2) (Nat.pow_le_pow_right (by decide) (by omega))⟩
theorem wd_minus {m n : Nat} {p q : Int × Int} (h : Wd m p) (k : Wd n q) : Wd (m + n + 1) (fMinus p q) :=
  ⟨sub_lt2 (mul_lt2 h.1 k.2) (by rw [Nat.add_comm m n]; exact mul_lt2 k.1 h.2), Nat.lt_of_lt_of_le (mul_lt2 h.2 k.2) (Nat.pow_le_pow_right (by decide) (by omega))⟩
theorem wd_times {m n : Nat} {p q : Int × Int} (h : Wd m p) (k : Wd n q) : Wd (m + n) (fTimes p q) := ⟨mul_lt2 h.1 k.1, mul_lt2 h.2 k.2⟩
/-- a reduced form keeps the sign of its numerator -/
theorem eqr_sign {r : Int × Int} {N D : Int} (h : Eqr r N D) (hr : 0 < r.2) (hD : 0 < D) : (0 < r.1 ↔ 0 < N) ∧ (r.1 = 0 ↔ N = 0) ∧ (r.1 < 0 ↔ N < 0) := by
  have h : r.1 * D = N * r.2 := h
  have key : ∀ {a b c d : Int}, a * b = c * d → 0 < b → 0 < d → (0 < a → 0 < c) ∧ (a < 0 → c < 0) := fun {a b c d} e hb hd => by
    constructor
    · intro ha
      rcases Int.lt_trichotomy c 0 with z | z | z
      · have h1 := Int.mul_pos ha hb
        have h2 := Int.mul_neg_of_neg_of_pos z hd
        omega
      · have h1 := Int.mul_pos ha hb
        rw [z, Int.zero_mul] at e
        omega
      · exact z
    · intro ha
      rcases Int.lt_trichotomy c 0 with z | z | z
      · exact z
      · have h1 := Int.mul_neg_of_neg_of_pos ha hb
        rw [z, Int.zero_mul] at e
        omega
      · have h1 := Int.mul_neg_of_neg_of_pos ha hb
        have h2 := Int.mul_pos z hd
        omega
  obtain ⟨a1, a2⟩ := key h hD hr
  obtain ⟨b1, b2⟩ := key h.symm hr hD
  refine ⟨⟨a1, b1⟩, ⟨fun z => ?_, fun z => ?_⟩, ⟨a2, b2⟩⟩
  · rcases Int.lt_trichotomy N 0 with y | y | y
    · have := b2 y; omega
    · exact y
    · have := b1 y; omega
  · rcases Int.lt_trichotomy r.1 0 with y | y | y
    · have := a2 y; omega
    · exact y
    · have := a1 y; omega
end SB
namespace SB
theorem eqr_plus {r g h : Int × Int} {G Hh : Int × Int} (g2 : 0 < g.2) (h2 : 0 < h.2) (eg : Eqr g G.1 G.2) (eh : Eqr h Hh.1 Hh.2) (er : Eqr r (fPlus g h).1 (fPlus g h).2) : Eqr r (fPlus G Hh).1 (fPlus G Hh).2 := by
  unfold Eqr fPlus at *
  dsimp only at *
  have hne : g.2 * h.2 ≠ 0 := Int.ne_of_gt (Int.mul_pos g2 h2)
  refine Int.eq_of_mul_eq_mul_right hne ?_
  grind
theorem eqr_minus {r g h : Int × Int} {G Hh : Int × Int} (g2 : 0 < g.2) (h2 : 0 < h.2) (eg : Eqr g G.1 G.2) (eh : Eqr h Hh.1 Hh.2) (er : Eqr r (fMinus g h).1 (fMinus g h).2) : Eqr r (fMinus G Hh).1 (fMinus G Hh).2 := by
  unfold Eqr fMinus at *
  dsimp only at *
  have hne : g.2 * h.2 ≠ 0 := Int.ne_of_gt (Int.mul_pos g2 h2)
  refine Int.eq_of_mul_eq_mul_right hne ?_
  grind
theorem eqr_times {r g h : Int × Int} {G Hh : Int × Int} (g2 : 0 < g.2) (h2 : 0 < h.2) (eg : Eqr g G.1 G.2) (eh : Eqr h Hh.1 Hh.2) (er : Eqr r (fTimes g h).1 (fTimes g h).2) : Eqr r (fTimes G Hh).1 (fTimes G Hh).2 := by
  unfold Eqr fTimes at *
  dsimp only at *
  have hne : g.2 * h.2 ≠ 0 := Int.ne_of_gt (Int.mul_pos g2 h2)
  refine Int.eq_of_mul_eq_mul_right hne ?_
  grind
end SB
namespace SB
/-- one step of a sum of sides times numbers -/
def stepU (g : Int × Int) (p : Int × (Int × Int)) : Int × Int := fPlus g (fTimes (p.1, 1) p.2)
def sumU (ns : List Int) (us : List (Int × Int)) (g : Int × Int) : Int × Int := (ns.zip us).foldl stepU g
theorem fold_take {α β : Type} (f : β → α → β) (g : β) {l : List α} {i : Nat} {x : α} (h : l[i]? = some x) : (l.take (i + 1)).foldl f g = f ((l.take i).foldl f g) x := by
  rw [List.take_add_one, h, Option.toList_some, List.foldl_append]
  rfl
theorem zip_at {α β : Type} {xs : List α} {ys : List β} {i : Nat} {x : α} {y : β} (h : xs[i]? = some x) (k : ys[i]? = some y) : (xs.zip ys)[i]? = some (x, y) := by
  rw [List.getElem?_zip_eq_some]
  exact ⟨h, k⟩
theorem stepU_pos {g : Int × Int} {p : Int × (Int × Int)} (h : 0 < g.2) (k : 0 < p.2.2) : 0 < (stepU g p).2 := by
  unfold stepU fPlus fTimes
  dsimp only
  rw [Int.one_mul]
  exact Int.mul_pos h k
theorem sumU_pos : ∀ {l : List (Int × (Int × Int))} {g : Int × Int}, 0 < g.2 → (∀ p, p ∈ l → 0 < p.2.2) → 0 < (l.foldl stepU g).2
  | [], _, h, _ => h
  | p :: r, g, h, k => by
    rw [List.foldl_cons]
    exact sumU_pos (stepU_pos h (k p List.mem_cons_self)) fun q hq => k q (List.mem_cons_of_mem _ hq)
/-- the sum less the wall -/
theorem sumU_less (w : Int) : ∀ (l : List (Int × (Int × Int))) (g g' : Int × Int), g'.2 = g.2 → g'.1 = g.1 - w * g.2 → (l.foldl stepU g').2 = (l.foldl stepU g).2 ∧ (l.foldl stepU g').1 = (l.foldl stepU g).1 - w * (l.foldl stepU g).2
  | [], _, _, h1, h2 => ⟨h1, h2⟩
  | p :: r, g, g', h1, h2 => by
    rw [List.foldl_cons, List.foldl_cons]
    refine sumU_less w r _ _ ?_ ?_
    · unfold stepU fPlus fTimes
      dsimp only
      rw [h1]
    · unfold stepU fPlus fTimes
      dsimp only
      rw [h1, h2]
      grind
/-- the sum of the sides, each times the number, less the wall -/
def worthU (q : List Int × Int) (us : List (Int × Int)) : Int × Int := sumU q.1 us (-q.2, 1)
theorem worth_of (q : List Int × Int) (us : List (Int × Int)) : fMinus (sumU q.1 us (0, 1)) (q.2, 1) = worthU q us := by
  obtain ⟨h1, h2⟩ := sumU_less q.2 (q.1.zip us) (0, 1) (-q.2, 1) rfl (by show -q.2 = 0 - q.2 * 1; omega)
  refine Prod.ext ?_ ?_
  · show (sumU q.1 us (0, 1)).1 * 1 - q.2 * (sumU q.1 us (0, 1)).2 = _
    exact (by rw [Int.mul_one]; exact h2.symm)
  · show (sumU q.1 us (0, 1)).2 * 1 = _
    exact (by rw [Int.mul_one]; exact h1.symm)
end SB
namespace SB
def gcdL (l : List Int) : Nat := l.foldl (fun c z => Nat.gcd c z.natAbs) 0
theorem gcdF_dvd : ∀ (l : List Int) (c : Nat), (l.foldl (fun c z => Nat.gcd c z.natAbs) c) ∣ c ∧ ∀ z, z ∈ l → (l.foldl (fun c z => Nat.gcd c z.natAbs) c) ∣ z.natAbs
  | [], c => ⟨Nat.dvd_refl c, fun z h => by simp at h⟩
  | x :: r, c => by
    obtain ⟨h1, h2⟩ := gcdF_dvd r (Nat.gcd c x.natAbs)
    rw [List.foldl_cons]
    refine ⟨Nat.dvd_trans h1 (Nat.gcd_dvd_left _ _), fun z hz => ?_⟩
    rcases List.mem_cons.mp hz with rfl | hz
    · exact Nat.dvd_trans h1 (Nat.gcd_dvd_right _ _)
    · exact h2 z hz
theorem gcdL_dvd {l : List Int} {z : Int} (h : z ∈ l) : gcdL l ∣ z.natAbs := (gcdF_dvd l 0).2 z h
theorem gcdL_pos {l : List Int} {z : Int} (h : z ∈ l) (n : z ≠ 0) : 0 < gcdL l := by
  have d := gcdL_dvd h
  rcases Nat.eq_zero_or_pos (gcdL l) with e | e
  · rw [e] at d
    have := Nat.eq_zero_of_zero_dvd d
    omega
  · exact e
theorem gcdL_le {l : List Int} {z : Int} (h : z ∈ l) (n : z ≠ 0) : gcdL l ≤ z.natAbs := Nat.le_of_dvd (by omega) (gcdL_dvd h)
theorem div_le {z : Int} {g : Nat} (hg : 0 < g) (h : g ∣ z.natAbs) : (z / (g : Int)).natAbs ≤ z.natAbs ∧ (z ≠ 0 → z / (g : Int) ≠ 0) := by
  obtain ⟨t, e⟩ := Int.ofNat_dvd_left.mpr h
  have gp : (0 : Int) < (g : Int) := by omega
  have e2 : z / (g : Int) = t := by rw [e]; exact Int.mul_ediv_cancel_left _ (by omega)
  rw [e2]
  refine ⟨?_, fun n q => ?_⟩
  · rw [e]
    exact natAbs_le_mul gp
  · rw [q, Int.mul_zero] at e
    exact n e
def NonZ (ns : List Int) : Prop := (ns.any fun z => decide (z ≠ 0)) = true
theorem NonZ.ex {ns : List Int} (h : NonZ ns) : ∃ z, z ∈ ns ∧ z ≠ 0 := by
  obtain ⟨z, h1, h2⟩ := List.any_eq_true.mp h
  exact ⟨z, h1, of_decide_eq_true h2⟩
theorem nonZ_of {ns : List Int} {z : Int} (h : z ∈ ns) (n : z ≠ 0) : NonZ ns := List.any_eq_true.mpr ⟨z, h, decide_eq_true n⟩
def NsOk (ns : List Int) : Prop := ∀ z, z ∈ ns → z.natAbs < 2 ^ 10000
/-- a question's form -/
def divU (q : List Int × Int) : List Int × Int := (q.1.map fun z => z / ((gcdL (q.1 ++ [q.2]) : Nat) : Int), q.2 / ((gcdL (q.1 ++ [q.2]) : Nat) : Int))
def negU (q : List Int × Int) : List Int × Int := (q.1.map fun z => -z, -q.2)
/-- the first place that is not 0, and what stands there -/
def firstNZ (ns : List Int) : Nat := ns.findIdx fun z => decide (z ≠ 0)
def lead (ns : List Int) : Int := ns.getD (firstNZ ns) 0
def nfU (q : List Int × Int) : List Int × Int := if 0 < lead (divU q).1 then divU q else negU (divU q)
theorem firstNZ_at {ns : List Int} (h : NonZ ns) : ns[firstNZ ns]? = some (lead ns) ∧ lead ns ≠ 0 ∧ ∀ j z, j < firstNZ ns → ns[j]? = some z → z = 0 := by
  have hl : firstNZ ns < ns.length := by
    obtain ⟨z, h1, h2⟩ := h.ex
    exact List.findIdx_lt_length_of_exists ⟨z, h1, decide_eq_true h2⟩
  have e : ns[firstNZ ns]? = some ns[firstNZ ns] := List.getElem?_eq_getElem hl
  have e2 : lead ns = ns[firstNZ ns] := by
    unfold lead
    rw [List.getD_eq_getElem?_getD, e] <;> rfl
  refine ⟨by rw [e2]; exact e, ?_, fun j z hj hz => ?_⟩
  · rw [e2]
    have := List.findIdx_getElem (p := fun z : Int => decide (z ≠ 0)) (xs := ns) (w := hl)
    exact of_decide_eq_true this
  · have := List.not_of_lt_findIdx (p := fun z : Int => decide (z ≠ 0)) (xs := ns) hj
    have hjl := (List.getElem?_eq_some_iff.mp hz)
    obtain ⟨hjl, ez⟩ := hjl
    rw [← ez]
    simpa using this
/-- bounds -/
structure QOk (q : List Int × Int) : Prop where
  nz : NonZ q.1
  ns : NsOk q.1
  wl : q.2.natAbs < 2 ^ 10000
theorem QOk.g {q : List Int × Int} (h : QOk q) : 0 < gcdL (q.1 ++ [q.2]) ∧ gcdL (q.1 ++ [q.2]) < 2 ^ 10000 := by
  obtain ⟨z, h1, h2⟩ := h.nz.ex
  have hm : z ∈ q.1 ++ [q.2] := List.mem_append_left _ h1
  exact ⟨gcdL_pos hm h2, Nat.lt_of_le_of_lt (gcdL_le hm h2) (h.ns z h1)⟩
theorem QOk.div {q : List Int × Int} (h : QOk q) : QOk (divU q) := by
  obtain ⟨g0, _⟩ := h.g
  have dv : ∀ z, z ∈ q.1 ++ [q.2] → (z / ((gcdL (q.1 ++ [q.2]) : Nat) : Int)).natAbs ≤ z.natAbs ∧ (z ≠ 0 → z / ((gcdL (q.1 ++ [q.2]) : Nat) : Int) ≠ 0) := fun z hz => div_le g0 (gcdL_dvd hz)
  refine ⟨?_, fun z hz => ?_, ?_⟩
  · obtain ⟨z, h1, h2⟩ := h.nz.ex
    exact nonZ_of (List.mem_map.mpr ⟨z, h1, rfl⟩) ((dv z (List.mem_append_left _ h1)).2 h2)
  · obtain ⟨y, hy, rfl⟩ := List.mem_map.mp hz
    exact Nat.lt_of_le_of_lt (dv y (List.mem_append_left _ hy)).1 (h.ns y hy)
  · exact Nat.lt_of_le_of_lt (dv q.2 (List.mem_append_right _ List.mem_cons_self)).1 h.wl
theorem QOk.neg {q : List Int × Int} (h : QOk q) : QOk (negU q) := by
  refine ⟨?_, fun z hz => ?_, by show (-q.2).natAbs < _; rw [Int.natAbs_neg]; exact h.wl⟩
  · obtain ⟨z, h1, h2⟩ := h.nz.ex
    exact nonZ_of (List.mem_map.mpr ⟨z, h1, rfl⟩) (by omega)
  · obtain ⟨y, hy, rfl⟩ := List.mem_map.mp hz
    rw [Int.natAbs_neg]
    exact h.ns y hy
/-! ### the flat normal form -/
theorem zlead_cons (z : Int) (r : List Int) : lead (z :: r) = if z = 0 then lead r else z := by
  unfold lead firstNZ
  rw [List.findIdx_cons]
  by_cases h : z = 0
  · rw [if_pos h, h]
    simp
  · rw [if_neg h]
    simp [h]
theorem znonZ_tail {z : Int} {r : List Int} (h : NonZ (z :: r)) (e : z = 0) : NonZ r := by
  obtain ⟨y, hy, ny⟩ := h.ex
  rcases List.mem_cons.mp hy with z1 | z1
  · exact absurd (z1.trans e) ny
  · exact nonZ_of z1 ny
theorem zlead_app : ∀ {a : List Int} (b : List Int), NonZ a → lead (a ++ b) = lead a
  | [], _, h => absurd (show false = true from h) Bool.false_ne_true
  | z :: r, b, h => by
    rw [List.cons_append, zlead_cons, zlead_cons]
    by_cases hz : z = 0
    · rw [if_pos hz, if_pos hz]
      exact zlead_app b (znonZ_tail h hz)
    · rw [if_neg hz, if_neg hz]
theorem zlead_map (f : Int → Int) : ∀ {a : List Int}, NonZ a → (∀ z, z ∈ a → (f z = 0 ↔ z = 0)) → lead (a.map f) = f (lead a)
  | [], h, _ => absurd (show false = true from h) Bool.false_ne_true
  | z :: r, h, k => by
    rw [List.map_cons, zlead_cons, zlead_cons]
    have kz := k z List.mem_cons_self
    by_cases hz : z = 0
    · rw [if_pos hz, if_pos (kz.mpr hz)]
      exact zlead_map f (znonZ_tail h hz) fun y hy => k y (List.mem_cons_of_mem _ hy)
    · rw [if_neg hz, if_neg (fun e => hz (kz.mp e))]
/-- exact division -/
theorem zex_div {z : Int} {g : Nat} (hg : 0 < g) (h : g ∣ z.natAbs) : z.fdiv (g : Int) = z / (g : Int) ∧ z.fdiv (-(g : Int)) = -(z / (g : Int)) ∧ (z / (g : Int) = 0 ↔ z = 0) ∧ (0 < z / (g : Int) ↔ 0 < z) := by
  obtain ⟨t, e⟩ := Int.ofNat_dvd_left.mpr h
  have gp : (0 : Int) < (g : Int) := by omega
  have e2 : z / (g : Int) = t := by rw [e]; exact Int.mul_ediv_cancel_left _ (by omega)
  rw [e2]
  refine ⟨by rw [Int.fdiv_eq_ediv_of_nonneg _ (Int.le_of_lt gp), e2], ?_, ?_, ?_⟩
  · have : z = (-(g : Int)) * (-t) := by rw [e, Int.neg_mul_neg]
    rw [this]
    exact Int.mul_fdiv_cancel_left _ (by omega)
  · constructor
    · intro q
      rw [e, q, Int.mul_zero]
    · intro q
      rw [e] at q
      rcases Int.mul_eq_zero.mp q with q | q
      · omega
      · exact q
  · constructor
    · intro q
      rw [e]
      exact Int.mul_pos gp q
    · intro q
      rw [e] at q
      exact Int.pos_of_mul_pos_right q gp
/-- what the integers of a question are divided by -/
def nfC (q : List Int × Int) : Int := if lead (q.1 ++ [q.2]) < 0 then -((gcdL (q.1 ++ [q.2]) : Nat) : Int) else ((gcdL (q.1 ++ [q.2]) : Nat) : Int)
theorem nf_flat {q : List Int × Int} (h : NonZ q.1) : (nfU q).1 ++ [(nfU q).2] = (q.1 ++ [q.2]).map (fun z => z.fdiv (nfC q)) ∧ nfC q ≠ 0 := by
  obtain ⟨y, hy, ny⟩ := h.ex
  have g0 : 0 < gcdL (q.1 ++ [q.2]) := gcdL_pos (List.mem_append_left _ hy) ny
  have dv : ∀ z, z ∈ q.1 ++ [q.2] → gcdL (q.1 ++ [q.2]) ∣ z.natAbs := fun z hz => gcdL_dvd hz
  have el : lead (q.1 ++ [q.2]) = lead q.1 := zlead_app _ h
  obtain ⟨k1, k2, _⟩ := firstNZ_at h
  have lm : lead q.1 ∈ q.1 := List.mem_of_getElem? k1
  have ed : lead (divU q).1 = lead q.1 / ((gcdL (q.1 ++ [q.2]) : Nat) : Int) := zlead_map _ h fun z hz => (zex_div g0 (dv z (List.mem_append_left _ hz))).2.2.1
  have sg := (zex_div g0 (dv _ (List.mem_append_left _ lm))).2.2.2
  rw [← ed] at sg
  by_cases hn : lead q.1 < 0
  · have ec : nfC q = -((gcdL (q.1 ++ [q.2]) : Nat) : Int) := by unfold nfC; rw [el, if_pos hn]
    have en : nfU q = negU (divU q) := if_neg fun z => by have := sg.mp z; omega
    refine ⟨?_, by rw [ec]; omega⟩
    rw [en, ec]
    have e1 : (negU (divU q)).1 ++ [(negU (divU q)).2] = (q.1 ++ [q.2]).map (fun z => -(z / ((gcdL (q.1 ++ [q.2]) : Nat) : Int))) := by
      unfold negU divU
      dsimp only
      rw [List.map_map, List.map_append, List.map_singleton]
      rfl
    rw [e1]
    exact List.map_congr_left fun z hz => ((zex_div g0 (dv z hz)).2.1).symm
  · have ec : nfC q = ((gcdL (q.1 ++ [q.2]) : Nat) : Int) := by unfold nfC; rw [el, if_neg hn]
    have en : nfU q = divU q := if_pos (sg.mpr (by omega))
    refine ⟨?_, by rw [ec]; omega⟩
    rw [en, ec]
    have e1 : (divU q).1 ++ [(divU q).2] = (q.1 ++ [q.2]).map (fun z => z / ((gcdL (q.1 ++ [q.2]) : Nat) : Int)) := by
      unfold divU
      dsimp only
      rw [List.map_append, List.map_singleton]
    rw [e1]
    exact List.map_congr_left fun z hz => ((zex_div g0 (dv z hz)).1).symm
theorem znonZ_app {a : List Int} (b : List Int) (h : NonZ a) : NonZ (a ++ b) := by
  obtain ⟨y, hy, ny⟩ := h.ex
  exact nonZ_of (List.mem_append_left _ hy) ny
end SB
namespace SB
theorem pair_ok {up lo : Int} (h : lo ≠ 0) : ∀ g c : Int, ((Nat.gcd up.natAbs lo.natAbs : Nat) : Int) = g → c = (if lo < 0 then -g else g) →
    Lo (up.fdiv c, lo.fdiv c) ∧ Eqr (up.fdiv c, lo.fdiv c) up lo ∧ (up.fdiv c).natAbs ≤ up.natAbs ∧ (lo.fdiv c).natAbs ≤ lo.natAbs ∧ c ≠ 0 ∧ c.natAbs ≤ lo.natAbs := by
  intro g c hg hc
  have d1 : g ∣ up := by rw [← hg]; exact gcd_dvd_l up lo
  have d2 : g ∣ lo := by rw [← hg]; exact gcd_dvd_r up lo
  by_cases hn : lo < 0
  · rw [if_pos hn] at hc
    subst hc
    have e1 : up.fdiv (-g) = (-up) / g := by
      rw [Int.fdiv_eq_ediv_of_dvd (Int.neg_dvd.mpr d1), Int.ediv_neg, Int.neg_ediv_of_dvd d1]
    have e2 : lo.fdiv (-g) = (-lo) / g := by
      rw [Int.fdiv_eq_ediv_of_dvd (Int.neg_dvd.mpr d2), Int.ediv_neg, Int.neg_ediv_of_dvd d2]
    obtain ⟨a1, a2, a3, a4, a5, a6⟩ := low_ok (t := -up) (b := -lo) (by omega) g (by rw [Int.natAbs_neg, Int.natAbs_neg]; exact hg)
    rw [e1, e2]
    refine ⟨a1, ?_, by rw [Int.natAbs_neg] at a3; exact a3, by rw [Int.natAbs_neg] at a4; exact a4, by omega, by rw [Int.natAbs_neg] at a6; rw [Int.natAbs_neg]; exact a6⟩
    unfold Eqr at *
    dsimp only at *
    rw [Int.mul_neg, Int.neg_mul] at a2
    omega
  · rw [if_neg hn] at hc
    subst hc
    obtain ⟨a1, a2, a3, a4, a5, a6⟩ := low_ok (t := up) (b := lo) (by omega) c hg
    rw [Int.fdiv_eq_ediv_of_nonneg _ (by omega), Int.fdiv_eq_ediv_of_nonneg _ (by omega)]
    exact ⟨a1, a2, a3, a4, by omega, a6⟩
theorem abs_nat (i : Int) : (if i < 0 then -i else i) = ((i.natAbs : Nat) : Int) := by
  by_cases h : i < 0
  · rw [if_pos h]; omega
  · rw [if_neg h]; omega
end SB
namespace SB
theorem lead_cons (z : Int) (r : List Int) : lead (z :: r) = if z = 0 then lead r else z := by
  unfold lead firstNZ
  rw [List.findIdx_cons]
  by_cases h : z = 0
  · rw [if_pos h, show decide (z ≠ 0) = false from decide_eq_false (fun n => n h)]
    rfl
  · rw [if_neg h, show decide (z ≠ 0) = true from decide_eq_true h]
    rfl
theorem lead_nil : lead [] = 0 := rfl
theorem lead_map {f : Int → Int} (h0 : f 0 = 0) : ∀ {ns : List Int}, (∀ z, z ∈ ns → z ≠ 0 → f z ≠ 0) → lead (ns.map f) = f (lead ns)
  | [], _ => by rw [List.map_nil, lead_nil, h0]
  | z :: r, h => by
    rw [List.map_cons, lead_cons, lead_cons]
    by_cases hz : z = 0
    · rw [if_pos hz, hz, h0, if_pos rfl]
      exact lead_map h0 fun y hy => h y (List.mem_cons_of_mem _ hy)
    · rw [if_neg hz, if_neg (h z List.mem_cons_self hz)]
theorem lead_filter : ∀ {ns t : List Int}, NonZ ns → ((ns ++ t).filter fun z => decide (z ≠ 0))[0]? = some (lead ns)
  | [], _, h => absurd (show false = true from h) Bool.false_ne_true
  | z :: r, t, h => by
    rw [lead_cons, List.cons_append]
    by_cases hz : z = 0
    · rw [if_pos hz, List.filter_cons_of_neg (by simp [hz])]
      refine lead_filter ?_
      have h2 : (decide (z ≠ 0) || r.any fun z => decide (z ≠ 0)) = true := h
      rw [show decide (z ≠ 0) = false from decide_eq_false (fun n => n hz), Bool.false_or] at h2
      exact h2
    · rw [if_neg hz, List.filter_cons_of_pos (by simp [hz])]
      rfl
/-- a question's form in one row -/
def grU (q : List Int × Int) : List Int := (nfU q).1 ++ [(nfU q).2]
theorem grU_inj {p q : List Int × Int} (h : grU p = grU q) : nfU p = nfU q := by
  unfold grU at h
  obtain ⟨h1, h2⟩ := List.append_inj' h rfl
  exact Prod.ext h1 (by simpa using h2)
theorem neg_div {x : Int} {g : Nat} (h : g ∣ x.natAbs) : (-x) / (g : Int) = -(x / (g : Int)) := Int.neg_ediv_of_dvd (Int.ofNat_dvd_left.mpr h)
theorem grU_eq {q : List Int × Int} (h : QOk q) : grU q = (q.1 ++ [q.2]).map fun x => if 0 < lead q.1 then x / ((gcdL (q.1 ++ [q.2]) : Nat) : Int) else (-x) / ((gcdL (q.1 ++ [q.2]) : Nat) : Int) := by
  obtain ⟨g0, _⟩ := h.g
  generalize hG : gcdL (q.1 ++ [q.2]) = G at *
  have dv : ∀ z, z ∈ q.1 ++ [q.2] → G ∣ z.natAbs := fun z hz => by rw [← hG]; exact gcdL_dvd hz
  have e1 : divU q = (q.1.map fun z => z / (G : Int), q.2 / (G : Int)) := by unfold divU; rw [hG]
  have gp : (0 : Int) < (G : Int) := by omega
  have el : lead (q.1.map fun z => z / (G : Int)) = lead q.1 / (G : Int) := lead_map (f := fun z => z / (G : Int)) (Int.zero_ediv _) fun z hz n => (div_le g0 (dv z (List.mem_append_left _ hz))).2 n
  have sg : 0 < lead q.1 / (G : Int) ↔ 0 < lead q.1 := by
    have hm : lead q.1 ∈ q.1 := List.mem_of_getElem? (firstNZ_at h.nz).1
    obtain ⟨t, et⟩ := Int.ofNat_dvd_left.mpr (dv _ (List.mem_append_left _ hm))
    rw [et, Int.mul_ediv_cancel_left _ (by omega)]
    constructor
    · exact fun z => Int.mul_pos gp z
    · intro z
      rcases Int.lt_trichotomy t 0 with y | y | y
      · have := Int.mul_neg_of_pos_of_neg gp y
        omega
      · rw [y, Int.mul_zero] at z
        omega
      · exact y
  unfold grU nfU
  rw [e1]
  dsimp only
  rw [el]
  by_cases hc : 0 < lead q.1
  · rw [if_pos (sg.mpr hc)]
    simp only [if_pos hc, List.map_append, List.map_cons, List.map_nil]
  · rw [if_neg (fun z => hc (sg.mp z))]
    simp only [if_neg hc, List.map_append, List.map_cons, List.map_nil, negU, List.map_map]
    rw [neg_div (dv q.2 (List.mem_append_right _ List.mem_cons_self))]
    refine congrArg (· ++ _) (List.map_congr_left fun z hz => ?_)
    exact (neg_div (dv z (List.mem_append_left _ hz))).symm
end SB
namespace SB
theorem gcdF_neg : ∀ (l : List Int) (c : Nat), (l.map fun z => -z).foldl (fun c z => Nat.gcd c z.natAbs) c = l.foldl (fun c z => Nat.gcd c z.natAbs) c
  | [], _ => rfl
  | z :: r, c => by
    rw [List.map_cons, List.foldl_cons, List.foldl_cons, Int.natAbs_neg]
    exact gcdF_neg r _
theorem gcdL_neg (l : List Int) : gcdL (l.map fun z => -z) = gcdL l := gcdF_neg l 0
theorem lead_neg (ns : List Int) : lead (ns.map fun z => -z) = -lead ns := lead_map (f := fun z => -z) rfl fun z _ h => by omega
theorem nfU_neg {q : List Int × Int} (h : QOk q) : nfU (negU q) = nfU q := by
  refine grU_inj ?_
  obtain ⟨_, n0, _⟩ := firstNZ_at h.nz
  rw [grU_eq h, grU_eq h.neg]
  have e : (negU q).1 ++ [(negU q).2] = (q.1 ++ [q.2]).map fun z => -z := by
    rw [List.map_append]
    rfl
  have el : lead (negU q).1 = -lead q.1 := lead_neg q.1
  rw [e, gcdL_neg, List.map_map, el]
  refine List.map_congr_left fun x _ => ?_
  show (if 0 < -lead q.1 then (-x) / _ else (-(-x)) / _) = _
  by_cases c : 0 < lead q.1
  · rw [if_pos c, if_neg (by omega), Int.neg_neg]
  · rw [if_neg c, if_pos (by omega)]
theorem foldU_neg : ∀ (ns : List Int) (us : List (Int × Int)) (g : Int × Int), sumU (ns.map fun z => -z) us (-g.1, g.2) = (-(sumU ns us g).1, (sumU ns us g).2)
  | [], _, _ => rfl
  | _ :: _, [], _ => rfl
  | z :: r, u :: t, g => by
    have h := foldU_neg r t (stepU g (z, u))
    have e : stepU (-g.1, g.2) (-z, u) = (-(stepU g (z, u)).1, (stepU g (z, u)).2) := by
      unfold stepU fPlus fTimes
      dsimp only
      refine Prod.ext ?_ rfl
      dsimp only
      grind
    show sumU (r.map fun z => -z) t (stepU (-g.1, g.2) (-z, u)) = _
    rw [e, h]
    rfl
theorem worth_neg (q : List Int × Int) (us : List (Int × Int)) : (worthU (negU q) us).1 = -(worthU q us).1 := by
  have h := foldU_neg q.1 us (-q.2, 1)
  have : worthU (negU q) us = sumU (q.1.map fun z => -z) us (-(-q.2, (1:Int)).1, (-q.2, (1:Int)).2) := rfl
  rw [this, h]
  rfl
theorem set_take {α : Type} {l : List α} {i : Nat} (a : α) (h : i < l.length) : (l.take i ++ [a]) ++ l.drop (i + 1) = l.set i a := by
  rw [List.set_eq_take_append_cons_drop, if_pos h, List.append_assoc]
  rfl
end SB
namespace SB
/-! ### numbers as fractions -/
def qv (p : Int × Int) : Rat := (p.1 : Rat) / (p.2 : Rat)
theorem rpos {b : Int} (h : 0 < b) : (0 : Rat) < (b : Rat) := Rat.intCast_pos.mpr h
theorem rne {b : Int} (h : 0 < b) : (b : Rat) ≠ 0 := fun e => by
  have := Rat.intCast_eq_zero_iff.mp e
  omega
theorem rne0 {b : Int} (h : b ≠ 0) : (b : Rat) ≠ 0 := fun e => h (Rat.intCast_eq_zero_iff.mp e)
theorem qv_mul {p : Int × Int} (h : 0 < p.2) : qv p * (p.2 : Rat) = (p.1 : Rat) := by
  have := rne h
  unfold qv
  grind
theorem qv_of {p : Int × Int} {x : Rat} (h : 0 < p.2) (e : x * (p.2 : Rat) = (p.1 : Rat)) : qv p = x := by
  have := rne h
  unfold qv
  grind
theorem qv_eqr {r : Int × Int} {N D : Int} (e : Eqr r N D) (h : 0 < r.2) (hD : 0 < D) : qv r = qv (N, D) := by
  refine qv_of h ?_
  have h1 := qv_mul (p := (N, D)) hD
  have e : r.1 * D = N * r.2 := e
  have e2 : (r.1 : Rat) * (D : Rat) = (N : Rat) * (r.2 : Rat) := by rw [← Rat.intCast_mul, e, Rat.intCast_mul]
  have := rne hD
  have h1 : qv (N, D) * (D : Rat) = (N : Rat) := h1
  grind
theorem qv_eqr' {r p : Int × Int} (e : Eqr r p.1 p.2) (h : 0 < r.2) (hD : 0 < p.2) : qv r = qv p := qv_eqr e h hD
theorem qv_inj {p q : Int × Int} (hp : Lo p) (hq : Lo q) (e : qv p = qv q) : p = q := by
  have h1 := qv_mul hp.1
  have h2 := qv_mul hq.1
  have e2 : (p.1 : Rat) * (q.2 : Rat) = (q.1 : Rat) * (p.2 : Rat) := by rw [e] at h1; grind
  rw [← Rat.intCast_mul, ← Rat.intCast_mul] at e2
  exact lo_uniq hp hq (Rat.intCast_inj.mp e2)
theorem qv_plus {p q : Int × Int} (hp : 0 < p.2) (hq : 0 < q.2) : qv (fPlus p q) = qv p + qv q := by
  refine qv_of (Int.mul_pos hp hq) ?_
  have h1 := qv_mul hp
  have h2 := qv_mul hq
  show _ * ((p.2 * q.2 : Int) : Rat) = ((p.1 * q.2 + q.1 * p.2 : Int) : Rat)
  rw [Rat.intCast_add, Rat.intCast_mul, Rat.intCast_mul, Rat.intCast_mul]
  grind
theorem qv_minus {p q : Int × Int} (hp : 0 < p.2) (hq : 0 < q.2) : qv (fMinus p q) = qv p - qv q := by
  refine qv_of (Int.mul_pos hp hq) ?_
  have h1 := qv_mul hp
  have h2 := qv_mul hq
  show _ * ((p.2 * q.2 : Int) : Rat) = ((p.1 * q.2 - q.1 * p.2 : Int) : Rat)
  rw [Rat.intCast_sub, Rat.intCast_mul, Rat.intCast_mul, Rat.intCast_mul]
  grind
theorem qv_times {p q : Int × Int} (hp : 0 < p.2) (hq : 0 < q.2) : qv (fTimes p q) = qv p * qv q := by
  refine qv_of (Int.mul_pos hp hq) ?_
  have h1 := qv_mul hp
  have h2 := qv_mul hq
  show _ * ((p.2 * q.2 : Int) : Rat) = ((p.1 * q.1 : Int) : Rat)
  rw [Rat.intCast_mul, Rat.intCast_mul]
  grind
theorem qv_int (z : Int) : qv (z, 1) = (z : Rat) := qv_of Int.one_pos (by show _ * ((1 : Int) : Rat) = (z : Rat); rw [Rat.intCast_one]; grind)
theorem qv_pos {p : Int × Int} (h : 0 < p.2) : 0 < qv p ↔ 0 < p.1 := by
  have h1 := qv_mul h
  have h2 := rpos h
  rw [← Rat.intCast_pos, ← h1]
  exact (Rat.mul_pos_iff_of_pos_right h2).symm
theorem qv_neg {p : Int × Int} (h : 0 < p.2) : qv p < 0 ↔ p.1 < 0 := by
  have h1 := qv_pos (p := (-p.1, p.2)) h
  have e : qv (-p.1, p.2) = -qv p := qv_of h (by
    have := qv_mul h
    show -qv p * (p.2 : Rat) = ((-p.1 : Int) : Rat)
    rw [Rat.intCast_neg]
    grind)
  rw [e] at h1
  have h1 : 0 < -qv p ↔ 0 < -p.1 := h1
  constructor
  · intro z
    have := h1.mp (by grind)
    omega
  · intro z
    have := h1.mpr (by omega)
    grind
/-- the sign of a fraction -/
def sgQ (x : Rat) : Int := if 0 < x then 1 else if x < 0 then -1 else 0
theorem sgQ_pos {x : Rat} (h : 0 < x) : sgQ x = 1 := if_pos h
theorem sgQ_neg {x : Rat} (h : x < 0) : sgQ x = -1 := by
  unfold sgQ
  rw [if_neg (by grind), if_pos h]
theorem sgQ_zero : sgQ 0 = 0 := by decide +kernel
theorem sgQ_mul {x c : Rat} (h : 0 < c) : sgQ (c * x) = sgQ x := by
  by_cases h1 : 0 < x
  · rw [sgQ_pos h1, sgQ_pos (Rat.mul_pos h h1)]
  · by_cases h2 : x < 0
    · have := Rat.mul_pos h (show 0 < -x by grind)
      rw [sgQ_neg h2, sgQ_neg (by grind)]
    · have : x = 0 := by grind
      rw [this, Rat.mul_zero]
/-- a sum of sides times numbers -/
def dotQ : List Int → List Rat → Rat
  | n :: r, x :: t => (n : Rat) * x + dotQ r t
  | _, _ => 0
theorem sumU_qv : ∀ (ns : List Int) (us : List (Int × Int)) (g : Int × Int), 0 < g.2 → (∀ u, u ∈ us → 0 < u.2) → qv (sumU ns us g) = qv g + dotQ ns (us.map qv)
  | [], us, g, _, _ => by
    show qv g = qv g + dotQ [] _
    cases us <;> (unfold dotQ; grind)
  | _ :: _, [], g, _, _ => by
    show qv g = qv g + 0
    grind
  | n :: r, u :: t, g, hg, hu => by
    have h2 := hu u List.mem_cons_self
    have h := sumU_qv r t (stepU g (n, u)) (stepU_pos hg h2) fun v hv => hu v (List.mem_cons_of_mem _ hv)
    show qv (sumU r t (stepU g (n, u))) = qv g + ((n : Rat) * qv u + dotQ r (t.map qv))
    have e : qv (stepU g (n, u)) = qv g + (n : Rat) * qv u := by
      show qv (fPlus g (fTimes (n, 1) u)) = _
      rw [qv_plus hg (Int.mul_pos Int.one_pos h2), qv_times Int.one_pos h2, qv_int]
    rw [h, e]
    grind
theorem worth_qv {q : List Int × Int} {us : List (Int × Int)} (h : ∀ u, u ∈ us → 0 < u.2) : qv (worthU q us) = dotQ q.1 (us.map qv) - (q.2 : Rat) := by
  unfold worthU
  rw [sumU_qv _ _ _ Int.one_pos h, qv_int, Rat.intCast_neg]
  grind
/-- on the way from xs to ys -/
def mixQ (s : Rat) (xs ys : List Rat) : List Rat := List.zipWith (fun x y => x + s * (y - x)) xs ys
theorem dot_mix (s : Rat) : ∀ (ns : List Int) (xs ys : List Rat), xs.length = ys.length → dotQ ns (mixQ s xs ys) = dotQ ns xs + s * (dotQ ns ys - dotQ ns xs)
  | [], xs, ys, _ => by
    have h : ∀ l : List Rat, dotQ [] l = 0 := fun l => by cases l <;> rfl
    rw [h, h, h]
    grind
  | n :: r, [], [], _ => by
    show (0 : Rat) = 0 + s * (0 - 0)
    grind
  | n :: r, x :: xs, y :: ys, h => by
    have := dot_mix s r xs ys (by simpa using h)
    show (n : Rat) * (x + s * (y - x)) + dotQ r (mixQ s xs ys) = ((n : Rat) * x + dotQ r xs) + s * (((n : Rat) * y + dotQ r ys) - ((n : Rat) * x + dotQ r xs))
    rw [this]
    grind
theorem mix_at {s : Rat} {xs ys : List Rat} {i : Nat} {x y : Rat} (h : xs[i]? = some x) (k : ys[i]? = some y) : (mixQ s xs ys)[i]? = some (x + s * (y - x)) := by
  unfold mixQ
  rw [List.getElem?_zipWith, h, k]
theorem qvs_inj : ∀ {ps qs : List (Int × Int)}, (∀ p, p ∈ ps → Lo p) → (∀ q, q ∈ qs → Lo q) → ps.map qv = qs.map qv → ps = qs
  | [], [], _, _, _ => rfl
  | [], _ :: _, _, _, e => by cases e
  | _ :: _, [], _, _, e => by cases e
  | p :: r, q :: t, hp, hq, e => by
    rw [List.map_cons, List.map_cons] at e
    obtain ⟨e1, e2⟩ := List.cons.inj e
    rw [qv_inj (hp p List.mem_cons_self) (hq q List.mem_cons_self) e1, qvs_inj (fun x h => hp x (List.mem_cons_of_mem _ h)) (fun x h => hq x (List.mem_cons_of_mem _ h)) e2]
/-- the one's answers, where these are 0 the other's -/
def aheadU (zs ws : List Int) : List Int := List.zipWith (fun z w => if z = 0 then w else z) zs ws
theorem ahead_len {zs ws : List Int} (h : zs.length = ws.length) : (aheadU zs ws).length = zs.length := by
  unfold aheadU
  rw [List.length_zipWith]
  omega
theorem ahead_at {zs ws : List Int} {i : Nat} {z w : Int} (h : zs[i]? = some z) (k : ws[i]? = some w) : (aheadU zs ws)[i]? = some (if z = 0 then w else z) := by
  unfold aheadU
  rw [List.getElem?_zipWith, h, k]
/-- near enough to the one point the answer is the one's, or where this is 0 the other's -/
theorem sg_ahead {a b s : Rat} (h0 : 0 < s) (h1 : s < 1) (hp : 0 < a → b < 0 → s * (a - b) < a) (hn : a < 0 → 0 < b → s * (b - a) < -a) : sgQ (a + s * (b - a)) = if sgQ a = 0 then sgQ b else sgQ a := by
  by_cases a1 : 0 < a
  · rw [sgQ_pos a1, if_neg (by decide)]
    refine sgQ_pos ?_
    by_cases b1 : b < 0
    · have := hp a1 b1
      grind
    · have h2 : 0 < (1 - s) * a := Rat.mul_pos (by grind) a1
      have h3 : 0 ≤ s * b := Rat.mul_nonneg (by grind) (by grind)
      grind
  · by_cases a2 : a < 0
    · rw [sgQ_neg a2, if_neg (by decide)]
      refine sgQ_neg ?_
      by_cases b1 : 0 < b
      · have := hn a2 b1
        grind
      · have h2 : 0 < (1 - s) * (-a) := Rat.mul_pos (by grind) (by grind)
        have h3 : 0 ≤ s * (-b) := Rat.mul_nonneg (by grind) (by grind)
        grind
    · have : a = 0 := by grind
      subst this
      rw [sgQ_zero, if_pos rfl]
      have : (0 : Rat) + s * (b - 0) = s * b := by grind
      rw [this, sgQ_mul h0]
end SB
namespace SB
/-! ### questions with the same noughts; a question moved -/
def scU (k : Int) (q : List Int × Int) : List Int × Int := (q.1.map fun z => k * z, k * q.2)
theorem scU_sc (a b : Int) (q : List Int × Int) : scU a (scU b q) = scU (a * b) q := by
  unfold scU
  refine Prod.ext ?_ ?_
  · show (q.1.map _).map _ = _
    rw [List.map_map]
    refine List.map_congr_left fun z _ => ?_
    show a * (b * z) = a * b * z
    rw [Int.mul_assoc]
  · show a * (b * q.2) = a * b * q.2
    rw [Int.mul_assoc]
theorem scU_cells (k : Int) (q : List Int × Int) : (scU k q).1 ++ [(scU k q).2] = (q.1 ++ [q.2]).map fun z => k * z := by
  rw [List.map_append]
  rfl
theorem gcdF_mul (k : Int) : ∀ (l : List Int) (c : Nat), (l.map fun z => k * z).foldl (fun c z => Nat.gcd c z.natAbs) (k.natAbs * c) = k.natAbs * l.foldl (fun c z => Nat.gcd c z.natAbs) c
  | [], _ => rfl
  | z :: r, c => by
    rw [List.map_cons, List.foldl_cons, List.foldl_cons, Int.natAbs_mul, Nat.gcd_mul_left]
    exact gcdF_mul k r _
theorem gcdL_mul (k : Int) (l : List Int) : gcdL (l.map fun z => k * z) = k.natAbs * gcdL l := gcdF_mul k l 0
theorem nonZ_g {q : List Int × Int} (h : NonZ q.1) : 0 < gcdL (q.1 ++ [q.2]) := by
  obtain ⟨z, h1, h2⟩ := h.ex
  exact gcdL_pos (List.mem_append_left _ h1) h2
theorem NonZ.sc {q : List Int × Int} (h : NonZ q.1) {k : Int} (hk : k ≠ 0) : NonZ (scU k q).1 := by
  obtain ⟨z, h1, h2⟩ := h.ex
  exact nonZ_of (List.mem_map.mpr ⟨z, h1, rfl⟩) (Int.mul_ne_zero hk h2)
theorem divU_sc {k : Int} (hk : 0 < k) {q : List Int × Int} (h : NonZ q.1) : divU (scU k q) = divU q := by
  have g0 := nonZ_g h
  have eg : ((gcdL ((scU k q).1 ++ [(scU k q).2]) : Nat) : Int) = k * ((gcdL (q.1 ++ [q.2]) : Nat) : Int) := by
    rw [scU_cells, gcdL_mul, Int.natCast_mul]
    congr 1
    omega
  unfold divU
  rw [eg]
  refine Prod.ext ?_ ?_
  · show (q.1.map _).map _ = _
    rw [List.map_map]
    refine List.map_congr_left fun z _ => ?_
    show (k * z) / (k * _) = z / _
    rw [Int.mul_ediv_mul_of_pos _ _ hk]
  · show (k * q.2) / (k * _) = q.2 / _
    rw [Int.mul_ediv_mul_of_pos _ _ hk]
/-- what the greatest divisor takes out -/
theorem scU_divU (q : List Int × Int) : scU ((gcdL (q.1 ++ [q.2]) : Nat) : Int) (divU q) = q := by
  unfold scU divU
  refine Prod.ext ?_ ?_
  · show (q.1.map _).map _ = q.1
    rw [List.map_map]
    have : ∀ l : List Int, (∀ z, z ∈ l → z ∈ q.1 ++ [q.2]) → l.map ((fun z => ((gcdL (q.1 ++ [q.2]) : Nat) : Int) * z) ∘ fun z => z / ((gcdL (q.1 ++ [q.2]) : Nat) : Int)) = l := fun l => by
      induction l with
      | nil => exact fun _ => rfl
      | cons z r ih =>
        intro h
        rw [List.map_cons, ih fun y hy => h y (List.mem_cons_of_mem _ hy)]
        congr 1
        exact Int.mul_ediv_cancel' (Int.ofNat_dvd_left.mpr (gcdL_dvd (h z List.mem_cons_self)))
    exact this q.1 fun z h => List.mem_append_left _ h
  · exact Int.mul_ediv_cancel' (Int.ofNat_dvd_left.mpr (gcdL_dvd (List.mem_append_right _ List.mem_cons_self)))
theorem divU_same {p q : List Int × Int} {u v : Int} (hu : 0 < u) (hv : 0 < v) (hp : NonZ p.1) (hq : NonZ q.1) (e : scU v p = scU u q) : divU p = divU q := by
  rw [← divU_sc hv hp, e, divU_sc hu hq]
theorem nonZ_div {q : List Int × Int} (h : NonZ q.1) : NonZ (divU q).1 := by
  have g0 := nonZ_g h
  obtain ⟨z, h1, h2⟩ := h.ex
  exact nonZ_of (List.mem_map.mpr ⟨z, h1, rfl⟩) ((div_le g0 (gcdL_dvd (List.mem_append_left _ h1))).2 h2)
theorem negU_sc (q : List Int × Int) : negU q = scU (-1) q := by
  unfold negU scU
  refine Prod.ext (List.map_congr_left fun z _ => ?_) ?_
  · show -z = -1 * z
    omega
  · show -q.2 = -1 * q.2
    omega
/-- the form is a multiple -/
theorem nf_sc {q : List Int × Int} (h : NonZ q.1) : ∃ a : Int, a ≠ 0 ∧ scU a (nfU q) = q := by
  have g0 := nonZ_g h
  unfold nfU
  by_cases c : 0 < lead (divU q).1
  · rw [if_pos c]
    exact ⟨_, by omega, scU_divU q⟩
  · rw [if_neg c, negU_sc]
    refine ⟨-((gcdL (q.1 ++ [q.2]) : Nat) : Int), by omega, ?_⟩
    rw [scU_sc]
    have : -((gcdL (q.1 ++ [q.2]) : Nat) : Int) * -1 = ((gcdL (q.1 ++ [q.2]) : Nat) : Int) := by omega
    rw [this, scU_divU]
theorem nf_of {p q : List Int × Int} (hp : NonZ p.1) (hq : NonZ q.1) (e : nfU p = nfU q) : ∃ u v : Int, u ≠ 0 ∧ v ≠ 0 ∧ scU v p = scU u q := by
  obtain ⟨a, a0, ea⟩ := nf_sc hp
  obtain ⟨b, b0, eb⟩ := nf_sc hq
  refine ⟨a, b, a0, b0, ?_⟩
  rw [← ea, e, scU_sc]
  conv => rhs; rw [← eb, scU_sc]
  rw [Int.mul_comm]
theorem nf_same {p q : List Int × Int} (hp : QOk p) (hq : QOk q) {u v : Int} (u0 : u ≠ 0) (v0 : v ≠ 0) (e : scU v p = scU u q) : nfU p = nfU q := by
  -- both factors above 0, perhaps with a question turned
  have key : ∀ {p q : List Int × Int} {u v : Int}, NonZ p.1 → NonZ q.1 → 0 < u → 0 < v → scU v p = scU u q → nfU p = nfU q := fun {p q u v} hp hq hu hv e => by
    unfold nfU
    rw [divU_same hu hv hp hq e]
  have neg : ∀ {p q : List Int × Int} {u v : Int}, scU v p = scU u q → scU (-v) p = scU (-u) q := fun {p q u v} e => by
    have := congrArg (scU (-1)) e
    rw [scU_sc, scU_sc] at this
    rw [show -v = -1 * v by omega, show -u = -1 * u by omega]
    exact this
  have pos : ∀ {p q : List Int × Int} {u v : Int}, QOk p → QOk q → u ≠ 0 → 0 < v → scU v p = scU u q → nfU p = nfU q := fun {p q u v} hp hq hu hv e => by
    by_cases c : 0 < u
    · exact key hp.nz hq.nz c hv e
    · rw [← nfU_neg hq]
      refine key hp.nz hq.neg.nz (u := -u) (v := v) (by omega) hv ?_
      rw [negU_sc, scU_sc, e]
      congr 1
      omega
  by_cases c : 0 < v
  · exact pos hp hq u0 c e
  · exact pos hp hq (u := -u) (v := -v) (by omega) (by omega) (neg e)
/-- in lowest terms -/
def lowU (p : Int × Int) : Int × Int := (p.1 / ((Nat.gcd p.1.natAbs p.2.natAbs : Nat) : Int), p.2 / ((Nat.gcd p.1.natAbs p.2.natAbs : Nat) : Int))
theorem lowU_ok {p : Int × Int} (h : 0 < p.2) : Lo (lowU p) ∧ Eqr (lowU p) p.1 p.2 := by
  obtain ⟨a, b, _⟩ := low_ok (t := p.1) h _ rfl
  exact ⟨a, b⟩
theorem lowU_is {p r : Int × Int} (h : 0 < p.2) (hr : Lo r) (e : Eqr r p.1 p.2) : r = lowU p := by
  obtain ⟨a, b⟩ := lowU_ok h
  refine qv_inj hr a ?_
  rw [qv_eqr' e hr.1 h, qv_eqr' b a.1 h]
/-- what the sides come to at a point, and the wall -/
def shiftU (q : List Int × Int) (us : List (Int × Int)) : Int × Int := lowU (fPlus (sumU q.1 us (0, 1)) (q.2, 1))
def rawU (q : List Int × Int) (r : Int × Int) : List Int × Int := (q.1.map fun z => z * r.2, r.1)
def movU (q : List Int × Int) (us : List (Int × Int)) : List Int × Int := divU (rawU q (shiftU q us))
theorem shift_pos {q : List Int × Int} {us : List (Int × Int)} (h : ∀ u, u ∈ us → Lo u) : 0 < (fPlus (sumU q.1 us (0, 1)) (q.2, 1)).2 := by
  refine Int.mul_pos (sumU_pos (by show (0 : Int) < 1; decide) fun p hp => ?_) Int.one_pos
  exact (h p.2 (List.of_mem_zip (a := p.1) (b := p.2) hp).2).1
theorem shift_lo {q : List Int × Int} {us : List (Int × Int)} (h : ∀ u, u ∈ us → Lo u) : Lo (shiftU q us) := (lowU_ok (shift_pos h)).1
theorem shift_qv {q : List Int × Int} {us : List (Int × Int)} (h : ∀ u, u ∈ us → Lo u) : qv (shiftU q us) = dotQ q.1 (us.map qv) + (q.2 : Rat) := by
  have p := shift_pos (q := q) h
  obtain ⟨a, b⟩ := lowU_ok p
  have h0 : 0 < (sumU q.1 us (0, 1)).2 := sumU_pos (by show (0 : Int) < 1; decide) fun p hp => (h p.2 (List.of_mem_zip (a := p.1) (b := p.2) hp).2).1
  show qv (lowU _) = _
  rw [qv_eqr' b a.1 p, qv_plus h0 Int.one_pos, sumU_qv _ _ _ Int.one_pos fun u hu => (h u hu).1, qv_int, qv_int, Rat.intCast_zero]
  grind
theorem raw_nz {q : List Int × Int} {r : Int × Int} (h : NonZ q.1) (hr : 0 < r.2) : NonZ (rawU q r).1 := by
  obtain ⟨z, h1, h2⟩ := h.ex
  exact nonZ_of (List.mem_map.mpr ⟨z, h1, rfl⟩) (Int.mul_ne_zero h2 (by omega))
theorem dot_sc (k : Int) : ∀ (ns : List Int) (xs : List Rat), dotQ (ns.map fun z => k * z) xs = (k : Rat) * dotQ ns xs
  | [], _ => by
    show dotQ [] _ = _ * dotQ [] _
    have h : ∀ l : List Rat, dotQ [] l = 0 := fun l => by cases l <;> rfl
    rw [h]
    grind
  | _ :: _, [] => by
    show (0 : Rat) = _ * 0
    grind
  | n :: r, x :: t => by
    show ((k * n : Int) : Rat) * x + dotQ (r.map _) t = (k : Rat) * ((n : Rat) * x + dotQ r t)
    rw [dot_sc k r t, Rat.intCast_mul]
    grind
/-- moved questions with the same noughts come of such -/
theorem mov_nf {p q : List Int × Int} {us : List (Int × Int)} (hp : QOk p) (hq : QOk q) (h : ∀ u, u ∈ us → Lo u) (e : nfU (movU p us) = nfU (movU q us)) : nfU p = nfU q := by
  have lp := shift_lo (q := p) h
  have lq := shift_lo (q := q) h
  have vp := shift_qv (q := p) h
  have vq := shift_qv (q := q) h
  generalize hrp : shiftU p us = rp at *
  generalize hrq : shiftU q us = rq at *
  have np := raw_nz (r := rp) hp.nz lp.1
  have nq := raw_nz (r := rq) hq.nz lq.1
  have ep : movU p us = divU (rawU p rp) := by unfold movU; rw [hrp]
  have eq : movU q us = divU (rawU q rq) := by unfold movU; rw [hrq]
  rw [ep, eq] at e
  obtain ⟨u, v, u0, v0, e2⟩ := nf_of (nonZ_div np) (nonZ_div nq) e
  have gp := nonZ_g np
  have gq := nonZ_g nq
  have sp := scU_divU (rawU p rp)
  have sq := scU_divU (rawU q rq)
  generalize ((gcdL ((rawU p rp).1 ++ [(rawU p rp).2]) : Nat) : Int) = a at sp
  generalize ((gcdL ((rawU q rq).1 ++ [(rawU q rq).2]) : Nat) : Int) = b at sq
  have a0 : a ≠ 0 := fun z => by
    rw [z] at sp
    obtain ⟨y, h1, h2⟩ := np.ex
    rw [← sp] at h1
    obtain ⟨x, _, hx⟩ := List.mem_map.mp h1
    rw [← hx, Int.zero_mul] at h2
    exact h2 rfl
  have b0 : b ≠ 0 := fun z => by
    rw [z] at sq
    obtain ⟨y, h1, h2⟩ := nq.ex
    rw [← sq] at h1
    obtain ⟨x, _, hx⟩ := List.mem_map.mp h1
    rw [← hx, Int.zero_mul] at h2
    exact h2 rfl
  -- the raw ones are multiples of one another
  have e3 : scU (v * b) (rawU p rp) = scU (u * a) (rawU q rq) := by
    rw [← sp, scU_sc]
    conv => rhs; rw [← sq, scU_sc]
    have := congrArg (scU (a * b)) e2
    rw [scU_sc, scU_sc] at this
    rw [show v * b * a = a * b * v by grind, show u * a * b = a * b * u by grind]
    exact this
  have V0 : v * b ≠ 0 := Int.mul_ne_zero v0 b0
  have U0 : u * a ≠ 0 := Int.mul_ne_zero u0 a0
  generalize v * b = V at e3 V0
  generalize u * a = U at e3 U0
  have es : p.1.map (fun z => V * rp.2 * z) = q.1.map fun z => U * rq.2 * z := by
    have h1 : (p.1.map fun z => z * rp.2).map (fun z => V * z) = (q.1.map fun z => z * rq.2).map fun z => U * z := congrArg Prod.fst e3
    rw [List.map_map, List.map_map] at h1
    have c1 : (fun z => V * rp.2 * z) = (fun z => V * z) ∘ fun z => z * rp.2 := funext fun z => by show V * rp.2 * z = V * (z * rp.2); grind
    have c2 : (fun z => U * rq.2 * z) = (fun z => U * z) ∘ fun z => z * rq.2 := funext fun z => by show U * rq.2 * z = U * (z * rq.2); grind
    rw [c1, c2]
    exact h1
  have ew : V * rp.1 = U * rq.1 := congrArg Prod.snd e3
  refine nf_same hp hq (u := U * rq.2) (v := V * rp.2) (Int.mul_ne_zero U0 (by have := lq.1; omega)) (Int.mul_ne_zero V0 (by have := lp.1; omega)) (Prod.ext es ?_)
  show V * rp.2 * p.2 = U * rq.2 * q.2
  have d1 := dot_sc (V * rp.2) p.1 (us.map qv)
  have d2 := dot_sc (U * rq.2) q.1 (us.map qv)
  rw [es, d2] at d1
  have m1 := qv_mul lp.1
  have m2 := qv_mul lq.1
  rw [vp] at m1
  rw [vq] at m2
  have ew2 : (V : Rat) * (rp.1 : Rat) = (U : Rat) * (rq.1 : Rat) := by rw [← Rat.intCast_mul, ew, Rat.intCast_mul]
  rw [Rat.intCast_mul, Rat.intCast_mul] at d1
  refine Rat.intCast_inj.mp ?_
  rw [Rat.intCast_mul, Rat.intCast_mul, Rat.intCast_mul, Rat.intCast_mul]
  grind
end SB
namespace SB
def lineQ (q : List Int × Int) (xs : List Rat) : Rat := dotQ q.1 xs - (q.2 : Rat)
theorem line_sc (k : Int) (q : List Int × Int) (xs : List Rat) : lineQ (scU k q) xs = (k : Rat) * lineQ q xs := by
  have h := dot_sc k q.1 xs
  show dotQ (q.1.map fun z => k * z) xs - ((k * q.2 : Int) : Rat) = (k : Rat) * (dotQ q.1 xs - (q.2 : Rat))
  rw [h, Rat.intCast_mul]
  grind
theorem line_raw (q : List Int × Int) (r : Int × Int) (xs : List Rat) : lineQ (rawU q r) xs = (r.2 : Rat) * dotQ q.1 xs - (r.1 : Rat) := by
  have h := dot_sc r.2 q.1 xs
  have e : (q.1.map fun z => z * r.2) = q.1.map fun z => r.2 * z := List.map_congr_left fun z _ => Int.mul_comm _ _
  show dotQ (q.1.map fun z => z * r.2) xs - (r.1 : Rat) = _
  rw [e, h]
theorem raw_g {q : List Int × Int} {r : Int × Int} (h : NonZ q.1) (hr : 0 < r.2) : ∃ g : Int, 0 < g ∧ scU g (divU (rawU q r)) = rawU q r := by
  have g0 := nonZ_g (raw_nz h hr)
  exact ⟨_, by omega, scU_divU _⟩
/-- a moved question at any point -/
theorem mov_line {q : List Int × Int} {us : List (Int × Int)} (hq : NonZ q.1) (h : ∀ u, u ∈ us → Lo u) : ∃ c : Rat, 0 < c ∧ ∀ xs, lineQ (movU q us) xs = c * (dotQ q.1 xs - dotQ q.1 (us.map qv) - (q.2 : Rat)) := by
  have lo := shift_lo (q := q) h
  have vs := shift_qv (q := q) h
  have e : movU q us = divU (rawU q (shiftU q us)) := rfl
  generalize shiftU q us = r at *
  obtain ⟨g, g0, eg⟩ := raw_g hq lo.1
  have gp := rpos g0
  have gn := rne g0
  have rp := rpos lo.1
  have m := qv_mul lo.1
  rw [vs] at m
  refine ⟨(r.2 : Rat) * (g : Rat)⁻¹, Rat.mul_pos rp (Rat.inv_pos.mpr gp), fun xs => ?_⟩
  have h1 := line_sc g (divU (rawU q r)) xs
  rw [eg, line_raw, ← e] at h1
  have h2 : (g : Rat) * (g : Rat)⁻¹ = 1 := Rat.mul_inv_cancel _ gn
  generalize (g : Rat)⁻¹ = i at h2 ⊢
  grind
def addQ (xs ys : List Rat) : List Rat := List.zipWith (fun x y => x + y) xs ys
theorem dot_add : ∀ (ns : List Int) (xs ys : List Rat), xs.length = ys.length → dotQ ns (addQ xs ys) = dotQ ns xs + dotQ ns ys
  | [], xs, ys, _ => by
    have h : ∀ l : List Rat, dotQ [] l = 0 := fun l => by cases l <;> rfl
    rw [h, h, h]
    grind
  | n :: r, [], [], _ => by
    show (0 : Rat) = 0 + 0
    grind
  | n :: r, x :: xs, y :: ys, h => by
    have := dot_add r xs ys (by simpa using h)
    show (n : Rat) * (x + y) + dotQ r (addQ xs ys) = ((n : Rat) * x + dotQ r xs) + ((n : Rat) * y + dotQ r ys)
    rw [this]
    grind
theorem add_at {xs ys : List Rat} {i : Nat} {x y : Rat} (h : xs[i]? = some x) (k : ys[i]? = some y) : (addQ xs ys)[i]? = some (x + y) := by
  unfold addQ
  rw [List.getElem?_zipWith, h, k]
theorem sg_same {a b s : Rat} (h0 : 0 ≤ s) (h1 : s ≤ 1) (e : sgQ a = sgQ b) : sgQ (a + s * (b - a)) = sgQ a := by
  have key : a + s * (b - a) = (1 - s) * a + s * b := by grind
  rw [key]
  by_cases a1 : 0 < a
  · rw [sgQ_pos a1] at e ⊢
    have b1 : 0 < b := by
      by_cases b1 : 0 < b
      · exact b1
      · unfold sgQ at e
        rw [if_neg b1] at e
        split at e <;> omega
    have h2 : 0 ≤ (1 - s) * a := Rat.mul_nonneg (by grind) (by grind)
    have h3 : 0 ≤ s * b := Rat.mul_nonneg h0 (by grind)
    refine sgQ_pos ?_
    by_cases hs : s = 0
    · subst hs
      grind
    · have : 0 < s * b := Rat.mul_pos (by grind) b1
      grind
  · by_cases a2 : a < 0
    · rw [sgQ_neg a2] at e ⊢
      have b1 : b < 0 := by
        by_cases b1 : b < 0
        · exact b1
        · unfold sgQ at e
          rw [if_neg b1] at e
          split at e <;> omega
      have h2 : 0 ≤ (1 - s) * (-a) := Rat.mul_nonneg (by grind) (by grind)
      have h3 : 0 ≤ s * (-b) := Rat.mul_nonneg h0 (by grind)
      refine sgQ_neg ?_
      by_cases hs : s = 0
      · subst hs
        grind
      · have : 0 < s * (-b) := Rat.mul_pos (by grind) (by grind)
        grind
    · have a0 : a = 0 := by grind
      subst a0
      have b0 : b = 0 := by
        rw [sgQ_zero] at e
        unfold sgQ at e
        split at e
        · omega
        · split at e
          · omega
          · grind
      subst b0
      have : (1 - s) * 0 + s * 0 = (0 : Rat) := by grind
      rw [this]
/-- moved there and back -/
theorem divU_raw1 (q : List Int × Int) : rawU q (q.2, 1) = q := by
  unfold rawU
  refine Prod.ext ?_ rfl
  show (q.1.map fun z => z * 1) = q.1
  have : (fun z : Int => z * 1) = id := funext fun z => Int.mul_one z
  rw [this, List.map_id]
theorem scU_inj {k : Int} (hk : k ≠ 0) {p q : List Int × Int} (e : scU k p = scU k q) : p = q := by
  have inj : ∀ {l m : List Int}, (l.map fun z => k * z) = (m.map fun z => k * z) → l = m := fun {l} => by
    induction l with
    | nil =>
      intro m h
      cases m with
      | nil => rfl
      | cons y t => cases h
    | cons z r ih =>
      intro m h
      cases m with
      | nil => cases h
      | cons y t =>
        rw [List.map_cons, List.map_cons] at h
        obtain ⟨h1, h2⟩ := List.cons.inj h
        rw [Int.eq_of_mul_eq_mul_left hk h1, ih h2]
  exact Prod.ext (inj (congrArg Prod.fst e)) (Int.eq_of_mul_eq_mul_left hk (congrArg Prod.snd e))
theorem mov_zero {q : List Int × Int} {us : List (Int × Int)} (h : ∀ u, u ∈ us → Lo u) (hz : dotQ q.1 (us.map qv) = 0) : movU q us = divU q := by
  have lo := shift_lo (q := q) h
  have vs := shift_qv (q := q) h
  rw [hz] at vs
  have : shiftU q us = (q.2, 1) := qv_inj lo ⟨Int.one_pos, by show Nat.gcd q.2.natAbs 1 = 1; exact Nat.gcd_one_right _⟩ (by rw [vs, qv_int]; grind)
  unfold movU
  rw [this, divU_raw1]
theorem mov_back {q : List Int × Int} {us vs : List (Int × Int)} (hq : NonZ q.1) (h : ∀ u, u ∈ us → Lo u) (k : ∀ u, u ∈ vs → Lo u) (e : dotQ q.1 (vs.map qv) = -dotQ q.1 (us.map qv)) : movU (movU q us) vs = divU q := by
  have lo := shift_lo (q := q) h
  have v1 := shift_qv (q := q) h
  have e1 : movU q us = divU (rawU q (shiftU q us)) := rfl
  generalize shiftU q us = r at *
  obtain ⟨g, g0, eg⟩ := raw_g hq lo.1
  rw [← e1] at eg
  have nm : NonZ (movU q us).1 := by rw [e1]; exact nonZ_div (raw_nz hq lo.1)
  generalize movU q us = p at *
  have lo2 := shift_lo (q := p) k
  have v2 := shift_qv (q := p) k
  have e2 : movU p vs = divU (rawU p (shiftU p vs)) := rfl
  generalize shiftU p vs = t at *
  rw [e2]
  have m1 := qv_mul lo.1
  have m2 := qv_mul lo2.1
  rw [v1] at m1
  rw [v2] at m2
  have gn := rne g0
  -- g times what p's sides come to
  have d1 := dot_sc g p.1 (vs.map qv)
  have s1 : (p.1.map fun z => g * z) = q.1.map fun z => z * r.2 := congrArg Prod.fst eg
  have w1 : g * p.2 = r.1 := congrArg Prod.snd eg
  have d2 := dot_sc r.2 q.1 (vs.map qv)
  have s2 : (q.1.map fun z => z * r.2) = q.1.map fun z => r.2 * z := List.map_congr_left fun z _ => Int.mul_comm _ _
  rw [s1, s2, d2, e] at d1
  have w2 : (g : Rat) * (p.2 : Rat) = (r.1 : Rat) := by rw [← Rat.intCast_mul, w1]
  refine divU_same (u := r.2 * t.2) (v := g) (Int.mul_pos lo.1 lo2.1) g0 (raw_nz nm lo2.1) hq (Prod.ext ?_ ?_)
  · show ((p.1.map fun z => z * t.2).map fun z => g * z) = q.1.map fun z => r.2 * t.2 * z
    have c1 : ((p.1.map fun z => z * t.2).map fun z => g * z) = (p.1.map fun z => g * z).map fun z => z * t.2 := by
      rw [List.map_map, List.map_map]
      exact List.map_congr_left fun z _ => by show g * (z * t.2) = g * z * t.2; rw [Int.mul_assoc]
    rw [c1, s1, List.map_map]
    exact List.map_congr_left fun z _ => by show z * r.2 * t.2 = r.2 * t.2 * z; grind
  · show g * t.1 = r.2 * t.2 * q.2
    refine Rat.intCast_inj.mp ?_
    rw [Rat.intCast_mul, Rat.intCast_mul, Rat.intCast_mul]
    grind
end SB
namespace SB
open PySem L2 GxR GA
/-! ### what the built-in names are -/
structure Blt (mg : Str → Option Value) : Prop where
  len : mg "len" = none
  int : mg "int" = none
  isi : mg "isinstance" = none
  tup : mg "tuple" = none
  lst : mg "list" = none
  str : mg "str" = none
  bool : mg "bool" = none
  rng : mg "range" = none
  abs : mg "abs" = none
  max : mg "max" = none
  min : mg "min" = none
  any : mg "any" = none
  all : mg "all" = none
  zip : mg "zip" = none
  gcd : mg "gcd" = some (.builtin "math.gcd")
theorem bootTup : bootBuiltins "tuple" = some (.type "tuple") := by decide +kernel
theorem bootLst : bootBuiltins "list" = some (.type "list") := by decide +kernel
theorem bootStr : bootBuiltins "str" = some (.type "str") := by decide +kernel
theorem bootBool : bootBuiltins "bool" = some (.type "bool") := by decide +kernel
theorem bootAll : bootBuiltins "all" = some (.builtin "all") := by decide +kernel
theorem bootAny : bootBuiltins "any" = some (.builtin "any") := by decide +kernel
theorem kTL {K : PySem.W.Frag} {T : String} {b1 b2 : Bool} (h1 : kitB T "tuple" = some b1) (h2 : kitB T "list" = some b2) : PySem.W.kitAny K (.type T) [.type "tuple", .type "list"] = some (b1 || b2) := by
  cases b1 with
  | true => exact kitAny_cons (kit_ty h1) (fun z => nomatch z) (fun _ => rfl)
  | false =>
    cases b2 with
    | true => exact kitAny_cons (kit_ty h1) (fun _ => kitAny_cons (kit_ty h2) (fun z => nomatch z) (fun _ => rfl)) (fun z => nomatch z)
    | false => exact kitAny_cons (kit_ty h1) (fun _ => kitAny_cons (kit_ty h2) (fun _ => kitAny_nil) (fun z => nomatch z)) (fun z => nomatch z)
theorem clsTL : Paired ClsV [.ty "tuple", .ty "list"] [.type "tuple", .type "list"] := .cons (.ty _) (.cons (.ty _) .nil)
theorem szN {n : Nat} (h : n ≤ 1000000) : n ≤ sizeLine := Nat.le_trans h (by decide)
theorem iteP {p A B : Prop} [Decidable p] (h : p) (a : A) : if decide p = true then A else B := by
  rw [decide_eq_true h]
  exact iteT a
theorem iteN {p A B : Prop} [Decidable p] (h : ¬ p) (b : B) : if decide p = true then A else B := by
  rw [decide_eq_false h]
  exact iteF b
theorem qd {Q : VK} {H : Hp} {x y : V} (e : x = y) (q : Q (.bl true) H) : Q (.bl (decide (x = y))) H := by
  rw [decide_eq_true e]
  exact q
theorem qe {Q : VK} {H : Hp} {b c : Bool} (e : b = c) (q : Q (.bl c) H) : Q (.bl b) H := by
  rw [e]
  exact q
theorem len_rng {n : Nat} (h : n ≤ sizeLine) : -(2 ^ 62) ≤ ((n : Nat) : Int) ∧ ((n : Nat) : Int) < 2 ^ 62 := by
  have e : sizeLine = 16777216 := sizeLine_eq
  omega
/-! ### never reached -/
theorem pe_no {X : Cx} {e : Expr} : PE X e (fun _ _ _ => False) := ⟨fun _ _ _ _ _ _ h => h.elim⟩
theorem ps_no {X : Cx} {st : Stmt} : PS X st (fun _ _ _ => False) := ⟨fun _ _ _ _ _ _ h => h.elim⟩
theorem pss_no {X : Cx} {st : List Stmt} : PSs X st (fun _ _ _ => False) := ⟨fun _ _ _ _ _ _ h => h.elim⟩
/-! ### how the heap grows: all that was tracked is as it was, tables may be longer -/
structure Gr (H H' : Hp) : Prop where
  keep : ∀ b o, (∀ ps, o ≠ .tbl ps) → H b = some o → H' b = some o
  tab : ∀ P, TabG H P → TabG H' P
/-- .. but what stands at d -/
structure GrD (d : Addr) (H H' : Hp) : Prop where
  keep : ∀ b o, b ≠ d → (∀ ps, o ≠ .tbl ps) → H b = some o → H' b = some o
  tab : ∀ P, P ≠ d → TabG H P → TabG H' P
theorem Gr.refl (H : Hp) : Gr H H := ⟨fun _ _ _ e => e, fun _ h => h⟩
theorem Gr.trans {H H1 H2 : Hp} (a : Gr H H1) (b : Gr H1 H2) : Gr H H2 := ⟨fun c o n e => b.keep c o n (a.keep c o n e), fun P h => b.tab P (a.tab P h)⟩
theorem Gr.new {H H1 : Hp} {p : Addr} (a : Gr H H1) (h : H1 p = none) (o : HO) : Gr H (upd H1 p o) := by
  refine ⟨fun b u n e => ?_, fun P t => ?_⟩
  · have e1 := a.keep b u n e
    rw [upd_ne (ne_of_none e1 h)]
    exact e1
  · obtain ⟨ps, e1, t1⟩ := a.tab P t
    exact ⟨ps, by rw [upd_ne (ne_of_none e1 h)]; exact e1, t1⟩
theorem Gr.tabbed {H H1 H2 : Hp} {P : Addr} (a : Gr H H1) (hP : TabG H1 P) (h : Tabbed P H1 H2) : Gr H H2 := by
  refine ⟨fun b u n e => ?_, fun Q t => ?_⟩
  · have e1 := a.keep b u n e
    rw [h.2 b fun z => ?_]
    · exact e1
    · obtain ⟨ps, e2, _⟩ := hP
      rw [z, e2] at e1
      exact n ps (Option.some.inj e1).symm
  · by_cases z : Q = P
    · rw [z]
      exact h.1
    · obtain ⟨ps, e1, t1⟩ := a.tab Q t
      exact ⟨ps, by rw [h.2 Q z]; exact e1, t1⟩
theorem Gr.d {H H' : Hp} (a : Gr H H') (d : Addr) : GrD d H H' := ⟨fun b o _ n e => a.keep b o n e, fun P _ h => a.tab P h⟩
theorem GrD.refl (d : Addr) (H : Hp) : GrD d H H := (Gr.refl H).d d
theorem GrD.trans {d : Addr} {H H1 H2 : Hp} (a : GrD d H H1) (b : GrD d H1 H2) : GrD d H H2 := ⟨fun c o z n e => b.keep c o z n (a.keep c o z n e), fun P z h => b.tab P z (a.tab P z h)⟩
theorem GrD.gr {d : Addr} {H H1 H2 : Hp} (a : GrD d H H1) (b : Gr H1 H2) : GrD d H H2 := a.trans (b.d d)
theorem GrD.set {d : Addr} {H H1 : Hp} (a : GrD d H H1) (o : HO) : GrD d H (upd H1 d o) := ⟨fun c u z n e => by rw [upd_ne z]; exact a.keep c u z n e, fun P z h => by
  obtain ⟨ps, e, t⟩ := a.tab P z h
  exact ⟨ps, by rw [upd_ne z]; exact e, t⟩⟩
theorem Gr.seqT {K : PySem.W.Frag} {H H' : Hp} {a : Addr} {xs : List V} (e : Gr H H') (h : SqT K H a xs) : SqT K H' a xs := by
  rcases h with (h | ⟨o, h⟩) | h
  · exact .inl (.inl (e.keep _ _ (fun _ z => nomatch z) h))
  · exact .inl (.inr ⟨o, e.keep _ _ (fun _ z => nomatch z) h⟩)
  · exact .inr h
theorem Gr.seqL {K : PySem.W.Frag} {H H' : Hp} {a : Addr} {xs : List V} (e : Gr H H') (h : SqL K H a xs) : SqL K H' a xs := by
  rcases h with (h | ⟨o, h⟩) | h
  · exact .inl (.inl (e.keep _ _ (fun _ z => nomatch z) h))
  · exact .inl (.inr ⟨o, e.keep _ _ (fun _ z => nomatch z) h⟩)
  · exact .inr h
/-- the deck is a list: no tuple stands there -/
theorem GrD.seqT {K : PySem.W.Frag} {d : Addr} {H H' : Hp} {a : Addr} {xs ys : List V} (e : GrD d H H') (hd : H d = some (.lst ys)) (h : SqT K H a xs) : SqT K H' a xs := by
  rcases h with (h | ⟨o, h⟩) | h
  · exact .inl (.inl (e.keep _ _ (ne_of h hd (fun z => nomatch z)) (fun _ z => nomatch z) h))
  · exact .inl (.inr ⟨o, e.keep _ _ (ne_of h hd (fun z => nomatch z)) (fun _ z => nomatch z) h⟩)
  · exact .inr h
/-- tables there -/
def Tbs (ts : List Addr) (H : Hp) : Prop := ∀ P ∈ ts, TabG H P
theorem Tbs.gr {ts : List Addr} {H H' : Hp} (t : Tbs ts H) (g : Gr H H') : Tbs ts H' := fun P h => g.tab P (t P h)
/-! ### kinds of values -/
def scB : V → Bool
  | .non => true
  | .bl _ => true
  | .int _ => true
  | .str _ => true
  | _ => false
def isInt : V → Bool
  | .int _ => true
  | _ => false
theorem tyL {K : PySem.W.Frag} {H : Hp} {a : Addr} {xs : List V} (h : SqL K H a xs) : TyX K H (.ref a) (.type "list") := by
  rcases h with (h | ⟨o, h⟩) | ⟨o, its, n, h, c, _⟩
  · exact .base (.lst h)
  · exact .base (.frz h)
  · exact .kList h c
theorem tyT {K : PySem.W.Frag} {H : Hp} {a : Addr} {xs : List V} (h : SqT K H a xs) : TyX K H (.ref a) (.type "tuple") := by
  rcases h with (h | ⟨o, h⟩) | ⟨o, its, n, h, c, _⟩
  · exact .base (.tup h)
  · exact .fTuple h
  · exact .kTuple h c
/-- the types that are looked at, of a known value -/
inductive Kn (K : PySem.W.Frag) (H : Hp) : V → String → Prop where
  | non : Kn K H .non "NoneType"
  | bl (b : Bool) : Kn K H (.bl b) "bool"
  | int (i : Int) : Kn K H (.int i) "int"
  | str (x : Str) : Kn K H (.str x) "str"
  | lst {a : Addr} {xs : List V} (h : SqL K H a xs) : Kn K H (.ref a) "list"
  | tup {a : Addr} {xs : List V} (h : SqT K H a xs) : Kn K H (.ref a) "tuple"
theorem Kn.ty {K : PySem.W.Frag} {H : Hp} {x : V} {t : String} (k : Kn K H x t) : TyX K H x (.type t) := by
  cases k with
  | non => exact .base .non
  | bl b => exact .base (.bl b)
  | int i => exact .base (.int i)
  | str x => exact .base (.str x)
  | lst h => exact tyL h
  | tup h => exact tyT h
/-! ### any(..) of a tuple, a list of ints -/
section
variable {X : Cx}
theorem truth_ints {prog : Program} {w : World} {A : Around} {ns : List Int} {its : List Value} (e : Vals (ns.map V.int) its) :
    PySem.TruthOf prog w A (fun i v => its.toArray[i]? = some v) (fun i => (ns.map fun z => decide (z ≠ 0)).getD i false) := fun i v s Q E hv hq => by
  have hv' : its[i]? = some v := by simpa using hv
  have hl := Vals.length e
  rw [List.length_map] at hl
  have hi : i < ns.length := by
    have := (List.getElem?_eq_some_iff.mp hv').1
    omega
  obtain ⟨u, hu, ru⟩ := Vals.get e (i := i) (x := .int ns[i]) (by rw [List.getElem?_map, List.getElem?_eq_getElem hi] <;> rfl)
  rw [hv'] at hu
  obtain ⟨t, et⟩ := ru
  cases hu
  subst et
  have hg : (ns.map fun z => decide (z ≠ 0)).getD i false = decide (ns[i] ≠ 0) := by
    rw [List.getD_eq_getElem?_getD, List.getElem?_map, List.getElem?_eq_getElem hi] <;> rfl
  have hq : Q ((ns.map fun z => decide (z ≠ 0)).getD i false) s := hq
  rw [hg] at hq
  refine PySem.P.truthy_int ?_
  first
    | exact hq
    | (have e2 : (ns[i] != 0) = decide (ns[i] ≠ 0) := by rw [bne, Bool.eq_iff_iff]; simp
       rw [e2]; exact hq)
theorem any_ints : ∀ ns : List Int, (List.range ns.length).any (fun i => (ns.map fun z => decide (z ≠ 0)).getD i false) = ns.any fun z => decide (z ≠ 0) := fun ns => by
  have h := any_range (ns.map fun z => decide (z ≠ 0))
  rw [List.length_map, List.any_map] at h
  exact h
def rAnyT (K : PySem.W.Frag) : List V → Hp → VK → Prop := fun vs H Q => ∃ (a : Addr) (ns : List Int), vs = [V.ref a] ∧ SqT K H a (ns.map V.int) ∧ Q (.bl (ns.any fun z => decide (z ≠ 0))) H
theorem cr_anyT (hc : X.calm = true) : CallR X (.builtin "any") (rAnyT X.K) := by
  intro pins s σ H vs us Q I r h
  obtain ⟨a, ns, rfl, hs, q⟩ := h
  obtain ⟨its, rv, hl, _⟩ := I.tuple hs
  rw [Vals.ref1 r]
  have hlt : a < s.heap.objs.size := by obtain ⟨_, e, _⟩ := hl; exact Heap.lt_size e
  refine PySem.call_any_walk (PySem.wpAny_pyIter_tuple (show s.heap.IsTuple a its.toArray from hl) ?_)
  refine ⟨_, _, _, _, _, _, _, rfl, PySem.Walks.tuple (A := X.A.in1) (I.ok.hd hc) _ a (Nat.ne_of_lt hlt) its.toArray, ⟨⟨_, Heap.get?_push_size _ rfl, rfl, rfl⟩, (show s.heap.IsTuple a its.toArray from hl).push _⟩, truth_ints rv, fun h' tk hk => ?_⟩
  refine ⟨.bl _, H, I.kept fun b o eo => hk b o (fun hmem => ?_) (Heap.get?_push_of_some _ eo), ?_, q⟩
  · rcases List.mem_cons.mp hmem with e1 | hmem
    · exact absurd (e1 ▸ Heap.lt_size eo) (Nat.lt_irrefl _)
    · cases hmem
  · show Value.bool _ = Value.bool _
    have hl2 := Vals.length rv
    rw [List.length_map] at hl2
    rw [← any_ints, List.size_toArray, hl2]
end
/-! ### a def whose code object is known, with its table -/
structure FunT (K : PySem.W.Frag) (x : Str) (st : Stmt) (f : Addr) (fd : FuncData) (c : Addr) : Prop where
  ex : ∃ (oc : Value) (od : Option Addr) (kV doc pm : Value) (an : Option Addr) (ct : Value) (osl : Array (Option Value)),
    fd = PySem.W.fnOf x x (defArgs st) (defBody st) (defScope st) .none kV doc pm an (.ref c) ct ∧ K.lookup f = some ⟨oc, od, .func fd, osl⟩ ∧ PySem.W.codeIn K (.ref c) x = true
  kp : PySem.W.keepIn K (.ref f) = true
theorem FunT.fn {K : PySem.W.Frag} {x : Str} {st : Stmt} {f : Addr} {fd : FuncData} {c : Addr} (F : FunT K x st f fd c) : Fun K x x st f fd := by
  obtain ⟨oc, od, kV, doc, pm, an, ct, osl, h1, h2, h3⟩ := F.ex
  exact ⟨⟨oc, od, kV, doc, pm, an, _, ct, osl, h1, h2, h3⟩, F.kp⟩
theorem FunT.ok {P : Program} {w : World} {K : PySem.W.Frag} {mg : Str → Option Value} {base : Heap} {x : Str} {st : Stmt} {f : Addr} {fd : FuncData} {c : Addr} {N ps : List Str} {k : Nat} {sp : Sp} (F : FunT K x st f fd c) (S : FnScope N ps (defScope st)) (len : ∀ vs H Q E, sp vs H Q E → vs.length = ps.length)
    (hbody : ∀ (A : Around) (outer : List Env) (s : Shared) (H : Hp) (vs : List V) (Q : VK) (E : XK), Room k (A.deeper (PyProof.Rows.envOfC x (defScope st) s.heap.objs.size f (.ref c))) → sp vs H Q E →
      ∃ t, PSs (cxOf CX0 P w K mg base N x (defScope st) f (.ref c) A outer s H E).nox (defBody st) t ∧ t { nx := fun _ H' => Q .non H', rt := Q } (start N vs) H) : FnOk P w K mg base CX0 (k + 1) f fd ps sp := by
  obtain ⟨oc, od, kV, doc, pm, an, ct, osl, rfl, lk, hcd⟩ := F.ex
  refine fn_of lk hcd S len fun A outer s H vs Q E hr hsp => ?_
  obtain ⟨t, h, q⟩ := hbody A outer s H vs Q E hr hsp
  exact ⟨t, h.nox, q⟩
/-- a look at the names of a generator expression -/
def genC (N : List Str) (sc scope : Scope) (own : List (Str × Nat)) : Bool :=
  blkC N sc scope own && !scope.isCoroutine && scope.names.all (fun y => !decide (y.2 = .cell)) && decide (scope.names.lookup (".0" : Str) = some NameKind.local)
theorem genOk_by {N : List Str} {sc scope : Scope} {own : List (Str × Nat)} (h : genC N sc scope own = true) : GenOk N sc scope own := by
  unfold genC at h
  simp only [Bool.and_eq_true, Bool.not_eq_true', decide_eq_true_eq, List.all_eq_true, decide_eq_false_iff_not] at h
  obtain ⟨⟨⟨h1, h2⟩, h3⟩, h4⟩ := h
  exact { toBlkOk := blkOk_by h1, co := h2, cell := h3, dot := h4 }
theorem Room.gen {k : Nat} {X : Cx} {cenv : Env} (r : Room (k + 1) X.A) : Room k (arG X cenv) :=
  ⟨r.hd, by have := r.dp; show X.A.depth + 1 + 3 * k + 5 < _; omega, by have := r.un; show X.A.units + 1 + 1 + 3 + 16 * k + 200 < _; omega⟩
/-- a walk over a tuple, each item told (p: what is known of an item that was true) -/
theorem plan_tup {K : PySem.W.Frag} {a : Addr} {xs : List V} {g : TG} {te : TE} {σ0 : L2.St} {vs : List Nat} {QT QF : Hp → Prop} {H2 : Hp} (p : Nat → Prop) (hS : SqT K H2 a xs)
    (step : ∀ i x H, xs[i]? = some x → Gr H2 H → g x σ0 H fun σ2 H3 => wipe σ2 vs = σ0 ∧ te σ2 H3 fun y H4 => ∃ b, y = .bl b ∧ (if b = true then Gr H2 H4 ∧ p i else QF H4))
    (fin : ∀ H, Gr H2 H → (∀ i, i < xs.length → p i) → QT H) : ∃ W : Nat → Nat → Hp → Prop, (∃ m, W 0 m H2) ∧ Plan (Itt K a) g tYes te σ0 vs QT QF W := by
  refine ⟨fun i m H => Gr H2 H ∧ i + m = xs.length ∧ ∀ j, j < i → p j, ⟨xs.length, Gr.refl _, Nat.zero_add _, fun j hj => absurd hj (Nat.not_lt_zero _)⟩, fun i m H w => ?_⟩
  obtain ⟨gr, hm, hp⟩ := w
  have hSi := gr.seqT hS
  cases m with
  | zero => exact .inl ⟨⟨xs, hSi, by omega⟩, fin H gr fun j hj => hp j (by omega)⟩
  | succ m =>
    have hi : i < xs.length := by omega
    refine .inr ⟨⟨xs, xs[i], hSi, List.getElem?_eq_getElem hi⟩, fun H' => Gr H2 H' ∧ p i, fun H' h => ⟨m, Nat.lt_succ_self _, h.1, by omega, fun j hj => ?_⟩, fun x H' hy => ?_⟩
    · by_cases e : j = i
      · rw [e]
        exact h.2
      · exact hp j (by omega)
    · obtain ⟨rfl, hx⟩ := hy
      have ex := step i x H' (hx xs hSi) gr
      exact ex
end SB
namespace SB
open PySem L2 GxR GA
/-! ### short rules -/
section
variable {X : Cx} {e e2 : Expr} {te te2 : TE} {p p1 p2 pos : Pos}
def tMo (te : TE) : TE := fun σ H Q => ∃ K2 : VK, te σ H K2 ∧ ∀ x H1, K2 x H1 → Q x H1
theorem pe_mo (he : PE X e te) : PE X e (tMo te) := ⟨fun pins s σ H Q I ⟨K2, w, m⟩ => thn (he.run pins s σ H K2 I w) fun v s1 ⟨x, H1, I1, r1, q1⟩ => ⟨x, H1, I1, r1, m _ _ q1⟩⟩
theorem pe_imp {te' : TE} (he : PE X e te) (i : ∀ σ H Q, te' σ H Q → te σ H Q) : PE X e te' := ⟨fun pins s σ H Q I w => he.run pins s σ H Q I (i _ _ _ w)⟩
/-- isinstance(e, T) -/
def tIsi (K : PySem.W.Frag) (te : TE) (T : String) : TE := fun σ H Q => te σ H fun x H1 => ∃ t b, Kn K H1 x t ∧ kitB t T = some b ∧ Q (.bl b) H1
theorem pe_isi {x : Str} (T : String) (he : PE X e te) (hb : bootBuiltins x = some (.type T)) (hm : X.mg x = none) (hi : X.mg "isinstance" = none) (hg : Gl X "isinstance" := by rfl) (hgx : Gl X x := by rfl) (hn : x ≠ "__name__" := by decide) (hd : (x == ("__debug__" : Str)) = false := by decide)
    (hst : starEach [e, .Name x p1] X.env = (false, eval e X.env) :: starEach [.Name x p1] X.env := by rfl) (hst2 : starEach [.Name x p1] X.env = (false, eval (.Name x p1) X.env) :: starEach [] X.env := by rfl) (hpl : (backTo pos (starEach [.Name x p1] X.env)).any (·.1) = false := by rfl) :
    PE X (.Call (.Name "isinstance" p) [e, .Name x p1] [] pos) (tIsi X.K te T) :=
  pe_imp (pe_callB (X := X) (p := p) (pos := pos) call_isi hg hi PyProof.Rows.boot_isinstance (pa_cons (pe_mo he) (pa_cons (pe_bltn (v := .ty T) (pos := p1) hgx hm hb rfl hn hd) pa_nil hst2) hst) (by decide) (by decide) hst hpl)
    fun σ H Q w => ⟨_, w, fun x H1 ⟨t, b, k, kb, q⟩ => ⟨x, .ty T, .type t, .type T, b, rfl, .ty _, k.ty, kit_ty kb, q⟩⟩
/-- len(e) of a tuple, a list -/
def tLen (K : PySem.W.Frag) (te : TE) : TE := fun σ H Q => te σ H fun x H1 => ∃ a xs, x = .ref a ∧ (SqL K H1 a xs ∨ SqT K H1 a xs) ∧ Q (.int ((xs.length : Nat) : Int)) H1
theorem pe_len (he : PE X e te) (hm : X.mg "len" = none) (hg : Gl X "len" := by rfl) (hst : starEach [e] X.env = (false, eval e X.env) :: starEach [] X.env := by rfl) (hpl : (backTo pos (starEach [] X.env)).any (·.1) = false := by rfl) :
    PE X (.Call (.Name "len" p) [e] [] pos) (tLen X.K te) :=
  pe_imp (pe_callB (X := X) (p := p) (pos := pos) call_len_seq hg hm PySem.boot_len (pa_cons (pe_mo he) pa_nil hst) (by decide) (by decide) hst hpl)
    fun σ H Q w => ⟨_, w, fun x H1 ⟨a, xs, ex, k, q⟩ => ⟨a, xs, by rw [ex], k, q⟩⟩
/-- e[k] of a tuple, k written or known -/
def tAt (K : PySem.W.Frag) (te ti : TE) : TE := fun σ H Q => te σ H fun x H1 => ti σ H1 fun y H2 => ∃ a xs i v, x = .ref a ∧ y = .int i ∧ (SqL K H2 a xs ∨ SqT K H2 a xs) ∧ atI xs i = some v ∧ Q v H2
/-- gcd(a, b) -/
def tGcd (ta tb : TE) : TE := fun σ H Q => ta σ H fun x H1 => tb σ H1 fun y H2 => ∃ i j : Int, x = .int i ∧ y = .int j ∧ Q (.int ((Nat.gcd i.natAbs j.natAbs : Nat) : Int)) H2
def tMo2 (ta tb : TE) : TA := fun σ H Q => ta σ H fun x H1 => tb σ H1 fun y H2 => Q [x, y] H2
end
/-! ### a def that may be called by its name -/
structure Cl (P : Program) (w : World) (K : PySem.W.Frag) (mg : Str → Option Value) (base : Heap) (k : Nat) (x : Str) (ps : List Str) (sp : Sp) : Prop where
  ex : ∃ (f : Addr) (fd : FuncData), FnOk P w K mg base CX0 k f fd ps sp ∧ mg x = some (.ref f) ∧ PySem.W.keepIn K (.ref f) = true ∧ Binds K fd ps []
  lk : ∀ f : Addr, mg x = some (.ref f) → ∃ (fd : FuncData), FnOk P w K mg base CX0 k f fd ps sp ∧ ∃ (oc : Value) (od : Option Addr) (osl : Array (Option Value)), K.lookup f = some ⟨oc, od, .func fd, osl⟩
theorem pe_cl {X : Cx} {k : Nat} {x : Str} {ps : List Str} {sp : Sp} {p pos : Pos} {e : Expr} {es : List Expr} {t : TA} (c : Cl X.prog X.w X.K X.mg X.base k x ps sp) (hr : Room k X.A) (ha : PA X (e :: es) t) (hg : Gl X x := by rfl) (hdb : (x == ("__debug__" : Str)) = false := by decide)
    (he : starEach (e :: es) X.env = (false, eval e X.env) :: starEach es X.env := by rfl) (hpl : (backTo pos (starEach es X.env)).any (·.1) = false := by rfl) :
    PE X (.Call (.Name x p) (e :: es) [] pos) (tCall sp [] E0 t) := by
  obtain ⟨f, fd, F, hm, hk, hb⟩ := c.ex
  exact pe_call F hr hg hm hk hb .nil pass0 ha hdb he hpl
theorem Cl.mono {P : Program} {w : World} {K : PySem.W.Frag} {mg : Str → Option Value} {base : Heap} {j k : Nat} {x : Str} {ps : List Str} {sp : Sp} (c : Cl P w K mg base j x ps sp) (h : j ≤ k) : Cl P w K mg base k x ps sp := by
  obtain ⟨f, fd, F, r⟩ := c.ex
  exact ⟨⟨f, fd, F.mono h, r⟩, fun g hg => let ⟨gd, G, z⟩ := c.lk g hg; ⟨gd, G.mono h, z⟩⟩
theorem fn_imp {P : Program} {w : World} {K : PySem.W.Frag} {mg : Str → Option Value} {base : Heap} {CX : CXT} {k : Nat} {f : Addr} {fd : FuncData} {ps : List Str} {sp sp2 : Sp} (F : FnOk P w K mg base CX k f fd ps sp) (i : ∀ vs H Q E, sp2 vs H Q E → sp vs H Q E) : FnOk P w K mg base CX k f fd ps sp2 :=
  ⟨fun vs H Q E h => F.len vs H Q E (i _ _ _ _ h), fun A outer s H args us vs Q E hr e b r h => F.run A outer s H args us vs Q E hr e b r (i _ _ _ _ h)⟩
/-- a promise that asks more -/
theorem Cl.imp {P : Program} {w : World} {K : PySem.W.Frag} {mg : Str → Option Value} {base : Heap} {k : Nat} {x : Str} {ps : List Str} {sp sp2 : Sp} (c : Cl P w K mg base k x ps sp) (i : ∀ vs H Q E, sp2 vs H Q E → sp vs H Q E) : Cl P w K mg base k x ps sp2 := by
  obtain ⟨f, fd, F, r⟩ := c.ex
  exact ⟨⟨f, fd, fn_imp F i, r⟩, fun g hg => let ⟨gd, G, z⟩ := c.lk g hg; ⟨gd, fn_imp G i, z⟩⟩
/-- a def of the text, under its name -/
structure Df (K : PySem.W.Frag) (mg : Str → Option Value) (x : Str) (st : Stmt) : Prop where
  ex : ∃ (f : Addr) (fd : FuncData), Fun K x x st f fd ∧ mg x = some (.ref f)
/-- .. with its code object at c -/
structure DfT (K : PySem.W.Frag) (mg : Str → Option Value) (x : Str) (st : Stmt) (c : Addr) : Prop where
  ex : ∃ (f : Addr) (fd : FuncData), FunT K x st f fd c ∧ mg x = some (.ref f)
section
variable {P : Program} {w : World} {K : PySem.W.Frag} {mg : Str → Option Value} {base : Heap} {k : Nat} {x : Str} {st : Stmt} {ps : List Str} {sp : Sp} {c : Addr}
theorem Df.cl (D : Df K mg x st) (hb : ∀ (kV doc pm : Value) (an : Option Addr) (cdv ct : Value) (us : List Value), us.length = ps.length → bindArgs (PySem.W.fnOf x x (defArgs st) (defBody st) (defScope st) .none kV doc pm an cdv ct) ⟨us, []⟩ = pure (ps.zip us))
    (h : ∀ f fd, Fun K x x st f fd → FnOk P w K mg base CX0 k f fd ps sp) : Cl P w K mg base k x ps sp := by
  obtain ⟨f, fd, F, m⟩ := D.ex
  obtain ⟨oc, od, kV, doc, pm, an, cdv, ct, osl, e, lk, hcd⟩ := F.ex
  exact ⟨⟨f, fd, h f fd F, m, F.kp, F.binds hb⟩, fun g hg => by
    rw [m] at hg
    cases hg
    exact ⟨fd, h f fd F, oc, od, osl, lk⟩⟩
theorem DfT.cl (D : DfT K mg x st c) (hb : ∀ (kV doc pm : Value) (an : Option Addr) (cdv ct : Value) (us : List Value), us.length = ps.length → bindArgs (PySem.W.fnOf x x (defArgs st) (defBody st) (defScope st) .none kV doc pm an cdv ct) ⟨us, []⟩ = pure (ps.zip us))
    (h : ∀ f fd, FunT K x st f fd c → FnOk P w K mg base CX0 k f fd ps sp) : Cl P w K mg base k x ps sp := by
  obtain ⟨f, fd, F, m⟩ := D.ex
  obtain ⟨oc, od, kV, doc, pm, an, ct, osl, e, lk, hcd⟩ := F.ex
  exact ⟨⟨f, fd, h f fd F, m, F.kp, F.fn.binds hb⟩, fun g hg => by
    rw [m] at hg
    cases hg
    exact ⟨fd, h f fd F, oc, od, osl, lk⟩⟩
end
/-! ### the things -/
/-- a number: its top and bottom -/
def NuV (K : PySem.W.Frag) (H : Hp) (x : V) (q : Int × Int) : Prop := ∃ a, x = .ref a ∧ SqT K H a [.int q.1, .int q.2]
def PtV (K : PySem.W.Frag) (H : Hp) (x : V) (us : List (Int × Int)) : Prop := ∃ a xs, x = .ref a ∧ SqT K H a xs ∧ Paired (NuV K H) xs us
def SiV (K : PySem.W.Frag) (H : Hp) (x : V) (ns : List Int) : Prop := ∃ a, x = .ref a ∧ SqT K H a (ns.map V.int)
/-- a question: its sides, its wall -/
def QuV (K : PySem.W.Frag) (H : Hp) (x : V) (q : List Int × Int) : Prop := ∃ a s, x = .ref a ∧ SqT K H a [s, .int q.2] ∧ SiV K H s q.1
/-- a book -/
def BkV (K : PySem.W.Frag) (H : Hp) (x : V) (d : Nat) (qs : List (List Int × Int)) : Prop := ∃ a b xs, x = .ref a ∧ SqT K H a [.int d, .ref b] ∧ SqT K H b xs ∧ Paired (QuV K H) xs qs
section
variable {K : PySem.W.Frag} {H H' : Hp} {x : V}
theorem NuV.gr {q : Int × Int} (h : NuV K H x q) (g : Gr H H') : NuV K H' x q := let ⟨a, e, s⟩ := h; ⟨a, e, g.seqT s⟩
theorem PtV.gr {q : List (Int × Int)} (h : PtV K H x q) (g : Gr H H') : PtV K H' x q := let ⟨a, xs, e, s, p⟩ := h; ⟨a, xs, e, g.seqT s, Paired.mapP p fun _ _ z => NuV.gr z g⟩
theorem SiV.gr {q : List Int} (h : SiV K H x q) (g : Gr H H') : SiV K H' x q := let ⟨a, e, s⟩ := h; ⟨a, e, g.seqT s⟩
theorem QuV.gr {q : List Int × Int} (h : QuV K H x q) (g : Gr H H') : QuV K H' x q := let ⟨a, t, e, s, z⟩ := h; ⟨a, t, e, g.seqT s, z.gr g⟩
theorem BkV.gr {d : Nat} {q : List (List Int × Int)} (h : BkV K H x d q) (g : Gr H H') : BkV K H' x d q := let ⟨a, b, xs, e, s, t, p⟩ := h; ⟨a, b, xs, e, g.seqT s, g.seqT t, Paired.mapP p fun _ _ z => QuV.gr z g⟩
/-- its items fit the length of a line (what the heap's own facts give) -/
theorem paired_len {α β : Type} {F : α → β → Prop} {xs : List α} {ys : List β} (h : Paired F xs ys) : xs.length = ys.length := Paired.length h
theorem paired_get {α β : Type} {F : α → β → Prop} : ∀ {xs : List α} {ys : List β}, Paired F xs ys → ∀ {i : Nat} {x : α}, xs[i]? = some x → ∃ y, ys[i]? = some y ∧ F x y
  | _, _, .nil, i, x, e => by simp at e
  | _, _, .cons r _, 0, x, e => by simp at e; subst e; exact ⟨_, rfl, r⟩
  | _, _, .cons _ t, i + 1, x, e => by
    obtain ⟨y, h1, h2⟩ := paired_get t (i := i) (x := x) (by simpa using e)
    exact ⟨y, by simpa using h1, h2⟩
end
/-! ### is_whole -/
def spWhole (K : PySem.W.Frag) : Sp := fun vs H Q _ => ∃ x t, vs = [x] ∧ Kn K H x t ∧ Q (.bl (isInt x)) H
section
variable {P : Program} {w : World} {K : PySem.W.Frag} {mg : Str → Option Value} {base : Heap}
theorem sc_whole : FnScope ["told"] ["told"] (defScope s_is_whole) := ⟨rfl, rfl, rfl, by decide +kernel, rfl, by decide +kernel, by decide +kernel⟩
theorem cl_whole (D : Df K mg "is_whole" s_is_whole) (B : Blt mg) : Cl P w K mg base 1 "is_whole" ["told"] (spWhole K) := by
  refine D.cl (fun _ _ _ _ _ _ us hl => match us, hl with | [_], _ => rfl) fun f fd F => F.ok sc_whole (fun vs H Q E h => ?_) (fun cdv A outer s H vs Q E hr h => ?_)
  · obtain ⟨x, t, rfl, _⟩ := h
    rfl
  obtain ⟨x, t, rfl, k, q⟩ := h
  refine ⟨_, pss_one (ps_ret (pe_and (pe_isi "int" (pv 0) PyProof.Rows.boot_int B.int B.isi) (pe_one (pe_not (pe_isi "bool" (pv 0) bootBool B.bool B.isi))))), ?_⟩
  cases k with
  | non => exact ⟨_, rfl, _, false, .non, by decide +kernel, _, rfl, iteF q⟩
  | bl b => exact ⟨_, rfl, _, true, .bl b, by decide +kernel, _, rfl, iteT ⟨_, rfl, _, true, .bl b, by decide +kernel, _, rfl, q⟩⟩
  | int i => exact ⟨_, rfl, _, true, .int i, by decide +kernel, _, rfl, iteT ⟨_, rfl, _, false, .int i, by decide +kernel, _, rfl, q⟩⟩
  | str z => exact ⟨_, rfl, _, false, .str z, by decide +kernel, _, rfl, iteF q⟩
  | lst h => exact ⟨_, rfl, _, false, .lst h, by decide +kernel, _, rfl, iteF q⟩
  | tup h => exact ⟨_, rfl, _, false, .tup h, by decide +kernel, _, rfl, iteF q⟩
end
end SB
namespace SB
open PySem L2 GxR GA
section
variable {P : Program} {w : World} {K : PySem.W.Frag} {mg : Str → Option Value} {base : Heap}
theorem kTT : kitB "tuple" "tuple" = some true := by decide +kernel
def spNumber (K : PySem.W.Frag) : Sp := fun vs H Q _ => ∃ x q, vs = [x] ∧ NuV K H x q ∧ Lo q ∧ Q (.bl true) H
theorem sc_number : FnScope ["told", "top", "bottom"] ["told"] (defScope s_is_number) := ⟨rfl, rfl, rfl, by decide +kernel, rfl, by decide +kernel, by decide +kernel⟩
theorem cl_number (D : Df K mg "is_number" s_is_number) (B : Blt mg) (CW : Cl P w K mg base 1 "is_whole" ["told"] (spWhole K)) : Cl P w K mg base 2 "is_number" ["told"] (spNumber K) := by
  refine D.cl (fun _ _ _ _ _ _ us hl => match us, hl with | [_], _ => rfl) fun f fd F => F.ok sc_number (fun vs H Q E h => ?_) (fun cdv A outer s H vs Q E hr h => ?_)
  · obtain ⟨x, t, rfl, _⟩ := h
    rfl
  obtain ⟨x, q, rfl, ⟨a, rfl, hs⟩, ⟨l1, l2⟩, hq⟩ := h
  refine ⟨_, pss_cons (ps_if (PW.pt (by exact (pw_or (pt_not (pt_val (pe_isi "tuple" (pv 0) bootTup B.tup B.isi))) (pw_or1 (pt_cmpR op_ne (pe_len (pv 0) B.len) pe_int (nomark _)))))) pss_no pss_nil)
    (pss_cons (ps_asg (pv 0) (pg_tup rfl (pgs_cons (pg_name (i := 1) sc_number.nd rfl (Or.inl rfl)) (pgs_cons (pg_name (i := 2) sc_number.nd rfl (Or.inl rfl)) pgs_nil))))
    (pss_one (ps_ret (pe_and (pe_cl CW (hr.mono (by decide)) (pa_cons (pv 1) pa_nil)) (pe_and (pe_cl CW (hr.mono (by decide)) (pa_cons (pv 2) pa_nil)) (pe_and (pe_cmpR op_gt (pv 2) pe_int (nomark _)) (pe_one (pe_cmpR op_eq (pe_callBfun cr_gcd rfl B.gcd (pa_cons (pv 1) (pa_cons (pv 2) pa_nil))) pe_int (nomark _))))))))), ?_⟩
  refine ⟨_, rfl, _, _, .tup hs, kTT, _, rfl, iteF ⟨_, rfl, a, _, rfl, .inr hs, rfl, _, rfl, ?_⟩⟩
  refine iteNS rfl ⟨_, rfl, a, _, rfl, hs, rfl, ?_⟩
  refine ⟨_, _, rfl, ⟨_, _, rfl, rfl, ?_⟩⟩
  refine ⟨_, rfl, _, _, rfl, .int _, _, rfl, iteT ⟨_, rfl, _, _, rfl, .int _, _, rfl, iteT ⟨_, rfl, _, _, rfl, rfl, _, rfl, iteP l1 ?_⟩⟩⟩
  refine ⟨_, rfl, _, rfl, _, _, rfl, rfl, ?_⟩
  exact qd (by rw [l2]; rfl) hq

theorem at_ {α : Type} {xs : List α} {i : Nat} (h : i < xs.length) : xs[i]? = some xs[i] := List.getElem?_eq_getElem h
/-! ### are_numbers, is_point -/
def spNumbers (K : PySem.W.Frag) : Sp := fun vs H Q _ => ∃ a xs us, vs = [.ref a] ∧ SqT K H a xs ∧ Paired (NuV K H) xs us ∧ (∀ q, q ∈ us → Lo q) ∧ Q (.bl true) H
theorem sc_numbers : FnScope ["told", "item"] ["told"] (defScope s_are_numbers) := ⟨rfl, rfl, rfl, by decide +kernel, rfl, by decide +kernel, by decide +kernel⟩
theorem cl_numbers (D : Df K mg "are_numbers" s_are_numbers) (CN : Cl P w K mg base 2 "is_number" ["told"] (spNumber K)) : Cl P w K mg base 3 "are_numbers" ["told"] (spNumbers K) := by
  refine D.cl (fun _ _ _ _ _ _ us hl => match us, hl with | [_], _ => rfl) fun f fd F => F.ok sc_numbers (fun vs H Q E h => ?_) (fun cdv A outer s H vs Q E hr h => ?_)
  · obtain ⟨a, xs, us, rfl, _⟩ := h
    rfl
  obtain ⟨a, xs, us, rfl, hs, hp, hlo, hq⟩ := h
  refine ⟨_, pss_cons (ps_for PassesOwn.never rfl (pi_tup (pv 0)) (pg_name (i := 1) sc_numbers.nd rfl (Or.inl rfl))
    (pss_one (ps_if (pt_not (pt_val (pe_cl CN (hr.mono (by decide)) (pa_cons (pv 1) pa_nil)))) pss_no pss_nil))) (pss_one (ps_ret pe_bl)), ?_⟩
  refine ⟨_, rfl, a, rfl, ⟨_, hs⟩, for_tup (xs := xs) (fun i σ H1 => ∃ c, σ = [some (.ref a), c] ∧ H1 = H) ⟨_, rfl, rfl⟩ (fun i σ H1 _ h => ?_) (fun i x σ H1 hx h => ?_) (fun σ H1 h => ?_)⟩
  · obtain ⟨c, rfl, rfl⟩ := h
    exact hs
  · obtain ⟨c, rfl, rfl⟩ := h
    obtain ⟨q, hq1, hn⟩ := paired_get hp hx
    exact ⟨_, rfl, x, q, rfl, hn, hlo q (List.mem_of_getElem? hq1), _, rfl, iteF ⟨some x, rfl, rfl⟩⟩
  · obtain ⟨c, rfl, rfl⟩ := h
    exact hq
def spPoint (K : PySem.W.Frag) : Sp := fun vs H Q _ => ∃ x us, vs = [x] ∧ PtV K H x us ∧ us ≠ [] ∧ (∀ q, q ∈ us → Lo q) ∧ ∀ H', Gr H H' → Q (.bl true) H'
theorem sc_point : FnScope ["told"] ["told"] (defScope s_is_point) := ⟨rfl, rfl, rfl, by decide +kernel, rfl, by decide +kernel, by decide +kernel⟩
theorem cl_point (D : Df K mg "is_point" s_is_point) (B : Blt mg) (CN : Cl P w K mg base 3 "are_numbers" ["told"] (spNumbers K)) : Cl P w K mg base 4 "is_point" ["told"] (spPoint K) := by
  refine D.cl (fun _ _ _ _ _ _ us hl => match us, hl with | [_], _ => rfl) fun f fd F => F.ok sc_point (fun vs H Q E h => ?_) (fun cdv A outer s H vs Q E hr h => ?_)
  · obtain ⟨x, t, rfl, _⟩ := h
    rfl
  obtain ⟨x, us, rfl, ⟨a, xs, rfl, hs, hp⟩, hne, hlo, hq⟩ := h
  refine ⟨_, pss_one (ps_ret (pe_and (pe_isi "tuple" (pv 0) bootTup B.tup B.isi) (pe_and (pe_cmpR op_gt (pe_len (pv 0) B.len) pe_int (nomark _)) (pe_one (pe_cl CN (hr.mono (by decide)) (pa_cons (pv 0) pa_nil)))))), ?_⟩
  have hl : xs.length = us.length := paired_len hp
  have hpos : 0 < xs.length := by
    rw [hl]
    cases us with
    | nil => exact absurd rfl hne
    | cons _ _ => exact Nat.succ_pos _
  refine ⟨_, rfl, _, _, .tup hs, kTT, _, rfl, iteT ⟨_, rfl, a, _, rfl, .inr hs, _, _, rfl, rfl, _, rfl, iteP (by omega) ?_⟩⟩
  exact ⟨_, rfl, a, xs, us, rfl, hs, hp, hlo, hq H (Gr.refl H)⟩
end
end SB
namespace SB
open PySem L2 GxR GA
section
variable {P : Program} {w : World} {K : PySem.W.Frag} {mg : Str → Option Value} {base : Heap}
/-! ### are_wholes, are_sides, is_question -/
def spWholes (K : PySem.W.Frag) : Sp := fun vs H Q _ => ∃ x ns, vs = [x] ∧ SiV K H x ns ∧ Q (.bl true) H
theorem sc_wholes : FnScope ["told", "item"] ["told"] (defScope s_are_wholes) := ⟨rfl, rfl, rfl, by decide +kernel, rfl, by decide +kernel, by decide +kernel⟩
theorem cl_wholes (D : Df K mg "are_wholes" s_are_wholes) (CW : Cl P w K mg base 1 "is_whole" ["told"] (spWhole K)) : Cl P w K mg base 2 "are_wholes" ["told"] (spWholes K) := by
  refine D.cl (fun _ _ _ _ _ _ us hl => match us, hl with | [_], _ => rfl) fun f fd F => F.ok sc_wholes (fun vs H Q E h => ?_) (fun cdv A outer s H vs Q E hr h => ?_)
  · obtain ⟨x, ns, rfl, _⟩ := h
    rfl
  obtain ⟨x, ns, rfl, ⟨a, rfl, hs⟩, hq⟩ := h
  refine ⟨_, pss_cons (ps_for PassesOwn.never rfl (pi_tup (pv 0)) (pg_name (i := 1) sc_wholes.nd rfl (Or.inl rfl))
    (pss_one (ps_if (pt_not (pt_val (pe_cl CW (hr.mono (by decide)) (pa_cons (pv 1) pa_nil)))) pss_no pss_nil))) (pss_one (ps_ret pe_bl)), ?_⟩
  refine ⟨_, rfl, a, rfl, ⟨_, hs⟩, for_tup (xs := ns.map V.int) (fun i σ H1 => ∃ c, σ = [some (.ref a), c] ∧ H1 = H) ⟨_, rfl, rfl⟩ (fun i σ H1 _ h => ?_) (fun i x σ H1 hx h => ?_) (fun σ H1 h => ?_)⟩
  · obtain ⟨c, rfl, rfl⟩ := h
    exact hs
  · obtain ⟨c, rfl, rfl⟩ := h
    rw [List.getElem?_map] at hx
    obtain ⟨z, hz, rfl⟩ := Option.map_eq_some_iff.mp hx
    exact ⟨_, rfl, _, _, rfl, .int z, _, rfl, iteF ⟨some (.int z), rfl, rfl⟩⟩
  · obtain ⟨c, rfl, rfl⟩ := h
    exact hq
def spSides (K : PySem.W.Frag) : Sp := fun vs H Q _ => ∃ x ns, vs = [x] ∧ SiV K H x ns ∧ NonZ ns ∧ ∀ H', Gr H H' → Q (.bl true) H'
def spQuest (K : PySem.W.Frag) : Sp := fun vs H Q _ => ∃ x q, vs = [x] ∧ QuV K H x q ∧ NonZ q.1 ∧ ∀ H', Gr H H' → Q (.bl true) H'
def spQuestOf (K : PySem.W.Frag) : Sp := fun vs H Q _ => ∃ x q, vs = [x, .int ((q.1.length : Nat) : Int)] ∧ QuV K H x q ∧ NonZ q.1 ∧ ∀ H', Gr H H' → Q (.bl true) H'
/-! ### is_answer, is_wish_of, is_index -/
def spAnsw (K : PySem.W.Frag) : Sp := fun vs H Q _ => ∃ i : Int, vs = [.int i] ∧ -1 ≤ i ∧ i ≤ 1 ∧ Q (.bl true) H
def spIndex : Sp := fun vs H Q _ => ∃ i n : Int, vs = [.int i, .int n] ∧ 0 ≤ i ∧ i < n ∧ Q (.bl true) H
/-- a wish's item: none, or an answer -/
def Hope (x : V) : Prop := x = .non ∨ ∃ i : Int, x = .int i ∧ -1 ≤ i ∧ i ≤ 1
def spWish (K : PySem.W.Frag) : Sp := fun vs H Q _ => ∃ a xs, vs = [.ref a, .int ((xs.length : Nat) : Int)] ∧ SqT K H a xs ∧ (∀ x, x ∈ xs → Hope x) ∧ ∀ H', Gr H H' → Q (.bl true) H'
end
end SB
namespace SB
open PySem L2 GxR GA
section
variable {P : Program} {w : World} {K : PySem.W.Frag} {mg : Str → Option Value} {base : Heap}
/-! ### check_point, check_index, sign -/
def spChkPt (K : PySem.W.Frag) : Sp := fun vs H Q _ => ∃ x us, vs = [x, .int ((us.length : Nat) : Int)] ∧ PtV K H x us ∧ us ≠ [] ∧ (∀ q, q ∈ us → Lo q) ∧ ∀ H', Gr H H' → Q .non H'
theorem sc_chkPt : FnScope ["point", "d"] ["point", "d"] (defScope s_check_point) := ⟨rfl, rfl, rfl, by decide +kernel, rfl, by decide +kernel, by decide +kernel⟩
theorem cl_chkPt (D : Df K mg "check_point" s_check_point) (B : Blt mg) (CP : Cl P w K mg base 4 "is_point" ["told"] (spPoint K)) : Cl P w K mg base 5 "check_point" ["point", "d"] (spChkPt K) := by
  refine D.cl (fun _ _ _ _ _ _ us hl => match us, hl with | [_, _], _ => rfl) fun f fd F => F.ok sc_chkPt (fun vs H Q E h => ?_) (fun cdv A outer s H vs Q E hr h => ?_)
  · obtain ⟨x, us, rfl, _⟩ := h
    rfl
  obtain ⟨x, us, rfl, hx, hne, hlo, q⟩ := h
  refine ⟨_, pss_one (ps_if (PW.pt (by exact (pw_or (pt_not (pt_val (pe_cl CP (hr.mono (by decide)) (pa_cons (pv 0) pa_nil)))) (pw_or1 (pt_cmpR op_ne (pe_len (pv 0) B.len) (pv 1) (nomark _)))))) pss_no pss_nil), ?_⟩
  refine ⟨_, rfl, _, us, rfl, hx, hne, hlo, fun H' g => ⟨_, rfl, iteF ?_⟩⟩
  obtain ⟨a, xs, rfl, hs, hp⟩ := hx.gr g
  refine ⟨_, rfl, a, xs, rfl, .inr hs, _, rfl, rfl, _, rfl, iteNS (by rw [paired_len hp]) (q H' g)⟩
def spChkIx : Sp := fun vs H Q _ => ∃ i n : Int, vs = [.int i, .int n] ∧ 0 ≤ i ∧ i < n ∧ Q .non H
def spChkWish (K : PySem.W.Frag) : Sp := fun vs H Q _ => ∃ a xs, vs = [.ref a, .int ((xs.length : Nat) : Int)] ∧ SqT K H a xs ∧ (∀ x, x ∈ xs → Hope x) ∧ ∀ H', Gr H H' → Q .non H'
def sgn (i : Int) : Int := if 0 < i then 1 else if i < 0 then -1 else 0
def spSign : Sp := fun vs H Q _ => ∃ i : Int, vs = [.int i] ∧ Q (.int (sgn i)) H
theorem sc_sign : FnScope ["whole"] ["whole"] (defScope s_sign) := ⟨rfl, rfl, rfl, by decide +kernel, rfl, by decide +kernel, by decide +kernel⟩
theorem cl_sign (D : Df K mg "sign" s_sign) : Cl P w K mg base 1 "sign" ["whole"] spSign := by
  refine D.cl (fun _ _ _ _ _ _ us hl => match us, hl with | [_], _ => rfl) fun f fd F => F.ok sc_sign (fun vs H Q E h => ?_) (fun cdv A outer s H vs Q E hr h => ?_)
  · obtain ⟨i, rfl, _⟩ := h
    rfl
  obtain ⟨i, rfl, q⟩ := h
  refine ⟨_, pss_cons (ps_if (pt_cmpR op_eq (pv 0) pe_int (nomark _)) (pss_one (ps_ret pe_int)) pss_nil) (pss_one (ps_ret (pe_ifExp (pt_cmpR op_gt (pv 0) pe_int (nomark _)) pe_int (pe_un un_neg pe_int)))), ?_⟩
  unfold sgn at q
  refine ⟨_, rfl, rfl, _, rfl, ?_⟩
  by_cases h0 : i = 0
  · subst h0
    exact iteP rfl q
  · refine iteN (fun z => h0 (by injection z)) ⟨_, rfl, _, _, rfl, rfl, _, rfl, ?_⟩
    by_cases h1 : 0 < i
    · rw [if_pos h1] at q
      exact iteP h1 q
    · rw [if_neg h1, if_pos (by omega)] at q
      exact iteN h1 ⟨_, rfl, q⟩
/-! ### numbers -/
/-- what comes is the number N / D -/
def spLowest (K : PySem.W.Frag) : Sp := fun vs H Q _ => ∃ t b : Int, vs = [.int t, .int b] ∧ 0 < b ∧ Wd 310000 (t, b) ∧ ∀ v r H', Gr H H' → NuV K H' v r → Lo r → Eqr r t b → r.1.natAbs ≤ t.natAbs → r.2.natAbs ≤ b.natAbs → Q v H'
/-- two numbers put together by f -/
def spBin (K : PySem.W.Frag) (f : Int × Int → Int × Int → Int × Int) : Sp := fun vs H Q _ => ∃ x y p q m n, vs = [x, y] ∧ NuV K H x p ∧ NuV K H y q ∧ 0 < p.2 ∧ 0 < q.2 ∧ Wd m p ∧ Wd n q ∧ m + n ≤ 300000 ∧
  ∀ v r H', Gr H H' → NuV K H' v r → Lo r → Eqr r (f p q).1 (f p q).2 → Wd (m + n + 1) r → Q v H'
theorem wd_le {m : Nat} {r : Int × Int} {t b : Int} (h : Wd m (t, b)) (h1 : r.1.natAbs ≤ t.natAbs) (h2 : r.2.natAbs ≤ b.natAbs) : Wd m r := ⟨Nat.lt_of_le_of_lt h1 h.1, Nat.lt_of_le_of_lt h2 h.2⟩
theorem cmw {i j : Int} {m n : Nat} (h : i.natAbs < 2 ^ m) (k : j.natAbs < 2 ^ n) (z : m + n ≤ 300000) : CMulW i j := by
  refine wide_mul (a := m + 1) (b := n + 1) (Nat.lt_of_lt_of_le h (Nat.pow_le_pow_right (by decide) (Nat.le_succ _))) (Nat.lt_of_lt_of_le k (Nat.pow_le_pow_right (by decide) (Nat.le_succ _))) (Nat.succ_pos _) (Nat.succ_pos _) ?_
  omega
end
end SB
namespace SB
open PySem L2 GxR GA RZ
/-- the numbers of a point: in bounds -/
def UsOk (us : List (Int × Int)) : Prop := us ≠ [] ∧ us.length ≤ 4 ∧ (∀ q, q ∈ us → Lo q) ∧ ∀ q, q ∈ us → Wd 20000 q
theorem wd_one {z : Int} (h : z.natAbs < 2 ^ 10000) : Wd 10000 (z, 1) := ⟨h, by show (1 : Nat) < 2 ^ 10000; exact Nat.one_lt_two_pow (by decide)⟩
section
variable {P : Program} {w : World} {K : PySem.W.Frag} {mg : Str → Option Value} {base : Heap}
def spCome (K : PySem.W.Frag) : Sp := fun vs H Q _ => ∃ x y ns us, vs = [x, y] ∧ SiV K H x ns ∧ PtV K H y us ∧ ns.length = us.length ∧ UsOk us ∧ NsOk ns ∧
  ∀ v r H', Gr H H' → NuV K H' v r → 0 < r.2 → Eqr r (sumU ns us (0, 1)).1 (sumU ns us (0, 1)).2 → Wd 121000 r → Q v H'
/-- .. with sides of width k, numbers of width m -/
def spComeP (K : PySem.W.Frag) : Sp := fun vs H Q _ => ∃ x y ns us k m, vs = [x, y] ∧ SiV K H x ns ∧ PtV K H y us ∧ ns.length = us.length ∧ us.length ≤ 4 ∧ (∀ u, u ∈ us → Lo u) ∧ (∀ u, u ∈ us → Wd m u) ∧ (∀ z, z ∈ ns → z.natAbs < 2 ^ k) ∧ 4 * (m + k + 3) ≤ 290000 ∧
  ∀ v r H', Gr H H' → NuV K H' v r → 0 < r.2 → Eqr r (sumU ns us (0, 1)).1 (sumU ns us (0, 1)).2 → Wd (1 + us.length * (m + k + 3)) r → Q v H'
/-- the sum itself, not divided -/
def spSumAt (K : PySem.W.Frag) : Sp := fun vs H Q _ => ∃ x y ns us k m, vs = [x, y] ∧ SiV K H x ns ∧ PtV K H y us ∧ ns.length = us.length ∧ us.length ≤ 4 ∧ (∀ u, u ∈ us → Wd m u) ∧ (∀ z, z ∈ ns → z.natAbs < 2 ^ k) ∧ 4 * (m + k + 3) ≤ 290000 ∧
  ∀ v H', Gr H H' → NuV K H' v (sumU ns us (0, 1)) → Wd (1 + us.length * (m + k + 3)) (sumU ns us (0, 1)) → Q v H'
theorem stepU_is (g : Int × Int) (z : Int) (u : Int × Int) : stepU g (z, u) = (g.1 * u.2 + z * u.1 * g.2, g.2 * u.2) := by
  unfold stepU fPlus fTimes
  dsimp only
  rw [Int.one_mul]
theorem wd_step {m k n : Nat} {g u : Int × Int} {z : Int} (hg : Wd n g) (hu : Wd m u) (hz : z.natAbs < 2 ^ k) : Wd (n + (m + k + 3)) (stepU g (z, u)) := by
  have wz : Wd (k + 1) (z, 1) := ⟨Nat.lt_of_lt_of_le hz (Nat.pow_le_pow_right (by decide) (Nat.le_succ k)), Nat.one_lt_two_pow (Nat.succ_ne_zero k)⟩
  exact (wd_plus hg (wd_times wz hu)).mono (by omega)
theorem sc_sumAt : FnScope ["sides", "point", "top", "bottom", "side", "above", "below"] ["sides", "point"] (defScope s__sum_at) := ⟨rfl, rfl, rfl, by decide +kernel, rfl, by decide +kernel, by decide +kernel⟩
theorem cl_sumAt (D : Df K mg "_sum_at" s__sum_at) (B : Blt mg) : Cl P w K mg base 1 "_sum_at" ["sides", "point"] (spSumAt K) := by
  refine D.cl (fun _ _ _ _ _ _ us hl => match us, hl with | [_, _], _ => rfl) fun f fd F => F.ok sc_sumAt (fun vs H Q E h => ?_) (fun cdv A outer s H vs Q E hr h => ?_)
  · obtain ⟨x, y, ns, us, k, m, rfl, _⟩ := h
    rfl
  obtain ⟨x, y, ns, us, k, m, rfl, ⟨a, rfl, ha⟩, ⟨b, xs, rfl, hb, hp⟩, hl, u1, u3, no, km, hq⟩ := h
  refine ⟨_, pss_cons (ps_asg (pe_tup (pa_cons pe_int (pa_cons pe_int pa_nil))) (pg_tup rfl (pgs_cons (pg_name (i := 2) sc_sumAt.nd rfl (Or.inl rfl)) (pgs_cons (pg_name (i := 3) sc_sumAt.nd rfl (Or.inl rfl)) pgs_nil))))
    (pss_cons (ps_for PassesOwn.never rfl (pi_zipA rfl B.zip (pa_cons (pv 0) (pa_cons (pv 1) pa_nil))) (pg_tup rfl (pgs_cons (pg_name (i := 4) sc_sumAt.nd rfl (Or.inl rfl)) (pgs_cons (pg_tup rfl (pgs_cons (pg_name (i := 5) sc_sumAt.nd rfl (Or.inl rfl)) (pgs_cons (pg_name (i := 6) sc_sumAt.nd rfl (Or.inl rfl)) pgs_nil))) pgs_nil)))
      (pss_one (ps_par (i := 2) (j := 3) rfl sc_sumAt.nd rfl rfl (by decide) rfl rfl (pa_cons (pe_op op_add (pe_op op_mulW (pv 2) (pv 6)) (pe_op op_mulW (pe_op op_mulW (pv 4) (pv 5)) (pv 3))) (pa_cons (pe_op op_mulW (pv 3) (pv 6)) pa_nil)) rfl)))
    (pss_one (ps_ret (pe_tup (pa_cons (pv 2) (pa_cons (pv 3) pa_nil)))))), ?_⟩
  refine ⟨szN (by show 2 ≤ 1000000; decide), fun p0 n0 => ?_⟩
  have g0 : Gr H (upd H p0 (.tup [.int 0, .int 1])) := (Gr.refl H).new n0 _
  have lx : (ns.map V.int).length = xs.length := by rw [List.length_map, hl, paired_len hp]
  refine ⟨p0, _, rfl, SqT.of upd_same, rfl, _, _, rfl, _, _, rfl, rfl, ?_⟩
  refine ⟨_, rfl, _, rfl, a, b, _, _, rfl, .inr ⟨g0.seqT ha, g0.seqT hb, ?_⟩⟩
  refine for_zipT lx (fun i σ H1 => ∃ (g : Int × Int) (c1 c2 c3 : Option V), σ = [some (.ref a), some (.ref b), some (.int g.1), some (.int g.2), c1, c2, c3] ∧ Gr H H1 ∧ g = ((ns.zip us).take i).foldl stepU (0, 1) ∧ (i ≤ 4 → Wd (1 + i * (m + k + 3)) g))
    ⟨(0, 1), _, _, _, rfl, g0, rfl, fun _ => ⟨by show (0 : Nat) < 2 ^ _; exact Nat.two_pow_pos _, Nat.one_lt_two_pow (by omega)⟩⟩ (fun i σ H1 h => ?_) (fun i x y T σ H1 hx hy h nT => ?_) (fun σ H1 h => ?_)
  · obtain ⟨g, c1, c2, c3, rfl, gr, _⟩ := h
    exact ⟨gr.seqT ha, gr.seqT hb⟩
  · obtain ⟨g, c1, c2, c3, rfl, gr, eg, wg⟩ := h
    rw [List.getElem?_map] at hx
    obtain ⟨z, hz, rfl⟩ := Option.map_eq_some_iff.mp hx
    obtain ⟨u, hu, nu⟩ := paired_get hp hy
    have hi : i < 4 := by
      have := (List.getElem?_eq_some_iff.mp hu).1
      omega
    have wu := u3 u (List.mem_of_getElem? hu)
    have wz := no z (List.mem_of_getElem? hz)
    have bi : i * (m + k + 3) ≤ 3 * (m + k + 3) := Nat.mul_le_mul_right _ (by omega)
    have wg1 := wg (by omega)
    have g1 := gr.new nT (.tup [.int z, y])
    obtain ⟨ya, rfl, ys⟩ := nu.gr g1
    refine ⟨T, _, rfl, SqT.of upd_same, rfl, _, _, rfl, _, _, rfl, ⟨ya, _, rfl, ys, rfl, _, _, rfl, _, _, rfl, rfl, rfl, ?_⟩⟩
    refine ⟨_, rfl, _, rfl, _, _, rfl, rfl, cmw wg1.1 wu.2 (by omega), _, rfl, _, rfl, _, _, rfl, rfl, cmw wz wu.1 (by omega), _, rfl, _, _, rfl, rfl, cmw (mul_lt2 wz wu.1) wg1.2 (by omega), _, _, rfl, rfl, _, rfl, _, rfl, _, _, rfl, rfl, cmw wg1.2 wu.2 (by omega), _, _, rfl, ?_⟩
    refine ⟨stepU g (z, u), _, _, _, by rw [stepU_is]; rfl, g1, by rw [fold_take stepU (0, 1) (zip_at hz hu), ← eg], fun _ => ?_⟩
    exact (wd_step wg1 wu wz).mono (by rw [Nat.add_mul, Nat.one_mul]; omega)
  · obtain ⟨g, c1, c2, c3, rfl, gr, eg, wg⟩ := h
    have e4 : (ns.map V.int).length = us.length := by rw [List.length_map, hl]
    rw [e4] at eg wg
    have ez : (ns.zip us).take us.length = ns.zip us := List.take_of_length_le (by rw [List.length_zip, hl]; omega)
    rw [ez] at eg
    have eg : g = sumU ns us (0, 1) := eg
    refine ⟨_, rfl, _, rfl, szN (by show 2 ≤ 1000000; decide), fun p1 n1 => ?_⟩
    rw [eg] at wg ⊢
    exact hq _ _ (gr.new n1 _) ⟨p1, rfl, SqT.of upd_same⟩ (wg u1)
theorem sum_pos {ns : List Int} {us : List (Int × Int)} (h : ∀ u, u ∈ us → Lo u) : 0 < (sumU ns us (0, 1)).2 := by
  refine sumU_pos (by show (0 : Int) < 1; decide) fun p hp => ?_
  exact (h p.2 (List.of_mem_zip (a := p.1) (b := p.2) hp).2).1
end
end SB
namespace SB
open PySem L2 GxR GA RZ
/-! ### tuples stay -/
def Tst (K : PySem.W.Frag) (H H' : Hp) : Prop := ∀ a xs, SqT K H a xs → SqT K H' a xs
section
variable {K : PySem.W.Frag} {H H' H1 : Hp} {x : V} {D : Addr}
theorem Gr.st (g : Gr H H') : Tst K H H' := fun _ _ h => g.seqT h
theorem Tst.trans {H2 : Hp} (a : Tst K H H') (b : Tst K H' H2) : Tst K H H2 := fun c xs h => b c xs (a c xs h)
theorem Tst.put {ys : List V} {o : HO} (hD : H D = some (.lst ys)) : Tst K H (upd H D o) := fun a xs h => by
  rcases h with (h | ⟨u, h⟩) | h
  · exact .inl (.inl (by rw [upd_ne (ne_of h hD (fun z => nomatch z))]; exact h))
  · exact .inl (.inr ⟨u, by rw [upd_ne (ne_of h hD (fun z => nomatch z))]; exact h⟩)
  · exact .inr h
theorem NuV.st {q : Int × Int} (h : NuV K H x q) (g : Tst K H H') : NuV K H' x q := let ⟨a, e, s⟩ := h; ⟨a, e, g _ _ s⟩
theorem SiV.st {q : List Int} (h : SiV K H x q) (g : Tst K H H') : SiV K H' x q := let ⟨a, e, s⟩ := h; ⟨a, e, g _ _ s⟩
theorem QuV.st {q : List Int × Int} (h : QuV K H x q) (g : Tst K H H') : QuV K H' x q := let ⟨a, t, e, s, z⟩ := h; ⟨a, t, e, g _ _ s, z.st g⟩
theorem PtV.st {q : List (Int × Int)} (h : PtV K H x q) (g : Tst K H H') : PtV K H' x q := let ⟨a, xs, e, s, p⟩ := h; ⟨a, xs, e, g _ _ s, Paired.mapP p fun _ _ z => NuV.st z g⟩
theorem BkV.st {d : Nat} {q : List (List Int × Int)} (h : BkV K H x d q) (g : Tst K H H') : BkV K H' x d q := let ⟨a, b, xs, e, s, t, p⟩ := h; ⟨a, b, xs, e, g _ _ s, g _ _ t, Paired.mapP p fun _ _ z => QuV.st z g⟩
theorem GrD.to (g : GrD D H H') (n : H D = none) : Gr H H' := by
  refine ⟨fun b o z e => g.keep b o (ne_of_none e n) z e, fun P h => ?_⟩
  obtain ⟨ps, e, t⟩ := id h
  exact g.tab P (ne_of_none e n) h
end
/-- a list of what comes of each item of a tuple, of a list -/
theorem lc_mapT {K : PySem.W.Frag} {a : Addr} {xs : List V} {g : TG} {te : TE} {vs : List Nat} {σ : L2.St} {H1 : Hp} {D : Addr} {Qd : Hp → Prop} (R : Nat → V → Hp → Prop) (hst : ∀ i y H H', R i y H → Tst K H H' → R i y H') (nD : H1 D = none) (hs : SqT K H1 a xs) (hz : xs.length ≤ 1000)
    (step : ∀ i x H (Kc : VK), xs[i]? = some x → Gr H1 H → (∀ y H4, Gr H H4 → R i y H4 → Kc y H4) → g x (wipe σ vs) H fun σ2 H2 => wipe σ2 vs = wipe σ vs ∧ te σ2 H2 Kc)
    (fin : ∀ ys H, H D = some (.lst ys) → ys.length = xs.length → Gr H1 H → (∀ i y, ys[i]? = some y → R i y H) → Qd H) :
    ∃ W : Nat → Nat → Hp → Prop, (∃ m, W 0 m (upd H1 D (.lst []))) ∧ ∀ i m H, W i m H →
      ((Itt K a).stop i H ∧ Qd H) ∨ ((Itt K a).go i H ∧ ∃ Nx : Hp → Prop, (∀ H', Nx H' → ∃ m', m' < m ∧ W (i + 1) m' H') ∧ ∀ x H', (Itt K a).yld i H x H' → g x (wipe σ vs) H' fun σ2 H2 => wipe σ2 vs = wipe σ vs ∧ tYes σ2 H2 fun b H3 =>
        if b = true then te σ2 H3 fun y H4 => ∃ acc, H4 D = some (.lst acc) ∧ acc.length < sizeLine ∧ Nx (upd H4 D (.lst (acc ++ [y]))) else Nx H3) := by
  refine ⟨fun i m H => i + m = xs.length ∧ ∃ ys, H D = some (.lst ys) ∧ ys.length = i ∧ GrD D H1 H ∧ ∀ j y, ys[j]? = some y → R j y H, ⟨xs.length, Nat.zero_add _, [], upd_same, rfl, (GrD.refl D H1).set _, fun j y h => by simp at h⟩, fun i m H w => ?_⟩
  obtain ⟨hm, ys, hD, hy, gr, hR⟩ := w
  have g1 := gr.to nD
  have hSi := g1.seqT hs
  cases m with
  | zero => exact .inl ⟨⟨xs, hSi, by omega⟩, fin ys H hD (by omega) g1 hR⟩
  | succ m =>
    have hi : i < xs.length := by omega
    refine .inr ⟨⟨xs, xs[i], hSi, List.getElem?_eq_getElem hi⟩, fun H' => ∃ ys, H' D = some (.lst ys) ∧ ys.length = i + 1 ∧ GrD D H1 H' ∧ ∀ j y, ys[j]? = some y → R j y H', fun H' h => ⟨m, Nat.lt_succ_self _, by omega, h⟩, fun x H' hyl => ?_⟩
    obtain ⟨rfl, hx⟩ := hyl
    have key : ∀ y H4, Gr H' H4 → R i y H4 → ∃ acc, H4 D = some (.lst acc) ∧ acc.length < sizeLine ∧ (∃ ys, (upd H4 D (.lst (acc ++ [y]))) D = some (.lst ys) ∧ ys.length = i + 1 ∧ GrD D H1 (upd H4 D (.lst (acc ++ [y]))) ∧ ∀ j z, ys[j]? = some z → R j z (upd H4 D (.lst (acc ++ [y])))) := fun y H4 g4 r4 => by
      have hD4 : H4 D = some (.lst ys) := g4.keep D _ (fun _ z => nomatch z) hD
      have tp : Tst K H4 (upd H4 D (.lst (ys ++ [y]))) := Tst.put hD4
      refine ⟨ys, hD4, small1000 (by omega), ys ++ [y], upd_same, by rw [List.length_append, hy]; rfl, (gr.trans (g4.d D)).set _, fun j z hz2 => ?_⟩
      by_cases hj : j < ys.length
      · rw [List.getElem?_append_left hj] at hz2
        exact hst _ _ _ _ (hR j z hz2) (g4.st.trans tp)
      · have hl := (List.getElem?_eq_some_iff.mp hz2).1
        rw [List.length_append] at hl
        have hl' : j < ys.length + 1 := hl
        have ej : j = ys.length := by omega
        subst ej
        rw [List.getElem?_append_right (Nat.le_refl _), Nat.sub_self] at hz2
        cases hz2
        rw [hy]
        exact hst _ _ _ _ r4 tp
    exact step i x H' _ (hx xs hSi) g1 key

theorem lc_mapL {K : PySem.W.Frag} {a : Addr} {xs : List V} {g : TG} {te : TE} {vs : List Nat} {σ : L2.St} {H1 : Hp} {D : Addr} {Qd : Hp → Prop} (R : Nat → V → Hp → Prop) (hst : ∀ i y H H', R i y H → Tst K H H' → R i y H') (nD : H1 D = none) (hs : SqL K H1 a xs) (hz : xs.length ≤ 1000)
    (step : ∀ i x H (Kc : VK), xs[i]? = some x → Gr H1 H → (∀ y H4, Gr H H4 → R i y H4 → Kc y H4) → g x (wipe σ vs) H fun σ2 H2 => wipe σ2 vs = wipe σ vs ∧ te σ2 H2 Kc)
    (fin : ∀ ys H, H D = some (.lst ys) → ys.length = xs.length → Gr H1 H → (∀ i y, ys[i]? = some y → R i y H) → Qd H) :
    ∃ W : Nat → Nat → Hp → Prop, (∃ m, W 0 m (upd H1 D (.lst []))) ∧ ∀ i m H, W i m H →
      ((Itl K a).stop i H ∧ Qd H) ∨ ((Itl K a).go i H ∧ ∃ Nx : Hp → Prop, (∀ H', Nx H' → ∃ m', m' < m ∧ W (i + 1) m' H') ∧ ∀ x H', (Itl K a).yld i H x H' → g x (wipe σ vs) H' fun σ2 H2 => wipe σ2 vs = wipe σ vs ∧ tYes σ2 H2 fun b H3 =>
        if b = true then te σ2 H3 fun y H4 => ∃ acc, H4 D = some (.lst acc) ∧ acc.length < sizeLine ∧ Nx (upd H4 D (.lst (acc ++ [y]))) else Nx H3) := by
  refine ⟨fun i m H => i + m = xs.length ∧ ∃ ys, H D = some (.lst ys) ∧ ys.length = i ∧ GrD D H1 H ∧ ∀ j y, ys[j]? = some y → R j y H, ⟨xs.length, Nat.zero_add _, [], upd_same, rfl, (GrD.refl D H1).set _, fun j y h => by simp at h⟩, fun i m H w => ?_⟩
  obtain ⟨hm, ys, hD, hy, gr, hR⟩ := w
  have g1 := gr.to nD
  have hSi := g1.seqL hs
  cases m with
  | zero => exact .inl ⟨⟨xs, hSi, by omega⟩, fin ys H hD (by omega) g1 hR⟩
  | succ m =>
    have hi : i < xs.length := by omega
    refine .inr ⟨⟨xs, xs[i], hSi, List.getElem?_eq_getElem hi⟩, fun H' => ∃ ys, H' D = some (.lst ys) ∧ ys.length = i + 1 ∧ GrD D H1 H' ∧ ∀ j y, ys[j]? = some y → R j y H', fun H' h => ⟨m, Nat.lt_succ_self _, by omega, h⟩, fun x H' hyl => ?_⟩
    obtain ⟨rfl, hx⟩ := hyl
    have key : ∀ y H4, Gr H' H4 → R i y H4 → ∃ acc, H4 D = some (.lst acc) ∧ acc.length < sizeLine ∧ (∃ ys, (upd H4 D (.lst (acc ++ [y]))) D = some (.lst ys) ∧ ys.length = i + 1 ∧ GrD D H1 (upd H4 D (.lst (acc ++ [y]))) ∧ ∀ j z, ys[j]? = some z → R j z (upd H4 D (.lst (acc ++ [y])))) := fun y H4 g4 r4 => by
      have hD4 : H4 D = some (.lst ys) := g4.keep D _ (fun _ z => nomatch z) hD
      have tp : Tst K H4 (upd H4 D (.lst (ys ++ [y]))) := Tst.put hD4
      refine ⟨ys, hD4, small1000 (by omega), ys ++ [y], upd_same, by rw [List.length_append, hy]; rfl, (gr.trans (g4.d D)).set _, fun j z hz2 => ?_⟩
      by_cases hj : j < ys.length
      · rw [List.getElem?_append_left hj] at hz2
        exact hst _ _ _ _ (hR j z hz2) (g4.st.trans tp)
      · have hl := (List.getElem?_eq_some_iff.mp hz2).1
        rw [List.length_append] at hl
        have hl' : j < ys.length + 1 := hl
        have ej : j = ys.length := by omega
        subst ej
        rw [List.getElem?_append_right (Nat.le_refl _), Nat.sub_self] at hz2
        cases hz2
        rw [hy]
        exact hst _ _ _ _ r4 tp
    exact step i x H' _ (hx xs hSi) g1 key
/-- a list of ints known item by item -/
theorem ints_at {ys : List V} {zs : List Int} (hl : ys.length = zs.length) (h : ∀ (i : Nat) (y : V), ys[i]? = some y → ∃ z : Int, zs[i]? = some z ∧ y = V.int z) : ys = zs.map V.int := by
  refine List.ext_getElem? fun i => ?_
  rw [List.getElem?_map]
  cases e : ys[i]? with
  | none =>
    have : ys.length ≤ i := List.getElem?_eq_none_iff.mp e
    rw [List.getElem?_eq_none (by omega)]
    rfl
  | some y =>
    obtain ⟨z, hz, rfl⟩ := h i y e
    rw [hz]
    rfl
theorem paired_at2 {α β : Type} {F : α → β → Prop} : ∀ {xs : List α} {ys : List β}, xs.length = ys.length → (∀ (i : Nat) (x : α) (y : β), xs[i]? = some x → ys[i]? = some y → F x y) → Paired F xs ys
  | [], [], _, _ => .nil
  | [], _ :: _, h, _ => by simp at h
  | _ :: _, [], h, _ => by simp at h
  | x :: xs, y :: ys, h, f => .cons (f 0 x y rfl rfl) (paired_at2 (by simpa using h) fun i a b ha hb => f (i + 1) a b (by simpa using ha) (by simpa using hb))
end SB
namespace SB
open PySem L2 GxR GA RZ
section
variable {P : Program} {w : World} {K : PySem.W.Frag} {mg : Str → Option Value} {base : Heap}
def spCommon (K : PySem.W.Frag) : Sp := fun vs H Q _ => ∃ a ns, vs = [.ref a] ∧ SqT K H a (ns.map V.int) ∧ Q (.int ((gcdL ns : Nat) : Int)) H
theorem sc_common : FnScope ["wholes", "common", "whole"] ["wholes"] (defScope s_common_of) := ⟨rfl, rfl, rfl, by decide +kernel, rfl, by decide +kernel, by decide +kernel⟩
theorem cl_common (D : Df K mg "common_of" s_common_of) (B : Blt mg) : Cl P w K mg base 1 "common_of" ["wholes"] (spCommon K) := by
  refine D.cl (fun _ _ _ _ _ _ us hl => match us, hl with | [_], _ => rfl) fun f fd F => F.ok sc_common (fun vs H Q E h => ?_) (fun cdv A outer s H vs Q E hr h => ?_)
  · obtain ⟨a, ns, rfl, _⟩ := h
    rfl
  obtain ⟨a, ns, rfl, ha, q⟩ := h
  refine ⟨_, pss_cons (ps_set (i := 1) sc_common.nd rfl (.inl rfl) pe_int) (pss_cons (ps_for PassesOwn.never rfl (pi_tup (pv 0)) (pg_name (i := 2) sc_common.nd rfl (Or.inl rfl))
    (pss_one (ps_set (i := 1) sc_common.nd rfl (.inl rfl) (pe_callBfun cr_gcd rfl B.gcd (pa_cons (pv 1) (pa_cons (pv 2) pa_nil)))))) (pss_one (ps_ret (pv 1)))), ?_⟩
  refine ⟨_, rfl, a, rfl, ⟨_, ha⟩, for_tup (xs := ns.map V.int) (fun i σ H1 => ∃ c, σ = [some (.ref a), some (.int ((gcdL (ns.take i) : Nat) : Int)), c] ∧ H1 = H) ⟨_, rfl, rfl⟩ (fun i σ H1 _ h => ?_) (fun i x σ H1 hx h => ?_) (fun σ H1 h => ?_)⟩
  · obtain ⟨c, rfl, rfl⟩ := h
    exact ha
  · obtain ⟨c, rfl, rfl⟩ := h
    rw [List.getElem?_map] at hx
    obtain ⟨z, hz, rfl⟩ := Option.map_eq_some_iff.mp hx
    refine ⟨_, rfl, _, rfl, _, _, rfl, some (.int z), ?_, rfl⟩
    have e : gcdL (ns.take (i + 1)) = Nat.gcd (gcdL (ns.take i)) z.natAbs := fold_take (fun c (z : Int) => Nat.gcd c z.natAbs) 0 hz
    rw [e, Int.natAbs_natCast]
    rfl
  · obtain ⟨c, rfl, rfl⟩ := h
    have e : ns.take (ns.map V.int).length = ns := List.take_of_length_le (by rw [List.length_map]; exact Nat.le_refl _)
    rw [e]
    exact ⟨_, rfl, q⟩
def spBegins (K : PySem.W.Frag) : Sp := fun vs H Q _ => ∃ a ns, vs = [.ref a] ∧ SqT K H a (ns.map V.int) ∧ NonZ ns ∧ Q (.int ((firstNZ ns : Nat) : Int)) H
theorem sc_begins : FnScope ["wholes", "at"] ["wholes"] (defScope s_begins_at) := ⟨rfl, rfl, rfl, by decide +kernel, rfl, by decide +kernel, by decide +kernel⟩
theorem cl_begins (D : Df K mg "begins_at" s_begins_at) : Cl P w K mg base 1 "begins_at" ["wholes"] (spBegins K) := by
  refine D.cl (fun _ _ _ _ _ _ us hl => match us, hl with | [_], _ => rfl) fun f fd F => F.ok sc_begins (fun vs H Q E h => ?_) (fun cdv A outer s H vs Q E hr h => ?_)
  · obtain ⟨a, ns, rfl, _⟩ := h
    rfl
  obtain ⟨a, ns, rfl, ha, nz, q⟩ := h
  obtain ⟨k1, k2, k3⟩ := firstNZ_at nz
  refine ⟨_, pss_cons (ps_set (i := 1) sc_begins.nd rfl (.inl rfl) pe_int) (pss_cons (ps_while PassesOwn.never (pt_cmpR op_eq (pe_ix ix_tup (pv 0) (pv 1) (fun _ _ => rfl)) pe_int (nomark _)) (pss_one (ps_aug (i := 1) sc_begins.nd rfl (.inl rfl) pe_int ip_add))) (pss_one (ps_ret (pv 1)))), ?_⟩
  refine ⟨fun m σ H1 => ∃ i : Nat, σ = [some (.ref a), some (.int (i : Int))] ∧ H1 = H ∧ i + m = firstNZ ns, ⟨firstNZ ns, 0, rfl, rfl, Nat.zero_add _⟩, fun m σ H1 hw => ?_⟩
  obtain ⟨i, rfl, rfl, hm⟩ := hw
  have hl := (List.getElem?_eq_some_iff.mp k1).1
  have hi : i < ns.length := by omega
  have ei : ns[i]? = some ns[i] := List.getElem?_eq_getElem hi
  refine ⟨_, rfl, _, rfl, a, _, _, .int ns[i], rfl, rfl, ha, atI_nat (by rw [List.getElem?_map, ei]; rfl), rfl, _, rfl, ?_⟩
  cases m with
  | zero =>
    have e : i = firstNZ ns := by omega
    subst e
    rw [ei] at k1
    have : ns[firstNZ ns] = lead ns := Option.some.inj k1
    exact iteN (fun z => k2 (by rw [← this]; injection z)) ⟨_, rfl, q⟩
  | succ m =>
    have z0 := k3 i _ (by omega) ei
    refine iteP (by rw [z0]) ⟨fun σ H' => ∃ i' : Nat, σ = [some (.ref a), some (.int (i' : Int))] ∧ H' = H1 ∧ i' + m = firstNZ ns, fun σ' H' h => ⟨m, Nat.lt_succ_self _, h⟩, ?_⟩
    refine ⟨_, rfl, _, _, rfl, rfl, i + 1, ?_, rfl, by omega⟩
    simp
def spMany : Sp := fun vs H Q _ => ∃ d : Int, vs = [.int d] ∧ 1 ≤ d ∧ Q (.bl true) H
end
end SB
namespace SB
open PySem L2 GxR GA RZ SG PpSet
section
variable {P : Program} {w : World} {K : PySem.W.Frag} {mg : Str → Option Value} {base : Heap}
def spDiv (K : PySem.W.Frag) : Sp := fun vs H Q _ => ∃ x q, vs = [x] ∧ QuV K H x q ∧ NonZ q.1 ∧ q.1.length ≤ 8 ∧ ∀ v H', Gr H H' → QuV K H' v (divU q) → Q v H'
theorem sc_div : FnScope ["question", "sides", "wall", "common", "side"] ["question"] (defScope s_divided) := ⟨rfl, rfl, rfl, by decide +kernel, rfl, by decide +kernel, by decide +kernel⟩
theorem ne_of_nonZ {ns : List Int} (h : NonZ ns) : ns.map V.int ≠ [] := fun e => by
  rw [List.map_eq_nil_iff] at e
  rw [e] at h
  exact absurd (show false = true from h) Bool.false_ne_true
theorem cl_div (D : Df K mg "divided" s_divided) (B : Blt mg) (NS : NSK P K) (CC : Cl P w K mg base 1 "common_of" ["wholes"] (spCommon K)) : Cl P w K mg base 34 "divided" ["question"] (spDiv K) := by
  refine D.cl (fun _ _ _ _ _ _ us hl => match us, hl with | [_], _ => rfl) fun f fd F => F.ok sc_div (fun vs H Q E h => ?_) (fun cdv A outer s H vs Q E hr h => ?_)
  · obtain ⟨x, q, rfl, _⟩ := h
    rfl
  obtain ⟨x, q, rfl, ⟨a, t, rfl, hs, b, rfl, hb⟩, ok, l8, hq⟩ := h
  refine ⟨_, pss_cons (ps_asg (pv 0) (pg_tup rfl (pgs_cons (pg_name (i := 1) sc_div.nd rfl (Or.inl rfl)) (pgs_cons (pg_name (i := 2) sc_div.nd rfl (Or.inl rfl)) pgs_nil))))
    (pss_cons (ps_set (i := 3) sc_div.nd rfl (.inr rfl) (pe_cl CC (hr.mono (by decide)) (pa_cons (pe_op op_catT (pv 1) (pe_tup (pa_cons (pv 2) pa_nil))) pa_nil)))
    (pss_one (ps_ret (pe_tup (pa_cons (pe_callTy call_tuple_of rfl B.tup bootTup (pa_cons (pe_lc (own := [("side", 4)]) (g := gName 4) rfl sc_div.nd (pi_tup (pv 1)) (blkOk_by (N := ["question", "sides", "wall", "common", "side"]) (sc := defScope s_divided) (by decide +kernel)) (fun _ _ _ _ _ => pg_name (i := 4) sc_div.nd rfl (Or.inl rfl)) (fun _ _ _ _ _ => pts_nil) (fun _ _ _ _ _ => pe_op (op_fdivE NS (Room.far hr) rfl rfl rfl rfl rfl) (pv 4) (pv 3))) pa_nil)) (pa_cons (pe_op (op_fdivE NS (Room.far hr) rfl rfl rfl rfl rfl) (pv 2) (pv 3)) pa_nil)))))), ?_⟩
  have g0 : 0 < gcdL (q.1 ++ [q.2]) := by
    obtain ⟨z, h1, h2⟩ := ok.ex
    exact gcdL_pos (List.mem_append_left _ h1) h2
  have cd : ∀ i : Int, (0 : Int) < ((gcdL (q.1 ++ [q.2]) : Nat) : Int) := fun _ => by omega
  refine ⟨_, rfl, a, _, rfl, hs, rfl, _, _, rfl, _, _, rfl, rfl, ?_⟩
  refine ⟨_, rfl, _, rfl, szN (by show 1 ≤ 1000000; decide), fun p0 n0 => ?_⟩
  have k0 := (Gr.refl H).new n0 (.tup [.int q.2])
  refine ⟨_, _, _, _, rfl, rfl, k0.seqT hb, SqT.of upd_same, ne_of_nonZ ok, ?_, fun z => absurd z (List.cons_ne_nil _ _), fun _ p1 n1 => ?_⟩
  · rw [List.length_map]
    exact szN (by show q.1.length + 1 ≤ 1000000; omega)
  have k1 := k0.new n1 (.tup (q.1.map V.int ++ [.int q.2]))
  refine ⟨p1, q.1 ++ [q.2], rfl, SqT.of (by rw [upd_same, List.map_append]; rfl), ?_⟩
  refine ⟨_, rfl, b, rfl, ⟨_, k1.seqT hb⟩, fun D nD => lc_mapT (xs := q.1.map V.int) (fun i y _ => ∃ z : Int, q.1[i]? = some z ∧ y = .int (z / ((gcdL (q.1 ++ [q.2]) : Nat) : Int))) (fun _ _ _ _ h _ => h) nD (k1.seqT hb) (by rw [List.length_map]; omega) (fun i x H5 Kc hx g5 kc => ?_) (fun ys H5 hD hl g5 hR => ?_)⟩
  · rw [List.getElem?_map] at hx
    obtain ⟨z, hz, rfl⟩ := Option.map_eq_some_iff.mp hx
    exact ⟨rfl, _, rfl, _, rfl, _, _, rfl, rfl, cd 0, kc _ _ (Gr.refl _) ⟨z, hz, rfl⟩⟩
  · have ey : ys = (divU q).1.map V.int := by
      refine ints_at (by rw [hl, List.length_map]; show _ = (List.map _ q.1).length; rw [List.length_map]) fun i y hy => ?_
      obtain ⟨z, hz, rfl⟩ := hR i y hy
      exact ⟨_, by show (List.map _ q.1)[i]? = _; rw [List.getElem?_map, hz]; rfl, rfl⟩
    subst ey
    refine ⟨D, _, rfl, .inl ⟨SqL.of hD, fun p2 n2 => ?_⟩⟩
    have k5 := (k1.trans g5).new n2 (.tup ((divU q).1.map V.int))
    refine ⟨_, rfl, _, rfl, _, _, rfl, rfl, cd 0, szN (by show 2 ≤ 1000000; decide), fun p3 n3 => ?_⟩
    have k6 := k5.new n3 (.tup [.ref p2, .int (q.2 / ((gcdL (q.1 ++ [q.2]) : Nat) : Int))])
    exact hq _ _ k6 ⟨p3, _, rfl, SqT.of upd_same, p2, rfl, ((Gr.refl _).new n3 _).seqT (SqT.of upd_same)⟩
def spTurnQ (K : PySem.W.Frag) : Sp := fun vs H Q _ => ∃ x q, vs = [x] ∧ QuV K H x q ∧ q.1.length ≤ 8 ∧ ∀ v H', Gr H H' → QuV K H' v (negU q) → Q v H'
/-- the flat normal form -/
def spNorm (K : PySem.W.Frag) : Sp := fun vs H Q _ => ∃ a q, vs = [.ref a] ∧ SqT K H a ((q.1 ++ [q.2]).map V.int) ∧ NonZ q.1 ∧ q.1.length ≤ 8 ∧ ∀ b H', Gr H H' → VF K H' b (nfU q) → Q (.ref b) H'
theorem sc_norm : FnScope ["wholes", "common", "whole"] ["wholes"] (defScope s_normal_form) := ⟨rfl, rfl, rfl, by decide +kernel, rfl, by decide +kernel, by decide +kernel⟩
theorem cl_norm (D : Df K mg "normal_form" s_normal_form) (B : Blt mg) (NS : NSK P K) (CC : Cl P w K mg base 1 "common_of" ["wholes"] (spCommon K)) (CB : Cl P w K mg base 1 "begins_at" ["wholes"] (spBegins K)) : Cl P w K mg base 34 "normal_form" ["wholes"] (spNorm K) := by
  refine D.cl (fun _ _ _ _ _ _ us hl => match us, hl with | [_], _ => rfl) fun f fd F => F.ok sc_norm (fun vs H Q E h => ?_) (fun cdv A outer s H vs Q E hr h => ?_)
  · obtain ⟨a, q, rfl, _⟩ := h
    rfl
  obtain ⟨a, q, rfl, hs, nz, l8, hq⟩ := h
  refine ⟨_, pss_cons (ps_set (i := 1) sc_norm.nd rfl (.inr rfl) (pe_cl CC (hr.mono (by decide)) (pa_cons (pv 0) pa_nil)))
    (pss_cons (ps_if (pt_cmpR op_lt (pe_ix ix_tup (pv 0) (pe_cl CB (hr.mono (by decide)) (pa_cons (pv 0) pa_nil)) (fun _ _ => rfl)) pe_int (nomark _)) (pss_one (ps_set (i := 1) sc_norm.nd rfl (.inr rfl) (pe_un un_neg (pv 1)))) pss_nil)
    (pss_one (ps_ret (pe_ifExp (pt_cmpR op_eq (pv 1) pe_int (nomark _)) (pe_callTy call_tuple_of rfl B.tup bootTup (pa_cons (pv 0) pa_nil)) (pe_callTy call_tuple_of rfl B.tup bootTup (pa_cons (pe_lc (own := [("whole", 2)]) (g := gName 2) rfl sc_norm.nd (pi_tup (pv 0)) (blkOk_by (N := ["wholes", "common", "whole"]) (sc := defScope s_normal_form) (by decide +kernel)) (fun _ _ _ _ _ => pg_name (i := 2) sc_norm.nd rfl (Or.inl rfl)) (fun _ _ _ _ _ => pts_nil) (fun _ _ _ _ _ => pe_op (op_fdivP NS (Room.far hr) rfl rfl rfl rfl rfl) (pv 2) (pv 1))) pa_nil)))))), ?_⟩
  obtain ⟨nf, nc⟩ := nf_flat nz
  have nl := znonZ_app [q.2] nz
  obtain ⟨k1, k2, _⟩ := firstNZ_at nl
  refine ⟨_, rfl, a, q.1 ++ [q.2], rfl, hs, ?_⟩
  refine ⟨_, rfl, _, rfl, a, q.1 ++ [q.2], rfl, hs, nl, a, _, _, .int (lead (q.1 ++ [q.2])), rfl, rfl, hs, atI_nat (by rw [List.getElem?_map, k1]; rfl), _, _, rfl, rfl, _, rfl, ?_⟩
  by_cases hn : lead (q.1 ++ [q.2]) < 0
  · refine iteP hn ⟨_, rfl, _, rfl, ?_⟩
    have ec : -((gcdL (q.1 ++ [q.2]) : Nat) : Int) = nfC q := by unfold nfC; rw [if_pos hn]
    refine ⟨_, rfl, rfl, _, rfl, ?_⟩
    by_cases h1 : -((gcdL (q.1 ++ [q.2]) : Nat) : Int) = 1
    · refine iteP (show V.int (-((gcdL (q.1 ++ [q.2]) : Nat) : Int)) = V.int 1 by rw [h1]) ⟨_, rfl, a, _, rfl, .inr ⟨hs, hq a H (Gr.refl H) ?_⟩⟩
      show SqT K H a _
      rw [nf, ← ec, h1]
      have e1 : (q.1 ++ [q.2]).map (fun z => z.fdiv 1) = q.1 ++ [q.2] := by
        conv => rhs; rw [← List.map_id (q.1 ++ [q.2])]
        exact List.map_congr_left fun z _ => Int.fdiv_one z
      rw [e1]
      exact hs
    · refine iteN (fun z => h1 (by injection z)) ⟨_, rfl, a, rfl, ⟨_, hs⟩, fun D nD => lc_mapT (xs := (q.1 ++ [q.2]).map V.int) (fun i y _ => ∃ z : Int, (q.1 ++ [q.2])[i]? = some z ∧ y = .int (z.fdiv (-((gcdL (q.1 ++ [q.2]) : Nat) : Int)))) (fun _ _ _ _ h _ => h) nD hs (by rw [List.length_map, List.length_append]; show q.1.length + 1 ≤ 1000; omega) (fun i x H5 Kc hx g5 kc => ?_) (fun ys H5 hD hl g5 hR => ?_)⟩
      · rw [List.getElem?_map] at hx
        obtain ⟨z, hz, rfl⟩ := Option.map_eq_some_iff.mp hx
        exact ⟨rfl, _, rfl, _, rfl, _, _, rfl, rfl, by rw [ec]; exact nc, kc _ _ (Gr.refl _) ⟨z, hz, rfl⟩⟩
      · have ey : ys = ((nfU q).1 ++ [(nfU q).2]).map V.int := by
          rw [nf]
          refine ints_at (by rw [hl, List.length_map, List.length_map]) fun i y hy => ?_
          obtain ⟨z, hz, rfl⟩ := hR i y hy
          exact ⟨_, by rw [List.getElem?_map, hz]; rfl, by rw [ec]⟩
        subst ey
        exact ⟨D, _, rfl, .inl ⟨SqL.of hD, fun p2 n2 => hq _ _ (g5.new n2 _) (SqT.of upd_same)⟩⟩
  · refine iteN hn ?_
    have ec : ((gcdL (q.1 ++ [q.2]) : Nat) : Int) = nfC q := by unfold nfC; rw [if_neg hn]
    refine ⟨_, rfl, rfl, _, rfl, ?_⟩
    by_cases h1 : ((gcdL (q.1 ++ [q.2]) : Nat) : Int) = 1
    · refine iteP (show V.int ((gcdL (q.1 ++ [q.2]) : Nat) : Int) = V.int 1 by rw [h1]) ⟨_, rfl, a, _, rfl, .inr ⟨hs, hq a H (Gr.refl H) ?_⟩⟩
      show SqT K H a _
      rw [nf, ← ec, h1]
      have e1 : (q.1 ++ [q.2]).map (fun z => z.fdiv 1) = q.1 ++ [q.2] := by
        conv => rhs; rw [← List.map_id (q.1 ++ [q.2])]
        exact List.map_congr_left fun z _ => Int.fdiv_one z
      rw [e1]
      exact hs
    · refine iteN (fun z => h1 (by injection z)) ⟨_, rfl, a, rfl, ⟨_, hs⟩, fun D nD => lc_mapT (xs := (q.1 ++ [q.2]).map V.int) (fun i y _ => ∃ z : Int, (q.1 ++ [q.2])[i]? = some z ∧ y = .int (z.fdiv ((gcdL (q.1 ++ [q.2]) : Nat) : Int))) (fun _ _ _ _ h _ => h) nD hs (by rw [List.length_map, List.length_append]; show q.1.length + 1 ≤ 1000; omega) (fun i x H5 Kc hx g5 kc => ?_) (fun ys H5 hD hl g5 hR => ?_)⟩
      · rw [List.getElem?_map] at hx
        obtain ⟨z, hz, rfl⟩ := Option.map_eq_some_iff.mp hx
        exact ⟨rfl, _, rfl, _, rfl, _, _, rfl, rfl, by rw [ec]; exact nc, kc _ _ (Gr.refl _) ⟨z, hz, rfl⟩⟩
      · have ey : ys = ((nfU q).1 ++ [(nfU q).2]).map V.int := by
          rw [nf]
          refine ints_at (by rw [hl, List.length_map, List.length_map]) fun i y hy => ?_
          obtain ⟨z, hz, rfl⟩ := hR i y hy
          exact ⟨_, by rw [List.getElem?_map, hz]; rfl, by rw [ec]⟩
        subst ey
        exact ⟨D, _, rfl, .inl ⟨SqL.of hD, fun p2 n2 => hq _ _ (g5.new n2 _) (SqT.of upd_same)⟩⟩
def spNought (K : PySem.W.Frag) : Sp := fun vs H Q _ => ∃ x q, vs = [x] ∧ QuV K H x q ∧ QOk q ∧ q.1.length ≤ 8 ∧ ∀ b H', Gr H H' → VF K H' b (nfU q) → Q (.ref b) H'
theorem sc_nought : FnScope ["question", "sides", "wall"] ["question"] (defScope s_nought_form) := ⟨rfl, rfl, rfl, by decide +kernel, rfl, by decide +kernel, by decide +kernel⟩
theorem cl_nought (D : Df K mg "nought_form" s_nought_form) (CN : Cl P w K mg base 34 "normal_form" ["wholes"] (spNorm K)) : Cl P w K mg base 35 "nought_form" ["question"] (spNought K) := by
  refine D.cl (fun _ _ _ _ _ _ us hl => match us, hl with | [_], _ => rfl) fun f fd F => F.ok sc_nought (fun vs H Q E h => ?_) (fun cdv A outer s H vs Q E hr h => ?_)
  · obtain ⟨x, q, rfl, _⟩ := h
    rfl
  obtain ⟨x, q, rfl, ⟨a, t, rfl, hs, b, rfl, hb⟩, ok, l8, hq⟩ := h
  refine ⟨_, pss_cons (ps_asg (pv 0) (pg_tup rfl (pgs_cons (pg_name (i := 1) sc_nought.nd rfl (Or.inl rfl)) (pgs_cons (pg_name (i := 2) sc_nought.nd rfl (Or.inl rfl)) pgs_nil))))
    (pss_one (ps_ret (pe_cl CN (hr.mono (by decide)) (pa_cons (pe_op op_catT (pv 1) (pe_tup (pa_cons (pv 2) pa_nil))) pa_nil)))), ?_⟩
  refine ⟨_, rfl, a, _, rfl, hs, rfl, _, _, rfl, _, _, rfl, rfl, ?_⟩
  refine ⟨_, rfl, _, rfl, szN (by show 1 ≤ 1000000; decide), fun p0 n0 => ?_⟩
  have k0 := (Gr.refl H).new n0 (.tup [.int q.2])
  refine ⟨_, _, _, _, rfl, rfl, k0.seqT hb, SqT.of upd_same, ne_of_nonZ ok.nz, ?_, fun z => absurd z (List.cons_ne_nil _ _), fun _ p1 n1 => ?_⟩
  · rw [List.length_map]
    exact szN (by show q.1.length + 1 ≤ 1000000; omega)
  have k1 := k0.new n1 (.tup (q.1.map V.int ++ [.int q.2]))
  exact ⟨p1, q, rfl, SqT.of (by rw [upd_same, List.map_append]; rfl), ok.nz, l8, fun b H' g v => hq b H' (k1.trans g) v⟩
end
end SB
namespace SB
open PySem L2 GxR GA RZ SG PpSet
section
variable {P : Program} {w : World} {K : PySem.W.Frag} {mg : Str → Option Value} {base : Heap}
structure BOk (d : Nat) (qs : List (List Int × Int)) : Prop where
  d1 : 1 ≤ d
  d8 : d ≤ 8
  l8 : qs.length ≤ 8
  ok : ∀ q, q ∈ qs → QOk q ∧ q.1.length = d
  nd : (qs.map nfU).Nodup
theorem Tst.put2 {H : Hp} {D : Addr} {o o0 : HO} (hD : H D = some o0) (n1 : ∀ xs, o0 ≠ .tup xs) (n2 : ∀ u xs, o0 ≠ .frz u (.tup xs)) : Tst K H (upd H D o) := fun a xs h => by
  have ne : ∀ {o1 : HO}, H a = some o1 → o1 ≠ o0 → a ≠ D := fun e z q => by
    rw [q, hD] at e
    exact z (Option.some.inj e).symm
  rcases h with (h | ⟨u, h⟩) | h
  · exact .inl (.inl (by rw [upd_ne (ne h (Ne.symm (n1 xs)))]; exact h))
  · exact .inl (.inr ⟨u, by rw [upd_ne (ne h (Ne.symm (n2 u xs)))]; exact h⟩)
  · exact .inr h
theorem vf_st {H H' : Hp} {a : Addr} {k : Fm} (h : VF K H a k) (g : Tst K H H') : VF K H' a k := g _ _ h
/-- the members' keys of a set that is built -/
theorem nd_at {α β : Type} [DecidableEq β] {f : α → β} {l : List α} {i : Nat} {x : α} (h : (l.map f).Nodup) (e : l[i]? = some x) : f x ∉ (l.take i).map f := fun hm => by
  obtain ⟨hi, ex⟩ := List.getElem?_eq_some_iff.mp e
  obtain ⟨y, hy, ef⟩ := List.mem_map.mp hm
  obtain ⟨j, hj, ey⟩ := List.getElem_of_mem hy
  have hj' : j < i := by
    rw [List.length_take] at hj
    omega
  rw [List.getElem_take] at ey
  have h1 : (l.map f)[j]'(by rw [List.length_map]; omega) = (l.map f)[i]'(by rw [List.length_map]; exact hi) := by
    rw [List.getElem_map, List.getElem_map, ey, ef, ex]
  exact List.pairwise_iff_getElem.mp h j i (by rw [List.length_map]; omega) (by rw [List.length_map]; exact hi) hj' h1
def spBook (K : PySem.W.Frag) : Sp := fun vs H Q _ => ∃ x d qs, vs = [x] ∧ BkV K H x d qs ∧ BOk d qs ∧ ∀ H', Gr H H' → Q (.bl true) H'
end
end SB
namespace SB
open PySem L2 GxR GA RZ
section
variable {P : Program} {w : World} {K : PySem.W.Frag} {mg : Str → Option Value} {base : Heap}
/-- the tables that the program's defs want: how many, which -/
structure Tb5 (T : Nat → Addr) (H : Hp) : Prop where
  t : ∀ i, i < T 0 → TabG H (T (i + 1))
theorem Tb5.gr {T : Nat → Addr} {H H' : Hp} (t : Tb5 T H) (g : Gr H H') : Tb5 T H' := ⟨fun i h => g.tab _ (t.t i h)⟩
def spChkBk (K : PySem.W.Frag) (T : Nat → Addr) : Sp := fun vs H Q _ => ∃ x d qs, vs = [x] ∧ Tb5 T H ∧ BkV K H x d qs ∧ BOk d qs ∧ ∀ H', Gr H H' → Q .non H'
/-- the answer of a question at a point -/
def ansU (q : List Int × Int) (us : List (Int × Int)) : Int := sgn (worthU q us).1
def spAnsAt (K : PySem.W.Frag) : Sp := fun vs H Q _ => ∃ x y q us, vs = [x, y] ∧ QuV K H x q ∧ PtV K H y us ∧ QOk q ∧ UsOk us ∧ q.1.length = us.length ∧ ∀ H', Gr H H' → Q (.int (ansU q us)) H'
theorem sc_ansAt : FnScope ["question", "point", "sides", "wall", "top", "bottom"] ["question", "point"] (defScope s_answer_at) := ⟨rfl, rfl, rfl, by decide +kernel, rfl, by decide +kernel, by decide +kernel⟩
theorem worth_pos {q : List Int × Int} {us : List (Int × Int)} (h : ∀ u, u ∈ us → Lo u) : 0 < (worthU q us).2 := by
  refine sumU_pos (by show (0 : Int) < 1; decide) fun p hp => ?_
  exact (h p.2 (List.of_mem_zip (a := p.1) (b := p.2) hp).2).1
theorem sgn_eqr {r : Int × Int} {N D : Int} (h : Eqr r N D) (hr : 0 < r.2) (hD : 0 < D) : sgn r.1 = sgn N := by
  obtain ⟨a, _, b⟩ := eqr_sign h hr hD
  unfold sgn
  by_cases h1 : 0 < r.1
  · rw [if_pos h1, if_pos (a.mp h1)]
  · rw [if_neg h1, if_neg (fun z => h1 (a.mpr z))]
    by_cases h2 : r.1 < 0
    · rw [if_pos h2, if_pos (b.mp h2)]
    · rw [if_neg h2, if_neg (fun z => h2 (b.mpr z))]
theorem cl_ansAt (D : Df K mg "answer_at" s_answer_at) (CS : Cl P w K mg base 1 "sign" ["whole"] spSign) (CSum : Cl P w K mg base 1 "_sum_at" ["sides", "point"] (spSumAt K)) : Cl P w K mg base 37 "answer_at" ["question", "point"] (spAnsAt K) := by
  refine D.cl (fun _ _ _ _ _ _ us hl => match us, hl with | [_, _], _ => rfl) fun f fd F => F.ok sc_ansAt (fun vs H Q E h => ?_) (fun cdv A outer s H vs Q E hr h => ?_)
  · obtain ⟨x, y, q, us, rfl, _⟩ := h
    rfl
  obtain ⟨x, y, q, us, rfl, ⟨a, t, rfl, hs, hst⟩, hy, qo, uo, hl, hq⟩ := h
  refine ⟨_, pss_cons (ps_asg (pv 0) (pg_tup rfl (pgs_cons (pg_name (i := 2) sc_ansAt.nd rfl (Or.inl rfl)) (pgs_cons (pg_name (i := 3) sc_ansAt.nd rfl (Or.inl rfl)) pgs_nil))))
    (pss_cons (ps_asg (pe_cl CSum (hr.mono (by decide)) (pa_cons (pv 2) (pa_cons (pv 1) pa_nil))) (pg_tup rfl (pgs_cons (pg_name (i := 4) sc_ansAt.nd rfl (Or.inl rfl)) (pgs_cons (pg_name (i := 5) sc_ansAt.nd rfl (Or.inl rfl)) pgs_nil))))
    (pss_one (ps_ret (pe_cl CS (hr.mono (by decide)) (pa_cons (pe_op op_sub (pv 4) (pe_op op_mulW (pv 3) (pv 5))) pa_nil))))), ?_⟩
  refine ⟨_, rfl, a, _, rfl, hs, rfl, _, _, rfl, _, _, rfl, rfl, ?_⟩
  refine ⟨_, rfl, _, rfl, t, y, q.1, us, 10000, 20000, rfl, hst, hy, hl, uo.2.1, uo.2.2.2, qo.ns, by decide, fun v H1 g1 nv wd => ?_⟩
  obtain ⟨a2, rfl, s2⟩ := nv
  have bi : us.length * (20000 + 10000 + 3) ≤ 4 * 30003 := Nat.mul_le_mul_right _ uo.2.1
  refine ⟨a2, _, rfl, s2, rfl, _, _, rfl, _, _, rfl, rfl, ?_⟩
  refine ⟨_, rfl, _, rfl, _, rfl, _, _, rfl, rfl, cmw qo.wl (wd.mono (n := 130000) (by omega)).2 (by decide), _, _, rfl, rfl, _, rfl, ?_⟩
  have e : (sumU q.1 us (0, 1)).1 - q.2 * (sumU q.1 us (0, 1)).2 = (worthU q us).1 := by
    rw [← worth_of]
    show _ = (sumU q.1 us (0, 1)).1 * 1 - _
    rw [Int.mul_one]
  show Q (.int (sgn ((sumU q.1 us (0, 1)).1 - q.2 * (sumU q.1 us (0, 1)).2))) H1
  rw [e]
  exact hq H1 g1
def rowU (qs : List (List Int × Int)) (us : List (Int × Int)) : List Int := qs.map fun q => ansU q us
def spRowAt (K : PySem.W.Frag) : Sp := fun vs H Q _ => ∃ x y d qs us, vs = [x, y] ∧ BkV K H x d qs ∧ PtV K H y us ∧ BOk d qs ∧ UsOk us ∧ us.length = d ∧ ∀ v H', Gr H H' → SiV K H' v (rowU qs us) → Q v H'
def spAnswer (K : PySem.W.Frag) (T : Nat → Addr) : Sp := fun vs H Q _ => ∃ x y q us, vs = [x, y] ∧ Tb5 T H ∧ QuV K H x q ∧ PtV K H y us ∧ QOk q ∧ UsOk us ∧ q.1.length = us.length ∧ ∀ H', Gr H H' → Q (.int (ansU q us)) H'
def spRowOf (K : PySem.W.Frag) (T : Nat → Addr) : Sp := fun vs H Q _ => ∃ x y d qs us, vs = [x, y] ∧ Tb5 T H ∧ BkV K H x d qs ∧ PtV K H y us ∧ BOk d qs ∧ UsOk us ∧ us.length = d ∧ ∀ v H', Gr H H' → SiV K H' v (rowU qs us) → Q v H'
end
end SB
namespace SB
open PySem L2 GxR GA RZ
/-- a walk over two tuples side by side -/
theorem plan_zipT {K : PySem.W.Frag} {a b : Addr} {xs ys : List V} {g : TG} {te : TE} {σ0 : L2.St} {vs : List Nat} {QT QF : Hp → Prop} {H2 : Hp} (p : Nat → Prop) (hl : xs.length = ys.length) (hS : SqT K H2 a xs) (hS2 : SqT K H2 b ys)
    (step : ∀ i x y T H, xs[i]? = some x → ys[i]? = some y → Gr H2 H → H T = none → (∀ j, j < i → p j) → g (.ref T) σ0 (upd H T (.tup [x, y])) fun σ2 H3 => wipe σ2 vs = σ0 ∧ te σ2 H3 fun z H4 => ∃ b, z = .bl b ∧ (if b = true then Gr H2 H4 ∧ p i else QF H4))
    (fin : ∀ H, Gr H2 H → (∀ i, i < xs.length → p i) → QT H) : ∃ W : Nat → Nat → Hp → Prop, (∃ m, W 0 m H2) ∧ Plan (ItzT K a b) g tYes te σ0 vs QT QF W := by
  refine ⟨fun i m H => Gr H2 H ∧ i + m = xs.length ∧ ∀ j, j < i → p j, ⟨xs.length, Gr.refl _, Nat.zero_add _, fun j hj => absurd hj (Nat.not_lt_zero _)⟩, fun i m H w => ?_⟩
  obtain ⟨gr, hm, hp⟩ := w
  have hSi := gr.seqT hS
  have hSi2 := gr.seqT hS2
  cases m with
  | zero => exact .inl ⟨⟨xs, ys, hSi, hSi2, .inl (by omega)⟩, fin H gr fun j hj => hp j (by omega)⟩
  | succ m =>
    have hi : i < xs.length := by omega
    have hi2 : i < ys.length := by omega
    refine .inr ⟨⟨xs, ys, xs[i], ys[i], hSi, hSi2, List.getElem?_eq_getElem hi, List.getElem?_eq_getElem hi2⟩, fun H' => Gr H2 H' ∧ p i, fun H' h => ⟨m, Nat.lt_succ_self _, h.1, by omega, fun j hj => ?_⟩, fun v H' hy => ?_⟩
    · by_cases e : j = i
      · rw [e]
        exact h.2
      · exact hp j (by omega)
    · obtain ⟨T, x, y, rfl, nT, rfl, hx, hy2⟩ := hy
      exact step i x y T H (hx xs hSi) (hy2 ys hSi2) gr nT hp
section
variable {P : Program} {w : World} {K : PySem.W.Frag} {mg : Str → Option Value} {base : Heap}
def hopeV : Option Int → V
  | none => .non
  | some i => .int i
def fit1 (h : Option Int) (z : Int) : Bool := match h with
  | none => true
  | some i => decide (i = z)
def fitU (hs : List (Option Int)) (zs : List Int) : Bool := (hs.zip zs).all fun p => fit1 p.1 p.2
def HpOk (hs : List (Option Int)) : Prop := ∀ i, some i ∈ hs → -1 ≤ i ∧ i ≤ 1
def spFits (K : PySem.W.Frag) (T : Nat → Addr) : Sp := fun vs H Q _ => ∃ x a y d qs us hs, vs = [x, .ref a, y] ∧ Tb5 T H ∧ BkV K H x d qs ∧ SqT K H a (hs.map hopeV) ∧ PtV K H y us ∧ BOk d qs ∧ hs.length = qs.length ∧ HpOk hs ∧ UsOk us ∧ us.length = d ∧ ∀ H', Gr H H' → Q (.bl (fitU hs (rowU qs us))) H'
/-- two tuples put together -/
theorem rcat {H : Hp} {a b : Addr} {xs ys : List V} {Kc : VK} (ha : SqT K H a xs) (hb : SqT K H b ys) (hz : xs.length + ys.length ≤ 1000) (k : ∀ c H', Gr H H' → SqT K H' c (xs ++ ys) → Kc (.ref c) H') : L2.rCatA K (.ref a) (.ref b) H Kc := by
  refine ⟨a, b, xs, ys, rfl, rfl, ha, hb, szN (by omega), fun e => ?_, fun _ e => ?_, fun _ _ p np => ?_⟩
  · subst e
    exact k b H (Gr.refl _) hb
  · subst e
    exact k a H (Gr.refl _) (by rw [List.append_nil]; exact ha)
  · exact k p _ ((Gr.refl _).new np _) (SqT.of upd_same)
end
end SB
namespace SB
open PySem L2 GxR GA RZ
section
variable {P : Program} {w : World} {K : PySem.W.Frag} {mg : Str → Option Value} {base : Heap}
theorem cut_to (xs : List V) (i : Nat) (h : i ≤ xs.length) : cutV xs none (some (i : Int)) = xs.take i := by
  unfold cutV
  rw [HT.sIx_none, HT.sIx_nat, List.drop_zero, Nat.sub_zero, Nat.min_eq_left h]
theorem cut_from (xs : List V) (i : Nat) (h : i ≤ xs.length) : cutV xs (some (i : Int)) none = xs.drop i := by
  unfold cutV
  rw [HT.sIx_none, HT.sIx_nat, Nat.min_eq_left h, List.take_of_length_le]
  rw [List.length_drop]
  exact Nat.le_refl _
/-- the book with a question turned -/
def turnU (qs : List (List Int × Int)) (i : Nat) : List (List Int × Int) := match qs[i]? with
  | some q => (qs.take i ++ [negU q]) ++ qs.drop (i + 1)
  | none => qs
theorem paired_app {α β : Type} {F : α → β → Prop} : ∀ {xs xs' : List α} {ys ys' : List β}, Paired F xs ys → Paired F xs' ys' → Paired F (xs ++ xs') (ys ++ ys')
  | _, _, _, _, .nil, h => h
  | _, _, _, _, .cons r t, h => .cons r (paired_app t h)
theorem paired_take {α β : Type} {F : α → β → Prop} : ∀ {xs : List α} {ys : List β} (n : Nat), Paired F xs ys → Paired F (xs.take n) (ys.take n)
  | _, _, 0, _ => by simp only [List.take_zero]; exact .nil
  | _, _, _ + 1, .nil => .nil
  | _, _, n + 1, .cons r t => .cons r (paired_take n t)
theorem paired_drop {α β : Type} {F : α → β → Prop} : ∀ {xs : List α} {ys : List β} (n : Nat), Paired F xs ys → Paired F (xs.drop n) (ys.drop n)
  | _, _, 0, h => h
  | _, _, _ + 1, .nil => .nil
  | _, _, n + 1, .cons r t => paired_drop n t
def spTurned (K : PySem.W.Frag) (T : Nat → Addr) : Sp := fun vs H Q _ => ∃ x d qs i, vs = [x, .int ((i : Nat) : Int)] ∧ Tb5 T H ∧ BkV K H x d qs ∧ BOk d qs ∧ i < qs.length ∧ ∀ v H', Gr H H' → BkV K H' v d (turnU qs i) → Q v H'
end
end SB
namespace SB
open PySem L2 GxR GA
/-- the same data, of nesting n at most -/
def Alike (K : PySem.W.Frag) (H : Hp) : Nat → V → V → Prop
  | 0 => fun _ _ => False
  | n + 1 => fun x y => (x = y ∧ scB x = true) ∨ ∃ (a b : Addr) (xs ys : List V), x = .ref a ∧ y = .ref b ∧ ys.length ≤ sizeLine ∧ ((SqT K H a xs ∧ SqT K H b ys) ∨ (SqL K H a xs ∧ SqL K H b ys)) ∧ Paired (Alike K H n) xs ys
theorem Alike.gr {K : PySem.W.Frag} {H H' : Hp} (e : Gr H H') : ∀ {n : Nat} {x y : V}, Alike K H n x y → Alike K H' n x y
  | 0, _, _, h => h.elim
  | n + 1, x, y, h => by
    rcases h with h | ⟨a, b, xs, ys, rfl, rfl, hz, h, p⟩
    · exact .inl h
    · refine .inr ⟨a, b, xs, ys, rfl, rfl, hz, ?_, Paired.mapP p fun _ _ q => Alike.gr e q⟩
      rcases h with ⟨h1, h2⟩ | ⟨h1, h2⟩
      · exact .inl ⟨Gr.seqT e h1, Gr.seqT e h2⟩
      · exact .inr ⟨e.seqL h1, e.seqL h2⟩
theorem Alike.more {K : PySem.W.Frag} {H : Hp} : ∀ {n : Nat} {x y : V}, Alike K H n x y → Alike K H (n + 1) x y
  | 0, _, _, h => h.elim
  | n + 1, x, y, h => by
    rcases h with h | ⟨a, b, xs, ys, rfl, rfl, hz, h, p⟩
    · exact .inl h
    · exact .inr ⟨a, b, xs, ys, rfl, rfl, hz, h, Paired.mapP p fun _ _ q => Alike.more q⟩
theorem paired_at {α β : Type} {F : α → β → Prop} : ∀ {xs : List α} {ys : List β}, Paired F xs ys → ∀ i, i < ys.length → ∃ x y, xs[i]? = some x ∧ ys[i]? = some y ∧ F x y
  | _, _, .nil, i, h => absurd h (Nat.not_lt_zero i)
  | _, _, .cons r t, 0, _ => ⟨_, _, rfl, rfl, r⟩
  | _, _, .cons r t, i + 1, h => by
    obtain ⟨x, y, e1, e2, q⟩ := paired_at t i (Nat.lt_of_succ_lt_succ h)
    exact ⟨x, y, by simpa using e1, by simpa using e2, q⟩
/-- the two are the same data: the answer is True -/
def spSame (K : PySem.W.Frag) (n : Nat) : Sp := fun vs H Q _ => ∃ x y : V, vs = [x, y] ∧ Alike K H n x y ∧ ∀ H', Gr H H' → Q (.bl true) H'
section
variable {P : Program} {w : World} {K : PySem.W.Frag} {mg : Str → Option Value} {base : Heap}
theorem szL2 : (2 : Nat) ≤ sizeLine := by decide
theorem qt {Q : VK} {H : Hp} {b : Bool} (e : b = true) (q : Q (.bl true) H) : Q (.bl b) H := by
  rw [e]
  exact q
theorem szL0 : (0 : Nat) ≤ sizeLine := by decide
end
end SB
namespace SB
open PySem L2 GxR GA
/-- the deck as it may stand at d -/
def DeckAt (d : Addr) (H : Hp) : Prop := ∃ a b : Int, H d = some (.lst [.int a, .int b]) ∧ 0 ≤ b ∧ b < 2 ^ 64
theorem DeckAt.gr {d : Addr} {H H' : Hp} (h : DeckAt d H) (g : Gr H H') : DeckAt d H' := let ⟨a, b, e, r⟩ := h; ⟨a, b, g.keep _ _ (fun _ z => nomatch z) e, r⟩
theorem GrD.st {K : PySem.W.Frag} {d : Addr} {H H' : Hp} (g : GrD d H H') (h : DeckAt d H) : Tst K H H' := fun a xs q => by
  obtain ⟨u, v, e, _⟩ := h
  exact g.seqT e q
/-- a deck: a new list of two ints -/
def spDeck (K : PySem.W.Frag) : Sp := fun vs H Q _ => ∃ (l : Addr) (ns : List Int) (k : Int), vs = [.ref l, .int k] ∧ SqL K H l (ns.map V.int) ∧ ns.length ≤ 63 ∧ 0 ≤ k ∧ k < 1000 ∧
  ∀ (p : Addr) (a b : Int), H p = none → 0 ≤ b → b < 2305843009213693951 → Q (.ref p) (upd H p (.lst [.int a, .int b]))
def spTake : Sp := fun vs H Q _ => ∃ (d : Addr) (many : Int), vs = [.ref d, .int many] ∧ DeckAt d H ∧ 1 ≤ many ∧ many.natAbs < 2 ^ 8000 ∧
  ∀ (t : Int) H', 0 ≤ t → t < many → GrD d H H' → DeckAt d H' → Q (.int t) H'
section
variable {P : Program} {w : World} {K : PySem.W.Frag} {mg : Str → Option Value} {base : Heap}
theorem modB (x : Int) {m : Int} (h : 0 < m) : 0 ≤ x % m ∧ x % m < m := ⟨Int.emod_nonneg _ (by omega), Int.emod_lt_of_pos _ h⟩
theorem atL {ns : List Int} {k : Int} (h0 : 0 ≤ k) (h : k < (ns.length : Int)) : ∃ z : Int, atI (ns.map V.int) k = some (.int z) := by
  have hk : k.toNat < ns.length := by omega
  have ek : ((k.toNat : Nat) : Int) = k := Int.toNat_of_nonneg h0
  refine ⟨ns[k.toNat], ?_⟩
  have q : atI (ns.map V.int) ((k.toNat : Nat) : Int) = some (.int ns[k.toNat]) := atI_nat (by rw [List.getElem?_map, List.getElem?_eq_getElem hk] <;> rfl)
  rwa [ek] at q
end
section
variable {P : Program} {w : World} {K : PySem.W.Frag} {mg : Str → Option Value} {base : Heap}
end
end SB
namespace SB
open PySem L2 GxR GA
section
variable {P : Program} {w : World} {K : PySem.W.Frag} {mg : Str → Option Value} {base : Heap}
def spGcd : Sp := fun vs H Q _ => ∃ u v : Nat, vs = [.int (u : Int), .int (v : Int)] ∧ Q (.int ((Nat.gcd u v : Nat) : Int)) H
def spPair (K : PySem.W.Frag) : Sp := fun vs H Q _ => ∃ t b : Int, vs = [.int t, .int b] ∧ b ≠ 0 ∧ Wd 310000 (t, b) ∧ ∀ v r H', Gr H H' → NuV K H' v r → Lo r → Eqr r t b → r.1.natAbs ≤ t.natAbs → r.2.natAbs ≤ b.natAbs → Q v H'
def spTenth : Sp := fun vs H Q _ => ∃ k : Nat, vs = [.int (k : Int)] ∧ k ≤ 64 ∧ Q (.int ((10 : Int) ^ k)) H
end
end SB
namespace ZM
open PySem PySem.Spec L2 RZ
/-- what an iterator over a row of items must do: It, the iterator; Sq, the row -/
structure Runs1 (prog : Program) (w : World) (It : Heap → Addr → Addr → Nat → Prop) (Sq : Heap → Addr → Array Value → Prop) : Prop where
  stay : ∀ {h h' : Heap} {i l b : Addr} {k : Nat}, It h i l k → Heap.ExtBut b h h' → i ≠ b → It h' i l k
  sits : ∀ {h h' : Heap} {l b : Addr} {v : Array Value}, Sq h l v → Heap.ExtBut b h h' → l ≠ b → Sq h' l v
  here : ∀ {h : Heap} {i l : Addr} {k : Nat}, It h i l k → ∃ o, h.get? i = some o ∧ ∀ z, o.data ≠ .cell z
  same : ∀ {h h' : Heap} {i l : Addr} {k : Nat}, It h i l k → (∀ o, h.get? i = some o → h'.get? i = some o) → It h' i l k
  more : ∀ {A : Around} {E : Value → Shared → Prop} {s : Shared} {i l : Addr} {k : Nat} {v : Array Value} {x : Value} {Q : Value → Shared → Prop}, It s.heap i l k → Sq s.heap l v → v[k]? = some x →
    (∀ h', It h' i l (k + 1) → Heap.SameBut i s.heap h' → Q x { s with heap := h' }) → wpAny (model prog w) A (Builtin.SmallTypes.nextOf (.ref i)) Q E s
  ends : ∀ {A : Around} {E : Value → Shared → Prop} {s : Shared} {i l : Addr} {k : Nat} {v : Array Value} {Q : Value → Shared → Prop}, A.handled = none → It s.heap i l k → Sq s.heap l v → v[k]? = none →
    (∀ h' e, Heap.ExtBut i s.heap h' → (∃ o, h'.get? e = some o ∧ o.cls = .type "StopIteration") → E (.ref e) { s with heap := h' }) → wpAny (model prog w) A (Builtin.SmallTypes.nextOf (.ref i)) Q E s
theorem runs_list {prog : Program} {w : World} : Runs1 prog w (fun h i l k => h.IsListIter i l k) (fun h l v => h.IsList l v) :=
  ⟨fun x e n => x.extBut e n, fun x e n => x.extBut e n, fun ⟨o, e, _, d⟩ => ⟨o, e, fun z q => by rw [d] at q; cases q⟩, fun x k => x.at k, fun a b c d => wpAny_nextOf_list_item a b c d, fun hh a b c d => wpAny_nextOf_list_end hh a b c d⟩
theorem runs_tup {prog : Program} {w : World} : Runs1 prog w (fun h i l k => h.IsTupleIter i l k) (fun h l v => h.IsTuple l v) :=
  ⟨fun x e n => x.extBut e n, fun x e n => x.extBut e n, fun ⟨o, e, _, d⟩ => ⟨o, e, fun z q => by rw [d] at q; cases q⟩, fun x k => x.at k, fun a b c d => nextOf_tuple_item a b c d, fun hh a b c d => nextOf_tuple_end hh a b c d⟩
/-- nothing but the zip, its own pair and the two iterators has changed -/
abbrev Kept (z TO i1 i2 : Addr) (h h' : Heap) : Prop := ∀ c o, c ≠ z → c ≠ TO → c ≠ i1 → c ≠ i2 → h.get? c = some o → h'.get? c = some o
section
variable {prog : Program} {w : World} {A : Around} {E : Value → Shared → Prop} {s : Shared} {I1 I2 : Heap → Addr → Addr → Nat → Prop} {S1 S2 : Heap → Addr → Array Value → Prop}
  {z TI TO i1 i2 l1 l2 : Addr} {k1 k2 : Nat} {xs ys : Array Value} {x y a b : Value}
theorem zip_more (r1 : Runs1 prog w I1 S1) (r2 : Runs1 prog w I2 S2) {Q : Value → Shared → Prop} (D : ZipApart z TI TO i1 i2 l1 l2) (hz : IsZip s.heap z TI TO .none) (hTI : IsPair s.heap TI (.ref i1) (.ref i2)) (hTO : IsPair s.heap TO a b)
    (h1 : I1 s.heap i1 l1 k1) (h2 : I2 s.heap i2 l2 k2) (hl1 : S1 s.heap l1 xs) (hl2 : S2 s.heap l2 ys) (hx : xs[k1]? = some x) (hy : ys[k2]? = some y)
    (hQ : ∀ h', IsZip h' z TI TO (rawInt s.heap.objs.size) → IsPair h' TO x y → I1 h' i1 l1 (k1 + 1) → I2 h' i2 l2 (k2 + 1) → IsPair h' s.heap.objs.size x y → h'.objs.size = s.heap.objs.size + 1 → Kept z TO i1 i2 s.heap h' → Q (.ref s.heap.objs.size) { s with heap := h' }) :
    wpAny (model prog w) A (Builtin.«zip.__next__» ⟨[.ref z], []⟩) (fun fin s' => ∃ v, fin = .done (.ret v) ∧ Q v s') E s := by
  show wpAny _ _ (field (.ref z) 2 >>= _) _ _ _
  refine wpAny_bind (wpAny_field hz rfl (x := .bool false) rfl ?_)
  show wpAny _ _ (field (.ref z) 3 >>= _) _ _ _
  refine wpAny_bind (wpAny_field hz rfl (x := .ref TI) rfl (wpAny_bind (wpAny_seqItems hTI rfl ?_)))
  show wpAny _ _ (Builtin.SmallTypes.ownedTupleIsFree (.ref z) >>= _) _ _ _
  unfold Builtin.SmallTypes.ownedTupleIsFree
  refine wpAny_bind (wpAny_bind (wpAny_field hz rfl (x := .none) rfl (wpAny_pure ?_)))
  simp only [if_true]
  refine wpAny_bind (wpAny_rule (wpAny_bind (wpAny_field hz rfl (x := .ref TO) rfl (wpAny_bind (wpAny_setField_rec hz (by simp) fun g1 z1 e1 => ?_)))))
  have z1' : IsZip g1 z TI TO .ellipsis := z1
  refine wpAny_bind ?_
  simp only [List.zipIdx_cons, List.zipIdx_nil, List.forIn_cons, List.forIn_nil]
  refine wpAny_bind (wpAny_bind (wpAny_onRaise ?_))
  show wpAny _ _ (Builtin.SmallTypes.nextOf (.ref i1) >>= _) _ _ _
  refine wpAny_bind (r1.more (r1.stay h1 e1.extBut D.i1z) (r1.sits hl1 e1.extBut D.l1z) hx fun g2 n2 e2 => wpAny_pure ?_)
  have o2 : IsPair g2 TO a b := e2.extBut _ _ D.TOi1 (e1.extBut _ _ D.TOz hTO)
  refine wpAny_bind (wpAny_seqItems o2 rfl (wpAny_bind (wpAny_updateSeq_pair o2 fun g3 o3 e3 => wpAny_bind (wpAny_letGo (wpAny_pure ?_)))))
  have o3' : IsPair g3 TO x b := o3
  refine wpAny_bind (wpAny_bind (wpAny_onRaise ?_))
  show wpAny _ _ (Builtin.SmallTypes.nextOf (.ref i2) >>= _) _ _ _
  refine wpAny_bind (r2.more (r2.stay (r2.stay (r2.stay h2 e1.extBut D.i2z) e2.extBut D.i12.symm) e3.extBut D.TOi2.symm) (r2.sits (r2.sits (r2.sits hl2 e1.extBut D.l2z) e2.extBut D.l2i1) e3.extBut D.l2TO) hy fun g4 n4 e4 => wpAny_pure ?_)
  have o4 : IsPair g4 TO x b := e4.extBut _ _ D.TOi2 o3'
  refine wpAny_bind (wpAny_seqItems o4 rfl (wpAny_bind (wpAny_updateSeq_pair o4 fun g5 o5 e5 => wpAny_bind (wpAny_letGo (wpAny_pure (wpAny_pure ?_))))))
  have o5' : IsPair g5 TO x y := o5
  refine wpAny_bind (wpAny_seqItems o5' rfl (wpAny_bind (wpAny_newTuple ?_)))
  have sz : g5.objs.size = s.heap.objs.size := by rw [e5.1, e4.1, e3.1, e2.1, e1.1]
  have z5 : IsZip g5 z TI TO .ellipsis := e5.extBut _ _ D.TOz.symm (e4.extBut _ _ D.i2z.symm (e3.extBut _ _ D.TOz.symm (e2.extBut _ _ D.i1z.symm z1')))
  have kp : Kept z TO i1 i2 s.heap g5 := fun c o c1 c2 c3 c4 e => e5.extBut _ _ c2 (e4.extBut _ _ c4 (e3.extBut _ _ c2 (e2.extBut _ _ c3 (e1.extBut _ _ c1 e))))
  have m1 : I1 g5 i1 l1 (k1 + 1) := r1.stay (r1.stay (r1.stay n2 e3.extBut D.TOi1.symm) e4.extBut D.i12) e5.extBut D.TOi1.symm
  have m2 : I2 g5 i2 l2 (k2 + 1) := r2.stay n4 e5.extBut D.TOi2.symm
  have zl : z < g5.objs.size := Heap.lt_size z5
  show wpAny _ _ (Builtin.SmallTypes.ownedTupleHandOut (.ref z) (.ref g5.objs.size) >>= _) _ _ _
  unfold Builtin.SmallTypes.ownedTupleHandOut
  have z6 : IsZip (g5.push { cls := .type "tuple", data := .seq #[x, y] }) z TI TO .ellipsis := Heap.get?_push_of_some _ z5
  refine wpAny_bind (wpAny_bind (wpAny_setField_rec z6 (by simp) fun g7 z7 e7 => ?_))
  have z7' : IsZip g7 z TI TO (rawInt g5.objs.size) := z7
  refine wpAny_setField_rec z7' (by simp) fun g8 z8 e8 => ?_
  have z8' : IsZip g8 z TI TO (rawInt g5.objs.size) := z8
  have up : ∀ c o, c ≠ z → g5.get? c = some o → g8.get? c = some o := fun c o n e => e8.extBut _ _ n (e7.extBut _ _ n (Heap.get?_push_of_some _ e))
  have pr : IsPair g8 g5.objs.size x y := e8.extBut _ _ (Nat.ne_of_gt zl) (e7.extBut _ _ (Nat.ne_of_gt zl) (Heap.get?_push_size _ rfl))
  have s8 : g8.objs.size = g5.objs.size + 1 := by rw [e8.1, e7.1, Heap.size_push]
  rw [sz] at z8' pr s8
  refine wpAny_pure ⟨_, rfl, ?_⟩
  show Q (.ref g5.objs.size) _
  rw [sz]
  exact hQ g8 z8' (up _ _ D.TOz o5') (r1.same m1 fun o e => up _ o D.i1z e) (r2.same m2 fun o e => up _ o D.i2z e) pr s8 fun c o c1 c2 c3 c4 e => up c o c1 (kp c o c1 c2 c3 c4 e)
theorem zip_ends (r1 : Runs1 prog w I1 S1) (r2 : Runs1 prog w I2 S2) {Q : Fin → Shared → Prop} (hh : A.handled = none) (D : ZipApart z TI TO i1 i2 l1 l2) (hz : IsZip s.heap z TI TO .none) (hTI : IsPair s.heap TI (.ref i1) (.ref i2)) (hTO : IsPair s.heap TO a b)
    (h1 : I1 s.heap i1 l1 k1) (h2 : I2 s.heap i2 l2 k2) (hl1 : S1 s.heap l1 xs) (hl2 : S2 s.heap l2 ys) (hend : xs[k1]? = none ∨ ys[k2]? = none)
    (hE : ∀ h' e, Kept z TO i1 i2 s.heap h' → (∃ o, h'.get? e = some o ∧ o.cls = .type "StopIteration") → E (.ref e) { s with heap := h' }) : wpAny (model prog w) A (Builtin.«zip.__next__» ⟨[.ref z], []⟩) Q E s := by
  show wpAny _ _ (field (.ref z) 2 >>= _) _ _ _
  refine wpAny_bind (wpAny_field hz rfl (x := .bool false) rfl ?_)
  show wpAny _ _ (field (.ref z) 3 >>= _) _ _ _
  refine wpAny_bind (wpAny_field hz rfl (x := .ref TI) rfl (wpAny_bind (wpAny_seqItems hTI rfl ?_)))
  show wpAny _ _ (Builtin.SmallTypes.ownedTupleIsFree (.ref z) >>= _) _ _ _
  unfold Builtin.SmallTypes.ownedTupleIsFree
  refine wpAny_bind (wpAny_bind (wpAny_field hz rfl (x := .none) rfl (wpAny_pure ?_)))
  simp only [if_true]
  refine wpAny_bind (wpAny_rule (wpAny_bind (wpAny_field hz rfl (x := .ref TO) rfl (wpAny_bind (wpAny_setField_rec hz (by simp) fun g1 z1 e1 => ?_)))))
  have z1' : IsZip g1 z TI TO .ellipsis := z1
  have noz : ∀ {g : Heap} {e : Addr} {o : Obj}, IsZip g z TI TO .ellipsis → g.get? e = some o → o.cls = .type "StopIteration" → e ≠ z := fun {g e o} hg ho hc q => by
    rw [q, hg] at ho
    cases ho
    simp at hc
  refine wpAny_bind ?_
  simp only [List.zipIdx_cons, List.zipIdx_nil, List.forIn_cons, List.forIn_nil]
  refine wpAny_bind (wpAny_bind (wpAny_onRaise ?_))
  show wpAny _ _ (Builtin.SmallTypes.nextOf (.ref i1) >>= _) _ _ _
  cases hx : xs[k1]? with
  | none =>
    refine wpAny_bind (r1.ends hh (r1.stay h1 e1.extBut D.i1z) (r1.sits hl1 e1.extBut D.l1z) hx fun g2 e e2 ⟨oe, ho, hc⟩ => ?_)
    have z2 : IsZip g2 z TI TO .ellipsis := e2 _ _ D.i1z.symm z1'
    exact wpAny_setField_rec z2 (by simp) fun g3 _ e3 => hE g3 e (fun c o c1 _ c3 _ q => e3.extBut _ _ c1 (e2 _ _ c3 (e1.extBut _ _ c1 q))) ⟨oe, e3.extBut _ _ (noz z2 ho hc) ho, hc⟩
  | some x =>
    have hy : ys[k2]? = none := hend.elim (fun q => by rw [hx] at q; cases q) id
    refine wpAny_bind (r1.more (r1.stay h1 e1.extBut D.i1z) (r1.sits hl1 e1.extBut D.l1z) hx fun g2 n2 e2 => wpAny_pure ?_)
    have o2 : IsPair g2 TO a b := e2.extBut _ _ D.TOi1 (e1.extBut _ _ D.TOz hTO)
    refine wpAny_bind (wpAny_seqItems o2 rfl (wpAny_bind (wpAny_updateSeq_pair o2 fun g3 o3 e3 => wpAny_bind (wpAny_letGo (wpAny_pure ?_)))))
    refine wpAny_bind (wpAny_bind (wpAny_onRaise ?_))
    show wpAny _ _ (Builtin.SmallTypes.nextOf (.ref i2) >>= _) _ _ _
    refine wpAny_bind (r2.ends hh (r2.stay (r2.stay (r2.stay h2 e1.extBut D.i2z) e2.extBut D.i12.symm) e3.extBut D.TOi2.symm) (r2.sits (r2.sits (r2.sits hl2 e1.extBut D.l2z) e2.extBut D.l2i1) e3.extBut D.l2TO) hy fun g4 e e4 ⟨oe, ho, hc⟩ => ?_)
    have z4 : IsZip g4 z TI TO .ellipsis := e4 _ _ D.i2z.symm (e3.extBut _ _ D.TOz.symm (e2.extBut _ _ D.i1z.symm z1'))
    exact wpAny_setField_rec z4 (by simp) fun g5 _ e5 => hE g5 e (fun c o c1 c2 c3 c4 q => e5.extBut _ _ c1 (e4 _ _ c4 (e3.extBut _ _ c2 (e2.extBut _ _ c3 (e1.extBut _ _ c1 q))))) ⟨oe, e5.extBut _ _ (noz z4 ho hc) ho, hc⟩
end
end ZM
namespace ZM
open PySem PySem.Spec L2 RZ
section
variable {prog : Program} {w : World} {A : Around} {E : Value → Shared → Prop} {s : Shared} {z TI TO i1 i2 l1 l2 : Addr} {k1 k2 : Nat} {xs ys : Array Value} {x y a b : Value}
/-- the zip's next, a tuple beside a list -/
theorem next_more {Q : Option Value → Shared → Prop} (D : ZipApart z TI TO i1 i2 l1 l2) (hz : IsZip s.heap z TI TO .none) (hTI : IsPair s.heap TI (.ref i1) (.ref i2)) (hTO : IsPair s.heap TO a b)
    (h1 : s.heap.IsTupleIter i1 l1 k1) (h2 : s.heap.IsListIter i2 l2 k2) (hl1 : s.heap.IsTuple l1 xs) (hl2 : s.heap.IsList l2 ys) (hx : xs[k1]? = some x) (hy : ys[k2]? = some y)
    (hQ : ∀ h', IsZip h' z TI TO (rawInt s.heap.objs.size) → IsPair h' TO x y → h'.IsTupleIter i1 l1 (k1 + 1) → h'.IsListIter i2 l2 (k2 + 1) → IsPair h' s.heap.objs.size x y → Kept z TO i1 i2 s.heap h' → Q (some (.ref s.heap.objs.size)) { s with heap := h' }) :
    wpAny (model prog w) A (pyNext (.ref z)) Q E s := by
  have hT : s.TypeIs (.ref z) "zip" := ⟨_, hz, rfl⟩
  unfold pyNext
  refine wpAny_bind (wpAny_attempt (wpAny_callSpecial?_slot (name := Str.ofString "__next__") hT F.slot_zip_next (wpAny_call_entry F.slot_zip_next hT F.entry_zip_next ?_ (F.args_zip_next_1 _))))
  exact zip_more runs_tup runs_list D hz hTI hTO h1 h2 hl1 hl2 hx hy fun h' a1 a2 a3 a4 a5 _ a7 => wpAny_pure (hQ h' a1 a2 a3 a4 a5 a7)
theorem next_ends {Q : Option Value → Shared → Prop} (hh : A.handled = none) (D : ZipApart z TI TO i1 i2 l1 l2) (hz : IsZip s.heap z TI TO .none) (hTI : IsPair s.heap TI (.ref i1) (.ref i2)) (hTO : IsPair s.heap TO a b)
    (h1 : s.heap.IsTupleIter i1 l1 k1) (h2 : s.heap.IsListIter i2 l2 k2) (hl1 : s.heap.IsTuple l1 xs) (hl2 : s.heap.IsList l2 ys) (hend : xs[k1]? = none ∨ ys[k2]? = none)
    (hQ : ∀ h', Kept z TO i1 i2 s.heap h' → Q none { s with heap := h' }) : wpAny (model prog w) A (pyNext (.ref z)) Q E s := by
  have hT : s.TypeIs (.ref z) "zip" := ⟨_, hz, rfl⟩
  unfold pyNext
  refine wpAny_bind (wpAny_attempt (wpAny_callSpecial?_slot (name := Str.ofString "__next__") hT F.slot_zip_next (wpAny_call_entry F.slot_zip_next hT F.entry_zip_next ?_ (F.args_zip_next_1 _))))
  refine zip_ends runs_tup runs_list hh D hz hTI hTO h1 h2 hl1 hl2 hend fun h' e hk ⟨o, ho, hc⟩ => ?_
  exact wpAny_bind (wpAny_isInstance (T := "StopIteration") (b := true) ⟨o, ho, hc⟩ isSubtype_stop (wpAny_pure (hQ _ hk)))
end
abbrev mH1 (h : Heap) (a : Addr) : Heap := h.push { cls := .type "tuple_iterator", data := .fields #[.ref a, .int 0 0] }
abbrev mH2 (h : Heap) (a b : Addr) : Heap := (mH1 h a).push { cls := .type "list_iterator", data := .fields #[.ref b, .int 0 0] }
abbrev mH3 (h : Heap) (a b : Addr) : Heap := (mH2 h a b).push { cls := .type "tuple", data := .seq #[.ref h.objs.size, .ref (mH1 h a).objs.size] }
abbrev mH4 (h : Heap) (a b : Addr) : Heap := (mH3 h a b).push { cls := .type "tuple", data := .seq #[.none, .none] }
abbrev mH5 (h : Heap) (a b : Addr) : Heap := (mH4 h a b).push { cls := .type "zip", data := .fields #[.none, .bool false, .bool false, .ref (mH2 h a b).objs.size, .ref (mH3 h a b).objs.size] }
theorem meets_mixed (a b : Addr) (xs ys : Array Value) :
    Meets (Builtin.«zip.__new__» ⟨[.type "zip", .ref a, .ref b], []⟩) (fun _ R s => s.heap.IsTuple a xs ∧ s.heap.IsList b ys ∧ R (.ok (.ret (.ref (mH4 s.heap a b).objs.size))) { s with heap := mH5 s.heap a b }) :=
  .of_wp fun prog w A R s h => by
    obtain ⟨hp, g, d, tk, os⟩ := s
    obtain ⟨q1, q2, h⟩ := h
    have hsub := sub_zip
    have r1 : Heap.IsTuple (Shared.heap ⟨hp, g, d, tk, os⟩) a xs := q1
    have r2 : Heap.IsList (Shared.heap ⟨hp.push { cls := .type "tuple_iterator", data := .fields #[.ref a, .int 0 0] }, g, d, tk, os⟩) b ys := Heap.IsList.push q2 _
    wp_walk using wpAny_pyIter_tuple r1, wpAny_pyIter_list r2
    exact ⟨_, rfl, h⟩
theorem call_mixed {prog : Program} {w : World} {A : Around} {E : Value → Shared → Prop} {s : Shared} {a b : Addr} {xs ys : Array Value} {Q : Value → Shared → Prop} (ha : s.heap.IsTuple a xs) (hb : s.heap.IsList b ys)
    (h : ∀ h', IsZip h' (s.heap.objs.size + 4) (s.heap.objs.size + 2) (s.heap.objs.size + 3) .none → IsPair h' (s.heap.objs.size + 2) (.ref s.heap.objs.size) (.ref (s.heap.objs.size + 1)) → IsPair h' (s.heap.objs.size + 3) .none .none →
      h'.IsTupleIter s.heap.objs.size a 0 → h'.IsListIter (s.heap.objs.size + 1) b 0 → (∀ c o, s.heap.get? c = some o → h'.get? c = some o) → Q (.ref (s.heap.objs.size + 4)) { s with heap := h' }) :
    wpAny (model prog w) A (call (.type "zip") [.ref a, .ref b]) Q E s := by
  refine callType_new F.called_zip (by decide) (F.typeCall_zip_2 _ _) (F.newCall_zip_2 _ _) (fun obj => F.args_object_init_3 obj _ _) F.entry_zip_new (meets_mixed a b xs ys) ⟨ha, hb, ?_⟩
  have n1 : (mH1 s.heap a).objs.size = s.heap.objs.size + 1 := Heap.size_push ..
  have n2 : (mH2 s.heap a b).objs.size = s.heap.objs.size + 2 := by rw [Heap.size_push, n1]
  have n3 : (mH3 s.heap a b).objs.size = s.heap.objs.size + 3 := by rw [Heap.size_push, n2]
  have n4 : (mH4 s.heap a b).objs.size = s.heap.objs.size + 4 := by rw [Heap.size_push, n3]
  have up : ∀ {h : Heap} {c : Addr} {o : Obj} (u : Obj), h.get? c = some o → (h.push u).get? c = some o := fun u e => Heap.get?_push_of_some _ e
  have p5 : (mH5 s.heap a b).get? (mH4 s.heap a b).objs.size = some _ := Heap.get?_push_size _ rfl
  have p4 : (mH5 s.heap a b).get? (mH3 s.heap a b).objs.size = some _ := up _ (Heap.get?_push_size _ rfl)
  have p3 : (mH5 s.heap a b).get? (mH2 s.heap a b).objs.size = some _ := up _ (up _ (Heap.get?_push_size _ rfl))
  have p2 : (mH5 s.heap a b).get? (mH1 s.heap a).objs.size = some _ := up _ (up _ (up _ (Heap.get?_push_size _ rfl)))
  have p1 : (mH5 s.heap a b).get? s.heap.objs.size = some _ := up _ (up _ (up _ (up _ (Heap.get?_push_size _ rfl))))
  show _ ∧ _
  rw [n2, n3, n4] at p5
  rw [n1, n2] at p3
  rw [n3] at p4
  rw [n1] at p2
  rw [n4]
  exact ⟨⟨_, p5, rfl⟩, h _ p5 p3 p4 ⟨_, p1, rfl, rfl⟩ ⟨_, p2, rfl, rfl⟩ fun c o e => up _ (up _ (up _ (up _ (up _ e))))⟩
/-- a tuple and a list, side by side -/
def ItzM (K : PySem.W.Frag) (a b : Addr) : It where
  go := fun i H => ∃ (xs ys : List V) (x y : V), SqT K H a xs ∧ SqL K H b ys ∧ xs[i]? = some x ∧ ys[i]? = some y
  yld := fun i H v H' => ∃ T x y, v = .ref T ∧ H T = none ∧ H' = upd H T (.tup [x, y]) ∧ (∀ xs, SqT K H a xs → xs[i]? = some x) ∧ ∀ ys, SqL K H b ys → ys[i]? = some y
  stop := fun i H => ∃ xs ys : List V, SqT K H a xs ∧ SqL K H b ys ∧ (xs.length ≤ i ∨ ys.length ≤ i)
theorem five {c z TI TO i1 i2 : Addr} (h : c ∈ [z, TI, TO, i1, i2]) : c = z ∨ c = TI ∨ c = TO ∨ c = i1 ∨ c = i2 := by simpa using h
theorem turn_mixed {P : Program} {w : World} {K : PySem.W.Frag} {elts : List Expr} {kk : Nat} {tpos : Pos} {a b z TI TO i1 i2 : Addr} (D : ZipApart z TI TO i1 i2 a b) :
    Turn P w K (.Tuple elts kk tpos) (ItzM K a b) [z, TI, TO, i1, i2] z (fun i h => IsZip h z TI TO .none ∧ IsPair h TI (.ref i1) (.ref i2) ∧ (∃ x y, IsPair h TO x y) ∧ h.IsTupleIter i1 a i ∧ h.IsListIter i2 b i) := by
  refine ⟨by simp, fun i h st c hc => ?_, fun i h h' st k => ?_, fun X hP hw hK hc i pins s σ H E I hf st hg => ?_, fun X hP hw hK hc i pins s σ H E I hf st hg => ?_, fun A i s Q E st h => wpAny_pyIter_zip st.1 h⟩
  · obtain ⟨q1, q2, ⟨x, y, q3⟩, ⟨o1, e1, _, d1⟩, ⟨o2, e2, _, d2⟩⟩ := st
    rcases five hc with q | q | q | q | q <;> subst q
    · exact ⟨_, q1, fun v r => nomatch r⟩
    · exact ⟨_, q2, fun v r => nomatch r⟩
    · exact ⟨_, q3, fun v r => nomatch r⟩
    · exact ⟨o1, e1, fun v r => by rw [d1] at r; cases r⟩
    · exact ⟨o2, e2, fun v r => by rw [d2] at r; cases r⟩
  · obtain ⟨q1, q2, ⟨x, y, q3⟩, q4, q5⟩ := st
    exact ⟨k z (by simp) _ q1, k TI (by simp) _ q2, ⟨x, y, k TO (by simp) _ q3⟩, q4.at fun o q => k i1 (by simp) o q, q5.at fun o q => k i2 (by simp) o q⟩
  · subst hP hw hK
    obtain ⟨q1, q2, ⟨x0, y0, q3⟩, q4, q5⟩ := st
    obtain ⟨xs, ys, x, y, sx, sy, hx, hy⟩ := hg
    obtain ⟨its, rv, p, _⟩ := I.tuple sx
    obtain ⟨its2, rv2, p2, _⟩ := I.list sy
    obtain ⟨u, hu, ru⟩ := rv.get hx
    obtain ⟨u2, hu2, ru2⟩ := rv2.get hy
    have zl : z < s.heap.objs.size := Heap.lt_size q1
    have tp : s.heap.IsTuple a its.toArray := p
    refine next_more D q1 q2 q3 q4 q5 tp p2.isList (x := u) (y := u2) (by simpa using hu) (by simpa using hu2) fun h' z' TO' n1 n2 pr kp => ?_
    refine ⟨_, rfl, wpAny_letOwnedTupleGo_zip (s := { s with heap := h' }) z' fun h'' z'' sb => ?_⟩
    have pr2 : h''.get? s.heap.objs.size = some { cls := .type "tuple", data := .seq #[u, u2] } := (sb.2 _ (Nat.ne_of_gt zl)).trans pr
    have new : ObjOk X.prog X.w (upd H s.heap.objs.size (.tup [x, y])) h'' s.heap.objs.size (.tup [x, y]) := ⟨by show 2 ≤ sizeLine; decide, [u, u2], .cons ru (.cons ru2 .nil), ⟨_, pr2, rfl, _, rfl⟩⟩
    have J := I.turnedNew (t' := s.toks) (ch := [z, TI, TO, i1, i2]) (h' := h'') (fun c o hb q => by
      have hb : ¬ (c = z ∨ c = TI ∨ c = TO ∨ c = i1 ∨ c = i2) := fun r => hb (by simpa using r)
      exact (sb.2 c fun r => hb (.inl r)).trans (kp c o (fun r => hb (.inl r)) (fun r => hb (.inr (.inr (.inl r)))) (fun r => hb (.inr (.inr (.inr (.inl r))))) (fun r => hb (.inr (.inr (.inr (.inr r))))) q)) hf (Nat.le_refl _) new
    refine ⟨.ref s.heap.objs.size, _, J, rfl, ⟨_, x, y, rfl, I.hok.fresh (Nat.le_refl _), rfl, fun l hl => by rw [I.tuple_inj hl sx]; exact hx, fun l hl => by rw [I.list_inj hl sy]; exact hy⟩, ⟨z'', (sb.2 _ D.TIz).trans (kp _ _ D.TIz D.TITO D.TIi1 D.TIi2 q2), ⟨u, u2, (sb.2 _ D.TOz).trans TO'⟩,
      n1.at fun o q => (sb.2 _ D.i1z).trans q, n2.at fun o q => (sb.2 _ D.i2z).trans q⟩, fun c hcm => ?_⟩
    have hlt : c < s.heap.objs.size := by
      obtain ⟨_, e1, _⟩ := q4
      obtain ⟨_, e2, _⟩ := q5
      rcases five hcm with q | q | q | q | q <;> subst q
      · exact zl
      · exact Heap.lt_size q2
      · exact Heap.lt_size q3
      · exact Heap.lt_size e1
      · exact Heap.lt_size e2
    rw [upd_ne (Nat.ne_of_lt hlt)]
    exact (hf c hcm).1
  · subst hP hw hK
    obtain ⟨q1, q2, ⟨x0, y0, q3⟩, q4, q5⟩ := st
    obtain ⟨xs, ys, sx, sy, he⟩ := hg
    obtain ⟨its, rv, p, _⟩ := I.tuple sx
    obtain ⟨its2, rv2, p2, _⟩ := I.list sy
    have m1 := rv.length
    have m2 := rv2.length
    have tp : s.heap.IsTuple a its.toArray := p
    have he' : its.toArray[i]? = none ∨ its2.toArray[i]? = none := he.imp (fun q => by simp; omega) fun q => by simp; omega
    refine next_ends (I.ok.hd hc) D q1 q2 q3 q4 q5 tp p2.isList he' fun h' kp => ⟨rfl, I.turnedL (t' := s.toks) (ch := [z, TI, TO, i1, i2]) (fun c o hb q => ?_) hf⟩
    have hb : ¬ (c = z ∨ c = TI ∨ c = TO ∨ c = i1 ∨ c = i2) := fun r => hb (by simpa using r)
    exact kp c o (fun r => hb (.inl r)) (fun r => hb (.inr (.inr (.inl r)))) (fun r => hb (.inr (.inr (.inr (.inl r))))) (fun r => hb (.inr (.inr (.inr (.inr r))))) q
/-- zip of a tuple and a tuple, or of a tuple and a list -/
def iZipM (K : PySem.W.Frag) (ta : TA) : TI := fun σ H R => ta σ H fun vs H1 => ∃ a b xs ys, vs = [.ref a, .ref b] ∧ SqT K H1 a xs ∧ ((SqT K H1 b ys ∧ R (ItzT K a b) H1) ∨ (SqL K H1 b ys ∧ R (ItzM K a b) H1))
theorem pi_zipM {X : Cx} {e e2 : Expr} {ta : TA} {p pos tpos : Pos} {elts : List Expr} {kk : Nat} (hg : Gl X "zip") (hm : X.mg "zip" = none) (ha : PA X [e, e2] ta)
    (hs : starEach [e, e2] X.env = (false, eval e X.env) :: starEach [e2] X.env := by rfl) (hpl : (backTo pos (starEach [e2] X.env)).any (·.1) = false := by rfl) : PI X (.Tuple elts kk tpos) (.Call (.Name "zip" p) [e, e2] [] pos) (iZipM X.K ta) := by
  refine ⟨fun pins s σ H R I h => PyProof.Rows.Call_ (ld_blt I hg hm PyProof.Rows.boot_zip (PyProof.Rows.callWith_type1 (thn (ha.run pos pins s σ H _ I h) fun us s1 ⟨vs, H1, I1, r1, a, b, xs, ys, ex, sx, q1⟩ => ?_) hs hpl))⟩
  subst ex
  obtain ⟨u1, u2, rfl, e1, e2⟩ := vals2 r1
  cases e1
  cases e2
  obtain ⟨its, rv, p1, _⟩ := I1.tuple sx
  have t1 : s1.heap.IsTuple a its.toArray := p1
  have la : a < s1.heap.objs.size := by obtain ⟨_, e, _⟩ := t1; exact Heap.lt_size e
  have fr : ∀ c, c ∈ [s1.heap.objs.size + 4, s1.heap.objs.size + 2, s1.heap.objs.size + 3, s1.heap.objs.size, s1.heap.objs.size + 1] → FpOk X pins H1 c := fun c hc => by
    have hle : s1.heap.objs.size ≤ c := by
      rcases five hc with q | q | q | q | q <;> rw [q]
      · exact Nat.le_add_right _ _
      · exact Nat.le_add_right _ _
      · exact Nat.le_add_right _ _
      · exact Nat.le_refl _
      · exact Nat.le_add_right _ _
    exact I1.fpOk hle (I1.hok.fresh hle)
  rcases q1 with ⟨sy, q⟩ | ⟨sy, q⟩
  · obtain ⟨its2, rv2, p2, _⟩ := I1.tuple sy
    have t2 : s1.heap.IsTuple b its2.toArray := p2
    have lb : b < s1.heap.objs.size := by obtain ⟨_, e, _⟩ := t2; exact Heap.lt_size e
    exact call_zipT t1 t2 fun h' hz hTI hTO h1 h2 hsz hk => wpAny_pyIter_zip hz ⟨_, _, _, _, H1, rfl, I1.kept (t' := s1.toks) hk, turn_zipT (PySem.W.ktu_apart s1.heap.objs.size a b la lb), ⟨hz, hTI, ⟨_, _, hTO⟩, h1, h2⟩, fr, q⟩
  · obtain ⟨its2, rv2, p2, _⟩ := I1.list sy
    have lb : b < s1.heap.objs.size := by obtain ⟨_, _, e, _⟩ := p2; exact Heap.lt_size e
    exact call_mixed t1 p2.isList fun h' hz hTI hTO h1 h2 hk => wpAny_pyIter_zip hz ⟨_, _, _, _, H1, rfl, I1.kept (t' := s1.toks) hk, turn_mixed (PySem.W.ktu_apart s1.heap.objs.size a b la lb), ⟨hz, hTI, ⟨_, _, hTO⟩, h1, h2⟩, fr, q⟩
/-- a loop over them -/
theorem for_zipM {K : PySem.W.Frag} {a b : Addr} {xs ys : List V} {g : TG} {tb : TS} {D : Ends} {σ : L2.St} {H : Hp} (hl : xs.length = ys.length) (Pv : Nat → L2.St → Hp → Prop) (h0 : Pv 0 σ H) (hq : ∀ i σ H, Pv i σ H → SqT K H a xs ∧ SqL K H b ys)
    (hs : ∀ (i : Nat) (x y : V) (T : Addr) (σ : L2.St) (H : Hp), xs[i]? = some x → ys[i]? = some y → Pv i σ H → H T = none → g (.ref T) σ (upd H T (.tup [x, y])) fun σ2 H2 => tb { D with nx := Pv (i + 1), ct := Pv (i + 1), bk := D.nx } σ2 H2) (hd : ∀ σ H, Pv xs.length σ H → D.nx σ H) :
    ∃ W : Nat → Nat → L2.St → Hp → Prop, (∃ m, W 0 m σ H) ∧ ∀ i m σ H, W i m σ H → ((ItzM K a b).stop i H ∧ D.nx σ H) ∨
      ((ItzM K a b).go i H ∧ ∃ N : L2.St → Hp → Prop, (∀ σ' H', N σ' H' → ∃ m', m' < m ∧ W (i + 1) m' σ' H') ∧ ∀ v H', (ItzM K a b).yld i H v H' → g v σ H' fun σ2 H2 => tb { D with nx := N, ct := N, bk := D.nx } σ2 H2) := by
  refine ⟨fun i m σ H => i + m = xs.length ∧ Pv i σ H, ⟨xs.length, Nat.zero_add _, h0⟩, fun i m σ H ⟨hm, p⟩ => ?_⟩
  obtain ⟨sx, sy⟩ := hq i σ H p
  cases m with
  | zero =>
    have e : i = xs.length := by omega
    subst e
    exact .inl ⟨⟨xs, ys, sx, sy, .inl (Nat.le_refl _)⟩, hd σ H p⟩
  | succ m =>
    have i1 : i < xs.length := by omega
    have i2 : i < ys.length := by omega
    refine .inr ⟨⟨xs, ys, xs[i], ys[i], sx, sy, List.getElem?_eq_getElem i1, List.getElem?_eq_getElem i2⟩, Pv (i + 1), fun σ' H' q => ⟨m, Nat.lt_succ_self _, by omega, q⟩, fun v H' ⟨T, x, y, ev, nT, eH, hx, hy⟩ => ?_⟩
    subst ev eH
    exact hs i x y T σ H (hx xs sx) (hy ys sy) p nT
end ZM
namespace SB
open PySem L2 GxR GA RZ
/-- numbers in a tuple or a list -/
def SpV (K : PySem.W.Frag) (H : Hp) (x : V) (us : List (Int × Int)) : Prop := ∃ a xs, x = .ref a ∧ (SqT K H a xs ∨ SqL K H a xs) ∧ Paired (NuV K H) xs us
theorem SpV.gr {K : PySem.W.Frag} {H H' : Hp} {x : V} {us : List (Int × Int)} (h : SpV K H x us) (g : Gr H H') : SpV K H' x us := let ⟨a, xs, e, s, p⟩ := h; ⟨a, xs, e, s.imp (fun q => g.seqT q) (fun q => g.seqL q), Paired.mapP p fun _ _ z => NuV.gr z g⟩
theorem PtV.sp {K : PySem.W.Frag} {H : Hp} {x : V} {us : List (Int × Int)} (h : PtV K H x us) : SpV K H x us := let ⟨a, xs, e, s, p⟩ := h; ⟨a, xs, e, .inl s, p⟩
/-- a drawn question: small -/
structure Q9 (q : List Int × Int) : Prop where
  nz : NonZ q.1
  ns : ∀ z, z ∈ q.1 → z.natAbs < 2 ^ 4
  wl : q.2.natAbs < 2 ^ 4
theorem Q9.g {q : List Int × Int} (h : Q9 q) : gcdL (q.1 ++ [q.2]) < 2 ^ 64 := by
  obtain ⟨z, h1, h2⟩ := h.nz.ex
  exact Nat.lt_of_le_of_lt (gcdL_le (List.mem_append_left _ h1) h2) (Nat.lt_of_lt_of_le (h.ns z h1) (by decide))
theorem two_le {a b : Nat} (h : a ≤ b) : 2 ^ a ≤ 2 ^ b := Nat.pow_le_pow_right (by decide) h
theorem Q9.ok {q : List Int × Int} (h : Q9 q) : QOk q := ⟨h.nz, fun z hz => Nat.lt_of_lt_of_le (h.ns z hz) (two_le (by decide)), Nat.lt_of_lt_of_le h.wl (two_le (by decide))⟩
section
variable {P : Program} {w : World} {K : PySem.W.Frag} {mg : Str → Option Value} {base : Heap}
def spWorth (K : PySem.W.Frag) : Sp := fun vs H Q _ => ∃ x y q us m, vs = [x, y] ∧ QuV K H x q ∧ SpV K H y us ∧ Q9 q ∧ q.1.length = us.length ∧ us.length ≤ 4 ∧ (∀ u, u ∈ us → Lo u) ∧ (∀ u, u ∈ us → Wd m u) ∧ m ≤ 20000 ∧
  ∀ v r H', Gr H H' → NuV K H' v r → 0 < r.2 → Eqr r (worthU q us).1 (worthU q us).2 → Wd (5 + us.length * (m + 6)) r → Q v H'
end
end SB
namespace SB
open PySem L2 GxR GA RZ
section
variable {P : Program} {w : World} {K : PySem.W.Frag} {mg : Str → Option Value} {base : Heap}
/-! ### the law's own row of a point -/
def spLRow (K : PySem.W.Frag) : Sp := fun vs H Q _ => ∃ x y d qs us m, vs = [x, y] ∧ BkV K H x d qs ∧ SpV K H y us ∧ qs.length ≤ 8 ∧ (∀ q, q ∈ qs → Q9 q ∧ q.1.length = us.length) ∧ us.length ≤ 4 ∧ (∀ u, u ∈ us → Lo u) ∧ (∀ u, u ∈ us → Wd m u) ∧ m ≤ 20000 ∧
  ∀ v H', Gr H H' → SiV K H' v (rowU qs us) → Q v H'
theorem sgn_two (i : Int) : (if decide (i > 0) = true then (1 : Int) else 0) - (if decide (i < 0) = true then (1 : Int) else 0) = sgn i := by
  unfold sgn
  by_cases h1 : 0 < i
  · rw [if_pos (decide_eq_true h1), if_neg (by simp; omega), if_pos h1]
    rfl
  · rw [if_neg (by simp; omega), if_neg h1]
    by_cases h2 : i < 0
    · rw [if_pos (decide_eq_true h2), if_pos h2]
      rfl
    · rw [if_neg (by simp; omega), if_neg h2]
      rfl
/-! ### whether a row fits -/
def spDoesFit (K : PySem.W.Frag) : Sp := fun vs H Q _ => ∃ a b zs hs, vs = [.ref a, .ref b] ∧ SqT K H a (zs.map V.int) ∧ SqT K H b (hs.map hopeV) ∧ hs.length = zs.length ∧ zs.length ≤ 8 ∧ ∀ H', Gr H H' → Q (.bl (fitU hs zs)) H'
end
end SB
namespace SB
open PySem L2 GxR GA RZ
section
variable {P : Program} {w : World} {K : PySem.W.Frag} {mg : Str → Option Value} {base : Heap}
theorem DeckAt.ne {d p : Addr} {H : Hp} (h : DeckAt d H) (n : H p = none) : p ≠ d := by
  obtain ⟨a, b, e, _⟩ := h
  exact Ne.symm (ne_of_none e n)
def spLNum (K : PySem.W.Frag) : Sp := fun vs H Q _ => ∃ d, vs = [.ref d] ∧ DeckAt d H ∧ ∀ v r H', GrD d H H' → DeckAt d H' → NuV K H' v r → Lo r → Wd 134 r → Q v H'
theorem lnum_wd {F L t u : Int} (hF : 0 ≤ F) (hF2 : F ≤ 10 ^ 40) (hL2 : L ≤ 10 ^ 40) (t0 : 0 ≤ t) (t1 : t < 2 * F + 1) (u0 : 0 ≤ u) (u1 : u < L) : (1 + u) ≠ 0 ∧ Wd 134 (t - F, 1 + u) := by
  have e : (10 : Int) ^ 40 < 2 ^ 133 := by decide
  have e2 : (2 : Nat) ^ 134 = 2 * 2 ^ 133 := by decide
  have e3 : ((2 ^ 133 : Nat) : Int) = (2 : Int) ^ 133 := by decide
  refine ⟨by omega, ?_, ?_⟩
  · show (t - F).natAbs < 2 ^ 134
    omega
  · show (1 + u).natAbs < 2 ^ 134
    omega
end
end SB
namespace SB
open PySem L2 GxR GA RZ
theorem dp_ints {K : PySem.W.Frag} {H : Hp} : ∀ js : List Int, DpAll K H (js.map V.int) (js.map PyData.int)
  | [] => .nil
  | j :: r => .cons (.int j) (dp_ints r)
theorem lay_ints : ∀ js : List Int, PyData.canLayAll0 (js.map PyData.int) = true
  | [] => rfl
  | j :: r => by
    show (PyData.canLay0 (.int j) && PyData.canLayAll0 (r.map PyData.int)) = true
    rw [lay_ints r]
    rfl
theorem dep_ints : ∀ js : List Int, PyData.depthAll (js.map PyData.int) = 0
  | [] => rfl
  | j :: r => by
    have h := dep_ints r
    rw [List.map_cons]
    simp [PyData.depthAll, PyData.depth, h]
theorem shp_ints (js : List Int) : SeqAt.shaped (.list (js.map PyData.int)) = true := by
  unfold SeqAt.shaped
  rw [Bool.and_eq_true]
  refine ⟨lay_ints js, decide_eq_true ?_⟩
  have h := dep_ints js
  simp [PyData.depth, h]
theorem eqv_nil (js : List Int) : PyData.eqv (.list (js.map PyData.int)) (.list []) = js.isEmpty := by
  cases js with
  | nil => decide
  | cons j r => rfl
section
variable {P : Program} {w : World} {K : PySem.W.Frag} {mg : Str → Option Value} {base : Heap}
theorem fit_all {hs : List (Option Int)} {zs : List Int} (hl : hs.length = zs.length) (h : ∀ (i : Nat) (h : Option Int) (z : Int), hs[i]? = some h → zs[i]? = some z → fit1 h z = true) : fitU hs zs = true := by
  refine List.all_eq_true.mpr fun p hp => ?_
  obtain ⟨i, hi⟩ := List.getElem?_of_mem hp
  have hz := List.getElem?_zip_eq_some.mp hi
  exact h i p.1 p.2 hz.1 hz.2
theorem fit_not {hs : List (Option Int)} {zs : List Int} {i : Nat} {h : Option Int} {z : Int} (e1 : hs[i]? = some h) (e2 : zs[i]? = some z) (n : fit1 h z = false) : fitU hs zs = false := by
  rw [Bool.eq_false_iff]
  intro q
  have := List.all_eq_true.mp q (h, z) (List.mem_of_getElem? (zip_at e1 e2))
  rw [n] at this
  cases this
end
end SB
namespace SB
open PySem L2 GxR GA RZ
section
variable {P : Program} {w : World} {K : PySem.W.Frag} {mg : Str → Option Value} {base : Heap}
def spGround (K : PySem.W.Frag) : Sp := fun vs H Q _ => ∃ x q, vs = [x] ∧ QuV K H x q ∧ Q9 q ∧ q.1.length ≤ 8 ∧ ∀ b H', Gr H H' → H' b = some (.tup ((grU q).map V.int)) → Q (.ref b) H'
end
end SB
namespace SB
open PySem L2 GxR GA RZ
theorem GrD.put {d D : Addr} {H1 H : Hp} (g : GrD d H1 H) (nD : H1 D = none) (o : HO) : GrD d H1 (upd H D o) := ⟨fun b u n z e => by
  rw [upd_ne (ne_of_none e nD)]
  exact g.keep b u n z e, fun P n t => by
  obtain ⟨ps, e, tr⟩ := id t
  obtain ⟨qs, e2, t2⟩ := g.tab P n t
  exact ⟨qs, by rw [upd_ne (ne_of_none e nD)]; exact e2, t2⟩⟩
theorem DeckAt.put {d D : Addr} {H : Hp} (h : DeckAt d H) (n : D ≠ d) (o : HO) : DeckAt d (upd H D o) := let ⟨a, b, e, r⟩ := h; ⟨a, b, by rw [upd_ne (Ne.symm n)]; exact e, r⟩
/-- one item more -/
theorem deck_more {K : PySem.W.Frag} {d D : Addr} {H1 H H4 : Hp} {ys : List V} {y : V} {i : Nat} (R : Nat → V → Hp → Prop) (hst : ∀ i y H H', R i y H → Tst K H H' → R i y H') (nD : H1 D = none) (nd : D ≠ d) (hD : H D = some (.lst ys)) (hy : ys.length = i) (hi : i < 1000)
    (gr : GrD d H1 H) (dk : DeckAt d H) (hR : ∀ j z, ys[j]? = some z → R j z H) (g4 : GrD d H H4) (dk4 : DeckAt d H4) (r4 : R i y H4) :
    ∃ acc, H4 D = some (.lst acc) ∧ acc.length < sizeLine ∧ ∃ zs, (upd H4 D (.lst (acc ++ [y]))) D = some (.lst zs) ∧ zs.length = i + 1 ∧ GrD d H1 (upd H4 D (.lst (acc ++ [y]))) ∧ DeckAt d (upd H4 D (.lst (acc ++ [y]))) ∧ ∀ j z, zs[j]? = some z → R j z (upd H4 D (.lst (acc ++ [y]))) := by
  have hD4 : H4 D = some (.lst ys) := g4.keep D _ nd (fun _ z => nomatch z) hD
  have tp : Tst K H4 (upd H4 D (.lst (ys ++ [y]))) := Tst.put hD4
  refine ⟨ys, hD4, small1000 (by omega), ys ++ [y], upd_same, by rw [List.length_append, hy]; rfl, (gr.trans g4).put nD _, dk4.put nd _, fun j z hz => ?_⟩
  by_cases hj : j < ys.length
  · rw [List.getElem?_append_left hj] at hz
    exact hst _ _ _ _ (hR j z hz) ((g4.st dk).trans tp)
  · have hl := (List.getElem?_eq_some_iff.mp hz).1
    rw [List.length_append] at hl
    have hl : j < ys.length + 1 := hl
    have ej : j = ys.length := by omega
    subst ej
    rw [List.getElem?_append_right (Nat.le_refl _), Nat.sub_self] at hz
    cases hz
    rw [hy]
    exact hst _ _ _ _ r4 tp
/-- a list of n things drawn -/
theorem lc_deckR {K : PySem.W.Frag} {d : Addr} {lo : Int} {n : Nat} {g : TG} {te : TE} {vs : List Nat} {σ : L2.St} {H1 : Hp} {D : Addr} {Qd : Hp → Prop} (R : Nat → V → Hp → Prop) (hst : ∀ i y H H', R i y H → Tst K H H' → R i y H') (nD : H1 D = none) (dk : DeckAt d H1) (hz : n ≤ 1000)
    (step : ∀ (i : Nat) H (Kc : VK), i < n → GrD d H1 H → DeckAt d H → (∀ y H4, GrD d H H4 → DeckAt d H4 → R i y H4 → Kc y H4) → g (.int (lo + i)) (wipe σ vs) H fun σ2 H2 => wipe σ2 vs = wipe σ vs ∧ te σ2 H2 Kc)
    (fin : ∀ ys H, H D = some (.lst ys) → ys.length = n → GrD d H1 H → DeckAt d H → (∀ i y, ys[i]? = some y → R i y H) → Qd H) :
    ∃ W : Nat → Nat → Hp → Prop, (∃ m, W 0 m (upd H1 D (.lst []))) ∧ ∀ i m H, W i m H → ((Itr lo n).stop i H ∧ Qd H) ∨
      ((Itr lo n).go i H ∧ ∃ Nx : Hp → Prop, (∀ H', Nx H' → ∃ m', m' < m ∧ W (i + 1) m' H') ∧ ∀ x H', (Itr lo n).yld i H x H' → g x (wipe σ vs) H' fun σ2 H2 => wipe σ2 vs = wipe σ vs ∧ tYes σ2 H2 fun b H3 =>
        if b = true then te σ2 H3 fun y H4 => ∃ acc, H4 D = some (.lst acc) ∧ acc.length < sizeLine ∧ Nx (upd H4 D (.lst (acc ++ [y]))) else Nx H3) := by
  have nd := dk.ne nD
  refine ⟨fun i m H => i + m = n ∧ ∃ ys, H D = some (.lst ys) ∧ ys.length = i ∧ GrD d H1 H ∧ DeckAt d H ∧ ∀ j y, ys[j]? = some y → R j y H, ⟨n, Nat.zero_add _, [], upd_same, rfl, (GrD.refl d H1).put nD _, dk.put nd _, fun j y h => by simp at h⟩, fun i m H ⟨hm, ys, hD, hy, gr, dk', hR⟩ => ?_⟩
  cases m with
  | zero => exact .inl ⟨(by show n ≤ i; omega), fin ys H hD (by omega) gr dk' hR⟩
  | succ m =>
    refine .inr ⟨(by show i < n; omega), fun H' => ∃ ys, H' D = some (.lst ys) ∧ ys.length = i + 1 ∧ GrD d H1 H' ∧ DeckAt d H' ∧ ∀ j y, ys[j]? = some y → R j y H', fun H' h => ⟨m, Nat.lt_succ_self _, by omega, h⟩, fun x H' hyl => ?_⟩
    obtain ⟨rfl, rfl⟩ := hyl
    exact step i H' _ (by omega) gr dk' fun y H4 g4 dk4 r4 => deck_more R hst nD nd hD hy (by omega) gr dk' hR g4 dk4 r4
/-- one for each of a tuple's items -/
theorem lc_deckT {K : PySem.W.Frag} {d a : Addr} {xs : List V} {g : TG} {te : TE} {vs : List Nat} {σ : L2.St} {H1 : Hp} {D : Addr} {Qd : Hp → Prop} (R : Nat → V → Hp → Prop) (hst : ∀ i y H H', R i y H → Tst K H H' → R i y H') (nD : H1 D = none) (dk : DeckAt d H1) (hs : SqT K H1 a xs) (hz : xs.length ≤ 1000)
    (step : ∀ (i : Nat) x H (Kc : VK), xs[i]? = some x → GrD d H1 H → DeckAt d H → (∀ y H4, GrD d H H4 → DeckAt d H4 → R i y H4 → Kc y H4) → g x (wipe σ vs) H fun σ2 H2 => wipe σ2 vs = wipe σ vs ∧ te σ2 H2 Kc)
    (fin : ∀ ys H, H D = some (.lst ys) → ys.length = xs.length → GrD d H1 H → DeckAt d H → (∀ i y, ys[i]? = some y → R i y H) → Qd H) :
    ∃ W : Nat → Nat → Hp → Prop, (∃ m, W 0 m (upd H1 D (.lst []))) ∧ ∀ i m H, W i m H → ((Itt K a).stop i H ∧ Qd H) ∨
      ((Itt K a).go i H ∧ ∃ Nx : Hp → Prop, (∀ H', Nx H' → ∃ m', m' < m ∧ W (i + 1) m' H') ∧ ∀ x H', (Itt K a).yld i H x H' → g x (wipe σ vs) H' fun σ2 H2 => wipe σ2 vs = wipe σ vs ∧ tYes σ2 H2 fun b H3 =>
        if b = true then te σ2 H3 fun y H4 => ∃ acc, H4 D = some (.lst acc) ∧ acc.length < sizeLine ∧ Nx (upd H4 D (.lst (acc ++ [y]))) else Nx H3) := by
  have nd := dk.ne nD
  refine ⟨fun i m H => i + m = xs.length ∧ ∃ ys, H D = some (.lst ys) ∧ ys.length = i ∧ GrD d H1 H ∧ DeckAt d H ∧ ∀ j y, ys[j]? = some y → R j y H, ⟨xs.length, Nat.zero_add _, [], upd_same, rfl, (GrD.refl d H1).put nD _, dk.put nd _, fun j y h => by simp at h⟩, fun i m H ⟨hm, ys, hD, hy, gr, dk', hR⟩ => ?_⟩
  have sx := gr.st dk a xs hs
  cases m with
  | zero => exact .inl ⟨⟨xs, sx, by omega⟩, fin ys H hD (by omega) gr dk' hR⟩
  | succ m =>
    have hi : i < xs.length := by omega
    refine .inr ⟨⟨xs, xs[i], sx, List.getElem?_eq_getElem hi⟩, fun H' => ∃ ys, H' D = some (.lst ys) ∧ ys.length = i + 1 ∧ GrD d H1 H' ∧ DeckAt d H' ∧ ∀ j y, ys[j]? = some y → R j y H', fun H' h => ⟨m, Nat.lt_succ_self _, by omega, h⟩, fun x H' hyl => ?_⟩
    obtain ⟨rfl, hx⟩ := hyl
    exact step i x H' _ (hx xs sx) gr dk' fun y H4 g4 dk4 r4 => deck_more R hst nD nd hD hy (by omega) gr dk' hR g4 dk4 r4
end SB
namespace SB
open PySem L2 GxR GA RZ
def hopeP : Option Int → PyData
  | none => .none
  | some i => .int i
theorem dp_hopes {K : PySem.W.Frag} {H : Hp} : ∀ hs : List (Option Int), DpAll K H (hs.map hopeV) (hs.map hopeP)
  | [] => .nil
  | none :: r => .cons .non (dp_hopes r)
  | some i :: r => .cons (.int i) (dp_hopes r)
theorem shp_hopes (hs : List (Option Int)) : SeqAt.shaped (.list (hs.map hopeP)) = true := by
  have l : ∀ hs : List (Option Int), PyData.canLayAll0 (hs.map hopeP) = true := fun hs => by
    induction hs with
    | nil => rfl
    | cons h r ih =>
      rw [List.map_cons]
      cases h <;> simp [PyData.canLayAll0, hopeP, PyData.canLay0, ih]
  have d : ∀ hs : List (Option Int), PyData.depthAll (hs.map hopeP) = 0 := fun hs => by
    induction hs with
    | nil => rfl
    | cons h r ih =>
      rw [List.map_cons]
      cases h <;> simp [PyData.depthAll, PyData.depth, hopeP, ih]
  unfold SeqAt.shaped
  rw [Bool.and_eq_true]
  refine ⟨l hs, decide_eq_true ?_⟩
  have h := d hs
  simp [PyData.depth, h]
theorem eqv_nilP (hs : List (Option Int)) : PyData.eqv (.list (hs.map hopeP)) (.list []) = hs.isEmpty := by
  cases hs with
  | nil => decide
  | cons j r => rfl
theorem hopes_of {Pr : Option Int → Prop} : ∀ {ys : List V}, (∀ (i : Nat) (y : V), ys[i]? = some y → ∃ h, y = hopeV h ∧ Pr h) → ∃ hs : List (Option Int), ys = hs.map hopeV ∧ ∀ h, h ∈ hs → Pr h
  | [], _ => ⟨[], rfl, fun h hm => by simp at hm⟩
  | y :: r, f => by
    obtain ⟨h, rfl, ph⟩ := f 0 y rfl
    obtain ⟨hs, rfl, pr⟩ := hopes_of (ys := r) fun i z e => f (i + 1) z (by simpa using e)
    refine ⟨h :: hs, rfl, fun k hk => ?_⟩
    rcases List.mem_cons.mp hk with rfl | hk
    · exact ph
    · exact pr k hk
theorem ixN_nat {n j : Nat} (h : j < n) : ixN n (j : Int) = some j := by
  unfold ixN
  rw [if_pos (by omega), if_pos (by omega)]
  rfl
theorem big_take {n : Nat} (h : n ≤ 64) : ((n : Nat) : Int).natAbs < 2 ^ 8000 := Nat.lt_of_le_of_lt (by omega) (show 64 < 2 ^ 8000 by decide +kernel)
theorem three_less {c : Int} (h0 : -1 ≤ c) (h1 : c ≤ 1) : (([-1, 0, 1] : List Int).filter fun z => decide (z ≠ c)).length = 2 := by
  have : c = -1 ∨ c = 0 ∨ c = 1 := by omega
  rcases this with rfl | rfl | rfl <;> decide
section
variable {P : Program} {w : World} {K : PySem.W.Frag} {mg : Str → Option Value} {base : Heap}
/-- a row's cells: each -1, 0 or 1 -/
def CeOk (zs : List Int) : Prop := ∀ z, z ∈ zs → -1 ≤ z ∧ z ≤ 1
def spLWish (K : PySem.W.Frag) : Sp := fun vs H Q _ => ∃ d a zs, vs = [.ref d, .ref a] ∧ DeckAt d H ∧ SqT K H a (zs.map V.int) ∧ CeOk zs ∧ zs.length ≤ 8 ∧ ∀ p hs H', GrD d H H' → DeckAt d H' → SqT K H' p (hs.map hopeV) → hs.length = zs.length → HpOk hs → Q (.ref p) H'
end
end SB
namespace SB
open PySem L2 GxR GA RZ
/-- a question as data -/
def quP (q : List Int × Int) : PyData := .tuple [.tuple (q.1.map PyData.int), .int q.2]
theorem dp_qus {K : PySem.W.Frag} {H : Hp} : ∀ {xs : List V} {qs : List (List Int × Int)}, Paired (QuV K H) xs qs → DpAll K H xs (qs.map quP)
  | _, _, .nil => .nil
  | _, _, .cons ⟨a, t, ea, hs, b, et, hb⟩ r => by
    subst ea et
    exact .cons (.tup hs (.cons (.tup hb (dp_ints _)) (.cons (.int _) .nil))) (dp_qus r)
theorem shp_qus (qs : List (List Int × Int)) : SeqAt.shaped (.tuple (qs.map quP)) = true := by
  have l : ∀ qs : List (List Int × Int), PyData.canLayAll0 (qs.map quP) = true := fun qs => by
    induction qs with
    | nil => rfl
    | cons q r ih =>
      rw [List.map_cons]
      have h := lay_ints q.1
      simp [PyData.canLayAll0, quP, PyData.canLay0, ih, h]
  have d : ∀ qs : List (List Int × Int), PyData.depthAll (qs.map quP) ≤ 2 := fun qs => by
    induction qs with
    | nil => decide
    | cons q r ih =>
      rw [List.map_cons]
      have h := dep_ints q.1
      simp [PyData.depthAll, PyData.depth, quP, h]
      omega
  unfold SeqAt.shaped
  rw [Bool.and_eq_true]
  refine ⟨l qs, decide_eq_true ?_⟩
  have h := d qs
  simp [PyData.depth]
  omega
theorem eqv_nilT (ds : List PyData) : PyData.eqv (.tuple ds) (.tuple []) = ds.isEmpty := by
  cases ds with
  | nil => decide
  | cons j r => rfl
theorem nums_of {K : PySem.W.Frag} {H : Hp} {Pr : Int × Int → Prop} : ∀ {ys : List V}, (∀ (i : Nat) (y : V), ys[i]? = some y → ∃ u, NuV K H y u ∧ Pr u) → ∃ us : List (Int × Int), Paired (NuV K H) ys us ∧ ∀ u, u ∈ us → Pr u
  | [], _ => ⟨[], .nil, fun h hm => by simp at hm⟩
  | y :: r, f => by
    obtain ⟨u, nu, pu⟩ := f 0 y rfl
    obtain ⟨us, pa, pr⟩ := nums_of (ys := r) fun i z e => f (i + 1) z (by simpa using e)
    refine ⟨u :: us, .cons nu pa, fun k hk => ?_⟩
    rcases List.mem_cons.mp hk with rfl | hk
    · exact pu
    · exact pr k hk
theorem paired_set {α β : Type} {F : α → β → Prop} {x : α} {y : β} : ∀ {xs : List α} {ys : List β}, Paired F xs ys → F x y → ∀ i : Nat, Paired F (xs.set i x) (ys.set i y)
  | _, _, .nil, _, _ => .nil
  | _, _, .cons _ t, h, 0 => .cons h t
  | _, _, .cons r t, h, i + 1 => .cons r (paired_set t h i)
section
variable {P : Program} {w : World} {K : PySem.W.Frag} {mg : Str → Option Value} {base : Heap}
/-- a drawn page: its questions small, of one length -/
structure Pg9 (n : Nat) (qs : List (List Int × Int)) : Prop where
  n1 : 1 ≤ n
  n4 : n ≤ 4
  l8 : qs.length ≤ 8
  q9 : ∀ q, q ∈ qs → Q9 q ∧ q.1.length = n
def spSpot (K : PySem.W.Frag) : Sp := fun vs H Q _ => ∃ d x n qs, vs = [.ref d, x] ∧ DeckAt d H ∧ BkV K H x n qs ∧ Pg9 n qs ∧
  ∀ v us H', GrD d H H' → DeckAt d H' → PtV K H' v us → us.length = n → (∀ u, u ∈ us → Lo u) → (∀ u, u ∈ us → Wd 1000 u) → Q v H'
end
end SB
namespace SB
open PySem L2
theorem eqv_intsA : ∀ a b : List Int, PyData.eqvAll (a.map PyData.int) (b.map PyData.int) = decide (a = b)
  | [], [] => by decide
  | [], _ :: _ => by simp [PyData.eqvAll]
  | _ :: _, [] => by simp [PyData.eqvAll]
  | x :: r, y :: t => by
    have h := eqv_intsA r t
    simp only [List.map_cons, PyData.eqvAll, h, PyData.eqv]
    by_cases e : x = y <;> by_cases e2 : r = t <;> simp [e, e2]
theorem eqv_ints (a b : List Int) : PyData.eqv (.list (a.map PyData.int)) (.list (b.map PyData.int)) = decide (a = b) := by
  have h := eqv_intsA a b
  simp only [PyData.eqv, h]
theorem nonZ_or (zs : List Int) : NonZ zs ∨ zs = List.replicate zs.length 0 := by
  by_cases h : ∃ z, z ∈ zs ∧ z ≠ 0
  · obtain ⟨z, h1, h2⟩ := h
    exact .inl (nonZ_of h1 h2)
  · refine .inr (List.eq_replicate_iff.mpr ⟨rfl, fun z hz => ?_⟩)
    by_cases e : z = 0
    · exact e
    · exact absurd ⟨z, hz, e⟩ h
end SB
namespace SB
open PySem L2 GxR GA RZ
theorem shp_qusL (qs : List (List Int × Int)) : SeqAt.shaped (.list (qs.map quP)) = true := by
  have h := shp_qus qs
  unfold SeqAt.shaped at h ⊢
  rw [Bool.and_eq_true] at h ⊢
  refine ⟨h.1, decide_eq_true ?_⟩
  have h2 := of_decide_eq_true h.2
  simp [PyData.depth] at h2 ⊢
  omega
theorem eqv_nilL (ds : List PyData) : PyData.eqv (.list ds) (.list []) = ds.isEmpty := by
  cases ds with
  | nil => decide
  | cons j r => rfl
theorem ints_of {b : Nat} : ∀ {l : List V}, (∀ (i : Nat) (y : V), l[i]? = some y → ∃ z : Int, y = .int z ∧ z.natAbs ≤ b) → ∃ zs : List Int, l = zs.map V.int ∧ ∀ z, z ∈ zs → z.natAbs ≤ b
  | [], _ => ⟨[], rfl, fun z h => by simp at h⟩
  | y :: r, f => by
    obtain ⟨z, rfl, hz⟩ := f 0 y rfl
    obtain ⟨zs, rfl, hr⟩ := ints_of (l := r) fun i y e => f (i + 1) y (by simpa using e)
    refine ⟨z :: zs, rfl, fun k hk => ?_⟩
    rcases List.mem_cons.mp hk with rfl | hk
    · exact hz
    · exact hr k hk
/-- a list of what comes of two tuples side by side -/
theorem lc_mapZ {K : PySem.W.Frag} {a b : Addr} {xs zs : List V} {g : TG} {te : TE} {vs : List Nat} {σ : L2.St} {H1 : Hp} {D : Addr} {Qd : Hp → Prop} (R : Nat → V → Prop) (nD : H1 D = none) (hl : xs.length = zs.length) (hs : SqT K H1 a xs) (hs2 : SqT K H1 b zs) (hz : xs.length ≤ 1000)
    (step : ∀ (i : Nat) x y (T : Addr) H (Kc : VK), xs[i]? = some x → zs[i]? = some y → Gr H1 H → H T = none → (∀ v H4, Gr (upd H T (.tup [x, y])) H4 → R i v → Kc v H4) → g (.ref T) (wipe σ vs) (upd H T (.tup [x, y])) fun σ2 H2 => wipe σ2 vs = wipe σ vs ∧ te σ2 H2 Kc)
    (fin : ∀ ys H, H D = some (.lst ys) → ys.length = xs.length → Gr H1 H → (∀ i y, ys[i]? = some y → R i y) → Qd H) :
    ∃ W : Nat → Nat → Hp → Prop, (∃ m, W 0 m (upd H1 D (.lst []))) ∧ ∀ i m H, W i m H → ((ItzT K a b).stop i H ∧ Qd H) ∨
      ((ItzT K a b).go i H ∧ ∃ Nx : Hp → Prop, (∀ H', Nx H' → ∃ m', m' < m ∧ W (i + 1) m' H') ∧ ∀ x H', (ItzT K a b).yld i H x H' → g x (wipe σ vs) H' fun σ2 H2 => wipe σ2 vs = wipe σ vs ∧ tYes σ2 H2 fun b H3 =>
        if b = true then te σ2 H3 fun y H4 => ∃ acc, H4 D = some (.lst acc) ∧ acc.length < sizeLine ∧ Nx (upd H4 D (.lst (acc ++ [y]))) else Nx H3) := by
  refine ⟨fun i m H => i + m = xs.length ∧ ∃ ys, H D = some (.lst ys) ∧ ys.length = i ∧ GrD D H1 H ∧ ∀ j y, ys[j]? = some y → R j y, ⟨xs.length, Nat.zero_add _, [], upd_same, rfl, (GrD.refl D H1).set _, fun j y h => by simp at h⟩, fun i m H ⟨hm, ys, hD, hy, gr, hR⟩ => ?_⟩
  have g1 := gr.to nD
  have q1 := g1.seqT hs
  have q2 := g1.seqT hs2
  cases m with
  | zero => exact .inl ⟨⟨xs, zs, q1, q2, .inl (by omega)⟩, fin ys H hD (by omega) g1 hR⟩
  | succ m =>
    have i1 : i < xs.length := by omega
    have i2 : i < zs.length := by omega
    refine .inr ⟨⟨xs, zs, xs[i], zs[i], q1, q2, List.getElem?_eq_getElem i1, List.getElem?_eq_getElem i2⟩, fun H' => ∃ ys, H' D = some (.lst ys) ∧ ys.length = i + 1 ∧ GrD D H1 H' ∧ ∀ j y, ys[j]? = some y → R j y, fun H' h => ⟨m, Nat.lt_succ_self _, by omega, h⟩, fun v H' hyl => ?_⟩
    obtain ⟨T, x, y, rfl, nT, rfl, hx, hy2⟩ := hyl
    refine step i x y T H _ (hx xs q1) (hy2 zs q2) g1 nT fun v H4 g4 rv => ?_
    have gT : Gr H (upd H T (.tup [x, y])) := (Gr.refl H).new nT _
    have hD4 : H4 D = some (.lst ys) := (gT.trans g4).keep D _ (fun _ z => nomatch z) hD
    refine ⟨ys, hD4, small1000 (by omega), ys ++ [v], upd_same, by rw [List.length_append, hy]; rfl, (gr.trans ((gT.trans g4).d D)).set _, fun j z hz2 => ?_⟩
    by_cases hj : j < ys.length
    · rw [List.getElem?_append_left hj] at hz2
      exact hR j z hz2
    · have hl2 := (List.getElem?_eq_some_iff.mp hz2).1
      rw [List.length_append] at hl2
      have hl2 : j < ys.length + 1 := hl2
      have ej : j = ys.length := by omega
      subst ej
      rw [List.getElem?_append_right (Nat.le_refl _), Nat.sub_self] at hz2
      cases hz2
      rw [hy]
      exact rv
theorem flat_zero : ∀ n : Nat, (List.replicate n [V.int 0]).flatten = (List.replicate n (0 : Int)).map V.int
  | 0 => rfl
  | n + 1 => by
    rw [List.replicate_succ, List.flatten_cons, flat_zero n, List.replicate_succ, List.map_cons]
    rfl
/-- ways that come together again: Pst, what holds where they meet -/
theorem seq_join {t u : TS} {D : Ends} {σ : L2.St} {H : Hp} (Pst : L2.St → Hp → Prop) (h2 : ∀ σ' H', Pst σ' H' → u D σ' H') (h1 : ∀ Kn : L2.St → Hp → Prop, (∀ σ' H', Pst σ' H' → Kn σ' H') → t { D with nx := Kn } σ H) : tSeq t u D σ H := h1 (fun σ' H' => u D σ' H') h2
section
variable {P : Program} {w : World} {K : PySem.W.Frag} {mg : Str → Option Value} {base : Heap}
/-- questions in a list -/
def QlV (K : PySem.W.Frag) (H : Hp) (a : Addr) (n : Nat) (qs : List (List Int × Int)) : Prop := ∃ xs, H a = some (.lst xs) ∧ Paired (QuV K H) xs qs ∧ qs.length ≤ 8 ∧ ∀ q, q ∈ qs → Q9 q ∧ q.1.length = n
def spLine (K : PySem.W.Frag) : Sp := fun vs H Q _ => ∃ d a n qs, vs = [.ref d, .int ((n : Nat) : Int), .ref a] ∧ DeckAt d H ∧ a ≠ d ∧ 1 ≤ n ∧ n ≤ 4 ∧ QlV K H a n qs ∧ ∀ v q H', GrD d H H' → DeckAt d H' → QuV K H' v q → Q9 q → q.1.length = n → Q v H'
end
end SB
namespace SB
open PySem L2 GxR GA RZ
/-- a ground as a dict's key -/
def grK (q : List Int × Int) : List Key := (grU q).map Sum.inl
theorem grK_kV (q : List Int × Int) : (grK q).map kV = (grU q).map V.int := by
  unfold grK
  rw [List.map_map]
  rfl
theorem nfU_gr {p q : List Int × Int} (h : nfU p = nfU q) : grK p = grK q := by
  unfold grK grU
  rw [h]
theorem new_none {H : Hp} {a b : Addr} {o : HO} (h : (upd H a o) b = none) : b ≠ a ∧ H b = none := by
  have n : b ≠ a := fun e => by
    rw [e, upd_same] at h
    cases h
  rw [upd_ne n] at h
  exact ⟨n, h⟩
section
variable {P : Program} {w : World} {K : PySem.W.Frag} {mg : Str → Option Value} {base : Heap}
def spPage (K : PySem.W.Frag) : Sp := fun vs H Q _ => ∃ (d : Addr) (m : Nat), vs = [.ref d, .int ((m : Nat) : Int)] ∧ DeckAt d H ∧ m ≤ 7 ∧ ∀ v n qs H', GrD d H H' → DeckAt d H' → BkV K H' v n qs → BOk n qs → Pg9 n qs → Q v H'
end
end SB
namespace SB
open PySem L2 GxR GA RZ
/-- a list of what comes of two tuples side by side, with what stands in the heap -/
theorem lc_mapZH {K : PySem.W.Frag} {a b : Addr} {xs zs : List V} {g : TG} {te : TE} {vs : List Nat} {σ : L2.St} {H1 : Hp} {D : Addr} {Qd : Hp → Prop} (R : Nat → V → Hp → Prop) (hst : ∀ i y H H', R i y H → Tst K H H' → R i y H') (nD : H1 D = none) (hl : xs.length = zs.length) (hs : SqT K H1 a xs) (hs2 : SqT K H1 b zs) (hz : xs.length ≤ 1000)
    (step : ∀ (i : Nat) x y (T : Addr) H (Kc : VK), xs[i]? = some x → zs[i]? = some y → Gr H1 H → H T = none → (∀ v H4, Gr (upd H T (.tup [x, y])) H4 → R i v H4 → Kc v H4) → g (.ref T) (wipe σ vs) (upd H T (.tup [x, y])) fun σ2 H2 => wipe σ2 vs = wipe σ vs ∧ te σ2 H2 Kc)
    (fin : ∀ ys H, H D = some (.lst ys) → ys.length = xs.length → Gr H1 H → (∀ i y, ys[i]? = some y → R i y H) → Qd H) :
    ∃ W : Nat → Nat → Hp → Prop, (∃ m, W 0 m (upd H1 D (.lst []))) ∧ ∀ i m H, W i m H → ((ItzT K a b).stop i H ∧ Qd H) ∨
      ((ItzT K a b).go i H ∧ ∃ Nx : Hp → Prop, (∀ H', Nx H' → ∃ m', m' < m ∧ W (i + 1) m' H') ∧ ∀ x H', (ItzT K a b).yld i H x H' → g x (wipe σ vs) H' fun σ2 H2 => wipe σ2 vs = wipe σ vs ∧ tYes σ2 H2 fun b H3 =>
        if b = true then te σ2 H3 fun y H4 => ∃ acc, H4 D = some (.lst acc) ∧ acc.length < sizeLine ∧ Nx (upd H4 D (.lst (acc ++ [y]))) else Nx H3) := by
  refine ⟨fun i m H => i + m = xs.length ∧ ∃ ys, H D = some (.lst ys) ∧ ys.length = i ∧ GrD D H1 H ∧ ∀ j y, ys[j]? = some y → R j y H, ⟨xs.length, Nat.zero_add _, [], upd_same, rfl, (GrD.refl D H1).set _, fun j y h => by simp at h⟩, fun i m H ⟨hm, ys, hD, hy, gr, hR⟩ => ?_⟩
  have g1 := gr.to nD
  have q1 := g1.seqT hs
  have q2 := g1.seqT hs2
  cases m with
  | zero => exact .inl ⟨⟨xs, zs, q1, q2, .inl (by omega)⟩, fin ys H hD (by omega) g1 hR⟩
  | succ m =>
    have i1 : i < xs.length := by omega
    have i2 : i < zs.length := by omega
    refine .inr ⟨⟨xs, zs, xs[i], zs[i], q1, q2, List.getElem?_eq_getElem i1, List.getElem?_eq_getElem i2⟩, fun H' => ∃ ys, H' D = some (.lst ys) ∧ ys.length = i + 1 ∧ GrD D H1 H' ∧ ∀ j y, ys[j]? = some y → R j y H', fun H' h => ⟨m, Nat.lt_succ_self _, by omega, h⟩, fun v H' hyl => ?_⟩
    obtain ⟨T, x, y, rfl, nT, rfl, hx, hy2⟩ := hyl
    refine step i x y T H _ (hx xs q1) (hy2 zs q2) g1 nT fun v H4 g4 rv => ?_
    have gT : Gr H (upd H T (.tup [x, y])) := (Gr.refl H).new nT _
    have hD4 : H4 D = some (.lst ys) := (gT.trans g4).keep D _ (fun _ z => nomatch z) hD
    have t4 : Tst K H4 (upd H4 D (.lst (ys ++ [v]))) := Tst.put hD4
    refine ⟨ys, hD4, small1000 (by omega), ys ++ [v], upd_same, by rw [List.length_append, hy]; rfl, (gr.trans ((gT.trans g4).d D)).set _, fun j z hz2 => ?_⟩
    by_cases hj : j < ys.length
    · rw [List.getElem?_append_left hj] at hz2
      exact hst _ _ _ _ (hR j z hz2) ((gT.trans g4).st.trans t4)
    · have hl2 := (List.getElem?_eq_some_iff.mp hz2).1
      rw [List.length_append] at hl2
      have hl2 : j < ys.length + 1 := hl2
      have ej : j = ys.length := by omega
      subst ej
      rw [List.getElem?_append_right (Nat.le_refl _), Nat.sub_self] at hz2
      cases hz2
      rw [hy]
      exact hst _ _ _ _ rv t4
/-- numbers in a row, told place by place -/
theorem nums_at {K : PySem.W.Frag} {H : Hp} : ∀ {ys : List V} {Pr : Nat → Int × Int → Prop}, (∀ (i : Nat) (y : V), ys[i]? = some y → ∃ u, NuV K H y u ∧ Pr i u) → ∃ us : List (Int × Int), Paired (NuV K H) ys us ∧ ∀ i u, us[i]? = some u → Pr i u
  | [], _, _ => ⟨[], .nil, fun i u h => by simp at h⟩
  | y :: r, Pr, f => by
    obtain ⟨u, nu, pu⟩ := f 0 y rfl
    obtain ⟨us, pa, pr⟩ := nums_at (ys := r) (Pr := fun i => Pr (i + 1)) fun i z e => f (i + 1) z (by simpa using e)
    refine ⟨u :: us, .cons nu pa, fun i k hk => ?_⟩
    cases i with
    | zero =>
      have : u = k := by simpa using hk
      rw [← this]
      exact pu
    | succ i => exact pr i k (by simpa using hk)
/-- a number on the way from u to w -/
def OnWay (s u w : Int × Int) (m : Nat) (r : Int × Int) : Prop := Lo r ∧ Wd m r ∧ qv r = qv u + qv s * (qv w - qv u)
theorem mix_of {s : Int × Int} {us ws rs : List (Int × Int)} {m : Nat} (hl : us.length = ws.length) (lr : rs.length = us.length) (h : ∀ (i : Nat) (r : Int × Int), rs[i]? = some r → ∃ u w, us[i]? = some u ∧ ws[i]? = some w ∧ OnWay s u w m r) :
    (∀ r, r ∈ rs → Lo r) ∧ (∀ r, r ∈ rs → Wd m r) ∧ rs.map qv = mixQ (qv s) (us.map qv) (ws.map qv) := by
  refine ⟨fun r hr => ?_, fun r hr => ?_, List.ext_getElem? fun i => ?_⟩
  · obtain ⟨i, e⟩ := List.getElem?_of_mem hr
    obtain ⟨u, w, _, _, o⟩ := h i r e
    exact o.1
  · obtain ⟨i, e⟩ := List.getElem?_of_mem hr
    obtain ⟨u, w, _, _, o⟩ := h i r e
    exact o.2.1
  · rw [List.getElem?_map]
    cases e : rs[i]? with
    | none =>
      have : rs.length ≤ i := List.getElem?_eq_none_iff.mp e
      rw [Option.map_none]
      refine (List.getElem?_eq_none ?_).symm
      unfold mixQ
      rw [List.length_zipWith, List.length_map, List.length_map]
      omega
    | some r =>
      obtain ⟨u, w, eu, ew, o⟩ := h i r e
      rw [Option.map_some, mix_at (by rw [List.getElem?_map, eu]; rfl) (by rw [List.getElem?_map, ew]; rfl), o.2.2]
section
variable {P : Program} {w : World} {K : PySem.W.Frag} {mg : Str → Option Value} {base : Heap}
def spPutA (K : PySem.W.Frag) : Sp := fun vs H Q _ => ∃ a b zs ws, vs = [.ref a, .ref b] ∧ SqT K H a (zs.map V.int) ∧ SqT K H b (ws.map V.int) ∧ zs.length = ws.length ∧ zs.length ≤ 8 ∧ ∀ v H', Gr H H' → SiV K H' v (aheadU zs ws) → Q v H'
def spRowB (K : PySem.W.Frag) (T : Nat → Addr) : Sp := fun vs H Q _ => ∃ x y z d qs us ws, vs = [x, y, z] ∧ Tb5 T H ∧ BkV K H x d qs ∧ PtV K H y us ∧ PtV K H z ws ∧ BOk d qs ∧ UsOk us ∧ UsOk ws ∧ us.length = d ∧ ws.length = d ∧ ∀ v H', Gr H H' → SiV K H' v (aheadU (rowU qs us) (rowU qs ws)) → Q v H'
def spBetween (K : PySem.W.Frag) : Sp := fun vs H Q _ => ∃ x y z us ws s m n k, vs = [x, y, z] ∧ PtV K H x us ∧ PtV K H y ws ∧ NuV K H z s ∧ us ≠ [] ∧ us.length = ws.length ∧ us.length ≤ 8 ∧ (∀ u, u ∈ us → Lo u) ∧ (∀ u, u ∈ ws → Lo u) ∧ Lo s ∧ (∀ u, u ∈ us → Wd m u) ∧ (∀ u, u ∈ ws → Wd n u) ∧ Wd k s ∧ 2 * m + n + k ≤ 200000 ∧
  ∀ v rs H', Gr H H' → PtV K H' v rs → rs.length = us.length → (∀ r, r ∈ rs → Lo r) → (∀ r, r ∈ rs → Wd (2 * m + n + k + 4) r) → rs.map qv = mixQ (qv s) (us.map qv) (ws.map qv) → Q v H'
end
end SB
namespace SB
open PySem L2 GxR GA RZ
theorem paired_of {α β : Type} {F : α → β → Prop} : ∀ {ys : List α} {zs : List β}, ys.length = zs.length → (∀ (i : Nat) (y : α) (z : β), ys[i]? = some y → zs[i]? = some z → F y z) → Paired F ys zs
  | [], [], _, _ => .nil
  | [], _ :: _, h, _ => by cases h
  | _ :: _, [], h, _ => by cases h
  | y :: r, z :: t, h, f => .cons (f 0 y z rfl rfl) (paired_of (by simpa using h) fun i a b e1 e2 => f (i + 1) a b (by simpa using e1) (by simpa using e2))
/-- sides and wall of width k -/
def QW (k : Nat) (q : List Int × Int) : Prop := (∀ z, z ∈ q.1 → z.natAbs < 2 ^ k) ∧ q.2.natAbs < 2 ^ k
section
variable {P : Program} {w : World} {K : PySem.W.Frag} {mg : Str → Option Value} {base : Heap}
def spWithout (K : PySem.W.Frag) (T : Nat → Addr) : Sp := fun vs H Q _ => ∃ x d qs i, vs = [x, .int ((i : Nat) : Int)] ∧ Tb5 T H ∧ BkV K H x d qs ∧ BOk d qs ∧ i < qs.length ∧ ∀ v H', Gr H H' → BkV K H' v d (qs.take i ++ qs.drop (i + 1)) → Q v H'
/-! ### moved -/
def spMovQ (K : PySem.W.Frag) : Sp := fun vs H Q _ => ∃ x y q us k m, vs = [x, y] ∧ QuV K H x q ∧ PtV K H y us ∧ NonZ q.1 ∧ q.1.length = us.length ∧ us.length ≤ 4 ∧ (∀ u, u ∈ us → Lo u) ∧ (∀ u, u ∈ us → Wd m u) ∧ QW k q ∧ 4 * (m + k + 3) + 2 * k ≤ 200000 ∧
  ∀ v H', Gr H H' → QuV K H' v (movU q us) → Wd (3 + us.length * (m + k + 3) + k) (shiftU q us) → Q v H'
def spMoved (K : PySem.W.Frag) (T : Nat → Addr) : Sp := fun vs H Q _ => ∃ x y d qs us k m, vs = [x, y] ∧ Tb5 T H ∧ BkV K H x d qs ∧ PtV K H y us ∧ BOk d qs ∧ us.length = d ∧ us ≠ [] ∧ us.length ≤ 4 ∧ (∀ u, u ∈ us → Lo u) ∧ (∀ u, u ∈ us → Wd m u) ∧ (∀ q, q ∈ qs → QW k q) ∧ 4 * (m + k + 3) + 2 * k ≤ 200000 ∧
  ∀ v H', Gr H H' → BkV K H' v d (qs.map fun q => movU q us) → (∀ q, q ∈ qs → Wd (3 + us.length * (m + k + 3) + k) (shiftU q us)) → Q v H'
end
end SB
namespace SB
open PySem L2 GxR GA RZ
/-- a list of what comes of a tuple and a list side by side -/
theorem lc_mapM {K : PySem.W.Frag} {a b : Addr} {xs zs : List V} {g : TG} {te : TE} {vs : List Nat} {σ : L2.St} {H1 : Hp} {D : Addr} {Qd : Hp → Prop} (R : Nat → V → Prop) (nD : H1 D = none) (hl : xs.length = zs.length) (hs : SqT K H1 a xs) (hs2 : SqL K H1 b zs) (hz : xs.length ≤ 1000)
    (step : ∀ (i : Nat) x y (T : Addr) H (Kc : VK), xs[i]? = some x → zs[i]? = some y → Gr H1 H → H T = none → (∀ v H4, Gr (upd H T (.tup [x, y])) H4 → R i v → Kc v H4) → g (.ref T) (wipe σ vs) (upd H T (.tup [x, y])) fun σ2 H2 => wipe σ2 vs = wipe σ vs ∧ te σ2 H2 Kc)
    (fin : ∀ ys H, H D = some (.lst ys) → ys.length = xs.length → Gr H1 H → (∀ i y, ys[i]? = some y → R i y) → Qd H) :
    ∃ W : Nat → Nat → Hp → Prop, (∃ m, W 0 m (upd H1 D (.lst []))) ∧ ∀ i m H, W i m H → ((ZM.ItzM K a b).stop i H ∧ Qd H) ∨
      ((ZM.ItzM K a b).go i H ∧ ∃ Nx : Hp → Prop, (∀ H', Nx H' → ∃ m', m' < m ∧ W (i + 1) m' H') ∧ ∀ x H', (ZM.ItzM K a b).yld i H x H' → g x (wipe σ vs) H' fun σ2 H2 => wipe σ2 vs = wipe σ vs ∧ tYes σ2 H2 fun b H3 =>
        if b = true then te σ2 H3 fun y H4 => ∃ acc, H4 D = some (.lst acc) ∧ acc.length < sizeLine ∧ Nx (upd H4 D (.lst (acc ++ [y]))) else Nx H3) := by
  refine ⟨fun i m H => i + m = xs.length ∧ ∃ ys, H D = some (.lst ys) ∧ ys.length = i ∧ GrD D H1 H ∧ ∀ j y, ys[j]? = some y → R j y, ⟨xs.length, Nat.zero_add _, [], upd_same, rfl, (GrD.refl D H1).set _, fun j y h => by simp at h⟩, fun i m H ⟨hm, ys, hD, hy, gr, hR⟩ => ?_⟩
  have g1 := gr.to nD
  have q1 := g1.seqT hs
  have q2 := g1.seqL hs2
  cases m with
  | zero => exact .inl ⟨⟨xs, zs, q1, q2, .inl (by omega)⟩, fin ys H hD (by omega) g1 hR⟩
  | succ m =>
    have i1 : i < xs.length := by omega
    have i2 : i < zs.length := by omega
    refine .inr ⟨⟨xs, zs, xs[i], zs[i], q1, q2, List.getElem?_eq_getElem i1, List.getElem?_eq_getElem i2⟩, fun H' => ∃ ys, H' D = some (.lst ys) ∧ ys.length = i + 1 ∧ GrD D H1 H' ∧ ∀ j y, ys[j]? = some y → R j y, fun H' h => ⟨m, Nat.lt_succ_self _, by omega, h⟩, fun v H' hyl => ?_⟩
    obtain ⟨T, x, y, rfl, nT, rfl, hx, hy2⟩ := hyl
    refine step i x y T H _ (hx xs q1) (hy2 zs q2) g1 nT fun v H4 g4 rv => ?_
    have gT : Gr H (upd H T (.tup [x, y])) := (Gr.refl H).new nT _
    have hD4 : H4 D = some (.lst ys) := (gT.trans g4).keep D _ (fun _ z => nomatch z) hD
    refine ⟨ys, hD4, small1000 (by omega), ys ++ [v], upd_same, by rw [List.length_append, hy]; rfl, (gr.trans ((gT.trans g4).d D)).set _, fun j z hz2 => ?_⟩
    by_cases hj : j < ys.length
    · rw [List.getElem?_append_left hj] at hz2
      exact hR j z hz2
    · have hl2 := (List.getElem?_eq_some_iff.mp hz2).1
      rw [List.length_append] at hl2
      have hl2 : j < ys.length + 1 := hl2
      have ej : j = ys.length := by omega
      subst ej
      rw [List.getElem?_append_right (Nat.le_refl _), Nat.sub_self] at hz2
      cases hz2
      rw [hy]
      exact rv
/-- what the sides come to at a point, less the wall -/
def wq (q : List Int × Int) (us : List (Int × Int)) : Rat := qv (worthU q us)
/-- a share below the one at which the sign changes -/
def Near (s a b : Rat) : Prop := (0 < a → b < 0 → s * (a - b) < a) ∧ (a < 0 → 0 < b → s * (b - a) < -a)
def Upto (s a b : Rat) : Prop := (0 < a → b < 0 → s * (a - b) ≤ a) ∧ (a < 0 → 0 < b → s * (b - a) ≤ -a)
theorem Upto.less {s t a b : Rat} (h : Upto s a b) (hl : t ≤ s) : Upto t a b := by
  refine ⟨fun h1 h2 => ?_, fun h1 h2 => ?_⟩
  · have := h.1 h1 h2
    have : 0 ≤ (s - t) * (a - b) := Rat.mul_nonneg (by grind) (by grind)
    grind
  · have := h.2 h1 h2
    have : 0 ≤ (s - t) * (b - a) := Rat.mul_nonneg (by grind) (by grind)
    grind
theorem Upto.near {s t a b : Rat} (h : Upto s a b) (hl : t < s) : Near t a b := by
  refine ⟨fun h1 h2 => ?_, fun h1 h2 => ?_⟩
  · have := h.1 h1 h2
    have : 0 < (s - t) * (a - b) := Rat.mul_pos (by grind) (by grind)
    grind
  · have := h.2 h1 h2
    have : 0 < (s - t) * (b - a) := Rat.mul_pos (by grind) (by grind)
    grind
theorem qv_inv {r w : Int × Int} (e : Eqr r w.2 w.1) (h : 0 < r.2) (hw : 0 < w.2) (h0 : w.1 ≠ 0) : qv r * qv w = 1 := by
  have e : r.1 * w.1 = w.2 * r.2 := e
  have e2 : (r.1 : Rat) * (w.1 : Rat) = (w.2 : Rat) * (r.2 : Rat) := by rw [← Rat.intCast_mul, e, Rat.intCast_mul]
  have h1 := qv_mul h
  have h2 := qv_mul hw
  have n1 := rne h
  have n2 := rne hw
  have n3 := rne0 h0
  have key : (qv r * qv w - 1) * ((r.2 : Rat) * (w.2 : Rat)) = 0 := by grind
  rcases Rat.mul_eq_zero.mp key with z | z
  · grind
  · rcases Rat.mul_eq_zero.mp z with z | z
    · exact absurd z n1
    · exact absurd z n2
theorem less_qv {p q : Int × Int} (hp : 0 < p.2) (hq : 0 < q.2) : p.1 * q.2 - q.1 * p.2 < 0 ↔ qv p < qv q := by
  have h := qv_neg (p := fMinus p q) (Int.mul_pos hp hq)
  rw [qv_minus hp hq] at h
  have h : qv p - qv q < 0 ↔ p.1 * q.2 - q.1 * p.2 < 0 := h
  rw [← h]
  constructor <;> intro z <;> grind
section
variable {P : Program} {w : World} {K : PySem.W.Frag} {mg : Str → Option Value} {base : Heap}
def spLess (K : PySem.W.Frag) : Sp := fun vs H Q _ => ∃ x y p q m n, vs = [x, y] ∧ NuV K H x p ∧ NuV K H y q ∧ Wd m p ∧ Wd n q ∧ m + n ≤ 300000 ∧ Q (.bl (decide (p.1 * q.2 - q.1 * p.2 < 0))) H
def spLBet (K : PySem.W.Frag) : Sp := fun vs H Q _ => ∃ x y z us ws s m n k, vs = [x, y, z] ∧ PtV K H x us ∧ PtV K H y ws ∧ NuV K H z s ∧ us.length = ws.length ∧ us.length ≤ 8 ∧ (∀ u, u ∈ us → Lo u) ∧ (∀ u, u ∈ ws → Lo u) ∧ Lo s ∧ (∀ u, u ∈ us → Wd m u) ∧ (∀ u, u ∈ ws → Wd n u) ∧ Wd k s ∧ 2 * m + n + k ≤ 200000 ∧
  ∀ v rs H', Gr H H' → PtV K H' v rs → rs.length = us.length → (∀ r, r ∈ rs → Lo r) → (∀ r, r ∈ rs → Wd (2 * m + n + k + 4) r) → rs.map qv = mixQ (qv s) (us.map qv) (ws.map qv) → Q v H'
/-! ### a share -/
def spLPart (K : PySem.W.Frag) : Sp := fun vs H Q _ => ∃ d, vs = [.ref d] ∧ DeckAt d H ∧ ∀ v r H', GrD d H H' → DeckAt d H' → NuV K H' v r → Lo r → Wd 134 r → Q v H'
end
end SB
namespace SB
open PySem L2 GxR GA RZ
/-- the signs of two fractions are unlike -/
theorem two_sides {p q : Int × Int} (hp : 0 < p.2) (hq : 0 < q.2) : p.1 * q.1 < 0 ↔ (0 < qv p ∧ qv q < 0) ∨ (qv p < 0 ∧ 0 < qv q) := by
  rw [qv_pos hp, qv_pos hq, qv_neg hp, qv_neg hq]
  constructor
  · intro h
    rcases Int.lt_trichotomy p.1 0 with z | z | z
    · refine .inr ⟨z, ?_⟩
      rcases Int.lt_trichotomy q.1 0 with y | y | y
      · have := Int.mul_pos_of_neg_of_neg z y
        omega
      · rw [y, Int.mul_zero] at h
        omega
      · exact y
    · rw [z, Int.zero_mul] at h
      omega
    · refine .inl ⟨z, ?_⟩
      rcases Int.lt_trichotomy q.1 0 with y | y | y
      · exact y
      · rw [y, Int.mul_zero] at h
        omega
      · have := Int.mul_pos z y
        omega
  · rintro (⟨h1, h2⟩ | ⟨h1, h2⟩)
    · exact Int.mul_neg_of_pos_of_neg h1 h2
    · exact Int.mul_neg_of_neg_of_pos h1 h2
theorem not_near {s a b : Rat} (h : ¬ ((0 < a ∧ b < 0) ∨ (a < 0 ∧ 0 < b))) : Upto s a b := ⟨fun h1 h2 => absurd (.inl ⟨h1, h2⟩) h, fun h1 h2 => absurd (.inr ⟨h1, h2⟩) h⟩
section
variable {P : Program} {w : World} {K : PySem.W.Frag} {mg : Str → Option Value} {base : Heap}
def spLeast (K : PySem.W.Frag) : Sp := fun vs H Q _ => ∃ x y z d qs us ws, vs = [x, y, z] ∧ BkV K H x d qs ∧ PtV K H y us ∧ PtV K H z ws ∧ (∀ q, q ∈ qs → Q9 q ∧ q.1.length = us.length) ∧ us.length = ws.length ∧ us.length ≤ 4 ∧ (∀ u, u ∈ us → Lo u) ∧ (∀ u, u ∈ ws → Lo u) ∧ (∀ u, u ∈ us → Wd 1000 u) ∧ (∀ u, u ∈ ws → Wd 1000 u) ∧
  ∀ v r H', Gr H H' → NuV K H' v r → Lo r → Wd 12300 r → 0 < qv r → qv r < 1 → (∀ q, q ∈ qs → Near (qv r) (wq q us) (wq q ws)) → Q v H'
end
end SB
namespace SB
open PySem L2 GxR GA RZ
section
variable {P : Program} {w : World} {K : PySem.W.Frag} {mg : Str → Option Value} {base : Heap}
def spThr (K : PySem.W.Frag) : Sp := fun vs H Q _ => ∃ d x n qs, vs = [.ref d, x] ∧ DeckAt d H ∧ BkV K H x n qs ∧ Pg9 n qs ∧ ∀ v qs' H', GrD d H H' → DeckAt d H' → BkV K H' v n qs' → BOk n qs' → Pg9 n qs' → Q v H'
end
end SB
namespace RP
open PySem PySem.Spec PyProof.Rows L2
theorem mulOne (l : Addr) (items : Array Value) (n : Nat) (dd : Option Addr) (sl : Array (Option Value)) (u : Tok) :
    Meets (Builtin.«tuple.__mul__» ⟨[.ref l, .int 1 u], []⟩) (fun _ R s => s.heap.get? l = some { cls := .type "tuple", dict := dd, data := .seq items n, slots := sl } ∧ R (.ok (.ret (Value.ref l))) s) :=
  .of_wp fun prog w A R s h => by
    obtain ⟨hp, g, d, tk, os⟩ := s
    obtain ⟨hl, h⟩ := h
    have f1 := AutoSeq1.idx_int
    wp_walk using wpAny_loadPart' hl
    repeat (first
      | (refine wpAny_ite_false (decide_eq_false (by decide)) ?_; wp_walk using wpAny_loadPart' hl)
      | (refine wpAny_ite_true (decide_eq_true (by simp)) ?_; wp_walk using wpAny_loadPart' hl))
    exact ⟨_, rfl, h⟩
theorem mulNone (l : Addr) (items : Array Value) (n : Nat) (dd : Option Addr) (sl : Array (Option Value)) (u : Tok) (hi : items.isEmpty = false) :
    Meets (Builtin.«tuple.__mul__» ⟨[.ref l, .int 0 u], []⟩) (fun _ R s => s.heap.get? l = some { cls := .type "tuple", dict := dd, data := .seq items n, slots := sl } ∧
      R (.ok (.ret (Value.ref s.heap.objs.size))) { s with heap := s.heap.push { cls := Value.type "tuple", data := Data.seq #[] }, toks := s.toks }) :=
  .of_wp fun prog w A R s h => by
    obtain ⟨hp, g, d, tk, os⟩ := s
    obtain ⟨hl, h⟩ := h
    have f1 := AutoSeq1.idx_int
    wp_walk using wpAny_loadPart' hl
    repeat (first
      | (refine wpAny_ite_false (decide_eq_false (by decide)) ?_; wp_walk using wpAny_loadPart' hl)
      | (refine wpAny_ite_false (decide_eq_false (by rw [hi]; decide)) ?_; wp_walk using wpAny_loadPart' hl)
      | (refine wpAny_ite_true (decide_eq_true (by simp)) ?_; wp_walk using wpAny_loadPart' hl))
    exact ⟨_, rfl, h⟩
/-- tuple * k, k from 0 on -/
def rRepA (K : PySem.W.Frag) : R2 := fun x y H Q => ∃ l k xs, x = .ref l ∧ y = .int k ∧ SqT K H l xs ∧ xs ≠ [] ∧ 0 ≤ k ∧ k ≤ 1000 ∧ xs.length ≤ 1000 ∧ (k = 1 → Q (.ref l) H) ∧ (k ≠ 1 → ∀ p, H p = none → Q (.ref p) (upd H p (.tup (List.replicate k.toNat xs).flatten)))
theorem op_repA {X : Cx} : OpR X (binaryOp .Mult) (rRepA X.K) := by
  intro pins s σ H x y v u Q I rx ry h
  obtain ⟨l, k, xs, rfl, rfl, hT, hne, h1, h2, hz, qa, qb⟩ := h
  by_cases c : 2 ≤ k
  · exact op_repT pins s σ H _ _ v u Q I rx ry ⟨l, k, xs, rfl, rfl, hT, hne, c, h2, hz, qb (by omega)⟩
  cases rx
  obtain ⟨t, rfl⟩ := ry
  obtain ⟨its, r, ⟨⟨cls, dd, data, sl⟩, ho, hc, n, hd⟩, hs⟩ := I.tuple hT
  simp only at hc hd
  subst hc hd
  have hle : its.length = xs.length := r.length.symm
  have hn : its ≠ [] := fun e => hne (by
    rw [e] at hle
    exact List.eq_nil_of_length_eq_zero hle.symm)
  have hi : its.toArray.isEmpty = false := by
    cases its with
    | nil => exact absurd rfl hn
    | cons a b => rfl
  have c2 : k = 0 ∨ k = 1 := by omega
  rcases c2 with rfl | rfl
  · refine wpAny_binaryOp_repeat_ref (T := "tuple") (U := "int") (by decide) ⟨_, ho, rfl⟩ (fun s' => typeIs_int s' 0 t) noFill_tuple_mul F.fills_int_mul F.slot_int_rmul repeat_tuple F.slot_int_index.lookup
      (call_meets F.slot_int_rmul (typeIs_int s 0 t) F.entry_int_rmul (F.args_int_rmul_2 _ _) (int_rmul_tuple 0 t l its.toArray n dd sl)
        ⟨ho, rfl, ⟨_, ho, rfl⟩, call_meets F.slot_tuple_mul ⟨_, ho, rfl⟩ F.entry_tuple_mul (F.args_tuple_mul_2 _ _) (mulNone l its.toArray n dd sl t hi) ⟨ho, ?_⟩⟩)
    refine ⟨.ref s.heap.objs.size, _, I.laid (t' := s.toks) (o := .tup []) (fun b ob q => Heap.get?_push_of_some _ q) (Nat.le_refl _) ?_, rfl, qb (by decide) _ (I.hok.fresh (Nat.le_refl _))⟩
    exact ⟨by decide, _, .nil, IsTup.new _ _⟩
  · refine wpAny_binaryOp_repeat_ref (T := "tuple") (U := "int") (by decide) ⟨_, ho, rfl⟩ (fun s' => typeIs_int s' 1 t) noFill_tuple_mul F.fills_int_mul F.slot_int_rmul repeat_tuple F.slot_int_index.lookup
      (call_meets F.slot_int_rmul (typeIs_int s 1 t) F.entry_int_rmul (F.args_int_rmul_2 _ _) (int_rmul_tuple 1 t l its.toArray n dd sl)
        ⟨ho, rfl, ⟨_, ho, rfl⟩, call_meets F.slot_tuple_mul ⟨_, ho, rfl⟩ F.entry_tuple_mul (F.args_tuple_mul_2 _ _) (mulOne l its.toArray n dd sl t) ⟨ho, ?_⟩⟩)
    exact ⟨.ref l, H, I, rfl, qa rfl⟩
end RP
namespace SB
open PySem L2 GxR GA RZ
/-! ### a call by names alone -/
structure ClK (P : Program) (w : World) (K : PySem.W.Frag) (mg : Str → Option Value) (base : Heap) (k : Nat) (x : Str) (ps ks : List Str) (g : List Value → List Value → List Value) (gV : List V → List V → List V) (sp : Sp) : Prop where
  ex : ∃ (f : Addr) (fd : FuncData), FnOk P w K mg base CX0 k f fd ps sp ∧ mg x = some (.ref f) ∧ PySem.W.keepIn K (.ref f) = true ∧ KBinds K fd ps ks g gV
theorem ClK.mono {P : Program} {w : World} {K : PySem.W.Frag} {mg : Str → Option Value} {base : Heap} {j k : Nat} {x : Str} {ps ks : List Str} {g : List Value → List Value → List Value} {gV : List V → List V → List V} {sp : Sp} (c : ClK P w K mg base j x ps ks g gV sp) (h : j ≤ k) : ClK P w K mg base k x ps ks g gV sp := by
  obtain ⟨f, fd, F, r⟩ := c.ex
  exact ⟨f, fd, F.mono h, r⟩
def tCallK0 (sp : Sp) (gV : List V → List V → List V) (tk : TA) : TE := fun σ H Q => tk σ H fun zs H2 => sp (gV [] zs) H2 Q E0
theorem pe_clK {X : Cx} {k : Nat} {x : Str} {ps ks : List Str} {g : List Value → List Value → List Value} {gV : List V → List V → List V} {sp : Sp} {p pos : Pos} {kws : List Keyword} {tk : TA} (c : ClK X.prog X.w X.K X.mg X.base k x ps ks g gV sp) (hr : Room k X.A) (hkw : PK X kws tk) (hg : Gl X x := by rfl)
    (hall : (backToKw pos (keywordEach kws X.env)).all (·.1.isSome) = true := by rfl) (hks : (backToKw pos (keywordEach kws X.env)).filterMap (·.1) = ks := by rfl) (hdb : (x == ("__debug__" : Str)) = false := by decide)
    (hpl : ((backTo pos (starEach [] X.env)).any (·.1) || (backToKw pos (keywordEach kws X.env)).any (·.1.isNone)) = false := by rfl) : PE X (.Call (.Name x p) [] kws pos) (tCallK0 sp gV tk) := by
  obtain ⟨f, fd, F, hm, hk, hb⟩ := c.ex
  refine ⟨fun pins s σ H Q I h => ?_⟩
  refine wpAny_Call_Name_kw (ld_glob I hg hm ?_ hdb)
  refine PySem.W.callWith_KW0 (h₀ := X.base) I.ok.mod.kin hk hall (thn (hkw.run pos pins s σ H _ I h) fun ws s2 ⟨zs, H2, I2, rz, q2⟩ => ⟨I2.kIn, ?_⟩) hpl
  rw [hks]
  exact run_fnk (us := []) (vs := []) F hr hb pass0 I2 .nil rz q2
/-- two, three, four names the other way round -/
def gR2 {α : Type} : List α → List α → List α
  | [], [a, b] => [b, a]
  | _, _ => []
def gR3 {α : Type} : List α → List α → List α
  | [], [a, b, c] => [c, b, a]
  | _, _ => []
theorem gR2_rel {vs : List V} {us : List Value} {zs : List V} {ws : List Value} (r : Vals vs us) (q : Vals zs ws) : Vals (gR2 vs zs) (gR2 us ws) := by
  cases r with
  | cons _ _ => exact .nil
  | nil =>
    cases q with
    | nil => exact .nil
    | cons h1 q =>
      cases q with
      | nil => exact .nil
      | cons h2 q =>
        cases q with
        | nil => exact .cons h2 (.cons h1 .nil)
        | cons h3 q => exact .nil
theorem gR3_rel {vs : List V} {us : List Value} {zs : List V} {ws : List Value} (r : Vals vs us) (q : Vals zs ws) : Vals (gR3 vs zs) (gR3 us ws) := by
  cases r with
  | cons _ _ => exact .nil
  | nil =>
    cases q with
    | nil => exact .nil
    | cons h1 q =>
      cases q with
      | nil => exact .nil
      | cons h2 q =>
        cases q with
        | nil => exact .nil
        | cons h3 q =>
          cases q with
          | nil => exact .cons h3 (.cons h2 (.cons h1 .nil))
          | cons h4 q => exact .nil
theorem gR2_len {us ws : List Value} (h : (gR2 us ws).length = 2) : ∃ a b, us = [] ∧ ws = [a, b] := by
  match us, ws, h with
  | [], [a, b], _ => exact ⟨a, b, rfl, rfl⟩
theorem gR3_len {us ws : List Value} (h : (gR3 us ws).length = 3) : ∃ a b c, us = [] ∧ ws = [a, b, c] := by
  match us, ws, h with
  | [], [a, b, c], _ => exact ⟨a, b, c, rfl, rfl⟩
section
variable {P : Program} {w : World} {K : PySem.W.Frag} {mg : Str → Option Value} {base : Heap} {k : Nat} {x : Str} {st : Stmt} {sp : Sp} {c : Addr}
/-- from a call by places, where the def is known -/
theorem clK_of {ps ks : List Str} {g : List Value → List Value → List Value} {gV : List V → List V → List V} (C : Cl P w K mg base k x ps sp) (D : Df K mg x st)
    (hb : ∀ (kV doc pm : Value) (an : Option Addr) (cdv ct : Value), KBinds K (PySem.W.fnOf x x (defArgs st) (defBody st) (defScope st) .none kV doc pm an cdv ct) ps ks g gV) : ClK P w K mg base k x ps ks g gV sp := by
  obtain ⟨f, fd, F, m⟩ := D.ex
  obtain ⟨oc, od, kV, doc, pm, an, cdv, ct, osl, rfl, lk, hcd⟩ := F.ex
  obtain ⟨fd2, G, oc2, od2, osl2, lk2⟩ := C.lk f m
  rw [lk] at lk2
  cases lk2
  exact ⟨f, _, G, m, F.kp, hb kV doc pm an cdv ct⟩
theorem DfT.df (D : DfT K mg x st c) : Df K mg x st := by
  obtain ⟨f, fd, F, m⟩ := D.ex
  exact ⟨f, fd, F.fn, m⟩
theorem clK2 {a b : Str} (C : Cl P w K mg base k x [a, b] sp) (D : Df K mg x st)
    (hb : ∀ (kV doc pm : Value) (an : Option Addr) (cdv ct : Value) (u v : Value), bindArgs (PySem.W.fnOf x x (defArgs st) (defBody st) (defScope st) .none kV doc pm an cdv ct) ⟨[], [(b, v), (a, u)]⟩ = pure [(a, u), (b, v)]) : ClK P w K mg base k x [a, b] [b, a] gR2 gR2 sp :=
  clK_of C D fun kV doc pm an cdv ct => ⟨fun s us ws _ hl => by
    obtain ⟨u, v, rfl, rfl⟩ := gR2_len hl
    exact .of_eq (hb kV doc pm an cdv ct v u), fun r q => gR2_rel r q⟩
theorem clK3 {a b d : Str} (C : Cl P w K mg base k x [a, b, d] sp) (D : Df K mg x st)
    (hb : ∀ (kV doc pm : Value) (an : Option Addr) (cdv ct : Value) (u v z : Value), bindArgs (PySem.W.fnOf x x (defArgs st) (defBody st) (defScope st) .none kV doc pm an cdv ct) ⟨[], [(d, z), (b, v), (a, u)]⟩ = pure [(a, u), (b, v), (d, z)]) : ClK P w K mg base k x [a, b, d] [d, b, a] gR3 gR3 sp :=
  clK_of C D fun kV doc pm an cdv ct => ⟨fun s us ws _ hl => by
    obtain ⟨u, v, z, rfl, rfl⟩ := gR3_len hl
    exact .of_eq (hb kV doc pm an cdv ct z v u), fun r q => gR3_rel r q⟩
end
end SB
namespace SB
open PySem L2 GxR GA RZ
theorem sgn_neg (i : Int) : sgn (-i) = -sgn i := by
  unfold sgn
  by_cases h1 : 0 < i
  · rw [if_pos h1, if_neg (by omega), if_pos (by omega)]
  · rw [if_neg h1]
    by_cases h2 : i < 0
    · rw [if_pos h2, if_pos (by omega)]
      rfl
    · rw [if_neg h2, if_neg (by omega), if_neg (by omega)]
      rfl
theorem sgn_in (i : Int) : -1 ≤ sgn i ∧ sgn i ≤ 1 := by
  unfold sgn
  by_cases h1 : 0 < i
  · rw [if_pos h1]; decide
  · rw [if_neg h1]
    by_cases h2 : i < 0
    · rw [if_pos h2]; decide
    · rw [if_neg h2]; decide
theorem ans_neg (q : List Int × Int) (us : List (Int × Int)) : ansU (negU q) us = -ansU q us := by
  unfold ansU
  rw [worth_neg, sgn_neg]
theorem row_len (qs : List (List Int × Int)) (us : List (Int × Int)) : (rowU qs us).length = qs.length := List.length_map _
theorem row_at {qs : List (List Int × Int)} {us : List (Int × Int)} {i : Nat} {q : List Int × Int} (e : qs[i]? = some q) : (rowU qs us)[i]? = some (ansU q us) := by
  unfold rowU
  rw [List.getElem?_map, e]
  rfl
theorem row_ce (qs : List (List Int × Int)) (us : List (Int × Int)) : CeOk (rowU qs us) := fun z hz => by
  obtain ⟨q, _, rfl⟩ := List.mem_map.mp hz
  exact sgn_in _
theorem turn_set {qs : List (List Int × Int)} {i : Nat} {q : List Int × Int} (e : qs[i]? = some q) : turnU qs i = qs.set i (negU q) := by
  unfold turnU
  rw [e]
  exact set_take _ (List.getElem?_eq_some_iff.mp e).1
theorem row_turn {qs : List (List Int × Int)} {i : Nat} {q : List Int × Int} (us : List (Int × Int)) (e : qs[i]? = some q) : rowU (turnU qs i) us = (rowU qs us).set i (-ansU q us) := by
  rw [turn_set e]
  unfold rowU
  rw [List.map_set, ans_neg]
theorem BOk.turn {d : Nat} {qs : List (List Int × Int)} {i : Nat} (ok : BOk d qs) (hi : i < qs.length) : BOk d (turnU qs i) := by
  have e : qs[i]? = some qs[i] := List.getElem?_eq_getElem hi
  obtain ⟨qo, ql⟩ := ok.ok qs[i] (List.getElem_mem hi)
  rw [turn_set e]
  refine ⟨ok.d1, ok.d8, by rw [List.length_set]; exact ok.l8, fun q hq => ?_, ?_⟩
  · rcases List.mem_or_eq_of_mem_set hq with h | h
    · exact ok.ok q h
    · rw [h]
      exact ⟨qo.neg, by show (List.map _ _).length = _; rw [List.length_map]; exact ql⟩
  · rw [List.map_set, nfU_neg qo]
    have : (qs.map nfU).set i (nfU qs[i]) = qs.map nfU := by
      refine List.ext_getElem? fun j => ?_
      rw [List.getElem?_set]
      by_cases h : i = j
      · subst h
        rw [if_pos rfl, if_pos (by rw [List.length_map]; exact hi), List.getElem?_map, e]
        rfl
      · rw [if_neg h]
    rw [this]
    exact ok.nd
theorem fit_none (n : Nat) (zs : List Int) : fitU (List.replicate n none) zs = true := by
  unfold fitU
  refine List.all_eq_true.mpr fun p hp => ?_
  have := (List.of_mem_zip (a := p.1) (b := p.2) hp).1
  rw [(List.mem_replicate.mp this).2]
  rfl
theorem Tb5.grd {T : Nat → Addr} {d : Addr} {H H' : Hp} (t : Tb5 T H) (dk : DeckAt d H) (g : GrD d H H') : Tb5 T H' := ⟨fun i h => by
  have z := t.t i h
  refine g.tab _ (fun e => ?_) z
  obtain ⟨ps, e1, _⟩ := z
  obtain ⟨a, b, e2, _⟩ := dk
  rw [e, e2] at e1
  cases e1⟩
/-! ### the same data -/
section
variable {K : PySem.W.Frag} {H : Hp}
theorem al_int (n : Nat) (i : Int) : Alike K H (n + 1) (.int i) (.int i) := .inl ⟨rfl, rfl⟩
theorem al_bl (n : Nat) (b : Bool) : Alike K H (n + 1) (.bl b) (.bl b) := .inl ⟨rfl, rfl⟩
theorem al_ints (n : Nat) : ∀ zs : List Int, Paired (Alike K H (n + 1)) (zs.map V.int) (zs.map V.int)
  | [] => .nil
  | z :: r => .cons (al_int n z) (al_ints n r)
theorem al_si (n : Nat) {x y : V} {zs : List Int} (hx : SiV K H x zs) (hy : SiV K H y zs) (hl : zs.length ≤ 1000) : Alike K H (n + 2) x y := by
  obtain ⟨a, rfl, ha⟩ := hx
  obtain ⟨b, rfl, hb⟩ := hy
  exact .inr ⟨a, b, _, _, rfl, rfl, szN (by rw [List.length_map]; omega), .inl ⟨ha, hb⟩, al_ints n zs⟩
theorem al_l2 {n : Nat} {p q : Addr} {x1 x2 y1 y2 : V} (hp : SqL K H p [x1, x2]) (hq : SqL K H q [y1, y2]) (h1 : Alike K H n x1 y1) (h2 : Alike K H n x2 y2) : Alike K H (n + 1) (.ref p) (.ref q) :=
  .inr ⟨p, q, _, _, rfl, rfl, szN (by show 2 ≤ 1000000; decide), .inr ⟨hp, hq⟩, .cons h1 (.cons h2 .nil)⟩
end
/-- what stands while the law looks at one point -/
structure RSt (K : PySem.W.Frag) (T : Nat → Addr) (d : Addr) (n : Nat) (qs : List (List Int × Int)) (us : List (Int × Int)) (x y : V) (r : Addr) (H0 H : Hp) : Prop where
  g : GrD d H0 H
  dk : DeckAt d H
  tb : Tb5 T H
  hx : BkV K H x n qs
  hy : PtV K H y us
  hr : SqT K H r ((rowU qs us).map V.int)
theorem RSt.grd {K : PySem.W.Frag} {T : Nat → Addr} {d : Addr} {n : Nat} {qs : List (List Int × Int)} {us : List (Int × Int)} {x y : V} {r : Addr} {H0 H H' : Hp} (s : RSt K T d n qs us x y r H0 H) (g : GrD d H H') (dk : DeckAt d H') : RSt K T d n qs us x y r H0 H' :=
  ⟨s.g.trans g, dk, s.tb.grd s.dk g, s.hx.st (g.st s.dk), s.hy.st (g.st s.dk), g.st s.dk _ _ s.hr⟩
theorem RSt.gr {K : PySem.W.Frag} {T : Nat → Addr} {d : Addr} {n : Nat} {qs : List (List Int × Int)} {us : List (Int × Int)} {x y : V} {r : Addr} {H0 H H' : Hp} (s : RSt K T d n qs us x y r H0 H) (g : Gr H H') : RSt K T d n qs us x y r H0 H' := s.grd (g.d d) (s.dk.gr g)
end SB
namespace SB
open PySem L2 GxR GA RZ
theorem sgn_qv {p : Int × Int} (h : 0 < p.2) : sgn p.1 = sgQ (qv p) := by
  unfold sgn sgQ
  by_cases h1 : 0 < p.1
  · rw [if_pos h1, if_pos ((qv_pos h).mpr h1)]
  · rw [if_neg h1, if_neg fun z => h1 ((qv_pos h).mp z)]
    by_cases h2 : p.1 < 0
    · rw [if_pos h2, if_pos ((qv_neg h).mpr h2)]
    · rw [if_neg h2, if_neg fun z => h2 ((qv_neg h).mp z)]
theorem ans_qv {q : List Int × Int} {us : List (Int × Int)} (h : ∀ u, u ∈ us → Lo u) : ansU q us = sgQ (wq q us) := sgn_qv (worth_pos h)
/-- the row of a point near enough to the one -/
theorem row_mix {qs : List (List Int × Int)} {us ws rs : List (Int × Int)} {s : Rat} (hu : ∀ u, u ∈ us → Lo u) (hw : ∀ u, u ∈ ws → Lo u) (hr : ∀ u, u ∈ rs → Lo u) (hl : us.length = ws.length) (e : rs.map qv = mixQ s (us.map qv) (ws.map qv)) (s0 : 0 < s) (s1 : s < 1) (hN : ∀ q, q ∈ qs → Near s (wq q us) (wq q ws)) :
    rowU qs rs = aheadU (rowU qs us) (rowU qs ws) := by
  refine List.ext_getElem? fun i => ?_
  cases eq : qs[i]? with
  | none =>
    have : qs.length ≤ i := List.getElem?_eq_none_iff.mp eq
    rw [List.getElem?_eq_none (by rw [row_len]; omega), List.getElem?_eq_none (by rw [ahead_len (by rw [row_len, row_len]), row_len]; omega)]
  | some q =>
    have nq := hN q (List.mem_of_getElem? eq)
    rw [row_at eq, ahead_at (row_at (us := us) eq) (row_at (us := ws) eq), ans_qv hu, ans_qv hw, ans_qv hr]
    have h1 : wq q rs = wq q us + s * (wq q ws - wq q us) := by
      have a1 := worth_qv (q := q) (us := us) fun u h => (hu u h).1
      have a2 := worth_qv (q := q) (us := ws) fun u h => (hw u h).1
      have a3 := worth_qv (q := q) (us := rs) fun u h => (hr u h).1
      unfold wq
      rw [a1, a2, a3, e, dot_mix _ _ _ _ (by rw [List.length_map, List.length_map, hl])]
      grind
    rw [h1, sg_ahead s0 s1 nq.1 nq.2]
theorem ahead_self (zs : List Int) : aheadU zs zs = zs := by
  refine List.ext_getElem? fun i => ?_
  cases e : zs[i]? with
  | none => rw [List.getElem?_eq_none (by rw [ahead_len rfl]; exact List.getElem?_eq_none_iff.mp e)]
  | some z =>
    rw [ahead_at e e]
    by_cases h : z = 0
    · rw [if_pos h]
    · rw [if_neg h]
section
variable {K : PySem.W.Frag} {H : Hp}
theorem al_nu (n : Nat) {x y : V} {q : Int × Int} (hx : NuV K H x q) (hy : NuV K H y q) : Alike K H (n + 2) x y := by
  obtain ⟨a, rfl, ha⟩ := hx
  obtain ⟨b, rfl, hb⟩ := hy
  exact .inr ⟨a, b, _, _, rfl, rfl, szN (by show 2 ≤ 1000000; decide), .inl ⟨ha, hb⟩, .cons (al_int n _) (.cons (al_int n _) .nil)⟩
theorem al_nus (n : Nat) : ∀ {xs ys : List V} {us : List (Int × Int)}, Paired (NuV K H) xs us → Paired (NuV K H) ys us → Paired (Alike K H (n + 2)) xs ys
  | _, _, _, .nil, .nil => .nil
  | _, _, _, .cons h1 t1, .cons h2 t2 => .cons (al_nu n h1 h2) (al_nus n t1 t2)
theorem al_pt (n : Nat) {x y : V} {us : List (Int × Int)} (hx : PtV K H x us) (hy : PtV K H y us) (hl : us.length ≤ 1000) : Alike K H (n + 3) x y := by
  obtain ⟨a, xs, rfl, ha, hp⟩ := hx
  obtain ⟨b, ys, rfl, hb, hq⟩ := hy
  have := paired_len hq
  exact .inr ⟨a, b, _, _, rfl, rfl, szN (by omega), .inl ⟨ha, hb⟩, al_nus n hp hq⟩
end
/-- what stands while the law looks at two points -/
structure RS5 (K : PySem.W.Frag) (T : Nat → Addr) (d : Addr) (n : Nat) (qs : List (List Int × Int)) (us ws : List (Int × Int)) (x y v : V) (H0 H : Hp) : Prop where
  g : GrD d H0 H
  dk : DeckAt d H
  tb : Tb5 T H
  hx : BkV K H x n qs
  hy : PtV K H y us
  hv : PtV K H v ws
theorem RS5.grd {K : PySem.W.Frag} {T : Nat → Addr} {d : Addr} {n : Nat} {qs : List (List Int × Int)} {us ws : List (Int × Int)} {x y v : V} {H0 H H' : Hp} (s : RS5 K T d n qs us ws x y v H0 H) (g : GrD d H H') (dk : DeckAt d H') : RS5 K T d n qs us ws x y v H0 H' :=
  ⟨s.g.trans g, dk, s.tb.grd s.dk g, s.hx.st (g.st s.dk), s.hy.st (g.st s.dk), s.hv.st (g.st s.dk)⟩
theorem RS5.gr {K : PySem.W.Frag} {T : Nat → Addr} {d : Addr} {n : Nat} {qs : List (List Int × Int)} {us ws : List (Int × Int)} {x y v : V} {H0 H H' : Hp} (s : RS5 K T d n qs us ws x y v H0 H) (g : Gr H H') : RS5 K T d n qs us ws x y v H0 H' := s.grd (g.d d) (s.dk.gr g)
/-! ### moved, turned, left out -/
theorem wq_line {q : List Int × Int} {us : List (Int × Int)} (h : ∀ u, u ∈ us → Lo u) : wq q us = lineQ q (us.map qv) := worth_qv fun u hu => (h u hu).1
theorem ans_mov {q : List Int × Int} {us by_ es : List (Int × Int)} (hq : NonZ q.1) (hu : ∀ u, u ∈ us → Lo u) (hb : ∀ u, u ∈ by_ → Lo u) (he : ∀ u, u ∈ es → Lo u) (hl : us.length = by_.length) (e : es.map qv = addQ (us.map qv) (by_.map qv)) : ansU (movU q by_) es = ansU q us := by
  obtain ⟨c, c0, hc⟩ := mov_line hq hb
  rw [ans_qv he, ans_qv hu, wq_line he, wq_line hu, hc, e, dot_add _ _ _ (by rw [List.length_map, List.length_map, hl])]
  have : c * (dotQ q.1 (us.map qv) + dotQ q.1 (by_.map qv) - dotQ q.1 (by_.map qv) - (q.2 : Rat)) = c * lineQ q (us.map qv) := by
    unfold lineQ
    grind
  rw [this, sgQ_mul c0]
theorem row_mov {qs : List (List Int × Int)} {us by_ es : List (Int × Int)} (hq : ∀ q, q ∈ qs → NonZ q.1) (hu : ∀ u, u ∈ us → Lo u) (hb : ∀ u, u ∈ by_ → Lo u) (he : ∀ u, u ∈ es → Lo u) (hl : us.length = by_.length) (e : es.map qv = addQ (us.map qv) (by_.map qv)) : rowU (qs.map fun q => movU q by_) es = rowU qs us := by
  unfold rowU
  rw [List.map_map]
  exact List.map_congr_left fun q h => ans_mov (hq q h) hu hb he hl e
theorem mov_wd {q : List Int × Int} {us : List (Int × Int)} {k W : Nat} (hq : NonZ q.1) (hu : ∀ u, u ∈ us → Lo u) (qw : QW k q) (w : Wd W (shiftU q us)) : QW (k + W) (movU q us) := by
  have lo := shift_lo (q := q) hu
  have e : movU q us = divU (rawU q (shiftU q us)) := rfl
  generalize shiftU q us = r at *
  have nz := raw_nz (r := r) hq lo.1
  have g0 := nonZ_g nz
  have le : ∀ z, z ∈ (rawU q r).1 ++ [(rawU q r).2] → (z / ((gcdL ((rawU q r).1 ++ [(rawU q r).2]) : Nat) : Int)).natAbs ≤ z.natAbs := fun z hz => (div_le g0 (gcdL_dvd hz)).1
  rw [e]
  refine ⟨fun z hz => ?_, ?_⟩
  · obtain ⟨y, hy, rfl⟩ := List.mem_map.mp hz
    refine Nat.lt_of_le_of_lt (le y (List.mem_append_left _ hy)) ?_
    obtain ⟨x, hx, rfl⟩ := List.mem_map.mp hy
    exact mul_lt2 (qw.1 x hx) w.2
  · refine Nat.lt_of_le_of_lt (le _ (List.mem_append_right _ List.mem_cons_self)) ?_
    exact Nat.lt_of_lt_of_le w.1 (Nat.pow_le_pow_right (by decide) (by omega))
theorem mov_len (q : List Int × Int) (us : List (Int × Int)) : (movU q us).1.length = q.1.length := by
  show (List.map _ (List.map _ q.1)).length = _
  rw [List.length_map, List.length_map]
theorem mov_ok {q : List Int × Int} {us : List (Int × Int)} {k W : Nat} (hq : NonZ q.1) (hu : ∀ u, u ∈ us → Lo u) (qw : QW k q) (w : Wd W (shiftU q us)) (h : k + W ≤ 10000) : QOk (movU q us) := by
  have m := mov_wd hq hu qw w
  have le : (2 : Nat) ^ (k + W) ≤ 2 ^ 10000 := Nat.pow_le_pow_right (by decide) h
  exact ⟨nonZ_div (raw_nz hq (shift_lo hu).1), fun z hz => Nat.lt_of_lt_of_le (m.1 z hz) le, Nat.lt_of_lt_of_le m.2 le⟩
theorem BOk.mov {d : Nat} {qs : List (List Int × Int)} {us : List (Int × Int)} {k W : Nat} (ok : BOk d qs) (hu : ∀ u, u ∈ us → Lo u) (qw : ∀ q, q ∈ qs → QW k q) (w : ∀ q, q ∈ qs → Wd W (shiftU q us)) (h : k + W ≤ 10000) : BOk d (qs.map fun q => movU q us) := by
  refine ⟨ok.d1, ok.d8, by rw [List.length_map]; exact ok.l8, fun q hq => ?_, ?_⟩
  · obtain ⟨p, hp, rfl⟩ := List.mem_map.mp hq
    obtain ⟨po, pl⟩ := ok.ok p hp
    exact ⟨mov_ok po.nz hu (qw p hp) (w p hp) h, by rw [mov_len]; exact pl⟩
  · have : ∀ l : List (List Int × Int), (∀ q, q ∈ l → QOk q) → (l.map nfU).Nodup → ((l.map fun q => movU q us).map nfU).Nodup := fun l => by
      induction l with
      | nil => exact fun _ _ => List.nodup_nil
      | cons p r ih =>
        intro ho hn
        rw [List.map_cons, List.nodup_cons] at hn
        rw [List.map_cons, List.map_cons, List.nodup_cons]
        refine ⟨fun hm => hn.1 ?_, ih (fun q h => ho q (List.mem_cons_of_mem _ h)) hn.2⟩
        obtain ⟨q', hq', e⟩ := List.mem_map.mp hm
        obtain ⟨q, hq, rfl⟩ := List.mem_map.mp hq'
        have := mov_nf (ho q (List.mem_cons_of_mem _ hq)) (ho p List.mem_cons_self) hu e
        exact List.mem_map.mpr ⟨q, hq, this⟩
    exact this qs (fun q h => (ok.ok q h).1) ok.nd
theorem BOk.wo {d : Nat} {qs : List (List Int × Int)} (ok : BOk d qs) (i : Nat) : BOk d (qs.take i ++ qs.drop (i + 1)) := by
  have sub : List.Sublist (qs.take i ++ qs.drop (i + 1)) qs := by
    rw [← List.eraseIdx_eq_take_drop_succ]
    exact List.eraseIdx_sublist qs i
  exact ⟨ok.d1, ok.d8, Nat.le_trans sub.length_le ok.l8, fun q hq => ok.ok q (sub.subset hq), ok.nd.sublist (sub.map nfU)⟩
theorem row_wo (qs : List (List Int × Int)) (us : List (Int × Int)) (i : Nat) : rowU (qs.take i ++ qs.drop (i + 1)) us = (rowU qs us).take i ++ (rowU qs us).drop (i + 1) := by
  unfold rowU
  rw [List.map_append, List.map_take, List.map_drop]
theorem zw_take {α : Type} (f : α → α → α) : ∀ (n : Nat) (xs ys : List α), (List.zipWith f xs ys).take n = List.zipWith f (xs.take n) (ys.take n)
  | 0, _, _ => rfl
  | _ + 1, [], _ => by simp
  | _ + 1, _ :: _, [] => by simp
  | n + 1, x :: r, y :: t => by simp [zw_take f n r t]
theorem zw_drop {α : Type} (f : α → α → α) : ∀ (n : Nat) (xs ys : List α), (List.zipWith f xs ys).drop n = List.zipWith f (xs.drop n) (ys.drop n)
  | 0, _, _ => rfl
  | _ + 1, [], _ => by simp
  | _ + 1, _ :: _, [] => by simp
  | n + 1, x :: r, y :: t => by simp [zw_drop f n r t]
theorem ahead_wo {zs ws : List Int} (h : zs.length = ws.length) (i : Nat) : aheadU (zs.take i ++ zs.drop (i + 1)) (ws.take i ++ ws.drop (i + 1)) = (aheadU zs ws).take i ++ (aheadU zs ws).drop (i + 1) := by
  unfold aheadU
  rw [zw_take, zw_drop, List.zipWith_append (by rw [List.length_take, List.length_take, h])]
theorem ahead_set {zs ws : List Int} {i : Nat} {z w : Int} (hz : zs[i]? = some z) (hw : ws[i]? = some w) : aheadU (zs.set i (-z)) (ws.set i (-w)) = (aheadU zs ws).set i (-(if z = 0 then w else z)) := by
  refine List.ext_getElem? fun j => ?_
  have iz := (List.getElem?_eq_some_iff.mp hz).1
  have iw := (List.getElem?_eq_some_iff.mp hw).1
  have il : i < (aheadU zs ws).length := by unfold aheadU; rw [List.length_zipWith]; omega
  rw [List.getElem?_set]
  by_cases e : i = j
  · subst e
    rw [if_pos rfl, if_pos il, ahead_at (z := -z) (w := -w) (by rw [List.getElem?_set, if_pos rfl, if_pos iz]) (by rw [List.getElem?_set, if_pos rfl, if_pos iw])]
    by_cases c : z = 0
    · rw [if_pos c, if_pos (by omega)]
    · rw [if_neg c, if_neg (by omega)]
  · rw [if_neg e]
    unfold aheadU
    rw [List.getElem?_zipWith, List.getElem?_zipWith, List.getElem?_set_ne e, List.getElem?_set_ne e]
/-- between two points the answers that both have -/
theorem row_same {qs : List (List Int × Int)} {us ws rs : List (Int × Int)} {s : Rat} (hu : ∀ u, u ∈ us → Lo u) (hw : ∀ u, u ∈ ws → Lo u) (hr : ∀ u, u ∈ rs → Lo u) (hl : us.length = ws.length) (e : rs.map qv = mixQ s (us.map qv) (ws.map qv)) (s0 : 0 ≤ s) (s1 : s ≤ 1) {i : Nat} {q : List Int × Int} (hq : qs[i]? = some q) (ha : ansU q us = ansU q ws) : ansU q rs = ansU q us := by
  rw [ans_qv hu, ans_qv hw] at ha
  rw [ans_qv hu, ans_qv hr]
  have h1 : wq q rs = wq q us + s * (wq q ws - wq q us) := by
    rw [wq_line hr, wq_line hu, wq_line hw]
    unfold lineQ
    rw [e, dot_mix _ _ _ _ (by rw [List.length_map, List.length_map, hl])]
    grind
  rw [h1, sg_same s0 s1 ha]
end SB
namespace SB
open PySem PySem.Spec PyProof.Rows L2 GxR GA RZ
/-! ### a def's promise where nothing is being shown yet (no repr under way) -/
structure FnG (P : Program) (w : World) (K : PySem.W.Frag) (mg : Str → Option Value) (base : Heap) (k : Nat) (f : Addr) (fd : FuncData) (ps : List Str) (sp : Sp) : Prop where
  len : ∀ vs H Q E, sp vs H Q E → vs.length = ps.length
  run : ∀ (A : Around) (out : List Env) (s : Shared) (H : Hp) (args : Args) (us : List Value) (vs : List V) (Q : VK) (E : XK), A.guards = some [] → Room k A → Env0 P w K mg base A out s H →
    BindsTo s fd args (ps.zip us) → Vals vs us → sp vs H Q E → codeAny (model P w) A (.call (.ref f) args) (CR CX0 out P w H s Q E) s
theorem FnG.mono {P : Program} {w : World} {K : PySem.W.Frag} {mg : Str → Option Value} {base : Heap} {j k : Nat} {f : Addr} {fd : FuncData} {ps : List Str} {sp : Sp} (F : FnG P w K mg base j f fd ps sp) (h : j ≤ k) : FnG P w K mg base k f fd ps sp :=
  ⟨F.len, fun A out s H args us vs Q E g r => F.run A out s H args us vs Q E g (r.mono h)⟩
section
variable {P : Program} {w : World} {K : PySem.W.Frag} {mg : Str → Option Value} {base : Heap}
theorem okG {x : Str} {st : Stmt} {f : Addr} {fd : FuncData} {N ps : List Str} {k : Nat} {sp : Sp} (F : Fun K x x st f fd) (S : FnScope N ps (defScope st)) (len : ∀ vs H Q E, sp vs H Q E → vs.length = ps.length)
    (B : ∀ (cdv : Value) (A : Around) (out : List Env) (s : Shared) (H : Hp) (vs : List V) (Q : VK) (E : XK), A.guards = some [] → Room k (A.deeper (envOfC x (defScope st) s.heap.objs.size f cdv)) → sp vs H Q E →
      ∃ t, PSs (cxOf CX0 P w K mg base N x (defScope st) f cdv A out s H E).nox (defBody st) t ∧ t { nx := fun _ H' => Q .non H', rt := Q } (start N vs) H) : FnG P w K mg base (k + 1) f fd ps sp := by
  obtain ⟨oc, od, kV, dc, pm, an, cdv, ct, sl, rfl, lk, cin⟩ := F.ex
  refine ⟨len, fun A out s0 H0 args us vs Q E gd rm env bnd rel hs => ?_⟩
  have kin : K.In s0.heap := env.mod.kin.keeps fun b o z => (env.bs b o z).1
  have knd : ∀ y ∈ ps.zip us, (defScope st).names.lookup y.1 = some .local ∨ ((defScope st).names.lookup y.1 = some .cell ∧ ((cellsFrom (s0.heap.objs.size + 1) (defScope st).names []).lookup y.1).isSome = true) := by
    intro y hy
    have hm := (List.of_mem_zip (a := y.1) (b := y.2) hy).1
    exact (S.par y.1 hm).imp id fun z => ⟨z, PySem.W.cellsFrom_some _ _ _ (.inl z)⟩
  refine codeAny_call_function rm.depth (kin _ _ lk) rfl S.co S.gen rfl (PySem.W.codeRec_of kin cin) (bnd _ _ _ _ (wpAny_newFunctionEnv_cells S.kind knd ?_))
  intro e0 ee sh inn
  cases ee
  have lim : s0.heap.NoLimit := env.mod.nolimit.keeps fun b o z => (env.bs b o z).1
  refine ⟨lim.keeps inn.toInCall.keep, codeAny_func ?_⟩
  obtain ⟨t, pt, rd⟩ := B cdv A out s0 H0 vs Q E gd (rm.deeper _) hs
  have inv : Inv (cxOf CX0 P w K mg base N x (defScope st) f cdv A out s0 H0 E) [] (start N vs) H0 sh := inv_start S rm.hd env (len _ _ _ _ hs) rel inn
  refine wpAny_mono (pt.nox.run [] sh (start N vs) H0 _ inv rd) (fun fl s' z => ?_) fun _ _ z => z
  match fl, z with
  | .ret u, ⟨v, σ', H', J, rv, q⟩ => exact ⟨v, H', J.os, J.bare, J.base, J.hok, rv, q⟩
  | .next, ⟨σ', H', J, q⟩ => exact ⟨V.non, H', J.os, J.bare, J.base, J.hok, rfl, q⟩
  | .brk, ⟨_, _, _, q⟩ => exact q.elim
  | .cont, ⟨_, _, _, q⟩ => exact q.elim
end
/-- a def of such a promise, by its name -/
structure ClG (P : Program) (w : World) (K : PySem.W.Frag) (mg : Str → Option Value) (base : Heap) (k : Nat) (x : Str) (ps : List Str) (sp : Sp) : Prop where
  ex : ∃ (f : Addr) (fd : FuncData), FnG P w K mg base k f fd ps sp ∧ mg x = some (.ref f) ∧ PySem.W.keepIn K (.ref f) = true ∧ Binds K fd ps []
theorem clG {P : Program} {w : World} {K : PySem.W.Frag} {mg : Str → Option Value} {base : Heap} {k : Nat} {x : Str} {st : Stmt} {ps : List Str} {sp : Sp} (D : Df K mg x st)
    (hb : ∀ (kV doc pm : Value) (an : Option Addr) (cdv ct : Value) (us : List Value), us.length = ps.length → bindArgs (PySem.W.fnOf x x (defArgs st) (defBody st) (defScope st) .none kV doc pm an cdv ct) ⟨us, []⟩ = pure (ps.zip us))
    (h : ∀ f fd, Fun K x x st f fd → FnG P w K mg base k f fd ps sp) : ClG P w K mg base k x ps sp := by
  obtain ⟨f, fd, F, m⟩ := D.ex
  exact ⟨f, fd, h f fd F, m, F.kp, F.binds hb⟩
theorem pe_clG {X : Cx} {k : Nat} {x : Str} {ps : List Str} {sp : Sp} {p pos : Pos} {e : Expr} {es : List Expr} {t : TA} (c : ClG X.prog X.w X.K X.mg X.base k x ps sp) (gd : X.A.guards = some []) (hr : Room k X.A) (ha : PA X (e :: es) t) (hg : Gl X x := by rfl) (hdb : (x == ("__debug__" : Str)) = false := by decide)
    (he : starEach (e :: es) X.env = (false, eval e X.env) :: starEach es X.env := by rfl) (hpl : (backTo pos (starEach es X.env)).any (·.1) = false := by rfl) :
    PE X (.Call (.Name x p) (e :: es) [] pos) (tCall sp [] E0 t) := by
  obtain ⟨f, fd, F, hm, hk, hb⟩ := c.ex
  refine ⟨fun pins s0 σ H0 Q I z => wpAny_Call_Name_kw (ld_glob I hg hm (PySem.W.callWith_K (h₀ := X.base) I.ok.mod.kin hk (thn (ha.run pos pins s0 σ H0 _ I z) fun us s1 y => ?_) he hpl) hdb)⟩
  obtain ⟨vs, H1, J, rel, q⟩ := y
  refine ⟨J.kIn, wpAny_call ?_⟩
  have q : sp vs H1 Q E0 := by
    have : vs ++ [] = vs := List.append_nil vs
    rw [← this]
    exact q
  have hl : us.length = ps.length := by rw [← rel.length]; exact F.len _ _ _ _ q
  have bd := hb s1 us J.kIn (by rw [List.append_nil]; exact hl)
  rw [List.append_nil] at bd
  refine codeAny_mono (F.run X.A X.stack s1 H1 ⟨us, []⟩ us vs Q E0 gd hr J.env0 bd rel q) fun r s' z => ?_
  match r, z with
  | .error e, z => exact pass0 pins σ H1 s1 e s' J z
  | .ok (.ret u), z => exact J.after z
  | .ok .next, z => exact z.elim
  | .ok .brk, z => exact z.elim
  | .ok .cont, z => exact z.elim
/-- repr of a list, a tuple of data -/
def rRepr (K : PySem.W.Frag) : List V → Hp → VK → Prop := fun xs H Q => ∃ a d, xs = [.ref a] ∧ Dp K H (.ref a) d ∧ d.showable = true ∧ d.hasDict = false ∧ d.depth ≤ 8 ∧ d.shown.length ≤ sizeLine ∧ Q (.str d.shown) H
theorem cr_repr {X : Cx} (gd : X.A.guards = some []) (hu : X.A.units + 64 < cLine) : CallR X (.builtin "repr") (rRepr X.K) := by
  intro pins s0 σ H0 xs us Q I r h
  obtain ⟨a, d, rfl, hd, h1, h2, h3, h4, q⟩ := h
  obtain ⟨u, rfl, rx⟩ := vals1 r
  cases rx
  obtain ⟨as, rd⟩ := Dp.reads I d _ _ hd rfl
  exact repr_of_reads' rd h1 (PyData.noDict_hsm h2) gd (by omega) (fun _ _ e => e) (fun h' u tk hk => ⟨.str d.shown, H0, I.kept hk, ⟨u, rfl⟩, q⟩) h4
end SB
/-! t[::-1] of a tuple -/
namespace HT
open PySem PySem.Spec PyProof.Rows L2
section
variable {prog : Program} {w : World} {A : Around} {E : Value → Shared → Prop} {s : Shared}
theorem rev_places (n : Nat) : Builtin.Slice.slicePlaces ((n : Int) - 1) (-1) (-1) = n := by
  unfold Builtin.Slice.slicePlaces
  rw [if_neg (by decide)]
  by_cases h : (n : Int) - 1 > -1
  · rw [if_pos h]
    have e : ((n : Int) - 1 - -1 - 1) / (- -1) + 1 = (n : Int) := by
      rw [show (- -1 : Int) = 1 by decide, Int.ediv_one]
      omega
    rw [e, Int.toNat_natCast]
  · rw [if_neg h]
    have : n = 0 := by omega
    rw [this]
    rfl
theorem rev_applied {c : Addr} {m : Tok} {n : Nat} {Q : Int × Int × Nat → Shared → Prop} (so : s.heap.IsSliceOf c .none .none (.int (-1) m)) (q : Q ((n : Int) - 1, -1, n) s) :
    wpAny (model prog w) A (Builtin.Slice.sliceApplied (.ref c) (pure (n : Int))) Q E s := by
  obtain ⟨o, hget, hcls, hfl⟩ := so
  unfold Builtin.Slice.sliceApplied Builtin.Slice.sliceFields
  refine wpAny_bind (wpAny_bind ?_)
  refine wpAny_field hget hfl (x := Value.none) rfl (wpAny_bind ?_)
  refine wpAny_field hget hfl (x := Value.none) rfl (wpAny_bind ?_)
  refine wpAny_field hget hfl (x := Value.int (-1) m) rfl (wpAny_pure ?_)
  refine wpAny_bind (slicePart_int (i := -1) (u := m) ?_)
  show wpAny _ _ (if ((-1 : Int) == 0) = true then _ else _) _ _ s
  rw [if_neg (by decide)]
  refine wpAny_bind (slicePart_none (wpAny_bind (slicePart_none (wpAny_bind (wpAny_pure ?_)))))
  show wpAny _ _ (pure ((n : Int) - 1, (-1 : Int), Builtin.Slice.slicePlaces ((n : Int) - 1) (-1) (-1))) _ _ s
  rw [rev_places]
  exact wpAny_pure q
theorem fm_congr {α β : Type} {f g : α → Option β} : ∀ {l : List α}, (∀ x, x ∈ l → f x = g x) → l.filterMap f = l.filterMap g
  | [], _ => rfl
  | x :: r, h => by rw [List.filterMap_cons, List.filterMap_cons, h x List.mem_cons_self, fm_congr (l := r) fun y hy => h y (List.mem_cons_of_mem _ hy)]
theorem rev_pick (xs : Array Value) : ((List.range xs.size).filterMap fun (k : Nat) => xs[(((xs.size : Nat) : Int) - 1 + (k : Int) * -1).toNat]?).toArray = xs.toList.reverse.toArray := by
  have h := PySem.W.krv_pick xs
  unfold slicePick at h
  rw [PySem.W.krv_bounds] at h
  have h : ((sliceRange ((xs.size : Int) - 1) (-1) (-1)).filterMap (xs[·]?)).toArray = xs.toList.reverse.toArray := h
  rw [PySem.W.krv_sliceRange, List.filterMap_map] at h
  rw [← h]
  congr 1
  refine fm_congr fun k hk => ?_
  have hk := List.mem_range.mp hk
  have e : (((xs.size : Nat) : Int) - 1 + (k : Int) * -1).toNat = xs.size - 1 - k := by omega
  show _ = xs[xs.size - 1 - k]?
  rw [e]
theorem rev_getItem {t c : Addr} {xs : Array Value} {m : Tok} {Q : Value → Shared → Prop} (it : IsTup s.heap t xs) (so : s.heap.IsSliceOf c .none .none (.int (-1) m)) (small : xs.size ≤ sizeLine)
    (q : Q (.ref s.heap.objs.size) { s with heap := s.heap.push { cls := .type "tuple", data := .seq xs.toList.reverse.toArray } }) : wpAny (model prog w) A (getItem (.ref t) (.ref c)) Q E s := by
  obtain ⟨o, hget, hcls, hfl⟩ := id so
  unfold getItem
  try with_reducible refine wpAny_holding ?_
  first | refine wpAny_bind (wpAny_pure ?_) | skip
  refine wpAny_bind (wpAny_sequenceKey it.typeIs (by decide) (wpAny_bind (wpAny_callSpecial?_slot (name := Str.ofString "__getitem__") it.typeIs slot_tuple_getitem
    (wpAny_call_entry slot_tuple_getitem it.typeIs entry_tuple_getitem ?_ (args_tuple_getitem _ _)))))
  show wpAny _ _ (Builtin.Tuple.tupleItemsOf (.ref t) >>= _) _ _ s
  refine wpAny_bind (tupleItemsOf_ it (wpAny_bind (wpAny_typeOf (T := "slice") ⟨o, hget, hcls⟩ ?_)))
  rw [if_pos (by decide)]
  refine wpAny_bind (rev_applied so ?_)
  have no : ¬ (((((xs.size : Nat) : Int) - 1) == 0 && (-1 : Int) == 1 && xs.size == xs.size) = true) := by
    intro z
    rw [Bool.and_eq_true, Bool.and_eq_true] at z
    exact absurd z.1.2 (by decide)
  show wpAny _ _ (if ((((xs.size : Nat) : Int) - 1) == 0 && (-1 : Int) == 1 && xs.size == xs.size) = true then _ else _) _ _ s
  rw [if_neg no, rev_pick]
  have sz : sizeOk (.seq xs.toList.reverse.toArray) := by
    show xs.toList.reverse.toArray.size ≤ sizeLine
    rw [List.size_toArray, List.length_reverse, Array.length_toList]
    exact small
  first
    | exact wpAny_bind (m := Builtin.Tuple.tupleExact _) (wpAny_newObj_type (wpAny_pure ⟨_, rfl, wpAny_pure q⟩) sz)
    | exact wpAny_bind (wpAny_bind (m := Builtin.Tuple.tupleExact _) (wpAny_newObj_type (wpAny_pure (wpAny_pure ⟨_, rfl, wpAny_pure q⟩)) sz))
end
end HT
namespace L2
open PySem PySem.Spec PyProof.Rows
section
variable {X : Cx}
def tRevT (K : PySem.W.Frag) (te : TE) : TE := fun σ H Q => te σ H fun x H1 => ∃ a xs, x = .ref a ∧ SqT K H1 a xs ∧ ∀ p, H1 p = none → Q (.ref p) (upd H1 p (.tup xs.reverse))
theorem pe_revT {e : Expr} {te : TE} {k : Nat} {p1 p2 p3 pos : Pos} (he : PE X e te) : PE X (.Subscript e (.Slice none none (some (.UnaryOp .USub (.Constant (.int 1) k p1) p2)) p3) pos) (tRevT X.K te) := by
  refine ⟨fun pins s0 σ H0 Q I0 z => Subscript_ (thn (he.run pins s0 σ H0 _ I0 z) fun v s1 y => ?_)⟩
  obtain ⟨x, H1, I1, rv, a, xs, rfl, sq, q⟩ := y
  cases rv
  have neg1 : PO X (some (.UnaryOp .USub (.Constant (.int 1) k p1) p2)) (tPart (tUn (rU fun i => .int (-i)) (tC (.int 1)))) := po_some (pe_un un_neg pe_int)
  refine wpAny_Slice (thn (po_none.run pins s1 σ H1 (fun o J => o = none ∧ J = H1) I1 ⟨rfl, rfl⟩) fun v1 s2 ⟨o1, J1, K1, b1, c1, d1⟩ => ?_)
  subst c1 d1
  refine thn (po_none.run pins s2 σ J1 (fun o J => o = none ∧ J = J1) K1 ⟨rfl, rfl⟩) fun v2 s3 ⟨o2, J2, K2, b2, c2, d2⟩ => ?_
  subst c2 d2
  refine thn (neg1.run pins s3 σ J2 (fun o J => o = some (-1) ∧ J = J2) K2 ⟨1, rfl, -1, rfl, rfl, rfl⟩) fun v3 s4 ⟨o3, J3, K3, b3, c3, d3⟩ => ?_
  subst c3 d3
  cases b1
  cases b2
  cases b3 with
  | int i m =>
    have K4 : Inv X pins σ J3 { s4 with heap := s4.heap.push { cls := .type "slice", data := .fields #[.none, .none, .int (-1) m] } } := K3.kept (t' := s4.toks) fun b ob q => Heap.get?_push_of_some _ q
    obtain ⟨its, r, it, few⟩ := K4.tuple sq
    have len := r.length
    show wpAny (model X.prog X.w) X.A (subscriptTail e (.Slice none none (some (.UnaryOp .USub (.Constant (.int 1) k p1) p2)) p3) (.ref a) (.ref s4.heap.objs.size)) (EP X pins σ Q) X.xe { s4 with heap := s4.heap.push { cls := .type "slice", data := .fields #[.none, .none, .int (-1) m] } }
    refine tail_any (ops := [.ref a, .ref s4.heap.objs.size]) it.typeIs (PyProof.Rows.slot_tuple_getitem.lookup) (HT.rev_getItem it (Heap.IsSliceOf.new _ _ _ _) (by rw [List.size_toArray]; omega) ?_) (by with_unfolding_all rfl)
    refine ⟨.ref _, _, K4.laid (t' := s4.toks) (o := .tup xs.reverse) (fun b ob q => Heap.get?_push_of_some _ q) (Nat.le_refl _) ?_, rfl, q _ (K4.hok.fresh (Nat.le_refl _))⟩
    exact ⟨by rw [List.length_reverse]; exact few, _, r.reverse, IsTup.new _ _⟩
end
end L2
namespace SB
open PySem L2 GxR GA RZ
/-! ### the program's judgements of any data -/
mutual
theorem dp_gr {K : PySem.W.Frag} {H H' : Hp} (g : Gr H H') : ∀ {v : V} {d : PyData}, Dp K H v d → Dp K H' v d
  | _, _, .non => .non
  | _, _, .bl b => .bl b
  | _, _, .int i => .int i
  | _, _, .str x => .str x
  | _, _, .lst h p => .lst (g.seqL h) (dpa_gr g p)
  | _, _, .tup h p => .tup (g.seqT h) (dpa_gr g p)
theorem dpa_gr {K : PySem.W.Frag} {H H' : Hp} (g : Gr H H') : ∀ {vs : List V} {ds : List PyData}, DpAll K H vs ds → DpAll K H' vs ds
  | _, _, .nil => .nil
  | _, _, .cons h t => .cons (dp_gr g h) (dpa_gr g t)
end
theorem dpa_len {K : PySem.W.Frag} {H : Hp} : ∀ {vs : List V} {ds : List PyData}, DpAll K H vs ds → vs.length = ds.length
  | _, _, .nil => rfl
  | _, _, .cons _ t => congrArg (· + 1) (dpa_len t)
theorem dpa_get {K : PySem.W.Frag} {H : Hp} : ∀ {vs : List V} {ds : List PyData} {i : Nat} {v : V}, DpAll K H vs ds → vs[i]? = some v → ∃ d, ds[i]? = some d ∧ Dp K H v d
  | _, _, _, _, .nil, h => by simp at h
  | _, _, 0, _, .cons h _, e => by
    have e := Option.some.inj e
    subst e
    exact ⟨_, rfl, h⟩
  | _, _, i + 1, _, .cons _ t, e => dpa_get (i := i) t e
def isIntD : PyData → Bool
  | .int _ => true
  | _ => false
def isTupD : PyData → Bool
  | .tuple _ => true
  | _ => false
theorem dp_kn {K : PySem.W.Frag} {H : Hp} {v : V} {d : PyData} (h : Dp K H v d) : ∃ t, Kn K H v t ∧ isInt v = isIntD d ∧ kitB t "tuple" = some (isTupD d) := by
  cases h with
  | non => exact ⟨_, .non, rfl, by show kitB _ "tuple" = some false; decide +kernel⟩
  | bl b => exact ⟨_, .bl b, rfl, by show kitB _ "tuple" = some false; decide +kernel⟩
  | int i => exact ⟨_, .int i, rfl, by show kitB _ "tuple" = some false; decide +kernel⟩
  | str x => exact ⟨_, .str x, rfl, by show kitB _ "tuple" = some false; decide +kernel⟩
  | lst h _ => exact ⟨_, .lst h, rfl, by show kitB _ "tuple" = some false; decide +kernel⟩
  | tup h _ => exact ⟨_, .tup h, rfl, by show kitB _ "tuple" = some true; decide +kernel⟩
theorem dp_ofInt {K : PySem.W.Frag} {H : Hp} {v : V} {d : PyData} (h : Dp K H v d) (i : isIntD d = true) : ∃ z : Int, v = .int z ∧ d = .int z := by
  cases h with
  | int z => exact ⟨z, rfl, rfl⟩
  | non => cases i
  | bl b => cases i
  | str x => cases i
  | lst h _ => cases i
  | tup h _ => cases i
theorem dp_ofTup {K : PySem.W.Frag} {H : Hp} {v : V} {d : PyData} (h : Dp K H v d) (i : isTupD d = true) : ∃ a xs ds, v = .ref a ∧ d = .tuple ds ∧ SqT K H a xs ∧ DpAll K H xs ds := by
  cases h with
  | tup h p => exact ⟨_, _, _, rfl, rfl, h, p⟩
  | non => cases i
  | bl b => cases i
  | str x => cases i
  | int h => cases i
  | lst h _ => cases i
def intD : PyData → Int
  | .int z => z
  | _ => 0
theorem dpa_ints {K : PySem.W.Frag} {H : Hp} : ∀ {vs : List V} {ds : List PyData}, DpAll K H vs ds → (∀ (i : Nat) (d : PyData), ds[i]? = some d → isIntD d = true) → vs = (ds.map intD).map V.int ∧ ds = (ds.map intD).map PyData.int
  | _, _, .nil, _ => ⟨rfl, rfl⟩
  | _, _, .cons h t, f => by
    obtain ⟨z, rfl, rfl⟩ := dp_ofInt h (f 0 _ rfl)
    obtain ⟨e1, e2⟩ := dpa_ints t fun i d e => f (i + 1) d e
    exact ⟨by rw [List.map_cons, List.map_cons, ← e1]; rfl, by rw [List.map_cons, List.map_cons, ← e2]; rfl⟩
def sidesD : PyData → Bool
  | .tuple ds => ds.all isIntD && (ds.map intD).any fun z => decide (z ≠ 0)
  | _ => false
def questD : PyData → Bool
  | .tuple [s, w] => sidesD s && isIntD w
  | _ => false
def lenD : PyData → Int
  | .tuple (.tuple ss :: _) => ss.length
  | _ => 0
def manyD : PyData → Bool
  | .int i => decide (1 ≤ i)
  | _ => false
section
variable {P : Program} {w : World} {K : PySem.W.Frag} {mg : Str → Option Value} {base : Heap}
def spWholesD (K : PySem.W.Frag) : Sp := fun vs H Q _ => ∃ a xs ds, vs = [.ref a] ∧ SqT K H a xs ∧ DpAll K H xs ds ∧ Q (.bl (ds.all isIntD)) H
theorem all_not {ds : List PyData} {p : PyData → Bool} {d : PyData} (h : d ∈ ds) (n : p d = false) : ds.all p = false := by
  rw [Bool.eq_false_iff]
  intro z
  have := List.all_eq_true.mp z d h
  rw [n] at this
  cases this
theorem cl_wholesD (D : Df K mg "are_wholes" s_are_wholes) (CW : Cl P w K mg base 1 "is_whole" ["told"] (spWhole K)) : Cl P w K mg base 2 "are_wholes" ["told"] (spWholesD K) := by
  refine D.cl (fun _ _ _ _ _ _ us hl => match us, hl with | [_], _ => rfl) fun f fd F => F.ok sc_wholes (fun vs H Q E h => ?_) (fun cdv A outer s H vs Q E hr h => ?_)
  · obtain ⟨a, xs, ds, rfl, _⟩ := h
    rfl
  obtain ⟨a, xs, ds, rfl, hs, hp, hq⟩ := h
  refine ⟨_, pss_cons (ps_for PassesOwn.never rfl (pi_tup (pv 0)) (pg_name (i := 1) sc_wholes.nd rfl (Or.inl rfl))
    (pss_one (ps_if (pt_not (pt_val (pe_cl CW (hr.mono (by decide)) (pa_cons (pv 1) pa_nil)))) (pss_one (ps_ret pe_bl)) pss_nil))) (pss_one (ps_ret pe_bl)), ?_⟩
  refine ⟨_, rfl, a, rfl, ⟨_, hs⟩, for_tup (xs := xs) (fun i σ H1 => ∃ c, σ = [some (.ref a), c] ∧ H1 = H ∧ ∀ j d, j < i → ds[j]? = some d → isIntD d = true) ⟨_, rfl, rfl, fun j d h => absurd h (Nat.not_lt_zero _)⟩ (fun i σ H1 _ h => ?_) (fun i x σ H1 hx h => ?_) (fun σ H1 h => ?_)⟩
  · obtain ⟨c, rfl, rfl, _⟩ := h
    exact hs
  · obtain ⟨c, rfl, rfl, hall⟩ := h
    obtain ⟨d, ed, hdx⟩ := dpa_get hp hx
    obtain ⟨t, kn, ki, _⟩ := dp_kn hdx
    refine ⟨_, rfl, _, t, rfl, kn, _, rfl, ?_⟩
    rw [ki]
    cases hi : isIntD d with
    | true =>
      refine iteF ⟨some x, rfl, rfl, fun j d' hj e' => ?_⟩
      by_cases e : j = i
      · rw [e, ed] at e'
        cases e'
        exact hi
      · exact hall j d' (by omega) e'
    | false =>
      rw [all_not (List.mem_of_getElem? ed) hi] at hq
      exact iteT hq
  · obtain ⟨c, rfl, rfl, hall⟩ := h
    have : ds.all isIntD = true := List.all_eq_true.mpr fun d hd => by
      obtain ⟨i, e⟩ := List.getElem?_of_mem hd
      exact hall i d (by rw [dpa_len hp]; exact (List.getElem?_eq_some_iff.mp e).1) e
    rw [this] at hq
    exact hq
def spSidesD (K : PySem.W.Frag) : Sp := fun vs H Q _ => ∃ x d, vs = [x] ∧ Dp K H x d ∧ ∀ H', Gr H H' → Q (.bl (sidesD d)) H'
end
end SB
namespace SB
open PySem L2 GxR GA RZ
def questOfD (n : Int) (d : PyData) : Bool := questD d && decide (lenD d = n)
theorem isTup_ex {d : PyData} (h : isTupD d = true) : ∃ ds, d = .tuple ds := by
  cases d <;> first | exact ⟨_, rfl⟩ | cases h
theorem dpa_two {K : PySem.W.Frag} {H : Hp} {xs : List V} {ds : List PyData} (h : DpAll K H xs ds) (l : xs.length = 2) : ∃ x1 x2 d1 d2, xs = [x1, x2] ∧ ds = [d1, d2] ∧ Dp K H x1 d1 ∧ Dp K H x2 d2 := by
  cases h with
  | nil => cases l
  | cons h1 p =>
    cases p with
    | nil => cases l
    | cons h2 p =>
      cases p with
      | nil => exact ⟨_, _, _, _, rfl, rfl, h1, h2⟩
      | cons h3 p => simp at l
theorem questD_two {ds : List PyData} (l : ds.length ≠ 2) : questD (.tuple ds) = false := by
  match ds, l with
  | [], _ => rfl
  | [_], _ => rfl
  | [_, _], l => exact absurd rfl l
  | _ :: _ :: _ :: _, _ => rfl
theorem questD_not {d : PyData} (h : isTupD d = false) : questD d = false := by
  cases d <;> first | rfl | cases h
theorem questD_at (d1 d2 : PyData) : questD (.tuple [d1, d2]) = (sidesD d1 && isIntD d2) := rfl
section
variable {P : Program} {w : World} {K : PySem.W.Frag} {mg : Str → Option Value} {base : Heap}
def spQuestD (K : PySem.W.Frag) : Sp := fun vs H Q _ => ∃ x d, vs = [x] ∧ Dp K H x d ∧ ∀ H', Gr H H' → Q (.bl (questD d)) H'
end
end SB
namespace SB
open PySem L2 GxR GA RZ
theorem questOfD_not {n : Int} {d : PyData} (h : questD d = false) : questOfD n d = false := by
  unfold questOfD
  rw [h]
  rfl
theorem questD_yes {K : PySem.W.Frag} {H : Hp} {x : V} {d : PyData} (h : Dp K H x d) (q : questD d = true) : ∃ a b ys ss w x2, x = .ref a ∧ d = .tuple [.tuple ss, w] ∧ SqT K H a [.ref b, x2] ∧ SqT K H b ys ∧ ys.length = ss.length ∧ ∀ n : Int, questOfD n d = decide (((ss.length : Nat) : Int) = n) := by
  cases ht : isTupD d with
  | false =>
    rw [questD_not ht] at q
    cases q
  | true =>
    obtain ⟨a, xs, ds, rfl, rfl, hs, hp⟩ := dp_ofTup h ht
    by_cases l : ds.length = 2
    · obtain ⟨x1, x2, d1, d2, rfl, rfl, h1, h2⟩ := dpa_two hp (by rw [dpa_len hp, l])
      rw [questD_at] at q
      have q1 : sidesD d1 = true := by
        cases e : sidesD d1 with
        | true => rfl
        | false => rw [e] at q; cases q
      have t1 : isTupD d1 = true := by
        cases d1 <;> first | rfl | cases q1
      obtain ⟨b, ys, ss, rfl, rfl, hb, hbp⟩ := dp_ofTup h1 t1
      refine ⟨a, b, ys, ss, d2, x2, rfl, rfl, hs, hb, dpa_len hbp, fun n => ?_⟩
      show (questD (.tuple [.tuple ss, d2]) && _) = _
      rw [questD_at, q]
      rfl
    · rw [questD_two l] at q
      cases q
section
variable {P : Program} {w : World} {K : PySem.W.Frag} {mg : Str → Option Value} {base : Heap}
def spQuestOfD (K : PySem.W.Frag) : Sp := fun vs H Q _ => ∃ x d n, vs = [x, .int n] ∧ Dp K H x d ∧ ∀ H', Gr H H' → Q (.bl (questOfD n d)) H'
def spManyD (K : PySem.W.Frag) : Sp := fun vs H Q _ => ∃ x d, vs = [x] ∧ Dp K H x d ∧ Q (.bl (manyD d)) H
end
end SB
namespace SB
open PySem L2 GxR GA RZ SG PpSet
def quD : PyData → List Int × Int
  | .tuple [.tuple ss, w] => (ss.map intD, intD w)
  | _ => ([], 0)
def partD : PyData → List PyData
  | .tuple ds => ds
  | _ => []
def bookD : PyData → Bool
  | .tuple [n, qs] => manyD n && (isTupD qs && ((partD qs).all (questOfD (intD n)) && decide ((((partD qs).map quD).map nfU).Nodup)))
  | _ => false
/-- not too great to be looked at -/
def SmallD : PyData → Prop
  | .tuple [_, qs] => (partD qs).length ≤ 60 ∧ ∀ q, q ∈ partD qs → questD q = true → (quD q).1.length ≤ 8 ∧ (∀ z, z ∈ (quD q).1 → z.natAbs < 2 ^ 10000) ∧ (quD q).2.natAbs < 2 ^ 10000
  | _ => True
theorem questD_qu {K : PySem.W.Frag} {H : Hp} {x : V} {d : PyData} (h : Dp K H x d) (q : questD d = true) : QuV K H x (quD d) ∧ NonZ (quD d).1 := by
  cases ht : isTupD d with
  | false =>
    rw [questD_not ht] at q
    cases q
  | true =>
    obtain ⟨a, xs, ds, rfl, rfl, hs, hp⟩ := dp_ofTup h ht
    by_cases l : ds.length = 2
    · obtain ⟨x1, x2, d1, d2, rfl, rfl, h1, h2⟩ := dpa_two hp (by rw [dpa_len hp, l])
      rw [questD_at] at q
      have q1 : sidesD d1 = true := by
        cases e : sidesD d1 with
        | true => rfl
        | false => rw [e] at q; cases q
      rw [q1] at q
      have q2 : isIntD d2 = true := q
      have t1 : isTupD d1 = true := by
        cases d1 <;> first | rfl | cases q1
      obtain ⟨b, ys, ss, rfl, rfl, hb, hbp⟩ := dp_ofTup h1 t1
      obtain ⟨z, rfl, rfl⟩ := dp_ofInt h2 q2
      have q3 : (ss.all isIntD && (ss.map intD).any fun z => decide (z ≠ 0)) = true := q1
      have q4 : ss.all isIntD = true := by
        cases e : ss.all isIntD with
        | true => rfl
        | false => rw [e] at q3; cases q3
      rw [q4] at q3
      obtain ⟨e1, e2⟩ := dpa_ints hbp fun i d e => List.all_eq_true.mp q4 d (List.mem_of_getElem? e)
      rw [e1] at hb
      exact ⟨⟨a, _, rfl, hs, b, rfl, hb⟩, q3⟩
    · rw [questD_two l] at q
      cases q
theorem bookD_two {ds : List PyData} (l : ds.length ≠ 2) : bookD (.tuple ds) = false := by
  match ds, l with
  | [], _ => rfl
  | [_], _ => rfl
  | [_, _], l => exact absurd rfl l
  | _ :: _ :: _ :: _, _ => rfl
theorem bookD_not {d : PyData} (h : isTupD d = false) : bookD d = false := by
  cases d <;> first | rfl | cases h
theorem bookD_at (d1 d2 : PyData) : bookD (.tuple [d1, d2]) = (manyD d1 && (isTupD d2 && ((partD d2).all (questOfD (intD d1)) && decide ((((partD d2).map quD).map nfU).Nodup)))) := rfl
theorem nodup_snoc {α : Type} {l : List α} {a : α} : (l ++ [a]).Nodup ↔ l.Nodup ∧ a ∉ l := by
  rw [List.nodup_append]
  constructor
  · rintro ⟨h1, _, h3⟩
    exact ⟨h1, fun z => h3 a z a (List.mem_singleton.mpr rfl) rfl⟩
  · rintro ⟨h1, h2⟩
    refine ⟨h1, by simp, fun b hb c hc e => ?_⟩
    rw [List.mem_singleton.mp hc] at e
    rw [e] at hb
    exact h2 hb
section
variable {P : Program} {w : World} {K : PySem.W.Frag} {mg : Str → Option Value} {base : Heap}
def spBookD (K : PySem.W.Frag) : Sp := fun vs H Q _ => ∃ x d, vs = [x] ∧ Dp K H x d ∧ SmallD d ∧ ∀ H', Gr H H' → Q (.bl (bookD d)) H'
end
end SB
namespace SG
open PySem PySem.Spec PyProof.Rows L2 PpSet
section
variable {P : Program} {w : World} {κ : Type} [DecidableEq κ] {kd : Kd P w κ} {A : Around} {E : Value → Shared → Prop} {s : Shared} {a : Addr} {L : List (Addr × κ)} {es : Array (Int × Value)} {ep : Nat} {t : SetTable}
theorem sr_lookup (R : SR kd s.heap a L es ep t) {x : Addr} {k : κ} (hx : kd.is s.heap k x) (hu : A.units + 8 < cLine) {Q : Option Nat → Shared → Prop} (q : ∀ r : Option Nat, (r.isSome = true ↔ k ∈ L.map (·.2)) → Q r s) :
    wpAny (model P w) A (setFind a (.ref x) (kd.hash k)) Q E s := by
  obtain ⟨o, ho, hex, hd⟩ := R.ob
  unfold setFind
  rw [show (100000 : Nat) = 99999 + 1 from rfl, setFindIn]
  refine wpAny_bind (wpAny_setState_of ho hd R.fits ?_)
  dsimp only
  refine wp_if_neg (by simp [byScan, Value.scannable]) ?_
  try refine wpAny_bind (wpAny_pure ?_)
  refine wpAny_bind (sr_find R false hx hu (fun i hm => ?_) fun K hm hK hb => ?_)
  · unfold met
    dsimp only
    exact wpAny_pure (q _ ⟨fun _ => hm, fun _ => rfl⟩)
  · dsimp only
    exact wpAny_pure (q none ⟨fun z => (by cases z), fun z => absurd z hm⟩)
theorem sr_notin (R : SR kd s.heap a L es ep t) {x : Addr} {k : κ} (hx : kd.is s.heap k x) (hu : A.units + 16 < cLine) {Q : Value → Shared → Prop}
    (h : Q (.bool (!decide (k ∈ L.map (·.2)))) { s with toks := s.toks + kd.draws k }) : wpAny (model P w) A (compareOp .NotIn (.ref x) (.ref a)) Q E s := by
  have hT : s.TypeIs (.ref a) "set" := by
    obtain ⟨o, ho, hex, _⟩ := R.ob
    exact ⟨o, ho, hex.1⟩
  show wpAny _ _ (do return .bool (!(← contains (.ref a) (.ref x)))) Q E s
  refine wpAny_bind ?_
  unfold contains
  try with_reducible refine wpAny_holding ?_
  refine wpAny_bind (wpAny_specialOf hT F.slot_set_contains.lookup ?_)
  show wpAny _ _ (if (some (Value.builtin "set.__contains__") == some Value.none) = true then _ else _) _ E s
  rw [if_neg (by rw [beq_builtin_none]; exact Bool.false_ne_true)]
  refine wpAny_bind (wpAny_callSpecialUnlessNone?_slot (name := Str.ofString "__contains__") hT F.slot_set_contains
    (wpAny_call_entry F.slot_set_contains hT entry_set_contains ?_ (F.args_set_contains_2 _ _)))
  unfold Builtin.«frozenset.__contains__» Builtin.Frozenset.oneOther
  simp only [List.isEmpty_nil, bind_assoc]
  unfold Builtin.Frozenset.addrOf Builtin.Frozenset.withSetAsKey setContains
  refine wpAny_bind (wpAny_pure ?_)
  try dsimp only
  refine wpAny_bind (wpAny_pure ?_)
  try dsimp only
  refine wpAny_bind (wpAny_tryCatch ?_)
  refine wpAny_holding ?_
  have hu1 : ∀ n, n ≤ 4 → A.units + n + 8 < cLine := fun n hn => by omega
  refine wpAny_bind (kd.pyH (by first | exact hu1 0 (by decide) | exact hu1 1 (by decide) | exact hu1 2 (by decide) | (show A.units + 1 + 8 < cLine; omega) | (show A.units + 1 + 1 + 8 < cLine; omega)) hx ?_)
  refine wpAny_bind (sr_lookup (s := { s with toks := s.toks + kd.draws k }) R hx (by first | exact hu1 0 (by decide) | exact hu1 1 (by decide) | exact hu1 2 (by decide) | (show A.units + 1 + 8 < cLine; omega) | (show A.units + 1 + 1 + 8 < cLine; omega)) fun r hr => ?_)
  refine wpAny_pure ?_
  show wpAny _ _ (ret (Value.bool r.isSome)) _ _ _
  have e : r.isSome = decide (k ∈ L.map (·.2)) := by
    by_cases c : k ∈ L.map (·.2)
    · rw [hr.mpr c, decide_eq_true c]
    · rw [decide_eq_false c, Bool.eq_false_iff]
      exact fun z => c (hr.mp z)
  rw [e]
  exact wpAny_pure ⟨_, rfl, wpAny_truthy_bool (wpAny_pure h)⟩
end
end SG
namespace SG
open PySem PySem.Spec PyProof.Rows L2 PpSet
section
variable {X : Cx}
theorem dec_iff {p : Prop} {i : Decidable p} : (@decide p i) = true ↔ p := @decide_eq_true_iff p i
/-- form not in seen -/
def rSNotG (P : Program) (w : World) (K : PySem.W.Frag) : V → V → Hp → VK → Prop := fun x y H Q => ∃ (b D : Addr) (k : Fm) (L : List (Addr × Fm)), x = V.ref b ∧ y = V.ref D ∧ VF K H b k ∧ H D = some (SetGO P w D L) ∧ (∀ p ∈ L, VF K H p.1 p.2) ∧ (k ∈ L.map (·.2) → Q (.bl false) H) ∧ (k ∉ L.map (·.2) → Q (.bl true) H)
theorem or_notinG (hu : X.A.units + 64 < cLine) : OpR X (compareOp .NotIn) (rSNotG X.prog X.w X.K) := by
  intro pins s σ H x y v u Q I rx ry h
  obtain ⟨b, D, k, L, rfl, rfl, hb, hD, hm, q1, q2⟩ := h
  cases rx
  cases ry
  obtain ⟨es, ep, t, R⟩ := (show ObjOk X.prog X.w H s.heap D (SetGO X.prog X.w D L) from I.hok D _ hD).1
  have f : ∀ bb : Bool, (bb = true ↔ k ∈ L.map (·.2)) → Q (.bl (!bb)) H := fun bb e => by
    cases bb with
    | true => exact q1 (e.mp rfl)
    | false =>
      exact q2 fun z => by
        have := e.mpr z
        cases this
  exact sr_notin (R.sr fun p hp => vf_is I (hm p hp)) (vf_is I hb) (by omega) ⟨.bl _, H, I.tok _, rfl, f _ dec_iff⟩
/-- set() -/
def rSet0G (P : Program) (w : World) : List V → Hp → VK → Prop := fun xs H Q => xs = [] ∧ ∀ p, H p = none → Q (.ref p) (upd H p (SetGO P w p []))
theorem cr_set0G : CallR X (.type "set") (rSet0G X.prog X.w) := by
  intro pins s σ H xs us Q I r h
  obtain ⟨rfl, q⟩ := h
  cases r
  refine setR_new fun _ => ?_
  have new : S0 X.prog X.w (s.heap.push { cls := .type "set", dict := none, data := .set #[] 0 (.fresh 0 0 (!X.w.params.followText "set-order")) }) s.heap.objs.size [] #[] 0 (.fresh 0 0 (!X.w.params.followText "set-order")) :=
    (sr_fresh (kd := KF X.prog X.w) (Heap.get?_push_size _ rfl)).s0
  exact ⟨.ref _, upd H s.heap.objs.size (SetGO X.prog X.w s.heap.objs.size []), I.laid (t' := s.toks) (fun b u e => Heap.get?_push_of_some _ e) (Nat.le_refl _) (setGO_ok new), rfl, q _ (I.hok.fresh (Nat.le_refl _))⟩
/-- seen.add(form) -/
def rSAddG (P : Program) (w : World) (K : PySem.W.Frag) : V → List V → Hp → VK → Prop := fun x xs H Q => ∃ (b D : Addr) (k : Fm) (L : List (Addr × Fm)), x = V.ref D ∧ xs = [.ref b] ∧ VF K H b k ∧ H D = some (SetGO P w D L) ∧ (∀ p ∈ L, VF K H p.1 p.2) ∧ L.length + 1 < 64 ∧
  ∀ L', (k ∈ L.map (·.2) → L' = L) → (k ∉ L.map (·.2) → L'.Perm ((b, k) :: L)) → Q .non (upd H D (SetGO P w D L'))
theorem mt_saddG (hu : X.A.units + 64 < cLine) : MtR X "set.add" (rSAddG X.prog X.w X.K) := by
  intro pins s σ H x xs v us Q I rx rxs h
  obtain ⟨b, D, k, L, rfl, rfl, hb, hD, hm, few, q⟩ := h
  cases rx
  cases rxs with
  | cons ry rt =>
    cases rt
    cases ry
    exact addG_ok hu I hD hb hm few fun L' s' e1 e2 I' => ⟨.non, _, I', rfl, q L' e1 e2⟩
end
end SG
namespace SG
open PySem PySem.Spec PyProof.Rows L2 PpSet
section
variable {X : Cx}
def tSAddG (P : Program) (w : World) (K : PySem.W.Frag) (to : TE) (t : TA) : TE := fun σ H Q => to σ H fun x H1 => (∃ a L, x = V.ref a ∧ H1 a = some (SetGO P w a L)) ∧ t σ H1 fun xs H2 => rSAddG P w K x xs H2 Q
variable {o e : Expr} {es : List Expr} {to : TE} {t : TA} {apos cpos : Pos}
theorem pe_saddG (hu : X.A.units + 64 < cLine) (ho : PE X o to) (ha : PA X (e :: es) t)
    (hbase : attributeBase o "add" X.env (eval o X.env) = eval o X.env := by rfl)
    (hfew : ((backTo cpos (starEach (e :: es) X.env)).all (fun x => !x.1) && (backToKw cpos (keywordEach [] X.env)).all (fun x => x.1.isSome)
      && decide ((e :: es).length + ([] : List Keyword).length + (if ([] : List Keyword).isEmpty then 0 else 1) < 30)) = true := by rfl)
    (hline : (apos.endLine == cpos.line) = true := by rfl) (hs : starEach (e :: es) X.env = (false, eval e X.env) :: starEach es X.env := by rfl) (hplain : (backTo cpos (starEach es X.env)).any (·.1) = false := by rfl) :
    PE X (.Call (.Attribute o "add" apos) (e :: es) [] cpos) (tSAddG X.prog X.w X.K to t) := by
  refine ⟨fun pins s σ H Q I h => ?_⟩
  refine wpAny_Call_method_late hbase hfew hline rfl (thn (ho.run pins s σ H _ I h) fun v s1 ⟨x, H1, I1, r1, ty, q1⟩ => ?_)
  obtain ⟨a, L, rfl, hka⟩ := ty
  obtain ⟨es', ep, t', R⟩ := (show ObjOk X.prog X.w H1 s1.heap a (SetGO X.prog X.w a L) from I1.hok a _ hka).1
  obtain ⟨ob, hob, hex, _⟩ := R.ob
  cases r1
  refine ⟨"set", "set.add", F.plainAttrs_set, F.slot_set_add, F.type_set_add, ⟨ob, hob, hex.1⟩, (fun b eb => by cases eb; exact ⟨ob, hob, hex.2.1⟩), ?_⟩
  have hA := ha.run cpos pins s1 σ H1 _ I1 q1
  rw [hs] at hA ⊢
  refine Calls.callWith_builtin (by show (false || (backTo cpos (starEach es X.env)).any (·.1)) = false; rw [hplain] <;> rfl) (Calls.evalArgs_plain ?_)
  exact thn hA fun us s2 ⟨vs, H2, I2, r2, q2⟩ => mt_saddG hu pins s2 σ H2 (.ref a) vs (.ref a) us Q I2 rfl r2 q2
end
end SG
namespace L2
open PySem PySem.Spec PyProof.Rows
section
variable {X : Cx} {tg : Expr}
/-- a list or a tuple -/
def iSeq (K : PySem.W.Frag) (tl : TE) : TI := fun σ H R => tl σ H fun x H1 => ∃ a, x = .ref a ∧ (((∃ xs, SqL K H1 a xs) ∧ R (Itl K a) H1) ∨ ((∃ xs, SqT K H1 a xs) ∧ R (Itt K a) H1))
theorem pi_seq {l : Expr} {tl : TE} (hl : PE X l tl) : PI X tg l (iSeq X.K tl) := by
  refine ⟨fun pins s σ H R I h => ?_⟩
  refine thn (hl.run pins s σ H _ I h) fun v s1 ⟨x, H1, I1, r1, q1⟩ => ?_
  obtain ⟨a, e, q1⟩ := q1
  subst e
  cases r1
  rcases q1 with ⟨⟨xs, hq⟩, q⟩ | ⟨⟨xs, hq⟩, q⟩
  · obtain ⟨its, rv, p, hz⟩ := I1.list hq
    refine wpAny_pyIter_list p.isList ?_
    refine ⟨s1.heap.objs.size, [s1.heap.objs.size], _, _, H1, rfl, I1.kept (t' := s1.toks) fun b o e => Heap.get?_push_of_some _ e, turn_list a _, ⟨_, Heap.get?_push_size _ rfl, rfl, rfl⟩, fun b hb => ?_, q⟩
    have e : b = s1.heap.objs.size := by simpa using hb
    subst e
    exact I1.fpOk (Nat.le_refl _) (I1.hok.fresh (Nat.le_refl _))
  · obtain ⟨its, rv, p, hz⟩ := I1.tuple hq
    refine wpAny_pyIter_tuple (show s1.heap.IsTuple a its.toArray from p) ?_
    refine ⟨s1.heap.objs.size, [s1.heap.objs.size], _, _, H1, rfl, I1.kept (t' := s1.toks) fun b o e => Heap.get?_push_of_some _ e, turn_tuple a _, ⟨_, Heap.get?_push_size _ rfl, rfl, rfl⟩, fun b hb => ?_, q⟩
    have e : b = s1.heap.objs.size := by simpa using hb
    subst e
    exact I1.fpOk (Nat.le_refl _) (I1.hok.fresh (Nat.le_refl _))
end
end L2
namespace SB
open PySem L2 GxR GA RZ SG PpSet
theorem bootSetB : bootBuiltins "set" = some (.type "set") := by decide +kernel
theorem paired_join {α β : Type} {F : α → β → Prop} : ∀ {a c : List α} {b d : List β}, Paired F a b → Paired F c d → Paired F (a ++ c) (b ++ d)
  | _, _, _, _, .nil, q => q
  | _, _, _, _, .cons h t, q => .cons h (paired_join t q)
/-- those left that are new -/
def keptU (qs : List (List Int × Int)) : List (List Int × Int) := qs.foldl (fun acc q => if nfU q ∈ acc.map nfU then acc else acc ++ [q]) []
theorem kept_snoc (qs : List (List Int × Int)) (q : List Int × Int) : keptU (qs ++ [q]) = if nfU q ∈ (keptU qs).map nfU then keptU qs else keptU qs ++ [q] := by
  unfold keptU
  rw [List.foldl_append]
  rfl
section
variable {P : Program} {w : World} {K : PySem.W.Frag} {mg : Str → Option Value} {base : Heap}
def spMade (K : PySem.W.Frag) : Sp := fun vs H Q _ => ∃ n a xs qs, vs = [.int ((n : Nat) : Int), .ref a] ∧ (SqL K H a xs ∨ SqT K H a xs) ∧ Paired (QuV K H) xs qs ∧ (∀ q, q ∈ qs → QOk q ∧ q.1.length ≤ 8) ∧ qs.length ≤ 60 ∧ ∀ v H', Gr H H' → BkV K H' v n ((keptU qs).map divU) → Q v H'
theorem sc_made : FnScope ["d", "questions", "seen", "kept", "question", "form"] ["d", "questions"] (defScope s_made_book) := ⟨rfl, rfl, rfl, by decide +kernel, rfl, by decide +kernel, by decide +kernel⟩
theorem cl_made (D : Df K mg "made_book" s_made_book) (B : Blt mg) (ms : mg "set" = none) (CN : Cl P w K mg base 35 "nought_form" ["question"] (spNought K)) (CD : Cl P w K mg base 34 "divided" ["question"] (spDiv K)) : Cl P w K mg base 36 "made_book" ["d", "questions"] (spMade K) := by
  refine D.cl (fun _ _ _ _ _ _ us hl => match us, hl with | [_, _], _ => rfl) fun f fd F => F.ok sc_made (fun vs H Q E h => ?_) (fun cdv A outer s H vs Q E hr h => ?_)
  · obtain ⟨n, a, xs, qs, rfl, _⟩ := h
    rfl
  obtain ⟨n, a, xs, qs, rfl, hs, hp, hok, l60, hq⟩ := h
  refine ⟨_, (pss_cons (ps_set (i := 2) sc_made.nd rfl (.inl rfl) (pe_callTy0 cr_set0G rfl ms bootSetB))
    (pss_cons (ps_set (i := 3) sc_made.nd rfl (.inl rfl) (pe_lst pa_nil))
    (pss_cons (ps_for PassesOwn.never rfl (pi_seq (pv 1)) (pg_name (i := 4) sc_made.nd rfl (Or.inl rfl))
      (pss_cons (ps_set (i := 5) sc_made.nd rfl (.inl rfl) (pe_cl CN (hr.mono (by decide)) (pa_cons (pv 4) pa_nil)))
      (pss_one (ps_if (pt_cmpR (or_notinG hr.units) (pv 5) (pv 2) rfl)
        (pss_cons (ps_expr (pe_saddG hr.units (pv 2) (pa_cons (pv 5) pa_nil)))
        (pss_one (ps_expr (pe_bm PySem.F.plainAttrs_list PySem.F.slot_list_append PySem.F.type_list_append mt_append (pv 3) (pa_cons (pe_cl CD (hr.mono (by decide)) (pa_cons (pv 4) pa_nil)) pa_nil))))) pss_nil))))
    (pss_one (ps_ret (pe_tup (pa_cons (pv 0) (pa_cons (pe_callTy call_tuple_of rfl B.tup bootTup (pa_cons (pv 3) pa_nil)) pa_nil)))))))), ?_⟩
  have lx : xs.length = qs.length := paired_len hp
  refine ⟨rfl, fun S nS => ⟨szN (by show 0 ≤ 1000000; decide), fun D nD => ?_⟩⟩
  have gS : Gr H (upd H S (SetGO P w S [])) := (Gr.refl H).new nS _
  have neS : S ≠ D := fun e => by rw [← e, upd_same] at nD; cases nD
  have nD0 : H D = none := by rw [upd_ne (Ne.symm neS)] at nD; exact nD
  have g0 : Gr H (upd (upd H S (SetGO P w S [])) D (.lst [])) := gS.new nD _
  have eS : (upd (upd H S (SetGO P w S [])) D (.lst [])) S = some (SetGO P w S []) := by rw [upd_ne neS]; exact upd_same
  have eD : (upd (upd H S (SetGO P w S [])) D (.lst [])) D = some (.lst []) := upd_same
  refine ⟨_, rfl, a, rfl, ?_⟩
  let Pv : Nat → L2.St → Hp → Prop := fun i σ H1 => ∃ (L : List (Addr × Fm)) (zs : List V) (c4 c5 : Option V), σ = [some (.int ((n : Nat) : Int)), some (.ref a), some (.ref S), some (.ref D), c4, c5] ∧ Gr H H1 ∧ H1 S = some (SetGO P w S L) ∧ H1 D = some (.lst zs) ∧ L.length ≤ i ∧ (∀ p ∈ L, VF K H1 p.1 p.2) ∧ (∀ k, k ∈ L.map (·.2) ↔ k ∈ (keptU (qs.take i)).map nfU) ∧ Paired (QuV K H1) zs ((keptU (qs.take i)).map divU) ∧ (keptU (qs.take i)).length ≤ i
  have P0 : Pv 0 [some (.int ((n : Nat) : Int)), some (.ref a), some (.ref S), some (.ref D), none, none] (upd (upd H S (SetGO P w S [])) D (.lst [])) := ⟨[], [], _, _, rfl, g0, eS, eD, Nat.le_refl _, fun p h => by simp at h, fun k => by simp [keptU], .nil, Nat.le_refl _⟩
  have keep : ∀ i σ H1, Pv i σ H1 → Gr H H1 := fun i σ H1 h => by
    obtain ⟨L, zs, c4, c5, rfl, g, _⟩ := h
    exact g
  rcases hs with hs | hs
  · refine .inl ⟨⟨xs, g0.seqL hs⟩, for_list (xs := xs) Pv P0 (fun i σ H1 _ h => (keep i σ H1 h).seqL hs) (fun i x σ H1 hx h => ?_) (fun σ H1 h => ?_)⟩
    · obtain ⟨L, zs, c4, c5, rfl, g, hS, hD, lL, hv, hk, hpz, lk⟩ := h
      obtain ⟨q, eq, hn⟩ := paired_get hp hx
      have iq := (List.getElem?_eq_some_iff.mp eq).1
      obtain ⟨qo, q8⟩ := hok q (List.mem_of_getElem? eq)
      have tk : keptU (qs.take (i + 1)) = if nfU q ∈ (keptU (qs.take i)).map nfU then keptU (qs.take i) else keptU (qs.take i) ++ [q] := by
        rw [List.take_add_one, eq, Option.toList_some, kept_snoc]
      refine ⟨_, rfl, x, q, rfl, hn.gr g, qo, q8, fun fa H2 g2 vf => ?_⟩
      have hS2 : H2 S = some (SetGO P w S L) := g2.keep S _ (fun _ z => by unfold SetGO at z; cases z) hS
      have hD2 : H2 D = some (.lst zs) := g2.keep D (.lst zs) (fun _ z => nomatch z) hD
      have hv2 : ∀ p ∈ L, VF K H2 p.1 p.2 := fun p h => vf_st (hv p h) g2.st
      have hp2 : Paired (QuV K H2) zs ((keptU (qs.take i)).map divU) := Paired.mapP hpz fun _ _ z => QuV.gr z g2
      refine ⟨_, rfl, _, rfl, fa, S, nfU q, L, rfl, rfl, vf, hS2, hv2, fun hin => ?_, fun hout => ?_⟩
      · refine ⟨_, rfl, iteF ?_⟩
        rw [hk] at hin
        rw [if_pos hin] at tk
        exact ⟨L, zs, _, _, rfl, g.trans g2, hS2, hD2, by omega, hv2, fun k => by rw [tk]; exact hk k, by rw [tk]; exact hp2, by rw [tk]; omega⟩
      · refine ⟨_, rfl, iteT ⟨_, rfl, ⟨S, L, rfl, hS2⟩, _, rfl, fa, S, nfU q, L, rfl, rfl, vf, hS2, hv2, by omega, fun L' e1 e2 => ?_⟩⟩
        have pm := e2 hout
        have tp : Tst K H2 (upd H2 S (SetGO P w S L')) := Tst.put2 hS2 (fun _ z => by unfold SetGO at z; cases z) (fun _ _ z => by unfold SetGO at z; cases z)
        have gS3 : Gr H (upd H2 S (SetGO P w S L')) := (((g.trans g2).d S).set _).to nS
        have hD3 : (upd H2 S (SetGO P w S L')) D = some (.lst zs) := by rw [upd_ne (Ne.symm neS)]; exact hD2
        have hS3 : (upd H2 S (SetGO P w S L')) S = some (SetGO P w S L') := upd_same
        rw [hk] at hout
        rw [if_neg hout] at tk
        refine ⟨_, rfl, .inl ⟨rfl, _, SqL.of hD3⟩, _, rfl, x, q, rfl, hn.gr gS3, qo.nz, q8, fun v3 H4 g4 hv3 => ?_⟩
        have hD4 : H4 D = some (.lst zs) := g4.keep D (.lst zs) (fun _ z => nomatch z) hD3
        have hS4 : H4 S = some (SetGO P w S L') := g4.keep S _ (fun _ z => by unfold SetGO at z; cases z) hS3
        have t9 : Tst K H4 (upd H4 D (.lst (zs ++ [v3]))) := Tst.put hD4
        have lz : zs.length = (keptU (qs.take i)).length := by rw [paired_len hpz, List.length_map]
        refine ⟨D, _, _, rfl, rfl, hD4, small1000 (by omega), L', zs ++ [v3], _, _, rfl, (((gS3.trans g4).d D).set _).to nD0, by rw [upd_ne neS]; exact hS4, upd_same, by rw [pm.length_eq, List.length_cons]; omega, fun p hp' => ?_, fun k => ?_, ?_, by rw [tk, List.length_append]; show _ + 1 ≤ i + 1; omega⟩
        · rcases List.mem_cons.mp (pm.mem_iff.mp hp') with rfl | hp3
          · exact vf_st (vf_st (vf_st vf tp) g4.st) t9
          · exact vf_st (vf_st (vf_st (hv2 p hp3) tp) g4.st) t9
        · have e3 : k ∈ L'.map (·.2) ↔ k = nfU q ∨ k ∈ L.map (·.2) := by
            rw [(pm.map _).mem_iff, List.map_cons, List.mem_cons]
          rw [e3, hk k, tk, List.map_append, List.mem_append, List.map_singleton, List.mem_singleton]
          exact Or.comm
        · rw [tk, List.map_append]
          exact paired_join (Paired.mapP hp2 fun _ _ z => QuV.st z (tp.trans (g4.st.trans t9))) (.cons (hv3.st t9) .nil)
    · obtain ⟨L, zs, c4, c5, rfl, g, hS, hD, lL, hv, hk, hpz, lk⟩ := h
      rw [lx, List.take_length] at hpz
      refine ⟨_, rfl, _, rfl, D, _, rfl, .inl ⟨SqL.of hD, fun p1 n1 => ⟨szN (by show 2 ≤ 1000000; decide), fun p2 n2 => ?_⟩⟩⟩
      have k1 := (Gr.refl H1).new n1 (.tup zs)
      have k2 := k1.new n2 (.tup [.int ((n : Nat) : Int), .ref p1])
      exact hq _ _ (g.trans k2) ⟨p2, p1, zs, rfl, SqT.of upd_same, ((Gr.refl _).new n2 _).seqT (SqT.of upd_same), Paired.mapP hpz fun _ _ z => QuV.gr z k2⟩
  · refine .inr ⟨⟨xs, g0.seqT hs⟩, for_tup (xs := xs) Pv P0 (fun i σ H1 _ h => (keep i σ H1 h).seqT hs) (fun i x σ H1 hx h => ?_) (fun σ H1 h => ?_)⟩
    · obtain ⟨L, zs, c4, c5, rfl, g, hS, hD, lL, hv, hk, hpz, lk⟩ := h
      obtain ⟨q, eq, hn⟩ := paired_get hp hx
      have iq := (List.getElem?_eq_some_iff.mp eq).1
      obtain ⟨qo, q8⟩ := hok q (List.mem_of_getElem? eq)
      have tk : keptU (qs.take (i + 1)) = if nfU q ∈ (keptU (qs.take i)).map nfU then keptU (qs.take i) else keptU (qs.take i) ++ [q] := by
        rw [List.take_add_one, eq, Option.toList_some, kept_snoc]
      refine ⟨_, rfl, x, q, rfl, hn.gr g, qo, q8, fun fa H2 g2 vf => ?_⟩
      have hS2 : H2 S = some (SetGO P w S L) := g2.keep S _ (fun _ z => by unfold SetGO at z; cases z) hS
      have hD2 : H2 D = some (.lst zs) := g2.keep D (.lst zs) (fun _ z => nomatch z) hD
      have hv2 : ∀ p ∈ L, VF K H2 p.1 p.2 := fun p h => vf_st (hv p h) g2.st
      have hp2 : Paired (QuV K H2) zs ((keptU (qs.take i)).map divU) := Paired.mapP hpz fun _ _ z => QuV.gr z g2
      refine ⟨_, rfl, _, rfl, fa, S, nfU q, L, rfl, rfl, vf, hS2, hv2, fun hin => ?_, fun hout => ?_⟩
      · refine ⟨_, rfl, iteF ?_⟩
        rw [hk] at hin
        rw [if_pos hin] at tk
        exact ⟨L, zs, _, _, rfl, g.trans g2, hS2, hD2, by omega, hv2, fun k => by rw [tk]; exact hk k, by rw [tk]; exact hp2, by rw [tk]; omega⟩
      · refine ⟨_, rfl, iteT ⟨_, rfl, ⟨S, L, rfl, hS2⟩, _, rfl, fa, S, nfU q, L, rfl, rfl, vf, hS2, hv2, by omega, fun L' e1 e2 => ?_⟩⟩
        have pm := e2 hout
        have tp : Tst K H2 (upd H2 S (SetGO P w S L')) := Tst.put2 hS2 (fun _ z => by unfold SetGO at z; cases z) (fun _ _ z => by unfold SetGO at z; cases z)
        have gS3 : Gr H (upd H2 S (SetGO P w S L')) := (((g.trans g2).d S).set _).to nS
        have hD3 : (upd H2 S (SetGO P w S L')) D = some (.lst zs) := by rw [upd_ne (Ne.symm neS)]; exact hD2
        have hS3 : (upd H2 S (SetGO P w S L')) S = some (SetGO P w S L') := upd_same
        rw [hk] at hout
        rw [if_neg hout] at tk
        refine ⟨_, rfl, .inl ⟨rfl, _, SqL.of hD3⟩, _, rfl, x, q, rfl, hn.gr gS3, qo.nz, q8, fun v3 H4 g4 hv3 => ?_⟩
        have hD4 : H4 D = some (.lst zs) := g4.keep D (.lst zs) (fun _ z => nomatch z) hD3
        have hS4 : H4 S = some (SetGO P w S L') := g4.keep S _ (fun _ z => by unfold SetGO at z; cases z) hS3
        have t9 : Tst K H4 (upd H4 D (.lst (zs ++ [v3]))) := Tst.put hD4
        have lz : zs.length = (keptU (qs.take i)).length := by rw [paired_len hpz, List.length_map]
        refine ⟨D, _, _, rfl, rfl, hD4, small1000 (by omega), L', zs ++ [v3], _, _, rfl, (((gS3.trans g4).d D).set _).to nD0, by rw [upd_ne neS]; exact hS4, upd_same, by rw [pm.length_eq, List.length_cons]; omega, fun p hp' => ?_, fun k => ?_, ?_, by rw [tk, List.length_append]; show _ + 1 ≤ i + 1; omega⟩
        · rcases List.mem_cons.mp (pm.mem_iff.mp hp') with rfl | hp3
          · exact vf_st (vf_st (vf_st vf tp) g4.st) t9
          · exact vf_st (vf_st (vf_st (hv2 p hp3) tp) g4.st) t9
        · have e3 : k ∈ L'.map (·.2) ↔ k = nfU q ∨ k ∈ L.map (·.2) := by
            rw [(pm.map _).mem_iff, List.map_cons, List.mem_cons]
          rw [e3, hk k, tk, List.map_append, List.mem_append, List.map_singleton, List.mem_singleton]
          exact Or.comm
        · rw [tk, List.map_append]
          exact paired_join (Paired.mapP hp2 fun _ _ z => QuV.st z (tp.trans (g4.st.trans t9))) (.cons (hv3.st t9) .nil)
    · obtain ⟨L, zs, c4, c5, rfl, g, hS, hD, lL, hv, hk, hpz, lk⟩ := h
      rw [lx, List.take_length] at hpz
      refine ⟨_, rfl, _, rfl, D, _, rfl, .inl ⟨SqL.of hD, fun p1 n1 => ⟨szN (by show 2 ≤ 1000000; decide), fun p2 n2 => ?_⟩⟩⟩
      have k1 := (Gr.refl H1).new n1 (.tup zs)
      have k2 := k1.new n2 (.tup [.int ((n : Nat) : Int), .ref p1])
      exact hq _ _ (g.trans k2) ⟨p2, p1, zs, rfl, SqT.of upd_same, ((Gr.refl _).new n2 _).seqT (SqT.of upd_same), Paired.mapP hpz fun _ _ z => QuV.gr z k2⟩
end
end SB
namespace SB
open PySem L2 GxR GA RZ
theorem nf_div {q : List Int × Int} (h : QOk q) : nfU (divU q) = nfU q := by
  have g0 := nonZ_g h.nz
  refine nf_same h.div h (u := 1) (v := ((gcdL (q.1 ++ [q.2]) : Nat) : Int)) (by decide) (by omega) ?_
  rw [scU_divU]
  unfold scU
  refine Prod.ext ?_ (Int.one_mul _).symm
  show q.1 = q.1.map fun z => 1 * z
  have : (fun z : Int => 1 * z) = id := funext fun z => Int.one_mul z
  rw [this, List.map_id]
theorem kept_sub : ∀ (qs : List (List Int × Int)) (q : List Int × Int), q ∈ keptU qs → q ∈ qs := fun qs => by
  have : ∀ (rs acc : List (List Int × Int)) (q : List Int × Int), q ∈ rs.foldl (fun acc q => if nfU q ∈ acc.map nfU then acc else acc ++ [q]) acc → q ∈ acc ∨ q ∈ rs := fun rs => by
    induction rs with
    | nil => exact fun acc q h => .inl h
    | cons r t ih =>
      intro acc q h
      rw [List.foldl_cons] at h
      rcases ih _ q h with z | z
      · split at z
        · exact .inl z
        · rcases List.mem_append.mp z with y | y
          · exact .inl y
          · rw [List.mem_singleton.mp y]
            exact .inr List.mem_cons_self
      · exact .inr (List.mem_cons_of_mem _ z)
  intro q h
  rcases this qs [] q h with z | z
  · simp at z
  · exact z
theorem kept_nd (qs : List (List Int × Int)) : ((keptU qs).map nfU).Nodup := by
  have : ∀ (rs acc : List (List Int × Int)), (acc.map nfU).Nodup → ((rs.foldl (fun acc q => if nfU q ∈ acc.map nfU then acc else acc ++ [q]) acc).map nfU).Nodup := fun rs => by
    induction rs with
    | nil => exact fun acc h => h
    | cons r t ih =>
      intro acc h
      rw [List.foldl_cons]
      refine ih _ ?_
      split
      · exact h
      · rename_i nin
        rw [List.map_append]
        exact nodup_snoc.mpr ⟨h, nin⟩
  exact this qs [] List.nodup_nil
theorem kept_len (qs : List (List Int × Int)) : (keptU qs).length ≤ qs.length := by
  have : ∀ (rs acc : List (List Int × Int)), (rs.foldl (fun acc q => if nfU q ∈ acc.map nfU then acc else acc ++ [q]) acc).length ≤ acc.length + rs.length := fun rs => by
    induction rs with
    | nil => exact fun acc => Nat.le_refl _
    | cons r t ih =>
      intro acc
      rw [List.foldl_cons]
      refine Nat.le_trans (ih _) ?_
      split
      · rw [List.length_cons]; omega
      · rw [List.length_append, List.length_cons, List.length_cons]; show acc.length + 1 + _ ≤ _; omega
  have := this qs []
  simpa [keptU] using this
/-- what is told is a book -/
theorem made_ok {n : Nat} {qs : List (List Int × Int)} (n1 : 1 ≤ n) (n8 : n ≤ 8) (h : ∀ q, q ∈ qs → QOk q ∧ q.1.length = n) (l8 : qs.length ≤ 8) : BOk n ((keptU qs).map divU) := by
  refine ⟨n1, n8, by rw [List.length_map]; exact Nat.le_trans (kept_len qs) l8, fun q hq => ?_, ?_⟩
  · obtain ⟨p, hp, rfl⟩ := List.mem_map.mp hq
    obtain ⟨po, pl⟩ := h p (kept_sub qs p hp)
    exact ⟨po.div, by show (List.map _ p.1).length = n; rw [List.length_map]; exact pl⟩
  · have : ((keptU qs).map divU).map nfU = (keptU qs).map nfU := by
      rw [List.map_map]
      exact List.map_congr_left fun q hq => nf_div (h q (kept_sub qs q hq)).1
    rw [this]
    exact kept_nd qs
/-- of a book made before it is the same -/
theorem kept_book {qs : List (List Int × Int)} (h : (qs.map nfU).Nodup) : keptU qs = qs := by
  have : ∀ (rs acc : List (List Int × Int)), ((acc ++ rs).map nfU).Nodup → rs.foldl (fun acc q => if nfU q ∈ acc.map nfU then acc else acc ++ [q]) acc = acc ++ rs := fun rs => by
    induction rs with
    | nil => intro acc _; simp
    | cons r t ih =>
      intro acc hn
      rw [List.foldl_cons, if_neg ?_, ih (acc ++ [r]) (by rw [List.append_assoc]; exact hn), List.append_assoc]
      · rfl
      · rw [List.map_append, List.nodup_append] at hn
        exact fun z => hn.2.2 _ z _ (List.mem_map.mpr ⟨r, List.mem_cons_self, rfl⟩) rfl
  exact this qs [] h
end SB
namespace SB
open PySem L2 GxR GA RZ
/-! ### powers of wide ints -/
def CPowW (i j : Int) : Prop := 0 ≤ j ∧ j ≤ 100 ∧ i.natAbs.log2 < 10000
theorem op_powW {X : Cx} : OpR X (binaryOp .Pow) (rI CPowW fun i j => .int (i ^ j.toNat)) := opI fun i j _ _ _ _ _ hc q => PyProof.Rows.pow_int hc.1 (by
  have b : (Builtin.Int.intBits i : Nat) ≤ i.natAbs.log2 + 1 := by
    unfold Builtin.Int.intBits
    split <;> omega
  have l := hc.2.2
  have h0 := hc.1
  have h1 := hc.2.1
  have h2 : ((Builtin.Int.intBits i : Nat) : Int) ≤ 10000 := by omega
  calc ((Builtin.Int.intBits i : Nat) : Int) * j ≤ 10000 * j := Int.mul_le_mul_of_nonneg_right h2 h0
    _ ≤ 10000 * 100 := Int.mul_le_mul_of_nonneg_left h1 (by decide)
    _ ≤ 2 ^ 27 := by decide) q
theorem wide_pow {i : Int} {a : Nat} {j : Int} (ha : i.natAbs < 2 ^ a) (h0 : 0 < a) (h : a ≤ 9000) (j0 : 0 ≤ j) (j1 : j ≤ 100) : CPowW i j := ⟨j0, j1, Nat.lt_of_lt_of_le (PySem.Flt.log2_lt_of h0 ha) (by omega)⟩
/-! ### the stock: what draws come from -/
def Stk (d : Addr) (m : Nat) (H : Hp) : Prop := ∃ a b c : Int, H d = some (.lst [.int a, .int b, .int c]) ∧ 0 ≤ b ∧ b < 2 ^ 94 ∧ 0 ≤ c ∧ c ≤ m
theorem Stk.more {d : Addr} {m k : Nat} {H : Hp} (h : Stk d m H) (l : m ≤ k) : Stk d k H := let ⟨a, b, c, e, h0, h1, h2, h3⟩ := h; ⟨a, b, c, e, h0, h1, h2, by omega⟩
theorem Stk.gr {d : Addr} {m : Nat} {H H' : Hp} (h : Stk d m H) (g : Gr H H') : Stk d m H' := let ⟨a, b, c, e, r⟩ := h; ⟨a, b, c, g.keep _ _ (fun _ z => nomatch z) e, r⟩
theorem Stk.ne {d p : Addr} {m : Nat} {H : Hp} (h : Stk d m H) (n : H p = none) : p ≠ d := fun e => by
  obtain ⟨a, b, c, z, _⟩ := h
  rw [← e, n] at z
  cases z
theorem Stk.off {d p : Addr} {m : Nat} {H : Hp} {o : HO} (h : Stk d m H) (n : p ≠ d) : Stk d m (upd H p o) := let ⟨a, b, c, e, r⟩ := h; ⟨a, b, c, by rw [upd_ne (Ne.symm n)]; exact e, r⟩
theorem GrD.sk {K : PySem.W.Frag} {d : Addr} {m : Nat} {H H' : Hp} (g : GrD d H H') (h : Stk d m H) : Tst K H H' := fun a xs q => by
  obtain ⟨u, v, c, e, _⟩ := h
  exact g.seqT e q
def spPick : Sp := fun vs H Q _ => ∃ (d : Addr) (many : Int) (m : Nat), vs = [.ref d, .int many] ∧ Stk d m H ∧ m ≤ 1000000 ∧ 1 ≤ many ∧ many.natAbs < 2 ^ 8000 ∧
  ∀ (t : Int) H', 0 ≤ t → t < many → GrD d H H' → Stk d (m + 1) H' → Q (.int t) H'

theorem GrDL.lst {d : Addr} {H H' : Hp} (g : GrD d H H') {a : Addr} {xs : List V} (n : a ≠ d) (h : H a = some (.lst xs)) : H' a = some (.lst xs) := g.keep a _ n (fun _ z => nomatch z) h
theorem Gr.lstK {H H' : Hp} (g : Gr H H') {a : Addr} {xs : List V} (h : H a = some (.lst xs)) : H' a = some (.lst xs) := g.keep a _ (fun _ z => nomatch z) h
theorem op_isB {X : Cx} : OpR X (compareOp .Is) (fun x y H Q => ∃ c d, x = .bl c ∧ y = .bl d ∧ Q (.bl (decide (c = d))) H) := by
  intro pins s σ H x y v u Q I rx ry h
  obtain ⟨c, d, rfl, rfl, q⟩ := h
  cases rx
  cases ry
  refine PyProof.Rows.is_bool ?_
  have e : (c == d) = decide (c = d) := by cases c <;> cases d <;> rfl
  rw [e]
  exact ⟨.bl _, H, I, rfl, q⟩
theorem all_true : ∀ {ys : List V}, (∀ (i : Nat) (y : V), ys[i]? = some y → y = .bl true) → ys = (List.replicate ys.length true).map V.bl
  | [], _ => rfl
  | y :: r, h => by
    have e := h 0 y rfl
    have t := all_true (ys := r) fun i y e => h (i + 1) y (by simpa using e)
    rw [List.length_cons, List.replicate_succ, List.map_cons, ← t, e]
theorem rep_all (n : Nat) : (List.replicate n true).all id = true := by
  rw [List.all_eq_true]
  intro x hx
  exact (List.mem_replicate.mp hx).2
end SB
namespace SB
open PySem L2 GxR GA RZ
/-! ### the well: what draws come from -/
def spWell (K : PySem.W.Frag) : Sp := fun vs H Q _ => ∃ (l : Addr) (ns : List Int) (k : Int), vs = [.ref l, .int k] ∧ SqL K H l (ns.map V.int) ∧ ns.length ≤ 63 ∧ 0 ≤ k ∧ k < 1000 ∧
  ∀ (p : Addr) (a b : Int), H p = none → 0 ≤ b → b < 2 ^ 94 → Q (.ref p) (upd H p (.lst [.int a, .int b, .int 0]))
section
variable {P : Program} {w : World} {K : PySem.W.Frag} {mg : Str → Option Value} {base : Heap}
theorem sc_well : FnScope ["script", "place", "cell"] ["script", "place"] (defScope s__law_well) := ⟨rfl, rfl, rfl, by decide +kernel, rfl, by decide +kernel, by decide +kernel⟩
theorem cl_well (D : Df K mg "_law_well" s__law_well) (B : Blt mg) : Cl P w K mg base 1 "_law_well" ["script", "place"] (spWell K) := by
  refine D.cl (fun _ _ _ _ _ _ us hl => match us, hl with | [_, _], _ => rfl) fun f fd F => F.ok sc_well (fun vs H Q E h => ?_) (fun cdv A outer s H vs Q E hr h => ?_)
  · obtain ⟨l, ns, k, rfl, _⟩ := h
    rfl
  obtain ⟨l, ns, k, rfl, hS, h63, h0, h1, q⟩ := h
  refine ⟨_, (pss_cons (ps_set (i := 2) sc_well.nd rfl (.inl rfl) (pe_ifExp (pt_cmpR op_lt (pv 1) (pe_len (pv 0) B.len) (nomark _)) (pe_callTy call_int1 rfl B.int PyProof.Rows.boot_int (pa_cons (pe_ix ix_list (pv 0) (pv 1) (fun _ _ => rfl)) pa_nil)) (pe_op op_add (pe_op op_mul (pv 1) pe_int) (pe_op op_mul (pe_len (pv 0) B.len) pe_int))))
    (pss_one (ps_ret (pe_lst (pa_cons (pe_callB (call_max2 rfl) rfl B.max PyProof.Rows.boot_max (pa_cons pe_int (pa_cons (pe_op op_sub (pe_callB call_abs rfl B.abs PyProof.Rows.boot_abs (pa_cons (pv 2) pa_nil)) (pe_op op_pow pe_int pe_int)) pa_nil))) (pa_cons (pe_op op_mod (pe_callTy call_int1 rfl B.int PyProof.Rows.boot_int (pa_cons (pe_op op_add (pe_op op_add (pe_op op_mul (pv 2) pe_int) (pe_op op_mul (pv 1) pe_int)) pe_int) pa_nil)) (pe_op op_add (pe_op op_pow pe_int pe_int) pe_int)) (pa_cons pe_int pa_nil))))))), ?_⟩
  have hl : (ns.map V.int).length = ns.length := List.length_map _
  have fin : ∀ z m : Int, ∀ p, H p = none → Q (.ref p) (upd H p (.lst [.int m, .int ((z * 86028157 + k * 179424691 + 7919) % (10 ^ (25 : Int).toNat + 13)), .int 0])) := fun z m p hp => q p _ _ hp (modB _ (by decide)).1 (Int.lt_trans (modB _ (by decide)).2 (by decide))
  refine ⟨_, rfl, _, rfl, l, _, rfl, .inl hS, _, _, rfl, rfl, _, rfl, ?_⟩
  refine ite2 (fun c => ?_) (fun c => ?_)
  · have c' : k < (((ns.map V.int).length : Nat) : Int) := of_decide_eq_true c
    rw [hl] at c'
    obtain ⟨z, hz⟩ := atL h0 c'
    refine ⟨_, rfl, _, rfl, l, _, _, _, rfl, rfl, hS, hz, .inl ⟨_, rfl, ?_⟩⟩
    refine ⟨_, rfl, _, rfl, _, _, rfl, rfl, ⟨by decide, by decide, by decide⟩, _, _, rfl, rfl, _, _, rfl, ?_⟩
    refine ⟨_, rfl, _, _, rfl, rfl, .inr ⟨by decide, by decide⟩, _, rfl, _, _, rfl, rfl, .inr ⟨by decide, by decide⟩, _, _, rfl, rfl, _, _, rfl, rfl, .inl ⟨_, rfl, _, _, rfl, rfl, ⟨by decide, by decide, by decide⟩, _, _, rfl, rfl, _, _, rfl, rfl, (by show (0 : Int) < _; decide), (by show 3 ≤ sizeLine; decide), fun p hp => fin z _ p hp⟩⟩
  · refine ⟨_, rfl, _, _, rfl, rfl, .inr (by decide), _, rfl, l, _, rfl, .inl hS, _, _, rfl, rfl, .inr (by decide), _, _, rfl, rfl, ?_⟩
    refine ⟨_, rfl, _, rfl, _, _, rfl, rfl, ⟨by decide, by decide, by decide⟩, _, _, rfl, rfl, _, _, rfl, ?_⟩
    refine ⟨_, rfl, _, _, rfl, rfl, .inr ⟨by decide, by decide⟩, _, rfl, _, _, rfl, rfl, .inr ⟨by decide, by decide⟩, _, _, rfl, rfl, _, _, rfl, rfl, .inl ⟨_, rfl, _, _, rfl, rfl, ⟨by decide, by decide, by decide⟩, _, _, rfl, rfl, _, _, rfl, rfl, (by show (0 : Int) < _; decide), (by show 3 ≤ sizeLine; decide), fun p hp => fin _ _ p hp⟩⟩
theorem sc_draw : FnScope ["well", "many", "found", "mixed"] ["well", "many"] (defScope s__law_draw) := ⟨rfl, rfl, rfl, by decide +kernel, rfl, by decide +kernel, by decide +kernel⟩
theorem cl_draw (D : Df K mg "_law_draw" s__law_draw) (B : Blt mg) : Cl P w K mg base 1 "_law_draw" ["well", "many"] spPick := by
  refine D.cl (fun _ _ _ _ _ _ us hl => match us, hl with | [_, _], _ => rfl) fun f fd F => F.ok sc_draw (fun vs H Q E h => ?_) (fun cdv A outer s H vs Q E hr h => ?_)
  · obtain ⟨d, many, m, rfl, _⟩ := h
    rfl
  obtain ⟨d, many, m, rfl, ⟨a, b, c, hd, hb0, hb1, hc0, hc1⟩, mm, m1, mb, q2⟩ := h
  have q : ∀ t a' c' : Int, 0 ≤ t → t < many → 0 ≤ c' → c' ≤ c + 1 → Q (.int t) (upd H d (.lst [.int a', .int b, .int c'])) := fun t a' c' t0 t1 h0 h1 => q2 t _ t0 t1 ((GrD.refl d H).set _) ⟨a', b, c', upd_same, hb0, hb1, h0, by omega⟩
  have hdL : SqL K H d [.int a, .int b, .int c] := SqL.of hd
  refine ⟨_, (pss_cons (ps_if (pt_cmpR op_gt (pe_ix ix_list (pv 0) pe_int (fun _ _ => rfl)) pe_int (nomark _)) (pss_cons (ps_set (i := 2) sc_draw.nd rfl (.inl rfl) (pe_op op_mod (pe_callTy call_int1 rfl B.int PyProof.Rows.boot_int (pa_cons (pe_ix ix_list (pv 0) pe_int (fun _ _ => rfl)) pa_nil)) (pv 1)))
      (pss_cons (ps_asg (pe_op op_fdivW (pe_ix ix_list (pv 0) pe_int (fun _ _ => rfl)) (pv 1)) (pg_sub (pv 0) pe_int set_list))
      (pss_one (ps_ret (pv 2))))) pss_nil)
    (pss_cons (ps_asg (pe_op op_add (pe_ix ix_list (pv 0) pe_int (fun _ _ => rfl)) pe_int) (pg_sub (pv 0) pe_int set_list))
    (pss_cons (ps_set (i := 3) sc_draw.nd rfl (.inl rfl) (pe_op op_mod (pe_callTy call_int1 rfl B.int PyProof.Rows.boot_int (pa_cons (pe_op op_powW (pe_op op_add (pe_ix ix_list (pv 0) pe_int (fun _ _ => rfl)) (pe_op op_mul pe_int (pe_ix ix_list (pv 0) pe_int (fun _ _ => rfl)))) pe_int) pa_nil)) (pe_op op_add (pe_op op_pow pe_int pe_int) pe_int)))
    (pss_cons (ps_set (i := 3) sc_draw.nd rfl (.inl rfl) (pe_op op_mod (pe_callTy call_int1 rfl B.int PyProof.Rows.boot_int (pa_cons (pe_op op_powW (pe_op op_add (pv 3) pe_int) pe_int) pa_nil)) (pe_op op_add (pe_op op_pow pe_int pe_int) pe_int)))
    (pss_one (ps_ret (pe_op op_mod (pe_callTy call_int1 rfl B.int PyProof.Rows.boot_int (pa_cons (pe_op op_fdivW (pv 3) (pe_op op_pow pe_int pe_int)) pa_nil)) (pv 1)))))))), ?_⟩
  have mw : CDivW 0 many := wide_div (b := 8000) (by omega) mb (by decide) (by decide)
  refine ⟨_, rfl, d, _, _, _, rfl, rfl, hdL, rfl, _, _, rfl, rfl, _, rfl, ?_⟩
  refine ite2 (fun c0 => ?_) (fun c0 => ?_)
  · refine ⟨_, rfl, d, _, _, _, rfl, rfl, hdL, rfl, .inl ⟨_, rfl, _, rfl, _, _, rfl, rfl, (by show (0 : Int) < many; omega), ?_⟩⟩
    refine ⟨_, rfl, d, _, _, _, rfl, rfl, hdL, rfl, _, rfl, _, _, rfl, rfl, mw, ?_⟩
    refine ⟨_, rfl, d, _, _, _, rfl, rfl, hd, rfl, _, rfl, ?_⟩
    obtain ⟨t0, t1⟩ := modB a (m := many) (by omega)
    exact q _ _ _ t0 t1 hc0 (by omega)
  · refine ⟨_, rfl, d, _, _, _, rfl, rfl, hdL, rfl, _, _, rfl, rfl, ?_⟩
    refine ⟨_, rfl, d, _, _, _, rfl, rfl, hd, rfl, ?_⟩
    refine ⟨_, rfl, d, _, _, _, rfl, rfl, SqL.of upd_same, rfl, _, rfl, d, _, _, _, rfl, rfl, SqL.of upd_same, rfl, _, _, rfl, rfl, .inl (by decide), _, _, rfl, rfl, _, _, rfl, rfl, wide_pow (a := 100) ?_ (by decide) (by decide) (by decide) (by decide), .inl ⟨_, rfl, _, _, rfl, rfl, ⟨by decide, by decide, by decide⟩, _, _, rfl, rfl, _, _, rfl, rfl, (by show (0 : Int) < _; decide), ?_⟩⟩
    · omega
    have u0 := (modB ((b + 49979693 * (c + 1)) ^ (3 : Int).toNat) (m := 10 ^ (29 : Int).toNat + 319) (by decide)).1
    have u1 := (modB ((b + 49979693 * (c + 1)) ^ (3 : Int).toNat) (m := 10 ^ (29 : Int).toNat + 319) (by decide)).2
    have u2 : (10 ^ (29 : Int).toNat + 319 : Int) < 2 ^ 98 := by decide
    refine ⟨_, rfl, _, _, rfl, rfl, _, _, rfl, rfl, wide_pow (a := 100) ?_ (by decide) (by decide) (by decide) (by decide), .inl ⟨_, rfl, _, _, rfl, rfl, ⟨by decide, by decide, by decide⟩, _, _, rfl, rfl, _, _, rfl, rfl, (by show (0 : Int) < _; decide), ?_⟩⟩
    · generalize (b + 49979693 * (c + 1)) ^ (3 : Int).toNat % (10 ^ (29 : Int).toNat + 319) = y at u0 u1
      omega
    refine ⟨_, rfl, _, _, rfl, rfl, ⟨by decide, by decide, by decide⟩, _, _, rfl, rfl, wide_div (b := 34) (by decide) (by decide) (by decide) (by decide), .inl ⟨_, rfl, _, rfl, _, _, rfl, rfl, (by show (0 : Int) < many; omega), ?_⟩⟩
    exact q _ _ _ (modB _ (by omega)).1 (modB _ (by omega)).2 (by omega) (by omega)
end
end SB
namespace SB
open PySem L2 GxR GA RZ
/-- a list of n things told one by one -/
theorem lc_rng {K : PySem.W.Frag} {lo : Int} {n : Nat} {g : TG} {te : TE} {vs : List Nat} {σ : L2.St} {H1 : Hp} {D : Addr} {Qd : Hp → Prop} (R : Nat → V → Hp → Prop) (hst : ∀ i y H H', R i y H → Tst K H H' → R i y H') (nD : H1 D = none) (hz : n ≤ 1000)
    (step : ∀ (i : Nat) H (Kc : VK), i < n → Gr H1 H → (∀ y H4, Gr H H4 → R i y H4 → Kc y H4) → g (.int (lo + i)) (wipe σ vs) H fun σ2 H2 => wipe σ2 vs = wipe σ vs ∧ te σ2 H2 Kc)
    (fin : ∀ ys H, H D = some (.lst ys) → ys.length = n → Gr H1 H → (∀ i y, ys[i]? = some y → R i y H) → Qd H) :
    ∃ W : Nat → Nat → Hp → Prop, (∃ m, W 0 m (upd H1 D (.lst []))) ∧ ∀ i m H, W i m H → ((Itr lo n).stop i H ∧ Qd H) ∨
      ((Itr lo n).go i H ∧ ∃ Nx : Hp → Prop, (∀ H', Nx H' → ∃ m', m' < m ∧ W (i + 1) m' H') ∧ ∀ x H', (Itr lo n).yld i H x H' → g x (wipe σ vs) H' fun σ2 H2 => wipe σ2 vs = wipe σ vs ∧ tYes σ2 H2 fun b H3 =>
        if b = true then te σ2 H3 fun y H4 => ∃ acc, H4 D = some (.lst acc) ∧ acc.length < sizeLine ∧ Nx (upd H4 D (.lst (acc ++ [y]))) else Nx H3) := by
  refine ⟨fun i m H => i + m = n ∧ ∃ ys, H D = some (.lst ys) ∧ ys.length = i ∧ GrD D H1 H ∧ ∀ j y, ys[j]? = some y → R j y H, ⟨n, Nat.zero_add _, [], upd_same, rfl, (GrD.refl D H1).set _, fun j y h => by simp at h⟩, fun i m H ⟨hm, ys, hD, hy, gr, hR⟩ => ?_⟩
  cases m with
  | zero => exact .inl ⟨(by show n ≤ i; omega), fin ys H hD (by omega) (gr.to nD) hR⟩
  | succ m =>
    refine .inr ⟨(by show i < n; omega), fun H' => ∃ ys, H' D = some (.lst ys) ∧ ys.length = i + 1 ∧ GrD D H1 H' ∧ ∀ j y, ys[j]? = some y → R j y H', fun H' h => ⟨m, Nat.lt_succ_self _, by omega, h⟩, fun x H' hyl => ?_⟩
    obtain ⟨rfl, rfl⟩ := hyl
    refine step i H' _ (by omega) (gr.to nD) fun y H4 g4 r4 => ?_
    have hD4 : H4 D = some (.lst ys) := g4.keep D _ (fun _ z => nomatch z) hD
    have tp : Tst K H4 (upd H4 D (.lst (ys ++ [y]))) := Tst.put hD4
    refine ⟨ys, hD4, small1000 (by omega), ys ++ [y], upd_same, by rw [List.length_append, hy]; rfl, (gr.trans (g4.d D)).set _, fun j z hz => ?_⟩
    by_cases hj : j < ys.length
    · rw [List.getElem?_append_left hj] at hz
      exact hst _ _ _ _ (hR j z hz) ((Gr.st g4).trans tp)
    · have hl := (List.getElem?_eq_some_iff.mp hz).1
      rw [List.length_append] at hl
      have hl : j < ys.length + 1 := hl
      have ej : j = ys.length := by omega
      subst ej
      rw [List.getElem?_append_right (Nat.le_refl _), Nat.sub_self] at hz
      cases hz
      rw [hy]
      exact hst _ _ _ _ r4 tp
/-- a list of n things drawn, c draws each -/
theorem lc_stkR {K : PySem.W.Frag} {d : Addr} {k c : Nat} {lo : Int} {n : Nat} {g : TG} {te : TE} {vs : List Nat} {σ : L2.St} {H1 : Hp} {D : Addr} {Qd : Hp → Prop} (R : Nat → V → Hp → Prop) (hst : ∀ i y H H', R i y H → Tst K H H' → R i y H') (nD : H1 D = none) (dk : Stk d k H1) (hz : n ≤ 1000)
    (step : ∀ (i : Nat) H (Kc : VK), i < n → GrD d H1 H → Stk d (k + c * i) H → (∀ y H4, GrD d H H4 → Stk d (k + c * i + c) H4 → R i y H4 → Kc y H4) → g (.int (lo + i)) (wipe σ vs) H fun σ2 H2 => wipe σ2 vs = wipe σ vs ∧ te σ2 H2 Kc)
    (fin : ∀ ys H, H D = some (.lst ys) → ys.length = n → GrD d H1 H → Stk d (k + c * n) H → (∀ i y, ys[i]? = some y → R i y H) → Qd H) :
    ∃ W : Nat → Nat → Hp → Prop, (∃ m, W 0 m (upd H1 D (.lst []))) ∧ ∀ i m H, W i m H → ((Itr lo n).stop i H ∧ Qd H) ∨
      ((Itr lo n).go i H ∧ ∃ Nx : Hp → Prop, (∀ H', Nx H' → ∃ m', m' < m ∧ W (i + 1) m' H') ∧ ∀ x H', (Itr lo n).yld i H x H' → g x (wipe σ vs) H' fun σ2 H2 => wipe σ2 vs = wipe σ vs ∧ tYes σ2 H2 fun b H3 =>
        if b = true then te σ2 H3 fun y H4 => ∃ acc, H4 D = some (.lst acc) ∧ acc.length < sizeLine ∧ Nx (upd H4 D (.lst (acc ++ [y]))) else Nx H3) := by
  have nd := dk.ne nD
  refine ⟨fun i m H => i + m = n ∧ ∃ ys, H D = some (.lst ys) ∧ ys.length = i ∧ GrD d H1 H ∧ Stk d (k + c * i) H ∧ ∀ j y, ys[j]? = some y → R j y H, ⟨n, Nat.zero_add _, [], upd_same, rfl, (GrD.refl d H1).put nD _, dk.off nd, fun j y h => by simp at h⟩, fun i m H ⟨hm, ys, hD, hy, gr, dk', hR⟩ => ?_⟩
  cases m with
  | zero =>
    have e : i = n := by omega
    subst e
    exact .inl ⟨(by show i ≤ i; omega), fin ys H hD (by omega) gr dk' hR⟩
  | succ m =>
    refine .inr ⟨(by show i < n; omega), fun H' => ∃ ys, H' D = some (.lst ys) ∧ ys.length = i + 1 ∧ GrD d H1 H' ∧ Stk d (k + c * (i + 1)) H' ∧ ∀ j y, ys[j]? = some y → R j y H', fun H' h => ⟨m, Nat.lt_succ_self _, by omega, h⟩, fun x H' hyl => ?_⟩
    obtain ⟨rfl, rfl⟩ := hyl
    refine step i H' _ (by omega) gr dk' fun y H4 g4 dk4 r4 => ?_
    have hD4 : H4 D = some (.lst ys) := g4.keep D _ nd (fun _ z => nomatch z) hD
    have tp : Tst K H4 (upd H4 D (.lst (ys ++ [y]))) := Tst.put hD4
    refine ⟨ys, hD4, small1000 (by omega), ys ++ [y], upd_same, by rw [List.length_append, hy]; rfl, (gr.trans g4).put nD _, (dk4.off nd).more (by rw [Nat.mul_succ]; omega), fun j z hz => ?_⟩
    by_cases hj : j < ys.length
    · rw [List.getElem?_append_left hj] at hz
      exact hst _ _ _ _ (hR j z hz) ((g4.sk dk').trans tp)
    · have hl := (List.getElem?_eq_some_iff.mp hz).1
      rw [List.length_append] at hl
      have hl : j < ys.length + 1 := hl
      have ej : j = ys.length := by omega
      subst ej
      rw [List.getElem?_append_right (Nat.le_refl _), Nat.sub_self] at hz
      cases hz
      rw [hy]
      exact hst _ _ _ _ r4 tp
/-- a list of n truths, each True -/
theorem lc_rngB {K : PySem.W.Frag} {lo : Int} {n : Nat} {g : TG} {te : TE} {vs : List Nat} {σ : L2.St} {H1 : Hp} {D : Addr} {Qd : Hp → Prop} (nD : H1 D = none) (hz : n ≤ sizeLine)
    (step : ∀ (i : Nat) H (Kc : VK), i < n → Gr H1 H → (∀ H4, Gr H H4 → Kc (.bl true) H4) → g (.int (lo + i)) (wipe σ vs) H fun σ2 H2 => wipe σ2 vs = wipe σ vs ∧ te σ2 H2 Kc)
    (fin : ∀ H, H D = some (.lst ((List.replicate n true).map V.bl)) → Gr H1 H → Qd H) :
    ∃ W : Nat → Nat → Hp → Prop, (∃ m, W 0 m (upd H1 D (.lst []))) ∧ ∀ i m H, W i m H → ((Itr lo n).stop i H ∧ Qd H) ∨
      ((Itr lo n).go i H ∧ ∃ Nx : Hp → Prop, (∀ H', Nx H' → ∃ m', m' < m ∧ W (i + 1) m' H') ∧ ∀ x H', (Itr lo n).yld i H x H' → g x (wipe σ vs) H' fun σ2 H2 => wipe σ2 vs = wipe σ vs ∧ tYes σ2 H2 fun b H3 =>
        if b = true then te σ2 H3 fun y H4 => ∃ acc, H4 D = some (.lst acc) ∧ acc.length < sizeLine ∧ Nx (upd H4 D (.lst (acc ++ [y]))) else Nx H3) := by
  refine ⟨fun i m H => i + m = n ∧ H D = some (.lst ((List.replicate i true).map V.bl)) ∧ GrD D H1 H, ⟨n, Nat.zero_add _, upd_same, (GrD.refl D H1).set _⟩, fun i m H ⟨hm, hD, gr⟩ => ?_⟩
  cases m with
  | zero =>
    have e : i = n := by omega
    subst e
    exact .inl ⟨(by show i ≤ i; omega), fin H hD (gr.to nD)⟩
  | succ m =>
    refine .inr ⟨(by show i < n; omega), fun H' => H' D = some (.lst ((List.replicate (i + 1) true).map V.bl)) ∧ GrD D H1 H', fun H' h => ⟨m, Nat.lt_succ_self _, by omega, h⟩, fun x H' hyl => ?_⟩
    obtain ⟨rfl, rfl⟩ := hyl
    refine step i H' _ (by omega) (gr.to nD) fun H4 g4 => ?_
    have hD4 : H4 D = some (.lst ((List.replicate i true).map V.bl)) := g4.keep D _ (fun _ z => nomatch z) hD
    refine ⟨_, hD4, by rw [List.length_map, List.length_replicate]; omega, ?_, (gr.trans (g4.d D)).set _⟩
    rw [upd_same, List.replicate_succ', List.map_append]
    rfl
section
variable {P : Program} {w : World} {K : PySem.W.Frag} {mg : Str → Option Value} {base : Heap}
theorem sc_wsame : FnScope ["told", "due", "k"] ["told", "due"] (defScope s__law_same) := ⟨rfl, rfl, rfl, by decide +kernel, rfl, by decide +kernel, by decide +kernel⟩
theorem len_rngZ {n : Nat} (h : n ≤ 1000) : -(2 ^ 62) ≤ ((n : Nat) : Int) ∧ ((n : Nat) : Int) < 2 ^ 62 := len_rng (szN (by omega))
theorem ok_wsame {n : Nat} {f g : Addr} {fd gd : FuncData} (F : Fun K "_law_same" "_law_same" s__law_same f fd) (B : Blt mg) (G : FnOk P w K mg base CX0 n g gd ["told", "due"] (spSame K n)) (bG : Binds K gd ["told", "due"] []) (kG : PySem.W.keepIn K (.ref g) = true) (mG : mg "_law_same" = some (.ref g)) :
    FnOk P w K mg base CX0 (n + 1) f fd ["told", "due"] (spSame K (n + 1)) := by
  refine F.ok sc_wsame (fun vs H Q E h => ?_) (fun cdv A outer s H vs Q E hr h => ?_)
  · obtain ⟨x, y, rfl, _⟩ := h
    rfl
  obtain ⟨x, y, rfl, ha, q⟩ := h
  refine ⟨_, (pss_cons (ps_if (pt_cmp (pc_isN (pv 1))) (pss_one (ps_ret (pe_cmp (pc_isN (pv 0))))) pss_nil)
    (pss_cons (ps_if (pt_val (pe_callB call_isi rfl B.isi PyProof.Rows.boot_isinstance (pa_cons (pv 1) (pa_cons (pe_bltn (v := .ty "bool") rfl B.bool bootBool rfl) pa_nil)))) (pss_one (ps_ret (pe_ifExp (pt_val (pv 1)) (pe_cmpR op_isB (pv 0) pe_bl (nomark _)) (pe_cmpR op_isB (pv 0) pe_bl (nomark _))))) pss_nil)
    (pss_cons (ps_if (pt_val (pe_callB call_isi rfl B.isi PyProof.Rows.boot_isinstance (pa_cons (pv 1) (pa_cons (pe_bltn (v := .ty "int") rfl B.int PyProof.Rows.boot_int rfl) pa_nil)))) (pss_one (ps_ret (pe_and (pe_callB call_isi rfl B.isi PyProof.Rows.boot_isinstance (pa_cons (pv 0) (pa_cons (pe_bltn (v := .ty "int") rfl B.int PyProof.Rows.boot_int rfl) pa_nil))) (pe_and (pe_not (pe_callB call_isi rfl B.isi PyProof.Rows.boot_isinstance (pa_cons (pv 0) (pa_cons (pe_bltn (v := .ty "bool") rfl B.bool bootBool rfl) pa_nil)))) (pe_one (pe_cmpR op_eq (pv 0) (pv 1) (nomark _))))))) pss_nil)
    (pss_cons (ps_if (pt_val (pe_callB call_isi rfl B.isi PyProof.Rows.boot_isinstance (pa_cons (pv 1) (pa_cons (pe_bltn (v := .ty "str") rfl B.str bootStr rfl) pa_nil)))) (pss_one (ps_ret (pe_and (pe_callB call_isi rfl B.isi PyProof.Rows.boot_isinstance (pa_cons (pv 0) (pa_cons (pe_bltn (v := .ty "str") rfl B.str bootStr rfl) pa_nil))) (pe_one (pe_cmpR op_eq (pv 0) (pv 1) (nomark _)))))) pss_nil)
    (pss_cons (ps_if (PW.pt (by exact (pw_or (pt_cmpR op_ne (pe_callB call_isi rfl B.isi PyProof.Rows.boot_isinstance (pa_cons (pv 1) (pa_cons (pe_bltn (v := .ty "tuple") rfl B.tup bootTup rfl) pa_nil))) (pe_callB call_isi rfl B.isi PyProof.Rows.boot_isinstance (pa_cons (pv 0) (pa_cons (pe_bltn (v := .ty "tuple") rfl B.tup bootTup rfl) pa_nil))) (nomark _)) (pw_or1 (pt_cmpR op_ne (pe_callB call_isi rfl B.isi PyProof.Rows.boot_isinstance (pa_cons (pv 1) (pa_cons (pe_bltn (v := .ty "list") rfl B.lst bootLst rfl) pa_nil))) (pe_callB call_isi rfl B.isi PyProof.Rows.boot_isinstance (pa_cons (pv 0) (pa_cons (pe_bltn (v := .ty "list") rfl B.lst bootLst rfl) pa_nil))) (nomark _)))))) (pss_one (ps_ret pe_bl)) pss_nil)
    (pss_one (ps_ret (pe_and (pe_cmpR op_eq (pe_len (pv 0) B.len) (pe_len (pv 1) B.len) (nomark _)) (pe_one (pe_callB (cr_all rfl) rfl B.all PyProof.Rows.boot_all (pa_cons (pe_lc (own := [("k", 2)]) (g := gName 2) rfl sc_wsame.nd (pi_range1 rfl B.rng (pa_cons (pe_len (pv 1) B.len) pa_nil)) (blkOk_by (N := ["told", "due", "k"]) (sc := defScope s__law_same) (by decide +kernel)) (fun _ _ _ _ _ => (pg_name (i := 2) sc_wsame.nd rfl (Or.inl rfl))) (fun _ _ _ _ _ => pts_nil) (fun _ _ _ _ _ => (pe_call G hr rfl mG kG bG .nil pass0 (pa_cons (pe_ix (r := rIx K) ix_seq (pv 0) (pv 2) (fun _ _ => rfl)) (pa_cons (pe_ix (r := rIx K) ix_seq (pv 1) (pv 2) (fun _ _ => rfl)) pa_nil))))) pa_nil))))))))))), ?_⟩
  rcases ha with ⟨rfl, hs⟩ | ⟨a, b, xs, ys, rfl, rfl, hsz, hsq, hp⟩
  · cases x with
    | non => exact ⟨_, rfl, _, rfl, iteP rfl ⟨_, rfl, qd rfl (q _ (Gr.refl _))⟩⟩
    | bl c =>
      refine ⟨_, rfl, _, rfl, iteN (fun z => nomatch z) ?_⟩
      refine ⟨_, rfl, _, _, _, _, _, rfl, .ty _, .base (.bl c), kit_ty (r := true) (by decide +kernel), _, rfl, iteT ?_⟩
      refine ⟨_, rfl, _, rfl, ?_⟩
      cases c with
      | true => exact iteT ⟨_, rfl, _, _, rfl, rfl, qe (by decide +kernel) (q _ (Gr.refl _))⟩
      | false => exact iteF ⟨_, rfl, _, _, rfl, rfl, qe (by decide +kernel) (q _ (Gr.refl _))⟩
    | int i =>
      refine ⟨_, rfl, _, rfl, iteN (fun z => nomatch z) ?_⟩
      refine ⟨_, rfl, _, _, _, _, _, rfl, .ty _, .base (.int i), kit_ty (r := false) (by decide +kernel), _, rfl, iteF ?_⟩
      refine ⟨_, rfl, _, _, _, _, _, rfl, .ty _, .base (.int i), kit_ty (r := true) (by decide +kernel), _, rfl, iteT ?_⟩
      refine ⟨_, rfl, _, _, _, _, _, rfl, .ty _, .base (.int i), kit_ty (r := true) (by decide +kernel), _, rfl, iteT ?_⟩
      refine ⟨_, rfl, _, _, _, _, _, rfl, .ty _, .base (.int i), kit_ty (r := false) (by decide +kernel), _, rfl, _, rfl, iteT ⟨_, rfl, _, rfl, rfl, qd rfl (q _ (Gr.refl _))⟩⟩
    | str z =>
      refine ⟨_, rfl, _, rfl, iteN (fun z => nomatch z) ?_⟩
      refine ⟨_, rfl, _, _, _, _, _, rfl, .ty _, .base (.str z), kit_ty (r := false) (by decide +kernel), _, rfl, iteF ?_⟩
      refine ⟨_, rfl, _, _, _, _, _, rfl, .ty _, .base (.str z), kit_ty (r := false) (by decide +kernel), _, rfl, iteF ?_⟩
      refine ⟨_, rfl, _, _, _, _, _, rfl, .ty _, .base (.str z), kit_ty (r := true) (by decide +kernel), _, rfl, iteT ?_⟩
      exact ⟨_, rfl, _, _, _, _, _, rfl, .ty _, .base (.str z), kit_ty (r := true) (by decide +kernel), _, rfl, iteT ⟨_, rfl, _, rfl, rfl, qd rfl (q _ (Gr.refl _))⟩⟩
    | byt _ => cases hs
    | flt _ => cases hs
    | ref _ => cases hs
    | ty _ => cases hs
  have hl : xs.length = ys.length := Paired.length hp
  rcases hsq with ⟨h1, h2⟩ | ⟨h1, h2⟩
  · refine ⟨_, rfl, _, rfl, iteN (fun z => nomatch z) ?_⟩
    refine ⟨_, rfl, _, _, _, _, _, rfl, .ty _, tyT h2, kit_ty (r := false) (by decide +kernel), _, rfl, iteF ?_⟩
    refine ⟨_, rfl, _, _, _, _, _, rfl, .ty _, tyT h2, kit_ty (r := false) (by decide +kernel), _, rfl, iteF ?_⟩
    refine ⟨_, rfl, _, _, _, _, _, rfl, .ty _, tyT h2, kit_ty (r := false) (by decide +kernel), _, rfl, iteF ?_⟩
    refine ⟨_, rfl, _, _, _, _, _, rfl, .ty _, tyT h2, kit_ty (r := true) (by decide +kernel), _, rfl, _, _, _, _, _, rfl, .ty _, tyT h1, kit_ty (r := true) (by decide +kernel), rfl, _, rfl, iteNS rfl ?_⟩
    refine ⟨_, rfl, _, _, _, _, _, rfl, .ty _, tyT h2, kit_ty (r := false) (by decide +kernel), _, rfl, _, _, _, _, _, rfl, .ty _, tyT h1, kit_ty (r := false) (by decide +kernel), rfl, _, rfl, iteNS rfl ?_⟩
    refine ⟨_, rfl, _, _, rfl, .inr h1, _, rfl, _, _, rfl, .inr h2, rfl, _, rfl, iteP (congrArg (fun n : Nat => V.int n) hl) ?_⟩
    refine ⟨_, rfl, _, _, rfl, .inr h2, _, rfl, (len_rng hsz).1, (len_rng hsz).2, fun D nD => ?_⟩
    rw [Int.toNat_natCast]
    refine lc_rngB (K := K) (lo := 0) nD hsz (fun i H5 Kc hi g5 kc => ?_) (fun H5 hD g5 => ?_)
    · obtain ⟨v, u, e1, e2, al⟩ := paired_at hp i hi
      have e0 : (0 : Int) + (i : Int) = ((i : Nat) : Int) := Int.zero_add _
      refine ⟨rfl, _, rfl, _, rfl, .inr (.inl ⟨_, _, _, _, rfl, rfl, g5.seqT h1, at_of e0 e1, ?_⟩)⟩
      refine ⟨_, rfl, _, rfl, .inr (.inl ⟨_, _, _, _, rfl, rfl, g5.seqT h2, at_of e0 e2, ?_⟩)⟩
      exact ⟨_, _, rfl, al.gr g5, fun H6 g6 => kc H6 g6⟩
    · exact ⟨D, _, rfl, SqL.of hD, by rw [rep_all]; exact q _ g5⟩
  · refine ⟨_, rfl, _, rfl, iteN (fun z => nomatch z) ?_⟩
    refine ⟨_, rfl, _, _, _, _, _, rfl, .ty _, tyL h2, kit_ty (r := false) (by decide +kernel), _, rfl, iteF ?_⟩
    refine ⟨_, rfl, _, _, _, _, _, rfl, .ty _, tyL h2, kit_ty (r := false) (by decide +kernel), _, rfl, iteF ?_⟩
    refine ⟨_, rfl, _, _, _, _, _, rfl, .ty _, tyL h2, kit_ty (r := false) (by decide +kernel), _, rfl, iteF ?_⟩
    refine ⟨_, rfl, _, _, _, _, _, rfl, .ty _, tyL h2, kit_ty (r := false) (by decide +kernel), _, rfl, _, _, _, _, _, rfl, .ty _, tyL h1, kit_ty (r := false) (by decide +kernel), rfl, _, rfl, iteNS rfl ?_⟩
    refine ⟨_, rfl, _, _, _, _, _, rfl, .ty _, tyL h2, kit_ty (r := true) (by decide +kernel), _, rfl, _, _, _, _, _, rfl, .ty _, tyL h1, kit_ty (r := true) (by decide +kernel), rfl, _, rfl, iteNS rfl ?_⟩
    refine ⟨_, rfl, _, _, rfl, .inl h1, _, rfl, _, _, rfl, .inl h2, rfl, _, rfl, iteP (congrArg (fun n : Nat => V.int n) hl) ?_⟩
    refine ⟨_, rfl, _, _, rfl, .inl h2, _, rfl, (len_rng hsz).1, (len_rng hsz).2, fun D nD => ?_⟩
    rw [Int.toNat_natCast]
    refine lc_rngB (K := K) (lo := 0) nD hsz (fun i H5 Kc hi g5 kc => ?_) (fun H5 hD g5 => ?_)
    · obtain ⟨v, u, e1, e2, al⟩ := paired_at hp i hi
      have e0 : (0 : Int) + (i : Int) = ((i : Nat) : Int) := Int.zero_add _
      refine ⟨rfl, _, rfl, _, rfl, .inl ⟨_, _, _, _, rfl, rfl, g5.seqL h1, at_of e0 e1, ?_⟩⟩
      refine ⟨_, rfl, _, rfl, .inl ⟨_, _, _, _, rfl, rfl, g5.seqL h2, at_of e0 e2, ?_⟩⟩
      exact ⟨_, _, rfl, al.gr g5, fun H6 g6 => kc H6 g6⟩
    · exact ⟨D, _, rfl, SqL.of hD, by rw [rep_all]; exact q _ g5⟩
theorem wsame_all {f : Addr} {fd : FuncData} (F : Fun K "_law_same" "_law_same" s__law_same f fd) (B : Blt mg) (bF : Binds K fd ["told", "due"] []) (mF : mg "_law_same" = some (.ref f)) : ∀ n : Nat, FnOk P w K mg base CX0 n f fd ["told", "due"] (spSame K n)
  | 0 => by
    have no : ∀ vs H Q E, ¬ spSame K 0 vs H Q E := fun vs H Q E h => by
      obtain ⟨x, y, _, h, _⟩ := h
      exact h
    exact ⟨fun vs H Q E h => absurd h (no vs H Q E), fun A outer s H args us vs Q E _ _ _ _ h => absurd h (no vs H Q E)⟩
  | n + 1 => ok_wsame F B (wsame_all F B bF mF n) bF F.kp mF
theorem cl_wsame (D : Df K mg "_law_same" s__law_same) (B : Blt mg) (n : Nat) : Cl P w K mg base n "_law_same" ["told", "due"] (spSame K n) := by
  obtain ⟨f, fd, F, m⟩ := D.ex
  have bF : Binds K fd ["told", "due"] [] := F.binds fun _ _ _ _ _ _ us hl => match us, hl with | [_, _], _ => rfl
  obtain ⟨oc, od, kV, doc, pm, an, cdv, ct, osl, e, lk, hcd⟩ := F.ex
  exact ⟨⟨f, fd, wsame_all F B bF m n, m, F.kp, bF⟩, fun g hg => by
    rw [m] at hg
    cases hg
    exact ⟨fd, wsame_all F B bF m n, oc, od, osl, lk⟩⟩
end
end SB
namespace SB
open PySem L2 GxR GA RZ
section
variable {P : Program} {w : World} {K : PySem.W.Frag} {mg : Str → Option Value} {base : Heap}
theorem sc_low : FnScope ["top", "bottom", "one", "two"] ["top", "bottom"] (defScope s__law_low) := ⟨rfl, rfl, rfl, by decide +kernel, rfl, by decide +kernel, by decide +kernel⟩
theorem cl_low (D : Df K mg "_law_low" s__law_low) (B : Blt mg) (NS : NSK P K) : Cl P w K mg base 34 "_law_low" ["top", "bottom"] (spLowest K) := by
  refine D.cl (fun _ _ _ _ _ _ us hl => match us, hl with | [_, _], _ => rfl) fun f fd F => F.ok sc_low (fun vs H Q E h => ?_) (fun cdv A outer s H vs Q E hr h => ?_)
  · obtain ⟨t, b, rfl, _⟩ := h
    rfl
  obtain ⟨t, b, rfl, hb, ⟨h1, h2⟩, q⟩ := h
  refine ⟨_, (pss_cons (ps_par (i := 2) (j := 3) rfl sc_low.nd rfl rfl (by decide) rfl rfl (pa_cons (pe_callB call_abs rfl B.abs PyProof.Rows.boot_abs (pa_cons (pv 0) pa_nil)) (pa_cons (pv 1) pa_nil)) rfl)
    (pss_cons (ps_while PassesOwn.never (pt_cmpR op_ne (pv 3) pe_int (nomark _)) (pss_one (ps_par (i := 2) (j := 3) rfl sc_low.nd rfl rfl (by decide) rfl rfl (pa_cons (pv 3) (pa_cons (pe_op op_mod (pe_callTy call_int1 rfl B.int PyProof.Rows.boot_int (pa_cons (pv 2) pa_nil)) (pv 3)) pa_nil)) rfl)))
    (pss_one (ps_ret (pe_tup (pa_cons (pe_op (op_fdivE NS (Room.far hr) rfl rfl rfl rfl rfl) (pv 0) (pv 2)) (pa_cons (pe_op (op_fdivE NS (Room.far hr) rfl rfl rfl rfl rfl) (pv 1) (pv 2)) pa_nil))))))), ?_⟩
  obtain ⟨e1, e2, e3, e4, e5, e6⟩ := low_ok (t := t) hb _ rfl
  have cd : ∀ i : Int, (0 : Int) < ((Nat.gcd t.natAbs b.natAbs : Nat) : Int) := fun _ => e5
  refine ⟨_, rfl, _, rfl, _, rfl, _, _, rfl, ?_⟩
  refine ⟨fun m σ H1 => ∃ x y : Nat, σ = [some (.int t), some (.int b), some (.int (x : Int)), some (.int (y : Int))] ∧ H1 = H ∧ m = y ∧ Nat.gcd x y = Nat.gcd t.natAbs b.natAbs, ⟨b.natAbs, t.natAbs, b.natAbs, ?_, rfl, rfl, rfl⟩, fun m σ H1 hw => ?_⟩
  · have eb : ((b.natAbs : Nat) : Int) = b := by omega
    rw [eb]
    exact congrArg (fun z => [some (V.int t), some (V.int b), some (V.int z), some (V.int b)]) (abs_nat t)
  obtain ⟨x, y, rfl, rfl, rfl, hg⟩ := hw
  refine ⟨_, rfl, rfl, _, rfl, ?_⟩
  by_cases hy : m = 0
  · subst hy
    rw [Nat.gcd_zero_right] at hg
    subst hg
    exact iteNS rfl ⟨_, rfl, _, rfl, _, _, rfl, rfl, cd 0, _, rfl, _, rfl, _, _, rfl, rfl, cd 0, szN (by show 2 ≤ 1000000; decide), fun p hp => q _ _ _ ((Gr.refl H1).new hp _) ⟨p, rfl, SqT.of upd_same⟩ e1 e2 e3 e4⟩
  · have hne : V.int ((m : Nat) : Int) ≠ V.int 0 := fun z => hy (by injection z with z; omega)
    rw [decide_eq_false hne]
    refine iteT ⟨fun σ H' => ∃ m', m' < m ∧ ∃ x y : Nat, σ = [some (.int t), some (.int b), some (.int (x : Int)), some (.int (y : Int))] ∧ H' = H1 ∧ m' = y ∧ Nat.gcd x y = Nat.gcd t.natAbs b.natAbs, fun σ' H' h => h, ?_⟩
    refine ⟨_, rfl, _, rfl, .inl ⟨_, rfl, _, rfl, _, _, rfl, rfl, by omega, _, _, rfl, x % m, Nat.mod_lt _ (by omega), m, x % m, ?_, rfl, rfl, ?_⟩⟩
    · simp
    · rw [← hg, Nat.gcd_comm x m, Nat.gcd_rec m x, Nat.gcd_comm]
theorem sc_wplus : FnScope ["a", "b"] ["a", "b"] (defScope s__law_plus) := ⟨rfl, rfl, rfl, by decide +kernel, rfl, by decide +kernel, by decide +kernel⟩
theorem cl_wplus (D : Df K mg "_law_plus" s__law_plus) (CL : Cl P w K mg base 34 "_law_low" ["top", "bottom"] (spLowest K)) : Cl P w K mg base 35 "_law_plus" ["a", "b"] (spBin K fPlus) := by
  refine D.cl (fun _ _ _ _ _ _ us hl => match us, hl with | [_, _], _ => rfl) fun f fd F => F.ok sc_wplus (fun vs H Q E h => ?_) (fun cdv A outer s H vs Q E hr h => ?_)
  · obtain ⟨x, y, p, q, m, n, rfl, _⟩ := h
    rfl
  obtain ⟨x, y, p, q, m, n, rfl, ⟨a, rfl, ha⟩, ⟨b, rfl, hb⟩, p2, q2, wp, wq, mn, hq⟩ := h
  refine ⟨_, pss_one (ps_ret (pe_cl CL (hr.mono (by decide)) (pa_cons (pe_op op_add (pe_op op_mulW (pe_ix ix_tup (pv 0) pe_int (fun _ _ => rfl)) (pe_ix ix_tup (pv 1) pe_int (fun _ _ => rfl))) (pe_op op_mulW (pe_ix ix_tup (pv 1) pe_int (fun _ _ => rfl)) (pe_ix ix_tup (pv 0) pe_int (fun _ _ => rfl))))
    (pa_cons (pe_op op_mulW (pe_ix ix_tup (pv 0) pe_int (fun _ _ => rfl)) (pe_ix ix_tup (pv 1) pe_int (fun _ _ => rfl))) pa_nil)))), ?_⟩
  refine ⟨_, rfl, a, _, _, _, rfl, rfl, ha, rfl, _, rfl, b, _, _, _, rfl, rfl, hb, rfl, _, _, rfl, rfl, cmw wp.1 wq.2 mn, ?_⟩
  refine ⟨_, rfl, b, _, _, _, rfl, rfl, hb, rfl, _, rfl, a, _, _, _, rfl, rfl, ha, rfl, _, _, rfl, rfl, cmw wq.1 wp.2 (by omega), _, _, rfl, rfl, ?_⟩
  refine ⟨_, rfl, a, _, _, _, rfl, rfl, ha, rfl, _, rfl, b, _, _, _, rfl, rfl, hb, rfl, _, _, rfl, rfl, cmw wp.2 wq.2 mn, ?_⟩
  have wf := wd_plus wp wq
  exact ⟨_, _, rfl, Int.mul_pos p2 q2, wf.mono (by omega), fun v r H' g nv lo e l1 l2 => hq v r H' g nv lo e (wd_le wf l1 l2)⟩
theorem sc_wtimes : FnScope ["a", "b"] ["a", "b"] (defScope s__law_times) := ⟨rfl, rfl, rfl, by decide +kernel, rfl, by decide +kernel, by decide +kernel⟩
theorem cl_wtimes (D : Df K mg "_law_times" s__law_times) (CL : Cl P w K mg base 34 "_law_low" ["top", "bottom"] (spLowest K)) : Cl P w K mg base 35 "_law_times" ["a", "b"] (spBin K fTimes) := by
  refine D.cl (fun _ _ _ _ _ _ us hl => match us, hl with | [_, _], _ => rfl) fun f fd F => F.ok sc_wtimes (fun vs H Q E h => ?_) (fun cdv A outer s H vs Q E hr h => ?_)
  · obtain ⟨x, y, p, q, m, n, rfl, _⟩ := h
    rfl
  obtain ⟨x, y, p, q, m, n, rfl, ⟨a, rfl, ha⟩, ⟨b, rfl, hb⟩, p2, q2, wp, wq, mn, hq⟩ := h
  refine ⟨_, pss_one (ps_ret (pe_cl CL (hr.mono (by decide)) (pa_cons (pe_op op_mulW (pe_ix ix_tup (pv 0) pe_int (fun _ _ => rfl)) (pe_ix ix_tup (pv 1) pe_int (fun _ _ => rfl)))
    (pa_cons (pe_op op_mulW (pe_ix ix_tup (pv 0) pe_int (fun _ _ => rfl)) (pe_ix ix_tup (pv 1) pe_int (fun _ _ => rfl))) pa_nil)))), ?_⟩
  refine ⟨_, rfl, a, _, _, _, rfl, rfl, ha, rfl, _, rfl, b, _, _, _, rfl, rfl, hb, rfl, _, _, rfl, rfl, cmw wp.1 wq.1 mn, ?_⟩
  refine ⟨_, rfl, a, _, _, _, rfl, rfl, ha, rfl, _, rfl, b, _, _, _, rfl, rfl, hb, rfl, _, _, rfl, rfl, cmw wp.2 wq.2 mn, ?_⟩
  have wf := (wd_times wp wq).mono (Nat.le_succ _)
  exact ⟨_, _, rfl, Int.mul_pos p2 q2, wf.mono (by omega), fun v r H' g nv lo e l1 l2 => hq v r H' g nv lo e (wd_le wf l1 l2)⟩

/-- sides, a wall, a point as the law's own sums take them -/
def Val (K : PySem.W.Frag) (H : Hp) (vs : List V) (ns : List Int) (wl : Int) (us : List (Int × Int)) (m : Nat) : Prop := ∃ x y, vs = [x, .int wl, y] ∧ SiV K H x ns ∧ PtV K H y us ∧ (∀ z, z ∈ ns → z.natAbs < 2 ^ 4) ∧ wl.natAbs < 2 ^ 4 ∧ ns.length = us.length ∧ us.length ≤ 4 ∧ (∀ u, u ∈ us → Lo u) ∧ (∀ u, u ∈ us → Wd m u) ∧ m ≤ 20000
def spValue (K : PySem.W.Frag) : Sp := fun vs H Q _ => ∃ ns wl us m, Val K H vs ns wl us m ∧
  ∀ v r H', Gr H H' → NuV K H' v r → 0 < r.2 → Eqr r (worthU (ns, wl) us).1 (worthU (ns, wl) us).2 → Wd (5 + us.length * (m + 6)) r → Q v H'
theorem sc_value : FnScope ["sides", "wall", "point", "found", "side", "a"] ["sides", "wall", "point"] (defScope s__law_value) := ⟨rfl, rfl, rfl, by decide +kernel, rfl, by decide +kernel, by decide +kernel⟩
theorem cl_value (D : Df K mg "_law_value" s__law_value) (B : Blt mg) (CPl : Cl P w K mg base 35 "_law_plus" ["a", "b"] (spBin K fPlus)) (CTi : Cl P w K mg base 35 "_law_times" ["a", "b"] (spBin K fTimes)) : Cl P w K mg base 36 "_law_value" ["sides", "wall", "point"] (spValue K) := by
  refine D.cl (fun _ _ _ _ _ _ us hl => match us, hl with | [_, _, _], _ => rfl) fun f fd F => F.ok sc_value (fun vs H Q E h => ?_) (fun cdv A outer s H vs Q E hr h => ?_)
  · obtain ⟨ns, wl, us, m, ⟨x, y, rfl, _⟩, _⟩ := h
    rfl
  obtain ⟨ns, wl, us, m, ⟨x, y, rfl, ⟨l, rfl, hlq⟩, ⟨b, xs, rfl, hb, hp⟩, n4, w4, hl, u4, ulo, uw, m1⟩, hq⟩ := h
  refine ⟨_, (pss_cons (ps_set (i := 3) sc_value.nd rfl (.inl rfl) (pe_tup (pa_cons (pe_op op_sub pe_int (pv 1)) (pa_cons pe_int pa_nil))))
    (pss_cons (ps_for PassesOwn.never rfl (pi_zipA rfl B.zip (pa_cons (pv 0) (pa_cons (pv 2) pa_nil))) (pg_tup rfl (pgs_cons (pg_name (i := 4) sc_value.nd rfl (Or.inl rfl)) (pgs_cons (pg_name (i := 5) sc_value.nd rfl (Or.inl rfl)) pgs_nil)))
      (pss_one (ps_set (i := 3) sc_value.nd rfl (.inl rfl) (pe_cl CPl (hr.mono (by decide)) (pa_cons (pv 3) (pa_cons (pe_cl CTi (hr.mono (by decide)) (pa_cons (pe_tup (pa_cons (pv 4) (pa_cons pe_int pa_nil))) (pa_cons (pv 5) pa_nil))) pa_nil))))))
    (pss_one (ps_ret (pv 3))))), ?_⟩
  refine ⟨_, rfl, _, _, rfl, rfl, szN (by show 2 ≤ 1000000; decide), fun p0 n0 => ?_⟩
  have e0 : (0 : Int) - wl = -wl := Int.zero_sub wl
  have g0 : Gr H (upd H p0 (.tup [.int (0 - wl), .int 1])) := (Gr.refl H).new n0 _
  have lx : (ns.map V.int).length = xs.length := by rw [List.length_map, hl, paired_len hp]
  let Pv : Nat → L2.St → Hp → Prop := fun i σ H1 => ∃ v g c d, σ = [some (.ref l), some (.int wl), some (.ref b), some v, c, d] ∧ Gr H H1 ∧ NuV K H1 v g ∧ 0 < g.2 ∧ Eqr g (((ns.zip us).take i).foldl stepU (-wl, 1)).1 (((ns.zip us).take i).foldl stepU (-wl, 1)).2 ∧ (i ≤ 4 → Wd (5 + i * (m + 6)) g)
  have P0 : Pv 0 ([some (V.ref l), some (.int wl), some (.ref b), some (.ref p0), none, none]) (upd H p0 (.tup [.int (0 - wl), .int 1])) := by
    rw [e0] at g0 ⊢
    exact ⟨_, (-wl, 1), _, _, rfl, g0, ⟨p0, rfl, SqT.of upd_same⟩, Int.one_pos, rfl, fun _ => ⟨by show (-wl).natAbs < _; rw [Int.natAbs_neg]; exact Nat.lt_of_lt_of_le w4 (by show 2 ^ 4 ≤ 2 ^ (5 + 0 * (m + 6)); exact Nat.pow_le_pow_right (by decide) (by omega)), Nat.lt_of_lt_of_le (by show (1 : Nat) < 2 ^ 5; decide) (Nat.pow_le_pow_right (by decide) (by omega))⟩⟩
  have fin : ∀ σ H1, Pv (ns.map V.int).length σ H1 → tRet (tVar 3) { nx := fun _ H' => Q .non H', rt := Q } σ H1 := fun σ H1 h => by
    obtain ⟨v, g, c, d, rfl, gr, nv, gp, eg, wg⟩ := h
    have e4 : (ns.map V.int).length = us.length := by rw [List.length_map, hl]
    rw [e4] at eg wg
    have ez : (ns.zip us).take us.length = ns.zip us := List.take_of_length_le (by rw [List.length_zip, hl]; omega)
    rw [ez] at eg
    exact ⟨_, rfl, hq v g H1 gr nv gp eg (wg u4)⟩
  refine ⟨_, rfl, _, rfl, l, b, _, xs, rfl, .inr ⟨g0.seqT hlq, g0.seqT hb, ?_⟩⟩
  refine for_zipT lx Pv P0 (fun i σ H1 h => ?_) (fun i x y T σ H1 hx hy h nT => ?_) fin
  · obtain ⟨v, g, c, d, rfl, gr, _⟩ := h
    exact ⟨gr.seqT hlq, gr.seqT hb⟩
  · obtain ⟨v, g, c, d, rfl, gr, nv, gp, eg, wg⟩ := h
    rw [List.getElem?_map] at hx
    obtain ⟨z, hz, rfl⟩ := Option.map_eq_some_iff.mp hx
    obtain ⟨u, hu, nu⟩ := paired_get hp hy
    have hi : i < 4 := by
      have := (List.getElem?_eq_some_iff.mp hu).1
      omega
    have lo := ulo u (List.mem_of_getElem? hu)
    have wu := uw u (List.mem_of_getElem? hu)
    have wz : Wd 4 (z, 1) := ⟨n4 z (List.mem_of_getElem? hz), by show (1 : Nat) < 2 ^ 4; decide⟩
    have k2 : ∀ p1, (upd H1 T (.tup [.int z, y])) p1 = none → Gr H1 (upd (upd H1 T (.tup [.int z, y])) p1 (.tup [.int z, .int 1])) := fun p1 n1 => ((Gr.refl H1).new nT _).new n1 _
    refine ⟨T, _, rfl, SqT.of upd_same, rfl, _, _, rfl, _, _, rfl, rfl, ?_⟩
    refine ⟨_, rfl, _, rfl, szN (by show 2 ≤ 1000000; decide), fun p1 n1 => ?_⟩
    refine ⟨_, rfl, _, _, (z, 1), u, 4, m, rfl, ⟨p1, rfl, SqT.of upd_same⟩, nu.gr (gr.trans (k2 p1 n1)), Int.one_pos, lo.1, wz, wu, by omega, fun v2 r2 H2 k3 nv2 lo2 e2 w2 => ?_⟩
    have wgi := wg (by omega)
    have small : i * (m + 6) ≤ 4 * 20006 := Nat.mul_le_mul (by omega) (by omega)
    refine ⟨_, _, g, r2, 5 + i * (m + 6), m + 5, rfl, nv.gr ((k2 p1 n1).trans k3), nv2, gp, lo2.1, wgi, w2.mono (by omega), by omega, fun v4 r4 H4 k4 nv4 lo4 e4 w4 => ?_⟩
    refine ⟨_, r4, _, _, rfl, ((gr.trans (k2 p1 n1)).trans k3).trans k4, nv4, lo4.1, ?_, fun _ => w4.mono (by rw [Nat.add_mul, Nat.one_mul]; omega)⟩
    rw [fold_take stepU (-wl, 1) (zip_at hz hu)]
    exact eqr_plus gp lo2.1 eg e2 e4
def spLAns (K : PySem.W.Frag) : Sp := fun vs H Q _ => ∃ ns wl us m, Val K H vs ns wl us m ∧ ∀ H', Gr H H' → Q (.int (ansU (ns, wl) us)) H'
theorem sc_lans : FnScope ["sides", "wall", "point", "top"] ["sides", "wall", "point"] (defScope s__law_answer) := ⟨rfl, rfl, rfl, by decide +kernel, rfl, by decide +kernel, by decide +kernel⟩
theorem cl_lans (D : Df K mg "_law_answer" s__law_answer) (B : Blt mg) (CV : Cl P w K mg base 36 "_law_value" ["sides", "wall", "point"] (spValue K)) : Cl P w K mg base 37 "_law_answer" ["sides", "wall", "point"] (spLAns K) := by
  refine D.cl (fun _ _ _ _ _ _ us hl => match us, hl with | [_, _, _], _ => rfl) fun f fd F => F.ok sc_lans (fun vs H Q E h => ?_) (fun cdv A outer s H vs Q E hr h => ?_)
  · obtain ⟨ns, wl, us, m, ⟨x, y, rfl, _⟩, _⟩ := h
    rfl
  obtain ⟨ns, wl, us, m, ⟨x, y, rfl, hv⟩, hq⟩ := h
  refine ⟨_, (pss_cons (ps_set (i := 3) sc_lans.nd rfl (.inl rfl) (pe_ix ix_tup (pe_cl CV (hr.mono (by decide)) (pa_cons (pv 0) (pa_cons (pv 1) (pa_cons (pv 2) pa_nil)))) pe_int (fun _ _ => rfl)))
    (pss_one (ps_ret (pe_op op_sub (pe_callTy call_int1 rfl B.int PyProof.Rows.boot_int (pa_cons (pe_cmpR op_gt (pv 3) pe_int (nomark _)) pa_nil)) (pe_callTy call_int1 rfl B.int PyProof.Rows.boot_int (pa_cons (pe_cmpR op_lt (pv 3) pe_int (nomark _)) pa_nil)))))), ?_⟩
  refine ⟨_, rfl, _, rfl, _, rfl, ns, wl, us, m, ⟨x, y, rfl, hv⟩, fun v r H2 g2 nv rp er _ => ?_⟩
  obtain ⟨v', rfl, sv⟩ := nv
  refine ⟨v', _, _, _, rfl, rfl, sv, rfl, ?_⟩
  refine ⟨_, rfl, _, _, rfl, rfl, .inr ⟨_, rfl, _, rfl, _, _, rfl, rfl, .inr ⟨_, rfl, _, _, rfl, rfl, ?_⟩⟩⟩
  have e2 : sgn r.1 = ansU (ns, wl) us := sgn_eqr er rp (worth_pos hv.2.2.2.2.2.2.1)
  have e3 := sgn_two r.1
  rw [e2] at e3
  have := hq H2 g2
  rw [← e3] at this
  exact this
end
end SB
namespace SB
open PySem L2 GxR GA RZ
theorem gcdF_acc : ∀ (l : List Int) (c : Nat), l.foldl (fun c z => Nat.gcd c z.natAbs) c = Nat.gcd c (l.foldl (fun c z => Nat.gcd c z.natAbs) 0)
  | [], c => by simp
  | z :: r, c => by
    rw [List.foldl_cons, List.foldl_cons, gcdF_acc r (Nat.gcd c z.natAbs), gcdF_acc r (Nat.gcd 0 z.natAbs), Nat.gcd_zero_left, Nat.gcd_assoc]
theorem gcdL_last (ns : List Int) (w : Int) : ns.foldl (fun c z => Nat.gcd c z.natAbs) w.natAbs = gcdL (ns ++ [w]) := by
  unfold gcdL
  rw [List.foldl_append, gcdF_acc ns w.natAbs, Nat.gcd_comm]
  rfl
theorem iteNZ {z : Int} {A B : Prop} (h1 : z ≠ 0 → A) (h2 : z = 0 → B) : if (!decide (V.int z = V.int 0)) = true then A else B := by
  by_cases h : z = 0
  · rw [decide_eq_true (show V.int z = V.int 0 by rw [h])]
    exact h2 h
  · rw [decide_eq_false (show ¬ V.int z = V.int 0 from fun y => h (by injection y))]
    exact iteT (h1 h)
/-- the numbers that are not 0, of a tuple of ints -/
theorem lc_nz {K : PySem.W.Frag} {a : Addr} {ns : List Int} {g : TG} {tt : TT} {te : TE} {vs : List Nat} {σ : L2.St} {H1 : Hp} {D : Addr} {Qd : Hp → Prop} (nD : H1 D = none) (hs : SqT K H1 a (ns.map V.int)) (hz : ns.length ≤ 1000)
    (step : ∀ (z : Int) H (Ky : VK) (Nx : Hp → Prop), (z ≠ 0 → Ky (.int z) H) → (z = 0 → Nx H) → g (.int z) (wipe σ vs) H fun σ2 H2 => wipe σ2 vs = wipe σ vs ∧ tt σ2 H2 fun b H3 => if b = true then te σ2 H3 Ky else Nx H3)
    (fin : ∀ H, H D = some (.lst ((ns.filter fun z => decide (z ≠ 0)).map V.int)) → Gr H1 H → Qd H) :
    ∃ W : Nat → Nat → Hp → Prop, (∃ m, W 0 m (upd H1 D (.lst []))) ∧ ∀ i m H, W i m H →
      ((Itt K a).stop i H ∧ Qd H) ∨ ((Itt K a).go i H ∧ ∃ Nx : Hp → Prop, (∀ H', Nx H' → ∃ m', m' < m ∧ W (i + 1) m' H') ∧ ∀ x H', (Itt K a).yld i H x H' → g x (wipe σ vs) H' fun σ2 H2 => wipe σ2 vs = wipe σ vs ∧ tt σ2 H2 fun b H3 =>
        if b = true then te σ2 H3 fun y H4 => ∃ acc, H4 D = some (.lst acc) ∧ acc.length < sizeLine ∧ Nx (upd H4 D (.lst (acc ++ [y]))) else Nx H3) := by
  refine ⟨fun i m H => i + m = ns.length ∧ H D = some (.lst (((ns.take i).filter fun z => decide (z ≠ 0)).map V.int)) ∧ GrD D H1 H, ⟨ns.length, Nat.zero_add _, upd_same, (GrD.refl D H1).set _⟩, fun i m H ⟨hm, hD, gr⟩ => ?_⟩
  have g1 := gr.to nD
  have hSi := g1.seqT hs
  cases m with
  | zero =>
    have e : i = ns.length := by omega
    subst e
    rw [List.take_length] at hD
    exact .inl ⟨⟨_, hSi, by rw [List.length_map]; exact Nat.le_refl _⟩, fin H hD g1⟩
  | succ m =>
    have hi : i < ns.length := by omega
    have ez : ns[i]? = some ns[i] := List.getElem?_eq_getElem hi
    refine .inr ⟨⟨_, .int ns[i], hSi, by rw [List.getElem?_map, ez]; rfl⟩, fun H' => H' D = some (.lst (((ns.take (i + 1)).filter fun z => decide (z ≠ 0)).map V.int)) ∧ GrD D H1 H', fun H' h => ⟨m, Nat.lt_succ_self _, by omega, h⟩, fun x H' hyl => ?_⟩
    obtain ⟨rfl, hx⟩ := hyl
    have hx2 := hx _ hSi
    rw [List.getElem?_map, ez] at hx2
    cases hx2
    refine step _ _ _ _ (fun n0 => ⟨_, hD, ?_, ?_, gr.set _⟩) fun z0 => ⟨?_, gr⟩
    · rw [List.length_map]
      have := List.length_filter_le (fun z : Int => decide (z ≠ 0)) (ns.take i)
      rw [List.length_take] at this
      exact small1000 (by omega)
    · rw [upd_same, List.take_add_one, ez, Option.toList_some, List.filter_append, List.filter_cons_of_pos (by simp [n0]), List.filter_nil, List.map_append]
      rfl
    · rw [hD, List.take_add_one, ez, Option.toList_some, List.filter_append, List.filter_cons_of_neg (by simp [z0]), List.filter_nil, List.append_nil]
/-- small sides and a wall -/
def Q16 (ns : List Int) (wl : Int) : Prop := (∀ z, z ∈ ns → z.natAbs < 2 ^ 60) ∧ wl.natAbs < 2 ^ 60 ∧ ns.length ≤ 8
theorem Q16.ok {ns : List Int} {wl : Int} (h : Q16 ns wl) (nz : NonZ ns) : QOk (ns, wl) := ⟨nz, fun z hz => Nat.lt_of_lt_of_le (h.1 z hz) (two_le (by decide)), Nat.lt_of_lt_of_le h.2.1 (two_le (by decide))⟩
theorem Q16.g {ns : List Int} {wl : Int} (h : Q16 ns wl) (nz : NonZ ns) : 0 < gcdL (ns ++ [wl]) ∧ gcdL (ns ++ [wl]) < 2 ^ 60 := by
  obtain ⟨z, h1, h2⟩ := nz.ex
  exact ⟨nonZ_g (q := (ns, wl)) nz, Nat.lt_of_le_of_lt (gcdL_le (List.mem_append_left _ h1) h2) (h.1 z h1)⟩
section
variable {P : Program} {w : World} {K : PySem.W.Frag} {mg : Str → Option Value} {base : Heap}
def spWDiv (K : PySem.W.Frag) (f : List Int × Int → List Int × Int) : Sp := fun vs H Q _ => ∃ x ns wl, vs = [x, .int wl] ∧ SiV K H x ns ∧ NonZ ns ∧ Q16 ns wl ∧ ∀ v H', Gr H H' → QuV K H' v (f (ns, wl)) → Q v H'
theorem sc_wdiv : FnScope ["sides", "wall", "one", "side", "two"] ["sides", "wall"] (defScope s__law_divided) := ⟨rfl, rfl, rfl, by decide +kernel, rfl, by decide +kernel, by decide +kernel⟩
theorem cl_wdiv (D : Df K mg "_law_divided" s__law_divided) (B : Blt mg) : Cl P w K mg base 1 "_law_divided" ["sides", "wall"] (spWDiv K divU) := by
  refine D.cl (fun _ _ _ _ _ _ us hl => match us, hl with | [_, _], _ => rfl) fun f fd F => F.ok sc_wdiv (fun vs H Q E h => ?_) (fun cdv A outer s H vs Q E hr h => ?_)
  · obtain ⟨x, ns, wl, rfl, _⟩ := h
    rfl
  obtain ⟨x, ns, wl, rfl, ⟨a, rfl, hS⟩, nz, q16, hQ⟩ := h
  refine ⟨_, (pss_cons (ps_set (i := 2) sc_wdiv.nd rfl (.inr rfl) (pe_callB call_abs rfl B.abs PyProof.Rows.boot_abs (pa_cons (pv 1) pa_nil)))
    (pss_cons (ps_for PassesOwn.never rfl (pi_tup (pv 0)) (pg_name (i := 3) sc_wdiv.nd rfl (Or.inl rfl))
      (pss_cons (ps_set (i := 4) sc_wdiv.nd rfl (.inl rfl) (pe_callB call_abs rfl B.abs PyProof.Rows.boot_abs (pa_cons (pv 3) pa_nil)))
      (pss_one (ps_while PassesOwn.never (pt_cmpR op_ne (pv 4) pe_int (nomark _)) (pss_one (ps_asg (pe_tup (pa_cons (pv 4) (pa_cons (pe_op op_mod (pe_callTy call_int1 rfl B.int PyProof.Rows.boot_int (pa_cons (pv 2) pa_nil)) (pv 4)) pa_nil))) (pg_tup rfl (pgs_cons (pg_name (i := 2) sc_wdiv.nd rfl (Or.inr rfl)) (pgs_cons (pg_name (i := 4) sc_wdiv.nd rfl (Or.inl rfl)) pgs_nil)))))))))
    (pss_one (ps_ret (pe_tup (pa_cons (pe_callTy call_tuple_of rfl B.tup bootTup (pa_cons (pe_lc (own := [("side", 3)]) (g := gName 3) rfl sc_wdiv.nd (pi_tup (pv 0)) (blkOk_by (N := ["sides", "wall", "one", "side", "two"]) (sc := defScope s__law_divided) (by decide +kernel)) (fun _ _ _ _ _ => (pg_name (i := 3) sc_wdiv.nd rfl (Or.inl rfl))) (fun _ _ _ _ _ => pts_nil) (fun _ _ _ _ _ => (pe_op op_fdivW (pv 3) (pv 2)))) pa_nil)) (pa_cons (pe_op op_fdivW (pv 1) (pv 2)) pa_nil))))))), ?_⟩
  refine ⟨_, rfl, _, rfl, ?_⟩
  have ini : (V.int (if wl < 0 then -wl else wl)) = V.int ((wl.natAbs : Nat) : Int) := by rw [abs_nat]
  refine ⟨_, rfl, a, rfl, ⟨_, hS⟩, for_tup (xs := ns.map V.int) (fun i σ H' => ∃ c3 c4 : Option V, σ = [some (.ref a), some (.int wl), some (.int (((ns.take i).foldl (fun c z => Nat.gcd c z.natAbs) wl.natAbs : Nat) : Int)), c3, c4] ∧ Gr H H') ⟨_, _, congrArg (fun z => [some (V.ref a), some (V.int wl), some z, none, none]) ini, Gr.refl _⟩ (fun i σ H' _ h => ?_) (fun i x σ H' hx h => ?_) (fun σ H' h => ?_)⟩
  · obtain ⟨c3, c4, rfl, g⟩ := h
    exact g.seqT hS
  · obtain ⟨c3, c4, rfl, g⟩ := h
    rw [List.getElem?_map] at hx
    obtain ⟨z, hz, rfl⟩ := Option.map_eq_some_iff.mp hx
    have e : (ns.take (i + 1)).foldl (fun c (z : Int) => Nat.gcd c z.natAbs) wl.natAbs = Nat.gcd ((ns.take i).foldl (fun c (z : Int) => Nat.gcd c z.natAbs) wl.natAbs) z.natAbs := fold_take (fun c (z : Int) => Nat.gcd c z.natAbs) wl.natAbs hz
    refine ⟨_, rfl, z, rfl, ?_⟩
    refine ⟨fun m σ H1 => ∃ x y : Nat, σ = [some (.ref a), some (.int wl), some (.int (x : Int)), some (.int z), some (.int (y : Int))] ∧ Gr H H1 ∧ m = y ∧ Nat.gcd x y = (ns.take (i + 1)).foldl (fun c (z : Int) => Nat.gcd c z.natAbs) wl.natAbs, ⟨z.natAbs, (ns.take i).foldl (fun c z => Nat.gcd c z.natAbs) wl.natAbs, z.natAbs, ?_, g, rfl, by rw [e]⟩, fun m σ H1 hw => ?_⟩
    · exact congrArg (fun v => [some (V.ref a), some (V.int wl), some (V.int (((ns.take i).foldl (fun c z => Nat.gcd c z.natAbs) wl.natAbs : Nat) : Int)), some (V.int z), some (V.int v)]) (abs_nat z)
    obtain ⟨x, y, rfl, g1, rfl, hg⟩ := hw
    refine ⟨_, rfl, rfl, _, rfl, ?_⟩
    by_cases hy : m = 0
    · subst hy
      rw [Nat.gcd_zero_right] at hg
      subst hg
      exact iteNS rfl ⟨_, _, rfl, g1⟩
    · have hne : V.int ((m : Nat) : Int) ≠ V.int 0 := fun z => hy (by injection z with z; omega)
      rw [decide_eq_false hne]
      refine iteT ⟨fun σ H' => ∃ m', m' < m ∧ ∃ x y : Nat, σ = [some (.ref a), some (.int wl), some (.int (x : Int)), some (.int z), some (.int (y : Int))] ∧ Gr H H' ∧ m' = y ∧ Nat.gcd x y = (ns.take (i + 1)).foldl (fun c (z : Int) => Nat.gcd c z.natAbs) wl.natAbs, fun σ' H' h => h, ?_⟩
      refine ⟨_, rfl, _, rfl, .inl ⟨_, rfl, _, rfl, _, _, rfl, rfl, by omega, szN (by show 2 ≤ 1000000; decide), fun p np => ?_⟩⟩
      refine ⟨p, _, rfl, SqT.of upd_same, rfl, _, _, rfl, _, _, rfl, rfl, x % m, Nat.mod_lt _ (by omega), m, x % m, ?_, g1.new np _, rfl, ?_⟩
      · simp
      · rw [← hg, Nat.gcd_comm x m, Nat.gcd_rec m x, Nat.gcd_comm]
  · obtain ⟨c3, c4, rfl, g⟩ := h
    rw [List.length_map, List.take_length, gcdL_last]
    obtain ⟨g0, g64⟩ := q16.g nz
    have cd : ∀ i : Int, CDivW i ((gcdL (ns ++ [wl]) : Nat) : Int) := fun i => wide_div (b := 64) (by omega) (by rw [Int.natAbs_natCast]; omega) (by decide) (by decide)
    have hS1 := g.seqT hS
    refine ⟨_, rfl, a, rfl, ⟨_, hS1⟩, fun D nD => lc_mapT (xs := ns.map V.int) (fun i y _ => ∃ z : Int, ns[i]? = some z ∧ y = .int (z / ((gcdL (ns ++ [wl]) : Nat) : Int))) (fun _ _ _ _ h _ => h) nD hS1 (by rw [List.length_map]; have := q16.2.2; omega) (fun i x H5 Kc hx g5 kc => ?_) (fun ys H5 hD hl5 g5 hR => ?_)⟩
    · rw [List.getElem?_map] at hx
      obtain ⟨z, hz, rfl⟩ := Option.map_eq_some_iff.mp hx
      exact ⟨rfl, _, rfl, _, rfl, _, _, rfl, rfl, cd _, kc _ _ (Gr.refl _) ⟨z, hz, rfl⟩⟩
    · have ey : ys = (divU (ns, wl)).1.map V.int := by
        refine ints_at (by rw [hl5, List.length_map]; show _ = (List.map _ ns).length; rw [List.length_map]) fun i y hy => ?_
        obtain ⟨z, hz, rfl⟩ := hR i y hy
        refine ⟨_, ?_, rfl⟩
        show (List.map _ ns)[i]? = _
        rw [List.getElem?_map, hz]
        rfl
      subst ey
      refine ⟨D, _, rfl, .inl ⟨SqL.of hD, fun p np => ?_⟩⟩
      refine ⟨_, rfl, _, rfl, _, _, rfl, rfl, cd _, szN (by show 2 ≤ 1000000; decide), fun p2 np2 => ?_⟩
      have k1 := (g.trans g5).new np (.tup ((divU (ns, wl)).1.map V.int))
      exact hQ _ _ (k1.new np2 _) ⟨p2, .ref p, rfl, SqT.of upd_same, p, rfl, ((Gr.refl _).new np2 _).seqT (SqT.of upd_same)⟩
theorem sc_wgr : FnScope ["sides", "wall", "side", "first"] ["sides", "wall"] (defScope s__law_ground) := ⟨rfl, rfl, rfl, by decide +kernel, rfl, by decide +kernel, by decide +kernel⟩
theorem cl_wgr (D : Df K mg "_law_ground" s__law_ground) (B : Blt mg) (CLD : Cl P w K mg base 1 "_law_divided" ["sides", "wall"] (spWDiv K divU)) : Cl P w K mg base 2 "_law_ground" ["sides", "wall"] (spWDiv K nfU) := by
  refine D.cl (fun _ _ _ _ _ _ us hl => match us, hl with | [_, _], _ => rfl) fun f fd F => F.ok sc_wgr (fun vs H Q E h => ?_) (fun cdv A outer s H vs Q E hr h => ?_)
  · obtain ⟨x, ns, wl, rfl, _⟩ := h
    rfl
  obtain ⟨x, ns, wl, rfl, hx, nz, q16, hQ⟩ := h
  refine ⟨_, (pss_cons (ps_asg (pe_cl CLD (hr.mono (by decide)) (pa_cons (pv 0) (pa_cons (pv 1) pa_nil))) (pg_tup rfl (pgs_cons (pg_name (i := 0) sc_wgr.nd rfl (Or.inl rfl)) (pgs_cons (pg_name (i := 1) sc_wgr.nd rfl (Or.inl rfl)) pgs_nil))))
    (pss_cons (ps_set (i := 3) sc_wgr.nd rfl (.inl rfl) (pe_ix ix_list (pe_lc (own := [("side", 2)]) (g := gName 2) rfl sc_wgr.nd (pi_tup (pv 0)) (blkOk_by (N := ["sides", "wall", "side", "first"]) (sc := defScope s__law_ground) (by decide +kernel)) (fun _ _ _ _ _ => (pg_name (i := 2) sc_wgr.nd rfl (Or.inl rfl))) (fun _ _ _ _ _ => pts_one (pt_cmpR op_ne (pv 2) pe_int (nomark _))) (fun _ _ _ _ _ => (pv 2))) pe_int (fun _ _ => rfl)))
    (pss_one (ps_ret (pe_ifExp (pt_cmpR op_gt (pv 3) pe_int (nomark _)) (pe_tup (pa_cons (pv 0) (pa_cons (pv 1) pa_nil))) (pe_tup (pa_cons (pe_callTy call_tuple_of rfl B.tup bootTup (pa_cons (pe_lc (own := [("side", 2)]) (g := gName 2) rfl sc_wgr.nd (pi_tup (pv 0)) (blkOk_by (N := ["sides", "wall", "side", "first"]) (sc := defScope s__law_ground) (by decide +kernel)) (fun _ _ _ _ _ => (pg_name (i := 2) sc_wgr.nd rfl (Or.inl rfl))) (fun _ _ _ _ _ => pts_nil) (fun _ _ _ _ _ => (pe_op op_sub pe_int (pv 2)))) pa_nil)) (pa_cons (pe_op op_sub pe_int (pv 1)) pa_nil)))))))), ?_⟩
  have qo := q16.ok nz
  have l8 : ns.length ≤ 8 := q16.2.2
  refine ⟨_, rfl, _, rfl, x, ns, wl, rfl, hx, nz, q16, fun v H1 g1 hv => ?_⟩
  obtain ⟨p, t, rfl, hp, a, rfl, ha⟩ := hv
  refine ⟨p, _, rfl, hp, rfl, _, _, rfl, _, _, rfl, rfl, ?_⟩
  have ld : (divU (ns, wl)).1.length = ns.length := by show (List.map _ ns).length = _; rw [List.length_map]
  refine ⟨_, rfl, a, rfl, ⟨_, ha⟩, fun D nD => lc_nz (ns := (divU (ns, wl)).1) nD ha (by omega) (fun z H5 Ky Nx h1 h2 => ?_) (fun H5 hD g5 => ?_)⟩
  · exact ⟨rfl, _, rfl, rfl, _, rfl, iteNZ (fun n0 => ⟨_, rfl, h1 n0⟩) h2⟩
  have lf := lead_filter (t := []) (nonZ_div (q := (ns, wl)) nz)
  rw [List.append_nil] at lf
  refine ⟨D, _, _, .int (lead (divU (ns, wl)).1), rfl, rfl, SqL.of hD, atI_nat (j := 0) (by rw [List.getElem?_map, lf]; rfl), ?_⟩
  refine ⟨_, rfl, _, _, rfl, rfl, _, rfl, ?_⟩
  have g15 := g1.trans g5
  by_cases c : 0 < lead (divU (ns, wl)).1
  · refine iteP c ⟨_, rfl, _, rfl, szN (by show 2 ≤ 1000000; decide), fun p2 np2 => ?_⟩
    refine hQ _ _ (g15.new np2 _) ?_
    have e : nfU (ns, wl) = divU (ns, wl) := if_pos c
    rw [e]
    exact ⟨p2, _, rfl, SqT.of upd_same, a, rfl, (g5.new np2 _).seqT ha⟩
  · refine iteN c ?_
    have ha5 := g5.seqT ha
    refine ⟨_, rfl, a, rfl, ⟨_, ha5⟩, fun D2 nD2 => lc_mapT (xs := (divU (ns, wl)).1.map V.int) (fun i y _ => ∃ z : Int, (divU (ns, wl)).1[i]? = some z ∧ y = .int (0 - z)) (fun _ _ _ _ h _ => h) nD2 ha5 (by rw [List.length_map]; omega) (fun i x H6 Kc hx g6 kc => ?_) (fun ys H6 hD6 hl6 g6 hR => ?_)⟩
    · rw [List.getElem?_map] at hx
      obtain ⟨z, hz, rfl⟩ := Option.map_eq_some_iff.mp hx
      exact ⟨rfl, _, rfl, _, _, rfl, rfl, kc _ _ (Gr.refl _) ⟨z, hz, rfl⟩⟩
    · have e : nfU (ns, wl) = negU (divU (ns, wl)) := if_neg c
      have ey : ys = (negU (divU (ns, wl))).1.map V.int := by
        refine ints_at (by rw [hl6, List.length_map]; show _ = (List.map _ _).length; rw [List.length_map]) fun i y hy => ?_
        obtain ⟨z, hz, rfl⟩ := hR i y hy
        refine ⟨_, ?_, rfl⟩
        show (List.map _ _)[i]? = _
        rw [List.getElem?_map, hz, Int.zero_sub]
        rfl
      subst ey
      refine ⟨D2, _, rfl, .inl ⟨SqL.of hD6, fun p1 np1 => ?_⟩⟩
      have k1 := (g15.trans g6).new np1 (.tup ((negU (divU (ns, wl))).1.map V.int))
      have cont : ∀ r : Int, r = (negU (divU (ns, wl))).2 → ∀ p2, (upd H6 p1 (.tup ((negU (divU (ns, wl))).1.map V.int))) p2 = none → Q (.ref p2) (upd (upd H6 p1 (.tup ((negU (divU (ns, wl))).1.map V.int))) p2 (.tup [.ref p1, .int r])) := fun r hr p2 np2 => by
        subst hr
        refine hQ _ _ (k1.new np2 _) ?_
        rw [e]
        exact ⟨p2, .ref p1, rfl, SqT.of upd_same, p1, rfl, ((Gr.refl _).new np2 _).seqT (SqT.of upd_same)⟩
      exact ⟨_, rfl, _, _, rfl, rfl, szN (by show 2 ≤ 1000000; decide), fun p2 np2 => cont _ (Int.zero_sub _) p2 np2⟩
end
end SB
namespace SB
open PySem L2 GxR GA RZ
theorem yunits {k : Nat} {A : Around} (r : Room k A) : A.units + 65 < cLine := by have := r.un; omega
theorem ynzf_take {ms : List (List Int × Int)} {u : Nat} {q : List Int × Int} (h : ms[u]? = some q) : (ms.take (u + 1)).filter (fun q => q.1.any fun z => decide (z ≠ 0)) = (ms.take u).filter (fun q => q.1.any fun z => decide (z ≠ 0)) ++ (if (q.1.any fun z => decide (z ≠ 0)) = true then [q] else []) := by
  rw [List.take_add_one, h, Option.toList_some, List.filter_append]
  cases e : (q.1.any fun z => decide (z ≠ 0)) with
  | true => simp only [List.filter_cons, e, if_true, List.filter_nil]
  | false =>
    simp only [List.filter_cons, e, List.filter_nil]
theorem yfilt_nz {l : List Int} : (l.filter fun z => decide (z ≠ 0)).isEmpty = true ↔ ¬ NonZ l := by
  unfold NonZ
  rw [List.isEmpty_iff, List.filter_eq_nil_iff, List.any_eq_true]
  constructor
  · rintro h ⟨z, hz, e⟩
    exact h z hz e
  · intro h z hz e
    exact h ⟨z, hz, e⟩
theorem eqvT_intsY (a b : List Int) : PyData.eqv (.tuple (a.map PyData.int)) (.tuple (b.map PyData.int)) = decide (a = b) := by
  have h := eqv_intsA a b
  simp only [PyData.eqv, h]
theorem eqv_qu (p q : List Int × Int) : PyData.eqv (quP p) (quP q) = decide (p = q) := by
  have h := eqvT_intsY p.1 q.1
  unfold quP
  simp only [PyData.eqv, PyData.eqvAll]
  simp only [PyData.eqv] at h
  rw [h]
  by_cases e1 : p.1 = q.1
  · by_cases e2 : p.2 = q.2
    · simp [e1, e2, Prod.ext_iff]
    · simp [e1, e2, Prod.ext_iff]
  · simp [e1, Prod.ext_iff]
theorem any_qu (gs : List (List Int × Int)) (z : List Int × Int) : ((gs.map quP).any fun y => PyData.eqv y (quP z)) = decide (z ∈ gs) := by
  induction gs with
  | nil => simp
  | cons g r ih =>
    rw [List.map_cons, List.any_cons, ih, eqv_qu]
    by_cases e : g = z
    · simp [e]
    · by_cases m : z ∈ r
      · simp [e, m]
      · simp [e, m, Ne.symm e]
theorem shp_qu (q : List Int × Int) : SeqAt.shaped (quP q) = true := by
  have h := lay_ints q.1
  have d := dep_ints q.1
  unfold SeqAt.shaped
  rw [Bool.and_eq_true]
  refine ⟨by simp [PyData.canLayAll0, quP, PyData.canLay0, h], decide_eq_true ?_⟩
  simp [PyData.depthAll, PyData.depth, quP, d]
theorem dp_qu {K : PySem.W.Frag} {H : Hp} {x : V} {q : List Int × Int} (h : QuV K H x q) : Dp K H x (quP q) := by
  obtain ⟨a, t, rfl, hs, b, rfl, hb⟩ := h
  exact .tup hs (.cons (.tup hb (dp_ints _)) (.cons (.int _) .nil))
/-- those with sides -/
def nzU (qs : List (List Int × Int)) : List (List Int × Int) := qs.filter fun q => q.1.any fun z => decide (z ≠ 0)
def unlikeU (qs : List (List Int × Int)) : List (List Int × Int) := keptU (nzU qs)
theorem nzU_mem {qs : List (List Int × Int)} {q : List Int × Int} (h : q ∈ nzU qs) : q ∈ qs ∧ NonZ q.1 := ⟨(List.mem_filter.mp h).1, (List.mem_filter.mp h).2⟩
theorem unlike_mem {qs : List (List Int × Int)} {q : List Int × Int} (h : q ∈ unlikeU qs) : q ∈ qs ∧ NonZ q.1 := nzU_mem (kept_sub _ _ h)
theorem unlike_len (qs : List (List Int × Int)) : (unlikeU qs).length ≤ qs.length := Nat.le_trans (kept_len _) (List.length_filter_le _ _)
section
variable {P : Program} {w : World} {K : PySem.W.Frag} {mg : Str → Option Value} {base : Heap}
def spUnl (K : PySem.W.Frag) : Sp := fun vs H Q _ => ∃ a xs qs, vs = [.ref a] ∧ SqL K H a xs ∧ Paired (QuV K H) xs qs ∧ (∀ q, q ∈ qs → Q16 q.1 q.2) ∧ qs.length ≤ 60 ∧
  ∀ F zs H', Gr H H' → H F = none → H' F = some (.lst zs) → Paired (QuV K H') zs (unlikeU qs) → Q (.ref F) H'
theorem sc_wunl : FnScope ["questions", "found", "grounds", "sides", "wall", "side"] ["questions"] (defScope s__law_unlike) := ⟨rfl, rfl, rfl, by decide +kernel, rfl, by decide +kernel, by decide +kernel⟩
theorem cl_wunl (D : Df K mg "_law_unlike" s__law_unlike) (B : Blt mg) (CG : Cl P w K mg base 2 "_law_ground" ["sides", "wall"] (spWDiv K nfU)) : Cl P w K mg base 3 "_law_unlike" ["questions"] (spUnl K) := by
  refine D.cl (fun _ _ _ _ _ _ us hl => match us, hl with | [_], _ => rfl) fun f fd F => F.ok sc_wunl (fun vs H Q E h => ?_) (fun cdv A outer s H vs Q E hr h => ?_)
  · obtain ⟨a, xs, qs, rfl, _⟩ := h
    rfl
  obtain ⟨a, xs, qs, rfl, hS, hp, hq, l60, hQ⟩ := h
  refine ⟨_, (pss_cons (ps_par (i := 1) (j := 2) rfl sc_wunl.nd rfl rfl (by decide) rfl rfl (pa_cons (pe_lst pa_nil) (pa_cons (pe_lst pa_nil) pa_nil)) rfl)
    (pss_cons (ps_for PassesOwn.never rfl (pi_list (pv 0)) (pg_tup rfl (pgs_cons (pg_name (i := 3) sc_wunl.nd rfl (Or.inl rfl)) (pgs_cons (pg_name (i := 4) sc_wunl.nd rfl (Or.inl rfl)) pgs_nil)))
      (pss_one (ps_if (pt_cmpR (op_neD hr.units) (pe_lc (own := [("side", 5)]) (g := gName 5) rfl sc_wunl.nd (pi_tup (pv 3)) (blkOk_by (N := ["questions", "found", "grounds", "sides", "wall", "side"]) (sc := defScope s__law_unlike) (by decide +kernel)) (fun _ _ _ _ _ => (pg_name (i := 5) sc_wunl.nd rfl (Or.inl rfl))) (fun _ _ _ _ _ => pts_one (pt_cmpR op_ne (pv 5) pe_int (nomark _))) (fun _ _ _ _ _ => (pv 5))) (pe_lst pa_nil) (nomark _)) (pss_one (ps_if (pt_cmpR (op_notInD (yunits hr)) (pe_cl CG (hr.mono (by decide)) (pa_cons (pv 3) (pa_cons (pv 4) pa_nil))) (pv 2) rfl) (pss_cons (ps_expr (pe_bm PySem.F.plainAttrs_list PySem.F.slot_list_append PySem.F.type_list_append mt_append (pv 2) (pa_cons (pe_cl CG (hr.mono (by decide)) (pa_cons (pv 3) (pa_cons (pv 4) pa_nil))) pa_nil)))
          (pss_one (ps_expr (pe_bm PySem.F.plainAttrs_list PySem.F.slot_list_append PySem.F.type_list_append mt_append (pv 1) (pa_cons (pe_tup (pa_cons (pv 3) (pa_cons (pv 4) pa_nil))) pa_nil))))) pss_nil)) pss_nil)))
    (pss_one (ps_ret (pv 1))))), ?_⟩
  have lx : xs.length = qs.length := paired_len hp
  refine ⟨szL0, fun F nF => ⟨szL0, fun G nG => ⟨_, _, rfl, ?_⟩⟩⟩
  have neFG : F ≠ G := fun e => by rw [← e, upd_same] at nG; cases nG
  have nG0 : H G = none := by rw [upd_ne (Ne.symm neFG)] at nG; exact nG
  have g0 : Gr H (upd (upd H F (.lst [])) G (.lst [])) := ((Gr.refl H).new nF _).new nG _
  have eF : (upd (upd H F (.lst [])) G (.lst [])) F = some (.lst []) := by rw [upd_ne neFG]; exact upd_same
  have eG : (upd (upd H F (.lst [])) G (.lst [])) G = some (.lst []) := upd_same
  let Pv : Nat → L2.St → Hp → Prop := fun i σ H1 => ∃ (zs gs : List V) (c3 c4 c5 : Option V), σ = [some (.ref a), some (.ref F), some (.ref G), c3, c4, c5] ∧ Gr H H1 ∧ H1 F = some (.lst zs) ∧ H1 G = some (.lst gs) ∧ Paired (QuV K H1) zs (unlikeU (qs.take i)) ∧ Paired (QuV K H1) gs ((unlikeU (qs.take i)).map nfU)
  refine ⟨_, rfl, a, rfl, ⟨xs, g0.seqL hS⟩, for_list (xs := xs) Pv ⟨[], [], _, _, _, rfl, g0, eF, eG, .nil, .nil⟩ (fun i σ H1 _ h => ?_) (fun i x σ H1 hx h => ?_) (fun σ H1 h => ?_)⟩
  · obtain ⟨zs, gs, c3, c4, c5, rfl, g, _⟩ := h
    exact g.seqL hS
  · obtain ⟨zs, gs, c3, c4, c5, rfl, g, hF, hG, pz, pg⟩ := h
    obtain ⟨q, eq, hn⟩ := paired_get hp hx
    have iq := (List.getElem?_eq_some_iff.mp eq).1
    have q16 := hq q (List.mem_of_getElem? eq)
    obtain ⟨p, t, rfl, ht, b, rfl, hb⟩ := hn.gr g
    have e3 : nzU (qs.take (i + 1)) = nzU (qs.take i) ++ (if (q.1.any fun z => decide (z ≠ 0)) = true then [q] else []) := ynzf_take eq
    refine ⟨p, _, rfl, ht, rfl, _, _, rfl, _, _, rfl, rfl, ?_⟩
    refine ⟨_, rfl, b, rfl, ⟨_, hb⟩, fun D nD => lc_nz (ns := q.1) nD hb (by have := q16.2.2; omega) (fun z H5 Ky Nx h1 h2 => ⟨rfl, _, rfl, rfl, _, rfl, iteNZ (fun n0 => ⟨_, rfl, h1 n0⟩) h2⟩) (fun H5 hD g5 => ?_)⟩
    refine ⟨szL0, fun N nN => ?_⟩
    have k5 := (Gr.refl H5).new nN (.lst [])
    have kall := g5.trans k5
    refine ⟨_, _, .lst (k5.seqL (SqL.of hD)) (dp_ints _), .lst (SqL.of upd_same) .nil, shp_ints _, by decide, _, rfl, ?_⟩
    rw [eqv_nil]
    have hF5 := kall.lstK hF
    have hG5 := kall.lstK hG
    have g6 := g.trans kall
    have hb6 : SiV K (upd H5 N (.lst [])) (.ref b) q.1 := ⟨b, rfl, kall.seqT hb⟩
    have pz6 : Paired (QuV K (upd H5 N (.lst []))) zs (unlikeU (qs.take i)) := Paired.mapP pz fun _ _ z => QuV.gr z kall
    have pg6 : Paired (QuV K (upd H5 N (.lst []))) gs ((unlikeU (qs.take i)).map nfU) := Paired.mapP pg fun _ _ z => QuV.gr z kall
    generalize upd H5 N (.lst []) = H6 at hF5 hG5 g6 hb6 pz6 pg6 ⊢
    by_cases nz : NonZ q.1
    · have ef : (q.1.filter fun z => decide (z ≠ 0)).isEmpty = false := by
        cases e : (q.1.filter fun z => decide (z ≠ 0)).isEmpty with
        | false => rfl
        | true => exact absurd nz (yfilt_nz.mp e)
      rw [ef]
      refine iteT ?_
      rw [if_pos (show (q.1.any fun z => decide (z ≠ 0)) = true from nz)] at e3
      have tk : unlikeU (qs.take (i + 1)) = if nfU q ∈ (unlikeU (qs.take i)).map nfU then unlikeU (qs.take i) else unlikeU (qs.take i) ++ [q] := by
        unfold unlikeU
        rw [e3, kept_snoc]
      refine ⟨_, rfl, _, rfl, .ref b, q.1, q.2, rfl, hb6, nz, q16, fun v H7 g7 hv => ?_⟩
      have hF7 := g7.lstK hF5
      have hG7 := g7.lstK hG5
      have pg7 : Paired (QuV K H7) gs ((unlikeU (qs.take i)).map nfU) := Paired.mapP pg6 fun _ _ z => QuV.gr z g7
      have pz7 : Paired (QuV K H7) zs (unlikeU (qs.take i)) := Paired.mapP pz6 fun _ _ z => QuV.gr z g7
      refine ⟨_, rfl, _, _, dp_qu hv, .lst (SqL.of hG7) (dp_qus pg7), shp_qu _, shp_qusL _, _, rfl, ?_⟩
      rw [any_qu]
      by_cases hin : nfU q ∈ (unlikeU (qs.take i)).map nfU
      · rw [if_pos hin] at tk
        rw [show (nfU (q.1, q.2)) = nfU q from rfl, decide_eq_true hin]
        exact iteF ⟨zs, gs, _, _, _, rfl, g6.trans g7, hF7, hG7, by rw [tk]; exact pz7, by rw [tk]; exact pg7⟩
      · rw [if_neg hin] at tk
        rw [show (nfU (q.1, q.2)) = nfU q from rfl, decide_eq_false hin]
        refine iteT ⟨_, rfl, .inl ⟨rfl, _, SqL.of hG7⟩, _, rfl, _, rfl, .ref b, q.1, q.2, rfl, (show SiV K H6 (.ref b) q.1 from hb6).gr g7, nz, q16, fun v2 H8 g8 hv2 => ?_⟩
        have hF8 := g8.lstK hF7
        have hG8 := g8.lstK hG7
        have lz : zs.length = (unlikeU (qs.take i)).length := paired_len pz
        have lg : gs.length = (unlikeU (qs.take i)).length := by rw [paired_len pg, List.length_map]
        have lu : (unlikeU (qs.take i)).length ≤ i := Nat.le_trans (unlike_len _) (by rw [List.length_take]; omega)
        refine ⟨G, _, _, rfl, rfl, hG8, small1000 (by omega), ?_⟩
        have t9 : Tst K H8 (upd H8 G (.lst (gs ++ [v2]))) := Tst.put hG8
        have g9 : Gr H (upd H8 G (.lst (gs ++ [v2]))) := ((((g6.trans g7).trans g8).d G).set _).to nG0
        have hF9 : (upd H8 G (.lst (gs ++ [v2]))) F = some (.lst zs) := by rw [upd_ne neFG]; exact hF8
        have hG9 : (upd H8 G (.lst (gs ++ [v2]))) G = some (.lst (gs ++ [v2])) := upd_same
        have t79 := g8.st.trans t9
        have hb9 : SqT K (upd H8 G (.lst (gs ++ [v2]))) b (q.1.map V.int) := t79 _ _ ((g7.seqT (by obtain ⟨b', e, h⟩ := hb6; cases e; exact h)))
        have pz9 : Paired (QuV K (upd H8 G (.lst (gs ++ [v2])))) zs (unlikeU (qs.take i)) := Paired.mapP pz7 fun _ _ z => QuV.st z t79
        have pg9 : Paired (QuV K (upd H8 G (.lst (gs ++ [v2])))) (gs ++ [v2]) ((unlikeU (qs.take i)).map nfU ++ [nfU q]) := paired_app (Paired.mapP pg7 fun _ _ z => QuV.st z t79) (.cons (QuV.st hv2 t9) .nil)
        generalize upd H8 G (.lst (gs ++ [v2])) = H9 at g9 hF9 hG9 hb9 pz9 pg9 ⊢
        refine ⟨_, rfl, .inl ⟨rfl, _, SqL.of hF9⟩, _, rfl, _, rfl, szN (by show 2 ≤ 1000000; decide), fun T nT => ?_⟩
        have kT := (Gr.refl H9).new nT (.tup [.ref b, .int q.2])
        have hF10 := kT.lstK hF9
        have hG10 := kT.lstK hG9
        refine ⟨F, _, _, rfl, rfl, hF10, small1000 (by omega), ?_⟩
        have t11 : Tst K (upd H9 T (.tup [.ref b, .int q.2])) (upd (upd H9 T (.tup [.ref b, .int q.2])) F (.lst (zs ++ [.ref T]))) := Tst.put hF10
        have t9b := kT.st.trans t11
        refine ⟨zs ++ [.ref T], gs ++ [v2], _, _, _, rfl, (((g9.trans kT).d F).set _).to nF, upd_same, by rw [upd_ne (Ne.symm neFG)]; exact hG10, ?_, ?_⟩
        · rw [tk]
          exact paired_app (Paired.mapP pz9 fun _ _ z => QuV.st z t9b) (.cons ⟨T, .ref b, rfl, t11 _ _ (SqT.of upd_same), b, rfl, t9b _ _ hb9⟩ .nil)
        · rw [tk, List.map_append]
          exact Paired.mapP pg9 fun _ _ z => QuV.st z t9b
    · have ef : (q.1.filter fun z => decide (z ≠ 0)).isEmpty = true := yfilt_nz.mpr nz
      rw [ef]
      rw [if_neg (show ¬ (q.1.any fun z => decide (z ≠ 0)) = true from nz), List.append_nil] at e3
      have tk : unlikeU (qs.take (i + 1)) = unlikeU (qs.take i) := by
        unfold unlikeU
        rw [e3]
      exact iteF ⟨zs, gs, _, _, _, rfl, g6, hF5, hG5, by rw [tk]; exact pz6, by rw [tk]; exact pg6⟩
  · obtain ⟨zs, gs, c3, c4, c5, rfl, g, hF, hG, pz, pg⟩ := h
    rw [lx, List.take_length] at pz
    exact ⟨_, rfl, hQ F zs H1 g nF hF pz⟩
end
end SB
namespace SB
open PySem L2 GxR GA RZ
theorem ynonZ_or : ∀ zs : List Int, NonZ zs ∨ zs = List.replicate zs.length 0
  | [] => .inr rfl
  | z :: r => by
    by_cases h : z = 0
    · rcases ynonZ_or r with k | k
      · exact .inl (by unfold NonZ; rw [List.any_cons, Bool.or_eq_true]; exact .inr k)
      · refine .inr ?_
        rw [List.length_cons, List.replicate_succ, ← k, h]
    · exact .inl (nonZ_of List.mem_cons_self h)
/-- the questions that sayings are made of -/
def PoolV (K : PySem.W.Frag) (F : Addr) (d wide : Nat) (qs : List (List Int × Int)) (H : Hp) : Prop := ∃ zs, H F = some (.lst zs) ∧ Paired (QuV K H) zs qs ∧ qs.length ≤ 6 ∧ ∀ q, q ∈ qs → NonZ q.1 ∧ q.1.length = d ∧ (∀ z, z ∈ q.1 → z.natAbs ≤ wide) ∧ q.2.natAbs ≤ wide
section
variable {P : Program} {w : World} {K : PySem.W.Frag} {mg : Str → Option Value} {base : Heap}
def spQs (K : PySem.W.Frag) : Sp := fun vs H Q _ => ∃ dk k d most wide, vs = [.ref dk, .int ((d : Nat) : Int), .int ((most : Nat) : Int), .int ((wide : Nat) : Int)] ∧ Stk dk k H ∧ k ≤ 800000 ∧ 1 ≤ d ∧ d ≤ 4 ∧ most ≤ 6 ∧ 1 ≤ wide ∧ wide ≤ 9 ∧
  ∀ F qs H', GrD dk H H' → Stk dk (k + 60) H' → F ≠ dk → PoolV K F d wide qs H' → Q (.ref F) H'
theorem sc_qs : FnScope ["well", "d", "most", "wide", "found", "turn", "side", "sides"] ["well", "d", "most", "wide"] (defScope s__law_questions) := ⟨rfl, rfl, rfl, by decide +kernel, rfl, by decide +kernel, by decide +kernel⟩
theorem cl_qs (D : Df K mg "_law_questions" s__law_questions) (B : Blt mg) (CDR : Cl P w K mg base 1 "_law_draw" ["well", "many"] spPick) (CLU : Cl P w K mg base 3 "_law_unlike" ["questions"] (spUnl K)) : Cl P w K mg base 4 "_law_questions" ["well", "d", "most", "wide"] (spQs K) := by
  refine D.cl (fun _ _ _ _ _ _ us hl => match us, hl with | [_, _, _, _], _ => rfl) fun f fd F => F.ok sc_qs (fun vs H Q E h => ?_) (fun cdv A outer s H vs Q E hr h => ?_)
  · obtain ⟨dk, k, d, most, wide, rfl, _⟩ := h
    rfl
  obtain ⟨dk, k, d, most, wide, rfl, sk, k8, d1, d4, m6, w1, w9, hQ⟩ := h
  refine ⟨_, (pss_cons (ps_set (i := 4) sc_qs.nd rfl (.inl rfl) (pe_lst pa_nil))
    (pss_cons (ps_for PassesOwn.never rfl (pi_range1 rfl B.rng (pa_cons (pe_cl CDR (hr.mono (by decide)) (pa_cons (pv 0) (pa_cons (pe_op op_add (pv 2) pe_int) pa_nil))) pa_nil)) (pg_name (i := 5) sc_qs.nd rfl (Or.inl rfl))
      (pss_cons (ps_setLc (i := 7) (own := [("side", 6)]) (g := gName 6) rfl sc_qs.nd rfl rfl rfl (pi_range1 rfl B.rng (pa_cons (pv 1) pa_nil)) (blkOk_by (N := ["well", "d", "most", "wide", "found", "turn", "side", "sides"]) (sc := defScope s__law_questions) (by decide +kernel)) (fun _ _ _ _ _ => (pg_name (i := 6) sc_qs.nd rfl (Or.inl rfl))) (fun _ _ _ _ _ => pts_nil) (fun _ _ _ _ _ => (pe_op op_sub (pe_cl CDR (hr.mono (by decide)) (pa_cons (pv 0) (pa_cons (pe_op op_add (pe_op op_mul pe_int (pv 3)) pe_int) pa_nil))) (pv 3))))
      (pss_cons (ps_if (pt_cmpR (op_eqD hr.units) (pv 7) (pe_op op_rep (pe_lst (pa_cons pe_int pa_nil)) (pv 1)) (nomark _)) (pss_one (ps_asg pe_int (pg_sub (pv 7) (pe_cl CDR (hr.mono (by decide)) (pa_cons (pv 0) (pa_cons (pv 1) pa_nil))) set_list))) pss_nil)
      (pss_one (ps_expr (pe_bm PySem.F.plainAttrs_list PySem.F.slot_list_append PySem.F.type_list_append mt_append (pv 4) (pa_cons (pe_tup (pa_cons (pe_callTy call_tuple_of rfl B.tup bootTup (pa_cons (pv 7) pa_nil)) (pa_cons (pe_op op_sub (pe_cl CDR (hr.mono (by decide)) (pa_cons (pv 0) (pa_cons (pe_op op_add (pe_op op_mul pe_int (pv 3)) pe_int) pa_nil))) (pv 3)) pa_nil))) pa_nil)))))))
    (pss_one (ps_ret (pe_cl CLU (hr.mono (by decide)) (pa_cons (pv 4) pa_nil)))))), ?_⟩
  refine ⟨szL0, fun F nF => ?_⟩
  have nFd := sk.ne nF
  have g0 : GrD dk H (upd H F (.lst [])) := (GrD.refl dk H).put nF _
  have s0 : Stk dk k (upd H F (.lst [])) := sk.off nFd
  have eF : (upd H F (.lst [])) F = some (.lst []) := upd_same
  generalize upd H F (.lst []) = H0 at g0 s0 eF ⊢
  refine ⟨_, rfl, _, rfl, _, _, rfl, rfl, dk, _, _, rfl, s0, by omega, by omega, big_take (n := most + 1) (by omega), fun t H1 t0 t1 g1 s1 => ?_⟩
  have eF1 := GrDL.lst g1 nFd eF
  refine ⟨_, rfl, by omega, by omega, for_range (lo := 0) (fun i σ H' => ∃ (zs : List V) (qs : List (List Int × Int)) (c5 c6 c7 : Option V), σ = [some (.ref dk), some (.int ((d : Nat) : Int)), some (.int ((most : Nat) : Int)), some (.int ((wide : Nat) : Int)), some (.ref F), c5, c6, c7] ∧ H' F = some (.lst zs) ∧ Paired (QuV K H') zs qs ∧ qs.length = i ∧ (∀ q, q ∈ qs → q.1.length = d ∧ (∀ z, z ∈ q.1 → z.natAbs ≤ wide) ∧ q.2.natAbs ≤ wide) ∧ GrD dk H H' ∧ Stk dk (k + 1 + 7 * i) H') ⟨[], [], _, _, _, rfl, eF1, .nil, rfl, fun q h => (by cases h), g0.trans g1, s1⟩ (fun i σ Hi hi h => ?_) (fun σ H2 h => ?_)⟩
  · obtain ⟨zs0, qs, c5, c6, c7, rfl, hF, pz, lq, hq, gi, ski⟩ := h
    have i6 : i < 6 := by omega
    refine ⟨_, rfl, _, rfl, by omega, by omega, fun D nD => ?_⟩
    rw [Int.toNat_natCast]
    have nDd := ski.ne nD
    refine lc_stkR (K := K) (c := 1) (fun _ y _ => ∃ z : Int, y = .int z ∧ z.natAbs ≤ wide) (fun _ _ _ _ h _ => h) nD ski (by omega) (fun j H3 Kc hj g3 s3 kc => ?_) (fun ys H3 hD hl g3 s3 hR => ?_)
    · refine ⟨rfl, _, rfl, _, rfl, _, _, rfl, rfl, .inl ⟨by decide, by decide⟩, _, _, rfl, rfl, dk, _, _, rfl, s3, by omega, by omega, big_take (n := 2 * wide + 1) (by omega), fun u H4 u0 u1 g4 s4 => ?_⟩
      exact ⟨_, rfl, _, _, rfl, rfl, kc _ _ g4 s4 ⟨_, rfl, by omega⟩⟩
    obtain ⟨zs, rfl, z9⟩ := ints_of (b := wide) fun j y e => hR j y e
    rw [List.length_map] at hl
    clear hR
    refine seq_join (fun σ' H' => ∃ ws : List Int, σ' = [some (.ref dk), some (.int ((d : Nat) : Int)), some (.int ((most : Nat) : Int)), some (.int ((wide : Nat) : Int)), some (.ref F), some (.int (0 + (i : Int))), c6, some (.ref D)] ∧ H' D = some (.lst (ws.map V.int)) ∧ ws.length = d ∧ (∀ z, z ∈ ws → z.natAbs ≤ wide) ∧ GrD dk Hi H' ∧ Stk dk (k + 1 + 7 * i + 4) H') (fun σ' H3 h => ?_) (fun Kn hK => hK _ _ ⟨zs, rfl, hD, hl, z9, g3, s3.more (by omega)⟩)
    clear hl hD g3 s3 z9
    obtain ⟨zs, rfl, hD, hl, z9, g3, s3⟩ := h
    refine seq_join (fun σ' H' => ∃ ws : List Int, σ' = [some (.ref dk), some (.int ((d : Nat) : Int)), some (.int ((most : Nat) : Int)), some (.int ((wide : Nat) : Int)), some (.ref F), some (.int (0 + (i : Int))), c6, some (.ref D)] ∧ H' D = some (.lst (ws.map V.int)) ∧ ws.length = d ∧ (∀ z, z ∈ ws → z.natAbs ≤ wide) ∧ GrD dk Hi H' ∧ Stk dk (k + 1 + 7 * i + 5) H') (fun σ' H4 h => ?_) (fun Kn hK => ?_)
    · obtain ⟨ws, rfl, hD4, lw, w4, g4, s4⟩ := h
      have hF4 := GrDL.lst g4 nFd hF
      refine ⟨_, rfl, .inl ⟨rfl, _, SqL.of hF4⟩, _, rfl, D, _, rfl, .inl ⟨SqL.of hD4, fun p1 n1 => ?_⟩⟩
      have r1 := (Gr.refl H4).new n1 (.tup (ws.map V.int))
      have e1 : SqT K (upd H4 p1 (.tup (ws.map V.int))) p1 (ws.map V.int) := SqT.of upd_same
      have s5 := s4.gr r1
      have g5 := g4.gr r1
      generalize upd H4 p1 (.tup (ws.map V.int)) = H5 at e1 s5 g5 ⊢
      refine ⟨_, rfl, _, rfl, _, _, rfl, rfl, .inl ⟨by decide, by decide⟩, _, _, rfl, rfl, dk, _, _, rfl, s5, by omega, by omega, big_take (n := 2 * wide + 1) (by omega), fun u H6 u0 u1 g6 s6 => ?_⟩
      refine ⟨_, rfl, _, _, rfl, rfl, szN (by show 2 ≤ 1000000; decide), fun p2 n2 => ?_⟩
      have r2 := (Gr.refl H6).new n2 (.tup [.ref p1, .int (u - (wide : Int))])
      have g7 := (g5.trans g6).gr r2
      have s7 := s6.gr r2
      have hF7 := GrDL.lst g7 nFd hF
      have hx : QuV K (upd H6 p2 (.tup [.ref p1, .int (u - (wide : Int))])) (.ref p2) (ws, u - (wide : Int)) := ⟨p2, .ref p1, rfl, SqT.of upd_same, p1, rfl, r2.seqT ((g6.sk s5) _ _ e1)⟩
      have lz0 : zs0.length = i := by rw [paired_len pz, lq]
      have st7 : Tst K Hi (upd H6 p2 (.tup [.ref p1, .int (u - (wide : Int))])) := g7.sk ski
      have hp7 : Paired (QuV K (upd H6 p2 (.tup [.ref p1, .int (u - (wide : Int))]))) zs0 qs := Paired.mapP pz fun _ _ z => QuV.st z st7
      generalize upd H6 p2 (.tup [.ref p1, .int (u - (wide : Int))]) = H7 at g7 s7 hF7 hx hp7 ⊢
      refine ⟨F, _, _, rfl, rfl, hF7, small1000 (by omega), ?_⟩
      have tp : Tst K H7 (upd H7 F (.lst (zs0 ++ [.ref p2]))) := Tst.put hF7
      refine ⟨zs0 ++ [.ref p2], qs ++ [(ws, u - (wide : Int))], _, _, _, rfl, upd_same, paired_app (Paired.mapP hp7 fun _ _ z => QuV.st z tp) (.cons (QuV.st hx tp) .nil), by rw [List.length_append, lq]; rfl, fun q hq2 => ?_, (gi.trans g7).put nF _, (s7.off nFd).more (by omega)⟩
      rcases List.mem_append.mp hq2 with h | h
      · exact hq q h
      · rw [List.mem_singleton.mp h]
        exact ⟨lw, w4, by show (u - (wide : Int)).natAbs ≤ wide; omega⟩
    · refine ⟨_, rfl, szN (by show 1 ≤ 1000000; decide), fun o0 w0 => ?_⟩
      have f0 := (Gr.refl H3).new w0 (.lst [.int 0])
      refine ⟨_, rfl, o0, _, _, rfl, rfl, upd_same, by omega, by omega, by rw [Int.toNat_natCast]; exact szN (by show 1 * d ≤ 1000000; omega), fun o1 w1 => ?_⟩
      have ez : (List.replicate ((d : Nat) : Int).toNat [V.int 0]).flatten = (List.replicate d (0 : Int)).map V.int := by rw [Int.toNat_natCast, flat_zero]
      rw [ez]
      have f1 := f0.new w1 (.lst ((List.replicate d (0 : Int)).map V.int))
      have e1 : (upd (upd H3 o0 (.lst [.int 0])) o1 (.lst ((List.replicate d (0 : Int)).map V.int))) o1 = some (.lst ((List.replicate d (0 : Int)).map V.int)) := upd_same
      have hDw := f1.lstK hD
      have sw := s3.gr f1
      have gw := g3.gr f1
      generalize upd (upd H3 o0 (.lst [.int 0])) o1 (.lst ((List.replicate d (0 : Int)).map V.int)) = W0 at e1 hDw sw gw ⊢
      clear f1 f0 ez
      refine ⟨.list (zs.map PyData.int), .list ((List.replicate d (0 : Int)).map PyData.int), .lst (SqL.of hDw) (dp_ints zs), .lst (SqL.of e1) (dp_ints _), shp_ints zs, shp_ints _, _, rfl, ?_⟩
      rw [eqv_ints]
      by_cases cz : zs = List.replicate d 0
      · refine iteP cz ?_
        refine ⟨_, rfl, _, rfl, _, rfl, dk, _, _, rfl, sw, by omega, by omega, big_take (n := d) (by omega), fun u H5 u0 u1 g5 s5 => ?_⟩
        obtain ⟨ku, rfl⟩ : ∃ j : Nat, u = (j : Int) := ⟨u.toNat, by omega⟩
        have hD5 := GrDL.lst g5 nDd hDw
        refine ⟨D, _, _, ku, rfl, rfl, hD5, ixN_nat (by rw [List.length_map, hl]; omega), ?_⟩
        refine hK _ _ ⟨zs.set ku 1, rfl, by rw [upd_same, List.map_set], by rw [List.length_set, hl], fun z hz => ?_, (gw.trans g5).put nD _, (s5.off nDd).more (by omega)⟩
        rcases List.mem_or_eq_of_mem_set hz with h | h
        · exact z9 z h
        · rw [h]
          show (1 : Nat) ≤ wide
          omega
      · exact iteN cz (hK _ _ ⟨zs, rfl, hDw, hl, z9, gw, sw.more (by omega)⟩)
  · obtain ⟨zs, qs, c5, c6, c7, rfl, hF, pz, lq, hq, g, sk2⟩ := h
    have q6 : qs.length ≤ 6 := by omega
    refine ⟨_, rfl, F, zs, qs, rfl, SqL.of hF, pz, fun q h => ?_, by omega, fun F2 zs2 H3 g3 nF2 hF2 pz2 => ?_⟩
    · obtain ⟨a1, a2, a3⟩ := hq q h
      exact ⟨fun z hz => Nat.lt_of_le_of_lt (a2 z hz) (Nat.lt_of_le_of_lt w9 (by decide)), Nat.lt_of_le_of_lt a3 (Nat.lt_of_le_of_lt w9 (by decide)), by omega⟩
    · have nF2d := sk2.ne nF2
      refine hQ F2 _ H3 (g.gr g3) ((sk2.gr g3).more (by omega)) nF2d ⟨zs2, hF2, pz2, Nat.le_trans (unlike_len qs) q6, fun q h => ?_⟩
      obtain ⟨m1, m2⟩ := unlike_mem h
      exact ⟨m2, hq q m1⟩
end
end SB
namespace SB
open PySem L2 GxR GA RZ RP
/-! ### sayings -/
inductive Say where
  | q (a : Int) (ns : List Int) (wl : Int)
  | nt (s : Say)
  | bo (s t : Say)
  | ei (s t : Say)
def wordA (a : Int) : Str := if a = -1 then "less" else if a = 0 then "is" else "more"
def wordS : Say → Str
  | .q a _ _ => wordA a
  | .nt _ => "not"
  | .bo _ _ => "both"
  | .ei _ _ => "either"
def partsS : Say → List Say
  | .q _ _ _ => []
  | .nt s => [s]
  | .bo s t => [s, t]
  | .ei s t => [s, t]
def isQ : Say → Bool
  | .q _ _ _ => true
  | _ => false
def SayV (K : PySem.W.Frag) (H : Hp) : Say → V → Prop
  | .q a ns wl => fun x => ∃ p s, x = .ref p ∧ SqT K H p [.str (wordA a), s, .int wl] ∧ SiV K H s ns
  | .nt s => fun x => ∃ p y, x = .ref p ∧ SqT K H p [.str "not", y] ∧ SayV K H s y
  | .bo s t => fun x => ∃ p y z, x = .ref p ∧ SqT K H p [.str "both", y, z] ∧ SayV K H s y ∧ SayV K H t z
  | .ei s t => fun x => ∃ p y z, x = .ref p ∧ SqT K H p [.str "either", y, z] ∧ SayV K H s y ∧ SayV K H t z
theorem SayV.st {K : PySem.W.Frag} {H H' : Hp} (t : Tst K H H') : ∀ {s : Say} {x : V}, SayV K H s x → SayV K H' s x
  | .q a ns wl, x, h => let ⟨p, s, e, h1, h2⟩ := h; ⟨p, s, e, t _ _ h1, h2.st t⟩
  | .nt s, x, h => let ⟨p, y, e, h1, h2⟩ := h; ⟨p, y, e, t _ _ h1, SayV.st t h2⟩
  | .bo s u, x, h => let ⟨p, y, z, e, h1, h2, h3⟩ := h; ⟨p, y, z, e, t _ _ h1, SayV.st t h2, SayV.st t h3⟩
  | .ei s u, x, h => let ⟨p, y, z, e, h1, h2, h3⟩ := h; ⟨p, y, z, e, t _ _ h1, SayV.st t h2, SayV.st t h3⟩
theorem SayV.gr {K : PySem.W.Frag} {H H' : Hp} (g : Gr H H') {s : Say} {x : V} (h : SayV K H s x) : SayV K H' s x := SayV.st g.st h
theorem SayV.parts {K : PySem.W.Frag} {H : Hp} : ∀ {s : Say} {x : V}, SayV K H s x → isQ s = false → ∃ p ys, x = .ref p ∧ SqT K H p (.str (wordS s) :: ys) ∧ Paired (fun y t => SayV K H t y) ys (partsS s)
  | .q _ _ _, _, _, e => by cases e
  | .nt s, x, h, _ => let ⟨p, y, e, h1, h2⟩ := h; ⟨p, [y], e, h1, .cons h2 .nil⟩
  | .bo s u, x, h, _ => let ⟨p, y, z, e, h1, h2, h3⟩ := h; ⟨p, [y, z], e, h1, .cons h2 (.cons h3 .nil)⟩
  | .ei s u, x, h, _ => let ⟨p, y, z, e, h1, h2, h3⟩ := h; ⟨p, [y, z], e, h1, .cons h2 (.cons h3 .nil)⟩
def SayOk (d : Nat) : Say → Prop
  | .q a ns wl => -1 ≤ a ∧ a ≤ 1 ∧ ns.length = d ∧ (∀ z, z ∈ ns → z.natAbs < 2 ^ 4) ∧ wl.natAbs < 2 ^ 4
  | .nt s => SayOk d s
  | .bo s t => SayOk d s ∧ SayOk d t
  | .ei s t => SayOk d s ∧ SayOk d t
def depS : Say → Nat
  | .q _ _ _ => 1
  | .nt s => depS s + 1
  | .bo s t => max (depS s) (depS t) + 1
  | .ei s t => max (depS s) (depS t) + 1
def askU : Say → List (List Int × Int)
  | .q _ ns wl => [(ns, wl)]
  | .nt s => askU s
  | .bo s t => askU s ++ askU t
  | .ei s t => askU s ++ askU t
def holdU (us : List (Int × Int)) : Say → Bool
  | .q a ns wl => decide (ansU (ns, wl) us = a)
  | .nt s => !holdU us s
  | .bo s t => holdU us s && holdU us t
  | .ei s t => holdU us s || holdU us t
theorem askU_parts : ∀ {s : Say}, isQ s = false → askU s = (partsS s).flatMap askU
  | .q _ _ _, e => by cases e
  | .nt s, _ => by simp [askU, partsS]
  | .bo s t, _ => by simp [askU, partsS]
  | .ei s t, _ => by simp [askU, partsS]
theorem part_dep : ∀ {s t : Say}, t ∈ partsS s → depS t < depS s
  | .q _ _ _, t, h => by cases h
  | .nt s, t, h => by
    rw [List.mem_singleton.mp h]
    exact Nat.lt_succ_self _
  | .bo s u, t, h => by
    simp only [partsS, List.mem_cons, List.not_mem_nil, or_false] at h
    show depS t < max (depS s) (depS u) + 1
    rcases h with rfl | rfl <;> omega
  | .ei s u, t, h => by
    simp only [partsS, List.mem_cons, List.not_mem_nil, or_false] at h
    show depS t < max (depS s) (depS u) + 1
    rcases h with rfl | rfl <;> omega
theorem part_ok {d : Nat} : ∀ {s t : Say}, SayOk d s → t ∈ partsS s → SayOk d t
  | .q _ _ _, t, _, h => by cases h
  | .nt s, t, k, h => by
    rw [List.mem_singleton.mp h]
    exact k
  | .bo s u, t, k, h => by
    simp only [partsS, List.mem_cons, List.not_mem_nil, or_false] at h
    rcases h with rfl | rfl
    · exact k.1
    · exact k.2
  | .ei s u, t, k, h => by
    simp only [partsS, List.mem_cons, List.not_mem_nil, or_false] at h
    rcases h with rfl | rfl
    · exact k.1
    · exact k.2
theorem part_len {s t : Say} (h : t ∈ partsS s) : (askU t).length ≤ (askU s).length := by
  cases s with
  | q => cases h
  | nt s =>
    rw [List.mem_singleton.mp h]
    exact Nat.le_refl _
  | bo s u =>
    simp only [partsS, List.mem_cons, List.not_mem_nil, or_false] at h
    simp only [askU, List.length_append]
    rcases h with rfl | rfl <;> omega
  | ei s u =>
    simp only [partsS, List.mem_cons, List.not_mem_nil, or_false] at h
    simp only [askU, List.length_append]
    rcases h with rfl | rfl <;> omega
theorem dep_pos : ∀ s : Say, 1 ≤ depS s
  | .q _ _ _ => Nat.le_refl _
  | .nt s => Nat.succ_le_succ (Nat.zero_le _)
  | .bo s t => Nat.succ_le_succ (Nat.zero_le _)
  | .ei s t => Nat.succ_le_succ (Nat.zero_le _)
theorem ask_ok {d : Nat} : ∀ {s : Say}, SayOk d s → ∀ q, q ∈ askU s → q.1.length = d ∧ (∀ z, z ∈ q.1 → z.natAbs < 2 ^ 4) ∧ q.2.natAbs < 2 ^ 4
  | .q a ns wl, h, q, hq => by
    rw [List.mem_singleton.mp hq]
    exact ⟨h.2.2.1, h.2.2.2.1, h.2.2.2.2⟩
  | .nt s, h, q, hq => ask_ok (s := s) h q hq
  | .bo s t, h, q, hq => (List.mem_append.mp hq).elim (ask_ok (s := s) h.1 q) (ask_ok (s := t) h.2 q)
  | .ei s t, h, q, hq => (List.mem_append.mp hq).elim (ask_ok (s := s) h.1 q) (ask_ok (s := t) h.2 q)
theorem PoolV.grd {K : PySem.W.Frag} {F dk : Addr} {d wide m : Nat} {qs : List (List Int × Int)} {H H' : Hp} (h : PoolV K F d wide qs H) (g : GrD dk H H') (sk : Stk dk m H) (n : F ≠ dk) : PoolV K F d wide qs H' :=
  let ⟨zs, a, b, c⟩ := h; ⟨zs, GrDL.lst g n a, Paired.mapP b fun _ _ z => QuV.st z (g.sk sk), c⟩
/-- draws for a saying -/
def cD : Nat → Nat
  | 0 => 4
  | n + 1 => 2 * cD n + 2
theorem cD_pos : ∀ n, 4 ≤ cD n
  | 0 => Nat.le_refl _
  | n + 1 => by have := cD_pos n; show 4 ≤ 2 * cD n + 2; omega
theorem flat_zeroT (n : Nat) : (List.replicate n [V.int 0]).flatten = (List.replicate n (0 : Int)).map V.int := flat_zero n
/-- (0,) * d -/
theorem rep0 {K : PySem.W.Frag} {H : Hp} {p : Addr} {d : Nat} {Kc : VK} (hp : SqT K H p [.int 0]) (hd : d ≤ 1000) (cont : ∀ c H', Gr H H' → SqT K H' c ((List.replicate d (0 : Int)).map V.int) → Kc (.ref c) H') : rRepA K (.ref p) (.int ((d : Nat) : Int)) H Kc := by
  refine ⟨p, _, _, rfl, rfl, hp, List.cons_ne_nil _ _, by omega, by omega, by show 1 ≤ 1000; decide, fun e => ?_, fun _ c nc => ?_⟩
  · have : d = 1 := by omega
    subst this
    exact cont p H (Gr.refl _) hp
  · have ez : (List.replicate ((d : Nat) : Int).toNat [V.int 0]).flatten = (List.replicate d (0 : Int)).map V.int := by rw [Int.toNat_natCast, flat_zero]
    rw [ez]
    exact cont c _ ((Gr.refl _).new nc _) (SqT.of upd_same)
section
variable {P : Program} {w : World} {K : PySem.W.Frag} {mg : Str → Option Value} {base : Heap}
def spSay (K : PySem.W.Frag) (n : Nat) : Sp := fun vs H Q _ => ∃ dk k d m F qs, vs = [.ref dk, .int ((d : Nat) : Int), .int ((m : Nat) : Int), .ref F] ∧ Stk dk k H ∧ k + cD n ≤ 900000 ∧ 1 ≤ d ∧ d ≤ 4 ∧ 1 ≤ m ∧ m ≤ n ∧ F ≠ dk ∧ PoolV K F d 3 qs H ∧
  ∀ v s H', GrD dk H H' → Stk dk (k + cD n) H' → SayV K H' s v → SayOk d s → depS s ≤ n → (askU s).length ≤ 2 ^ n → Q v H'
theorem sc_say : FnScope ["well", "d", "deep", "pool", "way", "word", "by", "sides", "wall", "side"] ["well", "d", "deep", "pool"] (defScope s__law_saying) := ⟨rfl, rfl, rfl, by decide +kernel, rfl, by decide +kernel, by decide +kernel⟩
theorem ok_say {n : Nat} {f g : Addr} {fd gd : FuncData} (F : Fun K "_law_saying" "_law_saying" s__law_saying f fd) (B : Blt mg) (CDR : Cl P w K mg base 1 "_law_draw" ["well", "many"] spPick) (G : FnOk P w K mg base CX0 (n + 1) g gd ["well", "d", "deep", "pool"] (spSay K n)) (bG : Binds K gd ["well", "d", "deep", "pool"] []) (kG : PySem.W.keepIn K (.ref g) = true) (mG : mg "_law_saying" = some (.ref g)) :
    FnOk P w K mg base CX0 (n + 2) f fd ["well", "d", "deep", "pool"] (spSay K (n + 1)) := by
  refine F.ok sc_say (fun vs H Q E h => ?_) (fun cdv A outer s H vs Q E hr h => ?_)
  · obtain ⟨dk, k, d, m, F, qs, rfl, _⟩ := h
    rfl
  obtain ⟨dk, k, d, m, F, qs, rfl, sk, k8, d1, d4, m1, mn, nF, hP, hQ⟩ := h
  have h1 : (1 : Nat) ≤ n + 1 := Nat.succ_le_succ (Nat.zero_le _)
  refine ⟨_, (pss_cons (ps_set (i := 4) sc_say.nd rfl (.inl rfl) (pe_ifExp (pt_cmpR op_gt (pv 2) pe_int (nomark _)) (pe_cl CDR (hr.mono h1) (pa_cons (pv 0) (pa_cons pe_int pa_nil))) pe_int))
    (pss_cons (ps_if (pt_cmpR op_lt (pv 4) pe_int (nomark _)) (pss_cons (ps_asg (pe_tup (pa_cons (pe_ix ix_list (pe_lst (pa_cons pe_str (pa_cons pe_str (pa_cons pe_str pa_nil)))) (pe_cl CDR (hr.mono h1) (pa_cons (pv 0) (pa_cons pe_int pa_nil))) (fun _ _ => rfl)) (pa_cons (pe_ix ix_list (pe_lst (pa_cons pe_int (pa_cons (pe_un un_neg pe_int) (pa_cons pe_int (pa_cons (pe_un un_neg pe_int) pa_nil))))) (pe_cl CDR (hr.mono h1) (pa_cons (pv 0) (pa_cons pe_int pa_nil))) (fun _ _ => rfl)) pa_nil))) (pg_tup rfl (pgs_cons (pg_name (i := 5) sc_say.nd rfl (Or.inl rfl)) (pgs_cons (pg_name (i := 6) sc_say.nd rfl (Or.inr rfl)) pgs_nil))))
      (pss_cons (ps_if (PW.pt (by exact (pw_or (pt_cmpR (op_eqD hr.units) (pv 3) (pe_lst pa_nil) (nomark _)) (pw_or1 (pt_cmpR op_eq (pe_cl CDR (hr.mono h1) (pa_cons (pv 0) (pa_cons pe_int pa_nil))) pe_int (nomark _)))))) (pss_one (ps_ret (pe_tup (pa_cons (pv 5) (pa_cons (pe_op op_repA (pe_tup (pa_cons pe_int pa_nil)) (pv 1)) (pa_cons (pe_op op_sub (pe_cl CDR (hr.mono h1) (pa_cons (pv 0) (pa_cons pe_int pa_nil))) pe_int) pa_nil)))))) pss_nil)
      (pss_cons (ps_asg (pe_ix ix_list (pv 3) (pe_cl CDR (hr.mono h1) (pa_cons (pv 0) (pa_cons (pe_len (pv 3) B.len) pa_nil))) (fun _ _ => rfl)) (pg_tup rfl (pgs_cons (pg_name (i := 7) sc_say.nd rfl (Or.inl rfl)) (pgs_cons (pg_name (i := 8) sc_say.nd rfl (Or.inl rfl)) pgs_nil))))
      (pss_one (ps_ret (pe_tup (pa_cons (pv 5) (pa_cons (pe_callTy call_tuple_of rfl B.tup bootTup (pa_cons (pe_lc (own := [("side", 9)]) (g := gName 9) rfl sc_say.nd (pi_tup (pv 7)) (blkOk_by (N := ["well", "d", "deep", "pool", "way", "word", "by", "sides", "wall", "side"]) (sc := defScope s__law_saying) (by decide +kernel)) (fun _ _ _ _ _ => (pg_name (i := 9) sc_say.nd rfl (Or.inl rfl))) (fun _ _ _ _ _ => pts_nil) (fun _ _ _ _ _ => (pe_op op_mul (pv 6) (pv 9)))) pa_nil)) (pa_cons (pe_op op_mul (pv 6) (pv 8)) pa_nil))))))))) pss_nil)
    (pss_cons (ps_if (pt_cmpR op_lt (pv 4) pe_int (nomark _)) (pss_one (ps_ret (pe_tup (pa_cons pe_str (pa_cons (pe_call G hr rfl mG kG bG .nil pass0 (pa_cons (pv 0) (pa_cons (pv 1) (pa_cons (pe_op op_sub (pv 2) pe_int) (pa_cons (pv 3) pa_nil))))) pa_nil))))) pss_nil)
    (pss_cons (ps_set (i := 5) sc_say.nd rfl (.inl rfl) (pe_ix ix_list (pe_lst (pa_cons pe_str (pa_cons pe_str pa_nil))) (pe_cl CDR (hr.mono h1) (pa_cons (pv 0) (pa_cons pe_int pa_nil))) (fun _ _ => rfl)))
    (pss_one (ps_ret (pe_tup (pa_cons (pv 5) (pa_cons (pe_call G hr rfl mG kG bG .nil pass0 (pa_cons (pv 0) (pa_cons (pv 1) (pa_cons (pe_op op_sub (pv 2) pe_int) (pa_cons (pv 3) pa_nil))))) (pa_cons (pe_call G hr rfl mG kG bG .nil pass0 (pa_cons (pv 0) (pa_cons (pv 1) (pa_cons (pe_callB (call_min2 rfl) rfl B.min PyProof.Rows.boot_min (pa_cons (pe_op op_sub (pv 2) pe_int) (pa_cons pe_int pa_nil))) (pa_cons (pv 3) pa_nil))))) pa_nil)))))))))), ?_⟩
  have cp := cD_pos n
  have cs : cD (n + 1) = 2 * cD n + 2 := rfl
  have pw : 1 ≤ 2 ^ n := Nat.one_le_two_pow
  have pws : 2 ^ (n + 1) = 2 * 2 ^ n := by rw [Nat.pow_succ]; omega
  have finq : ∀ (Hn : Hp) (a : Int) (sv : V) (ns : List Int) (wl : Int), GrD dk H Hn → Stk dk (k + cD (n + 1)) Hn → SiV K Hn sv ns → ns.length = d → (∀ z, z ∈ ns → z.natAbs < 2 ^ 4) → wl.natAbs < 2 ^ 4 → -1 ≤ a → a ≤ 1 → ∀ T, Hn T = none → Q (.ref T) (upd Hn T (.tup [.str (wordA a), sv, .int wl])) := fun Hn a sv ns wl g s0 hs hl hn hw a0 a1 T nT => by
    have r := (Gr.refl Hn).new nT (.tup [.str (wordA a), sv, .int wl])
    exact hQ _ (.q a ns wl) _ (g.gr r) (s0.gr r) ⟨T, sv, rfl, SqT.of upd_same, hs.gr r⟩ ⟨a0, a1, hl, hn, hw⟩ (by show 1 ≤ n + 1; omega) (by show 1 ≤ 2 ^ (n + 1); omega)
  refine seq_join (fun σ' H' => ∃ u : Int, σ' = [some (.ref dk), some (.int ((d : Nat) : Int)), some (.int ((m : Nat) : Int)), some (.ref F), some (.int u), none, none, none, none, none] ∧ 0 ≤ u ∧ (m ≤ 1 → u = 0) ∧ GrD dk H H' ∧ Stk dk (k + 1) H') (fun σ' H1 h => ?_) (fun Kn hK => ?_)
  rotate_left
  · refine ⟨_, rfl, _, _, rfl, rfl, _, rfl, ?_⟩
    by_cases c : ((m : Nat) : Int) > 1
    · refine iteP c ⟨_, rfl, dk, 8, _, rfl, sk, by omega, by decide, by decide +kernel, fun t H2 t0 t1 g2 s2 => ?_⟩
      exact hK _ _ ⟨t, rfl, t0, fun e => by omega, g2, s2⟩
    · exact iteN c (hK _ _ ⟨0, rfl, Int.le_refl _, fun _ => rfl, GrD.refl _ _, sk.more (by omega)⟩)
  obtain ⟨u, rfl, u0, um, g1, s1⟩ := h
  have hP1 := hP.grd g1 sk nF
  refine ⟨_, rfl, _, _, rfl, rfl, _, rfl, ?_⟩
  by_cases c3 : u < 3
  · refine iteP c3 ?_
    refine ⟨szN (by show 3 ≤ 1000000; decide), fun L nL => ?_⟩
    have rL := (Gr.refl H1).new nL (.lst [.str "less", .str "is", .str "more"])
    have eL : (upd H1 L (.lst [.str "less", .str "is", .str "more"])) L = some (.lst [.str "less", .str "is", .str "more"]) := upd_same
    have nLd := s1.ne nL
    have s1' := s1.gr rL
    have g1' := g1.gr rL
    have hP1' := hP1.grd (rL.d dk) s1 nF
    generalize upd H1 L (.lst [.str "less", .str "is", .str "more"]) = H2 at eL s1' g1' hP1' ⊢
    refine ⟨_, rfl, dk, 3, _, rfl, s1', by omega, by decide, by decide +kernel, fun t H3 t0 t1 g3 s3 => ?_⟩
    have at1 : atI ([.str "less", .str "is", .str "more"] : List V) t = some (.str (wordA (t - 1))) := by
      have : t = 0 ∨ t = 1 ∨ t = 2 := by omega
      rcases this with rfl | rfl | rfl <;> rfl
    refine ⟨L, _, _, _, rfl, rfl, SqL.of (GrDL.lst g3 nLd eL), at1, ?_⟩
    have hP3 := hP1'.grd g3 s1' nF
    have g13 := g1'.trans g3
    clear eL nLd rL
    refine ⟨_, rfl, _, rfl, szN (by show 4 ≤ 1000000; decide), fun M nM => ?_⟩
    have rM := (Gr.refl H3).new nM (.lst [.int 1, .int (-1), .int 2, .int (-3)])
    have eM : (upd H3 M (.lst [.int 1, .int (-1), .int 2, .int (-3)])) M = some (.lst [.int 1, .int (-1), .int 2, .int (-3)]) := upd_same
    have nMd := s3.ne nM
    have s3' := s3.gr rM
    have g13' := g13.gr rM
    have hP3' := hP3.grd (rM.d dk) s3 nF
    generalize upd H3 M (.lst [.int 1, .int (-1), .int 2, .int (-3)]) = H4 at eM s3' g13' hP3' ⊢
    refine ⟨_, rfl, dk, 4, _, rfl, s3', by omega, by decide, by decide +kernel, fun b H5 b0 b1 g5 s5 => ?_⟩
    obtain ⟨by_, at2, byl⟩ : ∃ y : Int, atI ([.int 1, .int (-1), .int 2, .int (-3)] : List V) b = some (.int y) ∧ y.natAbs ≤ 3 := by
      have : b = 0 ∨ b = 1 ∨ b = 2 ∨ b = 3 := by omega
      rcases this with rfl | rfl | rfl | rfl
      · exact ⟨1, rfl, by decide⟩
      · exact ⟨-1, rfl, by decide⟩
      · exact ⟨2, rfl, by decide⟩
      · exact ⟨-3, rfl, by decide⟩
    refine ⟨M, _, _, _, rfl, rfl, SqL.of (GrDL.lst g5 nMd eM), at2, szN (by show 2 ≤ 1000000; decide), fun T nT => ?_⟩
    have rT := (Gr.refl H5).new nT (.tup [.str (wordA (t - 1)), .int by_])
    have g15 := (g13'.trans g5).gr rT
    have s6 := s5.gr rT
    have hP6 := (hP3'.grd g5 s3' nF).grd (rT.d dk) s5 nF
    refine ⟨T, _, rfl, SqT.of upd_same, rfl, _, _, rfl, _, _, rfl, rfl, ?_⟩
    generalize upd H5 T (.tup [.str (wordA (t - 1)), .int by_]) = H6 at g15 s6 hP6 ⊢
    clear eM nMd rM at1 at2 hP3 hP3' hP1 hP1' s5 s3' s3 g13' g13 g3 g5
    obtain ⟨zs, hF, hz, l6, hq⟩ := id hP6
    refine ⟨_, rfl, szL0, fun N nN => ?_⟩
    have rN := (Gr.refl H6).new nN (.lst [])
    have g17 := g15.gr rN
    have s7 := s6.gr rN
    have hF7 := rN.lstK hF
    have hz7 : Paired (QuV K (upd H6 N (.lst []))) zs qs := Paired.mapP hz fun _ _ z => QuV.gr z rN
    refine ⟨_, _, .lst (SqL.of hF7) (dp_qus hz7), .lst (SqL.of upd_same) .nil, shp_qusL _, by decide, _, rfl, ?_⟩
    rw [eqv_nilL]
    generalize upd H6 N (.lst []) = H7 at g17 s7 hF7 hz7 ⊢
    have body : ∀ (H8 : Hp) (g8 : GrD dk H H8) (s8 : Stk dk (k + 4) H8) (T0 : Addr) (nT0 : H8 T0 = none) (Kc : VK), (∀ (c : Addr) (t2 : Int) (H9 : Hp), GrD dk H H9 → Stk dk (k + 5) H9 → SqT K H9 c ((List.replicate d (0 : Int)).map V.int) → 0 ≤ t2 → t2 < 3 → True) → True := fun _ _ _ _ _ _ _ => trivial
    clear body
    have rest : ∀ c H9, GrD dk H H9 → Stk dk (k + 4) H9 → SqT K H9 c ((List.replicate d (0 : Int)).map V.int) → ∀ (t2 : Int) H10, 0 ≤ t2 → t2 < 3 → GrD dk H9 H10 → Stk dk (k + 5) H10 → ∀ T2, H10 T2 = none → Q (.ref T2) (upd H10 T2 (.tup [.str (wordA (t - 1)), .ref c, .int (t2 - 1)])) := fun c H9 g9 s9 hc t2 H10 t20 t21 g10 s10 T2 nT2 => by
      refine finq H10 (t - 1) (.ref c) (List.replicate d 0) (t2 - 1) (g9.trans g10) (s10.more (by omega)) ⟨c, rfl, (g10.sk s9) _ _ hc⟩ List.length_replicate (fun z hz => ?_) (by omega) (by omega) (by omega) T2 nT2
      rw [(List.mem_replicate.mp hz).2]
      decide
    cases hem : (qs.map quP).isEmpty with
    | true =>
      refine iteT (B := True) ?_
      refine ⟨_, rfl, szN (by show 1 ≤ 1000000; decide), fun T0 nT0 => ⟨_, rfl, ?_⟩⟩
      have r0 := (Gr.refl H7).new nT0 (.tup [.int 0])
      refine rep0 (SqT.of upd_same) (by omega) fun c H9 g9 hc => ?_
      have gg := r0.trans g9
      refine ⟨_, rfl, dk, 3, _, rfl, s7.gr gg, by omega, by decide, by decide +kernel, fun t2 H10 t20 t21 g10 s10 => ⟨_, _, rfl, rfl, szN (by show 3 ≤ 1000000; decide), fun T2 nT2 => ?_⟩⟩
      exact rest c H9 (g17.gr gg) ((s7.gr gg).more (by omega)) hc t2 H10 t20 t21 g10 (s10.more (by omega)) T2 nT2
    | false =>
      refine iteF ⟨_, rfl, dk, 8, _, rfl, s7, by omega, by decide, by decide +kernel, fun t3 H8 t30 t31 g8 s8 => ⟨rfl, _, rfl, ?_⟩⟩
      by_cases c0 : t3 = 0
      · refine iteP (by rw [c0]) ?_
        refine ⟨_, rfl, szN (by show 1 ≤ 1000000; decide), fun T0 nT0 => ⟨_, rfl, ?_⟩⟩
        have r0 := (Gr.refl H8).new nT0 (.tup [.int 0])
        refine rep0 (SqT.of upd_same) (by omega) fun c H9 g9 hc => ?_
        have gg := r0.trans g9
        refine ⟨_, rfl, dk, 3, _, rfl, s8.gr gg, by omega, by decide, by decide +kernel, fun t2 H10 t20 t21 g10 s10 => ⟨_, _, rfl, rfl, szN (by show 3 ≤ 1000000; decide), fun T2 nT2 => ?_⟩⟩
        exact rest c H9 ((g17.trans g8).gr gg) ((s8.gr gg).more (by omega)) hc t2 H10 t20 t21 g10 (s10.more (by omega)) T2 nT2
      · refine iteN (fun z => c0 (by injection z)) ?_
        have lp : 0 < qs.length := by
          cases qs with
          | nil => cases hem
          | cons _ _ => exact Nat.succ_pos _
        have hF8 := GrDL.lst g8 nF hF7
        have lz : zs.length = qs.length := paired_len hz7
        refine ⟨_, rfl, _, rfl, _, rfl, F, _, rfl, .inl (SqL.of hF8), dk, _, _, rfl, s8, by omega, by omega, big_take (n := zs.length) (by omega), fun j H9 j0 j1 g9 s9 => ?_⟩
        obtain ⟨kj, rfl⟩ : ∃ i : Nat, j = (i : Int) := ⟨j.toNat, by omega⟩
        have ez : zs[kj]? = some zs[kj] := List.getElem?_eq_getElem (by omega)
        obtain ⟨q, eq, hn⟩ := paired_get hz7 ez
        have hF9 := GrDL.lst g9 nF hF8
        obtain ⟨nz, ql, qz, qw⟩ := hq q (List.mem_of_getElem? eq)
        have hn9 := QuV.st hn ((g8.sk s7).trans (g9.sk s8))
        obtain ⟨p, tt, hzk, hp, b2, rfl, hb⟩ := hn9
        refine ⟨F, _, _, _, rfl, rfl, SqL.of hF9, atI_nat ez, p, _, hzk, hp, rfl, _, _, rfl, _, _, rfl, rfl, ?_⟩
        refine ⟨_, rfl, _, rfl, b2, rfl, ⟨_, hb⟩, fun D nD => lc_mapT (xs := q.1.map V.int) (fun i y _ => ∃ z : Int, q.1[i]? = some z ∧ y = .int (by_ * z)) (fun _ _ _ _ h _ => h) nD hb (by rw [List.length_map]; omega) (fun i x H10 Kc hx g10 kc => ?_) (fun ys H10 hD hl10 g10 hR => ?_)⟩
        · rw [List.getElem?_map] at hx
          obtain ⟨z, hz2, rfl⟩ := Option.map_eq_some_iff.mp hx
          exact ⟨rfl, _, rfl, _, rfl, _, _, rfl, rfl, .inl ⟨by omega, by omega⟩, kc _ _ (Gr.refl _) ⟨z, hz2, rfl⟩⟩
        · have ey : ys = (q.1.map fun z => by_ * z).map V.int := by
            refine ints_at (by rw [hl10, List.length_map, List.length_map]) fun i y hy => ?_
            obtain ⟨z, hz2, rfl⟩ := hR i y hy
            exact ⟨_, by rw [List.getElem?_map, hz2]; rfl, rfl⟩
          subst ey
          refine ⟨D, _, rfl, .inl ⟨SqL.of hD, fun p1 np1 => ?_⟩⟩
          have r1 := (Gr.refl H10).new np1 (.tup ((q.1.map fun z => by_ * z).map V.int))
          refine ⟨_, rfl, _, rfl, _, _, rfl, rfl, .inl ⟨by omega, by omega⟩, szN (by show 3 ≤ 1000000; decide), fun T2 nT2 => ?_⟩
          have small : ∀ z : Int, z.natAbs ≤ 3 → (by_ * z).natAbs < 2 ^ 4 := fun z hz => by
            rw [Int.natAbs_mul]
            exact Nat.lt_of_le_of_lt (Nat.mul_le_mul byl hz) (by decide)
          refine finq _ (t - 1) (.ref p1) (q.1.map fun z => by_ * z) (by_ * q.2) ((((g17.trans g8).trans g9).gr g10).gr r1) (((s9.gr g10).gr r1).more (by omega)) ⟨p1, rfl, SqT.of upd_same⟩ (by rw [List.length_map, ql]) (fun z hz2 => ?_) (small _ qw) (by omega) (by omega) T2 nT2
          obtain ⟨y, hy, rfl⟩ := List.mem_map.mp hz2
          exact small _ (qz y hy)
  · refine iteN c3 ?_
    have m2 : 2 ≤ m := by
      by_cases h : m ≤ 1
      · have := um h
        omega
      · omega
    obtain ⟨m', rfl⟩ : ∃ m', m = m' + 1 := ⟨m - 1, by omega⟩
    have em : ((m' + 1 : Nat) : Int) - 1 = (m' : Int) := by omega
    refine ⟨_, rfl, _, _, rfl, rfl, _, rfl, ?_⟩
    by_cases c5 : u < 5
    · refine iteP c5 ⟨_, rfl, _, rfl, _, rfl, _, _, rfl, rfl, _, rfl, dk, k + 1, d, m', F, qs, (by show [V.ref dk, V.int ((d : Nat) : Int), V.int (((m' + 1 : Nat) : Int) - 1), V.ref F] = _; rw [em]), s1, by omega, d1, d4, by omega, by omega, nF, hP1, fun v sy H2 g2 s2 hv ok dp lq => ⟨szN (by show 2 ≤ 1000000; decide), fun T nT => ?_⟩⟩
      have r := (Gr.refl H2).new nT (.tup [.str "not", v])
      exact hQ _ (.nt sy) _ ((g1.trans g2).gr r) ((s2.gr r).more (by omega)) ⟨T, v, rfl, SqT.of upd_same, SayV.gr r hv⟩ ok (Nat.succ_le_succ dp) (by show (askU sy).length ≤ _; omega)
    · refine iteN c5 ⟨szN (by show 2 ≤ 1000000; decide), fun L nL => ?_⟩
      have rL := (Gr.refl H1).new nL (.lst [.str "both", .str "either"])
      have eL : (upd H1 L (.lst [.str "both", .str "either"])) L = some (.lst [.str "both", .str "either"]) := upd_same
      have nLd := s1.ne nL
      have s2 := s1.gr rL
      have g2 := g1.gr rL
      have hP2 := hP1.grd (rL.d dk) s1 nF
      generalize upd H1 L (.lst [.str "both", .str "either"]) = H2 at eL s2 g2 hP2 ⊢
      refine ⟨_, rfl, dk, 2, _, rfl, s2, by omega, by decide, by decide +kernel, fun t H3 t0 t1 g3 s3 => ?_⟩
      have hP3 := hP2.grd g3 s2 nF
      obtain ⟨wd, at1, hwd⟩ : ∃ wd : Str, atI ([.str "both", .str "either"] : List V) t = some (.str wd) ∧ (wd = "both" ∨ wd = "either") := by
        have : t = 0 ∨ t = 1 := by omega
        rcases this with rfl | rfl
        · exact ⟨_, rfl, .inl rfl⟩
        · exact ⟨_, rfl, .inr rfl⟩
      refine ⟨L, _, _, _, rfl, rfl, SqL.of (GrDL.lst g3 nLd eL), at1, ?_⟩
      refine ⟨_, rfl, _, rfl, _, rfl, _, rfl, _, _, rfl, rfl, _, rfl, dk, k + 2, d, m', F, qs, (by show [V.ref dk, V.int ((d : Nat) : Int), V.int (((m' + 1 : Nat) : Int) - 1), V.ref F] = _; rw [em]), s3, by omega, d1, d4, by omega, by omega, nF, hP3, fun v sy H4 g4 s4 hv ok dp lq => ?_⟩
      have hP4 := hP3.grd g4 s3 nF
      obtain ⟨j, ej, j1, jn⟩ : ∃ j : Nat, (if (3 : Int) < (((m' + 1 : Nat) : Int) - 1) then (3 : Int) else (((m' + 1 : Nat) : Int) - 1)) = (j : Int) ∧ 1 ≤ j ∧ j ≤ n := by
        rw [em]
        by_cases h : (3 : Int) < (m' : Int)
        · exact ⟨3, by rw [if_pos h]; rfl, by decide, by omega⟩
        · exact ⟨m', by rw [if_neg h], by omega, by omega⟩
      refine ⟨_, rfl, _, rfl, _, rfl, _, _, rfl, rfl, _, _, rfl, _, rfl, dk, k + 2 + cD n, d, j, F, qs, (by show [V.ref dk, V.int ((d : Nat) : Int), V.int (if (3 : Int) < (((m' + 1 : Nat) : Int) - 1) then (3 : Int) else (((m' + 1 : Nat) : Int) - 1)), V.ref F] = _; rw [ej]), s4, by omega, d1, d4, j1, jn, nF, hP4, fun v2 sy2 H5 g5 s5 hv2 ok2 dp2 lq2 => ⟨szN (by show 3 ≤ 1000000; decide), fun T nT => ?_⟩⟩
      have r := (Gr.refl H5).new nT (.tup [.str wd, v, v2])
      have hv5 := SayV.gr r (SayV.st (g5.sk s4) hv)
      have hv25 := SayV.gr r hv2
      have gF := (((g2.trans g3).trans g4).trans g5).gr r
      have sF := (s5.gr r).more (k := k + cD (n + 1)) (by omega)
      have dF : max (depS sy) (depS sy2) + 1 ≤ n + 1 := by omega
      have lF : (askU sy ++ askU sy2).length ≤ 2 ^ (n + 1) := by rw [List.length_append]; omega
      rcases hwd with rfl | rfl
      · exact hQ _ (.bo sy sy2) _ gF sF ⟨T, v, v2, rfl, SqT.of upd_same, hv5, hv25⟩ ⟨ok, ok2⟩ dF lF
      · exact hQ _ (.ei sy sy2) _ gF sF ⟨T, v, v2, rfl, SqT.of upd_same, hv5, hv25⟩ ⟨ok, ok2⟩ dF lF
theorem say_all {f : Addr} {fd : FuncData} (F : Fun K "_law_saying" "_law_saying" s__law_saying f fd) (B : Blt mg) (CDR : Cl P w K mg base 1 "_law_draw" ["well", "many"] spPick) (bF : Binds K fd ["well", "d", "deep", "pool"] []) (mF : mg "_law_saying" = some (.ref f)) : ∀ n : Nat, FnOk P w K mg base CX0 (n + 1) f fd ["well", "d", "deep", "pool"] (spSay K n)
  | 0 => by
    have no : ∀ vs H Q E, ¬ spSay K 0 vs H Q E := fun vs H Q E h => by
      obtain ⟨dk, k, d, m, F, qs, _, _, _, _, _, m1, m0, _⟩ := h
      omega
    exact ⟨fun vs H Q E h => absurd h (no vs H Q E), fun A outer s H args us vs Q E _ _ _ _ h => absurd h (no vs H Q E)⟩
  | n + 1 => ok_say F B CDR (say_all F B CDR bF mF n) bF F.kp mF
theorem cl_say (D : Df K mg "_law_saying" s__law_saying) (B : Blt mg) (CDR : Cl P w K mg base 1 "_law_draw" ["well", "many"] spPick) (n : Nat) : Cl P w K mg base (n + 1) "_law_saying" ["well", "d", "deep", "pool"] (spSay K n) := by
  obtain ⟨f, fd, F, m⟩ := D.ex
  have bF : Binds K fd ["well", "d", "deep", "pool"] [] := F.binds fun _ _ _ _ _ _ us hl => match us, hl with | [_, _, _, _], _ => rfl
  obtain ⟨oc, od, kV, doc, pm, an, cdv, ct, osl, e, lk, hcd⟩ := F.ex
  exact ⟨⟨f, fd, say_all F B CDR bF m n, m, F.kp, bF⟩, fun g hg => by
    rw [m] at hg
    cases hg
    exact ⟨fd, say_all F B CDR bF m n, oc, od, osl, lk⟩⟩
end
end SB
namespace SB
open PySem L2 GxR GA RZ RP
theorem wordA_ne (a : Int) : wordA a ≠ ("not" : Str) ∧ wordA a ≠ ("both" : Str) ∧ wordA a ≠ ("either" : Str) := by
  unfold wordA
  split
  · decide
  · split <;> decide
theorem str_ne {a b : Str} (h : a ≠ b) : ¬ V.str a = V.str b := fun e => h (by injection e)
theorem in_word (s : Say) : inV (.str (wordS s)) [.str "less", .str "is", .str "more"] = isQ s := by
  cases s with
  | q a ns wl =>
    show inV (.str (wordA a)) _ = true
    unfold wordA
    split
    · decide +kernel
    · split <;> decide +kernel
  | nt s => exact (by decide +kernel : inV (.str ("not" : Str)) [.str "less", .str "is", .str "more"] = false)
  | bo s t => exact (by decide +kernel : inV (.str ("both" : Str)) [.str "less", .str "is", .str "more"] = false)
  | ei s t => exact (by decide +kernel : inV (.str ("either" : Str)) [.str "less", .str "is", .str "more"] = false)
def kvsW : List (Key × V) := [(Sum.inr "less", .int (-1)), (Sum.inr "is", .int 0), (Sum.inr "more", .int 1)]
theorem val_word {a : Int} (h0 : -1 ≤ a) (h1 : a ≤ 1) : valV (mergeK [] kvsW) (Sum.inr (wordA a)) = some (.int a) := by
  have : a = -1 ∨ a = 0 ∨ a = 1 := by omega
  rcases this with rfl | rfl | rfl <;> rfl
theorem dec_int (x y : Int) : decide (V.int x = V.int y) = decide (x = y) := by
  by_cases h : x = y
  · rw [h, decide_eq_true rfl, decide_eq_true rfl]
  · rw [decide_eq_false h, decide_eq_false (fun e => h (by injection e))]
theorem flat_take {s : Say} (i : Nat) : (((partsS s).take i).flatMap askU).length ≤ ((partsS s).flatMap askU).length := by
  conv => rhs; rw [← List.take_append_drop i (partsS s), List.flatMap_append, List.length_append]
  omega
section
variable {P : Program} {w : World} {K : PySem.W.Frag} {mg : Str → Option Value} {base : Heap}
/-! ### the law's own: whether a saying holds -/
def spLHold (K : PySem.W.Frag) (n : Nat) : Sp := fun vs H Q _ => ∃ x y s us m, vs = [x, y] ∧ SayV K H s x ∧ PtV K H y us ∧ SayOk us.length s ∧ depS s ≤ n ∧ us.length ≤ 4 ∧ (∀ u, u ∈ us → Lo u) ∧ (∀ u, u ∈ us → Wd m u) ∧ m ≤ 20000 ∧ ∀ H', Gr H H' → Q (.bl (holdU us s)) H'
theorem sc_lhold : FnScope ["saying", "point", "word"] ["saying", "point"] (defScope s__law_holds) := ⟨rfl, rfl, rfl, by decide +kernel, rfl, by decide +kernel, by decide +kernel⟩
theorem ok_lhold {n : Nat} {f g : Addr} {fd gd : FuncData} (F : Fun K "_law_holds" "_law_holds" s__law_holds f fd) (B : Blt mg) (CA : Cl P w K mg base 37 "_law_answer" ["sides", "wall", "point"] (spLAns K)) (G : FnOk P w K mg base CX0 (37 + n) g gd ["saying", "point"] (spLHold K n)) (bG : Binds K gd ["saying", "point"] []) (kG : PySem.W.keepIn K (.ref g) = true) (mG : mg "_law_holds" = some (.ref g)) :
    FnOk P w K mg base CX0 (37 + (n + 1)) f fd ["saying", "point"] (spLHold K (n + 1)) := by
  refine F.ok sc_lhold (fun vs H Q E h => ?_) (fun cdv A outer s H vs Q E hr h => ?_)
  · obtain ⟨x, y, s, us, m, rfl, _⟩ := h
    rfl
  obtain ⟨x, y, s, us, m, rfl, hx, hy, ok, dp, u4, lo, wd, m2, hQ⟩ := h
  have h37 : 37 ≤ 37 + n := Nat.le_add_right _ _
  refine ⟨_, (pss_cons (ps_set (i := 2) sc_lhold.nd rfl (.inl rfl) (pe_ix ix_tup (pv 0) pe_int (fun _ _ => rfl)))
    (pss_cons (ps_if (pt_cmpR op_eq (pv 2) pe_str (nomark _)) (pss_one (ps_ret (pe_not (pe_call G hr rfl mG kG bG .nil pass0 (pa_cons (pe_ix ix_tup (pv 0) pe_int (fun _ _ => rfl)) (pa_cons (pv 1) pa_nil)))))) pss_nil)
    (pss_cons (ps_if (pt_cmpR op_eq (pv 2) pe_str (nomark _)) (pss_one (ps_ret (pe_and (pe_call G hr rfl mG kG bG .nil pass0 (pa_cons (pe_ix ix_tup (pv 0) pe_int (fun _ _ => rfl)) (pa_cons (pv 1) pa_nil))) (pe_one (pe_call G hr rfl mG kG bG .nil pass0 (pa_cons (pe_ix ix_tup (pv 0) pe_int (fun _ _ => rfl)) (pa_cons (pv 1) pa_nil))))))) pss_nil)
    (pss_cons (ps_if (pt_cmpR op_eq (pv 2) pe_str (nomark _)) (pss_one (ps_ret (pe_or (pe_call G hr rfl mG kG bG .nil pass0 (pa_cons (pe_ix ix_tup (pv 0) pe_int (fun _ _ => rfl)) (pa_cons (pv 1) pa_nil))) (pe_one (pe_call G hr rfl mG kG bG .nil pass0 (pa_cons (pe_ix ix_tup (pv 0) pe_int (fun _ _ => rfl)) (pa_cons (pv 1) pa_nil))))))) pss_nil)
    (pss_one (ps_ret (pe_cmpR op_eq (pe_cl CA (hr.mono h37) (pa_cons (pe_ix ix_tup (pv 0) pe_int (fun _ _ => rfl)) (pa_cons (pe_ix ix_tup (pv 0) pe_int (fun _ _ => rfl)) (pa_cons (pv 1) pa_nil)))) (pe_dget (hu_of hr) (pe_disp (pps_cons pe_str (pe_un un_neg pe_int) (pps_cons pe_str pe_int (pps_cons pe_str pe_int pps_nil))) (by rfl) (by rfl) (fun z => by cases z) (by decide)) (pv 2) (fun _ _ => rfl)) (nomark _)))))))), ?_⟩
  cases s with
  | q a ns wl =>
    obtain ⟨p, sv, rfl, hp, hs⟩ := hx
    obtain ⟨a0, a1, ln, nz, nw⟩ := ok
    obtain ⟨w1, w2, w3⟩ := wordA_ne a
    refine ⟨_, rfl, p, _, _, _, rfl, rfl, hp, rfl, ?_⟩
    refine ⟨_, rfl, rfl, _, rfl, iteN (str_ne w1) ?_⟩
    refine ⟨_, rfl, rfl, _, rfl, iteN (str_ne w2) ?_⟩
    refine ⟨_, rfl, rfl, _, rfl, iteN (str_ne w3) ?_⟩
    refine ⟨_, rfl, p, _, _, _, rfl, rfl, hp, rfl, _, rfl, p, _, _, _, rfl, rfl, hp, rfl, _, rfl, ns, wl, us, m, ⟨sv, y, rfl, hs, hy, nz, nw, ln, u4, lo, wd, m2⟩, fun H2 g2 => ?_⟩
    intro D nD
    refine ⟨_, rfl, upd_same, kvsW, rfl, by decide, ?_⟩
    have dg : DGet (upd (upd H2 D (.dK [])) D (.dK (mergeK [] kvsW))) D (V.str (wordA a)) (some (.int a)) := by
      have d := DGet.k (H := upd (upd H2 D (.dK [])) D (.dK (mergeK [] kvsW))) (a := D) (kvs := mergeK [] kvsW) (k := Sum.inr (wordA a)) upd_same
      rw [val_word a0 a1] at d
      exact d
    have q := hQ _ (g2.trans ((((GrD.refl D H2).set (.dK [])).set (.dK (mergeK [] kvsW))).to nD))
    refine ⟨_, rfl, D, _, rfl, dg, rfl, ?_⟩
    rw [dec_int]
    exact q
  | nt s =>
    obtain ⟨p, yv, rfl, hp, hs⟩ := hx
    refine ⟨_, rfl, p, _, _, _, rfl, rfl, hp, rfl, ?_⟩
    refine ⟨_, rfl, rfl, _, rfl, iteP rfl ?_⟩
    refine ⟨_, rfl, p, _, _, _, rfl, rfl, hp, rfl, _, rfl, yv, y, s, us, m, rfl, hs, hy, ok, Nat.le_of_succ_le_succ dp, u4, lo, wd, m2, fun H2 g2 => ?_⟩
    exact ⟨_, rfl, hQ H2 g2⟩
  | bo s t =>
    obtain ⟨p, yv, zv, rfl, hp, hs, ht⟩ := hx
    have dm : max (depS s) (depS t) + 1 ≤ n + 1 := dp
    refine ⟨_, rfl, p, _, _, _, rfl, rfl, hp, rfl, ?_⟩
    refine ⟨_, rfl, rfl, _, rfl, iteN (str_ne (by decide)) ?_⟩
    refine ⟨_, rfl, rfl, _, rfl, iteP rfl ?_⟩
    refine ⟨_, rfl, p, _, _, _, rfl, rfl, hp, rfl, _, rfl, yv, y, s, us, m, rfl, hs, hy, ok.1, by omega, u4, lo, wd, m2, fun H2 g2 => ?_⟩
    have e : holdU us (.bo s t) = (holdU us s && holdU us t) := rfl
    refine ⟨_, rfl, ?_⟩
    cases h : holdU us s with
    | false =>
      have := hQ H2 g2
      rw [e, h] at this
      exact iteF this
    | true =>
      refine iteT ⟨_, rfl, p, _, _, _, rfl, rfl, g2.seqT hp, rfl, _, rfl, zv, y, t, us, m, rfl, SayV.gr g2 ht, hy.gr g2, ok.2, by omega, u4, lo, wd, m2, fun H3 g3 => ?_⟩
      have := hQ H3 (g2.trans g3)
      rw [e, h] at this
      exact this
  | ei s t =>
    obtain ⟨p, yv, zv, rfl, hp, hs, ht⟩ := hx
    have dm : max (depS s) (depS t) + 1 ≤ n + 1 := dp
    refine ⟨_, rfl, p, _, _, _, rfl, rfl, hp, rfl, ?_⟩
    refine ⟨_, rfl, rfl, _, rfl, iteN (str_ne (by decide)) ?_⟩
    refine ⟨_, rfl, rfl, _, rfl, iteN (str_ne (by decide)) ?_⟩
    refine ⟨_, rfl, rfl, _, rfl, iteP rfl ?_⟩
    refine ⟨_, rfl, p, _, _, _, rfl, rfl, hp, rfl, _, rfl, yv, y, s, us, m, rfl, hs, hy, ok.1, by omega, u4, lo, wd, m2, fun H2 g2 => ?_⟩
    have e : holdU us (.ei s t) = (holdU us s || holdU us t) := rfl
    refine ⟨_, rfl, ?_⟩
    cases h : holdU us s with
    | true =>
      have := hQ H2 g2
      rw [e, h] at this
      exact iteT this
    | false =>
      refine iteF ⟨_, rfl, p, _, _, _, rfl, rfl, g2.seqT hp, rfl, _, rfl, zv, y, t, us, m, rfl, SayV.gr g2 ht, hy.gr g2, ok.2, by omega, u4, lo, wd, m2, fun H3 g3 => ?_⟩
      have := hQ H3 (g2.trans g3)
      rw [e, h] at this
      exact this
theorem lhold_all {f : Addr} {fd : FuncData} (F : Fun K "_law_holds" "_law_holds" s__law_holds f fd) (B : Blt mg) (CA : Cl P w K mg base 37 "_law_answer" ["sides", "wall", "point"] (spLAns K)) (bF : Binds K fd ["saying", "point"] []) (mF : mg "_law_holds" = some (.ref f)) : ∀ n : Nat, FnOk P w K mg base CX0 (37 + n) f fd ["saying", "point"] (spLHold K n)
  | 0 => by
    have no : ∀ vs H Q E, ¬ spLHold K 0 vs H Q E := fun vs H Q E h => by
      obtain ⟨x, y, s, us, m, _, _, _, _, dp, _⟩ := h
      have := dep_pos s
      omega
    exact ⟨fun vs H Q E h => absurd h (no vs H Q E), fun A outer s H args us vs Q E _ _ _ _ h => absurd h (no vs H Q E)⟩
  | n + 1 => ok_lhold F B CA (lhold_all F B CA bF mF n) bF F.kp mF
theorem cl_lhold (D : Df K mg "_law_holds" s__law_holds) (B : Blt mg) (CA : Cl P w K mg base 37 "_law_answer" ["sides", "wall", "point"] (spLAns K)) (n : Nat) : Cl P w K mg base (37 + n) "_law_holds" ["saying", "point"] (spLHold K n) := by
  obtain ⟨f, fd, F, m⟩ := D.ex
  have bF : Binds K fd ["saying", "point"] [] := F.binds fun _ _ _ _ _ _ us hl => match us, hl with | [_, _], _ => rfl
  obtain ⟨oc, od, kV, doc, pm, an, cdv, ct, osl, e, lk, hcd⟩ := F.ex
  exact ⟨⟨f, fd, lhold_all F B CA bF m n, m, F.kp, bF⟩, fun g hg => by
    rw [m] at hg
    cases hg
    exact ⟨fd, lhold_all F B CA bF m n, oc, od, osl, lk⟩⟩
/-! ### the law's own: what a saying asks -/
def spLAsk (K : PySem.W.Frag) (n : Nat) : Sp := fun vs H Q _ => ∃ x s, vs = [x] ∧ SayV K H s x ∧ depS s ≤ n ∧ (askU s).length ≤ 1000 ∧ ∀ D zs H', Gr H H' → H' D = some (.lst zs) → Paired (QuV K H') zs (askU s) → Q (.ref D) H'
theorem sc_lask : FnScope ["saying", "found", "part"] ["saying"] (defScope s__law_asked) := ⟨rfl, rfl, rfl, by decide +kernel, rfl, by decide +kernel, by decide +kernel⟩
theorem cut_tail (x : V) (ys : List V) : cutV (x :: ys) (some 1) none = ys := by
  have := cut_from (x :: ys) 1 (by rw [List.length_cons]; omega)
  exact this
theorem yrsl {K : PySem.W.Frag} {H : Hp} {a : Addr} {xs : List V} {lo hi : Option Int} {Kc : VK} (ha : SqT K H a xs) (cont : ∀ c H', Gr H H' → SqT K H' c (cutV xs lo hi) → Kc (.ref c) H') : L2.rSlA K (.ref a) lo hi H Kc :=
  ⟨a, xs, rfl, ha, fun e => cont a H (Gr.refl H) (by
    have : cutV xs lo hi = xs := by
      unfold cutV
      rw [e.1, e.2]
      simp
    rw [this]
    exact ha), fun _ p np => cont p _ ((Gr.refl H).new np _) (SqT.of upd_same)⟩
theorem yrslF {K : PySem.W.Frag} {σ : L2.St} {H : Hp} {a : Addr} {xs : List V} {lo : Option Int} {Kc : VK} (ha : SqT K H a xs) (cont : ∀ c H', Gr H H' → SqT K H' c (cutV xs lo none) → Kc (.ref c) H') : L2.tNoPart σ H (fun u H3 => L2.rSlA K (.ref a) lo u H3 Kc) := yrsl (lo := lo) (hi := none) ha cont
theorem ok_lask {n : Nat} {f g : Addr} {fd gd : FuncData} (F : Fun K "_law_asked" "_law_asked" s__law_asked f fd) (B : Blt mg) (G : FnOk P w K mg base CX0 n g gd ["saying"] (spLAsk K n)) (bG : Binds K gd ["saying"] []) (kG : PySem.W.keepIn K (.ref g) = true) (mG : mg "_law_asked" = some (.ref g)) :
    FnOk P w K mg base CX0 (n + 1) f fd ["saying"] (spLAsk K (n + 1)) := by
  refine F.ok sc_lask (fun vs H Q E h => ?_) (fun cdv A outer s H vs Q E hr h => ?_)
  · obtain ⟨x, s, rfl, _⟩ := h
    rfl
  obtain ⟨x, s, rfl, hx, dp, lq, hQ⟩ := h
  refine ⟨_, (pss_cons (ps_if (pt_cmpR op_in_seq (pe_ix ix_tup (pv 0) pe_int (fun _ _ => rfl)) (pe_tup (pa_cons pe_str (pa_cons pe_str (pa_cons pe_str pa_nil)))) rfl) (pss_one (ps_ret (pe_lst (pa_cons (pe_tup (pa_cons (pe_ix ix_tup (pv 0) pe_int (fun _ _ => rfl)) (pa_cons (pe_ix ix_tup (pv 0) pe_int (fun _ _ => rfl)) pa_nil))) pa_nil)))) pss_nil)
    (pss_cons (ps_set (i := 1) sc_lask.nd rfl (.inl rfl) (pe_lst pa_nil))
    (pss_cons (ps_for PassesOwn.never rfl (pi_tup (pe_slice sl_tupA (pv 0) (po_some pe_int) po_none)) (pg_name (i := 2) sc_lask.nd rfl (Or.inl rfl))
      (pss_one (ps_set (i := 1) sc_lask.nd rfl (.inl rfl) (pe_op op_cat (pv 1) (pe_call G hr rfl mG kG bG .nil pass0 (pa_cons (pv 2) pa_nil))))))
    (pss_one (ps_ret (pv 1)))))), ?_⟩
  have hw := in_word s
  cases hq : isQ s with
  | true =>
    cases s with
    | q a ns wl =>
      obtain ⟨p, sv, rfl, hp, hs⟩ := hx
      refine ⟨_, rfl, p, _, _, _, rfl, rfl, hp, rfl, szN (by show 3 ≤ 1000000; decide), fun T nT => ?_⟩
      have r := (Gr.refl H).new nT (.tup [.str "less", .str "is", .str "more"])
      refine ⟨T, _, rfl, .inr (SqT.of upd_same), rfl, rfl, _, rfl, ?_⟩
      rw [show (if false = true then !inV (.str (wordA a)) [.str "less", .str "is", .str "more"] else inV (.str (wordA a)) [.str "less", .str "is", .str "more"]) = true from hw]
      refine iteT ?_
      refine ⟨_, rfl, p, _, _, _, rfl, rfl, r.seqT hp, rfl, _, rfl, p, _, _, _, rfl, rfl, r.seqT hp, rfl, szN (by show 2 ≤ 1000000; decide), fun T2 nT2 => ⟨szN (by show 1 ≤ 1000000; decide), fun D nD => ?_⟩⟩
      have r2 := r.new nT2 (.tup [sv, .int wl])
      have r3 := (Gr.refl _).new nD (.lst [.ref T2])
      exact hQ D _ _ (r2.trans r3) upd_same (.cons ⟨T2, sv, rfl, r3.seqT (SqT.of upd_same), hs.gr (r2.trans r3)⟩ .nil)
    | nt s => cases hq
    | bo s t => cases hq
    | ei s t => cases hq
  | false =>
    rw [hq] at hw
    obtain ⟨p, ys, rfl, hp, hpt⟩ := hx.parts hq
    refine ⟨_, rfl, p, _, _, .str (wordS s), rfl, rfl, hp, atI_nat (j := 0) rfl, szN (by show 3 ≤ 1000000; decide), fun T nT => ?_⟩
    have r := (Gr.refl H).new nT (.tup [.str "less", .str "is", .str "more"])
    refine ⟨T, _, rfl, .inr (SqT.of upd_same), rfl, rfl, _, rfl, ?_⟩
    rw [show (if false = true then !inV (.str (wordS s)) [.str "less", .str "is", .str "more"] else inV (.str (wordS s)) [.str "less", .str "is", .str "more"]) = false from hw]
    refine iteF ?_
    refine ⟨szL0, fun D nD => ?_⟩
    have r2 := r.new nD (.lst [])
    have eD : (upd (upd H T (.tup [.str "less", .str "is", .str "more"])) D (.lst [])) D = some (.lst []) := upd_same
    generalize upd (upd H T (.tup [.str "less", .str "is", .str "more"])) D (.lst []) = H1 at r2 eD ⊢
    refine ⟨_, rfl, _, rfl, yrslF (lo := some 1) (r2.seqT hp) fun c H2 g2 hc => ?_⟩
    rw [cut_tail] at hc
    have g02 := r2.trans g2
    have lys : ys.length = (partsS s).length := paired_len hpt
    refine ⟨c, rfl, ⟨_, hc⟩, for_tup (xs := ys) (fun i σ H' => ∃ (D : Addr) (zs : List V) (c2 : Option V), σ = [some (.ref p), some (.ref D), c2] ∧ Gr H2 H' ∧ H' D = some (.lst zs) ∧ Paired (QuV K H') zs (((partsS s).take i).flatMap askU)) ⟨D, [], _, rfl, Gr.refl _, g2.lstK eD, .nil⟩ (fun i σ H' _ h => ?_) (fun i x σ H' hx' h => ?_) (fun σ H' h => ?_)⟩
    · obtain ⟨D, zs, c2, rfl, g, _⟩ := h
      exact g.seqT hc
    · obtain ⟨D, zs, c2, rfl, g, hD, pz⟩ := h
      obtain ⟨t, et, ht⟩ := paired_get hpt hx'
      have tm := List.mem_of_getElem? et
      have dt := part_dep tm
      have lt := part_len tm
      refine ⟨_, rfl, _, rfl, x, t, rfl, SayV.gr (g02.trans g) ht, by omega, by omega, fun D2 zs2 H3 g3 hD2 pz2 => ?_⟩
      have e1 : ((partsS s).take (i + 1)).flatMap askU = ((partsS s).take i).flatMap askU ++ askU t := by
        rw [List.take_add_one, et, Option.toList_some, List.flatMap_append]
        simp
      have l1 := flat_take (s := s) (i + 1)
      rw [← askU_parts hq, e1, List.length_append] at l1
      have lz := paired_len pz
      have lz2 := paired_len pz2
      refine ⟨D, D2, zs, zs2, rfl, rfl, g3.lstK hD, hD2, szN (by omega), fun D3 nD3 => ?_⟩
      have r3 := (Gr.refl H3).new nD3 (.lst (zs ++ zs2))
      refine ⟨D3, _, _, rfl, (g.trans g3).trans r3, upd_same, ?_⟩
      rw [e1]
      exact paired_app (Paired.mapP pz fun _ _ z => QuV.gr z (g3.trans r3)) (Paired.mapP pz2 fun _ _ z => QuV.gr z r3)
    · obtain ⟨D, zs, c2, rfl, g, hD, pz⟩ := h
      rw [lys, List.take_length, ← askU_parts hq] at pz
      exact ⟨_, rfl, hQ D zs H' (g02.trans g) hD pz⟩
theorem lask_all {f : Addr} {fd : FuncData} (F : Fun K "_law_asked" "_law_asked" s__law_asked f fd) (B : Blt mg) (bF : Binds K fd ["saying"] []) (mF : mg "_law_asked" = some (.ref f)) : ∀ n : Nat, FnOk P w K mg base CX0 n f fd ["saying"] (spLAsk K n)
  | 0 => by
    have no : ∀ vs H Q E, ¬ spLAsk K 0 vs H Q E := fun vs H Q E h => by
      obtain ⟨x, s, _, _, dp, _⟩ := h
      have := dep_pos s
      omega
    exact ⟨fun vs H Q E h => absurd h (no vs H Q E), fun A outer s H args us vs Q E _ _ _ _ h => absurd h (no vs H Q E)⟩
  | n + 1 => ok_lask F B (lask_all F B bF mF n) bF F.kp mF
theorem cl_lask (D : Df K mg "_law_asked" s__law_asked) (B : Blt mg) (n : Nat) : Cl P w K mg base n "_law_asked" ["saying"] (spLAsk K n) := by
  obtain ⟨f, fd, F, m⟩ := D.ex
  have bF : Binds K fd ["saying"] [] := F.binds fun _ _ _ _ _ _ us hl => match us, hl with | [_], _ => rfl
  obtain ⟨oc, od, kV, doc, pm, an, cdv, ct, osl, e, lk, hcd⟩ := F.ex
  exact ⟨⟨f, fd, lask_all F B bF m n, m, F.kp, bF⟩, fun g hg => by
    rw [m] at hg
    cases hg
    exact ⟨fd, lask_all F B bF m n, oc, od, osl, lk⟩⟩
end
end SB
namespace SB
open PySem L2 GxR GA RZ RP
/-- the numbers below n of which p holds -/
theorem lc_rp {K : PySem.W.Frag} {n : Nat} {g : TG} {tt : TT} {te : TE} {vs : List Nat} {σ : L2.St} {H1 : Hp} {D : Addr} {Qd : Hp → Prop} (p : Nat → Bool) (nD : H1 D = none) (hz : n ≤ 1000)
    (step : ∀ (i : Nat) H (Ky : VK) (Nx : Hp → Prop), i < n → Gr H1 H → (p i = true → Ky (.int (0 + (i : Int))) H) → (p i = false → Nx H) → g (.int (0 + (i : Int))) (wipe σ vs) H fun σ2 H2 => wipe σ2 vs = wipe σ vs ∧ tt σ2 H2 fun b H3 => if b = true then te σ2 H3 Ky else Nx H3)
    (fin : ∀ H, H D = some (.lst (((List.range n).filter p).map fun k : Nat => V.int (k : Int))) → Gr H1 H → Qd H) :
    ∃ W : Nat → Nat → Hp → Prop, (∃ m, W 0 m (upd H1 D (.lst []))) ∧ ∀ i m H, W i m H →
      ((Itr 0 n).stop i H ∧ Qd H) ∨ ((Itr 0 n).go i H ∧ ∃ Nx : Hp → Prop, (∀ H', Nx H' → ∃ m', m' < m ∧ W (i + 1) m' H') ∧ ∀ x H', (Itr 0 n).yld i H x H' → g x (wipe σ vs) H' fun σ2 H2 => wipe σ2 vs = wipe σ vs ∧ tt σ2 H2 fun b H3 =>
        if b = true then te σ2 H3 fun y H4 => ∃ acc, H4 D = some (.lst acc) ∧ acc.length < sizeLine ∧ Nx (upd H4 D (.lst (acc ++ [y]))) else Nx H3) := by
  refine ⟨fun i m H => i + m = n ∧ H D = some (.lst (((List.range i).filter p).map fun k : Nat => V.int (k : Int))) ∧ GrD D H1 H, ⟨n, Nat.zero_add _, upd_same, (GrD.refl D H1).set _⟩, fun i m H ⟨hm, hD, gr⟩ => ?_⟩
  have g1 := gr.to nD
  cases m with
  | zero =>
    have e : i = n := by omega
    subst e
    exact .inl ⟨(by show i ≤ i; omega), fin H hD g1⟩
  | succ m =>
    refine .inr ⟨(by show i < n; omega), fun H' => H' D = some (.lst (((List.range (i + 1)).filter p).map fun k : Nat => V.int (k : Int))) ∧ GrD D H1 H', fun H' h => ⟨m, Nat.lt_succ_self _, by omega, h⟩, fun x H' hyl => ?_⟩
    obtain ⟨rfl, rfl⟩ := hyl
    refine step i _ _ _ (by omega) g1 (fun n0 => ⟨_, hD, ?_, ?_, gr.set _⟩) fun z0 => ⟨?_, gr⟩
    · rw [List.length_map]
      have := List.length_filter_le p (List.range i)
      rw [List.length_range] at this
      exact small1000 (by omega)
    · rw [upd_same, List.range_succ, List.filter_append, List.filter_cons_of_pos n0, List.filter_nil, List.map_append, Int.zero_add]
      rfl
    · rw [hD, List.range_succ, List.filter_append, List.filter_cons_of_neg (by rw [z0]; decide), List.filter_nil, List.append_nil]
section
variable {P : Program} {w : World} {K : PySem.W.Frag} {mg : Str → Option Value} {base : Heap}
def spPt (K : PySem.W.Frag) : Sp := fun vs H Q _ => ∃ dk k d F qs, vs = [.ref dk, .int ((d : Nat) : Int), .ref F] ∧ Stk dk k H ∧ k ≤ 900000 ∧ 1 ≤ d ∧ d ≤ 4 ∧ F ≠ dk ∧ PoolV K F d 3 qs H ∧
  ∀ v us H', GrD dk H H' → Stk dk (k + 20) H' → PtV K H' v us → us.length = d → (∀ u, u ∈ us → Lo u) → (∀ u, u ∈ us → Wd 100 u) → Q v H'
theorem sc_pt : FnScope ["well", "d", "questions", "most", "place", "point", "sides", "wall", "at", "gap", "turned"] ["well", "d", "questions"] (defScope s__law_point) := ⟨rfl, rfl, rfl, by decide +kernel, rfl, by decide +kernel, by decide +kernel⟩
theorem first_nz {ns : List Int} (h : NonZ ns) : ∃ j : Nat, ((List.range ns.length).filter fun k => decide (ns.getD k 0 ≠ 0))[0]? = some j ∧ j < ns.length ∧ ns.getD j 0 ≠ 0 := by
  obtain ⟨z, hz, z0⟩ := h.ex
  obtain ⟨i, hi, rfl⟩ := List.getElem_of_mem hz
  have hm : i ∈ (List.range ns.length).filter fun k => decide (ns.getD k 0 ≠ 0) := List.mem_filter.mpr ⟨List.mem_range.mpr hi, decide_eq_true (by rw [List.getD_eq_getElem?_getD, List.getElem?_eq_getElem hi]; exact z0)⟩
  generalize hL : ((List.range ns.length).filter fun k => decide (ns.getD k 0 ≠ 0)) = L at hm
  cases L with
  | nil => cases hm
  | cons j r =>
    have hj : j ∈ (List.range ns.length).filter fun k => decide (ns.getD k 0 ≠ 0) := by rw [hL]; exact List.mem_cons_self
    obtain ⟨h1, h2⟩ := List.mem_filter.mp hj
    exact ⟨j, rfl, List.mem_range.mp h1, of_decide_eq_true h2⟩
theorem cl_pt (D : Df K mg "_law_point" s__law_point) (B : Blt mg) (CDR : Cl P w K mg base 1 "_law_draw" ["well", "many"] spPick) (CLW : Cl P w K mg base 34 "_law_low" ["top", "bottom"] (spLowest K)) (CLV : Cl P w K mg base 36 "_law_value" ["sides", "wall", "point"] (spValue K)) : Cl P w K mg base 37 "_law_point" ["well", "d", "questions"] (spPt K) := by
  refine D.cl (fun _ _ _ _ _ _ us hl => match us, hl with | [_, _, _], _ => rfl) fun f fd F => F.ok sc_pt (fun vs H Q E h => ?_) (fun cdv A outer s H vs Q E hr h => ?_)
  · obtain ⟨dk, k, d, F, qs, rfl, _⟩ := h
    rfl
  obtain ⟨dk, k, d, F, qs, rfl, sk, k9, d1, d4, nF, hP, hQ⟩ := h
  refine ⟨_, (pss_cons (ps_set (i := 3) sc_pt.nd rfl (.inr rfl) (pe_ix ix_list (pe_lst (pa_cons pe_int (pa_cons pe_int (pa_cons pe_int (pa_cons pe_int pa_nil))))) (pe_cl CDR (hr.mono (by decide)) (pa_cons (pv 0) (pa_cons pe_int pa_nil))) (fun _ _ => rfl)))
    (pss_cons (ps_setLc (i := 5) (own := [("place", 4)]) (g := gName 4) rfl sc_pt.nd rfl rfl rfl (pi_range1 rfl B.rng (pa_cons (pv 1) pa_nil)) (blkOk_by (N := ["well", "d", "questions", "most", "place", "point", "sides", "wall", "at", "gap", "turned"]) (sc := defScope s__law_point) (by decide +kernel)) (fun _ _ _ _ _ => (pg_name (i := 4) sc_pt.nd rfl (Or.inl rfl))) (fun _ _ _ _ _ => pts_nil) (fun _ _ _ _ _ => (pe_cl CLW (hr.mono (by decide)) (pa_cons (pe_op op_sub (pe_cl CDR (hr.mono (by decide)) (pa_cons (pv 0) (pa_cons (pe_op op_add (pe_op op_mul pe_int (pv 3)) pe_int) pa_nil))) (pv 3)) (pa_cons (pe_op op_add pe_int (pe_cl CDR (hr.mono (by decide)) (pa_cons (pv 0) (pa_cons (pe_op op_fdivW (pv 3) pe_int) pa_nil)))) pa_nil)))))
    (pss_cons (ps_if (PW.pt (by exact (pw_and (pt_cmpR (op_neD hr.units) (pv 2) (pe_lst pa_nil) (nomark _)) (pw_and1 (pt_cmpR op_eq (pe_cl CDR (hr.mono (by decide)) (pa_cons (pv 0) (pa_cons pe_int pa_nil))) pe_int (nomark _)))))) (pss_cons (ps_asg (pe_ix ix_list (pv 2) (pe_cl CDR (hr.mono (by decide)) (pa_cons (pv 0) (pa_cons (pe_len (pv 2) B.len) pa_nil))) (fun _ _ => rfl)) (pg_tup rfl (pgs_cons (pg_name (i := 6) sc_pt.nd rfl (Or.inr rfl)) (pgs_cons (pg_name (i := 7) sc_pt.nd rfl (Or.inl rfl)) pgs_nil))))
      (pss_cons (ps_set (i := 4) sc_pt.nd rfl (.inl rfl) (pe_ix ix_list (pe_lc (own := [("at", 8)]) (g := gName 8) rfl sc_pt.nd (pi_range1 rfl B.rng (pa_cons (pv 1) pa_nil)) (blkOk_by (N := ["well", "d", "questions", "most", "place", "point", "sides", "wall", "at", "gap", "turned"]) (sc := defScope s__law_point) (by decide +kernel)) (fun _ _ _ _ _ => (pg_name (i := 8) sc_pt.nd rfl (Or.inl rfl))) (fun _ _ _ _ _ => pts_one (pt_cmpR op_ne (pe_ix (r := rIxT K) ix_tup (pv 6) (pv 8) (fun _ _ => rfl)) pe_int (nomark _))) (fun _ _ _ _ _ => (pv 8))) pe_int (fun _ _ => rfl)))
      (pss_cons (ps_asg (pe_tup (pa_cons pe_int (pa_cons pe_int pa_nil))) (pg_sub (pv 5) (pv 4) set_list))
      (pss_cons (ps_set (i := 9) sc_pt.nd rfl (.inl rfl) (pe_cl CLV (hr.mono (by decide)) (pa_cons (pv 6) (pa_cons (pv 7) (pa_cons (pe_callTy call_tuple_of rfl B.tup bootTup (pa_cons (pv 5) pa_nil)) pa_nil)))))
      (pss_cons (ps_set (i := 10) sc_pt.nd rfl (.inl rfl) (pe_op op_sub pe_int (pe_op op_mul pe_int (pe_callTy call_int1 rfl B.int PyProof.Rows.boot_int (pa_cons (pe_cmpR op_gt (pe_ix ix_tup (pv 6) (pv 4) (fun _ _ => rfl)) pe_int (nomark _)) pa_nil)))))
      (pss_one (ps_asg (pe_cl CLW (hr.mono (by decide)) (pa_cons (pe_op op_mul (pv 10) (pe_ix ix_tup (pv 9) pe_int (fun _ _ => rfl))) (pa_cons (pe_op op_mulW (pe_ix ix_tup (pv 9) pe_int (fun _ _ => rfl)) (pe_callB call_abs rfl B.abs PyProof.Rows.boot_abs (pa_cons (pe_ix ix_tup (pv 6) (pv 4) (fun _ _ => rfl)) pa_nil))) pa_nil))) (pg_sub (pv 5) (pv 4) set_list)))))))) pss_nil)
    (pss_one (ps_ret (pe_callTy call_tuple_of rfl B.tup bootTup (pa_cons (pv 5) pa_nil))))))), ?_⟩
  refine ⟨szN (by show 4 ≤ 1000000; decide), fun L nL => ?_⟩
  have rL := (Gr.refl H).new nL (.lst [.int 6, .int 6, .int 6, .int 999])
  have eL : (upd H L (.lst [.int 6, .int 6, .int 6, .int 999])) L = some (.lst [.int 6, .int 6, .int 6, .int 999]) := upd_same
  have nLd := sk.ne nL
  have s1 := sk.gr rL
  have g1 := rL.d dk
  have hP1 := hP.grd g1 sk nF
  generalize upd H L (.lst [.int 6, .int 6, .int 6, .int 999]) = H1 at eL s1 g1 hP1 ⊢
  refine ⟨_, rfl, dk, 4, _, rfl, s1, by omega, by decide, by decide +kernel, fun t H2 t0 t1 g2 s2 => ?_⟩
  obtain ⟨mo, am, hmo⟩ : ∃ mo : Int, atI ([.int 6, .int 6, .int 6, .int 999] : List V) t = some (.int mo) ∧ (mo = 6 ∨ mo = 999) := by
    have : t = 0 ∨ t = 1 ∨ t = 2 ∨ t = 3 := by omega
    rcases this with rfl | rfl | rfl | rfl
    · exact ⟨6, rfl, .inl rfl⟩
    · exact ⟨6, rfl, .inl rfl⟩
    · exact ⟨6, rfl, .inl rfl⟩
    · exact ⟨999, rfl, .inr rfl⟩
  refine ⟨L, _, _, _, rfl, rfl, SqL.of (GrDL.lst g2 nLd eL), am, ?_⟩
  have hP2 := hP1.grd g2 s1 nF
  have g12 := g1.trans g2
  clear eL nLd rL am
  have big : ∀ z : Int, z.natAbs < 2 ^ 11 → z.natAbs < 2 ^ 8000 := fun z h => Nat.lt_of_lt_of_le h (two_le (by decide))
  refine ⟨_, rfl, _, rfl, by omega, by omega, fun D nD => ?_⟩
  rw [Int.toNat_natCast]
  have nDd := s2.ne nD
  refine lc_stkR (K := K) (c := 2) (fun _ y H => ∃ u, NuV K H y u ∧ Lo u ∧ Wd 10 u) (fun _ _ _ _ ⟨u, h1, h2⟩ t => ⟨u, NuV.st h1 t, h2⟩) nD s2 (by omega) (fun j H3 Kc hj g3 s3 kc => ?_) (fun ys H3 hD hl g3 s3 hR => ?_)
  · refine ⟨rfl, _, rfl, _, rfl, _, _, rfl, rfl, .inl ⟨by decide, by decide⟩, _, _, rfl, rfl, dk, _, _, rfl, s3, by omega, by omega, big _ (by omega), fun a H4 a0 a1 g4 s4 => ?_⟩
    refine ⟨_, rfl, _, _, rfl, rfl, ?_⟩
    refine ⟨_, rfl, _, rfl, _, _, rfl, rfl, wide_div (b := 34) (by decide) (by decide) (by decide) (by decide), dk, _, _, rfl, s4, by omega, by omega, big _ (by omega), fun b H5 b0 b1 g5 s5 => ?_⟩
    have small : (a - mo).natAbs < 2 ^ 10 ∧ (1 + b).natAbs < 2 ^ 10 := by
      rcases hmo with rfl | rfl <;> exact ⟨by omega, by omega⟩
    have w3 : Wd 310000 (a - mo, 1 + b) := ⟨Nat.lt_of_lt_of_le small.1 (two_le (by decide)), Nat.lt_of_lt_of_le small.2 (two_le (by decide))⟩
    exact ⟨_, _, rfl, rfl, _, _, rfl, by omega, w3, fun v r H6 g6 nv lo er l1 l2 => kc v H6 ((g4.trans g5).gr g6) ((s5.gr g6).more (by omega)) ⟨r, nv, lo, Nat.lt_of_le_of_lt l1 small.1, Nat.lt_of_le_of_lt l2 small.2⟩⟩
  obtain ⟨us, pu, hu⟩ := nums_of (K := K) (H := H3) (Pr := fun u => Lo u ∧ Wd 10 u) fun i y e => hR i y e
  clear hR
  have lu : us.length = d := by rw [← paired_len pu, hl]
  let Pst : Nat → Nat → L2.St → Hp → Prop := fun wd u σ' H' => ∃ (ys : List V) (us : List (Int × Int)) (c4 c6 c7 c8 c9 c10 : Option V), σ' = [some (.ref dk), some (.int ((d : Nat) : Int)), some (.ref F), some (.int mo), c4, some (.ref D), c6, c7, c8, c9, c10] ∧ H' D = some (.lst ys) ∧ Paired (NuV K H') ys us ∧ us.length = d ∧ (∀ v, v ∈ us → Lo v) ∧ (∀ v, v ∈ us → Wd wd v) ∧ GrD dk H2 H' ∧ Stk dk (k + u) H'
  refine seq_join (Pst 10 9) (fun σ' H3 h => ?_) (fun Kn hK => hK _ _ ⟨ys, us, _, _, _, _, _, _, rfl, hD, pu, lu, fun v h => (hu v h).1, fun v h => (hu v h).2, g3, s3.more (by omega)⟩)
  clear hl hD g3 s3 pu hu lu
  obtain ⟨ys, us, c4, c6, c7, c8, c9, c10, rfl, hD, pu, lu, lo, wd, g3, s3⟩ := h
  refine seq_join (Pst 100 20) (fun σ' H4 h => ?_) (fun Kn hK => ?_)
  · obtain ⟨ys, us, c4, c6, c7, c8, c9, c10, rfl, hD, pu, lu, lo, wd, g4, s4⟩ := h
    refine ⟨_, rfl, D, _, rfl, .inl ⟨SqL.of hD, fun p np => ?_⟩⟩
    have r := (Gr.refl H4).new np (.tup ys)
    exact hQ _ us _ ((g12.trans g4).gr r) (s4.gr r) ⟨p, ys, rfl, SqT.of upd_same, Paired.mapP pu fun _ _ z => NuV.gr z r⟩ lu lo wd
  have hP3 := hP2.grd g3 s2 nF
  obtain ⟨zs, hF, hz, l6, hq⟩ := id hP3
  refine ⟨_, rfl, szL0, fun N nN => ?_⟩
  have rN := (Gr.refl H3).new nN (.lst [])
  have g4 := g3.gr rN
  have s4 := s3.gr rN
  have hF4 := rN.lstK hF
  have hD4 := rN.lstK hD
  have hz4 : Paired (QuV K (upd H3 N (.lst []))) zs qs := Paired.mapP hz fun _ _ z => QuV.gr z rN
  have pu4 : Paired (NuV K (upd H3 N (.lst []))) ys us := Paired.mapP pu fun _ _ z => NuV.gr z rN
  refine ⟨_, _, .lst (SqL.of hF4) (dp_qus hz4), .lst (SqL.of upd_same) .nil, shp_qusL _, by decide, _, rfl, ?_⟩
  rw [eqv_nilL]
  generalize upd H3 N (.lst []) = H4 at g4 s4 hF4 hD4 hz4 pu4 ⊢
  clear hP3 hF hz g3 s3 hD pu rN
  have keep : ∀ (H5 : Hp) (c4 c6 c7 c8 c9 c10 : Option V), GrD dk H4 H5 → Stk dk (k + 10) H5 → Kn [some (.ref dk), some (.int ((d : Nat) : Int)), some (.ref F), some (.int mo), c4, some (.ref D), c6, c7, c8, c9, c10] H5 := fun H5 c4 c6 c7 c8 c9 c10 g5 s5 =>
    hK _ _ ⟨ys, us, _, _, _, _, _, _, rfl, GrDL.lst g5 nDd hD4, Paired.mapP pu4 fun _ _ z => NuV.st z (g5.sk s4), lu, lo, fun v h => (wd v h).mono (by decide), g4.trans g5, s5.more (by omega)⟩
  cases hem : (qs.map quP).isEmpty with
  | true => exact iteF (keep H4 _ _ _ _ _ _ (GrD.refl _ _) (s4.more (by omega)))
  | false =>
    refine iteT ⟨_, rfl, dk, 2, _, rfl, s4, by omega, by decide, by decide +kernel, fun a H5 a0 a1 g5 s5 => ⟨rfl, _, rfl, ?_⟩⟩
    by_cases c0 : a = 0
    · refine iteP (by rw [c0]) ?_
      have lp : 0 < qs.length := by
        cases qs with
        | nil => cases hem
        | cons _ _ => exact Nat.succ_pos _
      have lz : zs.length = qs.length := paired_len hz4
      have hF5 := GrDL.lst g5 nF hF4
      have hD5 := GrDL.lst g5 nDd hD4
      refine ⟨_, rfl, _, rfl, _, rfl, F, _, rfl, .inl (SqL.of hF5), dk, _, _, rfl, s5, by omega, by omega, big_take (n := zs.length) (by omega), fun j H6 j0 j1 g6 s6 => ?_⟩
      obtain ⟨kj, rfl⟩ : ∃ i : Nat, j = (i : Int) := ⟨j.toNat, by omega⟩
      have ez : zs[kj]? = some zs[kj] := List.getElem?_eq_getElem (by omega)
      obtain ⟨q, eq, hn⟩ := paired_get hz4 ez
      have hF6 := GrDL.lst g6 nF hF5
      have hD6 := GrDL.lst g6 nDd hD5
      have st46 : Tst K H4 H6 := (g5.sk s4).trans (g6.sk s5)
      obtain ⟨nz, ql, qz, qw⟩ := hq q (List.mem_of_getElem? eq)
      obtain ⟨p, tt, hzk, hp, b2, rfl, hb⟩ := QuV.st hn st46
      have pu6 : Paired (NuV K H6) ys us := Paired.mapP pu4 fun _ _ z => NuV.st z st46
      refine ⟨F, _, _, _, rfl, rfl, SqL.of hF6, atI_nat ez, p, _, hzk, hp, rfl, _, _, rfl, _, _, rfl, rfl, ?_⟩
      have g46 := (g4.trans g5).trans g6
      clear hF6 hF5 hF4 hn eq ez hzk
      refine ⟨_, rfl, _, rfl, by omega, by omega, fun D2 nD2 => ?_⟩
      rw [Int.toNat_natCast]
      refine lc_rp (K := K) (fun k => decide (q.1.getD k 0 ≠ 0)) nD2 (by omega) (fun i H7 Ky Nx hi g7 h1 h2 => ?_) (fun H7 hD2 g7 => ?_)
      · have ei : q.1[i]? = some q.1[i] := List.getElem?_eq_getElem (by omega)
        have eg : q.1.getD i 0 = q.1[i] := by rw [List.getD_eq_getElem?_getD, ei]; rfl
        have e0 : (0 : Int) + (i : Int) = ((i : Nat) : Int) := Int.zero_add _
        refine ⟨rfl, _, rfl, _, rfl, b2, _, _, .int q.1[i], rfl, rfl, g7.seqT hb, at_of e0 (by rw [List.getElem?_map, ei]; rfl), rfl, _, rfl, iteNZ (fun n0 => ⟨_, rfl, h1 (decide_eq_true (by rw [eg]; exact n0))⟩) fun z0 => h2 (decide_eq_false (by rw [eg]; exact fun z => z z0))⟩
      · obtain ⟨j, ej, jl, jz⟩ := first_nz nz
        rw [ql] at ej
        refine ⟨D2, _, _, .int (j : Int), rfl, rfl, SqL.of hD2, atI_nat (j := 0) (by rw [List.getElem?_map, ej]; rfl), ?_⟩
        have ejq : q.1[j]? = some (q.1.getD j 0) := by rw [List.getD_eq_getElem?_getD, List.getElem?_eq_getElem jl]; rfl
        have zj3 := qz _ (List.mem_of_getElem? ejq)
        generalize q.1.getD j 0 = zj at ejq jz zj3
        have hb7 := g7.seqT hb
        have hD7 := g7.lstK hD6
        have pu7 : Paired (NuV K H7) ys us := Paired.mapP pu6 fun _ _ z => NuV.gr z g7
        have g47 := g46.gr g7
        have s7 := s6.gr g7
        clear hD2 g7 hD6 pu6 hb
        have lys : ys.length = d := by rw [paired_len pu7, lu]
        refine ⟨szN (by show 2 ≤ 1000000; decide), fun T nT => ⟨_, rfl, _, rfl, ?_⟩⟩
        have rT := (Gr.refl H7).new nT (.tup [.int 0, .int 1])
        have hD8 := rT.lstK hD7
        refine ⟨D, _, _, j, rfl, rfl, hD8, ixN_nat (by omega), ?_⟩
        have tp : Tst K (upd H7 T (.tup [.int 0, .int 1])) (upd (upd H7 T (.tup [.int 0, .int 1])) D (.lst (ys.set j (.ref T)))) := Tst.put hD8
        have hD9 : (upd (upd H7 T (.tup [.int 0, .int 1])) D (.lst (ys.set j (.ref T)))) D = some (.lst (ys.set j (.ref T))) := upd_same
        have pu9 : Paired (NuV K (upd (upd H7 T (.tup [.int 0, .int 1])) D (.lst (ys.set j (.ref T))))) (ys.set j (.ref T)) (us.set j (0, 1)) := paired_set (Paired.mapP pu7 fun _ _ z => NuV.st z (rT.st.trans tp)) ⟨T, rfl, tp _ _ (SqT.of upd_same)⟩ j
        have g9 : GrD dk H2 (upd (upd H7 T (.tup [.int 0, .int 1])) D (.lst (ys.set j (.ref T)))) := (g47.gr rT).put nD _
        have s9 : Stk dk _ (upd (upd H7 T (.tup [.int 0, .int 1])) D (.lst (ys.set j (.ref T)))) := (s7.gr rT).off nDd
        have hb9 := tp _ _ (rT.seqT hb7)
        generalize upd (upd H7 T (.tup [.int 0, .int 1])) D (.lst (ys.set j (.ref T))) = H9 at hD9 pu9 g9 s9 hb9 ⊢
        clear hD8 tp rT hD7 pu7 g47 s7 hb7
        have lo9 : ∀ v, v ∈ us.set j (0, 1) → Lo v := fun v hv => by
          rcases List.mem_or_eq_of_mem_set hv with h | h
          · exact lo v h
          · rw [h]
            exact ⟨by decide, by decide⟩
        have wd9 : ∀ v, v ∈ us.set j (0, 1) → Wd 10 v := fun v hv => by
          rcases List.mem_or_eq_of_mem_set hv with h | h
          · exact wd v h
          · rw [h]
            exact ⟨by decide, by decide⟩
        refine ⟨_, rfl, _, rfl, _, rfl, D, _, rfl, .inl ⟨SqL.of hD9, fun p1 np1 => ?_⟩⟩
        have r1 := (Gr.refl H9).new np1 (.tup (ys.set j (.ref T)))
        refine ⟨q.1, q.2, us.set j (0, 1), 10, ⟨_, _, rfl, ⟨b2, rfl, r1.seqT hb9⟩, ⟨p1, _, rfl, SqT.of upd_same, Paired.mapP pu9 fun _ _ z => NuV.gr z r1⟩, fun z hz => Nat.lt_of_le_of_lt (qz z hz) (by decide), Nat.lt_of_le_of_lt qw (by decide), by rw [List.length_set, ql, lu], by rw [List.length_set]; omega, lo9, wd9, by decide⟩, fun v r H10 g10 nv rp er wr => ?_⟩
        have wr : Wd 69 r := wr.mono (by rw [List.length_set, lu]; omega)
        have g9t := r1.trans g10
        have hb10 := g9t.seqT hb9
        have hD10 := g9t.lstK hD9
        have pu10 : Paired (NuV K H10) (ys.set j (.ref T)) (us.set j (0, 1)) := Paired.mapP pu9 fun _ _ z => NuV.gr z g9t
        have g11 := g9.gr g9t
        have s11 := s9.gr g9t
        clear g9t r1 g10 hb9 hD9 pu9 g9 s9
        have eat : atI (q.1.map V.int) ((j : Nat) : Int) = some (.int zj) := atI_nat (by rw [List.getElem?_map, ejq]; rfl)
        obtain ⟨v', rfl, sv⟩ := nv
        -- turned
        refine ⟨_, rfl, _, rfl, b2, _, _, _, rfl, rfl, hb10, eat, _, _, rfl, rfl, .inr ⟨_, rfl, _, _, rfl, rfl, .inl ⟨by decide, by decide⟩, _, _, rfl, rfl, ?_⟩⟩
        have tv : ∃ tn : Int, (1 : Int) - 2 * (if decide (zj > 0) = true then (1 : Int) else 0) = tn ∧ (tn = 1 ∨ tn = -1) := by
          by_cases c : zj > 0
          · exact ⟨_, by rw [if_pos (decide_eq_true c)]; rfl, .inr rfl⟩
          · exact ⟨_, by rw [if_neg (by rw [decide_eq_false c]; decide)]; rfl, .inl rfl⟩
        obtain ⟨tn, etn, htn⟩ := tv
        have ev : V.int ((1 : Int) - 2 * (if decide (zj > 0) = true then (1 : Int) else 0)) = V.int tn := by rw [etn]
        have wm : CMulW r.2 (if zj < 0 then -zj else zj) := by
          rw [abs_nat]
          exact cmw (m := 69) (n := 4) wr.2 (by rw [Int.natAbs_natCast]; exact Nat.lt_of_le_of_lt zj3 (by decide)) (by decide)
        have t1 : -(2 ^ 64) < tn ∧ tn < 2 ^ 64 := by rcases htn with rfl | rfl <;> decide
        have aj : (0 : Int) < (if zj < 0 then -zj else zj) := by
          rw [abs_nat]
          omega
        have bp : 0 < r.2 * (if zj < 0 then -zj else zj) := Int.mul_pos rp aj
        have w3 : Wd 72 (tn * r.1, r.2 * (if zj < 0 then -zj else zj)) := by
          refine ⟨?_, ?_⟩
          · show (tn * r.1).natAbs < 2 ^ 72
            have : (tn * r.1).natAbs = r.1.natAbs := by
              rcases htn with rfl | rfl
              · rw [Int.one_mul]
              · rw [Int.neg_one_mul, Int.natAbs_neg]
            rw [this]
            exact Nat.lt_of_lt_of_le wr.1 (two_le (by decide))
          · rw [abs_nat]
            exact Nat.lt_of_lt_of_le (mul_lt2 (m := 69) (n := 2) wr.2 (by rw [Int.natAbs_natCast]; exact Nat.lt_of_le_of_lt zj3 (by decide))) (two_le (by decide))
        subst etn
        refine ⟨_, rfl, _, rfl, v', _, _, _, rfl, rfl, sv, rfl, _, _, rfl, rfl, .inl t1, ?_⟩
        refine ⟨_, rfl, v', _, _, _, rfl, rfl, sv, rfl, _, rfl, _, rfl, b2, _, _, _, rfl, rfl, hb10, eat, _, rfl, _, _, rfl, rfl, wm, ?_⟩
        refine ⟨_, _, rfl, bp, ⟨Nat.lt_of_lt_of_le w3.1 (two_le (by decide)), Nat.lt_of_lt_of_le w3.2 (two_le (by decide))⟩, fun v2 r2 H11 g12 nv2 lo2 er2 l1 l2 => ?_⟩
        have hD11 := g12.lstK hD10
        refine ⟨_, rfl, _, rfl, D, _, _, j, rfl, rfl, hD11, ixN_nat (by rw [List.length_set]; omega), ?_⟩
        have tp : Tst K H11 (upd H11 D (.lst ((ys.set j (.ref T)).set j v2))) := Tst.put hD11
        refine hK _ _ ⟨_, (us.set j (0, 1)).set j r2, _, _, _, _, _, _, rfl, upd_same, paired_set (Paired.mapP pu10 fun _ _ z => NuV.st z (g12.st.trans tp)) (NuV.st nv2 tp) j, by rw [List.length_set, List.length_set, lu], fun v hv => ?_, fun v hv => ?_, (g11.gr g12).put nD _, ((s11.gr g12).off nDd).more (by omega)⟩
        · rcases List.mem_or_eq_of_mem_set hv with h | h
          · exact lo9 v h
          · rw [h]
            exact lo2
        · rcases List.mem_or_eq_of_mem_set hv with h | h
          · exact (wd9 v h).mono (by decide)
          · rw [h]
            exact (wd_le w3 l1 l2).mono (by decide)
    · exact iteN (fun z => c0 (by injection z)) (keep H5 _ _ _ _ _ _ g5 (s5.more (by omega)))
end
end SB
namespace SB
open PySem PySem.Spec PyProof.Rows L2 GxR GA RZ RP
/-! ### d.get(k, x) of a written dict -/
def tKGet2 (K : PySem.W.Frag) (d : Addr) (td ty tx : TE) : TE := fun σ H Q => td σ H fun x H1 => x = .ref d ∧ ty σ H1 fun y H2 => tx σ H2 fun z H3 => ∃ (k : Str) (r : Option Value) (v : V), y = .str k ∧ PySem.W.nsIn K d k = some r ∧ (match r with | some u => RelV v u | none => v = z) ∧ Q v H3
theorem pe_kget2 {X : Cx} {o e f : Expr} {apos cpos : Pos} {td ty tx : TE} {d : Addr} {es : Array DictEntry} {n : Nat} (D : KDict X.K X.w d es n) (ho : PE X o td) (he : PE X e ty) (hf : PE X f tx) (m : M2 X o "get" apos e f cpos) : PE X (.Call (.Attribute o "get" apos) [e, f] [] cpos) (tKGet2 X.K d td ty tx) := by
  refine ⟨fun pins s σ H Q I h => ?_⟩
  refine wpAny_Call_method m.base m.few m.line PySem.F.plainAttrs_dict PySem.F.slot_dict_get PySem.F.type_dict_get (thn (ho.run pins s σ H _ I h) fun u s1 ⟨x, H1, I1, rx, ex, q1⟩ => ?_)
  subst ex
  obtain rfl : u = Value.ref d := rx
  refine ⟨kd_type D I1, fun b q => ?_, ?_⟩
  · cases q
    exact ⟨_, I1.kIn _ _ D.at_, rfl⟩
  rw [m.trees]
  refine Calls.callWith_builtin rfl (Calls.evalArgs_plain (Calls.spliced_cons (thn (he.run pins s1 σ H1 _ I1 q1) fun iv s2 ⟨y, H2, I2, ry, q2⟩ =>
    Calls.spliced_cons (thn (hf.run pins s2 σ H2 _ I2 q2) fun fv s3 ⟨z, H3, I3, rz, k, r, v, ey, en, hv, q3⟩ => Calls.spliced_nil ?_))))
  subst ey
  obtain ⟨t, rfl⟩ := ry
  have mo := PySem.W.mapOf_K (prog := X.prog) (w := X.w) I3.kIn D.at_ D.lit
  refine call_meetsIn PySem.F.slot_dict_get mo.typeIs PySem.F.entry_dict_get (PySem.F.args_dict_get_3 _ _ _) (meets_dict_get_default (strKind X.prog X.w) d (strKind_is X.prog X.w k t) D.low fv) ⟨_, mo, ?_⟩
  rw [PySem.W.find_K D.at_ en]
  refine ⟨v, H3, I3.tok _, ?_, q3⟩
  cases r with
  | some u => exact hv
  | none =>
    have hv : v = z := hv
    rw [hv]
    exact rz
/-- the module's dict of what each word asks -/
structure AskD (K : PySem.W.Frag) (w : World) (mg : Str → Option Value) : Prop where
  ex : ∃ (d : Addr) (es : Array DictEntry) (n : Nat) (t1 t2 t3 : Tok), mg "ASKED" = some (.ref d) ∧ KDict K w d es n ∧ PySem.W.nsIn K d "less" = some (some (.int (-1) t1)) ∧ PySem.W.nsIn K d "is" = some (some (.int 0 t2)) ∧ PySem.W.nsIn K d "more" = some (some (.int 1 t3)) ∧
    PySem.W.nsIn K d "not" = some none ∧ PySem.W.nsIn K d "both" = some none ∧ PySem.W.nsIn K d "either" = some none
/-- .. and of how many sayings stand behind -/
structure PartD (K : PySem.W.Frag) (w : World) (mg : Str → Option Value) : Prop where
  ex : ∃ (d : Addr) (es : Array DictEntry) (n : Nat) (t1 t2 t3 : Tok), mg "PARTS" = some (.ref d) ∧ KDict K w d es n ∧ PySem.W.nsIn K d "not" = some (some (.int 1 t1)) ∧ PySem.W.nsIn K d "both" = some (some (.int 2 t2)) ∧ PySem.W.nsIn K d "either" = some (some (.int 2 t3))
theorem AskD.use {K : PySem.W.Frag} {w : World} {mg : Str → Option Value} (h : AskD K w mg) : ∃ (d : Addr) (es : Array DictEntry) (n : Nat), mg "ASKED" = some (.ref d) ∧ KDict K w d es n ∧ (∀ a : Int, -1 ≤ a → a ≤ 1 → ∃ t, PySem.W.nsIn K d (wordA a) = some (some (.int a t))) ∧ ∀ s : Say, isQ s = false → PySem.W.nsIn K d (wordS s) = some none := by
  obtain ⟨d, es, n, t1, t2, t3, h1, h2, a1, a2, a3, a4, a5, a6⟩ := h.ex
  refine ⟨d, es, n, h1, h2, fun a h0 h3 => ?_, fun s hs => ?_⟩
  · have : a = -1 ∨ a = 0 ∨ a = 1 := by omega
    rcases this with rfl | rfl | rfl
    · exact ⟨_, a1⟩
    · exact ⟨_, a2⟩
    · exact ⟨_, a3⟩
  · cases s with
    | q => cases hs
    | nt => exact a4
    | bo => exact a5
    | ei => exact a6
theorem PartD.use {K : PySem.W.Frag} {w : World} {mg : Str → Option Value} (h : PartD K w mg) : ∃ (d : Addr) (es : Array DictEntry) (n : Nat), mg "PARTS" = some (.ref d) ∧ KDict K w d es n ∧ ∀ s : Say, isQ s = false → ∃ t, PySem.W.nsIn K d (wordS s) = some (some (.int ((partsS s).length : Nat) t)) ∧ 0 < (partsS s).length := by
  obtain ⟨d, es, n, t1, t2, t3, h1, h2, a1, a2, a3⟩ := h.ex
  refine ⟨d, es, n, h1, h2, fun s hs => ?_⟩
  cases s with
  | q => cases hs
  | nt => exact ⟨_, a1, by show 0 < 1; decide⟩
  | bo => exact ⟨_, a2, by show 0 < 2; decide⟩
  | ei => exact ⟨_, a3, by show 0 < 2; decide⟩
section
variable {P : Program} {w : World} {K : PySem.W.Frag} {mg : Str → Option Value} {base : Heap}
def spChkU : Sp := fun vs H Q _ => ∃ d : Int, vs = [.int d] ∧ 1 ≤ d ∧ Q .non H
theorem sc_chkU : FnScope ["d"] ["d"] (defScope s__check_unknowns) := ⟨rfl, rfl, rfl, by decide +kernel, rfl, by decide +kernel, by decide +kernel⟩
theorem cl_chkU (D : Df K mg "_check_unknowns" s__check_unknowns) (CW : Cl P w K mg base 1 "is_whole" ["told"] (spWhole K)) : Cl P w K mg base 2 "_check_unknowns" ["d"] spChkU := by
  refine D.cl (fun _ _ _ _ _ _ us hl => match us, hl with | [_], _ => rfl) fun f fd F => F.ok sc_chkU (fun vs H Q E h => ?_) (fun cdv A outer s H vs Q E hr h => ?_)
  · obtain ⟨d, rfl, _⟩ := h
    rfl
  obtain ⟨d, rfl, d1, q⟩ := h
  refine ⟨_, (pss_one (ps_if (PW.pt (by exact (pw_or (pt_not (pt_val (pe_cl CW (hr.mono (by decide)) (pa_cons (pv 0) pa_nil)))) (pw_or1 (pt_cmpR op_lt (pv 0) pe_int (nomark _)))))) pss_no pss_nil)), ?_⟩
  exact ⟨_, rfl, _, _, rfl, .int d, _, rfl, iteF ⟨_, rfl, _, _, rfl, rfl, _, rfl, iteN (by omega) q⟩⟩
def spSdOf (K : PySem.W.Frag) : Sp := fun vs H Q _ => ∃ x ns, vs = [.int ((ns.length : Nat) : Int), x] ∧ SiV K H x ns ∧ Q (.bl true) H
theorem sc_sdOf : FnScope ["d", "told"] ["d", "told"] (defScope s__are_sides_of) := ⟨rfl, rfl, rfl, by decide +kernel, rfl, by decide +kernel, by decide +kernel⟩
theorem cl_sdOf (D : Df K mg "_are_sides_of" s__are_sides_of) (B : Blt mg) (CWs : Cl P w K mg base 2 "are_wholes" ["told"] (spWholes K)) : Cl P w K mg base 3 "_are_sides_of" ["d", "told"] (spSdOf K) := by
  refine D.cl (fun _ _ _ _ _ _ us hl => match us, hl with | [_, _], _ => rfl) fun f fd F => F.ok sc_sdOf (fun vs H Q E h => ?_) (fun cdv A outer s H vs Q E hr h => ?_)
  · obtain ⟨x, ns, rfl, _⟩ := h
    rfl
  obtain ⟨x, ns, rfl, ⟨a, rfl, hs⟩, q⟩ := h
  refine ⟨_, (pss_one (ps_ret (pe_and (pe_isi "tuple" (pv 1) bootTup B.tup B.isi) (pe_and (pe_cmpR op_eq (pe_len (pv 1) B.len) (pv 0) (nomark _)) (pe_one (pe_cl CWs (hr.mono (by decide)) (pa_cons (pv 1) pa_nil))))))), ?_⟩
  refine ⟨_, rfl, _, _, .tup hs, kTT, _, rfl, iteT ⟨_, rfl, a, _, rfl, .inr hs, _, rfl, rfl, _, rfl, iteP (by rw [List.length_map]) ?_⟩⟩
  exact ⟨_, rfl, _, ns, rfl, ⟨a, rfl, hs⟩, q⟩
/-! ### what is a saying -/
def spIsSay (K : PySem.W.Frag) (T : Nat → Addr) (n : Nat) : Sp := fun vs H Q _ => ∃ x s d, vs = [.int ((d : Nat) : Int), x] ∧ Tb5 T H ∧ SayV K H s x ∧ SayOk d s ∧ depS s ≤ n ∧ ∀ H', Gr H H' → Q (.bl true) H'
theorem sc_isSay : FnScope ["d", "told", "word", "parts", "part"] ["d", "told"] (defScope s__is_saying_of) := ⟨rfl, rfl, rfl, by decide +kernel, rfl, by decide +kernel, by decide +kernel⟩
theorem ok_isSay {n : Nat} {f g : Addr} {fd gd : FuncData} {c : Addr} {T : Nat → Addr} (t1 : 0 < T 0) (F : FunT K "_is_saying_of" s__is_saying_of f fd c) (TB : TabB base mg c (T 1)) (B : Blt mg) (AD : AskD K w mg) (PD : PartD K w mg) (CW : Cl P w K mg base 1 "is_whole" ["told"] (spWhole K)) (CSd : Cl P w K mg base 3 "_are_sides_of" ["d", "told"] (spSdOf K)) (G : FnOk P w K mg base CX0 (4 + 2 * n) g gd ["d", "told"] (spIsSay K T n)) (bG : Binds K gd ["d", "told"] []) (kG : PySem.W.keepIn K (.ref g) = true) (mG : mg "_is_saying_of" = some (.ref g)) :
    FnOk P w K mg base CX0 (4 + 2 * (n + 1)) f fd ["d", "told"] (spIsSay K T (n + 1)) := by
  refine F.ok (k := 4 + 2 * n + 1) sc_isSay (fun vs H Q E h => ?_) (fun A outer s H vs Q E hr h => ?_)
  · obtain ⟨x, s, d, rfl, _⟩ := h
    rfl
  obtain ⟨x, s, d, rfl, tb, hx, ok, dp, hQ⟩ := h
  obtain ⟨dA, esA, nA, mA, KA, wA, xA⟩ := AD.use
  obtain ⟨dP, esP, nP, mP, KP, wP⟩ := PD.use
  have l1 : 1 ≤ 4 + 2 * n + 1 := by omega
  have l3 : 3 ≤ 4 + 2 * n + 1 := by omega
  refine ⟨_, (pss_cons (ps_if (PW.pt (by exact (pw_or (pt_not (pt_val (pe_isi "tuple" (pv 1) bootTup B.tup B.isi))) (pw_or (pt_not (pt_truth (pv 1) (by intro _; rfl))) (pw_or1 (pt_not (pt_val (pe_isi "str" (pe_ix ix_tup (pv 1) pe_int (fun _ _ => rfl)) bootStr B.str B.isi)))))))) pss_no pss_nil)
    (pss_cons (ps_par (i := 2) (j := 3) rfl sc_isSay.nd rfl rfl (by decide) rfl rfl (pa_cons (pe_ix ix_tup (pv 1) pe_int (fun _ _ => rfl)) (pa_cons (pe_slice sl_tupA (pv 1) (po_some pe_int) po_none) pa_nil)) rfl)
    (pss_cons (ps_if (pt_cmpR (op_in_kd KA) (pv 2) (pe_glob (v := .ref dA) rfl mA rfl) rfl) (pss_one (ps_ret (pe_and (pe_cmpR op_eq (pe_len (pv 3) B.len) pe_int (nomark _)) (pe_and (pe_cl CSd (hr.mono l3) (pa_cons (pv 0) (pa_cons (pe_ix ix_tup (pv 3) pe_int (fun _ _ => rfl)) pa_nil))) (pe_one (pe_cl CW (hr.mono l1) (pa_cons (pe_ix ix_tup (pv 3) pe_int (fun _ _ => rfl)) pa_nil))))))) pss_nil)
    (pss_one (ps_ret (pe_and (pe_chain op_eq op_gt (pe_len (pv 3) B.len) (pe_kget2 KP (pe_glob (v := .ref dP) rfl mP rfl) (pv 2) pe_int ⟨rfl, rfl, rfl, rfl⟩) pe_int) (pe_one (pe_allG (own := [("part", 4)]) (g := gName 4) hr rfl B.all bootAll TB rfl sc_isSay.nd (genOk_by (N := ["d", "told", "word", "parts", "part"]) (sc := defScope s__is_saying_of) (by decide +kernel)) (pi_tup (pv 3))
      (fun _ _ _ _ _ => pg_name (i := 4) sc_isSay.nd rfl (Or.inl rfl))
      (fun _ _ _ _ _ => pe_call G (Room.gen hr) rfl mG kG bG .nil pass0 (pa_cons (pv 0) (pa_cons (pv 4) pa_nil))))))))))), ?_⟩
  cases hq : isQ s with
  | true =>
    cases s with
    | q a ns wl =>
      obtain ⟨p, sv, rfl, hp, hs⟩ := hx
      obtain ⟨a0, a1, ln, nz, nw⟩ := ok
      subst ln
      obtain ⟨t, ht⟩ := wA a a0 a1
      refine ⟨_, rfl, _, _, .tup hp, kTT, _, rfl, iteF ?_⟩
      refine ⟨_, rfl, true, .inr (.inl ⟨_, hp, rfl⟩), iteF ?_⟩
      refine ⟨_, rfl, p, _, _, _, rfl, rfl, hp, rfl, _, _, .str _, (by decide +kernel : kitB "str" "str" = some true), _, rfl, iteF ?_⟩
      refine ⟨_, rfl, p, _, _, _, rfl, rfl, hp, rfl, _, rfl, _, rfl, yrslF (lo := some 1) hp fun c1 H1 g1 hc => ⟨_, _, rfl, ?_⟩⟩
      rw [cut_tail] at hc
      refine ⟨_, rfl, _, _, rfl, rfl, ht, _, rfl, iteT ?_⟩
      refine ⟨_, rfl, c1, _, rfl, .inr hc, rfl, _, rfl, iteP rfl ?_⟩
      refine ⟨_, rfl, _, rfl, c1, _, _, _, rfl, rfl, hc, rfl, sv, ns, rfl, hs.gr g1, _, rfl, iteT ?_⟩
      exact ⟨_, rfl, c1, _, _, _, rfl, rfl, hc, rfl, _, _, rfl, .int wl, hQ H1 g1⟩
    | nt s => cases hq
    | bo s t => cases hq
    | ei s t => cases hq
  | false =>
    obtain ⟨p, ys, rfl, hp, hpt⟩ := hx.parts hq
    obtain ⟨t, ht, l0⟩ := wP s hq
    have lys : ys.length = (partsS s).length := paired_len hpt
    refine ⟨_, rfl, _, _, .tup hp, kTT, _, rfl, iteF ?_⟩
    refine ⟨_, rfl, true, .inr (.inl ⟨_, hp, rfl⟩), iteF ?_⟩
    refine ⟨_, rfl, p, _, _, .str (wordS s), rfl, rfl, hp, atI_nat (j := 0) rfl, _, _, .str _, (by decide +kernel : kitB "str" "str" = some true), _, rfl, iteF ?_⟩
    refine ⟨_, rfl, p, _, _, .str (wordS s), rfl, rfl, hp, atI_nat (j := 0) rfl, _, rfl, _, rfl, yrslF (lo := some 1) hp fun c1 H1 g1 hc => ⟨_, _, rfl, ?_⟩⟩
    rw [cut_tail] at hc
    refine ⟨_, rfl, _, _, rfl, rfl, xA s hq, _, rfl, iteF ?_⟩
    refine ⟨_, rfl, c1, ys, rfl, .inr hc, rfl, _, rfl, _, some _, .int _, rfl, ht, ⟨t, rfl⟩, rfl, _, rfl, iteP (by rw [lys]) ?_⟩
    refine ⟨_, _, rfl, rfl, _, rfl, ?_⟩
    refine iteP (by omega) ?_
    have tt := g1.tab _ (tb.t 0 t1)
    refine ⟨_, rfl, c1, rfl, ⟨_, hc⟩, tt, fun H2 hT => ?_⟩
    have g2 : Gr H1 H2 := (Gr.refl H1).tabbed tt hT
    refine plan_tup (xs := ys) (fun _ => True) (g2.seqT hc) (fun i y H3 hy g3 => ?_) (fun H3 g3 _ => hQ H3 ((g1.trans g2).trans g3))
    obtain ⟨u, eu, hu⟩ := paired_get hpt hy
    have um := List.mem_of_getElem? eu
    have dt := part_dep um
    have g13 := (g1.trans g2).trans g3
    refine ⟨rfl, _, rfl, _, rfl, y, u, d, rfl, ⟨fun i hi => g13.tab _ (tb.t i hi)⟩, SayV.gr g13 hu, part_ok ok um, by omega, fun H4 g4 => ⟨true, rfl, iteT ⟨g3.trans g4, trivial⟩⟩⟩
end
end SB
namespace SB
open PySem L2 GxR GA RZ RP
section
variable {P : Program} {w : World} {K : PySem.W.Frag} {mg : Str → Option Value} {base : Heap}
theorem isSay_all {f : Addr} {fd : FuncData} {c : Addr} {T : Nat → Addr} (t1 : 0 < T 0) (F : FunT K "_is_saying_of" s__is_saying_of f fd c) (TB : TabB base mg c (T 1)) (B : Blt mg) (AD : AskD K w mg) (PD : PartD K w mg) (CW : Cl P w K mg base 1 "is_whole" ["told"] (spWhole K)) (CSd : Cl P w K mg base 3 "_are_sides_of" ["d", "told"] (spSdOf K)) (bF : Binds K fd ["d", "told"] []) (mF : mg "_is_saying_of" = some (.ref f)) : ∀ n : Nat, FnOk P w K mg base CX0 (4 + 2 * n) f fd ["d", "told"] (spIsSay K T n)
  | 0 => by
    have no : ∀ vs H Q E, ¬ spIsSay K T 0 vs H Q E := fun vs H Q E h => by
      obtain ⟨x, s, d, _, _, _, _, dp, _⟩ := h
      have := dep_pos s
      omega
    exact ⟨fun vs H Q E h => absurd h (no vs H Q E), fun A outer s H args us vs Q E _ _ _ _ h => absurd h (no vs H Q E)⟩
  | n + 1 => ok_isSay t1 F TB B AD PD CW CSd (isSay_all t1 F TB B AD PD CW CSd bF mF n) bF F.kp mF
theorem cl_isSay {c : Addr} {T : Nat → Addr} (t1 : 0 < T 0) (D : DfT K mg "_is_saying_of" s__is_saying_of c) (TB : TabB base mg c (T 1)) (B : Blt mg) (AD : AskD K w mg) (PD : PartD K w mg) (CW : Cl P w K mg base 1 "is_whole" ["told"] (spWhole K)) (CSd : Cl P w K mg base 3 "_are_sides_of" ["d", "told"] (spSdOf K)) (n : Nat) : Cl P w K mg base (4 + 2 * n) "_is_saying_of" ["d", "told"] (spIsSay K T n) := by
  obtain ⟨f, fd, F, m⟩ := D.ex
  have bF : Binds K fd ["d", "told"] [] := F.fn.binds fun _ _ _ _ _ _ us hl => match us, hl with | [_, _], _ => rfl
  obtain ⟨oc, od, kV, doc, pm, an, ct, osl, e, lk, hcd⟩ := F.ex
  exact ⟨⟨f, fd, isSay_all t1 F TB B AD PD CW CSd bF m n, m, F.kp, bF⟩, fun g hg => by
    rw [m] at hg
    cases hg
    exact ⟨fd, isSay_all t1 F TB B AD PD CW CSd bF m n, oc, od, osl, lk⟩⟩
def spChkSay (K : PySem.W.Frag) (T : Nat → Addr) : Sp := fun vs H Q _ => ∃ x s d, vs = [.int ((d : Nat) : Int), x] ∧ Tb5 T H ∧ SayV K H s x ∧ SayOk d s ∧ depS s ≤ 5 ∧ ∀ H', Gr H H' → Q .non H'
theorem sc_chkSay : FnScope ["d", "saying"] ["d", "saying"] (defScope s__check_saying) := ⟨rfl, rfl, rfl, by decide +kernel, rfl, by decide +kernel, by decide +kernel⟩
theorem cl_chkSay {T : Nat → Addr} (D : Df K mg "_check_saying" s__check_saying) (CI : Cl P w K mg base 14 "_is_saying_of" ["d", "told"] (spIsSay K T 5)) : Cl P w K mg base 15 "_check_saying" ["d", "saying"] (spChkSay K T) := by
  refine D.cl (fun _ _ _ _ _ _ us hl => match us, hl with | [_, _], _ => rfl) fun f fd F => F.ok sc_chkSay (fun vs H Q E h => ?_) (fun cdv A outer s H vs Q E hr h => ?_)
  · obtain ⟨x, s, d, rfl, _⟩ := h
    rfl
  obtain ⟨x, s, d, rfl, tb, hx, ok, dp, hQ⟩ := h
  refine ⟨_, (pss_one (ps_if (pt_not (pt_val (pe_cl CI (hr.mono (by decide)) (pa_cons (pv 0) (pa_cons (pv 1) pa_nil))))) pss_no pss_nil)), ?_⟩
  exact ⟨_, rfl, _, rfl, x, s, d, rfl, tb, hx, ok, dp, fun H' g => ⟨_, rfl, iteF (hQ H' g)⟩⟩
def spIsS (K : PySem.W.Frag) (T : Nat → Addr) : Sp := fun vs H Q _ => ∃ x s d, vs = [.int ((d : Nat) : Int), x] ∧ 1 ≤ d ∧ Tb5 T H ∧ SayV K H s x ∧ SayOk d s ∧ depS s ≤ 5 ∧ ∀ H', Gr H H' → Q (.bl true) H'
theorem sc_isS : FnScope ["d", "told"] ["d", "told"] (defScope s_is_saying) := ⟨rfl, rfl, rfl, by decide +kernel, rfl, by decide +kernel, by decide +kernel⟩
theorem cl_isS {T : Nat → Addr} (D : Df K mg "is_saying" s_is_saying) (CU : Cl P w K mg base 2 "_check_unknowns" ["d"] spChkU) (CI : Cl P w K mg base 14 "_is_saying_of" ["d", "told"] (spIsSay K T 5)) : Cl P w K mg base 15 "is_saying" ["d", "told"] (spIsS K T) := by
  refine D.cl (fun _ _ _ _ _ _ us hl => match us, hl with | [_, _], _ => rfl) fun f fd F => F.ok sc_isS (fun vs H Q E h => ?_) (fun cdv A outer s H vs Q E hr h => ?_)
  · obtain ⟨x, s, d, rfl, _⟩ := h
    rfl
  obtain ⟨x, s, d, rfl, d1, tb, hx, ok, dp, hQ⟩ := h
  refine ⟨_, (pss_cons (ps_expr (pe_cl CU (hr.mono (by decide)) (pa_cons (pv 0) pa_nil)))
    (pss_one (ps_ret (pe_cl CI (hr.mono (by decide)) (pa_cons (pv 0) (pa_cons (pv 1) pa_nil)))))), ?_⟩
  exact ⟨_, rfl, _, rfl, by omega, _, rfl, _, rfl, x, s, d, rfl, tb, hx, ok, dp, hQ⟩
/-! ### answers of questions that may have no sides -/
def spAnsZ (K : PySem.W.Frag) : Sp := fun vs H Q _ => ∃ x y q us, vs = [x, y] ∧ QuV K H x q ∧ PtV K H y us ∧ NsOk q.1 ∧ q.2.natAbs < 2 ^ 10000 ∧ UsOk us ∧ q.1.length = us.length ∧ ∀ H', Gr H H' → Q (.int (ansU q us)) H'
theorem cl_ansZ (D : Df K mg "answer_at" s_answer_at) (CS : Cl P w K mg base 1 "sign" ["whole"] spSign) (CSum : Cl P w K mg base 1 "_sum_at" ["sides", "point"] (spSumAt K)) : Cl P w K mg base 37 "answer_at" ["question", "point"] (spAnsZ K) := by
  refine D.cl (fun _ _ _ _ _ _ us hl => match us, hl with | [_, _], _ => rfl) fun f fd F => F.ok sc_ansAt (fun vs H Q E h => ?_) (fun cdv A outer s H vs Q E hr h => ?_)
  · obtain ⟨x, y, q, us, rfl, _⟩ := h
    rfl
  obtain ⟨x, y, q, us, rfl, ⟨a, t, rfl, hs, hst⟩, hy, qns, qwl, uo, hl, hq⟩ := h
  refine ⟨_, pss_cons (ps_asg (pv 0) (pg_tup rfl (pgs_cons (pg_name (i := 2) sc_ansAt.nd rfl (Or.inl rfl)) (pgs_cons (pg_name (i := 3) sc_ansAt.nd rfl (Or.inl rfl)) pgs_nil))))
    (pss_cons (ps_asg (pe_cl CSum (hr.mono (by decide)) (pa_cons (pv 2) (pa_cons (pv 1) pa_nil))) (pg_tup rfl (pgs_cons (pg_name (i := 4) sc_ansAt.nd rfl (Or.inl rfl)) (pgs_cons (pg_name (i := 5) sc_ansAt.nd rfl (Or.inl rfl)) pgs_nil))))
    (pss_one (ps_ret (pe_cl CS (hr.mono (by decide)) (pa_cons (pe_op op_sub (pv 4) (pe_op op_mulW (pv 3) (pv 5))) pa_nil))))), ?_⟩
  refine ⟨_, rfl, a, _, rfl, hs, rfl, _, _, rfl, _, _, rfl, rfl, ?_⟩
  refine ⟨_, rfl, _, rfl, t, y, q.1, us, 10000, 20000, rfl, hst, hy, hl, uo.2.1, uo.2.2.2, qns, by decide, fun v H1 g1 nv wd => ?_⟩
  obtain ⟨a2, rfl, s2⟩ := nv
  have bi : us.length * (20000 + 10000 + 3) ≤ 4 * 30003 := Nat.mul_le_mul_right _ uo.2.1
  refine ⟨a2, _, rfl, s2, rfl, _, _, rfl, _, _, rfl, rfl, ?_⟩
  refine ⟨_, rfl, _, rfl, _, rfl, _, _, rfl, rfl, cmw qwl (wd.mono (n := 130000) (by omega)).2 (by decide), _, _, rfl, rfl, _, rfl, ?_⟩
  have e : (sumU q.1 us (0, 1)).1 - q.2 * (sumU q.1 us (0, 1)).2 = (worthU q us).1 := by
    rw [← worth_of]
    show _ = (sumU q.1 us (0, 1)).1 * 1 - _
    rw [Int.mul_one]
  show Q (.int (sgn ((sumU q.1 us (0, 1)).1 - q.2 * (sumU q.1 us (0, 1)).2))) H1
  rw [e]
  exact hq H1 g1
/-! ### the program's: whether a saying holds -/
def spHold (K : PySem.W.Frag) (n : Nat) : Sp := fun vs H Q _ => ∃ x y s us, vs = [x, y] ∧ SayV K H s x ∧ PtV K H y us ∧ SayOk us.length s ∧ depS s ≤ n ∧ UsOk us ∧ ∀ H', Gr H H' → Q (.bl (holdU us s)) H'
theorem sc_hold : FnScope ["saying", "point", "word"] ["saying", "point"] (defScope s__holds_at) := ⟨rfl, rfl, rfl, by decide +kernel, rfl, by decide +kernel, by decide +kernel⟩
theorem ok_hold {n : Nat} {f g : Addr} {fd gd : FuncData} (F : Fun K "_holds_at" "_holds_at" s__holds_at f fd) (B : Blt mg) (AD : AskD K w mg) (CA : Cl P w K mg base 37 "answer_at" ["question", "point"] (spAnsZ K)) (G : FnOk P w K mg base CX0 (37 + n) g gd ["saying", "point"] (spHold K n)) (bG : Binds K gd ["saying", "point"] []) (kG : PySem.W.keepIn K (.ref g) = true) (mG : mg "_holds_at" = some (.ref g)) :
    FnOk P w K mg base CX0 (37 + (n + 1)) f fd ["saying", "point"] (spHold K (n + 1)) := by
  refine F.ok sc_hold (fun vs H Q E h => ?_) (fun cdv A outer s H vs Q E hr h => ?_)
  · obtain ⟨x, y, s, us, rfl, _⟩ := h
    rfl
  obtain ⟨x, y, s, us, rfl, hx, hy, ok, dp, uo, hQ⟩ := h
  obtain ⟨dA, esA, nA, mA, KA, wA, xA⟩ := AD.use
  have h37 : 37 ≤ 37 + n := Nat.le_add_right _ _
  refine ⟨_, (pss_cons (ps_set (i := 2) sc_hold.nd rfl (.inl rfl) (pe_ix ix_tup (pv 0) pe_int (fun _ _ => rfl)))
    (pss_cons (ps_if (pt_cmpR (op_in_kd KA) (pv 2) (pe_glob (v := .ref dA) rfl mA rfl) rfl) (pss_one (ps_ret (pe_cmpR op_eq (pe_cl CA (hr.mono h37) (pa_cons (pe_tup (pa_cons (pe_ix ix_tup (pv 0) pe_int (fun _ _ => rfl)) (pa_cons (pe_ix ix_tup (pv 0) pe_int (fun _ _ => rfl)) pa_nil))) (pa_cons (pv 1) pa_nil))) (pe_ix ix_kdict (pe_glob (v := .ref dA) rfl mA rfl) (pv 2) (fun _ _ => rfl)) (nomark _)))) pss_nil)
    (pss_cons (ps_if (pt_cmpR op_eq (pv 2) pe_str (nomark _)) (pss_one (ps_ret (pe_not (pe_call G hr rfl mG kG bG .nil pass0 (pa_cons (pe_ix ix_tup (pv 0) pe_int (fun _ _ => rfl)) (pa_cons (pv 1) pa_nil)))))) pss_nil)
    (pss_cons (ps_if (pt_cmpR op_eq (pv 2) pe_str (nomark _)) (pss_one (ps_ret (pe_and (pe_call G hr rfl mG kG bG .nil pass0 (pa_cons (pe_ix ix_tup (pv 0) pe_int (fun _ _ => rfl)) (pa_cons (pv 1) pa_nil))) (pe_one (pe_call G hr rfl mG kG bG .nil pass0 (pa_cons (pe_ix ix_tup (pv 0) pe_int (fun _ _ => rfl)) (pa_cons (pv 1) pa_nil))))))) pss_nil)
    (pss_one (ps_ret (pe_or (pe_call G hr rfl mG kG bG .nil pass0 (pa_cons (pe_ix ix_tup (pv 0) pe_int (fun _ _ => rfl)) (pa_cons (pv 1) pa_nil))) (pe_one (pe_call G hr rfl mG kG bG .nil pass0 (pa_cons (pe_ix ix_tup (pv 0) pe_int (fun _ _ => rfl)) (pa_cons (pv 1) pa_nil))))))))))), ?_⟩
  cases s with
  | q a ns wl =>
    obtain ⟨p, sv, rfl, hp, hs⟩ := hx
    obtain ⟨a0, a1, ln, nz, nw⟩ := ok
    obtain ⟨t, ht⟩ := wA a a0 a1
    refine ⟨_, rfl, p, _, _, _, rfl, rfl, hp, rfl, ?_⟩
    refine ⟨_, rfl, _, _, rfl, rfl, ht, _, rfl, iteT ?_⟩
    refine ⟨_, rfl, p, _, _, _, rfl, rfl, hp, rfl, _, rfl, p, _, _, _, rfl, rfl, hp, rfl, szN (by show 2 ≤ 1000000; decide), fun T nT => ⟨_, rfl, ?_⟩⟩
    have r := (Gr.refl H).new nT (.tup [sv, .int wl])
    refine ⟨.ref T, y, (ns, wl), us, rfl, ⟨T, sv, rfl, SqT.of upd_same, hs.gr r⟩, hy.gr r, fun z hz => Nat.lt_of_lt_of_le (nz z hz) (two_le (by decide)), Nat.lt_of_lt_of_le nw (two_le (by decide)), uo, ln, fun H2 g2 => ?_⟩
    refine ⟨_, rfl, dA, _, .int a, rfl, rfl, ⟨esA, nA, _, KA.at_, KA.lit, ht, ⟨t, rfl⟩⟩, rfl, ?_⟩
    rw [dec_int]
    exact hQ H2 (r.trans g2)
  | nt s =>
    have xs := xA (.nt s) rfl
    obtain ⟨p, yv, rfl, hp, hs⟩ := hx
    refine ⟨_, rfl, p, _, _, _, rfl, rfl, hp, rfl, ?_⟩
    refine ⟨_, rfl, _, _, rfl, rfl, xs, _, rfl, iteF ?_⟩
    refine ⟨_, rfl, rfl, _, rfl, iteP rfl ?_⟩
    refine ⟨_, rfl, p, _, _, _, rfl, rfl, hp, rfl, _, rfl, yv, y, s, us, rfl, hs, hy, ok, Nat.le_of_succ_le_succ dp, uo, fun H2 g2 => ?_⟩
    exact ⟨_, rfl, hQ H2 g2⟩
  | bo s t =>
    have xs := xA (.bo s t) rfl
    obtain ⟨p, yv, zv, rfl, hp, hs, ht⟩ := hx
    have dm : max (depS s) (depS t) + 1 ≤ n + 1 := dp
    refine ⟨_, rfl, p, _, _, _, rfl, rfl, hp, rfl, ?_⟩
    refine ⟨_, rfl, _, _, rfl, rfl, xs, _, rfl, iteF ?_⟩
    refine ⟨_, rfl, rfl, _, rfl, iteN (str_ne (by decide)) ?_⟩
    refine ⟨_, rfl, rfl, _, rfl, iteP rfl ?_⟩
    refine ⟨_, rfl, p, _, _, _, rfl, rfl, hp, rfl, _, rfl, yv, y, s, us, rfl, hs, hy, ok.1, by omega, uo, fun H2 g2 => ?_⟩
    have e : holdU us (.bo s t) = (holdU us s && holdU us t) := rfl
    refine ⟨_, rfl, ?_⟩
    cases h : holdU us s with
    | false =>
      have := hQ H2 g2
      rw [e, h] at this
      exact iteF this
    | true =>
      refine iteT ⟨_, rfl, p, _, _, _, rfl, rfl, g2.seqT hp, rfl, _, rfl, zv, y, t, us, rfl, SayV.gr g2 ht, hy.gr g2, ok.2, by omega, uo, fun H3 g3 => ?_⟩
      have := hQ H3 (g2.trans g3)
      rw [e, h] at this
      exact this
  | ei s t =>
    have xs := xA (.ei s t) rfl
    obtain ⟨p, yv, zv, rfl, hp, hs, ht⟩ := hx
    have dm : max (depS s) (depS t) + 1 ≤ n + 1 := dp
    refine ⟨_, rfl, p, _, _, _, rfl, rfl, hp, rfl, ?_⟩
    refine ⟨_, rfl, _, _, rfl, rfl, xs, _, rfl, iteF ?_⟩
    refine ⟨_, rfl, rfl, _, rfl, iteN (str_ne (by decide)) ?_⟩
    refine ⟨_, rfl, rfl, _, rfl, iteN (str_ne (by decide)) ?_⟩
    refine ⟨_, rfl, p, _, _, _, rfl, rfl, hp, rfl, _, rfl, yv, y, s, us, rfl, hs, hy, ok.1, by omega, uo, fun H2 g2 => ?_⟩
    have e : holdU us (.ei s t) = (holdU us s || holdU us t) := rfl
    refine ⟨_, rfl, ?_⟩
    cases h : holdU us s with
    | true =>
      have := hQ H2 g2
      rw [e, h] at this
      exact iteT this
    | false =>
      refine iteF ⟨_, rfl, p, _, _, _, rfl, rfl, g2.seqT hp, rfl, _, rfl, zv, y, t, us, rfl, SayV.gr g2 ht, hy.gr g2, ok.2, by omega, uo, fun H3 g3 => ?_⟩
      have := hQ H3 (g2.trans g3)
      rw [e, h] at this
      exact this
theorem hold_all {f : Addr} {fd : FuncData} (F : Fun K "_holds_at" "_holds_at" s__holds_at f fd) (B : Blt mg) (AD : AskD K w mg) (CA : Cl P w K mg base 37 "answer_at" ["question", "point"] (spAnsZ K)) (bF : Binds K fd ["saying", "point"] []) (mF : mg "_holds_at" = some (.ref f)) : ∀ n : Nat, FnOk P w K mg base CX0 (37 + n) f fd ["saying", "point"] (spHold K n)
  | 0 => by
    have no : ∀ vs H Q E, ¬ spHold K 0 vs H Q E := fun vs H Q E h => by
      obtain ⟨x, y, s, us, _, _, _, _, dp, _⟩ := h
      have := dep_pos s
      omega
    exact ⟨fun vs H Q E h => absurd h (no vs H Q E), fun A outer s H args us vs Q E _ _ _ _ h => absurd h (no vs H Q E)⟩
  | n + 1 => ok_hold F B AD CA (hold_all F B AD CA bF mF n) bF F.kp mF
theorem cl_hold (D : Df K mg "_holds_at" s__holds_at) (B : Blt mg) (AD : AskD K w mg) (CA : Cl P w K mg base 37 "answer_at" ["question", "point"] (spAnsZ K)) (n : Nat) : Cl P w K mg base (37 + n) "_holds_at" ["saying", "point"] (spHold K n) := by
  obtain ⟨f, fd, F, m⟩ := D.ex
  have bF : Binds K fd ["saying", "point"] [] := F.binds fun _ _ _ _ _ _ us hl => match us, hl with | [_, _], _ => rfl
  obtain ⟨oc, od, kV, doc, pm, an, cdv, ct, osl, e, lk, hcd⟩ := F.ex
  exact ⟨⟨f, fd, hold_all F B AD CA bF m n, m, F.kp, bF⟩, fun g hg => by
    rw [m] at hg
    cases hg
    exact ⟨fd, hold_all F B AD CA bF m n, oc, od, osl, lk⟩⟩
def spHolds (K : PySem.W.Frag) (T : Nat → Addr) : Sp := fun vs H Q _ => ∃ x y s us, vs = [.int ((us.length : Nat) : Int), x, y] ∧ Tb5 T H ∧ SayV K H s x ∧ SayOk us.length s ∧ depS s ≤ 5 ∧ PtV K H y us ∧ UsOk us ∧ ∀ H', Gr H H' → Q (.bl (holdU us s)) H'
theorem sc_holds : FnScope ["d", "saying", "point"] ["d", "saying", "point"] (defScope s_holds) := ⟨rfl, rfl, rfl, by decide +kernel, rfl, by decide +kernel, by decide +kernel⟩
theorem cl_holds {T : Nat → Addr} (D : Df K mg "holds" s_holds) (CU : Cl P w K mg base 2 "_check_unknowns" ["d"] spChkU) (CS : Cl P w K mg base 15 "_check_saying" ["d", "saying"] (spChkSay K T)) (CP : Cl P w K mg base 5 "check_point" ["point", "d"] (spChkPt K)) (CH : Cl P w K mg base 42 "_holds_at" ["saying", "point"] (spHold K 5)) : Cl P w K mg base 43 "holds" ["d", "saying", "point"] (spHolds K T) := by
  refine D.cl (fun _ _ _ _ _ _ us hl => match us, hl with | [_, _, _], _ => rfl) fun f fd F => F.ok sc_holds (fun vs H Q E h => ?_) (fun cdv A outer s H vs Q E hr h => ?_)
  · obtain ⟨x, y, s, us, rfl, _⟩ := h
    rfl
  obtain ⟨x, y, s, us, rfl, tb, hx, ok, dp, hy, uo, hQ⟩ := h
  refine ⟨_, (pss_cons (ps_expr (pe_cl CU (hr.mono (by decide)) (pa_cons (pv 0) pa_nil)))
    (pss_cons (ps_expr (pe_cl CS (hr.mono (by decide)) (pa_cons (pv 0) (pa_cons (pv 1) pa_nil))))
    (pss_cons (ps_expr (pe_cl CP (hr.mono (by decide)) (pa_cons (pv 2) (pa_cons (pv 0) pa_nil))))
    (pss_one (ps_ret (pe_cl CH (hr.mono (by decide)) (pa_cons (pv 1) (pa_cons (pv 2) pa_nil)))))))), ?_⟩
  have l1 : 1 ≤ us.length := by
    cases us with
    | nil => exact absurd rfl uo.1
    | cons _ _ => exact Nat.succ_pos _
  refine ⟨_, rfl, _, rfl, by omega, _, rfl, _, rfl, x, s, us.length, rfl, tb, hx, ok, dp, fun H1 g1 => ?_⟩
  refine ⟨_, rfl, _, rfl, y, us, rfl, hy.gr g1, uo.1, uo.2.2.1, fun H2 g2 => ?_⟩
  have g12 := g1.trans g2
  exact ⟨_, rfl, _, rfl, x, y, s, us, rfl, SayV.gr g12 hx, hy.gr g12, ok, dp, uo, fun H3 g3 => hQ H3 (g12.trans g3)⟩
/-! ### the questions in a saying -/
theorem nzU_app (a b : List (List Int × Int)) : nzU (a ++ b) = nzU a ++ nzU b := by
  unfold nzU
  rw [List.filter_append]
theorem nzU_parts {s : Say} (h : isQ s = false) : nzU (askU s) = (partsS s).flatMap fun t => nzU (askU t) := by
  rw [askU_parts h]
  have : ∀ l : List Say, nzU (l.flatMap askU) = l.flatMap fun t => nzU (askU t) := fun l => by
    induction l with
    | nil => rfl
    | cons t r ih => rw [List.flatMap_cons, List.flatMap_cons, nzU_app, ih]
  exact this _
theorem nz_take {s : Say} (i : Nat) : (((partsS s).take i).flatMap fun t => nzU (askU t)).length ≤ ((partsS s).flatMap fun t => nzU (askU t)).length := by
  conv => rhs; rw [← List.take_append_drop i (partsS s), List.flatMap_append, List.length_append]
  omega
theorem nz_len (qs : List (List Int × Int)) : (nzU qs).length ≤ qs.length := List.length_filter_le _ _
def spQIn (K : PySem.W.Frag) (n : Nat) : Sp := fun vs H Q _ => ∃ x s, vs = [x] ∧ SayV K H s x ∧ (∃ d, SayOk d s) ∧ depS s ≤ n ∧ (askU s).length ≤ 1000 ∧ ∀ D zs H', Gr H H' → (∀ xs, H D ≠ some (.lst xs)) → H' D = some (.lst zs) → Paired (QuV K H') zs (nzU (askU s)) → Q (.ref D) H'
theorem sc_qin : FnScope ["saying", "part", "question"] ["saying"] (defScope s__questions_in) := ⟨rfl, rfl, rfl, by decide +kernel, rfl, by decide +kernel, by decide +kernel⟩
theorem not_lst {H H1 : Hp} {D : Addr} (g : Gr H H1) (n : H1 D = none) : ∀ xs, H D ≠ some (.lst xs) := fun xs e => by
  rw [g.lstK e] at n
  cases n
theorem ok_qin {n : Nat} {f g : Addr} {fd gd : FuncData} (F : Fun K "_questions_in" "_questions_in" s__questions_in f fd) (B : Blt mg) (AD : AskD K w mg) (G : FnOk P w K mg base CX0 n g gd ["saying"] (spQIn K n)) (bG : Binds K gd ["saying"] []) (kG : PySem.W.keepIn K (.ref g) = true) (mG : mg "_questions_in" = some (.ref g)) :
    FnOk P w K mg base CX0 (n + 1) f fd ["saying"] (spQIn K (n + 1)) := by
  refine F.ok sc_qin (fun vs H Q E h => ?_) (fun cdv A outer s H vs Q E hr h => ?_)
  · obtain ⟨x, s, rfl, _⟩ := h
    rfl
  obtain ⟨x, s, rfl, hx, ⟨dd, ok⟩, dp, lq, hQ⟩ := h
  obtain ⟨dA, esA, nA, mA, KA, wA, xA⟩ := AD.use
  refine ⟨_, (pss_cons (ps_if (pt_cmpR (op_in_kd KA) (pe_ix ix_tup (pv 0) pe_int (fun _ _ => rfl)) (pe_glob (v := .ref dA) rfl mA rfl) rfl) (pss_one (ps_ret (pe_ifExp (pt_val (pe_callB (cr_anyT rfl) rfl B.any bootAny (pa_cons (pe_ix ix_tup (pv 0) pe_int (fun _ _ => rfl)) pa_nil))) (pe_lst (pa_cons (pe_tup (pa_cons (pe_ix ix_tup (pv 0) pe_int (fun _ _ => rfl)) (pa_cons (pe_ix ix_tup (pv 0) pe_int (fun _ _ => rfl)) pa_nil))) pa_nil)) (pe_lst pa_nil)))) pss_nil)
    (pss_one (ps_ret (pe_lc2 (own := [("part", 1), ("question", 2)]) (g := gName 1) (g1 := gName 2) (vs1 := [2]) (wi1 := iList K (tCall (spQIn K n) [] E0 (tCons (tVar 1) tNil))) rfl sc_qin.nd (pi_tup (pe_slice sl_tupA (pv 0) (po_some pe_int) po_none)) (blkOk_by (N := ["saying", "part", "question"]) (sc := defScope s__questions_in) (by decide +kernel)) (by decide)
      (fun _ _ _ _ _ => (pg_name (i := 1) sc_qin.nd rfl (Or.inl rfl))) (fun _ _ _ _ _ => pts_nil)
      (fun _ _ _ _ _ => by exact pi_list (pe_call G hr rfl mG kG bG .nil pass0 (pa_cons (pv 1) pa_nil)))
      (fun _ _ _ _ _ => (pg_name (i := 2) sc_qin.nd rfl (Or.inl rfl))) (fun _ _ _ _ _ => pts_nil) (fun _ _ _ _ _ => pv 2))))), ?_⟩
  cases hq : isQ s with
  | true =>
    cases s with
    | q a ns wl =>
      obtain ⟨p, sv, rfl, hp, b, rfl, hb⟩ := hx
      obtain ⟨t, ht⟩ := wA a ok.1 ok.2.1
      refine ⟨_, rfl, p, _, _, _, rfl, rfl, hp, rfl, _, _, rfl, rfl, ht, _, rfl, iteT ?_⟩
      refine ⟨_, rfl, p, _, _, _, rfl, rfl, hp, rfl, b, ns, rfl, hb, _, rfl, ?_⟩
      have e1 : nzU (askU (.q a ns wl)) = if (ns.any fun z => decide (z ≠ 0)) = true then [(ns, wl)] else [] := by
        show nzU [(ns, wl)] = _
        unfold nzU
        rw [List.filter_cons, List.filter_nil]
      cases h : (ns.any fun z => decide (z ≠ 0)) with
      | true =>
        rw [h, if_pos rfl] at e1
        refine iteT ?_
        refine ⟨_, rfl, p, _, _, _, rfl, rfl, hp, rfl, _, rfl, p, _, _, _, rfl, rfl, hp, rfl, szN (by show 2 ≤ 1000000; decide), fun T2 nT2 => ⟨szN (by show 1 ≤ 1000000; decide), fun D nD => ?_⟩⟩
        have r2 := (Gr.refl H).new nT2 (.tup [.ref b, .int wl])
        have r3 := (Gr.refl _).new nD (.lst [.ref T2])
        refine hQ D [.ref T2] _ (r2.trans r3) (not_lst r2 nD) upd_same ?_
        rw [e1]
        exact .cons ⟨T2, .ref b, rfl, r3.seqT (SqT.of upd_same), b, rfl, (r2.trans r3).seqT hb⟩ .nil
      | false =>
        rw [h, if_neg (by decide)] at e1
        refine iteF ⟨szL0, fun D nD => ?_⟩
        have r3 := (Gr.refl _).new nD (.lst [])
        refine hQ D [] _ r3 (not_lst (Gr.refl H) nD) upd_same ?_
        rw [e1]
        exact .nil
    | nt s => cases hq
    | bo s t => cases hq
    | ei s t => cases hq
  | false =>
    obtain ⟨p, ys, rfl, hp, hpt⟩ := hx.parts hq
    have lys : ys.length = (partsS s).length := paired_len hpt
    refine ⟨_, rfl, p, _, _, .str (wordS s), rfl, rfl, hp, atI_nat (j := 0) rfl, _, _, rfl, rfl, xA s hq, _, rfl, iteF ?_⟩
    refine ⟨_, rfl, _, rfl, yrslF (lo := some 1) hp fun c1 H1 g1 hc => ?_⟩
    rw [cut_tail] at hc
    refine ⟨c1, rfl, ⟨_, hc⟩, fun D nD => ?_⟩
    refine ⟨fun i m H' => i + m = ys.length ∧ ∃ zs, H' D = some (.lst zs) ∧ Paired (QuV K H') zs (((partsS s).take i).flatMap fun t => nzU (askU t)) ∧ GrD D H1 H', ⟨ys.length, Nat.zero_add _, [], upd_same, .nil, (GrD.refl D H1).set _⟩, fun i m H' ⟨hm, zs, hD, pz, gr⟩ => ?_⟩
    have g2 := gr.to nD
    have hSi := g2.seqT hc
    cases m with
    | zero =>
      have e : i = ys.length := by omega
      subst e
      refine .inl ⟨⟨_, hSi, Nat.le_refl _⟩, ?_⟩
      rw [lys, List.take_length, ← nzU_parts hq] at pz
      exact hQ D zs H' (g1.trans g2) (not_lst g1 nD) hD pz
    | succ m =>
      have hi : i < ys.length := by omega
      refine .inr ⟨⟨ys, ys[i], hSi, List.getElem?_eq_getElem hi⟩, fun H' => ∃ zs, H' D = some (.lst zs) ∧ Paired (QuV K H') zs (((partsS s).take (i + 1)).flatMap fun t => nzU (askU t)) ∧ GrD D H1 H', fun H' h => ⟨m, Nat.lt_succ_self _, by omega, h⟩, fun y H'' hyl => ?_⟩
      obtain ⟨rfl, hy⟩ := hyl
      obtain ⟨t, et, ht⟩ := paired_get hpt (hy ys hSi)
      have tm := List.mem_of_getElem? et
      have dt := part_dep tm
      have lt := part_len tm
      have e1 : ((partsS s).take (i + 1)).flatMap (fun t => nzU (askU t)) = ((partsS s).take i).flatMap (fun t => nzU (askU t)) ++ nzU (askU t) := by
        rw [List.take_add_one, et, Option.toList_some, List.flatMap_append]
        simp
      have l1 := nz_take (s := s) (i + 1)
      rw [← nzU_parts hq, e1, List.length_append] at l1
      have l2 := nz_len (askU s)
      refine ⟨rfl, ?_⟩
      unfold L2.tYes
      refine iteT ?_
      refine ⟨_, rfl, y, t, rfl, SayV.gr (g1.trans g2) ht, ⟨dd, part_ok ok tm⟩, by omega, by omega, fun D2 zs2 H3 g3 nD2 hD2 pz2 => ?_⟩
      have neD : D2 ≠ D := fun e => nD2 _ (by rw [e]; exact hD)
      refine ⟨D2, rfl, ⟨_, SqL.of hD2⟩, ?_⟩
      refine ⟨fun j k H' => j + k = zs2.length ∧ H' D = some (.lst (zs ++ zs2.take j)) ∧ GrD D H3 H', ⟨zs2.length, Nat.zero_add _, by rw [List.take_zero, List.append_nil]; exact g3.lstK hD, GrD.refl _ _⟩, fun j k H4 ⟨hk, hD4, gr4⟩ => ?_⟩
      have hS2 : SqL K H4 D2 zs2 := SqL.of (gr4.keep D2 _ neD (fun _ z => nomatch z) hD2)
      have st34 : Tst K H3 H4 := fun a xs h => gr4.seqT (g3.lstK hD) h
      cases k with
      | zero =>
        have e : j = zs2.length := by omega
        subst e
        rw [List.take_length] at hD4
        refine .inl ⟨⟨_, hS2, Nat.le_refl _⟩, _, hD4, ?_, (gr.trans (g3.d D)).trans gr4⟩
        rw [e1]
        exact paired_app (Paired.mapP pz fun _ _ z => QuV.st z (g3.st.trans st34)) (Paired.mapP pz2 fun _ _ z => QuV.st z st34)
      | succ k =>
        have hj : j < zs2.length := by omega
        refine .inr ⟨⟨zs2, zs2[j], hS2, List.getElem?_eq_getElem hj⟩, fun H' => H' D = some (.lst (zs ++ zs2.take (j + 1))) ∧ GrD D H3 H', fun H' h => ⟨k, Nat.lt_succ_self _, by omega, h⟩, fun v H5 hyl => ?_⟩
        obtain ⟨rfl, hv⟩ := hyl
        have ev := hv zs2 hS2
        have lz := paired_len pz
        have lz2 := paired_len pz2
        refine ⟨rfl, ?_⟩
        refine iteT ⟨_, rfl, _, hD4, small1000 (by rw [List.length_append, List.length_take]; omega), ?_, gr4.set _⟩
        rw [upd_same, List.take_add_one, ev, Option.toList_some, List.append_assoc]
theorem qin_all {f : Addr} {fd : FuncData} (F : Fun K "_questions_in" "_questions_in" s__questions_in f fd) (B : Blt mg) (AD : AskD K w mg) (bF : Binds K fd ["saying"] []) (mF : mg "_questions_in" = some (.ref f)) : ∀ n : Nat, FnOk P w K mg base CX0 n f fd ["saying"] (spQIn K n)
  | 0 => by
    have no : ∀ vs H Q E, ¬ spQIn K 0 vs H Q E := fun vs H Q E h => by
      obtain ⟨x, s, _, _, _, dp, _⟩ := h
      have := dep_pos s
      omega
    exact ⟨fun vs H Q E h => absurd h (no vs H Q E), fun A outer s H args us vs Q E _ _ _ _ h => absurd h (no vs H Q E)⟩
  | n + 1 => ok_qin F B AD (qin_all F B AD bF mF n) bF F.kp mF
theorem cl_qin (D : Df K mg "_questions_in" s__questions_in) (B : Blt mg) (AD : AskD K w mg) (n : Nat) : Cl P w K mg base n "_questions_in" ["saying"] (spQIn K n) := by
  obtain ⟨f, fd, F, m⟩ := D.ex
  have bF : Binds K fd ["saying"] [] := F.binds fun _ _ _ _ _ _ us hl => match us, hl with | [_], _ => rfl
  obtain ⟨oc, od, kV, doc, pm, an, cdv, ct, osl, e, lk, hcd⟩ := F.ex
  exact ⟨⟨f, fd, qin_all F B AD bF m n, m, F.kp, bF⟩, fun g hg => by
    rw [m] at hg
    cases hg
    exact ⟨fd, qin_all F B AD bF m n, oc, od, osl, lk⟩⟩
def spBkFor (K : PySem.W.Frag) (T : Nat → Addr) : Sp := fun vs H Q _ => ∃ x s d, vs = [.int ((d : Nat) : Int), x] ∧ 1 ≤ d ∧ d ≤ 8 ∧ Tb5 T H ∧ SayV K H s x ∧ SayOk d s ∧ depS s ≤ 5 ∧ (askU s).length ≤ 60 ∧ ∀ v H', Gr H H' → BkV K H' v d ((unlikeU (askU s)).map divU) → Q v H'
theorem sc_bkf : FnScope ["d", "saying"] ["d", "saying"] (defScope s_book_for) := ⟨rfl, rfl, rfl, by decide +kernel, rfl, by decide +kernel, by decide +kernel⟩
theorem cl_bkf {T : Nat → Addr} (D : Df K mg "book_for" s_book_for) (CU : Cl P w K mg base 2 "_check_unknowns" ["d"] spChkU) (CS : Cl P w K mg base 15 "_check_saying" ["d", "saying"] (spChkSay K T)) (CM : Cl P w K mg base 36 "made_book" ["d", "questions"] (spMade K)) (CI : Cl P w K mg base 5 "_questions_in" ["saying"] (spQIn K 5)) : Cl P w K mg base 37 "book_for" ["d", "saying"] (spBkFor K T) := by
  refine D.cl (fun _ _ _ _ _ _ us hl => match us, hl with | [_, _], _ => rfl) fun f fd F => F.ok sc_bkf (fun vs H Q E h => ?_) (fun cdv A outer s H vs Q E hr h => ?_)
  · obtain ⟨x, s, d, rfl, _⟩ := h
    rfl
  obtain ⟨x, s, d, rfl, d1, d8, tb, hx, ok, dp, lq, hQ⟩ := h
  refine ⟨_, (pss_cons (ps_expr (pe_cl CU (hr.mono (by decide)) (pa_cons (pv 0) pa_nil)))
    (pss_cons (ps_expr (pe_cl CS (hr.mono (by decide)) (pa_cons (pv 0) (pa_cons (pv 1) pa_nil))))
    (pss_one (ps_ret (pe_cl CM (hr.mono (by decide)) (pa_cons (pv 0) (pa_cons (pe_cl CI (hr.mono (by decide)) (pa_cons (pv 1) pa_nil)) pa_nil))))))), ?_⟩
  refine ⟨_, rfl, _, rfl, by omega, _, rfl, _, rfl, x, s, d, rfl, tb, hx, ok, dp, fun H1 g1 => ?_⟩
  refine ⟨_, rfl, _, rfl, x, s, rfl, SayV.gr g1 hx, ⟨d, ok⟩, dp, by omega, fun D zs H2 g2 _ hD pz => ?_⟩
  have l2 := nz_len (askU s)
  refine ⟨d, D, zs, nzU (askU s), rfl, .inl (SqL.of hD), pz, fun q hq => ?_, by omega, fun v H3 g3 hv => hQ v H3 ((g1.trans g2).trans g3) hv⟩
  obtain ⟨qm, nz⟩ := nzU_mem hq
  obtain ⟨ql, qz, qw⟩ := ask_ok ok q qm
  exact ⟨⟨nz, fun z hz => Nat.lt_of_lt_of_le (qz z hz) (two_le (by decide)), Nat.lt_of_lt_of_le qw (two_le (by decide))⟩, by omega⟩
end
end SB
namespace SB
open PySem L2 GxR GA RZ RP
section
variable {K : PySem.W.Frag} {H : Hp}
theorem al_ln {n : Nat} {p q : Addr} {xs ys : List V} (hp : SqL K H p xs) (hq : SqL K H q ys) (hl : ys.length ≤ 1000) (h : Paired (Alike K H n) xs ys) : Alike K H (n + 1) (.ref p) (.ref q) :=
  .inr ⟨p, q, _, _, rfl, rfl, szN (by omega), .inr ⟨hp, hq⟩, h⟩
theorem al_qu (n : Nat) {x y : V} {q : List Int × Int} (hx : QuV K H x q) (hy : QuV K H y q) (hl : q.1.length ≤ 1000) : Alike K H (n + 3) x y := by
  obtain ⟨a, s, rfl, ha, hs⟩ := hx
  obtain ⟨b, t, rfl, hb, ht⟩ := hy
  exact .inr ⟨a, b, _, _, rfl, rfl, szN (by show 2 ≤ 1000000; decide), .inl ⟨ha, hb⟩, .cons (al_si n hs ht hl) (.cons (al_int (n + 1) _) .nil)⟩
theorem al_qus (n : Nat) : ∀ {xs ys : List V} {qs : List (List Int × Int)}, (∀ q, q ∈ qs → q.1.length ≤ 1000) → Paired (QuV K H) xs qs → Paired (QuV K H) ys qs → Paired (Alike K H (n + 3)) xs ys
  | _, _, _, _, .nil, .nil => .nil
  | _, _, _, hl, .cons h1 t1, .cons h2 t2 => .cons (al_qu n h1 h2 (hl _ List.mem_cons_self)) (al_qus n (fun q h => hl q (List.mem_cons_of_mem _ h)) t1 t2)
theorem al_bk (n : Nat) {x y : V} {d : Nat} {qs : List (List Int × Int)} (hx : BkV K H x d qs) (hy : BkV K H y d qs) (h8 : qs.length ≤ 1000) (hl : ∀ q, q ∈ qs → q.1.length ≤ 1000) : Alike K H (n + 5) x y := by
  obtain ⟨a, b, xs, rfl, ha, hb, hp⟩ := hx
  obtain ⟨a', b', ys, rfl, ha', hb', hq⟩ := hy
  have ly := paired_len hq
  exact .inr ⟨a, a', _, _, rfl, rfl, szN (by show 2 ≤ 1000000; decide), .inl ⟨ha, ha'⟩, .cons (al_int (n + 3) _) (.cons (.inr ⟨b, b', _, _, rfl, rfl, szN (by omega), .inl ⟨hb, hb'⟩, al_qus n hl hp hq⟩) .nil)⟩
end

theorem Tb5.lgr {T : Nat → Addr} {d : Addr} {H H' : Hp} {ys : List V} (t : Tb5 T H) (hd : H d = some (.lst ys)) (g : GrD d H H') : Tb5 T H' := ⟨fun i h => by
  obtain ⟨ps, e, r⟩ := id (t.t i h)
  exact g.tab _ (ne_of e hd (fun z => nomatch z)) (t.t i h)⟩
section
variable {P : Program} {w : World} {K : PySem.W.Frag} {mg : Str → Option Value} {base : Heap}
/-- points of d unknowns in a list -/
def PtsV (K : PySem.W.Frag) (H : Hp) (d : Nat) (ps : List V) : Prop := ∀ v, v ∈ ps → ∃ us, PtV K H v us ∧ us.length = d ∧ (∀ u, u ∈ us → Lo u) ∧ ∀ u, u ∈ us → Wd 100 u
theorem PtsV.st {H H' : Hp} {d : Nat} {ps : List V} (h : PtsV K H d ps) (t : Tst K H H') : PtsV K H' d ps := fun v hv => let ⟨us, a, b⟩ := h v hv; ⟨us, PtV.st a t, b⟩
def spRight (K : PySem.W.Frag) (T : Nat → Addr) : Sp := fun vs H Q _ => ∃ x s d L ps nm, vs = [.int ((d : Nat) : Int), x, .ref L, .bl nm] ∧ Tb5 T H ∧ SayV K H s x ∧ SayOk d s ∧ depS s ≤ 5 ∧ (askU s).length ≤ 60 ∧ 1 ≤ d ∧ d ≤ 4 ∧ SqL K H L ps ∧ PtsV K H d ps ∧ ∀ H', Gr H H' → Q (.bl true) H'
theorem sc_right : FnScope ["d", "saying", "points", "named", "sides", "wall", "due", "made", "judged", "point", "told"] ["d", "saying", "points", "named"] (defScope s__law_right) := ⟨rfl, rfl, rfl, by decide +kernel, rfl, by decide +kernel, by decide +kernel⟩
theorem cl_right {T : Nat → Addr} (D : Df K mg "_law_right" s__law_right) (B : Blt mg) (CU : Cl P w K mg base 3 "_law_unlike" ["questions"] (spUnl K)) (CA : Cl P w K mg base 5 "_law_asked" ["saying"] (spLAsk K 5)) (CD : Cl P w K mg base 1 "_law_divided" ["sides", "wall"] (spWDiv K divU))
    (CB : Cl P w K mg base 37 "book_for" ["d", "saying"] (spBkFor K T)) (KB : ClK P w K mg base 37 "book_for" ["d", "saying"] ["saying", "d"] gR2 gR2 (spBkFor K T)) (CI : Cl P w K mg base 15 "is_saying" ["d", "told"] (spIsS K T)) (KI : ClK P w K mg base 15 "is_saying" ["d", "told"] ["told", "d"] gR2 gR2 (spIsS K T))
    (CS : Cl P w K mg base 6 "_law_same" ["told", "due"] (spSame K 6)) (CH : Cl P w K mg base 43 "holds" ["d", "saying", "point"] (spHolds K T)) (KH : ClK P w K mg base 43 "holds" ["d", "saying", "point"] ["point", "saying", "d"] gR3 gR3 (spHolds K T)) (CL : Cl P w K mg base 42 "_law_holds" ["saying", "point"] (spLHold K 5)) :
    Cl P w K mg base 44 "_law_right" ["d", "saying", "points", "named"] (spRight K T) := by
  refine D.cl (fun _ _ _ _ _ _ us hl => match us, hl with | [_, _, _, _], _ => rfl) fun f fd F => F.ok sc_right (fun vs H Q E h => ?_) (fun cdv A outer s H vs Q E hr h => ?_)
  · obtain ⟨x, s, d, L, ps, nm, rfl, _⟩ := h
    rfl
  obtain ⟨x, s, d, L, ps, nm, rfl, tb, hx, ok, dp, lq, d1, d4, hL, hps, hQ⟩ := h
  refine ⟨_, (pss_cons (ps_set (i := 6) sc_right.nd rfl (.inl rfl) (pe_tup (pa_cons (pv 0) (pa_cons (pe_callTy call_tuple_of rfl B.tup bootTup (pa_cons (pe_lc (own := [("sides", 4), ("wall", 5)]) (g := gTup K 2 (gCons (gName 4) (gCons (gName 5) gNil))) rfl sc_right.nd (pi_list (pe_cl CU (hr.mono (by decide)) (pa_cons (pe_cl CA (hr.mono (by decide)) (pa_cons (pv 1) pa_nil)) pa_nil))) (blkOk_by (N := ["d", "saying", "points", "named", "sides", "wall", "due", "made", "judged", "point", "told"]) (sc := defScope s__law_right) (by decide +kernel)) (fun _ _ _ _ _ => (pg_tup rfl (pgs_cons (pg_name (i := 4) sc_right.nd rfl (Or.inl rfl)) (pgs_cons (pg_name (i := 5) sc_right.nd rfl (Or.inl rfl)) pgs_nil)))) (fun _ _ _ _ _ => pts_nil) (fun _ _ _ _ _ => (pe_cl CD (hr.mono (by decide)) (pa_cons (pv 4) (pa_cons (pv 5) pa_nil))))) pa_nil)) pa_nil))))
    (pss_cons (ps_set (i := 7) sc_right.nd rfl (.inl rfl) (pe_ifExp (pt_val (pv 3)) (pe_clK KB (hr.mono (by decide)) (pk_cons (pv 1) (pk_cons (pv 0) pk_nil))) (pe_cl CB (hr.mono (by decide)) (pa_cons (pv 0) (pa_cons (pv 1) pa_nil)))))
    (pss_cons (ps_set (i := 8) sc_right.nd rfl (.inl rfl) (pe_ifExp (pt_val (pv 3)) (pe_clK KI (hr.mono (by decide)) (pk_cons (pv 1) (pk_cons (pv 0) pk_nil))) (pe_cl CI (hr.mono (by decide)) (pa_cons (pv 0) (pa_cons (pv 1) pa_nil)))))
    (pss_cons (ps_if (pt_not (pt_val (pe_cl CS (hr.mono (by decide)) (pa_cons (pe_lst (pa_cons (pv 7) (pa_cons (pv 8) pa_nil))) (pa_cons (pe_lst (pa_cons (pv 6) (pa_cons pe_bl pa_nil))) pa_nil))))) pss_no pss_nil)
    (pss_cons (ps_for PassesOwn.never rfl (pi_list (pv 2)) (pg_name (i := 9) sc_right.nd rfl (Or.inl rfl))
      (pss_cons (ps_set (i := 10) sc_right.nd rfl (.inl rfl) (pe_ifExp (pt_val (pv 3)) (pe_clK KH (hr.mono (by decide)) (pk_cons (pv 9) (pk_cons (pv 1) (pk_cons (pv 0) pk_nil)))) (pe_cl CH (hr.mono (by decide)) (pa_cons (pv 0) (pa_cons (pv 1) (pa_cons (pv 9) pa_nil))))))
      (pss_one (ps_if (pt_not (pt_val (pe_cl CS (hr.mono (by decide)) (pa_cons (pv 10) (pa_cons (pe_cl CL (hr.mono (by decide)) (pa_cons (pv 1) (pa_cons (pv 9) pa_nil))) pa_nil))))) pss_no pss_nil))))
    (pss_one (ps_ret pe_bl))))))), ?_⟩
  have bq := ask_ok ok
  have us60 : (unlikeU (askU s)).length ≤ 60 := Nat.le_trans (unlike_len _) lq
  let Pst : Nat → L2.St → Hp → Prop := fun n σ' H' => ∃ (c4 c5 : Option V) (y y7 : V), σ' = [some (.int ((d : Nat) : Int)), some x, some (.ref L), some (.bl nm), c4, c5, some y, if 1 ≤ n then some y7 else none, if 2 ≤ n then some (.bl true) else none, none, none] ∧ Gr H H' ∧ BkV K H' y d ((unlikeU (askU s)).map divU) ∧ (1 ≤ n → BkV K H' y7 d ((unlikeU (askU s)).map divU))
  refine seq_join (Pst 0) (fun σ' H1 h => ?_) (fun Kn hK => ?_)
  rotate_left
  · refine ⟨_, rfl, _, rfl, x, s, rfl, hx, dp, by omega, fun D0 zs0 H1 g1 hD0 pz0 => ?_⟩
    refine ⟨D0, zs0, askU s, rfl, SqL.of hD0, pz0, fun q hq => ?_, lq, fun F zs H2 g2 _ hF pz => ?_⟩
    · obtain ⟨ql, qz, qw⟩ := bq q hq
      exact ⟨fun z hz => Nat.lt_of_lt_of_le (qz z hz) (two_le (by decide)), Nat.lt_of_lt_of_le qw (two_le (by decide)), by omega⟩
    have lz := paired_len pz
    refine ⟨F, rfl, ⟨_, SqL.of hF⟩, fun D nD => lc_mapL (xs := zs) (fun i y H => ∃ q, (unlikeU (askU s))[i]? = some q ∧ QuV K H y (divU q)) (fun _ _ _ _ ⟨q, a, b⟩ t => ⟨q, a, QuV.st b t⟩) nD (SqL.of hF) (by omega) (fun i y H5 Kc hy g5 kc => ?_) (fun ys H5 hD hl5 g5 hR => ?_)⟩
    · obtain ⟨q, eq, hn⟩ := paired_get pz hy
      obtain ⟨qm, nz⟩ := unlike_mem (List.mem_of_getElem? eq)
      obtain ⟨ql, qz, qw⟩ := bq q qm
      obtain ⟨p, tt, rfl, hp, b, rfl, hb⟩ := hn.gr g5
      refine ⟨p, _, rfl, hp, rfl, _, _, rfl, _, _, rfl, rfl, rfl, _, rfl, _, rfl, .ref b, q.1, q.2, rfl, ⟨b, rfl, hb⟩, nz, ⟨fun z hz => Nat.lt_of_lt_of_le (qz z hz) (two_le (by decide)), Nat.lt_of_lt_of_le qw (two_le (by decide)), by omega⟩, fun v H6 g6 hv => kc v H6 g6 ⟨q, eq, hv⟩⟩
    · have pd : Paired (QuV K H5) ys ((unlikeU (askU s)).map divU) := paired_of (by rw [hl5, List.length_map, lz]) fun i y z hy hz => by
        obtain ⟨q, eq, hq⟩ := hR i y hy
        rw [List.getElem?_map, eq] at hz
        cases hz
        exact hq
      refine ⟨D, _, rfl, .inl ⟨SqL.of hD, fun p1 n1 => ⟨szN (by show 2 ≤ 1000000; decide), fun p2 n2 => ?_⟩⟩⟩
      have r1 := (Gr.refl H5).new n1 (.tup ys)
      have r2 := r1.new n2 (.tup [.int ((d : Nat) : Int), .ref p1])
      exact hK _ _ ⟨_, _, .ref p2, .non, rfl, ((g1.trans g2).trans g5).trans r2, ⟨p2, p1, ys, rfl, SqT.of upd_same, ((Gr.refl _).new n2 _).seqT (SqT.of upd_same), Paired.mapP pd fun _ _ z => QuV.gr z r2⟩, fun h => absurd h (by decide)⟩
  obtain ⟨c4, c5, y, y7, rfl, g1, hy, _⟩ := h
  refine seq_join (Pst 1) (fun σ' H2 h => ?_) (fun Kn hK => ?_)
  rotate_left
  · have arg : ∀ (Kc : VK), (∀ v H', Gr H1 H' → BkV K H' v d ((unlikeU (askU s)).map divU) → Kc v H') → spBkFor K T [.int ((d : Nat) : Int), x] H1 Kc E0 := fun Kc kc => ⟨x, s, d, rfl, d1, by omega, tb.gr g1, SayV.gr g1 hx, ok, dp, lq, kc⟩
    have fin : ∀ v H', Gr H1 H' → BkV K H' v d ((unlikeU (askU s)).map divU) → Kn [some (.int ((d : Nat) : Int)), some x, some (.ref L), some (.bl nm), c4, c5, some y, some v, none, none, none] H' := fun v H' g h => hK _ _ ⟨c4, c5, y, v, rfl, g1.trans g, hy.gr g, fun _ => h⟩
    refine ⟨_, rfl, _, rfl, ?_⟩
    cases nm with
    | true => exact iteT ⟨_, rfl, _, rfl, arg _ fin⟩
    | false => exact iteF ⟨_, rfl, _, rfl, arg _ fin⟩
  clear hy g1
  obtain ⟨c4, c5, y, y7, rfl, g2, hy, hy7⟩ := h
  have hy7 := hy7 (Nat.le_refl _)
  refine seq_join (Pst 2) (fun σ' H3 h => ?_) (fun Kn hK => ?_)
  rotate_left
  · have fin : ∀ H', Gr H2 H' → Kn [some (.int ((d : Nat) : Int)), some x, some (.ref L), some (.bl nm), c4, c5, some y, some y7, some (.bl true), none, none] H' := fun H' g => hK _ _ ⟨c4, c5, y, y7, rfl, g2.trans g, hy.gr g, fun _ => hy7.gr g⟩
    refine ⟨_, rfl, _, rfl, ?_⟩
    cases nm with
    | true => exact iteT ⟨_, rfl, _, rfl, x, s, d, rfl, d1, tb.gr g2, SayV.gr g2 hx, ok, dp, fin⟩
    | false => exact iteF ⟨_, rfl, _, rfl, x, s, d, rfl, d1, tb.gr g2, SayV.gr g2 hx, ok, dp, fin⟩
  clear hy hy7 g2
  obtain ⟨c4, c5, y, y7, rfl, g3, hy, hy7⟩ := h
  have hy7 := hy7 (by decide)
  refine ⟨_, rfl, _, rfl, szN (by show 2 ≤ 1000000; decide), fun p1 n1 => ?_⟩
  have r1 := (Gr.refl H3).new n1 (.lst [y7, .bl true])
  refine ⟨_, rfl, szN (by show 2 ≤ 1000000; decide), fun p2 n2 => ?_⟩
  have r2 := (Gr.refl (upd H3 p1 (.lst [y7, .bl true]))).new n2 (.lst [y, .bl true])
  have r12 := r1.trans r2
  have hl8 : ((unlikeU (askU s)).map divU).length ≤ 1000 := by rw [List.length_map]; omega
  have hql : ∀ q, q ∈ (unlikeU (askU s)).map divU → q.1.length ≤ 1000 := fun q hq => by
    obtain ⟨q0, h0, rfl⟩ := List.mem_map.mp hq
    show (List.map _ q0.1).length ≤ 1000
    rw [List.length_map, (bq q0 (unlike_mem h0).1).1]
    omega
  refine ⟨_, _, rfl, al_ln (n := 5) (r2.seqL (SqL.of upd_same)) (SqL.of upd_same) (by show 2 ≤ 1000; decide) (.cons (al_bk 0 (hy7.gr r12) (hy.gr r12) hl8 hql) (.cons (.inl ⟨rfl, rfl⟩) .nil)), fun H4 g4 => ⟨_, rfl, iteF ?_⟩⟩
  have g04 := (g3.trans r12).trans g4
  refine ⟨_, rfl, L, rfl, ⟨ps, g04.seqL hL⟩, for_list (xs := ps) (fun i σ H' => ∃ (c9 c10 : Option V), σ = [some (.int ((d : Nat) : Int)), some x, some (.ref L), some (.bl nm), c4, c5, some y, some y7, some (.bl true), c9, c10] ∧ Gr H H') ⟨_, _, rfl, g04⟩ (fun i σ H' _ h => ?_) (fun i v σ H' hv h => ?_) (fun σ H' h => ?_)⟩
  · obtain ⟨c9, c10, rfl, g⟩ := h
    exact g.seqL hL
  · obtain ⟨c9, c10, rfl, g⟩ := h
    obtain ⟨us, hu, lu, lo, wd⟩ := hps v (List.mem_of_getElem? hv)
    have uo : UsOk us := ⟨fun e => by rw [e] at lu; simp at lu; omega, by omega, lo, fun u h => (wd u h).mono (by decide)⟩
    subst lu
    refine seq_join (fun σ' H5 => σ' = [some (.int ((us.length : Nat) : Int)), some x, some (.ref L), some (.bl nm), c4, c5, some y, some y7, some (.bl true), some v, some (.bl (holdU us s))] ∧ Gr H H5) (fun σ' H5 h => ?_) (fun Kn hK => ?_)
    · obtain ⟨rfl, g5⟩ := h
      refine ⟨_, rfl, _, rfl, _, rfl, x, v, s, us, 100, rfl, SayV.gr g5 hx, hu.gr g5, ok, dp, by omega, lo, wd, by decide, fun H6 g6 => ?_⟩
      exact ⟨_, _, rfl, .inl ⟨rfl, rfl⟩, fun H7 g7 => ⟨_, rfl, iteF ⟨_, _, rfl, (g5.trans g6).trans g7⟩⟩⟩
    · have fin : ∀ H6, Gr H' H6 → Kn [some (.int ((us.length : Nat) : Int)), some x, some (.ref L), some (.bl nm), c4, c5, some y, some y7, some (.bl true), some v, some (.bl (holdU us s))] H6 := fun H6 g6 => hK _ _ ⟨rfl, g.trans g6⟩
      refine ⟨_, rfl, _, rfl, ?_⟩
      cases nm with
      | true => exact iteT ⟨_, rfl, _, rfl, _, rfl, x, v, s, us, rfl, tb.gr g, SayV.gr g hx, ok, dp, hu.gr g, uo, fin⟩
      | false => exact iteF ⟨_, rfl, _, rfl, _, rfl, x, v, s, us, rfl, tb.gr g, SayV.gr g hx, ok, dp, hu.gr g, uo, fin⟩
  · obtain ⟨c9, c10, rfl, g⟩ := h
    exact hQ H' g
end
end SB
namespace SB
open PySem L2 GxR GA RZ RP
theorem mem_cut {xs : List V} {lo hi : Option Int} {v : V} (h : v ∈ cutV xs lo hi) : v ∈ xs := by
  unfold cutV at h
  exact List.mem_of_mem_drop (List.mem_of_mem_take h)
/-- a row of what was asked: a saying, its points -/
def RowV (K : PySem.W.Frag) (N : Addr → Prop) (H : Hp) (v : V) : Prop := ∃ T x L d s ps, v = .ref T ∧ SqT K H T [.int ((d : Nat) : Int), x, .ref L] ∧ SayV K H s x ∧ SayOk d s ∧ depS s ≤ 5 ∧ (askU s).length ≤ 60 ∧ 1 ≤ d ∧ d ≤ 4 ∧ H L = some (.lst ps) ∧ N L ∧ PtsV K H d ps
theorem RowV.gr {K : PySem.W.Frag} {N : Addr → Prop} {H H' : Hp} {v : V} (h : RowV K N H v) (g : Gr H H') : RowV K N H' v :=
  let ⟨T, x, L, d, s, ps, e, a, b, c1, c2, c3, c4, c5, c6, c7, c8⟩ := h; ⟨T, x, L, d, s, ps, e, g.seqT a, SayV.gr g b, c1, c2, c3, c4, c5, g.lstK c6, c7, c8.st g.st⟩
theorem RowV.grd {K : PySem.W.Frag} {N : Addr → Prop} {e : Addr} {ys : List V} {H H' : Hp} {v : V} (h : RowV K N H v) (g : GrD e H H') (he : H e = some (.lst ys)) (n : ∀ b, N b → b ≠ e) : RowV K N H' v :=
  let ⟨T, x, L, d, s, ps, e, a, b, c1, c2, c3, c4, c5, c6, c7, c8⟩ := h
  have t : Tst K H H' := fun a xs z => g.seqT he z
  ⟨T, x, L, d, s, ps, e, t _ _ a, SayV.st t b, c1, c2, c3, c4, c5, GrDL.lst g (n _ c7) c6, c7, c8.st t⟩
theorem RowV.avoid {K : PySem.W.Frag} {N : Addr → Prop} {H : Hp} {v : V} {p : Addr} (h : RowV K N H v) (n : H p = none) : RowV K (fun b => N b ∧ b ≠ p) H v :=
  let ⟨T, x, L, d, s, ps, e, a, b, c1, c2, c3, c4, c5, c6, c7, c8⟩ := h; ⟨T, x, L, d, s, ps, e, a, b, c1, c2, c3, c4, c5, c6, ⟨c7, ne_of_none c6 n⟩, c8⟩
theorem RowV.less {K : PySem.W.Frag} {N M : Addr → Prop} {H : Hp} {v : V} (h : RowV K N H v) (n : ∀ b, N b → M b) : RowV K M H v :=
  let ⟨T, x, L, d, s, ps, e, a, b, c1, c2, c3, c4, c5, c6, c7, c8⟩ := h; ⟨T, x, L, d, s, ps, e, a, b, c1, c2, c3, c4, c5, c6, n _ c7, c8⟩
/-- the script, apart from what changes -/
def LsV (K : PySem.W.Frag) (N : Addr → Prop) (H : Hp) (l : Addr) (xs : List V) : Prop := ((H l = some (.lst xs) ∨ ∃ o, H l = some (.frz o (.lst xs))) ∧ N l) ∨ ∀ H', SqL K H' l xs
theorem LsV.of {K : PySem.W.Frag} {H : Hp} {l p : Addr} {xs : List V} (h : SqL K H l xs) (n : H p = none) : LsV K (fun b => b ≠ p) H l xs := by
  rcases h with (h | ⟨o, h⟩) | h
  · exact .inl ⟨.inl h, ne_of_none h n⟩
  · exact .inl ⟨.inr ⟨o, h⟩, ne_of_none h n⟩
  · exact .inr fun H' => .inr h
theorem LsV.sq {K : PySem.W.Frag} {N : Addr → Prop} {H : Hp} {l : Addr} {xs : List V} (h : LsV K N H l xs) : SqL K H l xs := by
  rcases h with ⟨h | h, _⟩ | h
  · exact .inl (.inl h)
  · exact .inl (.inr h)
  · exact h H
theorem LsV.grd {K : PySem.W.Frag} {N : Addr → Prop} {e : Addr} {H H' : Hp} {l : Addr} {xs : List V} (h : LsV K N H l xs) (g : GrD e H H') (n : ∀ b, N b → b ≠ e) : LsV K N H' l xs := by
  rcases h with ⟨h | ⟨o, h⟩, c⟩ | h
  · exact .inl ⟨.inl (g.keep l _ (n _ c) (fun _ z => nomatch z) h), c⟩
  · exact .inl ⟨.inr ⟨o, g.keep l _ (n _ c) (fun _ z => nomatch z) h⟩, c⟩
  · exact .inr h
theorem LsV.gr {K : PySem.W.Frag} {N : Addr → Prop} {H H' : Hp} {l : Addr} {xs : List V} (h : LsV K N H l xs) (g : Gr H H') : LsV K N H' l xs := by
  rcases h with ⟨h | ⟨o, h⟩, c⟩ | h
  · exact .inl ⟨.inl (g.lstK h), c⟩
  · exact .inl ⟨.inr ⟨o, g.keep l _ (fun _ z => nomatch z) h⟩, c⟩
  · exact .inr h
theorem LsV.avoid {K : PySem.W.Frag} {N : Addr → Prop} {H : Hp} {l p : Addr} {xs : List V} (h : LsV K N H l xs) (n : H p = none) : LsV K (fun b => N b ∧ b ≠ p) H l xs := by
  rcases h with ⟨h | ⟨o, h⟩, c⟩ | h
  · exact .inl ⟨.inl h, c, ne_of_none h n⟩
  · exact .inl ⟨.inr ⟨o, h⟩, c, ne_of_none h n⟩
  · exact .inr h
theorem LsV.less {K : PySem.W.Frag} {N M : Addr → Prop} {H : Hp} {l : Addr} {xs : List V} (h : LsV K N H l xs) (n : ∀ b, N b → M b) : LsV K M H l xs := by
  rcases h with ⟨h, c⟩ | h
  · exact .inl ⟨h, n _ c⟩
  · exact .inr h
/-- what the law keeps -/
structure InV (K : PySem.W.Frag) (T : Nat → Addr) (l : Addr) (xs : List V) (Rl : Addr) (N : Addr → Prop) (n : Nat) (H : Hp) : Prop where
  rl : ∃ rs, H Rl = some (.lst rs) ∧ rs.length = n ∧ ∀ v, v ∈ rs → RowV K N H v
  ls : LsV K N H l xs
  tb : Tb5 T H
section
variable {K : PySem.W.Frag} {T : Nat → Addr} {l Rl : Addr} {xs : List V} {N : Addr → Prop} {n : Nat} {H H' : Hp}
theorem InV.gr (s : InV K T l xs Rl N n H) (g : Gr H H') : InV K T l xs Rl N n H' := by
  obtain ⟨rs, a, b, c⟩ := s.rl
  exact ⟨⟨rs, g.lstK a, b, fun v h => (c v h).gr g⟩, s.ls.gr g, s.tb.gr g⟩
theorem InV.grd {dk : Addr} {m : Nat} (s : InV K T l xs Rl N n H) (g : GrD dk H H') (sk : Stk dk m H) (nd : ∀ b, N b → b ≠ dk) (nr : Rl ≠ dk) : InV K T l xs Rl N n H' := by
  obtain ⟨rs, a, b, c⟩ := s.rl
  obtain ⟨_, _, _, hd, _⟩ := id sk
  exact ⟨⟨rs, GrDL.lst g nr a, b, fun v h => (c v h).grd g hd nd⟩, s.ls.grd g nd, s.tb.lgr hd g⟩
theorem InV.avoid {p : Addr} (s : InV K T l xs Rl N n H) (np : H p = none) : InV K T l xs Rl (fun b => N b ∧ b ≠ p) n H := by
  obtain ⟨rs, a, b, c⟩ := s.rl
  exact ⟨⟨rs, a, b, fun v h => (c v h).avoid np⟩, s.ls.avoid np, s.tb⟩
theorem InV.less {M : Addr → Prop} (s : InV K T l xs Rl N n H) (k : ∀ b, N b → M b) : InV K T l xs Rl M n H := by
  obtain ⟨rs, a, b, c⟩ := s.rl
  exact ⟨⟨rs, a, b, fun v h => (c v h).less k⟩, s.ls.less k, s.tb⟩
theorem InV.put {v : V} (s : InV K T l xs Rl N n H) (k : ∀ b, N b → b ≠ Rl) (r : RowV K N H v) : ∃ acc, H Rl = some (.lst acc) ∧ acc.length = n ∧ InV K T l xs Rl N (n + 1) (upd H Rl (.lst (acc ++ [v]))) := by
  obtain ⟨rs, a, b, c⟩ := s.rl
  have g : GrD Rl H (upd H Rl (.lst (rs ++ [v]))) := (GrD.refl Rl H).set _
  refine ⟨rs, a, b, ⟨rs ++ [v], upd_same, by rw [List.length_append, b]; rfl, fun w hw => ?_⟩, s.ls.grd g k, s.tb.lgr a g⟩
  rcases List.mem_append.mp hw with h | h
  · exact (c w h).grd g a k
  · rw [List.mem_singleton.mp h]
    exact r.grd g a k
end
section
variable {P : Program} {w : World} {K : PySem.W.Frag} {mg : Str → Option Value} {base : Heap}
def spLaw (K : PySem.W.Frag) (T : Nat → Addr) : Sp := fun vs H Q _ => ∃ (a : Addr) (ns : List Int), vs = [.ref a] ∧ SqL K H a (ns.map V.int) ∧ ns.length ≤ 63 ∧ Tb5 T H ∧ ∀ H', Q (.bl true) H'
theorem sc_law : FnScope ["script", "rows", "place", "well", "turn", "d", "pool", "saying", "spot", "points"] ["script"] (defScope s_law) := ⟨rfl, rfl, rfl, by decide +kernel, rfl, by decide +kernel, by decide +kernel⟩
theorem ok_law {f : Addr} {fd : FuncData} {T : Nat → Addr} (F : Fun K "law" "law" s_law f fd) (B : Blt mg) (CW : Cl P w K mg base 1 "_law_well" ["script", "place"] (spWell K)) (CP : Cl P w K mg base 1 "_law_draw" ["well", "many"] spPick) (CQ : Cl P w K mg base 4 "_law_questions" ["well", "d", "most", "wide"] (spQs K)) (CS : Cl P w K mg base 6 "_law_saying" ["well", "d", "deep", "pool"] (spSay K 5)) (CPt : Cl P w K mg base 37 "_law_point" ["well", "d", "questions"] (spPt K)) (CR : Cl P w K mg base 44 "_law_right" ["d", "saying", "points", "named"] (spRight K T)) :
    FnOk P w K mg base CX0 45 f fd ["script"] (spLaw K T) := by
  refine F.ok sc_law (fun vs H Q E h => ?_) (fun cdv A outer s H vs Q E hr h => ?_)
  · obtain ⟨a, ns, rfl, _⟩ := h
    rfl
  obtain ⟨l, ns, rfl, hS, h63, tb, q⟩ := h
  refine ⟨_, (pss_cons (ps_set (i := 1) sc_law.nd rfl (.inl rfl) (pe_lst pa_nil))
    (pss_cons (ps_for PassesOwn.never rfl (pi_range1 rfl B.rng (pa_cons (pe_callB (call_max2 rfl) rfl B.max PyProof.Rows.boot_max (pa_cons pe_int (pa_cons (pe_callB (call_min2 rfl) rfl B.min PyProof.Rows.boot_min (pa_cons pe_int (pa_cons (pe_len (pv 0) B.len) pa_nil))) pa_nil))) pa_nil)) (pg_name (i := 2) sc_law.nd rfl (Or.inl rfl))
      (pss_cons (ps_set (i := 3) sc_law.nd rfl (.inr rfl) (pe_cl CW (hr.mono (by decide)) (pa_cons (pv 0) (pa_cons (pv 2) pa_nil))))
      (pss_one (ps_for PassesOwn.never rfl (pi_range1 rfl B.rng (pa_cons pe_int pa_nil)) (pg_name (i := 4) sc_law.nd rfl (Or.inl rfl))
        (pss_cons (ps_set (i := 5) sc_law.nd rfl (.inr rfl) (pe_op op_add pe_int (pe_cl CP (hr.mono (by decide)) (pa_cons (pv 3) (pa_cons pe_int pa_nil)))))
        (pss_cons (ps_set (i := 6) sc_law.nd rfl (.inr rfl) (pe_cl CQ (hr.mono (by decide)) (pa_cons (pv 3) (pa_cons (pv 5) (pa_cons pe_int (pa_cons pe_int pa_nil))))))
        (pss_cons (ps_set (i := 7) sc_law.nd rfl (.inl rfl) (pe_cl CS (hr.mono (by decide)) (pa_cons (pv 3) (pa_cons (pv 5) (pa_cons (pe_ix ix_list (pe_lst (pa_cons pe_int (pa_cons pe_int (pa_cons pe_int pa_nil)))) (pe_cl CP (hr.mono (by decide)) (pa_cons (pv 3) (pa_cons pe_int pa_nil))) (fun _ _ => rfl)) (pa_cons (pv 6) pa_nil))))))
        (pss_cons (ps_setLc (i := 9) (own := [("spot", 8)]) (g := gName 8) rfl sc_law.nd rfl rfl rfl (pi_range1 rfl B.rng (pa_cons pe_int pa_nil)) (blkOk_by (N := ["script", "rows", "place", "well", "turn", "d", "pool", "saying", "spot", "points"]) (sc := defScope s_law) (by decide +kernel)) (fun _ _ _ _ _ => (pg_name (i := 8) sc_law.nd rfl (Or.inl rfl))) (fun _ _ _ _ _ => pts_nil) (fun _ _ _ _ _ => (pe_cl CPt (hr.mono (by decide)) (pa_cons (pv 3) (pa_cons (pv 5) (pa_cons (pv 6) pa_nil))))))
        (pss_cons (ps_if (pt_not (pt_val (pe_cl CR (hr.mono (by decide)) (pa_cons (pv 5) (pa_cons (pv 7) (pa_cons (pv 9) (pa_cons (pe_cmpR op_eq (pe_cl CP (hr.mono (by decide)) (pa_cons (pv 3) (pa_cons pe_int pa_nil))) pe_int (nomark _)) pa_nil))))))) pss_no pss_nil)
        (pss_one (ps_expr (pe_bm PySem.F.plainAttrs_list PySem.F.slot_list_append PySem.F.type_list_append mt_append (pv 1) (pa_cons (pe_tup (pa_cons (pv 5) (pa_cons (pv 7) (pa_cons (pv 9) pa_nil)))) pa_nil)))))))))))))
    (pss_cons (ps_for PassesOwn.never rfl (pi_list (pe_revL (pv 1))) (pg_tup rfl (pgs_cons (pg_name (i := 5) sc_law.nd rfl (Or.inr rfl)) (pgs_cons (pg_name (i := 7) sc_law.nd rfl (Or.inl rfl)) (pgs_cons (pg_name (i := 9) sc_law.nd rfl (Or.inl rfl)) pgs_nil))))
      (pss_one (ps_if (pt_not (pt_val (pe_cl CR (hr.mono (by decide)) (pa_cons (pv 5) (pa_cons (pv 7) (pa_cons (pe_slice sl_list (pv 9) po_none (po_some pe_int)) (pa_cons pe_bl pa_nil))))))) pss_no pss_nil)))
    (pss_one (ps_ret pe_bl))))), ?_⟩
  refine ⟨szL0, fun Rl nR => ?_⟩
  have r0 := (Gr.refl H).new nR (.lst [])
  have s0 : InV K T l (ns.map V.int) Rl (fun b => b ≠ Rl) 0 (upd H Rl (.lst [])) := ⟨⟨[], upd_same, rfl, fun v h => (by cases h)⟩, (LsV.of hS nR).gr r0, tb.gr r0⟩
  have e1 := s0.ls.sq
  generalize upd H Rl (.lst []) = H0 at s0 e1 ⊢
  refine ⟨_, rfl, l, _, rfl, .inl e1, _, _, rfl, _, _, rfl, _, rfl, ?_, ?_, ?_⟩
  · split <;> (try split) <;> omega
  · split <;> (try split) <;> omega
  refine for_range (lo := 0) (fun i σ H' => ∃ c2 c3 c4 c5 c6 c7 c8 c9 : Option V, σ = [some (.ref l), some (.ref Rl), c2, c3, c4, c5, c6, c7, c8, c9] ∧ i ≤ 64 ∧ InV K T l (ns.map V.int) Rl (fun b => b ≠ Rl) (3 * i) H') ⟨_, _, _, _, _, _, _, _, rfl, by omega, s0⟩ (fun i σ H1 hi h => ?_) (fun σ H1 h => ?_)
  · obtain ⟨c2, c3, c4, c5, c6, c7, c8, c9, rfl, i64, s1⟩ := h
    have hi' : i < 64 := by
      split at hi <;> (try split at hi) <;> omega
    refine ⟨_, rfl, _, rfl, l, ns, (0 : Int) + i, rfl, s1.ls.sq, h63, by omega, by omega, fun dk a b ndk b0 b1 => ?_⟩
    have sk0 : Stk dk 0 (upd H1 dk (.lst [.int a, .int b, .int 0])) := ⟨a, b, 0, upd_same, b0, b1, by decide, by decide⟩
    have nRd : Rl ≠ dk := by
      obtain ⟨rs, e, _⟩ := s1.rl
      exact ne_of_none e ndk
    have s2 := (s1.avoid ndk).gr ((Gr.refl H1).new ndk (.lst [.int a, .int b, .int 0]))
    generalize upd H1 dk (.lst [.int a, .int b, .int 0]) = H2 at sk0 s2 ⊢
    clear s1 ndk b0 b1
    have nd : ∀ b : Addr, (b ≠ Rl ∧ b ≠ dk) → b ≠ dk := fun b h => h.2
    have nr : ∀ b : Addr, (b ≠ Rl ∧ b ≠ dk) → b ≠ Rl := fun b h => h.1
    refine ⟨3, rfl, by decide, by decide, for_range (lo := 0) (fun t σ H' => ∃ c4 c5 c6 c7 c8 c9 : Option V, σ = [some (.ref l), some (.ref Rl), some (.int (0 + (i : Int))), some (.ref dk), c4, c5, c6, c7, c8, c9] ∧ InV K T l (ns.map V.int) Rl (fun b => b ≠ Rl ∧ b ≠ dk) (3 * i + t) H' ∧ Stk dk (400 * t) H') ⟨_, _, _, _, _, _, rfl, s2, sk0⟩ (fun t σ H3 ht h => ?_) (fun σ H3 h => ?_)⟩
    · obtain ⟨c4, c5, c6, c7, c8, c9, rfl, s3, sk3⟩ := h
      have ht : t < 3 := ht
      refine seq_join (fun σ' H' => ∃ d : Nat, σ' = [some (.ref l), some (.ref Rl), some (.int (0 + (i : Int))), some (.ref dk), some (.int (0 + (t : Int))), some (.int ((d : Nat) : Int)), c6, c7, c8, c9] ∧ 1 ≤ d ∧ d ≤ 3 ∧ InV K T l (ns.map V.int) Rl (fun b => b ≠ Rl ∧ b ≠ dk) (3 * i + t) H' ∧ Stk dk (400 * t + 1) H') (fun σ' H4 h => ?_) (fun Kn hK => ?_)
      rotate_left
      · refine ⟨_, rfl, dk, 3, _, rfl, sk3, by omega, by decide, by decide +kernel, fun u H4 u0 u1 g4 s4 => ⟨_, _, rfl, rfl, ?_⟩⟩
        obtain ⟨ku, rfl⟩ : ∃ j : Nat, u = (j : Int) := ⟨u.toNat, by omega⟩
        exact hK _ _ ⟨1 + ku, (by show [some (V.ref l), some (.ref Rl), some (.int (0 + (i : Int))), some (.ref dk), some (.int (0 + (t : Int))), some (.int (1 + (ku : Int))), c6, c7, c8, c9] = _; rw [show ((1 + ku : Nat) : Int) = 1 + (ku : Int) from by omega]), by omega, by omega, s3.grd g4 sk3 nd nRd, s4⟩
      clear s3 sk3
      obtain ⟨d, rfl, d1, d3, s4, sk4⟩ := h
      refine ⟨_, rfl, _, rfl, dk, _, d, 6, 3, rfl, sk4, by omega, d1, by omega, by decide, by decide, by decide, fun Fp qs H5 g5 sk5 nF hP => ?_⟩
      have s5 := s4.grd g5 sk4 nd nRd
      clear s4 sk4 g5
      refine ⟨_, rfl, _, rfl, szN (by show 3 ≤ 1000000; decide), fun L0 nL => ?_⟩
      have rL := (Gr.refl H5).new nL (.lst [.int 1, .int 3, .int 5])
      have eL : (upd H5 L0 (.lst [.int 1, .int 3, .int 5])) L0 = some (.lst [.int 1, .int 3, .int 5]) := upd_same
      have nLd := sk5.ne nL
      have s6 := s5.gr rL
      have hP6 := hP.grd (rL.d dk) sk5 nF
      have sk6 := sk5.gr rL
      generalize upd H5 L0 (.lst [.int 1, .int 3, .int 5]) = H6 at eL s6 hP6 sk6 ⊢
      clear s5 sk5 hP rL
      refine ⟨_, rfl, dk, 3, _, rfl, sk6, by omega, by decide, by decide +kernel, fun u H7 u0 u1 g7 sk7 => ?_⟩
      have s7 := s6.grd g7 sk6 nd nRd
      have hP7 := hP6.grd g7 sk6 nF
      obtain ⟨m, am, m1, m5⟩ : ∃ m : Nat, atI ([.int 1, .int 3, .int 5] : List V) u = some (.int ((m : Nat) : Int)) ∧ 1 ≤ m ∧ m ≤ 5 := by
        have : u = 0 ∨ u = 1 ∨ u = 2 := by omega
        rcases this with rfl | rfl | rfl
        · exact ⟨1, rfl, by decide, by decide⟩
        · exact ⟨3, rfl, by decide, by decide⟩
        · exact ⟨5, rfl, by decide, by decide⟩
      refine ⟨L0, _, _, _, rfl, rfl, SqL.of (GrDL.lst g7 nLd eL), am, _, rfl, dk, _, d, m, Fp, qs, rfl, sk7, by show _ + 190 ≤ 900000; omega, d1, by omega, m1, m5, nF, hP7, fun v sy H8 g8 sk8 hv ok dp lq => ?_⟩
      have s8 := s7.grd g8 sk7 nd nRd
      have hP8 := hP7.grd g8 sk7 nF
      have sk8 : Stk dk (400 * t + 252) H8 := sk8.more (by show _ + 190 ≤ _; omega)
      clear s7 s6 hP7 hP6 sk7 sk6 eL g7 g8
      refine ⟨6, rfl, by decide, by decide, fun D nD => ?_⟩
      have nDd := sk8.ne nD
      have nDR : D ≠ Rl := by
        obtain ⟨rs, e, _⟩ := s8.rl
        exact (ne_of_none e nD).symm
      refine lc_stkR (K := K) (c := 20) (n := 6) (fun _ y H => ∃ us, PtV K H y us ∧ us.length = d ∧ (∀ u, u ∈ us → Lo u) ∧ ∀ u, u ∈ us → Wd 100 u) (fun _ _ _ _ ⟨us, a, b⟩ t => ⟨us, PtV.st a t, b⟩) nD sk8 (by decide) (fun j H9 Kc hj g9 sk9 kc => ?_) (fun ps H9 hD hl g9 sk9 hR => ?_)
      · refine ⟨rfl, _, rfl, _, rfl, _, rfl, dk, _, d, Fp, qs, rfl, sk9, by omega, d1, by omega, nF, hP8.grd g9 sk8 nF, fun v us H10 g10 sk10 hv lu lo wd => kc v H10 g10 sk10 ⟨us, hv, lu, lo, wd⟩⟩
      have s9 := s8.grd g9 sk8 nd nRd
      have hv9 := SayV.st (g9.sk sk8) hv
      have hps : PtsV K H9 d ps := fun v h => by
        obtain ⟨i, hi⟩ := List.getElem?_of_mem h
        exact hR i v hi
      clear hR s8 hP8 hv
      refine ⟨_, rfl, _, rfl, _, rfl, _, rfl, dk, 2, _, rfl, sk9, by omega, by decide, by decide +kernel, fun u2 H10 _ _ g10 sk10 => ⟨rfl, ?_⟩⟩
      have s10 := s9.grd g10 sk9 nd nRd
      have hv10 := SayV.st (g10.sk sk9) hv9
      have hps10 := hps.st (g10.sk sk9)
      have hD10 := GrDL.lst g10 nDd hD
      refine ⟨v, sy, d, D, ps, _, rfl, s10.tb, hv10, ok, dp, Nat.le_trans lq (by decide), d1, by omega, SqL.of hD10, hps10, fun H11 g11 => ⟨_, rfl, iteF ?_⟩⟩
      have s11 := s10.gr g11
      have sk11 := sk10.gr g11
      obtain ⟨rs, hRl, lrs, _⟩ := id s11.rl
      refine ⟨_, rfl, .inl ⟨rfl, _, SqL.of hRl⟩, _, rfl, _, rfl, _, rfl, szN (by show 3 ≤ 1000000; decide), fun Tt nT => ?_⟩
      have rT := (Gr.refl H11).new nT (.tup [.int ((d : Nat) : Int), v, .ref D])
      have gT := g11.trans rT
      have s12 := s11.gr rT
      have sk12 := sk11.gr rT
      have row : RowV K (fun b => b ≠ Rl ∧ b ≠ dk) (upd H11 Tt (.tup [.int ((d : Nat) : Int), v, .ref D])) (.ref Tt) := ⟨Tt, v, D, d, sy, ps, rfl, SqT.of upd_same, SayV.gr gT hv10, ok, dp, Nat.le_trans lq (by decide), d1, by omega, gT.lstK hD10, ⟨nDR, nDd⟩, hps10.st gT.st⟩
      obtain ⟨acc, ha, la, s13⟩ := s12.put nr row
      exact ⟨Rl, _, _, rfl, rfl, ha, small1000 (by omega), _, _, _, _, _, _, rfl, s13, (sk12.off nRd).more (by omega)⟩
    · obtain ⟨c4, c5, c6, c7, c8, c9, rfl, s3, sk3⟩ := h
      exact ⟨_, _, _, _, _, _, _, _, rfl, by omega, s3.less nr⟩
  · obtain ⟨c2, c3, c4, c5, c6, c7, c8, c9, rfl, i64, s1⟩ := h
    obtain ⟨rs, hRl, lrs, hrs⟩ := id s1.rl
    refine ⟨_, rfl, Rl, rs, rfl, SqL.of hRl, fun p np => ⟨p, rfl, ⟨_, SqL.of upd_same⟩, ?_⟩⟩
    have r1 := (Gr.refl H1).new np (.lst rs.reverse)
    have e2 : (upd H1 p (.lst rs.reverse)) p = some (.lst rs.reverse) := upd_same
    generalize upd H1 p (.lst rs.reverse) = H2 at r1 e2 ⊢
    refine for_list (xs := rs.reverse) (fun i σ H' => ∃ c2 c3 c4 c5 c6 c7 c8 c9 : Option V, σ = [some (.ref l), some (.ref Rl), c2, c3, c4, c5, c6, c7, c8, c9] ∧ Gr H2 H') ⟨_, _, _, _, _, _, _, _, rfl, Gr.refl _⟩ (fun i σ H' _ h => ?_) (fun i v σ H' hv h => ?_) (fun σ H' h => q H')
    · obtain ⟨c2, c3, c4, c5, c6, c7, c8, c9, rfl, g⟩ := h
      exact g.seqL (SqL.of e2)
    · obtain ⟨c2, c3, c4, c5, c6, c7, c8, c9, rfl, g⟩ := h
      have g1 := r1.trans g
      obtain ⟨Tt, x, L, d, sy, ps, rfl, hT, hx, ok, dp, lq, d1, d4, hL, _, hps⟩ := (hrs v (List.mem_reverse.mp (List.mem_of_getElem? hv))).gr g1
      refine ⟨Tt, _, rfl, hT, rfl, _, _, rfl, _, _, rfl, _, _, rfl, rfl, ?_⟩
      refine ⟨_, rfl, _, rfl, _, rfl, _, rfl, L, ps, rfl, SqL.of hL, fun p2 np2 => ?_⟩
      have r2 := (Gr.refl H').new np2 (.lst (cutV ps none (some 2)))
      refine ⟨x, sy, d, p2, _, true, rfl, (s1.tb.gr g1).gr r2, SayV.gr r2 hx, ok, dp, lq, d1, d4, SqL.of upd_same, fun v h => (hps.st r2.st) v (mem_cut h), fun H3 g3 => ⟨_, rfl, iteF ?_⟩⟩
      exact ⟨_, _, _, _, _, _, _, _, rfl, (g.trans r2).trans g3⟩
end
end SB
namespace SB
open PySem PySem.Spec PyProof.Rows L2
/-- the table of the code of the def of this name is empty -/
def TabE (K : PySem.W.Frag) (x : Str) (mg : Str → Option Value) (h : Heap) : Prop := ∀ (fa c Q : Addr) (o : Obj) (fd : FuncData) (e : Value) (dd : Option Addr) (vs : Array Value) (sl : Array (Option Value)),
  mg x = some (.ref fa) → K.lookup fa = some o → o.data = .func fd → fd.code = .ref c → K.lookup c = some ⟨e, dd, .fields vs, sl⟩ → vs[11]? = some (.ref Q) → h.get? Q = some { cls := .none, data := .fields #[] }
theorem lk_mem {β : Type} : ∀ {l : List (Addr × β)} {b : Addr} {o : β}, l.lookup b = some o → (b, o) ∈ l
  | [], _, _, e => by cases e
  | (k, v) :: r, b, o, e => by
    rw [List.lookup_cons] at e
    cases h : (b == k) with
    | true =>
      rw [h] at e
      cases e
      rw [beq_iff_eq.mp h]
      exact List.mem_cons_self
    | false =>
      rw [h] at e
      exact List.mem_cons_of_mem _ (lk_mem e)
theorem lk_has {β : Type} : ∀ {l : List (Addr × β)} {p : Addr × β}, p ∈ l → ∃ o, l.lookup p.1 = some o
  | (k, v) :: r, p, h => by
    rw [List.lookup_cons]
    cases e : (p.1 == k) with
    | true => exact ⟨v, rfl⟩
    | false =>
      rcases List.mem_cons.mp h with h | h
      · rw [h] at e
        simp at e
      · exact lk_has h
/-- K with the few objects besides that tell that nobody looks on -/
theorem seer_ext {K : PySem.W.Frag} {h : Heap} (X : K.In h) (N : h.NoSeer) : ∃ K2 : PySem.W.Frag, K2.In h ∧ (∀ b o, K.lookup b = some o → K2.lookup b = some o) ∧ (∀ h2 : Heap, K2.In h2 → h2.NoSeer) ∧
    ∀ b, h.get? b = some { cls := .none, data := .fields #[] } → K.lookup b = none → K2.lookup b = none := by
  obtain ⟨⟨mc, ⟨o1, es1, ep1, g1, d1, r1⟩, c1, c2⟩, ⟨mm, ⟨o2, es2, ep2, g2, d2, r2⟩, m1⟩, ⟨mb, ⟨o3, es3, ep3, g3, d3, r3⟩, b0⟩, ⟨mg, bm, ob, ⟨o4, es4, ep4, g4, d4, r4⟩, q1, g5, q3, q4⟩⟩ := N
  let ex : List (Addr × Obj) := [(cStatics, o1), (sysModules, o2), (builtinsNs, o3), (mainGlobals, o4), (bm, ob)]
  have hex : ∀ p, p ∈ ex → h.get? p.1 = some p.2 := fun p hp => by
    simp only [ex, List.mem_cons, List.not_mem_nil, or_false] at hp
    rcases hp with rfl | rfl | rfl | rfl | rfl <;> assumption
  have mem_of : ∀ {l : List (Addr × Obj)} {b : Addr} {o : Obj}, l.lookup b = some o → (b, o) ∈ l := fun {l b o} e => lk_mem e
  have In2 : (K ++ ex).In h := fun b o e => by
    rw [List.lookup_append] at e
    cases hk : K.lookup b with
    | some o' =>
      rw [hk] at e
      cases e
      exact X _ _ hk
    | none =>
      rw [hk] at e
      exact hex _ (mem_of e)
  have has : ∀ p, p ∈ ex → (K ++ ex).lookup p.1 = some p.2 := fun p hp => by
    have hm : ∀ {l : List (Addr × Obj)} {p : Addr × Obj}, p ∈ l → ∃ o, l.lookup p.1 = some o := fun {l p} h => lk_has h
    obtain ⟨o, ho⟩ := hm (List.mem_append_right K hp)
    have e1 := In2 _ _ ho
    rw [hex p hp] at e1
    rw [ho, ← e1]
  refine ⟨K ++ ex, In2, fun b o e => by rw [List.lookup_append, e]; rfl, fun h2 X2 => ?_, fun b hb hk => ?_⟩
  · have a1 := X2 _ _ (has (cStatics, o1) (by simp [ex]))
    have a2 := X2 _ _ (has (sysModules, o2) (by simp [ex]))
    have a3 := X2 _ _ (has (builtinsNs, o3) (by simp [ex]))
    have a4 := X2 _ _ (has (mainGlobals, o4) (by simp [ex]))
    have a5 := X2 _ _ (has (bm, ob) (by simp [ex]))
    exact ⟨⟨mc, ⟨o1, es1, ep1, a1, d1, r1⟩, c1, c2⟩, ⟨mm, ⟨o2, es2, ep2, a2, d2, r2⟩, m1⟩, ⟨mb, ⟨o3, es3, ep3, a3, d3, r3⟩, b0⟩, ⟨mg, bm, ob, ⟨o4, es4, ep4, a4, d4, r4⟩, q1, a5, q3, q4⟩⟩
  · rw [List.lookup_append, hk]
    cases e : ex.lookup b with
    | none => rfl
    | some o =>
      have hm := mem_of e
      have ho := hex _ hm
      have ho : h.get? b = some o := ho
      rw [hb] at ho
      have eo : o = { cls := .none, data := .fields #[] } := (Option.some.inj ho).symm
      simp only [ex, List.mem_cons, List.not_mem_nil, or_false, Prod.mk.injEq] at hm
      rcases hm with ⟨_, z⟩ | ⟨_, z⟩ | ⟨_, z⟩ | ⟨_, z⟩ | ⟨_, z⟩
      · rw [← z, eo] at d1; cases d1
      · rw [← z, eo] at d2; cases d2
      · rw [← z, eo] at d3; cases d3
      · rw [← z, eo] at d4; cases d4
      · rw [← z, eo] at q3; cases q3
theorem walk_names {l : PySem.W.OpenLaw} {n k : Nat} {q : Program} {loose : List Str} {XP : (Str → Option Value) → Heap → Prop} {YP : World → Heap → Prop} {d : DefRec} {K : Params → PySem.W.Frag} {CX : World → CXT} {x : Str} (names : List Str)
    (hn : l.most = some n) (hn2 : n ≤ sizeLine) (hdf : d.params.defaults = []) (hr : Room k callerA) (hrec : (names.all fun y => (recsOf q).any fun e => e.name == y) = true) (hi : importsNone q = true) (hY : ∀ (w : World) (h : Heap), YP w h → (K w.params).In h)
    (F : ∀ (w : World) (mg : Str → Option Value) (fa : Addr) (h : Heap) (K2 : PySem.W.Frag), (K w.params).In h → h.Ns mainGlobals mg → mg d.name = some (.ref fa) → (∀ y, names.contains y = true → TabE (K w.params) y mg h) → K2.In h → (∀ b o, (K w.params).lookup b = some o → K2.lookup b = some o) → (∀ h2 : Heap, K2.In h2 → h2.NoSeer) →
      (∀ b, h.get? b = some { cls := .none, data := .fields #[] } → (K w.params).lookup b = none → K2.lookup b = none) → LamX.LawAtS l w K2 (CX w) k n x mg fa h)
    (hCX : ∀ (w : World) (H : Hp) (s : Shared) (e : Value) (s' : Shared), CX w [] H s (fun _ _ _ => False) e s' → False) :
    PySem.W.WalkO q loose XP YP l.row.toRowW d [] (fun f vs => PySem.call f vs) := by
  refine Att.attach_callB hn hdf fun w s₀ s₁ mg mb fa o pm cd doc a vs ns G Y ho hd hcd hmg hobj hints hlen hbits hg => ?_
  have KX := hY w _ Y
  have own : ∀ y, names.contains y = true → TabE (K w.params) y mg s₁.heap := fun y hy fa2 c Q o1 fd1 e dd vs1 sl k0 k1 k2 k3 k4 k5 => by
    have hy2 := List.all_eq_true.mp hrec y (by simpa using hy)
    obtain ⟨dL, hm, hn1⟩ := List.any_eq_true.mp hy2
    have e2 : dL.name = y := beq_iff_eq.mp hn1
    obtain ⟨a', o', fd', c', P', h1, h2, h3, h4, h5, h6⟩ := G.T.tab dL hm
    rw [e2, k0] at h1
    cases h1
    have g1 := KX _ _ k1
    rw [g1] at h2
    cases h2
    rw [k2] at h3
    cases h3
    rw [k3] at h4
    cases h4
    obtain ⟨⟨oc, vc, e1, _, e3, e4⟩, hP⟩ := h6
    have g2 := KX _ _ k4
    rw [g2] at e1
    cases e1
    cases e3
    rw [k5] at e4
    cases e4
    exact hP
  obtain ⟨K2, X2, ext, seer, nT2⟩ := seer_ext KX (PyProof.Rows.Top.seer G.T hi)
  obtain ⟨fd, cs, sp, hT, nT, C, hb, hsp, hF⟩ := F w mg fa _ K2 KX G.T.g hmg own X2 ext seer nT2
  exact LamX.law_callTs X2 G.T.g G.T.b G.T.builtins G.T.nolimit hg hT nT C G.T.bmain hobj hints (Nat.le_trans hlen hn2) hr hF hb (fun H hH hS => hsp H a ns hlen hbits hH hS) fun H e s' => hCX w H s₁ e s'
theorem tabB {base : Heap} {mg : Str → Option Value} {c Q : Addr} (b : LamX.TabB base mg c Q) : GxR.TabB base mg c Q := ⟨b.code, b.bm, b.gP⟩
section
variable {K : PySem.W.Frag} {mg : Str → Option Value} {h : Heap} {x : Str} {st : Stmt}
theorem df_mk {f : Addr} {od an : Option Addr} {sl : Array (Option Value)} {oc kV dc pm cd ct : Value} (X : K.In h) (G : h.Ns mainGlobals mg) (a : PySem.W.nsIn K mainGlobals x = some (some (.ref f)))
    (l : K.lookup f = some ⟨oc, od, .func (PySem.W.fnOf x x (defArgs st) (defBody st) (defScope st) .none kV dc pm an cd ct), sl⟩) (c : PySem.W.codeIn K cd x = true) (k : PySem.W.keepIn K (.ref f) = true) : Df K mg x st :=
  ⟨⟨f, _, fun_mk l c k, PySem.W.mg_of X G a⟩⟩
/-- a def whose code object's table is empty yet -/
structure DtE (K : PySem.W.Frag) (mg : Str → Option Value) (h : Heap) (x : Str) (st : Stmt) : Prop where
  ex : ∃ c Q : Addr, DfT K mg x st c ∧ K.lookup Q = none ∧ PySem.W.CodeHd h c Q ∧ h.get? Q = some { cls := .none, data := .fields #[] }
theorem dt_mk {f c Q : Addr} {od an dd : Option Addr} {sl sl2 : Array (Option Value)} {oc kV dc pm ct e : Value} {vs : Array Value} (X : K.In h) (G : h.Ns mainGlobals mg) (T : TabE K x mg h) (a : PySem.W.nsIn K mainGlobals x = some (some (.ref f)))
    (l : K.lookup f = some ⟨oc, od, .func (PySem.W.fnOf x x (defArgs st) (defBody st) (defScope st) .none kV dc pm an (.ref c) ct), sl⟩) (c1 : PySem.W.codeIn K (.ref c) x = true) (k : PySem.W.keepIn K (.ref f) = true)
    (tl : K.lookup c = some ⟨e, dd, .fields vs, sl2⟩) (tv : vs[11]? = some (.ref Q)) (ch : PySem.W.codeHdIn K c Q = true) (tn : K.lookup Q = none) : DtE K mg h x st :=
  ⟨⟨c, Q, ⟨⟨f, _, ⟨⟨oc, od, kV, dc, pm, an, ct, sl, rfl, l, c1⟩, k⟩, PySem.W.mg_of X G a⟩⟩, tn, PySem.W.codeHd_of_K X ch, T f c Q _ _ e dd vs sl2 (PySem.W.mg_of X G a) l rfl rfl tl tv⟩⟩
/-- from K to what holds more -/
structure Ext (K K2 : PySem.W.Frag) (h : Heap) : Prop where
  up : ∀ b o, K.lookup b = some o → K2.lookup b = some o
  no : ∀ b, h.get? b = some { cls := .none, data := .fields #[] } → K.lookup b = none → K2.lookup b = none
theorem Ext.code {K2 : PySem.W.Frag} (e : Ext K K2 h) {cd : Value} {q : Str} (c : PySem.W.codeIn K cd q = true) : PySem.W.codeIn K2 cd q = true := by
  unfold PySem.W.codeIn at c ⊢
  split at c
  · rename_i a
    cases ho : K.lookup a with
    | none =>
      rw [ho] at c
      cases c
    | some o =>
      rw [ho] at c
      simp only [e.up _ _ ho]
      exact c
  · cases c
theorem keep_fn {K2 : PySem.W.Frag} {f : Addr} {oc : Value} {od : Option Addr} {fd : FuncData} {sl : Array (Option Value)} (l : K2.lookup f = some ⟨oc, od, .func fd, sl⟩) : PySem.W.keepIn K2 (.ref f) = true := by
  unfold PySem.W.keepIn
  simp only [l]
theorem Df.ext {K2 : PySem.W.Frag} (e : Ext K K2 h) (D : Df K mg x st) : Df K2 mg x st := by
  obtain ⟨f, fd, F, m⟩ := D.ex
  obtain ⟨oc, od, kV, doc, pm, an, cdv, ct, osl, rfl, lk, hcd⟩ := F.ex
  exact ⟨f, _, ⟨⟨oc, od, kV, doc, pm, an, cdv, ct, osl, rfl, e.up _ _ lk, e.code hcd⟩, keep_fn (e.up _ _ lk)⟩, m⟩
theorem DtE.ext {K2 : PySem.W.Frag} (e : Ext K K2 h) (D : DtE K mg h x st) : DtE K2 mg h x st := by
  obtain ⟨c, Q, ⟨f, fd, F, m⟩, n, ch, emp⟩ := D.ex
  obtain ⟨oc, od, kV, doc, pm, an, ct, osl, rfl, lk, hcd⟩ := F.ex
  exact ⟨c, Q, ⟨f, _, ⟨⟨oc, od, kV, doc, pm, an, ct, osl, rfl, e.up _ _ lk, e.code hcd⟩, keep_fn (e.up _ _ lk)⟩, m⟩, e.no _ emp n, ch, emp⟩
end
end SB
namespace SB
open PySem PySem.Spec PyProof.Rows L2
section
variable {K K2 : PySem.W.Frag} {mg : Str → Option Value} {h : Heap} {w : World}
theorem ns_up {a : Addr} {o : Obj} {x : Str} (e : Ext K K2 h) (l : K.lookup a = some o) : PySem.W.nsIn K2 a x = PySem.W.nsIn K a x := by
  unfold PySem.W.nsIn
  rw [e.up _ _ l, l]
theorem kdict_up {d : Addr} {es : Array DictEntry} {n : Nat} (e : Ext K K2 h) (D : KDict K w d es n) : KDict K2 w d es n := ⟨e.up _ _ D.at_, D.lit, D.low⟩
theorem AskD.ext (e : Ext K K2 h) (A : AskD K w mg) : AskD K2 w mg := by
  obtain ⟨d, es, n, t1, t2, t3, h1, h2, a1, a2, a3, a4, a5, a6⟩ := A.ex
  have u : ∀ x, PySem.W.nsIn K2 d x = PySem.W.nsIn K d x := fun x => ns_up e h2.at_
  exact ⟨d, es, n, t1, t2, t3, h1, kdict_up e h2, (u _).trans a1, (u _).trans a2, (u _).trans a3, (u _).trans a4, (u _).trans a5, (u _).trans a6⟩
theorem PartD.ext (e : Ext K K2 h) (A : PartD K w mg) : PartD K2 w mg := by
  obtain ⟨d, es, n, t1, t2, t3, h1, h2, a1, a2, a3⟩ := A.ex
  have u : ∀ x, PySem.W.nsIn K2 d x = PySem.W.nsIn K d x := fun x => ns_up e h2.at_
  exact ⟨d, es, n, t1, t2, t3, h1, kdict_up e h2, (u _).trans a1, (u _).trans a2, (u _).trans a3⟩
theorem ask_mk {d : Addr} {es : Array DictEntry} {n : Nat} {t1 t2 t3 : Tok} (X : K.In h) (G : h.Ns mainGlobals mg) (a : PySem.W.nsIn K mainGlobals "ASKED" = some (some (.ref d))) (l : K.lookup d = some ⟨.type "dict", none, .dict es n, #[]⟩) (k : PySem.W.KeysLit w.params es.toList) (lo : (d == sysModules) = false)
    (a1 : PySem.W.nsIn K d "less" = some (some (.int (-1) t1))) (a2 : PySem.W.nsIn K d "is" = some (some (.int 0 t2))) (a3 : PySem.W.nsIn K d "more" = some (some (.int 1 t3))) (a4 : PySem.W.nsIn K d "not" = some none) (a5 : PySem.W.nsIn K d "both" = some none) (a6 : PySem.W.nsIn K d "either" = some none) : AskD K w mg :=
  ⟨d, es, n, t1, t2, t3, PySem.W.mg_of X G a, ⟨l, k, lo⟩, a1, a2, a3, a4, a5, a6⟩
theorem part_mk {d : Addr} {es : Array DictEntry} {n : Nat} {t1 t2 t3 : Tok} (X : K.In h) (G : h.Ns mainGlobals mg) (a : PySem.W.nsIn K mainGlobals "PARTS" = some (some (.ref d))) (l : K.lookup d = some ⟨.type "dict", none, .dict es n, #[]⟩) (k : PySem.W.KeysLit w.params es.toList) (lo : (d == sysModules) = false)
    (a1 : PySem.W.nsIn K d "not" = some (some (.int 1 t1))) (a2 : PySem.W.nsIn K d "both" = some (some (.int 2 t2))) (a3 : PySem.W.nsIn K d "either" = some (some (.int 2 t3))) : PartD K w mg :=
  ⟨d, es, n, t1, t2, t3, PySem.W.mg_of X G a, ⟨l, k, lo⟩, a1, a2, a3⟩
end
end SB
namespace SB
open PySem PySem.Spec PyProof.Rows L2
theorem law_at {l : PySem.W.OpenLaw} {w : World} {K : PySem.W.Frag} {mg : Str → Option Value} {h : Heap} {fa : Addr} (hmg : mg "law" = some (.ref fa)) (NS : NSK l.prog K) (B : Blt mg) (bset : mg "set" = none)
    (AD : AskD K w mg)
    (PD : PartD K w mg)
    (E__is_saying_of : DtE K mg h "_is_saying_of" s__is_saying_of)
    (D_is_whole : Df K mg "is_whole" s_is_whole)
    (D_is_number : Df K mg "is_number" s_is_number)
    (D_are_numbers : Df K mg "are_numbers" s_are_numbers)
    (D_is_point : Df K mg "is_point" s_is_point)
    (D_are_wholes : Df K mg "are_wholes" s_are_wholes)
    (D_check_point : Df K mg "check_point" s_check_point)
    (D_sign : Df K mg "sign" s_sign)
    (D_answer_at : Df K mg "answer_at" s_answer_at)
    (D__sum_at : Df K mg "_sum_at" s__sum_at)
    (D_common_of : Df K mg "common_of" s_common_of)
    (D_begins_at : Df K mg "begins_at" s_begins_at)
    (D_normal_form : Df K mg "normal_form" s_normal_form)
    (D_made_book : Df K mg "made_book" s_made_book)
    (D_divided : Df K mg "divided" s_divided)
    (D_nought_form : Df K mg "nought_form" s_nought_form)
    (D_is_saying : Df K mg "is_saying" s_is_saying)
    (D_holds : Df K mg "holds" s_holds)
    (D_book_for : Df K mg "book_for" s_book_for)
    (D__check_unknowns : Df K mg "_check_unknowns" s__check_unknowns)
    (D__check_saying : Df K mg "_check_saying" s__check_saying)
    (D__are_sides_of : Df K mg "_are_sides_of" s__are_sides_of)
    (D__holds_at : Df K mg "_holds_at" s__holds_at)
    (D__questions_in : Df K mg "_questions_in" s__questions_in)
    (D__law_well : Df K mg "_law_well" s__law_well)
    (D__law_draw : Df K mg "_law_draw" s__law_draw)
    (D__law_same : Df K mg "_law_same" s__law_same)
    (D__law_low : Df K mg "_law_low" s__law_low)
    (D__law_plus : Df K mg "_law_plus" s__law_plus)
    (D__law_times : Df K mg "_law_times" s__law_times)
    (D__law_value : Df K mg "_law_value" s__law_value)
    (D__law_answer : Df K mg "_law_answer" s__law_answer)
    (D__law_divided : Df K mg "_law_divided" s__law_divided)
    (D__law_ground : Df K mg "_law_ground" s__law_ground)
    (D__law_unlike : Df K mg "_law_unlike" s__law_unlike)
    (D__law_questions : Df K mg "_law_questions" s__law_questions)
    (D__law_saying : Df K mg "_law_saying" s__law_saying)
    (D__law_holds : Df K mg "_law_holds" s__law_holds)
    (D__law_asked : Df K mg "_law_asked" s__law_asked)
    (D__law_point : Df K mg "_law_point" s__law_point)
    (D__law_right : Df K mg "_law_right" s__law_right)
    (D_law : Df K mg "law" s_law) :
    LamX.LawAtS l w K CX0 45 63 "script" mg fa h := by
  obtain ⟨c0, Q0, T__is_saying_of, n0, ch0, e0⟩ := E__is_saying_of.ex
  obtain ⟨f, fd, F, m⟩ := D_law.ex
  rw [m] at hmg
  cases hmg
  have nl : ∀ p : Addr × Addr, ¬ p ∈ ([] : List (Addr × Addr)) := fun p h => nomatch h
  refine ⟨fd, [(c0, Q0)], spLaw K (fun i => [1, Q0].getD i 0), (List.forall_mem_cons.mpr ⟨e0, (fun p h => absurd h (nl p))⟩), (List.forall_mem_cons.mpr ⟨n0, (fun p h => absurd h (nl p))⟩), (List.forall_mem_cons.mpr ⟨ch0, (fun p h => absurd h (nl p))⟩), fun s u => ?_, fun H a ns hl _ hH hS => ?_, fun base _ _ tb => ?_⟩
  · obtain ⟨oc, od, kV, doc, pm, an, cdv, ct, osl, rfl, lk, hcd⟩ := F.ex
    exact .of_eq rfl
  · refine ⟨a, ns, rfl, hS, hl, ⟨fun i hi => ?_⟩, fun _ => rfl⟩
    have hi : i < 1 := hi
    match i, hi with
    | 0, _ => exact ⟨#[], hH (c0, Q0) (List.mem_cons_self), trivial⟩
  have B0 : GxR.TabB base mg c0 Q0 := tabB (tb (c0, Q0) (List.mem_cons_self))
  have Cwhole := cl_whole (P := l.prog) (w := w) (base := base) D_is_whole B
  have Cnumber := cl_number D_is_number B Cwhole
  have Cnumbers := cl_numbers D_are_numbers Cnumber
  have Cpoint := cl_point D_is_point B Cnumbers
  have Cwholes := cl_wholes D_are_wholes Cwhole
  have CchkPt := cl_chkPt D_check_point B Cpoint
  have Csign := cl_sign (P := l.prog) (w := w) (base := base) D_sign
  have CsumAt := cl_sumAt (P := l.prog) (w := w) (base := base) D__sum_at B
  have Ccommon := cl_common (P := l.prog) (w := w) (base := base) D_common_of B
  have Cbegins := cl_begins (P := l.prog) (w := w) (base := base) D_begins_at
  have Cdiv := cl_div D_divided B NS Ccommon
  have Cnorm := cl_norm D_normal_form B NS Ccommon Cbegins
  have Cnought := cl_nought D_nought_form Cnorm
  have Cmade := cl_made D_made_book B bset Cnought Cdiv
  have CchkU := cl_chkU D__check_unknowns Cwhole
  have CsdOf := cl_sdOf D__are_sides_of B Cwholes
  have CisSay := cl_isSay (T := fun i => [1, Q0].getD i 0) Nat.one_pos T__is_saying_of B0 B AD PD Cwhole CsdOf 5
  have CchkSay := cl_chkSay D__check_saying CisSay
  have CisS := cl_isS D_is_saying CchkU CisSay
  have CansZ := cl_ansZ D_answer_at Csign CsumAt
  have Chold := cl_hold D__holds_at B AD CansZ 5
  have Cholds := cl_holds D_holds CchkU CchkSay CchkPt Chold
  have Cqin := cl_qin (P := l.prog) (w := w) (base := base) D__questions_in B AD 5
  have Cbkf := cl_bkf D_book_for CchkU CchkSay Cmade Cqin
  have Cwell := cl_well (P := l.prog) (w := w) (base := base) D__law_well B
  have Cdraw := cl_draw (P := l.prog) (w := w) (base := base) D__law_draw B
  have Cwsame := cl_wsame (P := l.prog) (w := w) (base := base) D__law_same B 6
  have Clow := cl_low (P := l.prog) (w := w) (base := base) D__law_low B NS
  have Cwplus := cl_wplus D__law_plus Clow
  have Cwtimes := cl_wtimes D__law_times Clow
  have Cvalue := cl_value D__law_value B Cwplus Cwtimes
  have Clans := cl_lans D__law_answer B Cvalue
  have Cwdiv := cl_wdiv (P := l.prog) (w := w) (base := base) D__law_divided B
  have Cwgr := cl_wgr D__law_ground B Cwdiv
  have Cwunl := cl_wunl D__law_unlike B Cwgr
  have Cqs := cl_qs D__law_questions B Cdraw Cwunl
  have Csay := cl_say D__law_saying B Cdraw 5
  have Clhold := cl_lhold D__law_holds B Clans 5
  have Clask := cl_lask (P := l.prog) (w := w) (base := base) D__law_asked B 5
  have Cpt := cl_pt D__law_point B Cdraw Clow Cvalue
  have Kbkf := clK2 Cbkf D_book_for fun _ _ _ _ _ _ _ _ => rfl
  have KisS := clK2 CisS D_is_saying fun _ _ _ _ _ _ _ _ => rfl
  have Kholds := clK3 Cholds D_holds fun _ _ _ _ _ _ _ _ _ => rfl
  have Cright := cl_right D__law_right B Cwunl Clask Cwdiv Cbkf Kbkf CisS KisS Cwsame Cholds Kholds Clhold
  exact ok_law F B Cwell Cdraw Cqs Csay Cpt Cright
end SB
open PySem PySem.W PyProof.Rows
set_option maxRecDepth 100000 in
set_option maxHeartbeats 0 in
theorem PySem.Challenge.cw_sidebooks_k43_whole_sayings_at_points_holds : PySem.Challenge.rw_sidebooks_k43_whole_sayings_at_points.Holds := by
  w_on; o_law; k_head; (case hw => w_witness2)
  k_fill
  refine SB.walk_names (l := PySem.Challenge.rw_sidebooks_k43_whole_sayings_at_points) (n := 63) (k := 45) (x := "script") (CX := fun _ => L2.CX0) ["_is_saying_of"] rfl (by decide) rfl ⟨rfl, by decide, by decide⟩ ?R ?I (fun w h Y => PySem.W.kIn_of Y) ?F (fun _ _ _ _ _ z => z)
  case R => decide +kernel
  case I => decide +kernel
  case F =>
    intro w mg fa h K2 KX G hmg hT X2 up seer no
    refine' SB.law_at (K := K2) hmg ⟨seer, rfl⟩ ?B ?xset (SB.AskD.ext ⟨up, no⟩ ?F_AD) (SB.PartD.ext ⟨up, no⟩ ?F_PD) (SB.DtE.ext ⟨up, no⟩ ?E__is_saying_of) (SB.Df.ext ⟨up, no⟩ ?D_is_whole) (SB.Df.ext ⟨up, no⟩ ?D_is_number) (SB.Df.ext ⟨up, no⟩ ?D_are_numbers) (SB.Df.ext ⟨up, no⟩ ?D_is_point) (SB.Df.ext ⟨up, no⟩ ?D_are_wholes) (SB.Df.ext ⟨up, no⟩ ?D_check_point) (SB.Df.ext ⟨up, no⟩ ?D_sign) (SB.Df.ext ⟨up, no⟩ ?D_answer_at) (SB.Df.ext ⟨up, no⟩ ?D__sum_at) (SB.Df.ext ⟨up, no⟩ ?D_common_of) (SB.Df.ext ⟨up, no⟩ ?D_begins_at) (SB.Df.ext ⟨up, no⟩ ?D_normal_form) (SB.Df.ext ⟨up, no⟩ ?D_made_book) (SB.Df.ext ⟨up, no⟩ ?D_divided) (SB.Df.ext ⟨up, no⟩ ?D_nought_form) (SB.Df.ext ⟨up, no⟩ ?D_is_saying) (SB.Df.ext ⟨up, no⟩ ?D_holds) (SB.Df.ext ⟨up, no⟩ ?D_book_for) (SB.Df.ext ⟨up, no⟩ ?D__check_unknowns) (SB.Df.ext ⟨up, no⟩ ?D__check_saying) (SB.Df.ext ⟨up, no⟩ ?D__are_sides_of) (SB.Df.ext ⟨up, no⟩ ?D__holds_at) (SB.Df.ext ⟨up, no⟩ ?D__questions_in) (SB.Df.ext ⟨up, no⟩ ?D__law_well) (SB.Df.ext ⟨up, no⟩ ?D__law_draw) (SB.Df.ext ⟨up, no⟩ ?D__law_same) (SB.Df.ext ⟨up, no⟩ ?D__law_low) (SB.Df.ext ⟨up, no⟩ ?D__law_plus) (SB.Df.ext ⟨up, no⟩ ?D__law_times) (SB.Df.ext ⟨up, no⟩ ?D__law_value) (SB.Df.ext ⟨up, no⟩ ?D__law_answer) (SB.Df.ext ⟨up, no⟩ ?D__law_divided) (SB.Df.ext ⟨up, no⟩ ?D__law_ground) (SB.Df.ext ⟨up, no⟩ ?D__law_unlike) (SB.Df.ext ⟨up, no⟩ ?D__law_questions) (SB.Df.ext ⟨up, no⟩ ?D__law_saying) (SB.Df.ext ⟨up, no⟩ ?D__law_holds) (SB.Df.ext ⟨up, no⟩ ?D__law_asked) (SB.Df.ext ⟨up, no⟩ ?D__law_point) (SB.Df.ext ⟨up, no⟩ ?D__law_right) (SB.Df.ext ⟨up, no⟩ ?D_law)
    case F_AD =>
      refine' SB.ask_mk KX G ?a ?l ?k ?lo ?a1 ?a2 ?a3 ?a4 ?a5 ?a6
      (case a => k_is); (case l => k_is)
      (case k => exact ⟨⟨_, _, rfl, rfl⟩, ⟨_, _, rfl, rfl⟩, ⟨_, _, rfl, rfl⟩, trivial⟩); (case lo => rfl)
      (case a1 => k_is); (case a2 => k_is); (case a3 => k_is); (case a4 => k_is); (case a5 => k_is); (case a6 => k_is)
    case F_PD =>
      refine' SB.part_mk KX G ?a ?l ?k ?lo ?a1 ?a2 ?a3
      (case a => k_is); (case l => k_is)
      (case k => exact ⟨⟨_, _, rfl, rfl⟩, ⟨_, _, rfl, rfl⟩, ⟨_, _, rfl, rfl⟩, trivial⟩); (case lo => rfl)
      (case a1 => k_is); (case a2 => k_is); (case a3 => k_is)
    case E__is_saying_of =>
      refine' SB.dt_mk KX G (hT "_is_saying_of" (by decide +kernel)) ?a ?l ?c ?k ?tl ?tv ?ch ?tn
      (case a => k_is)
      (case l => k_is)
      (case c => k_is)
      (case k => k_is)
      (case tl => k_is); (case tv => exact rfl)
      (case ch => kernel_rfl); (case tn => kernel_rfl)
    case D_is_whole =>
      refine' SB.df_mk KX G ?a ?l ?c ?k
      (case a => k_is)
      (case l => k_is)
      (case c => k_is)
      (case k => k_is)
    case D_is_number =>
      refine' SB.df_mk KX G ?a ?l ?c ?k
      (case a => k_is)
      (case l => k_is)
      (case c => k_is)
      (case k => k_is)
    case D_are_numbers =>
      refine' SB.df_mk KX G ?a ?l ?c ?k
      (case a => k_is)
      (case l => k_is)
      (case c => k_is)
      (case k => k_is)
    case D_is_point =>
      refine' SB.df_mk KX G ?a ?l ?c ?k
      (case a => k_is)
      (case l => k_is)
      (case c => k_is)
      (case k => k_is)
    case D_are_wholes =>
      refine' SB.df_mk KX G ?a ?l ?c ?k
      (case a => k_is)
      (case l => k_is)
      (case c => k_is)
      (case k => k_is)
    case D_check_point =>
      refine' SB.df_mk KX G ?a ?l ?c ?k
      (case a => k_is)
      (case l => k_is)
      (case c => k_is)
      (case k => k_is)
    case D_sign =>
      refine' SB.df_mk KX G ?a ?l ?c ?k
      (case a => k_is)
      (case l => k_is)
      (case c => k_is)
      (case k => k_is)
    case D_answer_at =>
      refine' SB.df_mk KX G ?a ?l ?c ?k
      (case a => k_is)
      (case l => k_is)
      (case c => k_is)
      (case k => k_is)
    case D__sum_at =>
      refine' SB.df_mk KX G ?a ?l ?c ?k
      (case a => k_is)
      (case l => k_is)
      (case c => k_is)
      (case k => k_is)
    case D_common_of =>
      refine' SB.df_mk KX G ?a ?l ?c ?k
      (case a => k_is)
      (case l => k_is)
      (case c => k_is)
      (case k => k_is)
    case D_begins_at =>
      refine' SB.df_mk KX G ?a ?l ?c ?k
      (case a => k_is)
      (case l => k_is)
      (case c => k_is)
      (case k => k_is)
    case D_normal_form =>
      refine' SB.df_mk KX G ?a ?l ?c ?k
      (case a => k_is)
      (case l => k_is)
      (case c => k_is)
      (case k => k_is)
    case D_made_book =>
      refine' SB.df_mk KX G ?a ?l ?c ?k
      (case a => k_is)
      (case l => k_is)
      (case c => k_is)
      (case k => k_is)
    case D_divided =>
      refine' SB.df_mk KX G ?a ?l ?c ?k
      (case a => k_is)
      (case l => k_is)
      (case c => k_is)
      (case k => k_is)
    case D_nought_form =>
      refine' SB.df_mk KX G ?a ?l ?c ?k
      (case a => k_is)
      (case l => k_is)
      (case c => k_is)
      (case k => k_is)
    case D_is_saying =>
      refine' SB.df_mk KX G ?a ?l ?c ?k
      (case a => k_is)
      (case l => k_is)
      (case c => k_is)
      (case k => k_is)
    case D_holds =>
      refine' SB.df_mk KX G ?a ?l ?c ?k
      (case a => k_is)
      (case l => k_is)
      (case c => k_is)
      (case k => k_is)
    case D_book_for =>
      refine' SB.df_mk KX G ?a ?l ?c ?k
      (case a => k_is)
      (case l => k_is)
      (case c => k_is)
      (case k => k_is)
    case D__check_unknowns =>
      refine' SB.df_mk KX G ?a ?l ?c ?k
      (case a => k_is)
      (case l => k_is)
      (case c => k_is)
      (case k => k_is)
    case D__check_saying =>
      refine' SB.df_mk KX G ?a ?l ?c ?k
      (case a => k_is)
      (case l => k_is)
      (case c => k_is)
      (case k => k_is)
    case D__are_sides_of =>
      refine' SB.df_mk KX G ?a ?l ?c ?k
      (case a => k_is)
      (case l => k_is)
      (case c => k_is)
      (case k => k_is)
    case D__holds_at =>
      refine' SB.df_mk KX G ?a ?l ?c ?k
      (case a => k_is)
      (case l => k_is)
      (case c => k_is)
      (case k => k_is)
    case D__questions_in =>
      refine' SB.df_mk KX G ?a ?l ?c ?k
      (case a => k_is)
      (case l => k_is)
      (case c => k_is)
      (case k => k_is)
    case D__law_well =>
      refine' SB.df_mk KX G ?a ?l ?c ?k
      (case a => k_is)
      (case l => k_is)
      (case c => k_is)
      (case k => k_is)
    case D__law_draw =>
      refine' SB.df_mk KX G ?a ?l ?c ?k
      (case a => k_is)
      (case l => k_is)
      (case c => k_is)
      (case k => k_is)
    case D__law_same =>
      refine' SB.df_mk KX G ?a ?l ?c ?k
      (case a => k_is)
      (case l => k_is)
      (case c => k_is)
      (case k => k_is)
    case D__law_low =>
      refine' SB.df_mk KX G ?a ?l ?c ?k
      (case a => k_is)
      (case l => k_is)
      (case c => k_is)
      (case k => k_is)
    case D__law_plus =>
      refine' SB.df_mk KX G ?a ?l ?c ?k
      (case a => k_is)
      (case l => k_is)
      (case c => k_is)
      (case k => k_is)
    case D__law_times =>
      refine' SB.df_mk KX G ?a ?l ?c ?k
      (case a => k_is)
      (case l => k_is)
      (case c => k_is)
      (case k => k_is)
    case D__law_value =>
      refine' SB.df_mk KX G ?a ?l ?c ?k
      (case a => k_is)
      (case l => k_is)
      (case c => k_is)
      (case k => k_is)
    case D__law_answer =>
      refine' SB.df_mk KX G ?a ?l ?c ?k
      (case a => k_is)
      (case l => k_is)
      (case c => k_is)
      (case k => k_is)
    case D__law_divided =>
      refine' SB.df_mk KX G ?a ?l ?c ?k
      (case a => k_is)
      (case l => k_is)
      (case c => k_is)
      (case k => k_is)
    case D__law_ground =>
      refine' SB.df_mk KX G ?a ?l ?c ?k
      (case a => k_is)
      (case l => k_is)
      (case c => k_is)
      (case k => k_is)
    case D__law_unlike =>
      refine' SB.df_mk KX G ?a ?l ?c ?k
      (case a => k_is)
      (case l => k_is)
      (case c => k_is)
      (case k => k_is)
    case D__law_questions =>
      refine' SB.df_mk KX G ?a ?l ?c ?k
      (case a => k_is)
      (case l => k_is)
      (case c => k_is)
      (case k => k_is)
    case D__law_saying =>
      refine' SB.df_mk KX G ?a ?l ?c ?k
      (case a => k_is)
      (case l => k_is)
      (case c => k_is)
      (case k => k_is)
    case D__law_holds =>
      refine' SB.df_mk KX G ?a ?l ?c ?k
      (case a => k_is)
      (case l => k_is)
      (case c => k_is)
      (case k => k_is)
    case D__law_asked =>
      refine' SB.df_mk KX G ?a ?l ?c ?k
      (case a => k_is)
      (case l => k_is)
      (case c => k_is)
      (case k => k_is)
    case D__law_point =>
      refine' SB.df_mk KX G ?a ?l ?c ?k
      (case a => k_is)
      (case l => k_is)
      (case c => k_is)
      (case k => k_is)
    case D__law_right =>
      refine' SB.df_mk KX G ?a ?l ?c ?k
      (case a => k_is)
      (case l => k_is)
      (case c => k_is)
      (case k => k_is)
    case D_law =>
      refine' SB.df_mk KX G ?a ?l ?c ?k
      (case a => k_is)
      (case l => k_is)
      (case c => k_is)
      (case k => k_is)
    case B =>
      refine' ⟨PySem.W.mg_none_of KX G ?z_len, PySem.W.mg_none_of KX G ?z_int, PySem.W.mg_none_of KX G ?z_isinstance, PySem.W.mg_none_of KX G ?z_tuple, PySem.W.mg_none_of KX G ?z_list, PySem.W.mg_none_of KX G ?z_str, PySem.W.mg_none_of KX G ?z_bool, PySem.W.mg_none_of KX G ?z_range, PySem.W.mg_none_of KX G ?z_abs, PySem.W.mg_none_of KX G ?z_max, PySem.W.mg_none_of KX G ?z_min, PySem.W.mg_none_of KX G ?z_any, PySem.W.mg_none_of KX G ?z_all, PySem.W.mg_none_of KX G ?z_zip, PySem.W.mg_of KX G ?z_gcd⟩
      (case z_len => k_is)
      (case z_int => k_is)
      (case z_isinstance => k_is)
      (case z_tuple => k_is)
      (case z_list => k_is)
      (case z_str => k_is)
      (case z_bool => k_is)
      (case z_range => k_is)
      (case z_abs => k_is)
      (case z_max => k_is)
      (case z_min => k_is)
      (case z_any => k_is)
      (case z_all => k_is)
      (case z_zip => k_is)
      (case z_gcd => k_is)
    case xset => exact PySem.W.mg_none_of KX G (by k_is)
