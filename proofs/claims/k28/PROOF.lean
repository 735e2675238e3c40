import PyProof.Rows.All
import Wide.All
import OpenK.AllK
import Wide.FinOn
import PySem.Challenge.RW_sidebooks_k28_whole_merged_books
import HandS.ForExc
import HandS.ForMost
import HandS.Wide
import HandS.IsInst
import HandS.Flow
import HandS.Call
import PyProof.NoPylong
import PyProof.Rows.RuleB_floordiv
import HandS.TupSets
import HandS.SetBool
import KE.KeyNested
import HandS.Comp
import HandS.AnyAll
import HandS.GenOver
import PyProof.GenRules
import PyProof.GenQ
import PyProof.ConsumeS
import HandS.Gcd
import HandS.Zip
import HandS.TupMul
import HandS.TupAny
import PyProof.WalksMore
import HandS.TryOnly
import HandS.Style
import HandS.WordsDict
import HandS.List
import PyProof.Rows.SeqCalls
import PyProof.ListMulRoad
import PyProof.FactsAll.tuple_2
import HandS.Base
import PyProof.ReprRoads
import HandS.Ends
import KE.KRevSl
import HandS.SetKeys
import HandS.Walk
import KE.GoesEnum
import PyProof.EnumMake
import HandS.EndOwn
import KE.KNestM
set_option Elab.async false
set_option linter.all false
set_option maxRecDepth 100000
set_option maxHeartbeats 8000000
namespace SB
open PySem L2
def topI (i : Nat) : Stmt := PySem.Challenge.pw_sidebooks_k28_whole_merged_books.main.body.getD i (.Pass ⟨0, 0, 0, 0⟩)
abbrev s_is_whole : Stmt := topI 6
abbrev s_are_wholes : Stmt := topI 7
abbrev s_are_sides : Stmt := topI 8
abbrev s_is_question : Stmt := topI 9
abbrev s_is_question_of : Stmt := topI 10
abbrev s_is_index : Stmt := topI 11
abbrev s_check_index : Stmt := topI 12
abbrev s_common_of : Stmt := topI 13
abbrev s_begins_at : Stmt := topI 14
abbrev s_normal_form : Stmt := topI 15
abbrev s_is_book : Stmt := topI 17
abbrev s_check_book : Stmt := topI 18
abbrev s_made_book : Stmt := topI 19
abbrev s__is_many : Stmt := topI 20
abbrev s_divided : Stmt := topI 21
abbrev s_nought_form : Stmt := topI 22
abbrev s_merged : Stmt := topI 24
abbrev s__merged_questions : Stmt := topI 25
abbrev s__law_stock : Stmt := topI 27
abbrev s__law_pick : Stmt := topI 28
abbrev s__law_alike : Stmt := topI 29
abbrev s__law_clear : Stmt := topI 30
abbrev s__law_rank : Stmt := topI 31
abbrev s__law_all : Stmt := topI 32
abbrev s__law_closure : Stmt := topI 33
abbrev s__law_flats : Stmt := topI 34
abbrev s__law_signs : Stmt := topI 35
abbrev s__law_question : Stmt := topI 36
abbrev s__law_is_new : Stmt := topI 37
abbrev s__law_web : Stmt := topI 38
abbrev s__law_book : Stmt := topI 39
abbrev s__law_divided : Stmt := topI 40
abbrev s__law_merged : Stmt := topI 41
abbrev s_law : Stmt := topI 42
end SB
namespace SB
open PySem PySem.Spec PyProof.Rows L2
/-- nobody looks on when two long integers are divided -/
structure NSK (P : Program) (K : PySem.W.Frag) : Prop where
  seer : ∀ h : Heap, K.In h → h.NoSeer
  tree : P.given.tree = none
/-- // by any number but 0 -/
theorem op_fdivP {X : Cx} {e : Env} {l : List Env} (NS : NSK X.prog X.K) (hd : X.A.depth + Builtin.pylongFrames < recursionLimit) (hst : X.stack = e :: l) (hg : e.scope.isGenerator = false) (hc : e.scope.isCoroutine = false) (hb : e.builtins = builtinsNs) (hm : e.globals = mainGlobals) :
    OpR X (binaryOp .FloorDiv) (rI (fun _ j => j ≠ 0) fun i j => .int (i.fdiv j)) := by
  intro pins s σ H x y v u Q I rx ry h
  obtain ⟨i, j, rfl, rfl, hj, q⟩ := h
  obtain ⟨t, rfl⟩ := rx
  obtain ⟨t', rfl⟩ := ry
  refine floordiv_int hj ?_ (.inr (PylongRoom.of I.nolimit hd (SeerAt.of (NS.seer _ I.kIn) NS.tree (by rw [I.ok.frames, hst]) hg hc hb hm)))
  exact ⟨.int (i.fdiv j), H, I.tok _, ⟨_, rfl⟩, q⟩
/-- // by a number above 0 -/
theorem op_fdivE {X : Cx} {e : Env} {l : List Env} (NS : NSK X.prog X.K) (hd : X.A.depth + Builtin.pylongFrames < recursionLimit) (hst : X.stack = e :: l) (hg : e.scope.isGenerator = false) (hc : e.scope.isCoroutine = false) (hb : e.builtins = builtinsNs) (hm : e.globals = mainGlobals) :
    OpR X (binaryOp .FloorDiv) (rI (fun _ j => 0 < j) fun i j => .int (i / j)) := by
  intro pins s σ H x y v u Q I rx ry h
  obtain ⟨i, j, rfl, rfl, hj, q⟩ := h
  refine op_fdivP NS hd hst hg hc hb hm pins s σ H _ _ v u Q I rx ry ⟨i, j, rfl, rfl, Int.ne_of_gt hj, ?_⟩
  have q : Q (V.int (i / j)) H := q
  rw [← Int.fdiv_eq_ediv_of_nonneg i (Int.le_of_lt hj)] at q
  exact q
theorem Room.far {k : Nat} {A : Around} (r : Room (k + 33) A) : A.depth + Builtin.pylongFrames < recursionLimit := by
  have := r.dp
  show A.depth + 100 < _
  omega
end SB
/-! Small sets whose members are objects of one sort (tuples of tuples): searched, filled. Over the table's own facts (HandS.TupSets). -/
namespace SG
open PySem PySem.Spec PyProof.Rows L2
/-- a sort of members -/
structure Kd (P : Program) (w : World) (κ : Type) [DecidableEq κ] where
  is : Heap → κ → Addr → Prop
  hash : κ → Int
  draws : κ → Nat
  keep : ∀ {h h' : Heap} {k : κ} {b : Addr}, is h k b → (∀ c o, h.get? c = some o → (∃ vs n, o.data = .seq vs n) → h'.get? c = some o) → is h' k b
  eqB : ∀ {A : Around} {E : Value → Shared → Prop} {s : Shared} {x y : κ} {a b : Addr} {Q : Bool → Shared → Prop}, A.units + 8 < cLine → is s.heap x a → is s.heap y b → Q (decide (x = y)) s → wpAny (model P w) A (eqBool (.ref a) (.ref b)) Q E s
  pyH : ∀ {A : Around} {E : Value → Shared → Prop} {s : Shared} {k : κ} {a : Addr} {Q : Int → Shared → Prop}, A.units + 8 < cLine → is s.heap k a → Q (hash k) { s with toks := s.toks + draws k } → wpAny (model P w) A (pyHash (.ref a)) Q E s
  quiet : ∀ {A : Around} {E : Value → Shared → Prop} {s : Shared} {k : κ} {a : Addr} {Q : Bool → Shared → Prop}, is s.heap k a → Q true s → wpAny (model P w) A (eqIsQuiet 8 (.ref a)) Q E s
  noCls : ∀ {A : Around} {E : Value → Shared → Prop} {s : Shared} {k : κ} {a : Addr} {Q : Bool → Shared → Prop}, is s.heap k a → Q false s → wpAny (model P w) A (ofAClassStatement 8 (.ref a)) Q E s
  byV : ∀ {A : Around} {E : Value → Shared → Prop} {s : Shared} {k : κ} {a : Addr} {Q : Bool → Shared → Prop}, is s.heap k a → Q true s → wpAny (model P w) A (hashByValue 8 (.ref a)) Q E s
section
variable {P : Program} {w : World} {κ : Type} [DecidableEq κ] (kd : Kd P w κ) {A : Around} {E : Value → Shared → Prop} {s : Shared}
theorem kd_same {h h' : Heap} {k : κ} {b a : Addr} {o : Obj} {es : Array (Int × Value)} {ep : Nat} {t : SetTable} (hb : kd.is h k b) (ho : h.get? a = some o) (hd : o.data = .set es ep t) (sb : Heap.SameBut a h h') : kd.is h' k b :=
  kd.keep hb fun c o' hc hseq => (sb.2 c fun z => by
    obtain ⟨vs, n, hs⟩ := hseq
    rw [z, ho] at hc
    cases hc
    rw [hd] at hs
    cases hs).trans hc
/-- looking among members of the sort tells nothing -/
theorem kd_unseen {x : Addr} {k : κ} {ys : List Value} {Q : Bool → Shared → Prop} (hx : kd.is s.heap k x) (hy : ∀ y ∈ ys, ∃ c k', y = Value.ref c ∧ kd.is s.heap k' c) (q : Q false s) : wpAny (model P w) A (searchCouldBeSeen (.ref x) ys) Q E s := by
  unfold searchCouldBeSeen
  refine wpAny_bind ?_
  refine wpAny_forIn_list _ (fun left r s2 => r.1 = none ∧ s2 = s ∧ ∀ y ∈ left, ∃ c k', y = Value.ref c ∧ kd.is s.heap k' c) _ ?_ ?_ _ _ ⟨rfl, rfl, hy⟩
  · rintro y left r s2 ⟨er, rfl, al⟩
    obtain ⟨c, k', rfl, hc⟩ := al _ List.mem_cons_self
    have al2 : ∀ y ∈ left, ∃ c k', y = Value.ref c ∧ kd.is s2.heap k' c := fun u hu => al u (List.mem_cons_of_mem _ hu)
    dsimp only
    by_cases same : (x == c || (carriedByValue (.ref x) && carriedByValue (.ref c))) = true
    · exact wp_if_pos same (wpAny_pure ⟨rfl, rfl, al2⟩)
    · refine wp_if_neg same (wpAny_bind (kd.quiet hx ?_))
      simp only [Bool.not_true, Bool.false_eq_true, if_false]
      refine wpAny_bind (kd.quiet hc ?_)
      simp only [Bool.not_true, Bool.false_eq_true, if_false]
      refine wpAny_bind (kd.noCls hx ?_)
      simp only [Bool.false_eq_true, if_false]
      refine wpAny_bind (kd.noCls hc ?_)
      simp only [Bool.false_eq_true, if_false]
      exact wpAny_pure ⟨rfl, rfl, al2⟩
  · rintro ⟨r1, r2⟩ s2 ⟨er, rfl, _⟩
    simp only at er
    subst er
    exact wpAny_pure q
def rowsG (L : List (Addr × κ)) : List (Int × Value) := L.map fun p => (kd.hash p.2, Value.ref p.1)
/-- a set at a that holds L, each key once -/
structure SR (h : Heap) (a : Addr) (L : List (Addr × κ)) (es : Array (Int × Value)) (ep : Nat) (t : SetTable) : Prop where
  ob : ∃ o, h.get? a = some o ∧ o.ExactSet ∧ o.data = .set es ep t
  rows : es.toList = rowsG kd L
  tab : TabOk t (L.map fun p => kd.hash p.2)
  nd : (L.map (·.2)).Nodup
  mem : ∀ p ∈ L, kd.is h p.2 p.1
  plain : t.plain = true
  led : w.params.followText "set-order" = true ∨ t.led = true
  room : L.length * 5 < t.mask * 3
  few : L.length < 64
variable {kd} {a : Addr} {L : List (Addr × κ)} {es : Array (Int × Value)} {ep : Nat} {t : SetTable}
theorem SR.size (R : SR kd s.heap a L es ep t) : es.size = L.length := by
  have e := congrArg List.length R.rows
  rwa [rowsG, Array.length_toList, List.length_map] at e
theorem SR.len (R : SR kd s.heap a L es ep t) : t.place.toList.length = L.length := by
  have e := R.tab.sz
  rwa [List.length_map, ← Array.length_toList] at e
theorem SR.fits (R : SR kd s.heap a L es ep t) : t.fits es.size = true := by
  have e1 := R.size
  have e2 := R.len
  have e3 := R.room
  rw [Array.length_toList] at e2
  unfold SetTable.fits SetTable.fill
  rw [R.tab.dm, Bool.and_eq_true, beq_iff_eq, decide_eq_true_eq]
  exact ⟨by omega, by show t.place.size + 0 ≤ t.mask; omega⟩
theorem SR.at_ (R : SR kd s.heap a L es ep t) {i : Nat} {p : Addr × κ} (h : L[i]? = some p) : es[i]? = some (kd.hash p.2, Value.ref p.1) := by
  have e : es.toList[i]? = some (kd.hash p.2, Value.ref p.1) := by rw [R.rows, rowsG, List.getElem?_map, h] <;> rfl
  rwa [Array.getElem?_toList] at e
/-- the c-th look on the way of a hash -/
abbrev look (t : SetTable) (hk : Int) (c : Nat) : SetTable.Probe := nth t.mask (runAt t.mask (SetTable.bits hk % (t.mask + 1)) (SetTable.bits hk)) c
theorem look_add (t : SetTable) (hk : Int) (c q : Nat) : nth t.mask (look t hk c) q = look t hk (c + q) := (nth_add t.mask c _ q).symm
theorem look_clean (t : SetTable) (hk : Int) (c : Nat) : (look t hk c).dummy = none := by
  have go : ∀ (n : Nat) (p : SetTable.Probe), p.dummy = none → (nth t.mask p n).dummy = none := fun n => by
    induction n with
    | zero => exact fun _ h => h
    | succ n ih => exact fun p h => ih _ (by unfold adv; split <;> exact h)
  exact go c _ rfl
/-- how the search answers where a member is met -/
def met (add : Bool) (i : Nat) : SetFound := .there (if add = true then none else some i)
theorem sr_search (R : SR kd s.heap a L es ep t) (add : Bool) {x : Addr} {k : κ} (hx : kd.is s.heap k x) (hu : A.units + 8 < cLine) {K : Nat} (hKf : K < 10 * SetTable.turns t.mask) (hK : way t.mask (kd.hash k) K ∉ t.place.toList)
    (hKb : ∀ c, c < K → way t.mask (kd.hash k) c ∈ t.place.toList) {Q : SetFound → Shared → Prop} (yes : ∀ i, k ∈ L.map (·.2) → Q (met add i) s) (no : k ∉ L.map (·.2) → Q (.free (way t.mask (kd.hash k) K) false) s) :
    ∀ (f c : Nat) (stand : Option SetTable.Probe), stand.getD (t.probeStart (kd.hash k)) = look t (kd.hash k) c → c ≤ K → K - c < f →
      (∀ (i : Nat) p, L[i]? = some p → p.2 = k → ∃ c', c ≤ c' ∧ c' < K ∧ t.place.toList[i]? = some (way t.mask (kd.hash k) c')) →
      wpAny (model P w) A (setSearchFrom a (.ref x) (kd.hash k) add f stand) Q E s
  | 0, c, stand, _, _, hf, _ => absurd hf (Nat.not_lt_zero _)
  | f + 1, c, stand, est, hc, hf, ahead => by
    obtain ⟨o, ho, hex, hd⟩ := R.ob
    have hAt : Nat → Int := fun i => (es[i]?.map (·.1)).getD 0
    have hashAt : ∀ {i : Nat} {p}, L[i]? = some p → (es[i]?.map (·.1)).getD 0 = kd.hash p.2 := fun {i p} hp => by rw [R.at_ hp] <;> rfl
    have wy : ∀ q, (nth t.mask (look t (kd.hash k) c) q).j = way t.mask (kd.hash k) (c + q) := fun q => congrArg SetTable.Probe.j (look_add t _ c q)
    rw [setSearchFrom_succ]
    refine wpAny_bind (wpAny_setState_of ho hd R.fits ?_)
    dsimp only
    refine wp_if_neg (by unfold SetTable.gaveWay; rw [mask_odd R.tab.mok]; decide) ?_
    try refine wpAny_bind (wpAny_pure ?_)
    have spec := go_spec t R.tab.ris R.tab.dm (fun i => (es[i]?.map (·.1)).getD 0) (kd.hash k) (10 * SetTable.turns t.mask) (K - c) _ (look_clean t (kd.hash k) c) (by omega)
      (fun q hq => by rw [wy]; exact hKb (c + q) (by omega)) (by rw [wy, show c + (K - c) = K by omega]; exact hK)
    rcases spec with ⟨q, i, hq, hi, hh, early, hpr⟩ | ⟨early, hpr⟩
    · rw [wy] at hi
      have hil : i < L.length := by
        have z := (List.getElem?_eq_some_iff.mp hi).1
        rwa [R.len] at z
      obtain ⟨p, hp⟩ : ∃ p, L[i]? = some p := ⟨_, List.getElem?_eq_getElem hil⟩
      have pin : p ∈ L := List.mem_of_getElem? hp
      have hsl : t.slot (way t.mask (kd.hash k) (c + q)) = .live i := slot_live R.tab.ris hi
      have probe : t.probe (fun i => (es[i]?.map (·.1)).getD 0) (kd.hash k) (stand.getD (t.probeStart (kd.hash k))) = some (.candidate (way t.mask (kd.hash k) (c + q)) i (look t (kd.hash k) (c + (q + 1)))) := by
        rw [est, ← wy, ← look_add]
        exact hpr
      rw [probe]
      dsimp only
      have behind : wpAny (model P w) A (searchRest a (.ref x) (kd.hash k) add f es t (way t.mask (kd.hash k) (c + q)) i (look t (kd.hash k) (c + (q + 1)))) Q E s := by
        unfold searchRest
        rw [R.at_ hp]
        dsimp only
        refine wpAny_bind (wpAny_holding (kd.eqB hu (R.mem p pin) hx ?_))
        refine wpAny_bind (wpAny_setState_of ho hd R.fits ?_)
        dsimp only
        by_cases eqk : p.2 = k
        · have mem : k ∈ L.map (·.2) := List.mem_map.mpr ⟨p, pin, eqk⟩
          cases add with
          | true => exact wp_if_pos (by simp [eqk]) (wpAny_pure (yes i mem))
          | false =>
            refine wp_if_neg (by simp) ?_
            try refine wpAny_bind (wpAny_pure ?_)
            rw [sameMem]
            dsimp only
            simp only [if_true, hsl, R.at_ hp]
            refine wpAny_bind (wpAny_isSame_ref_self (wpAny_bind (wpAny_pure ?_)))
            simp only [if_true]
            exact wp_if_pos (by simp [eqk]) (wpAny_pure (yes i mem))
        · refine wp_if_neg (by simp [eqk]) ?_
          try refine wpAny_bind (wpAny_pure ?_)
          rw [sameMem]
          dsimp only
          simp only [if_true, hsl, R.at_ hp]
          refine wpAny_bind (wpAny_isSame_ref_self (wpAny_bind (wpAny_pure ?_)))
          simp only [if_true]
          refine wp_if_neg (by simp [eqk]) ?_
          refine sr_search R add hx hu hKf hK hKb yes no f (c + (q + 1)) _ rfl (by omega) (by omega) fun i0 p0 h0 k0 => ?_
          obtain ⟨c', l1, l2, l3⟩ := ahead i0 p0 h0 k0
          have nlt : ¬ c' < c + q := fun z => early (c' - c) i0 (by omega) (by rw [wy, show c + (c' - c) = c' by omega]; exact l3) ((hashAt h0).trans (congrArg kd.hash k0))
          have nne : c' ≠ c + q := fun z => by
            rw [z] at l3
            have z2 := slot_live R.tab.ris l3
            rw [hsl] at z2
            injection z2 with z2
            rw [← z2, hp] at h0
            exact eqk ((congrArg Prod.snd (Option.some.inj h0)).trans k0)
          exact ⟨c', by omega, l2, l3⟩
      by_cases hl : t.led = true
      · refine wp_if_neg (by simp [hl]) ?_
        try refine wpAny_bind (wpAny_pure ?_)
        exact behind
      · refine wp_if_pos (by simp [hl]) (wpAny_bind (kd_unseen kd hx (fun y hy => ?_) ?_))
        · obtain ⟨e, he, rfl⟩ := List.mem_map.mp hy
          have he2 : e ∈ es.toList := by
            have z : e ∈ es ∧ e.1 = kd.hash k := by simpa using he
            simpa using z.1
          rw [R.rows, rowsG] at he2
          obtain ⟨p2, m2, rfl⟩ := List.mem_map.mp he2
          exact ⟨p2.1, p2.2, rfl, R.mem p2 m2⟩
        · refine wp_if_neg (by decide) ?_
          try refine wpAny_bind (wpAny_pure ?_)
          exact behind
    · have probe : t.probe (fun i => (es[i]?.map (·.1)).getD 0) (kd.hash k) (stand.getD (t.probeStart (kd.hash k))) = some (.empty (way t.mask (kd.hash k) K) none) := by
        have z : way t.mask (kd.hash k) K = (nth t.mask (look t (kd.hash k) c) (K - c)).j := by rw [wy, show c + (K - c) = K by omega]
        rw [est, z]
        exact hpr
      rw [probe]
      dsimp only
      refine wpAny_pure (no fun hm => ?_)
      obtain ⟨p0, m0, k0⟩ := List.mem_map.mp hm
      obtain ⟨i0, l0, e0⟩ := List.getElem_of_mem m0
      have h0 : L[i0]? = some p0 := by rw [List.getElem?_eq_getElem l0, e0]
      obtain ⟨c', l1, l2, l3⟩ := ahead i0 p0 h0 k0
      exact early (c' - c) i0 (by omega) (by rw [wy, show c + (c' - c) = c' by omega]; exact l3) ((hashAt h0).trans (congrArg kd.hash k0))
theorem sr_find (R : SR kd s.heap a L es ep t) (add : Bool) {x : Addr} {k : κ} (hx : kd.is s.heap k x) (hu : A.units + 8 < cLine) {Q : SetFound → Shared → Prop} (yes : ∀ i, k ∈ L.map (·.2) → Q (met add i) s)
    (no : ∀ K, k ∉ L.map (·.2) → way t.mask (kd.hash k) K ∉ t.place.toList → (∀ c, c < K → way t.mask (kd.hash k) c ∈ t.place.toList) → Q (.free (way t.mask (kd.hash k) K) false) s) :
    wpAny (model P w) A (setSearch a (.ref x) (kd.hash k) add) Q E s := by
  have hroom := R.room
  obtain ⟨K, hKf, hK, hKb⟩ := R.tab.first (by rw [List.length_map]; omega) (kd.hash k)
  have few : 10 * SetTable.turns t.mask ≤ 1420 := by
    unfold SetTable.turns
    rcases R.tab.mok with e | e | e <;> omega
  unfold setSearch
  refine sr_search R add hx hu hKf hK hKb yes (fun n => no K n hK hKb) 100000 0 none rfl (Nat.zero_le _) (by omega) fun i p hp hk => ?_
  have hi : (L.map fun p => kd.hash p.2)[i]? = some (kd.hash k) := by rw [List.getElem?_map, hp, ← hk] <;> rfl
  have hil : i < t.place.toList.length := by
    rw [R.len]
    exact (List.getElem?_eq_some_iff.mp hp).1
  obtain ⟨c, hc, e⟩ := R.tab.before hK hi (List.getElem?_eq_getElem hil)
  exact ⟨c, Nat.zero_le _, hc, by rw [List.getElem?_eq_getElem hil, e]⟩
end
end SG
namespace SG
open PySem PySem.Spec PyProof.Rows L2
section
variable {P : Program} {w : World} {κ : Type} [DecidableEq κ] {kd : Kd P w κ} {A : Around} {E : Value → Shared → Prop} {s : Shared} {a : Addr} {L : List (Addr × κ)} {es : Array (Int × Value)} {ep : Nat} {t : SetTable}
theorem rowsG_len : (rowsG kd L).length = L.length := List.length_map _
theorem rowsG_at {es : Array (Int × Value)} (hr : es.toList = rowsG kd L) {i : Nat} (h : i < L.length) : es[i]? = some (kd.hash (L[i]).2, Value.ref (L[i]).1) := by
  rw [← Array.getElem?_toList, hr, rowsG, List.getElem?_map, List.getElem?_eq_getElem h] <;> rfl
/-- the rows taken in another sequence -/
theorem rows_pick {es : Array (Int × Value)} (hr : es.toList = rowsG kd L) : ∀ l : List Nat, (∀ i ∈ l, i < L.length) →
    l.filterMap (fun i => es[i]?) = rowsG kd (l.filterMap fun i => L[i]?) ∧ ((l.filterMap fun i => L[i]?).map fun p => kd.hash p.2) = l.map fun i => (es.map (·.1)).getD i 0
  | [], _ => ⟨rfl, rfl⟩
  | i :: l, h => by
    have hi := h i List.mem_cons_self
    obtain ⟨e1, e2⟩ := rows_pick hr l fun j hj => h j (List.mem_cons_of_mem _ hj)
    have e3 := rowsG_at hr hi
    have e4 : (es.map (·.1)).getD i 0 = kd.hash (L[i]).2 := by
      have z : (es.map (·.1))[i]? = some (kd.hash (L[i]).2) := by rw [Array.getElem?_map, e3] <;> rfl
      simp [Array.getD_eq_getD_getElem?, z]
    constructor
    · rw [List.filterMap_cons_some e3, List.filterMap_cons_some (List.getElem?_eq_getElem hi), e1] <;> rfl
    · rw [List.filterMap_cons_some (List.getElem?_eq_getElem hi), List.map_cons, List.map_cons, e2, e4]
theorem pick_all : ∀ l : List (Addr × κ), (List.range l.length).filterMap (fun i => l[i]?) = l := by
  intro l
  have go : ∀ n, n ≤ l.length → (List.range n).filterMap (fun i => l[i]?) = l.take n := fun n => by
    induction n with
    | zero => exact fun _ => rfl
    | succ n ih =>
      intro hn
      rw [List.range_succ, List.filterMap_append, ih (Nat.le_of_lt hn), List.take_succ, List.getElem?_eq_getElem hn, List.filterMap_cons_some (List.getElem?_eq_getElem hn)] <;> rfl
  rw [go _ (Nat.le_refl _), List.take_length]
/-- the table is laid anew, larger -/
theorem sr_relay {o : Obj} (ho : s.heap.get? a = some o) (hex : o.ExactSet) (hd : o.data = .set es ep t) (hr : es.toList = rowsG kd L) (hps : t.place.size = es.size) (hdm : t.dummies = #[]) (hm : es.size ≤ t.mask) (nd : (L.map (·.2)).Nodup) (mem : ∀ p ∈ L, kd.is s.heap p.2 p.1)
    (pl : t.plain = true) (ld : w.params.followText "set-order" = true ∨ t.led = true) (few : L.length < 64) {wanted M : Nat} (eM : SetTable.sizeAbove wanted - 1 = M) (hM : MaskOk M) (small : SetTable.sizeAbove wanted ≤ 128) (fit : L.length * 5 < M * 3) {Q : Unit → Shared → Prop}
    (q : ∀ h' L' es' ep' t', Heap.SameBut a s.heap h' → SR kd h' a L' es' ep' t' → L'.Perm L → Q () { s with heap := h' }) : wpAny (model P w) A (setRelay a wanted) Q E s := by
  have el : es.size = L.length := by
    have z := congrArg List.length hr
    rwa [rowsG_len, Array.length_toList] at z
  have fits : t.fits es.size = true := by
    unfold SetTable.fits SetTable.fill
    rw [hdm, Bool.and_eq_true, beq_iff_eq, decide_eq_true_eq]
    exact ⟨hps, by show t.place.size + 0 ≤ t.mask; omega⟩
  obtain ⟨t', ord, e, hp, T, em, ell, epl, _⟩ := relaid_ok t (hs := es.map (·.1)) (wanted := wanted) eM hM (by rw [Array.size_map, el]; omega)
  rw [Array.size_map, el] at hp
  obtain ⟨r1, r2⟩ := rows_pick hr ord.toList fun i hi => List.mem_range.mp (hp.mem_iff.mp hi)
  have pm : (ord.toList.filterMap fun i => L[i]?).Perm L := by
    have z := hp.filterMap fun i => L[i]?
    rwa [pick_all L] at z
  rw [← r2] at T
  have rws : (ord.filterMap (es[·]?)).toList = rowsG kd (ord.toList.filterMap fun i => L[i]?) := by
    first | (rw [Array.toList_filterMap]; exact r1) | simpa using r1
  generalize ord.toList.filterMap (fun i => L[i]?) = L2 at pm T rws
  have sz2 : (ord.filterMap (es[·]?)).size = es.size := by
    have z := congrArg List.length rws
    rw [rowsG_len, Array.length_toList, pm.length_eq] at z
    rw [z, el]
  rw [setRelay_eq]
  refine wpAny_bind (wpAny_setState_of ho hd fits ?_)
  dsimp only
  refine wp_if_neg (by rw [sizeLine_eq]; omega) ?_
  try refine wpAny_bind (wpAny_pure ?_)
  rw [e]
  dsimp only
  refine wpAny_bind (wp_if_neg (by rw [sz2]; simp) ?_)
  try refine wpAny_bind (wpAny_pure ?_)
  refine wpAny_pure ?_
  dsimp only
  refine wpAny_storeSet_of ho hd ?_ (by rw [sz2, el, sizeLine_eq]; omega)
  have sb : Heap.SameBut a s.heap (s.heap.update a (Obj.putSet (ord.filterMap (es[·]?)) t')) := Heap.SameBut.update ..
  exact q _ L2 _ (ep + 1) t' sb ⟨⟨_, store_at ho hd, ⟨hex.1, hex.2.1, hex.2.2⟩, rfl⟩, rws, T, (pm.map (·.2)).nodup_iff.mpr nd, fun p hpm => kd_same kd (mem p (pm.mem_iff.mp hpm)) ho hd sb, by rw [epl]; exact pl, by rw [ell]; exact ld,
    by rw [pm.length_eq, em]; exact fit, by rw [pm.length_eq]; exact few⟩ pm
/-- a member more, or no more -/
theorem sr_add (R : SR kd s.heap a L es ep t) {x : Addr} {k : κ} (hx : kd.is s.heap k x) (hu : A.units + 8 < cLine) (few : L.length + 1 < 64) {Q : Bool → Shared → Prop}
    (q : ∀ b h' L' es' ep' t', Heap.SameBut a s.heap h' → SR kd h' a L' es' ep' t' → (k ∈ L.map (·.2) → L' = L) → (k ∉ L.map (·.2) → L'.Perm ((x, k) :: L)) → Q b { s with heap := h' }) :
    wpAny (model P w) A (setAddHashed a (.ref x) (kd.hash k)) Q E s := by
  obtain ⟨o, ho, hex, hd⟩ := R.ob
  have el := R.size
  have hroom := R.room
  unfold setAddHashed
  refine wpAny_holding ?_
  rw [show (100000 : Nat) = 99999 + 1 from rfl, setAddHashedIn_succ]
  refine wpAny_bind (wpAny_setState_of ho hd R.fits ?_)
  dsimp only
  refine wp_if_neg (by simp [byScan, Value.scannable]) ?_
  try refine wpAny_bind (wpAny_pure ?_)
  refine wpAny_bind (sr_find R true hx hu (fun i hm => ?_) fun K hm hK hb => ?_)
  · unfold met
    dsimp only
    exact wpAny_pure (q false s.heap L es ep t (Heap.SameBut.refl a s.heap) R (fun _ => rfl) fun z => absurd hm z)
  · dsimp only
    refine wpAny_bind (wpAny_setState_of ho hd R.fits ?_)
    dsimp only
    obtain ⟨q1, q2, q3, q4, q5, q6, q7, q8, q9⟩ := R.tab.put hK hb
    have pl1 : (t.put (way t.mask (kd.hash k) K)).1.plain = true := by rw [q6]; exact R.plain
    generalize ept : t.put (way t.mask (kd.hash k) K) = pt at q1 q3 q4 q5 q6 q7 q8 q9 pl1 ⊢
    obtain ⟨t1, p⟩ := pt
    dsimp only at q1 q3 q4 q5 q6 q7 q8 q9 pl1 ⊢
    subst q1
    first
      | (refine wpAny_bind ?_; refine wp_if_pos pl1 ?_; refine kd.byV hx ?_)
      | refine wp_if_pos pl1 (wpAny_bind (kd.byV hx ?_))
    simp only [if_true]
    have ein : (SetTable.insertAt es (SetTable.below t.place (way t.mask (kd.hash k) K)) (kd.hash k, Value.ref x)).toList = rowsG kd (L.take (SetTable.below t.place (way t.mask (kd.hash k) K)) ++ (x, k) :: L.drop (SetTable.below t.place (way t.mask (kd.hash k) K))) := by
      rw [SetTable.toList_insertAt, R.rows]
      unfold rowsG
      rw [List.map_append, List.map_cons, List.map_take, List.map_drop]
    generalize SetTable.below t.place (way t.mask (kd.hash k) K) = p at q2 q3 ein ⊢
    have pm : (L.take p ++ (x, k) :: L.drop p).Perm ((x, k) :: L) := put_perm L p (x, k)
    have lh : (L.take p ++ (x, k) :: L.drop p).map (fun p => kd.hash p.2) = (L.map fun p => kd.hash p.2).take p ++ kd.hash k :: (L.map fun p => kd.hash p.2).drop p := by
      rw [List.map_append, List.map_cons, List.map_take, List.map_drop]
    rw [← lh] at q3
    generalize L.take p ++ (x, k) :: L.drop p = L1 at pm q3 ein
    have l1 : L1.length = L.length + 1 := pm.length_eq
    have nd1 : (L1.map (·.2)).Nodup := (pm.map (·.2)).nodup_iff.mpr (List.nodup_cons.mpr ⟨hm, R.nd⟩)
    have es1l : (SetTable.insertAt es p (kd.hash k, Value.ref x)).size = L.length + 1 := by
      have z := congrArg List.length ein
      rwa [rowsG_len, Array.length_toList, l1] at z
    generalize SetTable.insertAt es p (kd.hash k, Value.ref x) = es1 at ein es1l ⊢
    refine wpAny_bind (wpAny_storeSet_of ho hd ?_ (by rw [es1l, sizeLine_eq]; omega))
    have sb : Heap.SameBut a s.heap (s.heap.update a (Obj.putSet es1 t1)) := Heap.SameBut.update ..
    have ho1 := store_at (es' := es1) (t' := t1) ho hd
    generalize s.heap.update a (Obj.putSet es1 t1) = h1 at sb ho1 ⊢
    have mem1 : ∀ p ∈ L1, kd.is h1 p.2 p.1 := fun p hp => by
      rcases List.mem_cons.mp (pm.mem_iff.mp hp) with e | hp
      · rw [e]
        exact kd_same kd hx ho hd sb
      · exact kd_same kd (R.mem p hp) ho hd sb
    have ld1 : w.params.followText "set-order" = true ∨ t1.led = true := by rw [q5]; exact R.led
    have ps1 : t1.place.size = es1.size := by
      have z := q3.sz
      rw [List.length_map, l1] at z
      rw [z, es1l]
    by_cases full : t1.tooFull = true
    · first
        | (refine wpAny_bind ?_; refine wp_if_pos (by simp [full]) ?_)
        | (refine wp_if_pos (by simp [full]) ?_; refine wpAny_bind ?_)
      have five : (L.length + 1) * 5 ≥ t1.mask * 3 := by
        have z := full
        unfold SetTable.tooFull at z
        rwa [decide_eq_true_eq, q9, List.length_map] at z
      rw [el]
      have two : (t.mask = 7 ∧ L.length = 4) ∨ (t.mask = 31 ∧ L.length = 18) := by
        rcases R.tab.mok with e | e | e
        · exact .inl ⟨e, by rw [q4, e] at five; rw [e] at hroom; omega⟩
        · exact .inr ⟨e, by rw [q4, e] at five; rw [e] at hroom; omega⟩
        · exact absurd five (by rw [q4, e]; omega)
      have go : ∀ M, SetTable.sizeAbove (SetTable.grown (L.length + 1)) - 1 = M → MaskOk M → SetTable.sizeAbove (SetTable.grown (L.length + 1)) ≤ 128 → (L.length + 1) * 5 < M * 3 →
          wpAny (model P w) A (setRelay a (SetTable.grown (L.length + 1))) (fun _ s' => wpAny (model P w) A (pure true) Q E s') E { s with heap := h1 } := fun M m1 m2 m3 m4 =>
        sr_relay (s := { s with heap := h1 }) ho1 ⟨hex.1, hex.2.1, hex.2.2⟩ rfl ein ps1 q3.dm (by rw [es1l, q4]; rcases two with ⟨e, e2⟩ | ⟨e, e2⟩ <;> omega) nd1 mem1 pl1 ld1 (by rw [l1]; exact few) m1 m2 m3 (by rw [l1]; exact m4)
          fun h2 L2 es2 ep2 t2 sb2 R2 pm2 => wpAny_pure (q true h2 L2 es2 ep2 t2 (sb.trans sb2) R2 (fun z => absurd z hm) fun _ => pm2.trans pm)
      rcases two with ⟨_, e2⟩ | ⟨_, e2⟩
      · exact go 31 (by rw [e2, size_20]) (.inr (.inl rfl)) (by rw [e2, size_20]; decide) (by omega)
      · exact go 127 (by rw [e2, size_76]) (.inr (.inr rfl)) (by rw [e2, size_76]; decide) (by omega)
    · first
        | refine wp_if_neg (by simp [full]) ?_
        | (refine wpAny_bind ?_; refine wp_if_neg (by simp [full]) ?_; refine wpAny_pure ?_)
      have z := full
      unfold SetTable.tooFull at z
      rw [decide_eq_true_eq, q9, List.length_map] at z
      exact wpAny_pure (q true h1 L1 es1 (ep + 1) t1 sb ⟨⟨_, ho1, ⟨hex.1, hex.2.1, hex.2.2⟩, rfl⟩, ein, q3, nd1, mem1, pl1, ld1, by rw [l1]; omega, by rw [l1]; exact few⟩ (fun y => absurd y hm) fun _ => pm)
theorem sr_fresh {h : Heap} {a : Addr} (ho : h.get? a = some { cls := .type "set", dict := none, data := .set #[] 0 (.fresh 0 0 (!w.params.followText "set-order")) }) : SR kd h a [] #[] 0 (.fresh 0 0 (!w.params.followText "set-order")) where
  ob := ⟨_, ho, ⟨rfl, rfl, rfl⟩, rfl⟩
  rows := rfl
  tab := ⟨List.Pairwise.nil, rfl, rfl, .inl rfl, (fun x hx => (nomatch hx)), (fun i h j hi => by simp at hi)⟩
  nd := List.nodup_nil
  mem := fun p hp => (nomatch hp)
  plain := rfl
  led := by
    show _ ∨ (!w.params.followText "set-order") = true
    cases w.params.followText "set-order"
    · exact .inr rfl
    · exact .inl rfl
  room := by
    show 0 * 5 < 7 * 3
    decide
  few := by
    show 0 < 64
    decide
/-- found.add(x) -/
theorem sr_add_call (R : SR kd s.heap a L es ep t) {x : Addr} {k : κ} (hx : kd.is s.heap k x) (hu : A.units + 9 < cLine) (few : L.length + 1 < 64) {Q : Value → Shared → Prop}
    (q : ∀ h' L' es' ep' t' tk, Heap.SameBut a s.heap h' → SR kd h' a L' es' ep' t' → (k ∈ L.map (·.2) → L' = L) → (k ∉ L.map (·.2) → L'.Perm ((x, k) :: L)) → Q .none { s with heap := h', toks := tk }) :
    wpAny (model P w) A (call (.builtin "set.add") [.ref a, .ref x]) Q E s := by
  have hT : s.TypeIs (.ref a) "set" := by
    obtain ⟨o, ho, hex, _⟩ := R.ob
    exact ⟨o, ho, hex.1⟩
  have hu1 : A.in1.units + 8 < cLine := by
    show A.units + 1 + 8 < cLine
    omega
  refine wpAny_call_entry F.slot_set_add hT F.entry_set_add ?_ (F.args_set_add_2 _ _)
  unfold Builtin.«set.add» Builtin.Frozenset.oneOther
  simp only [List.isEmpty_nil, bind_assoc]
  unfold Builtin.Frozenset.addrOf setAdd
  refine wpAny_bind (wpAny_pure ?_)
  try dsimp only
  refine wpAny_bind (wpAny_pure ?_)
  try dsimp only
  refine wpAny_bind (wpAny_holding ?_)
  refine wpAny_bind (kd.pyH hu1 hx ?_)
  refine sr_add (s := { s with toks := s.toks + kd.draws k }) R hx hu1 few fun b h' L' es' ep' t' sb r e1 e2 => ?_
  show wpAny _ _ (ret Value.none) _ _ _
  exact wpAny_pure ⟨_, rfl, q h' L' es' ep' t' _ sb r e1 e2⟩
end
end SG
namespace SG
open PySem PySem.Spec PyProof.Rows L2 PpSet
/-! ### members (n, .., m): a tuple of ints, the last one apart -/
abbrev Fm := List Int × Int
def emb (k : Fm) : NestedKey := .tup ((k.1 ++ [k.2]).map .num)
theorem num_inj : ∀ {a b : List Int}, a.map NestedKey.num = b.map NestedKey.num → a = b
  | [], [], _ => rfl
  | [], _ :: _, h => by cases h
  | _ :: _, [], h => by cases h
  | x :: a, y :: b, h => by
    injection h with h1 h2
    injection h1 with h1
    rw [h1, num_inj h2]
theorem emb_inj {a b : Fm} (h : emb a = emb b) : a = b := by
  unfold emb at h
  injection h with h
  have e := num_inj h
  obtain ⟨h1, h2⟩ := List.append_inj' e rfl
  injection h2 with h2 _
  exact Prod.ext h1 h2
theorem emb_dec (a b : Fm) : decide (emb a = emb b) = decide (a = b) := by
  by_cases h : a = b
  · rw [h, decide_eq_true rfl, decide_eq_true rfl]
  · rw [decide_eq_false h, decide_eq_false fun z => h (emb_inj z)]
theorem nums_depth : ∀ l : List Int, NestedKey.depthAll (l.map .num) = 0
  | [] => rfl
  | _ :: l => by
    show max 0 (NestedKey.depthAll (l.map .num)) = 0
    rw [nums_depth l]
    rfl
theorem emb_depth (k : Fm) : (emb k).depth = 1 := by
  show NestedKey.depthAll ((k.1 ++ [k.2]).map .num) + 1 = 1
  rw [nums_depth]
section
variable {P : Program} {w : World} {A : Around} {E : Value → Shared → Prop} {s : Shared}
theorem num_val {h : Heap} {i : Int} {v : Value} (x : NestedIs h (.num i) v) : carriedByValue v = true ∧ (∀ n, ofAClassStatement n v = pure false) ∧ ∀ n, hashByValue n v = pure true := by
  cases x with
  | bool e => exact ⟨rfl, fun n => by cases n <;> rfl, fun n => by cases n <;> rfl⟩
  | int _ _ => exact ⟨rfl, fun n => by cases n <;> rfl, fun n => by cases n <;> rfl⟩
theorem nums_val {h : Heap} : ∀ {l : List Int} {vs : List Value}, NestedAll h (l.map .num) vs → ∀ v ∈ vs, (∀ n, ofAClassStatement n v = pure false) ∧ ∀ n, hashByValue n v = pure true
  | [], _, x, v, hv => by cases x; cases hv
  | i :: l, _, x, v, hv => by
    cases x with
    | cons x1 x2 =>
      rcases List.mem_cons.mp hv with e | hv
      · rw [e]
        exact (num_val x1).2
      · exact nums_val x2 v hv
/-- a tuple is of no class statement, if its items are of none -/
theorem cls_tup {a : Addr} {o : Obj} {vs : Array Value} {m d : Nat} {Q : Bool → Shared → Prop} (ho : s.heap.get? a = some o) (hc : o.cls = .type "tuple") (hd : o.data = .seq vs m)
    (hi : ∀ v ∈ vs.toList, ∀ (Q' : Bool → Shared → Prop), Q' false s → wpAny (model P w) A (ofAClassStatement d v) Q' E s) (q : Q false s) : wpAny (model P w) A (ofAClassStatement (d + 1) (.ref a)) Q E s := by
  have hT : s.TypeIs (.ref a) "tuple" := ⟨o, ho, hc⟩
  unfold ofAClassStatement
  refine wpAny_bind (wpAny_typeOf hT ?_)
  dsimp only
  simp only [show (("tuple" : String) == "tuple") = true by decide, if_true, Bool.not_true, Bool.false_eq_true, if_false]
  try refine wpAny_bind (wpAny_pure ?_)
  try simp only [Bool.not_true, Bool.false_eq_true, if_false]
  show wpAny _ _ (seqItems? (.ref a) >>= _) _ _ s
  refine wpAny_bind (wpAny_seqItems ho hd ?_)
  dsimp only
  refine wpAny_bind ?_
  show wpAny _ _ (forIn vs _ _) _ _ s
  rw [← Array.forIn_toList]
  refine wpAny_forIn_list _ (fun left r s2 => r.1 = none ∧ s2 = s ∧ ∀ v ∈ left, v ∈ vs.toList) _ ?_ ?_ _ _ ⟨rfl, rfl, fun _ h => h⟩
  · rintro v left r s2 ⟨er, rfl, al⟩
    refine wpAny_bind (hi v (al v List.mem_cons_self) _ ?_)
    simp only [Bool.false_eq_true, if_false]
    exact wpAny_pure ⟨rfl, rfl, fun u hu => al u (List.mem_cons_of_mem _ hu)⟩
  · rintro ⟨r1, r2⟩ s2 ⟨er, rfl, _⟩
    simp only at er
    subst er
    exact wpAny_pure q
theorem hby_tup {a : Addr} {o : Obj} {vs : Array Value} {m d : Nat} {Q : Bool → Shared → Prop} (ho : s.heap.get? a = some o) (hc : o.cls = .type "tuple") (hd : o.data = .seq vs m)
    (hi : ∀ v ∈ vs.toList, ∀ (Q' : Bool → Shared → Prop), Q' true s → wpAny (model P w) A (hashByValue d v) Q' E s) (q : Q true s) : wpAny (model P w) A (hashByValue (d + 1) (.ref a)) Q E s := by
  have hT : s.TypeIs (.ref a) "tuple" := ⟨o, ho, hc⟩
  unfold hashByValue
  refine wpAny_bind (wpAny_specialOf hT F.slot_tuple_hash.lookup ?_)
  show wpAny _ _ (seqItems? (.ref a) >>= _) _ _ s
  refine wpAny_bind (wpAny_seqItems ho hd ?_)
  refine wpAny_bind ?_
  show wpAny _ _ (forIn vs _ _) _ _ s
  rw [← Array.forIn_toList]
  refine wpAny_forIn_list _ (fun left r s2 => r.1 = none ∧ s2 = s ∧ ∀ v ∈ left, v ∈ vs.toList) _ ?_ ?_ _ _ ⟨rfl, rfl, fun _ h => h⟩
  · rintro v left r s2 ⟨er, rfl, al⟩
    refine wpAny_bind (hi v (al v List.mem_cons_self) _ ?_)
    simp only [Bool.not_true, Bool.false_eq_true, if_false]
    exact wpAny_pure ⟨rfl, rfl, fun u hu => al u (List.mem_cons_of_mem _ hu)⟩
  · rintro ⟨r1, r2⟩ s2 ⟨er, rfl, _⟩
    simp only at er
    subst er
    exact wpAny_pure q
end
def KF (P : Program) (w : World) : Kd P w Fm where
  is := fun h k a => NestedIs h (emb k) (.ref a)
  hash := fun k => (emb k).hash w
  draws := fun k => (emb k).draws
  keep := fun x k => NestedIs.at (fun b o vs n hb hd => k b o hb ⟨vs, n, hd⟩) _ _ x
  eqB := fun {A E s x y a b Q} hu hx hy q => eqAt_key (emb x) (emb y) A s _ _ hx hy (by rw [emb_depth, emb_depth]; omega) _ _ _ _ (by rw [← NestedKey.decide_eq, emb_dec]; exact q)
  pyH := fun {A E s k a Q} hu hk q => pyHash_key _ _ _ _ _ hk (by rw [emb_depth]; omega) q
  quiet := fun {A E s k a Q} hk q => quiet_key (emb k) (.ref a) 8 s hk (by rw [emb_depth]; decide) _ _ _ q
  noCls := fun {A E s k a Q} hk q => by
    cases hk with
    | tup ho hc hd hi => exact cls_tup ho hc hd (fun v hv Q' q' => by rw [(nums_val hi v hv).1]; exact wpAny_pure q') q
  byV := fun {A E s k a Q} hk q => by
    cases hk with
    | tup ho hc hd hi => exact hby_tup ho hc hd (fun v hv Q' q' => by rw [(nums_val hi v hv).2]; exact wpAny_pure q') q
end SG
namespace SG
open PySem PySem.Spec PyProof.Rows L2 PpSet
/-- the set's own object -/
structure S0 (P : Program) (w : World) (h : Heap) (a : Addr) (L : List (Addr × Fm)) (es : Array (Int × Value)) (ep : Nat) (t : SetTable) : Prop where
  ob : ∃ o, h.get? a = some o ∧ o.ExactSet ∧ o.data = .set es ep t
  rows : es.toList = rowsG (KF P w) L
  tab : TabOk t (L.map fun p => (KF P w).hash p.2)
  nd : (L.map (·.2)).Nodup
  plain : t.plain = true
  led : w.params.followText "set-order" = true ∨ t.led = true
  room : L.length * 5 < t.mask * 3
  few : L.length < 64
theorem SR.s0 {P : Program} {w : World} {h : Heap} {a : Addr} {L : List (Addr × Fm)} {es : Array (Int × Value)} {ep : Nat} {t : SetTable} (R : SR (KF P w) h a L es ep t) : S0 P w h a L es ep t := ⟨R.ob, R.rows, R.tab, R.nd, R.plain, R.led, R.room, R.few⟩
theorem S0.sr {P : Program} {w : World} {h : Heap} {a : Addr} {L : List (Addr × Fm)} {es : Array (Int × Value)} {ep : Nat} {t : SetTable} (R : S0 P w h a L es ep t) (m : ∀ p ∈ L, (KF P w).is h p.2 p.1) : SR (KF P w) h a L es ep t := ⟨R.ob, R.rows, R.tab, R.nd, m, R.plain, R.led, R.room, R.few⟩
/-- a set of members at a: which objects, which keys -/
def SetGO (P : Program) (w : World) (a : Addr) (L : List (Addr × Fm)) : HO := .ext fun h => ∃ es ep t, S0 P w h a L es ep t
theorem setGO_ok {P : Program} {w : World} {H : Hp} {h : Heap} {a : Addr} {L : List (Addr × Fm)} {es : Array (Int × Value)} {ep : Nat} {t : SetTable} (R : S0 P w h a L es ep t) : ObjOk P w H h a (SetGO P w a L) := by
  refine ⟨⟨es, ep, t, R⟩, ?_, fun h1 h2 ⟨es, ep, t, q⟩ k => ⟨es, ep, t, ?_⟩⟩
  · obtain ⟨o, ho, _⟩ := R.ob
    exact ⟨o, ho⟩
  · obtain ⟨o, ho, r⟩ := q.ob
    exact ⟨⟨o, k o ho, r⟩, q.rows, q.tab, q.nd, q.plain, q.led, q.room, q.few⟩
/-- the tuple at a is (n, .., m) -/
def VF (K : PySem.W.Frag) (H : Hp) (a : Addr) (k : Fm) : Prop := SqT K H a ((k.1 ++ [k.2]).map V.int)
theorem nums_all {h : Heap} : ∀ {l : List Int} {us : List Value}, Vals (l.map V.int) us → NestedAll h (l.map .num) us
  | [], _, .nil => .nil
  | i :: l, _, .cons r t => by
    obtain ⟨tk, rfl⟩ := r
    exact .cons (.int i tk) (nums_all t)
section
variable {X : Cx} {pins : List (Addr × Obj)} {σ : L2.St} {H : Hp} {s : Shared}
theorem vf_is (I : Inv X pins σ H s) {a : Addr} {k : Fm} (h : VF X.K H a k) : (KF X.prog X.w).is s.heap k a := by
  obtain ⟨us, r, ⟨o, ho, hc, n, hd⟩, _⟩ := I.tuple h
  exact NestedIs.tup ho hc hd (nums_all r)
/-- a member is added -/
theorem addG_ok (hu : X.A.units + 64 < cLine) {E : Value → Shared → Prop} {D x : Addr} {k : Fm} {L : List (Addr × Fm)} {Q : Value → Shared → Prop} (I : Inv X pins σ H s) (hD : H D = some (SetGO X.prog X.w D L)) (hx : VF X.K H x k) (hm : ∀ p ∈ L, VF X.K H p.1 p.2) (few : L.length + 1 < 64)
    (q : ∀ L' s', (k ∈ L.map (·.2) → L' = L) → (k ∉ L.map (·.2) → L'.Perm ((x, k) :: L)) → Inv X pins σ (upd H D (SetGO X.prog X.w D L')) s' → Q .none s') : wpAny (model X.prog X.w) X.A (call (.builtin "set.add") [.ref D, .ref x]) Q E s := by
  obtain ⟨es, ep, t, R⟩ := (show ObjOk X.prog X.w H s.heap D (SetGO X.prog X.w D L) from I.hok D _ hD).1
  refine sr_add_call (R.sr fun p hp => vf_is I (hm p hp)) (vf_is I hx) (by omega) few fun h' L' es' ep' t' tk sb r e1 e2 => q L' _ e1 e2 ?_
  have new := r.s0
  have he : ∃ u, h'.get? D = some u := by
    obtain ⟨o, ho, _⟩ := new.ob
    exact ⟨o, ho⟩
  exact I.write (e := D) (t' := tk) (by rw [hD]; trivial) (.inl rfl) (fun b u hb hu => (sb.2 b hb).trans hu) he (setGO_ok new)
/-- {elt for target in iter if ..}, elt a member: D the new set -/
def tSg (P : Program) (w : World) (K : PySem.W.Frag) (wi : TI) (g : TG) (tt : TT) (te : TE) (vs : List Nat) : TE := fun σ H Q => wi σ H fun J H1 => ∀ D, H1 D = none → ∃ W : Nat → Nat → Hp → Prop, (∃ m, W 0 m (upd H1 D (SetGO P w D []))) ∧ ∀ i m H, W i m H →
  (J.stop i H ∧ Q (.ref D) H) ∨ (J.go i H ∧ ∃ Nx : Hp → Prop, (∀ H', Nx H' → ∃ m', m' < m ∧ W (i + 1) m' H') ∧ ∀ x H', J.yld i H x H' → g x (wipe σ vs) H' fun σ2 H2 => wipe σ2 vs = wipe σ vs ∧ tt σ2 H2 fun b H3 =>
    if b = true then te σ2 H3 fun y H4 => ∃ (x : Addr) (k : Fm) (L : List (Addr × Fm)), y = .ref x ∧ VF K H4 x k ∧ H4 D = some (SetGO P w D L) ∧ (∀ p ∈ L, VF K H4 p.1 p.2) ∧ L.length + 1 < 64 ∧
      (∀ L', (k ∈ L.map (·.2) → L' = L) → (k ∉ L.map (·.2) → L'.Perm ((x, k) :: L)) → Nx (upd H4 D (SetGO P w D L'))) else Nx H3)
theorem pe_sg {Q0 : True} {elt tg iter : Expr} {ifs : List Expr} {scope : Scope} {own : List (PySem.Str × Nat)} {pos : Pos} {wi : TI} {g : TG} {tt : TT} {te : TE} (hc : X.calm = true) (hu : X.A.units + 64 < cLine) (hN : X.N.Nodup) (hi : PI X tg iter wi) (ok : BlkOk X.N X.env.scope scope own)
    (hg : ∀ (s : Shared) (H : Hp) (C : Addr) (cl : List (PySem.Str × Addr)) (fp : List Addr), PG (X.blk s H scope (compEnvC scope cl C X.env) fp) tg g) (ht : ∀ (s : Shared) (H : Hp) (C : Addr) (cl : List (PySem.Str × Addr)) (fp : List Addr), PTs (X.blk s H scope (compEnvC scope cl C X.env) fp) ifs tt)
    (he : ∀ (s : Shared) (H : Hp) (C : Addr) (cl : List (PySem.Str × Addr)) (fp : List Addr), PE (X.blk s H scope (compEnvC scope cl C X.env) fp) elt te) (hs : ∀ x, foldedSetIterable iter X.env x = pure x := by intro _; rfl) :
    PE X (.SetComp elt [⟨tg, iter, ifs, 0⟩] scope pos) (tSg X.prog X.w X.K wi g tt te (own.map (·.2))) := by
  refine ⟨fun pins s σ H Q I h => ?_⟩
  rw [eval_SetComp]
  have hfree : ∀ y ∈ scope.names, y.2 = .free → ∃ c, X.env.cells.lookup y.1 = some c := fun y hy e => I.ok.has _ (ok.free y hy e)
  refine wpAny_comprehension_free (use := none) rfl hs (closure_ok hfree) ok.kind (fun y hy e => by rw [ok.uniq y hy, e]) (thn (hi.run pins s σ H _ I h) fun xv s1 hx => thn hx fun itv s2 h2 => ?_)
  obtain ⟨it, fp, tn, J, H2, e, I2, T, st2, f2, q⟩ := h2
  subst e
  refine newSet_ok (newEnv_comp ?_)
  obtain ⟨D, hD⟩ : ∃ D, s2.heap.objs.size = D := ⟨_, rfl⟩
  rw [hD]
  obtain ⟨W, ⟨m0, w0⟩, turn⟩ := q D (I2.hok.fresh (Nat.le_of_eq hD))
  obtain ⟨s3, hs3⟩ : ∃ s3 : Shared, s3 = { s2 with heap := s2.heap.push { cls := .type "set", dict := none, data := .set #[] 0 (.fresh 0 0 (!X.w.params.followText "set-order")) } } := ⟨_, rfl⟩
  rw [← hs3]
  have h3 : s3.heap = s2.heap.push { cls := .type "set", dict := none, data := .set #[] 0 (.fresh 0 0 (!X.w.params.followText "set-order")) } := by rw [hs3]
  have I3 : Inv X pins σ (upd H2 D (SetGO X.prog X.w D [])) s3 := by
    rw [hs3]
    refine I2.laid (t' := s2.toks) (fun b o e => Heap.get?_push_of_some _ e) (Nat.le_of_eq hD) ?_
    rw [← hD]
    exact setGO_ok (SR.s0 (sr_fresh (Heap.get?_push_size _ rfl)))
  have below : ∀ b ∈ fp, b < s2.heap.objs.size := fun b hb => by
    obtain ⟨o, e, _⟩ := T.obj _ _ st2 b hb
    exact Heap.lt_size e
  have f3 : ∀ b ∈ fp, FpOk X pins (upd H2 D (SetGO X.prog X.w D [])) b ∧ b < s3.heap.objs.size := fun b hb => by
    have hlt := below b hb
    refine ⟨⟨?_, (f2 b hb).2⟩, by rw [h3, Heap.size_push]; exact Nat.lt_succ_of_lt hlt⟩
    rw [upd_ne (by rw [← hD]; exact Nat.ne_of_lt hlt)]
    exact (f2 b hb).1
  have st3 : tn 0 s3.heap := T.keep _ _ _ st2 fun b _ o e => by rw [h3]; exact Heap.get?_push_of_some _ e
  generalize hH3 : upd H2 D (SetGO X.prog X.w D []) = H3 at I3 w0 f3
  have I4 := block_start I3 ok hN f3
  have pg := hg s3 H3 s3.heap.objs.size (cellsFrom (s3.heap.objs.size + 1) scope.names (cloFrom X.env.cells scope.names [])) fp
  have pt := ht s3 H3 s3.heap.objs.size (cellsFrom (s3.heap.objs.size + 1) scope.names (cloFrom X.env.cells scope.names [])) fp
  have pe := he s3 H3 s3.heap.objs.size (cellsFrom (s3.heap.objs.size + 1) scope.names (cloFrom X.env.cells scope.names [])) fp
  have post : ∀ s' m H', Inv X pins σ H' s' → Q (.ref D) H' → s'.heap.Ns s3.heap.objs.size m → FpOk X pins H' s3.heap.objs.size → compPost (model X.prog X.w) X.A X.xe none (EP X pins σ Q) (.ref D) s3.heap.objs.size (.ok .next) s' := fun s' m H' I' q hn f => ⟨m, hn, fun h'' sb => by
    obtain ⟨z0, z1, z2, z3, z4, z5⟩ := f
    exact ⟨.ref D, H', I'.turned (t' := s'.toks) (fun b o hb e => (sb.2 b hb).trans e) z0 z1 z3 z4 z5, rfl, q⟩⟩
  show codeAny _ _ (.compStart (.SetComp elt [⟨tg, iter, ifs, 0⟩] scope pos) 0 (.ref it) (.ref D) (compEnvC scope (cellsFrom (s3.heap.objs.size + 1) scope.names (cloFrom X.env.cells scope.names [])) s3.heap.objs.size X.env)) (compPost (model X.prog X.w) X.A X.xe none (EP X pins σ Q) (.ref D) s3.heap.objs.size) { s3 with heap := pushCells (s3.heap.push { cls := .type "dict", data := .dict #[] }) scope.names }
  have n3 : ∀ b ∈ fp, H3 b = none := fun b hb => (f3 b hb).1.1
  generalize hce : compEnvC scope (cellsFrom (s3.heap.objs.size + 1) scope.names (cloFrom X.env.cells scope.names [])) s3.heap.objs.size X.env = ce at I4 pg pt pe ⊢
  have cL : ce.locals = s3.heap.objs.size := by subst hce; rfl
  generalize hs4 : ({ s3 with heap := pushCells (s3.heap.push { cls := .type "dict", data := .dict #[] }) scope.names } : Shared) = s4 at I4 ⊢
  have st4 : tn 0 s4.heap := T.keep _ _ _ st3 fun b _ o e => by rw [← hs4]; exact pushCells_keeps _ _ _ _ (Heap.get?_push_of_some _ e)
  have stat : ∀ {σ' : L2.St} {H' : Hp} {s' : Shared}, Inv (X.blk s3 H3 scope ce fp) [] σ' H' s' → (∀ b ∈ fp, H' b = none) → ∀ b ∈ fp, FpOk (X.blk s3 H3 scope ce fp) [] H' b := fun {σ' H' s'} I' hn b hb =>
    ⟨hn b hb, (I'.ok.exf b hb).1, I'.ok.exfs b hb, .inl hb, fun x c e => (I'.ok.exf b hb).2 x c e, fun p hp => absurd (show p ∈ ([] : List (Addr × Obj)) ++ [] from hp) (by simp)⟩
  have loop : codeAny (model X.prog X.w) X.A (.compLoop (.SetComp elt [⟨tg, iter, ifs, 0⟩] scope pos) 0 (.ref it) (.ref D) ce) (compPost (model X.prog X.w) X.A X.xe none (EP X pins σ Q) (.ref D) s3.heap.objs.size) s4 := by
    refine compLoopS_any (fun n s' => ∃ i H', Inv (X.blk s3 H3 scope ce fp) [] (wipe σ (own.map (·.2))) H' s' ∧ tn i s'.heap ∧ (∀ b ∈ fp, H' b = none) ∧ W i n H') ?_ m0 ⟨0, H3, I4, st4, n3, w0⟩
    rintro n s5 ⟨i, H5, I5, st5, n5, w5⟩
    rcases turn i n H5 w5 with ⟨stop, qq⟩ | ⟨go, Nx, hNx, step⟩
    · refine thnF (T.done (X.blk s3 H3 scope ce fp) rfl rfl rfl hc i [] s5 _ H5 (fun _ _ => False) I5 (stat I5 n5) st5 stop) fun r s6 ⟨hr, I6⟩ => ?_
      subst hr
      have I7 : Inv X pins σ H5 s6 := I3.call' (ch := fp) I6.os I6.base I6.hok I6.bare fun b hb => ⟨(f3 b hb).1.2.2.2.1, (f3 b hb).1.2.1, (f3 b hb).1.2.2.2.2.1, (f3 b hb).1.2.2.2.2.2⟩
      have nC : H5 s3.heap.objs.size = none := by
        have z : H5 ce.locals = none := I6.free
        rwa [cL] at z
      obtain ⟨m, hn, _⟩ := I6.loc
      have hn2 : s6.heap.Ns ce.locals m := hn
      rw [cL] at hn2
      exact post s6 m H5 I7 qq hn2 (I3.fpOk (Nat.le_refl _) nC)
    · refine thnF (T.item (X.blk s3 H3 scope ce fp) rfl rfl rfl hc i [] s5 _ H5 (fun _ _ => False) I5 (stat I5 n5) st5 go) fun r s6 ⟨u, hr, h6⟩ => ?_
      subst hr
      refine thnF h6 fun _ s7 ⟨x, H7, I7, r7, y7, st7, n7⟩ => ?_
      refine thnF (pg.run _ s7 _ H7 x u _ (I7.pinned (stat I7 n7) (T.obj _ _ st7)) r7 (step x H7 y7)) fun _ s8 ⟨σ8, H8, I8, hw8, q8⟩ => ?_
      refine thnF (pt.run _ s8 σ8 H8 _ I8 q8) fun b s9 ⟨H9, I9, q9⟩ => ?_
      have fin : ∀ {s' : Shared} {H' : Hp}, Inv (X.blk s3 H3 scope ce fp) ([] ++ pinsAt fp s7.heap) σ8 H' s' → Nx H' → ∃ m, m < n ∧ ∃ i H', Inv (X.blk s3 H3 scope ce fp) [] (wipe σ (own.map (·.2))) H' s' ∧ tn i s'.heap ∧ (∀ b ∈ fp, H' b = none) ∧ W i m H' := fun {s' H'} I' nx => by
        obtain ⟨m', hm, w'⟩ := hNx H' nx
        have pin' : ∀ b ∈ fp, ∀ o, s7.heap.get? b = some o → s'.heap.get? b = some o ∧ H' b = none := fun b hb o e =>
          let z := I'.pin (b, o) (List.mem_append_right _ (List.mem_append_right _ (mem_pinsAt hb e)))
          ⟨z.1, z.2.1⟩
        have hl : (wipe σ (own.map (·.2))).length = σ8.length := by rw [← hw8, wipe_length]
        refine ⟨m', hm, i + 1, H', (I'.unpinned (pins := [])).weak hl (fun j v e => ?_), T.keep _ _ _ st7 fun b hb o e => (pin' b hb o e).1, fun b hb => ?_, w'⟩
        · rw [← hw8] at e
          exact (wipe_some e).1
        · obtain ⟨o, e, _⟩ := T.obj _ _ st7 b hb
          exact (pin' b hb o e).2
      cases b with
      | false =>
        simp only [Bool.false_eq_true, if_false] at q9 ⊢
        exact fin I9 q9
      | true =>
        simp only [if_true] at q9 ⊢
        refine thnF (pe.run _ s9 σ8 H9 _ I9 q9) fun z s10 ⟨yv, H10, I10, r10, xa, k, L, ey, vf, hD10, hm, few, nx⟩ => ?_
        subst ey
        cases (show z = Value.ref xa from r10)
        exact addG_ok (X := X.blk s3 H3 scope ce fp) hu I10 hD10 vf hm few fun L' s11 e1 e2 I11 => fin I11 (nx L' e1 e2)
  exact codeAny_compStart_set loop (T.self X.A 0 _ _ _ st4 loop)
end
end SG
namespace SG
open PySem PySem.Spec PyProof.Rows L2 PpSet
section
variable {X : Cx}
/-- len of a set of members -/
theorem len_setG : CallR X (.builtin "len") (fun xs H Q => ∃ (D : Addr) (L : List (Addr × Fm)), xs = [.ref D] ∧ H D = some (SetGO X.prog X.w D L) ∧ Q (.int L.length) H) := by
  intro pins s σ H xs us Q I r h
  obtain ⟨D, L, rfl, hD, q⟩ := h
  cases r with
  | cons r1 r2 =>
    cases r2
    cases r1
    obtain ⟨es, ep, t, R⟩ := (show ObjOk X.prog X.w H s.heap D (SetGO X.prog X.w D L) from I.hok D _ hD).1
    obtain ⟨o, ho, hex, hd⟩ := R.ob
    have el : es.size = L.length := by
      have z := congrArg List.length R.rows
      rwa [rowsG_len, Array.length_toList] at z
    have e2 := R.tab.sz
    rw [List.length_map] at e2
    have hroom := R.room
    have few := R.few
    have fits : t.fits es.size = true := by
      unfold SetTable.fits SetTable.fill
      rw [R.tab.dm, Bool.and_eq_true, beq_iff_eq, decide_eq_true_eq]
      exact ⟨by omega, by show t.place.size + 0 ≤ t.mask; omega⟩
    refine call_len_set ho hex hd fits (by omega) ⟨.int L.length, H, I.tok _, ⟨_, by rw [el]⟩, q⟩
end
/-- over a tuple that the block leaves as it is -/
theorem sg_tup {P : Program} {w : World} {K : PySem.W.Frag} {a : Addr} {xs : List V} {g : TG} {tt : TT} {te : TE} {vs : List Nat} {σ : L2.St} {H1 : Hp} {D : Addr} {Qd : Hp → Prop} (Pv : Nat → Hp → Prop) (h0 : Pv 0 (upd H1 D (SetGO P w D []))) (hl : ∀ i H, i ≤ xs.length → Pv i H → SqT K H a xs)
    (hs : ∀ i x H, xs[i]? = some x → Pv i H → g x (wipe σ vs) H fun σ2 H2 => wipe σ2 vs = wipe σ vs ∧ tt σ2 H2 fun b H3 =>
      if b = true then te σ2 H3 fun y H4 => ∃ (x : Addr) (k : Fm) (L : List (Addr × Fm)), y = .ref x ∧ VF K H4 x k ∧ H4 D = some (SetGO P w D L) ∧ (∀ p ∈ L, VF K H4 p.1 p.2) ∧ L.length + 1 < 64 ∧
        (∀ L', (k ∈ L.map (·.2) → L' = L) → (k ∉ L.map (·.2) → L'.Perm ((x, k) :: L)) → Pv (i + 1) (upd H4 D (SetGO P w D L'))) else Pv (i + 1) H3) (hd : ∀ H, Pv xs.length H → Qd H) :
    ∃ W : Nat → Nat → Hp → Prop, (∃ m, W 0 m (upd H1 D (SetGO P w D []))) ∧ ∀ i m H, W i m H →
      ((Itt K a).stop i H ∧ Qd H) ∨ ((Itt K a).go i H ∧ ∃ Nx : Hp → Prop, (∀ H', Nx H' → ∃ m', m' < m ∧ W (i + 1) m' H') ∧ ∀ x H', (Itt K a).yld i H x H' → g x (wipe σ vs) H' fun σ2 H2 => wipe σ2 vs = wipe σ vs ∧ tt σ2 H2 fun b H3 =>
        if b = true then te σ2 H3 fun y H4 => ∃ (x : Addr) (k : Fm) (L : List (Addr × Fm)), y = .ref x ∧ VF K H4 x k ∧ H4 D = some (SetGO P w D L) ∧ (∀ p ∈ L, VF K H4 p.1 p.2) ∧ L.length + 1 < 64 ∧
          (∀ L', (k ∈ L.map (·.2) → L' = L) → (k ∉ L.map (·.2) → L'.Perm ((x, k) :: L)) → Nx (upd H4 D (SetGO P w D L'))) else Nx H3) := by
  refine ⟨fun i m H => m = xs.length - i ∧ i ≤ xs.length ∧ Pv i H, ⟨xs.length, by simp, Nat.zero_le _, h0⟩, ?_⟩
  rintro i m H ⟨rfl, hi, p⟩
  have q := hl i H hi p
  by_cases hlt : i < xs.length
  · refine .inr ⟨⟨xs, xs[i], q, by simp [hlt]⟩, Pv (i + 1), fun H' p' => ⟨xs.length - (i + 1), by omega, rfl, hlt, p'⟩, fun x H' y => ?_⟩
    obtain ⟨e, y⟩ := y
    subst e
    exact hs i x _ (y xs q) p
  · have e : i = xs.length := by omega
    subst e
    exact .inl ⟨⟨xs, q, Nat.le_refl _⟩, hd H p⟩
end SG
namespace GA
open PySem PySem.Spec PyProof.Rows L2 GenW GxR

/-- the frame of a generator expression runs: around it, its consumer's two units -/
abbrev arG (X : Cx) (cenv : Env) : Around := X.A.in1.in1.deeper cenv
/-- the context of a generator expression's frame -/
abbrev cxG (X : Cx) (s : Shared) (H : Hp) (cenv : Env) (fp : List Addr) : Cx :=
  { X with A := arG X cenv, s_0 := s, H_0 := H, env := cenv, outer := X.stack, stack := cenv :: X.stack, ex := fp, fn := fun _ => false, calm := true, pn := [], xe := fun _ _ => False }
/-- the frame's names, its cells, its object at C -/
abbrev envG (X : Cx) (scope : Scope) (C : Addr) (code : Value) : Env := genEnv scope (cloFrom X.env.cells scope.names []) C code builtinsNs X.env
/-- the expression's own scope: no cells of its own -/
structure GenOk (N : List Str) (sc scope : Scope) (own : List (Str × Nat)) : Prop extends BlkOk N sc scope own where
  co : scope.isCoroutine = false
  cell : ∀ y ∈ scope.names, y.2 ≠ .cell
  dot : scope.names.lookup (".0" : Str) = some NameKind.local

theorem over_gen {A : Around} {elt : Expr} {cls : List Comprehension} {scope : Scope} {pos : Pos} {it acc : Value} {env : Env} : A.over (.compLoop (.GeneratorExp elt cls scope pos) 0 it acc env) [] = A.deeper env := by
  first
    | rfl
    | (obtain ⟨hd, d, fr, gs, u⟩ := A; simp [Around.over, Around.deeper, marksOver, frameCount, unitsOf, envsOf, guardsOf, pushEnvs, pushGuards, Code.envs, Code.env?, Code.isFrame, Code.guards, Code.isGuard, Code.weight, Code.frames, Code.isCreation, Code.isCaller, Code.cUnits])
theorem over_gen0 {A : Around} {elt : Expr} {cls : List Comprehension} {scope : Scope} {pos : Pos} {it acc : Value} {env : Env} : A.over (.compStart (.GeneratorExp elt cls scope pos) 0 it acc env) [] = A.deeper env := by
  first
    | rfl
    | (obtain ⟨hd, d, fr, gs, u⟩ := A; simp [Around.over, Around.deeper, marksOver, frameCount, unitsOf, envsOf, guardsOf, pushEnvs, pushGuards, Code.envs, Code.env?, Code.isFrame, Code.guards, Code.isGuard, Code.weight, Code.frames, Code.isCreation, Code.isCaller, Code.cUnits])

section
variable {X : Cx} {pins : List (Addr × Obj)} {σ : L2.St} {H : Hp} {s : Shared}
theorem gen_start {scope : Scope} {own : List (Str × Nat)} {fp : List Addr} {code : Value} {h' : Heap} {go : Obj} {m0 : Str → Option Value} {c : GenState} {tk : Nat} (hd : X.A.handled = none) (I : L2.Inv X pins σ H s) (ok : GenOk X.N X.env.scope scope own) (hN : X.N.Nodup)
    (hfp : ∀ b ∈ fp, FpOk X pins H b ∧ b < s.heap.objs.size) (hns : h'.Ns s.heap.objs.size m0) (kp : ∀ b o, s.heap.get? b = some o → h'.get? b = some o) (hsz : s.heap.objs.size < h'.objs.size) (hgo : ∀ v, go.data ≠ .cell v) (hpu : ∀ h : Heap, (h.push go).get? h.objs.size = some go) (hc : c.bare = true) :
    L2.Inv (cxG X s H (envG X scope s.heap.objs.size code) fp) [(h'.objs.size, go)] (wipe σ (own.map (·.2))) H { s with gens := s.gens.push c, toks := tk, heap := h'.push go } := by
  have hfree : ∀ y ∈ scope.names, y.2 = .free → ∃ c, X.env.cells.lookup y.1 = some c := fun y hy e => by
    rcases ok.free y hy e with k | k
    · exact I.ok.has _ (.inl k)
    · exact I.ok.has _ (.inr k)
  have kp2 : ∀ b o, s.heap.get? b = some o → (h'.push go).get? b = some o := fun b o e => Heap.get?_push_of_some _ (kp b o e)
  have cm : ∀ {y c}, (y, c) ∈ cloFrom X.env.cells scope.names [] → X.env.cells.lookup y = some c ∧ c < s.heap.objs.size := fun {y c} hm => by
    rcases cloFrom_mem hm with hm | ⟨h1, rfl⟩
    · cases hm
    · obtain ⟨c, hc⟩ := hfree _ h1 rfl
      rw [hc]
      obtain ⟨w, z⟩ := I.cell _ _ hc
      exact ⟨rfl, z.lt⟩
  have mem : ∀ {y c}, (envG X scope s.heap.objs.size code).cells.lookup y = some c → X.env.cells.lookup y = some c ∧ c < s.heap.objs.size := fun {y c} e => cm (PySem.mem_of_lookup e)
  have look : ∀ {y}, scope.names.lookup y = some .free → ∃ c, (envG X scope s.heap.objs.size code).cells.lookup y = some c ∧ X.env.cells.lookup y = some c := fun {y} hl => by
    have hy : (y, NameKind.free) ∈ scope.names := PySem.mem_of_lookup hl
    obtain ⟨c', e'⟩ := mem_lookup (cloFrom_has (cells := X.env.cells) (acc := []) hy)
    exact ⟨c', e', (mem e').1⟩
  have nofs : ∀ b, s.heap.objs.size ≤ b → b ∉ frs X.stack := fun b hb hm => by
    rcases List.mem_cons.mp (I.stkSub b hm) with z | z
    · have := I.lt
      rw [← z] at this
      exact absurd (Nat.lt_of_lt_of_le this hb) (Nat.lt_irrefl _)
    · exact I.nofs hb z
  have okG : (cxG X s H (envG X scope s.heap.objs.size code) fp).Ok := by
    refine ⟨I.ok.mod, ok.kind, I.ok.glob, rfl, Nat.le_refl _, fun y z c e1 e2 => I.ok.inj y z c (mem e1).1 (mem e2).1, fun y hy => ?_, fun y c z e => absurd z (by simp), fun _ => hd, Around.frames_deeper I.ok.frames, .inr ⟨rfl, rfl⟩,
      fun b hb => ⟨Nat.ne_of_lt (hfp b hb).2, fun y c e z => (hfp b hb).1.2.2.2.2.1 y c (mem e).1 z⟩, I.bs, Nat.le_trans I.ok.bsz I.sz, fun b o e hb => ?_, fun b hb z => ?_, I.stack, I.stkFree⟩
    · have hy : scope.names.lookup y = some .cell ∨ scope.names.lookup y = some .free := hy
      rcases hy with hy | hy
      · exact absurd rfl (ok.cell _ (PySem.mem_of_lookup hy))
      · obtain ⟨c, h1, _⟩ := look hy
        exact ⟨c, h1⟩
    · rcases (hfp b hb).1.2.2.2.1 with z | z
      · exact I.ok.noex b o e z
      · exact absurd (Nat.lt_of_lt_of_le (Heap.lt_size e) (Nat.le_trans I.ok.bsz z)) (Nat.lt_irrefl _)
    · rcases List.mem_cons.mp (I.stkSub b z) with z | z
      · exact (hfp b hb).1.2.1 z
      · exact (hfp b hb).1.2.2.1 z
  refine ⟨okG, rfl, AllBare.push I.bare hc, Un.kept kp2, ⟨m0, hns.keeps fun b o e => Heap.get?_push_of_some _ e, fun i y av e1 e2 e3 => ?_⟩, fun y c e => ?_, I.hok.fresh (Nat.le_refl _), fun y c e => I.freeC y c (mem e).1, fun p hp => ?_, I.hok.kept kp2, by rw [wipe_length]; exact I.len⟩
  · obtain ⟨e2, hne⟩ := wipe_some e2
    have hfr : scope.names.lookup y = some .free := by
      have no : ∀ k, scope.names.lookup y = some k → ¬ (k = .local ∨ k = .cell) := fun k hk hh => by
        rcases ok.own _ (PySem.mem_of_lookup hk) hh with e' | e'
        · obtain ⟨p, hp, hpy⟩ := List.mem_map.mp e'
          have e3 := ok.ix p hp
          have : p.1 = y := hpy
          rw [this] at e3
          exact hne (List.mem_map.mpr ⟨p, hp, nodup_ix hN e3 e1⟩)
        · exact e' (List.mem_of_getElem? e1)
      have e3 : Vis scope y := e3
      rcases e3 with e3 | e3 | e3
      · exact absurd (.inl rfl) (no _ e3)
      · exact absurd (.inr rfl) (no _ e3)
      · exact e3
    obtain ⟨m, hn, hl⟩ := I.loc
    have hvis : Vis X.env.scope y := (ok.free _ (PySem.mem_of_lookup hfr) rfl).elim (fun k => .inr (.inl k)) (fun k => .inr (.inr k))
    obtain ⟨w, r, q⟩ := hl i y av e1 e2 hvis
    refine ⟨w, r, .inr ⟨.inr hfr, ?_⟩⟩
    obtain ⟨c, h1, h2⟩ := look hfr
    rcases q with ⟨k, _⟩ | ⟨_, c', e', z⟩
    · have k : X.env.scope.names.lookup y = some .local := k
      rcases ok.free _ (PySem.mem_of_lookup hfr) rfl with k' | k' <;> rw [show X.env.scope.names.lookup y = _ from k'] at k <;> cases k
    · rw [h2] at e'; cases e'
      exact ⟨c, h1, z.keeps kp2⟩
  · obtain ⟨w, z⟩ := I.cell y c (mem e).1
    exact ⟨w, z.keeps kp2⟩
  · have hp : p ∈ [(h'.objs.size, go)] := hp
    rw [List.mem_singleton.mp hp]
    exact ⟨hpu _, I.hok.fresh (Nat.le_of_lt hsz), Nat.ne_of_gt hsz, nofs _ (Nat.le_of_lt hsz), hgo⟩
end
end GA
namespace GA
open PySem PySem.Spec PyProof.Rows L2 GenW GxR

theorem inv_same {X : Cx} {pins : List (Addr × Obj)} {σ : L2.St} {H : Hp} {s s' : Shared} (I : L2.Inv X pins σ H s) (hh : s'.heap = s.heap) (ho : s'.os = s.os) (hb : AllBare s'.gens) : L2.Inv X pins σ H s' := by
  obtain ⟨h', g, d, t, o⟩ := s'
  have e1 : h' = s.heap := hh
  have e2 : o = s.os := ho
  subst e1 e2
  exact ⟨I.ok, I.os, hb, I.base, I.loc, I.cell, I.free, I.freeC, I.pin, I.hok, I.len⟩

/-- the plan of a walk: W by the turn and a measure; QT behind its end, QF behind the first item that is false -/
def Plan (J : It) (g : TG) (tt : TT) (te : TE) (σ0 : L2.St) (vs : List Nat) (QT QF : Hp → Prop) (W : Nat → Nat → Hp → Prop) : Prop :=
  ∀ i m H, W i m H → (J.stop i H ∧ QT H) ∨ (J.go i H ∧ ∃ Nx : Hp → Prop, (∀ H', Nx H' → ∃ m', m' < m ∧ W (i + 1) m' H') ∧ ∀ x H', J.yld i H x H' → g x σ0 H' fun σ2 H2 => wipe σ2 vs = σ0 ∧ tt σ2 H2 fun b H3 =>
    if b = true then te σ2 H3 fun y H4 => ∃ b, y = .bl b ∧ (if b = true then Nx H4 else QF H4) else Nx H3)
def GYp (X : Cx) (pins : List (Addr × Obj)) (QF : Hp → Prop) : Protocol := fun n s₀ v s kap =>
  ∃ b σ' H', v = .bool b ∧ L2.Inv X pins σ' H' s ∧ (b = false → QF H') ∧ (b = true → ∀ s'' : Shared, s''.heap = s.heap → s''.os = s.os → AllBare s''.gens → kap (.send .none) s'')
def GPn (X : Cx) (pins : List (Addr × Obj)) (σ0 : L2.St) (QT : Hp → Prop) : Nat → Shared → Shared → Prop := fun _ _ s₁ => ∃ H', L2.Inv X pins σ0 H' s₁ ∧ QT H'

theorem wipe_wipe (σ : L2.St) (vs : List Nat) (h : wipe σ vs = σ') : σ'.length = σ.length := by rw [← h, wipe_length]

section
variable {X : Cx} {s0 : Shared} {H0 : Hp} {cenv : Env} {fp : List Addr} {elt tg iter : Expr} {ifs : List Expr} {scope : Scope} {pos : Pos} {it a : Addr} {go : Obj} {tn : Nat → Heap → Prop} {J : It} {g : TG} {tt : TT} {te : TE} {σ0 : L2.St} {vs : List Nat} {QT QF : Hp → Prop} {W : Nat → Nat → Hp → Prop}
theorem gen_loop (hd : X.A.handled = none) (hco : cenv.scope.isCoroutine = false) (T : Turn X.prog X.w X.K tg J fp it tn) (ha : a ∉ fp) (pg : PG (cxG X s0 H0 cenv fp) tg g) (pt : PTs (cxG X s0 H0 cenv fp) ifs tt) (pe : PE (cxG X s0 H0 cenv fp) elt te)
    (hW : Plan J g tt te σ0 vs QT QF W) : ∀ (m n i : Nat) (H : Hp) (s₀ s : Shared), m < n → W i m H → L2.Inv (cxG X s0 H0 cenv fp) [(a, go)] σ0 H s → tn i s.heap → (∀ b ∈ fp, H b = none) →
      Seg (model X.prog X.w) X.A.in1.in1 (fun n s₀ r s₁ => r = .ok .next ∧ GPn (cxG X s0 H0 cenv fp) [(a, go)] σ0 QT n s₀ s₁) (GYp (cxG X s0 H0 cenv fp) [(a, go)] QF) n s₀
        (.compLoop (.GeneratorExp elt [⟨tg, iter, ifs, 0⟩] scope pos) 0 (.ref it) .none cenv) ((model X.prog X.w).den (.compLoop (.GeneratorExp elt [⟨tg, iter, ifs, 0⟩] scope pos) 0 (.ref it) .none cenv)) [] s := by
  intro m
  induction m using Nat.strongRecOn with
  | ind m ih =>
    intro n i H s₀ s hmn w I st nf
    have eA : X.A.in1.in1.over (.compLoop (.GeneratorExp elt [⟨tg, iter, ifs, 0⟩] scope pos) 0 (.ref it) .none cenv) [] = (cxG X s0 H0 cenv fp).A := over_gen
    have stat : ∀ {σ' : L2.St} {H' : Hp} {s' : Shared}, L2.Inv (cxG X s0 H0 cenv fp) [(a, go)] σ' H' s' → (∀ b ∈ fp, H' b = none) → ∀ b ∈ fp, FpOk (cxG X s0 H0 cenv fp) [(a, go)] H' b := fun {σ' H' s'} I' hn b hb =>
      ⟨hn b hb, (I'.ok.exf b hb).1, I'.ok.exfs b hb, .inl hb, fun x c e => (I'.ok.exf b hb).2 x c e, fun p hp e => by
        have hp : p ∈ [(a, go)] := hp
        rw [List.mem_singleton.mp hp] at e
        exact ha (by rw [show a = b from e]; exact hb)⟩
    show Seg _ _ _ _ _ s₀ _ ((compTurn (.GeneratorExp elt [⟨tg, iter, ifs, 0⟩] scope pos) 0 (.ref it) .none cenv).onRaise (leaving cenv)) [] s
    rw [compTurn_gen, Sem.onRaise_eq_wrap]
    refine seg_bind_wrap (wpAny_standAt ?_)
    rcases hW i m H w with ⟨stop, qq⟩ | ⟨go', Nx, hNx, step⟩
    · refine seg_bind_wrap ?_
      rw [eA]
      refine thnF (T.done (cxG X s0 H0 cenv fp) rfl rfl rfl rfl i [(a, go)] s _ H (fun _ _ => False) I (stat I nf) st stop) fun r s6 ⟨hr, I6⟩ => ?_
      subst hr
      exact seg_end (.ok .next) ⟨rfl, H, I6, qq⟩
    · refine seg_bind_wrap ?_
      rw [eA]
      refine thnF (T.item (cxG X s0 H0 cenv fp) rfl rfl rfl rfl i [(a, go)] s _ H (fun _ _ => False) I (stat I nf) st go') fun r s6 ⟨u, hr, h6⟩ => ?_
      subst hr
      show Seg _ _ _ _ _ s₀ _ (Sem.wrap _ _ _ _ (letOwnedTupleGo tg (.ref it) u >>= _)) [] s6
      refine seg_bind_wrap ?_
      rw [eA]
      refine thnF h6 fun _ s7 ⟨x, H7, I7, r7, y7, st7, n7⟩ => ?_
      have I7' := I7.pinned (stat I7 n7) (T.obj _ _ st7)
      refine seg_bind_wrap ?_
      rw [eA]
      refine thnF (pg.run _ s7 _ H7 x u _ I7' r7 (step x H7 y7)) fun _ s8 ⟨σ8, H8, I8, hw8, q8⟩ => ?_
      refine seg_bind_wrap ?_
      rw [eA]
      refine thnF (pt.run _ s8 σ8 H8 _ I8 q8) fun b s9 ⟨H9, I9, q9⟩ => ?_
      -- the turn's end
      have fin : ∀ {s' : Shared} {H' : Hp}, L2.Inv (cxG X s0 H0 cenv fp) ([(a, go)] ++ pinsAt fp s7.heap) σ8 H' s' → L2.Inv (cxG X s0 H0 cenv fp) [(a, go)] σ0 H' s' ∧ tn (i + 1) s'.heap ∧ (∀ b ∈ fp, H' b = none) := fun {s' H'} I' => by
        have pin' : ∀ b ∈ fp, ∀ o, s7.heap.get? b = some o → s'.heap.get? b = some o ∧ H' b = none := fun b hb o e =>
          let z := I'.pin (b, o) (List.mem_append_right _ (List.mem_append_right _ (mem_pinsAt hb e)))
          ⟨z.1, z.2.1⟩
        have hl : σ0.length = σ8.length := by rw [← hw8, wipe_length]
        refine ⟨(I'.unpinned (pins := [(a, go)])).weak hl (fun j v e => ?_), T.keep _ _ _ st7 fun b hb o e => (pin' b hb o e).1, fun b hb => ?_⟩
        · rw [← hw8] at e
          exact (wipe_some e).1
        · obtain ⟨o, e, _⟩ := T.obj _ _ st7 b hb
          exact (pin' b hb o e).2
      cases b with
      | false =>
        simp only [Bool.false_eq_true, if_false] at q9 ⊢
        obtain ⟨m', hm, w'⟩ := hNx H9 q9
        obtain ⟨f1, f2, f3⟩ := fin I9
        exact seg_again rfl (ih m' hm n (i + 1) H9 s₀ s9 (by omega) w' f1 f2 f3)
      | true =>
        simp only [if_true] at q9 ⊢
        have hy : ∀ v, yieldOut cenv v = yieldValue v := fun v => by simp only [yieldOut, hco, Bool.false_eq_true, if_false]
        simp only [hy]
        rw [Sem.bind_eq_wrap', Sem.bind_eq_wrap', Sem.wrap_wrap, Sem.wrap_wrap]
        refine seg_wrap ?_
        rw [eA]
        refine thnF (pe.run _ s9 σ8 H9 _ I9 q9) fun z s10 ⟨yv, H10, I10, r10, bb, ey, q10⟩ => ?_
        subst ey
        have ez : z = Value.bool bb := r10
        subst ez
        obtain ⟨f1, f2, f3⟩ := fin I10
        obtain ⟨n', rfl⟩ : ∃ n', n = n' + 1 := ⟨n - 1, by omega⟩
        refine seg_at (seg_yield rfl rfl rfl ⟨bb, σ0, H10, rfl, f1, fun hb => ?_, fun hb s'' e1 e2 e3 => ?_⟩)
        · rw [hb, if_neg Bool.false_ne_true] at q10
          exact q10
        · rw [hb, if_pos rfl] at q10
          obtain ⟨m', hm, w'⟩ := hNx H10 q10
          exact seg_again rfl (ih m' hm n' (i + 1) H10 s'' s'' (by omega) w' (inv_same f1 e1 e2 e3) (T.keep _ _ _ f2 fun b hb o e => by rw [e1]; exact e) f3)

theorem gen_first (hd : X.A.handled = none) (hco : cenv.scope.isCoroutine = false) (T : Turn X.prog X.w X.K tg J fp it tn) (ha : a ∉ fp) (pg : PG (cxG X s0 H0 cenv fp) tg g) (pt : PTs (cxG X s0 H0 cenv fp) ifs tt) (pe : PE (cxG X s0 H0 cenv fp) elt te)
    (hW : Plan J g tt te σ0 vs QT QF W) (m n : Nat) (H : Hp) (s₀ s : Shared) (hmn : m < n) (w : W 0 m H) (I : L2.Inv (cxG X s0 H0 cenv fp) [(a, go)] σ0 H s) (st : tn 0 s.heap) (nf : ∀ b ∈ fp, H b = none) :
      Seg (model X.prog X.w) X.A.in1.in1 (fun n s₀ r s₁ => r = .ok .next ∧ GPn (cxG X s0 H0 cenv fp) [(a, go)] σ0 QT n s₀ s₁) (GYp (cxG X s0 H0 cenv fp) [(a, go)] QF) n s₀
        (.compStart (.GeneratorExp elt [⟨tg, iter, ifs, 0⟩] scope pos) 0 (.ref it) .none cenv) ((model X.prog X.w).den (.compStart (.GeneratorExp elt [⟨tg, iter, ifs, 0⟩] scope pos) 0 (.ref it) .none cenv)) [] s := by
  have loop := gen_loop (elt := elt) (iter := iter) (ifs := ifs) (scope := scope) (pos := pos) (go := go) hd hco T ha pg pt pe hW m n 0 H s₀ s hmn w I st nf
  show Seg _ _ _ _ _ s₀ _ ((compStart (.GeneratorExp elt [⟨tg, iter, ifs, 0⟩] scope pos) 0 (.ref it) .none cenv).onRaise (leaving cenv)) [] s
  unfold compStart
  rw [Sem.onRaise_eq_wrap]
  show Seg _ _ _ _ _ s₀ _ ((ask >>= _).wrap _ _ _ _) [] s
  refine seg_bind_wrap (wpAny_askSetting ?_)
  split
  · exact seg_again rfl loop
  · first
      | exact seg_bind_wrap (wpAny_rule (seg_bind_wrap (wpAny_standAt (seg_bind_wrap (T.self _ 0 s _ _ st (seg_again rfl loop))))))
      | (refine seg_bind_wrap (wpAny_rule ?_); show Seg _ _ _ _ _ s₀ _ ((standAt iter.pos >>= _).wrap _ _ _ _) [] s; exact seg_bind_wrap (wpAny_standAt (seg_bind_wrap (T.self _ 0 s _ _ st (seg_again rfl loop)))))
end
end GA
namespace GA
open PySem PySem.Spec PyProof.Rows L2 GenW GxR

theorem bare_set {s : Shared} {g : Nat} {gs x : GenState} (h : AllBare s.gens) (hg : s.gens[g]? = some gs) (hx : x.bare = true) : AllBare (s.setGen g x).gens :=
  AllBare.moved h (g := g) (.inr ⟨GenOnly.setGen s g x, fun z hz => by rw [setGen_self hg] at hz; cases hz; exact hx⟩)

/-- the generator's own object -/
def GoAt (go : Obj) (g : Nat) : Prop := go.cls = .type "generator" ∧ (∃ nm qn, go.data = .fields #[.int g 0, nm, qn]) ∧ go.slots = #[]

section
variable {X : Cx} {pins : List (Addr × Obj)} {σ : L2.St} {H4 : Hp} {s4 : Shared} {cenv : Env} {fp : List Addr} {a : Addr} {go : Obj} {g : Nat} {σ0 : L2.St} {QT QF : Hp → Prop} {RR : Result → Shared → Prop}
theorem all_loop (hd : X.A.handled = none) (hdp : X.A.depth < recursionLimit) (hgo : GoAt go g) (I4 : L2.Inv X pins σ H4 s4) (f4 : ∀ b ∈ fp, FpOk X pins H4 b)
    (hT : ∀ s' H', L2.Inv X pins σ H' s' → QT H' → RR (.ok (.ret (.bool true))) s') (hF : ∀ s' H', L2.Inv X pins σ H' s' → QF H' → RR (.ok (.ret (.bool false))) s') :
    ∀ (n : Nat) (gs : GenState) (s : Shared) (σ' : L2.St) (H' : Hp), L2.Inv (cxG X s4 H4 cenv fp) [(a, go)] σ' H' s → s.gens[g]? = some gs →
      (∀ s'' : Shared, s''.heap = s.heap → s''.os = s.os → AllBare s''.gens → gs.Goes (model X.prog X.w) X.A.in1.in1 (fun n s₀ r s₁ => r = .ok .next ∧ GPn (cxG X s4 H4 cenv fp) [(a, go)] σ0 QT n s₀ s₁) (GYp (cxG X s4 H4 cenv fp) [(a, go)] QF) n (.send .none) s'') →
      codeAny (model X.prog X.w) X.A (.builtin "all.loop" ⟨[.ref a], []⟩) RR s := by
  have back : ∀ {σ' : L2.St} {H' : Hp} {s1 s' : Shared}, L2.Inv (cxG X s4 H4 cenv fp) [(a, go)] σ' H' s1 → s'.heap = s1.heap → s'.os = s1.os → AllBare s'.gens → L2.Inv X pins σ H' s' := fun {σ' H' s1 s'} I6 e1 e2 e3 => by
    refine I4.call' (ch := fp) (e2.trans I6.os) (by rw [e1]; exact I6.base) (by rw [e1]; exact I6.hok) e3 fun b hb => ⟨(f4 b hb).2.2.2.1, (f4 b hb).2.1, (f4 b hb).2.2.2.2.1, (f4 b hb).2.2.2.2.2⟩
  intro n
  induction n with
  | zero =>
    intro gs s σ' H' I hg hgs
    obtain ⟨gc, ⟨nm, qn, gd⟩, gsl⟩ := hgo
    have isg : s.heap.IsGen a g := ⟨go, nm, qn, (I.pin (a, go) (List.mem_append_right _ (List.mem_singleton.mpr rfl))).1, gc, gd, gsl⟩
    refine codeAny_builtin F.entry_all_loop ?_
    rw [Around.under_plainId F.plain_all_loop _]
    show wpAny _ X.A.in1 (pyNext (.ref a) >>= _) _ _ s
    refine wpAny_bind (wpAny_gsz (Nat.le_refl s.gens.size) ?_)
    refine wpAny_pyNext_genexpQ (A := X.A.in1) (n := 0) (P := GPn (cxG X s4 H4 cenv fp) [(a, go)] σ0 QT) (Y := GYp (cxG X s4 H4 cenv fp) [(a, go)] QF) hd I.nolimit hdp isg hg
      (hgs (s.setGen g .running) rfl rfl (bare_set I.bare hg rfl)) (fun v s₁ gs' hb hv => ?_) (fun s₁ hp h' hk => ?_)
    · intro hsz
      obtain ⟨b, σ2, H2, ev, I2, q1, q2⟩ := hv
      subst ev
      have hlt : g < s.gens.size := by
        rcases Nat.lt_or_ge g s.gens.size with h | h
        · exact h
        · rw [Array.getElem?_eq_none h] at hg; cases hg
      have hsz2 : g < s₁.gens.size := by
        have e := setGen_size s₁ g gs'
        have hsz : s.gens.size ≤ (s₁.setGen g gs').gens.size := hsz
        omega
      have hg1 := Array.getElem?_eq_getElem hsz2
      refine wpAny_bind (wpAny_holding (wpAny_truthy_bool ?_))
      refine wpAny_bind (wpAny_letGo ?_)
      cases b with
      | true => exact False.elim (q2 rfl (s₁.setGen g gs') rfl rfl (bare_set I2.bare hg1 hb))
      | false =>
        simp only [Bool.false_eq_true, if_false]
        refine wpAny_bind (wpAny_rule (wpAny_pure ?_))
        exact hF _ H2 (back I2 rfl rfl (bare_set I2.bare hg1 hb)) (q1 rfl)
    · intro hsz
      obtain ⟨H2, I2, q⟩ := hp
      have hlt : g < s.gens.size := by
        rcases Nat.lt_or_ge g s.gens.size with h | h
        · exact h
        · rw [Array.getElem?_eq_none h] at hg; cases hg
      have hsz2 : g < s₁.gens.size := by
        have e := setGen_size s₁ g .finished
        have hsz : s.gens.size ≤ (s₁.setGen g .finished).gens.size := hsz
        omega
      have hg1 := Array.getElem?_eq_getElem hsz2
      refine wpAny_bind (wpAny_rule (wpAny_pure ?_))
      exact hT _ H2 ((back (s' := s₁.setGen g .finished) I2 rfl rfl (bare_set I2.bare hg1 rfl)).kept (t' := s₁.toks) hk) q
  | succ n ih =>
    intro gs s σ' H' I hg hgs
    obtain ⟨gc, ⟨nm, qn, gd⟩, gsl⟩ := hgo
    have isg : s.heap.IsGen a g := ⟨go, nm, qn, (I.pin (a, go) (List.mem_append_right _ (List.mem_singleton.mpr rfl))).1, gc, gd, gsl⟩
    refine codeAny_builtin F.entry_all_loop ?_
    rw [Around.under_plainId F.plain_all_loop _]
    show wpAny _ X.A.in1 (pyNext (.ref a) >>= _) _ _ s
    refine wpAny_bind (wpAny_gsz (Nat.le_refl s.gens.size) ?_)
    refine wpAny_pyNext_genexpQ (A := X.A.in1) (n := n + 1) (P := GPn (cxG X s4 H4 cenv fp) [(a, go)] σ0 QT) (Y := GYp (cxG X s4 H4 cenv fp) [(a, go)] QF) hd I.nolimit hdp isg hg
      (hgs (s.setGen g .running) rfl rfl (bare_set I.bare hg rfl)) (fun v s₁ gs' hb hv => ?_) (fun s₁ hp h' hk => ?_)
    · intro hsz
      obtain ⟨b, σ2, H2, ev, I2, q1, q2⟩ := hv
      subst ev
      have hlt : g < s.gens.size := by
        rcases Nat.lt_or_ge g s.gens.size with h | h
        · exact h
        · rw [Array.getElem?_eq_none h] at hg; cases hg
      have hsz2 : g < s₁.gens.size := by
        have e := setGen_size s₁ g gs'
        have hsz : s.gens.size ≤ (s₁.setGen g gs').gens.size := hsz
        omega
      have hg1 := Array.getElem?_eq_getElem hsz2
      refine wpAny_bind (wpAny_holding (wpAny_truthy_bool ?_))
      refine wpAny_bind (wpAny_letGo ?_)
      cases b with
      | true =>
        simp only [if_true]
        refine wpAny_pure ⟨plainId_quiet F.plain_all_loop _, ih gs' (s₁.setGen g gs') σ2 H2 (inv_same I2 rfl rfl (bare_set I2.bare hg1 hb)) (setGen_self hg1) fun s'' e1 e2 e3 => q2 rfl s'' e1 e2 e3⟩
      | false =>
        simp only [Bool.false_eq_true, if_false]
        refine wpAny_bind (wpAny_rule (wpAny_pure ?_))
        exact hF _ H2 (back I2 rfl rfl (bare_set I2.bare hg1 hb)) (q1 rfl)
    · intro hsz
      obtain ⟨H2, I2, q⟩ := hp
      have hlt : g < s.gens.size := by
        rcases Nat.lt_or_ge g s.gens.size with h | h
        · exact h
        · rw [Array.getElem?_eq_none h] at hg; cases hg
      have hsz2 : g < s₁.gens.size := by
        have e := setGen_size s₁ g .finished
        have hsz : s.gens.size ≤ (s₁.setGen g .finished).gens.size := hsz
        omega
      have hg1 := Array.getElem?_eq_getElem hsz2
      refine wpAny_bind (wpAny_rule (wpAny_pure ?_))
      exact hT _ H2 ((back (s' := s₁.setGen g .finished) I2 rfl rfl (bare_set I2.bare hg1 rfl)).kept (t' := s₁.toks) hk) q
end

section
variable {X : Cx} {pins : List (Addr × Obj)} {σ : L2.St} {H : Hp} {s : Shared}
/-- a generator expression is made -/
theorem gen_made {c P : Addr} {elt tg iter : Expr} {gpos : Pos} {scope : Scope} {own : List (Str × Nat)} {wi : TI} {k : Nat} {Q' : Value → Shared → Prop} {R : It → Hp → Prop}
    (hr : Room k X.A) (TB : TabB X.base X.mg c P) (hcode : X.env.code = .ref c) (hN : X.N.Nodup) (ok : GenOk X.N X.env.scope scope own) (hi : PI X tg iter wi)
    (hs : ∀ v, genFold iter X.env v = pure v) (I : L2.Inv X pins σ H s) (h : wi σ H fun J H1 => TabG H1 P ∧ R J H1)
    (hQ : ∀ J H1 H2 s4 it fp tn code g a go s5, R J H1 → Tabbed P H1 H2 → L2.Inv X pins σ H2 s4 → Turn X.prog X.w X.K tg J fp it tn → (∀ b ∈ fp, FpOk X pins H2 b) → a ∉ fp → GoAt go g →
      L2.Inv (cxG X s4 H2 (envG X scope s4.heap.objs.size code) fp) [(a, go)] (wipe σ (own.map (·.2))) H2 s5 → tn 0 s5.heap →
      s5.gens[g]? = some (.fresh (.compStart (.GeneratorExp elt [⟨tg, iter, [], 0⟩] scope gpos) 0 (.ref it) .none (envG X scope s4.heap.objs.size code))) → Q' (.ref a) s5) :
    wpAny (model X.prog X.w) X.A (eval (.GeneratorExp elt [⟨tg, iter, [], 0⟩] scope gpos) X.env) Q' X.xe s := by
  have hfree : ∀ y ∈ scope.names, y.2 = .free → ∃ c, X.env.cells.lookup y.1 = some c := fun y hy e => by
    rcases ok.free y hy e with k | k
    · exact I.ok.has _ (.inl k)
    · exact I.ok.has _ (.inr k)
  refine wpAny_GeneratorExp_make ok.co (closure_ok hfree) ok.cell ok.dot ok.kind (by have := hr.dp; omega) (thn (hi.run pins s σ H _ I h) fun xv s1 hx => thn hx fun itv s2 h2 => ?_) hs
  obtain ⟨it, fp, tn, J, H1, e, I1, T, st1, f1, ⟨ps, hP, ht⟩, q1⟩ := h2
  subst e
  have hPs : s2.heap.get? P = some { cls := .none, data := .fields ps } := I1.hok P _ hP
  have cd : PySem.W.CodeHd s2.heap c P := TB.code.keeps fun b u e => I1.bk b u e
  have cont : ∀ (code : Value) (h3 : Heap) (tk : Nat) (ps' : Array Value), Heap.ExtBut P s2.heap h3 → s2.heap.objs.size ≤ h3.objs.size → h3.get? P = some { cls := .none, data := .fields ps' } → (∃ more, ps' = ps ++ more) → TriplesOk ps'.toList →
      wpAny (model X.prog X.w) X.A (builtinsFor X.env.globals X.env.builtins) (fun bi s₄ =>
        ∀ h', h'.Ns s₄.heap.objs.size (fun y => if y = ".0" then some (.ref it) else none) → Heap.SameBut s₄.heap.objs.size (s₄.heap.push { cls := .type "frame", data := .dict #[] }) h' →
          Q' (.ref h'.objs.size) { s₄ with
            gens := s₄.gens.push (.fresh (.compStart (.GeneratorExp elt [⟨tg, iter, [], 0⟩] scope gpos) 0 (.ref it) .none (genEnv scope (cloFrom X.env.cells scope.names []) s₄.heap.objs.size code bi X.env))),
            toks := s₄.toks + 1 + 1 + 1,
            heap := h'.push { cls := .type "generator", data := .fields #[.int s₄.gens.size 0, .str "<genexpr>" (s₄.toks + 1), .str (X.env.qual ++ "<genexpr>") (s₄.toks + 1 + 1)] } }) X.xe { s2 with heap := h3, toks := tk } := by
    intro code h3 tk ps' hx hsz hP3 hmore ht3
    obtain ⟨bm, ob, e1, e2, e3, e4, e5, e6, e7, e8⟩ := TB.bm
    have keep3 : ∀ b u, b ≠ P → s2.heap.get? b = some u → h3.get? b = some u := fun b u hb e => hx b u hb e
    refine wpAny_builtinsFor (m := X.mg) (by rw [I1.ok.glob]; exact (I1.mod.glob.keeps I1.bk).extBut hx TB.gP) e1 e2 (keep3 _ _ e4 (I1.bk _ _ e5)) e6 e7 e8 ?_
    intro h' hns hsb
    obtain ⟨more, em⟩ := hmore
    have I4 := inv_tab (more := more) (h' := h3) (g' := s2.gens) (d' := s2.drawn) (t' := tk) I1 hP keep3 (by rw [← em]; exact hP3) I1.bare
    have nP : ∀ b ∈ fp, b ≠ P := fun b hb e => by
      have := (f1 b hb).1
      rw [e, hP] at this
      cases this
    have f4 : ∀ b ∈ fp, FpOk X pins (upd H1 P (.tbl (ps ++ more))) b := fun b hb => ⟨by rw [upd_ne (nP b hb)]; exact (f1 b hb).1, (f1 b hb).2⟩
    have st4 : tn 0 h3 := T.keep _ _ _ st1 fun b hb o e => keep3 b o (nP b hb) e
    have hszC : h'.objs.size = h3.objs.size + 1 := by
      have e := hsb.1
      rw [Heap.size_push] at e
      exact e
    have kp : ∀ b o, h3.get? b = some o → h'.get? b = some o := fun b o e => hsb.extBut b o (Nat.ne_of_lt (Heap.lt_size e)) (Heap.get?_push_of_some _ e)
    have lt4 : ∀ b ∈ fp, b < h3.objs.size := fun b hb => by
      obtain ⟨o, e, _⟩ := T.obj _ _ st4 b hb
      exact Heap.lt_size e
    have I5 := gen_start (scope := scope) (own := own) (fp := fp) (code := code) (h' := h') (m0 := fun y => if y = ".0" then some (.ref it) else none)
      (go := { cls := .type "generator", data := .fields #[.int s2.gens.size 0, .str "<genexpr>" (tk + 1), .str (X.env.qual ++ "<genexpr>") (tk + 1 + 1)] })
      (c := .fresh (.compStart (.GeneratorExp elt [⟨tg, iter, [], 0⟩] scope gpos) 0 (.ref it) .none (envG X scope h3.objs.size code))) (tk := tk + 1 + 1 + 1) hr.hd I4 ok hN (fun b hb => ⟨f4 b hb, lt4 b hb⟩) hns kp (by rw [hszC]; exact Nat.lt_succ_self _) (fun v q => by cases q) (fun h => Heap.get?_push_size _ rfl) rfl
    refine hQ J H1 (upd H1 P (.tbl (ps ++ more))) _ it fp tn code s2.gens.size h'.objs.size _ _ q1 ⟨⟨ps ++ more, upd_same, by rw [← em]; exact ht3⟩, fun b hb => upd_ne hb⟩ I4 T f4 (fun hm => ?_) ⟨rfl, ⟨_, _, rfl⟩, rfl⟩ I5 ?_ (Array.getElem?_push_size ..)
    · have := lt4 _ hm
      rw [hszC] at this
      exact absurd (Nat.lt_of_succ_lt this) (Nat.lt_irrefl _)
    · exact T.keep _ _ _ st4 fun b hb o e => Heap.get?_push_of_some _ (kp b o e)
  refine ⟨I1.nolimit, ?_⟩
  cases hf : codeAmong gpos ps.toList with
  | none =>
    refine wpAny_genexprCodeX hcode (cd.code hPs ht) (cd.tab hPs) hf fun c' h' tk hx hge hlt hco' _ htab' _ => ?_
    obtain ⟨o1, vs, f1, tf, fl, tg, inF, tx, tt, op, _, _, _, _, _, _, _, _, _, htr, _⟩ := hco'
    exact cont _ h' tk _ hx (Nat.le_trans hge (Nat.le_of_lt hlt)) htab'.2 ⟨_, rfl⟩ htr
  | some cv =>
    refine wpAny_genexprCode_hit hcode (cd.code hPs ht) hf ?_
    exact cont cv s2.heap s2.toks ps (Heap.ExtBut.refl _ _) (Nat.le_refl _) hPs ⟨#[], by simp⟩ ht

/-- all(elt for tg in iter), elt a truth -/
def tAllG (P : Addr) (wi : TI) (g : TG) (te : TE) (vs : List Nat) : TE := fun σ H Q => wi σ H fun J H1 => TabG H1 P ∧ ∀ H2, Tabbed P H1 H2 →
  ∃ W : Nat → Nat → Hp → Prop, (∃ m, W 0 m H2) ∧ Plan J g tYes te (wipe σ vs) vs (fun H' => Q (.bl true) H') (fun H' => Q (.bl false) H') W
theorem pe_allG {c P : Addr} {elt tg iter : Expr} {p pos gpos : Pos} {scope : Scope} {own : List (Str × Nat)} {wi : TI} {g : TG} {te : TE} {k : Nat}
    (hr : Room k X.A) (hg : Gl X "all") (hm : X.mg "all" = none) (hb : bootBuiltins "all" = some (.builtin "all")) (TB : TabB X.base X.mg c P) (hcode : X.env.code = .ref c) (hN : X.N.Nodup) (ok : GenOk X.N X.env.scope scope own) (hi : PI X tg iter wi)
    (hgt : ∀ (s : Shared) (H : Hp) (C : Addr) (code : Value) (fp : List Addr), PG (cxG X s H (envG X scope C code) fp) tg g) (he : ∀ (s : Shared) (H : Hp) (C : Addr) (code : Value) (fp : List Addr), PE (cxG X s H (envG X scope C code) fp) elt te)
    (hs : ∀ v, genFold iter X.env v = pure v := by intro _; rfl)
    (hst : starEach [.GeneratorExp elt [⟨tg, iter, [], 0⟩] scope gpos] X.env = (false, eval (.GeneratorExp elt [⟨tg, iter, [], 0⟩] scope gpos) X.env) :: starEach [] X.env := by rfl) :
    PE X (.Call (.Name "all" p) [.GeneratorExp elt [⟨tg, iter, [], 0⟩] scope gpos] [] pos) (tAllG P wi g te (own.map (·.2))) := by
  refine ⟨fun pins s σ H Q I h => ?_⟩
  refine wpAny_Call_Name_kw (ld_blt I hg hm hb ?_)
  refine PyProof.Rows.callWith_builtin1 ?_ hst (by rfl)
  rw [hst]
  show wpAny _ _ (spliced ((false, eval (.GeneratorExp elt [⟨tg, iter, [], 0⟩] scope gpos) X.env) :: backTo pos (starEach [] X.env))) _ _ s
  refine Calls.spliced_cons (gen_made (R := fun J H1 => ∀ H2, Tabbed P H1 H2 → ∃ W : Nat → Nat → Hp → Prop, (∃ m, W 0 m H2) ∧ Plan J g tYes te (wipe σ (List.map (fun q : Str × Nat => q.2) own)) (List.map (fun q : Str × Nat => q.2) own) (fun H' => Q (.bl true) H') (fun H' => Q (.bl false) H') W)
    hr TB hcode hN ok hi hs I h fun J H1 H2 s4 it fp tn code g' a go s5 hR hT I4 T f4 ha hgo I5 st5 hg5 => ?_)
  refine Calls.spliced_nil ?_
  obtain ⟨W, ⟨m, w0⟩, pl⟩ := hR H2 hT
  have cn : (envG X scope s4.heap.objs.size code).scope.isCoroutine = false := ok.co
  have nf5 : ∀ b ∈ fp, H2 b = none := fun b hb => (f4 b hb).1
  refine call_function_tree F.kind_all F.plain_all F.entry_all (F.args_all1 _) ?_
  unfold Builtin.«all»
  refine wpAny_bind (m := oneArg "all" _) (wpAny_pure ?_)
  have isg : s5.heap.IsGen a g' := by
    obtain ⟨gc, ⟨nm, qn, gd⟩, gsl⟩ := hgo
    exact ⟨go, nm, qn, (I5.pin (a, go) (List.mem_append_right _ (List.mem_singleton.mpr rfl))).1, gc, gd, gsl⟩
  refine wpAny_bind (wpAny_pyIter_gen isg ?_)
  refine wpAny_pure ⟨plainId_quiet F.plain_all_loop _, ?_⟩
  refine all_loop (σ0 := wipe σ (List.map (fun q : Str × Nat => q.2) own)) (QT := fun H' => Q (.bl true) H') (QF := fun H' => Q (.bl false) H') hr.hd (by have := hr.dp; omega) hgo I4 f4 (fun s' H' I' q => ⟨.bl true, H', I', rfl, q⟩) (fun s' H' I' q => ⟨.bl false, H', I', rfl, q⟩)
    (m + 1) _ s5 _ H2 I5 hg5 fun s'' e1 e2 e3 => ⟨rfl, ?_⟩
  exact gen_first (X := X) (go := go) hr.hd cn T ha (hgt _ _ _ _ _) pts_nil (he _ _ _ _ _) pl m (m + 1) H2 s'' s'' (Nat.lt_succ_self _) w0 (inv_same I5 e1 e2 e3) (by rw [e1]; exact st5) nf5
end
end GA
namespace SB
/-! ### numbers in lowest terms -/
def Lo (q : Int × Int) : Prop := 0 < q.2 ∧ Nat.gcd q.1.natAbs q.2.natAbs = 1
/-- the same number as N / D -/
def Eqr (r : Int × Int) (N D : Int) : Prop := r.1 * D = N * r.2
theorem gcd_pos {t b : Int} (h : b ≠ 0) : 0 < Nat.gcd t.natAbs b.natAbs := Nat.gcd_pos_of_pos_right _ (by omega)
theorem gcd_dvd_l (t b : Int) : ((Nat.gcd t.natAbs b.natAbs : Nat) : Int) ∣ t := Int.ofNat_dvd_left.mpr (Nat.gcd_dvd_left _ _)
theorem gcd_dvd_r (t b : Int) : ((Nat.gcd t.natAbs b.natAbs : Nat) : Int) ∣ b := Int.ofNat_dvd_left.mpr (Nat.gcd_dvd_right _ _)
theorem low_split {t b : Int} (h : 0 < b) : ∃ t' b' g : Int, 0 < g ∧ ((Nat.gcd t.natAbs b.natAbs : Nat) : Int) = g ∧ t = g * t' ∧ b = g * b' ∧ t / g = t' ∧ b / g = b' ∧ 0 < b' ∧ Nat.gcd t'.natAbs b'.natAbs = 1 := by
  have hg := gcd_pos (t := t) (b := b) (by omega)
  obtain ⟨t', e1⟩ := gcd_dvd_l t b
  obtain ⟨b', e2⟩ := gcd_dvd_r t b
  generalize hG : Nat.gcd t.natAbs b.natAbs = G at *
  have gp : (0 : Int) < (G : Int) := by omega
  have hb : 0 < b' := by
    rcases Int.lt_trichotomy b' 0 with z | z | z
    · have := Int.mul_neg_of_pos_of_neg gp z
      omega
    · rw [z, Int.mul_zero] at e2; omega
    · exact z
  refine ⟨t', b', G, gp, rfl, e1, e2, by rw [e1]; exact Int.mul_ediv_cancel_left _ (by omega), by rw [e2]; exact Int.mul_ediv_cancel_left _ (by omega), hb, ?_⟩
  have h1 : t.natAbs = G * t'.natAbs := by rw [e1, Int.natAbs_mul]; rfl
  have h2 : b.natAbs = G * b'.natAbs := by rw [e2, Int.natAbs_mul]; rfl
  have h3 : G * Nat.gcd t'.natAbs b'.natAbs = G * 1 := by
    rw [← Nat.gcd_mul_left, ← h1, ← h2, hG, Nat.mul_one]
  exact Nat.eq_of_mul_eq_mul_left hg h3
theorem natAbs_le_mul {g t : Int} (h : 0 < g) : t.natAbs ≤ (g * t).natAbs := by
  rw [Int.natAbs_mul]
  exact Nat.le_mul_of_pos_left _ (by omega)
theorem low_ok {t b : Int} (h : 0 < b) : ∀ g : Int, ((Nat.gcd t.natAbs b.natAbs : Nat) : Int) = g → Lo (t / g, b / g) ∧ Eqr (t / g, b / g) t b ∧ (t / g).natAbs ≤ t.natAbs ∧ (b / g).natAbs ≤ b.natAbs ∧ 0 < g ∧ g.natAbs ≤ b.natAbs := by
  intro g hg
  obtain ⟨t', b', g', gp, eg, e1, e2, e3, e4, hb, hc⟩ := low_split (t := t) h
  have : g' = g := eg.symm.trans hg
  subst this
  refine ⟨⟨by rw [e4]; exact hb, by rw [e3, e4]; exact hc⟩, ?_, ?_, ?_, gp, ?_⟩
  · show t / g' * b = t * (b / g')
    rw [e3, e4]
    conv => lhs; rw [e2]
    conv => rhs; rw [e1]
    rw [Int.mul_left_comm, Int.mul_assoc]
  · rw [e3, e1]; exact natAbs_le_mul gp
  · rw [e4, e2]; exact natAbs_le_mul gp
  · rw [e2, Int.mul_comm]; exact natAbs_le_mul hb
/-- a number has one form in lowest terms -/
theorem lo_uniq {r s : Int × Int} (hr : Lo r) (hs : Lo s) (h : r.1 * s.2 = s.1 * r.2) : r = s := by
  obtain ⟨r1, r2⟩ := hr
  obtain ⟨s1, s2⟩ := hs
  have e : r.1.natAbs * s.2.natAbs = s.1.natAbs * r.2.natAbs := by rw [← Int.natAbs_mul, ← Int.natAbs_mul, h]
  have d1 : r.2.natAbs ∣ s.2.natAbs := by
    have : r.2.natAbs ∣ r.1.natAbs * s.2.natAbs := by rw [e]; exact Nat.dvd_mul_left _ _
    exact (Nat.Coprime.symm r2).dvd_of_dvd_mul_left this
  have d2 : s.2.natAbs ∣ r.2.natAbs := by
    have : s.2.natAbs ∣ s.1.natAbs * r.2.natAbs := by rw [← e]; exact Nat.dvd_mul_left _ _
    exact (Nat.Coprime.symm s2).dvd_of_dvd_mul_left this
  have e2 : r.2 = s.2 := by
    have := Nat.dvd_antisymm d1 d2
    omega
  have e1 : r.1 = s.1 := by
    rw [e2] at h
    exact Int.eq_of_mul_eq_mul_right (by omega) h
  exact Prod.ext e1 e2
/-- unreduced -/
def fPlus (p q : Int × Int) : Int × Int := (p.1 * q.2 + q.1 * p.2, p.2 * q.2)
def fMinus (p q : Int × Int) : Int × Int := (p.1 * q.2 - q.1 * p.2, p.2 * q.2)
def fTimes (p q : Int × Int) : Int × Int := (p.1 * q.1, p.2 * q.2)
/-- both parts below 2 ^ m -/
def Wd (m : Nat) (p : Int × Int) : Prop := p.1.natAbs < 2 ^ m ∧ p.2.natAbs < 2 ^ m
theorem Wd.mono {m n : Nat} {p : Int × Int} (h : Wd m p) (k : m ≤ n) : Wd n p := ⟨Nat.lt_of_lt_of_le h.1 (Nat.pow_le_pow_right (by decide) k), Nat.lt_of_lt_of_le h.2 (Nat.pow_le_pow_right (by decide) k)⟩
theorem mul_lt2 {a b : Int} {m n : Nat} (h : a.natAbs < 2 ^ m) (k : b.natAbs < 2 ^ n) : (a * b).natAbs < 2 ^ (m + n) := by
  rw [Int.natAbs_mul, Nat.pow_add]
  exact Nat.mul_lt_mul'' h k
theorem add_lt2 {a b : Int} {m : Nat} (h : a.natAbs < 2 ^ m) (k : b.natAbs < 2 ^ m) : (a + b).natAbs < 2 ^ (m + 1) := by
  rw [Nat.pow_succ]
  omega
theorem sub_lt2 {a b : Int} {m : Nat} (h : a.natAbs < 2 ^ m) (k : b.natAbs < 2 ^ m) : (a - b).natAbs < 2 ^ (m + 1) := by
  rw [Nat.pow_succ]
  omega
theorem wd_plus {m n : Nat} {p q : Int × Int} (h : Wd m p) (k : Wd n q) : Wd (m + n + 1) (fPlus p q) :=
  ⟨add_lt2 (mul_lt2 h.1 k.2) (by rw [Nat.add_comm m n]; exact mul_lt2 k.1 h.2), Nat.lt_of_lt_of_le (mul_lt2 h.2 k.2) (Nat.pow_le_pow_right (by decide) (by omega))⟩
theorem wd_minus {m n : Nat} {p q : Int × Int} (h : Wd m p) (k : Wd n q) : Wd (m + n + 1) (fMinus p q) :=
  ⟨sub_lt2 (mul_lt2 h.1 k.2) (by rw [Nat.add_comm m n]; exact mul_lt2 k.1 h.2), Nat.lt_of_lt_of_le (mul_lt2 h.2 k.2) (Nat.pow_le_pow_right (by decide) (by omega))⟩
theorem wd_times {m n : Nat} {p q : Int × Int} (h : Wd m p) (k : Wd n q) : Wd (m + n) (fTimes p q) := ⟨mul_lt2 h.1 k.1, mul_lt2 h.2 k.2⟩
/-- a reduced form keeps the sign of its numerator -/
theorem eqr_sign {r : Int × Int} {N D : Int} (h : Eqr r N D) (hr : 0 < r.2) (hD : 0 < D) : (0 < r.1 ↔ 0 < N) ∧ (r.1 = 0 ↔ N = 0) ∧ (r.1 < 0 ↔ N < 0) := by
  have h : r.1 * D = N * r.2 := h
  have key : ∀ {a b c d : Int}, a * b = c * d → 0 < b → 0 < d → (0 < a → 0 < c) ∧ (a < 0 → c < 0) := fun {a b c d} e hb hd => by
    constructor
    · intro ha
      rcases Int.lt_trichotomy c 0 with z | z | z
      · have h1 := Int.mul_pos ha hb
        have h2 := Int.mul_neg_of_neg_of_pos z hd
        omega
      · have h1 := Int.mul_pos ha hb
        rw [z, Int.zero_mul] at e
        omega
      · exact z
    · intro ha
      rcases Int.lt_trichotomy c 0 with z | z | z
      · exact z
      · have h1 := Int.mul_neg_of_neg_of_pos ha hb
        rw [z, Int.zero_mul] at e
        omega
      · have h1 := Int.mul_neg_of_neg_of_pos ha hb
        have h2 := Int.mul_pos z hd
        omega
  obtain ⟨a1, a2⟩ := key h hD hr
  obtain ⟨b1, b2⟩ := key h.symm hr hD
  refine ⟨⟨a1, b1⟩, ⟨fun z => ?_, fun z => ?_⟩, ⟨a2, b2⟩⟩
  · rcases Int.lt_trichotomy N 0 with y | y | y
    · have := b2 y; omega
    · exact y
    · have := b1 y; omega
  · rcases Int.lt_trichotomy r.1 0 with y | y | y
    · have := a2 y; omega
    · exact y
    · have := a1 y; omega
end SB
namespace SB
theorem eqr_plus {r g h : Int × Int} {G Hh : Int × Int} (g2 : 0 < g.2) (h2 : 0 < h.2) (eg : Eqr g G.1 G.2) (eh : Eqr h Hh.1 Hh.2) (er : Eqr r (fPlus g h).1 (fPlus g h).2) : Eqr r (fPlus G Hh).1 (fPlus G Hh).2 := by
  unfold Eqr fPlus at *
  dsimp only at *
  have hne : g.2 * h.2 ≠ 0 := Int.ne_of_gt (Int.mul_pos g2 h2)
  refine Int.eq_of_mul_eq_mul_right hne ?_
  grind
theorem eqr_minus {r g h : Int × Int} {G Hh : Int × Int} (g2 : 0 < g.2) (h2 : 0 < h.2) (eg : Eqr g G.1 G.2) (eh : Eqr h Hh.1 Hh.2) (er : Eqr r (fMinus g h).1 (fMinus g h).2) : Eqr r (fMinus G Hh).1 (fMinus G Hh).2 := by
  unfold Eqr fMinus at *
  dsimp only at *
  have hne : g.2 * h.2 ≠ 0 := Int.ne_of_gt (Int.mul_pos g2 h2)
  refine Int.eq_of_mul_eq_mul_right hne ?_
  grind
theorem eqr_times {r g h : Int × Int} {G Hh : Int × Int} (g2 : 0 < g.2) (h2 : 0 < h.2) (eg : Eqr g G.1 G.2) (eh : Eqr h Hh.1 Hh.2) (er : Eqr r (fTimes g h).1 (fTimes g h).2) : Eqr r (fTimes G Hh).1 (fTimes G Hh).2 := by
  unfold Eqr fTimes at *
  dsimp only at *
  have hne : g.2 * h.2 ≠ 0 := Int.ne_of_gt (Int.mul_pos g2 h2)
  refine Int.eq_of_mul_eq_mul_right hne ?_
  grind
end SB
namespace SB
/-- one step of a sum of sides times numbers -/
def stepU (g : Int × Int) (p : Int × (Int × Int)) : Int × Int := fPlus g (fTimes (p.1, 1) p.2)
def sumU (ns : List Int) (us : List (Int × Int)) (g : Int × Int) : Int × Int := (ns.zip us).foldl stepU g
theorem fold_take {α β : Type} (f : β → α → β) (g : β) {l : List α} {i : Nat} {x : α} (h : l[i]? = some x) : (l.take (i + 1)).foldl f g = f ((l.take i).foldl f g) x := by
  rw [List.take_add_one, h, Option.toList_some, List.foldl_append]
  rfl
theorem zip_at {α β : Type} {xs : List α} {ys : List β} {i : Nat} {x : α} {y : β} (h : xs[i]? = some x) (k : ys[i]? = some y) : (xs.zip ys)[i]? = some (x, y) := by
  rw [List.getElem?_zip_eq_some]
  exact ⟨h, k⟩
theorem stepU_pos {g : Int × Int} {p : Int × (Int × Int)} (h : 0 < g.2) (k : 0 < p.2.2) : 0 < (stepU g p).2 := by
  unfold stepU fPlus fTimes
  dsimp only
  rw [Int.one_mul]
  exact Int.mul_pos h k
theorem sumU_pos : ∀ {l : List (Int × (Int × Int))} {g : Int × Int}, 0 < g.2 → (∀ p, p ∈ l → 0 < p.2.2) → 0 < (l.foldl stepU g).2
  | [], _, h, _ => h
  | p :: r, g, h, k => by
    rw [List.foldl_cons]
    exact sumU_pos (stepU_pos h (k p List.mem_cons_self)) fun q hq => k q (List.mem_cons_of_mem _ hq)
/-- the sum less the wall -/
theorem sumU_less (w : Int) : ∀ (l : List (Int × (Int × Int))) (g g' : Int × Int), g'.2 = g.2 → g'.1 = g.1 - w * g.2 → (l.foldl stepU g').2 = (l.foldl stepU g).2 ∧ (l.foldl stepU g').1 = (l.foldl stepU g).1 - w * (l.foldl stepU g).2
  | [], _, _, h1, h2 => ⟨h1, h2⟩
  | p :: r, g, g', h1, h2 => by
    rw [List.foldl_cons, List.foldl_cons]
    refine sumU_less w r _ _ ?_ ?_
    · unfold stepU fPlus fTimes
      dsimp only
      rw [h1]
    · unfold stepU fPlus fTimes
      dsimp only
      rw [h1, h2]
      grind
/-- the sum of the sides, each times the number, less the wall -/
def worthU (q : List Int × Int) (us : List (Int × Int)) : Int × Int := sumU q.1 us (-q.2, 1)
theorem worth_of (q : List Int × Int) (us : List (Int × Int)) : fMinus (sumU q.1 us (0, 1)) (q.2, 1) = worthU q us := by
  obtain ⟨h1, h2⟩ := sumU_less q.2 (q.1.zip us) (0, 1) (-q.2, 1) rfl (by show -q.2 = 0 - q.2 * 1; omega)
  refine Prod.ext ?_ ?_
  · show (sumU q.1 us (0, 1)).1 * 1 - q.2 * (sumU q.1 us (0, 1)).2 = _
    exact (by rw [Int.mul_one]; exact h2.symm)
  · show (sumU q.1 us (0, 1)).2 * 1 = _
    exact (by rw [Int.mul_one]; exact h1.symm)
end SB
namespace SB
def gcdL (l : List Int) : Nat := l.foldl (fun c z => Nat.gcd c z.natAbs) 0
theorem gcdF_dvd : ∀ (l : List Int) (c : Nat), (l.foldl (fun c z => Nat.gcd c z.natAbs) c) ∣ c ∧ ∀ z, z ∈ l → (l.foldl (fun c z => Nat.gcd c z.natAbs) c) ∣ z.natAbs
  | [], c => ⟨Nat.dvd_refl c, fun z h => by simp at h⟩
  | x :: r, c => by
    obtain ⟨h1, h2⟩ := gcdF_dvd r (Nat.gcd c x.natAbs)
    rw [List.foldl_cons]
    refine ⟨Nat.dvd_trans h1 (Nat.gcd_dvd_left _ _), fun z hz => ?_⟩
    rcases List.mem_cons.mp hz with rfl | hz
    · exact Nat.dvd_trans h1 (Nat.gcd_dvd_right _ _)
    · exact h2 z hz
theorem gcdL_dvd {l : List Int} {z : Int} (h : z ∈ l) : gcdL l ∣ z.natAbs := (gcdF_dvd l 0).2 z h
theorem gcdL_pos {l : List Int} {z : Int} (h : z ∈ l) (n : z ≠ 0) : 0 < gcdL l := by
  have d := gcdL_dvd h
  rcases Nat.eq_zero_or_pos (gcdL l) with e | e
  · rw [e] at d
    have := Nat.eq_zero_of_zero_dvd d
    omega
  · exact e
theorem gcdL_le {l : List Int} {z : Int} (h : z ∈ l) (n : z ≠ 0) : gcdL l ≤ z.natAbs := Nat.le_of_dvd (by omega) (gcdL_dvd h)
theorem div_le {z : Int} {g : Nat} (hg : 0 < g) (h : g ∣ z.natAbs) : (z / (g : Int)).natAbs ≤ z.natAbs ∧ (z ≠ 0 → z / (g : Int) ≠ 0) := by
  obtain ⟨t, e⟩ := Int.ofNat_dvd_left.mpr h
  have gp : (0 : Int) < (g : Int) := by omega
  have e2 : z / (g : Int) = t := by rw [e]; exact Int.mul_ediv_cancel_left _ (by omega)
  rw [e2]
  refine ⟨?_, fun n q => ?_⟩
  · rw [e]
    exact natAbs_le_mul gp
  · rw [q, Int.mul_zero] at e
    exact n e
def NonZ (ns : List Int) : Prop := (ns.any fun z => decide (z ≠ 0)) = true
theorem NonZ.ex {ns : List Int} (h : NonZ ns) : ∃ z, z ∈ ns ∧ z ≠ 0 := by
  obtain ⟨z, h1, h2⟩ := List.any_eq_true.mp h
  exact ⟨z, h1, of_decide_eq_true h2⟩
theorem nonZ_of {ns : List Int} {z : Int} (h : z ∈ ns) (n : z ≠ 0) : NonZ ns := List.any_eq_true.mpr ⟨z, h, decide_eq_true n⟩
def NsOk (ns : List Int) : Prop := ∀ z, z ∈ ns → z.natAbs < 2 ^ 10000
/-- a question's form -/
def divU (q : List Int × Int) : List Int × Int := (q.1.map fun z => z / ((gcdL (q.1 ++ [q.2]) : Nat) : Int), q.2 / ((gcdL (q.1 ++ [q.2]) : Nat) : Int))
def negU (q : List Int × Int) : List Int × Int := (q.1.map fun z => -z, -q.2)
/-- the first place that is not 0, and what stands there -/
def firstNZ (ns : List Int) : Nat := ns.findIdx fun z => decide (z ≠ 0)
def lead (ns : List Int) : Int := ns.getD (firstNZ ns) 0
def nfU (q : List Int × Int) : List Int × Int := if 0 < lead (divU q).1 then divU q else negU (divU q)
theorem firstNZ_at {ns : List Int} (h : NonZ ns) : ns[firstNZ ns]? = some (lead ns) ∧ lead ns ≠ 0 ∧ ∀ j z, j < firstNZ ns → ns[j]? = some z → z = 0 := by
  have hl : firstNZ ns < ns.length := by
    obtain ⟨z, h1, h2⟩ := h.ex
    exact List.findIdx_lt_length_of_exists ⟨z, h1, decide_eq_true h2⟩
  have e : ns[firstNZ ns]? = some ns[firstNZ ns] := List.getElem?_eq_getElem hl
  have e2 : lead ns = ns[firstNZ ns] := by
    unfold lead
    rw [List.getD_eq_getElem?_getD, e] <;> rfl
  refine ⟨by rw [e2]; exact e, ?_, fun j z hj hz => ?_⟩
  · rw [e2]
    have := List.findIdx_getElem (p := fun z : Int => decide (z ≠ 0)) (xs := ns) (w := hl)
    exact of_decide_eq_true this
  · have := List.not_of_lt_findIdx (p := fun z : Int => decide (z ≠ 0)) (xs := ns) hj
    have hjl := (List.getElem?_eq_some_iff.mp hz)
    obtain ⟨hjl, ez⟩ := hjl
    rw [← ez]
    simpa using this
/-- bounds -/
structure QOk (q : List Int × Int) : Prop where
  nz : NonZ q.1
  ns : NsOk q.1
  wl : q.2.natAbs < 2 ^ 10000
theorem QOk.g {q : List Int × Int} (h : QOk q) : 0 < gcdL (q.1 ++ [q.2]) ∧ gcdL (q.1 ++ [q.2]) < 2 ^ 10000 := by
  obtain ⟨z, h1, h2⟩ := h.nz.ex
  have hm : z ∈ q.1 ++ [q.2] := List.mem_append_left _ h1
  exact ⟨gcdL_pos hm h2, Nat.lt_of_le_of_lt (gcdL_le hm h2) (h.ns z h1)⟩
theorem QOk.div {q : List Int × Int} (h : QOk q) : QOk (divU q) := by
  obtain ⟨g0, _⟩ := h.g
  have dv : ∀ z, z ∈ q.1 ++ [q.2] → (z / ((gcdL (q.1 ++ [q.2]) : Nat) : Int)).natAbs ≤ z.natAbs ∧ (z ≠ 0 → z / ((gcdL (q.1 ++ [q.2]) : Nat) : Int) ≠ 0) := fun z hz => div_le g0 (gcdL_dvd hz)
  refine ⟨?_, fun z hz => ?_, ?_⟩
  · obtain ⟨z, h1, h2⟩ := h.nz.ex
    exact nonZ_of (List.mem_map.mpr ⟨z, h1, rfl⟩) ((dv z (List.mem_append_left _ h1)).2 h2)
  · obtain ⟨y, hy, rfl⟩ := List.mem_map.mp hz
    exact Nat.lt_of_le_of_lt (dv y (List.mem_append_left _ hy)).1 (h.ns y hy)
  · exact Nat.lt_of_le_of_lt (dv q.2 (List.mem_append_right _ List.mem_cons_self)).1 h.wl
theorem QOk.neg {q : List Int × Int} (h : QOk q) : QOk (negU q) := by
  refine ⟨?_, fun z hz => ?_, by show (-q.2).natAbs < _; rw [Int.natAbs_neg]; exact h.wl⟩
  · obtain ⟨z, h1, h2⟩ := h.nz.ex
    exact nonZ_of (List.mem_map.mpr ⟨z, h1, rfl⟩) (by omega)
  · obtain ⟨y, hy, rfl⟩ := List.mem_map.mp hz
    rw [Int.natAbs_neg]
    exact h.ns y hy
/-! ### the flat normal form -/
theorem zlead_cons (z : Int) (r : List Int) : lead (z :: r) = if z = 0 then lead r else z := by
  unfold lead firstNZ
  rw [List.findIdx_cons]
  by_cases h : z = 0
  · rw [if_pos h, h]
    simp
  · rw [if_neg h]
    simp [h]
theorem znonZ_tail {z : Int} {r : List Int} (h : NonZ (z :: r)) (e : z = 0) : NonZ r := by
  obtain ⟨y, hy, ny⟩ := h.ex
  rcases List.mem_cons.mp hy with z1 | z1
  · exact absurd (z1.trans e) ny
  · exact nonZ_of z1 ny
theorem zlead_app : ∀ {a : List Int} (b : List Int), NonZ a → lead (a ++ b) = lead a
  | [], _, h => absurd (show false = true from h) Bool.false_ne_true
  | z :: r, b, h => by
    rw [List.cons_append, zlead_cons, zlead_cons]
    by_cases hz : z = 0
    · rw [if_pos hz, if_pos hz]
      exact zlead_app b (znonZ_tail h hz)
    · rw [if_neg hz, if_neg hz]
theorem zlead_map (f : Int → Int) : ∀ {a : List Int}, NonZ a → (∀ z, z ∈ a → (f z = 0 ↔ z = 0)) → lead (a.map f) = f (lead a)
  | [], h, _ => absurd (show false = true from h) Bool.false_ne_true
  | z :: r, h, k => by
    rw [List.map_cons, zlead_cons, zlead_cons]
    have kz := k z List.mem_cons_self
    by_cases hz : z = 0
    · rw [if_pos hz, if_pos (kz.mpr hz)]
      exact zlead_map f (znonZ_tail h hz) fun y hy => k y (List.mem_cons_of_mem _ hy)
    · rw [if_neg hz, if_neg (fun e => hz (kz.mp e))]
/-- exact division -/
theorem zex_div {z : Int} {g : Nat} (hg : 0 < g) (h : g ∣ z.natAbs) : z.fdiv (g : Int) = z / (g : Int) ∧ z.fdiv (-(g : Int)) = -(z / (g : Int)) ∧ (z / (g : Int) = 0 ↔ z = 0) ∧ (0 < z / (g : Int) ↔ 0 < z) := by
  obtain ⟨t, e⟩ := Int.ofNat_dvd_left.mpr h
  have gp : (0 : Int) < (g : Int) := by omega
  have e2 : z / (g : Int) = t := by rw [e]; exact Int.mul_ediv_cancel_left _ (by omega)
  rw [e2]
  refine ⟨by rw [Int.fdiv_eq_ediv_of_nonneg _ (Int.le_of_lt gp), e2], ?_, ?_, ?_⟩
  · have : z = (-(g : Int)) * (-t) := by rw [e, Int.neg_mul_neg]
    rw [this]
    exact Int.mul_fdiv_cancel_left _ (by omega)
  · constructor
    · intro q
      rw [e, q, Int.mul_zero]
    · intro q
      rw [e] at q
      rcases Int.mul_eq_zero.mp q with q | q
      · omega
      · exact q
  · constructor
    · intro q
      rw [e]
      exact Int.mul_pos gp q
    · intro q
      rw [e] at q
      exact Int.pos_of_mul_pos_right q gp
/-- what the integers of a question are divided by -/
def nfC (q : List Int × Int) : Int := if lead (q.1 ++ [q.2]) < 0 then -((gcdL (q.1 ++ [q.2]) : Nat) : Int) else ((gcdL (q.1 ++ [q.2]) : Nat) : Int)
theorem nf_flat {q : List Int × Int} (h : NonZ q.1) : (nfU q).1 ++ [(nfU q).2] = (q.1 ++ [q.2]).map (fun z => z.fdiv (nfC q)) ∧ nfC q ≠ 0 := by
  obtain ⟨y, hy, ny⟩ := h.ex
  have g0 : 0 < gcdL (q.1 ++ [q.2]) := gcdL_pos (List.mem_append_left _ hy) ny
  have dv : ∀ z, z ∈ q.1 ++ [q.2] → gcdL (q.1 ++ [q.2]) ∣ z.natAbs := fun z hz => gcdL_dvd hz
  have el : lead (q.1 ++ [q.2]) = lead q.1 := zlead_app _ h
  obtain ⟨k1, k2, _⟩ := firstNZ_at h
  have lm : lead q.1 ∈ q.1 := List.mem_of_getElem? k1
  have ed : lead (divU q).1 = lead q.1 / ((gcdL (q.1 ++ [q.2]) : Nat) : Int) := zlead_map _ h fun z hz => (zex_div g0 (dv z (List.mem_append_left _ hz))).2.2.1
  have sg := (zex_div g0 (dv _ (List.mem_append_left _ lm))).2.2.2
  rw [← ed] at sg
  by_cases hn : lead q.1 < 0
  · have ec : nfC q = -((gcdL (q.1 ++ [q.2]) : Nat) : Int) := by unfold nfC; rw [el, if_pos hn]
    have en : nfU q = negU (divU q) := if_neg fun z => by have := sg.mp z; omega
    refine ⟨?_, by rw [ec]; omega⟩
    rw [en, ec]
    have e1 : (negU (divU q)).1 ++ [(negU (divU q)).2] = (q.1 ++ [q.2]).map (fun z => -(z / ((gcdL (q.1 ++ [q.2]) : Nat) : Int))) := by
      unfold negU divU
      dsimp only
      rw [List.map_map, List.map_append, List.map_singleton]
      rfl
    rw [e1]
    exact List.map_congr_left fun z hz => ((zex_div g0 (dv z hz)).2.1).symm
  · have ec : nfC q = ((gcdL (q.1 ++ [q.2]) : Nat) : Int) := by unfold nfC; rw [el, if_neg hn]
    have en : nfU q = divU q := if_pos (sg.mpr (by omega))
    refine ⟨?_, by rw [ec]; omega⟩
    rw [en, ec]
    have e1 : (divU q).1 ++ [(divU q).2] = (q.1 ++ [q.2]).map (fun z => z / ((gcdL (q.1 ++ [q.2]) : Nat) : Int)) := by
      unfold divU
      dsimp only
      rw [List.map_append, List.map_singleton]
    rw [e1]
    exact List.map_congr_left fun z hz => ((zex_div g0 (dv z hz)).1).symm
theorem znonZ_app {a : List Int} (b : List Int) (h : NonZ a) : NonZ (a ++ b) := by
  obtain ⟨y, hy, ny⟩ := h.ex
  exact nonZ_of (List.mem_append_left _ hy) ny
end SB
namespace SB
theorem pair_ok {up lo : Int} (h : lo ≠ 0) : ∀ g c : Int, ((Nat.gcd up.natAbs lo.natAbs : Nat) : Int) = g → c = (if lo < 0 then -g else g) →
    Lo (up.fdiv c, lo.fdiv c) ∧ Eqr (up.fdiv c, lo.fdiv c) up lo ∧ (up.fdiv c).natAbs ≤ up.natAbs ∧ (lo.fdiv c).natAbs ≤ lo.natAbs ∧ c ≠ 0 ∧ c.natAbs ≤ lo.natAbs := by
  intro g c hg hc
  have d1 : g ∣ up := by rw [← hg]; exact gcd_dvd_l up lo
  have d2 : g ∣ lo := by rw [← hg]; exact gcd_dvd_r up lo
  by_cases hn : lo < 0
  · rw [if_pos hn] at hc
    subst hc
    have e1 : up.fdiv (-g) = (-up) / g := by
      rw [Int.fdiv_eq_ediv_of_dvd (Int.neg_dvd.mpr d1), Int.ediv_neg, Int.neg_ediv_of_dvd d1]
    have e2 : lo.fdiv (-g) = (-lo) / g := by
      rw [Int.fdiv_eq_ediv_of_dvd (Int.neg_dvd.mpr d2), Int.ediv_neg, Int.neg_ediv_of_dvd d2]
    obtain ⟨a1, a2, a3, a4, a5, a6⟩ := low_ok (t := -up) (b := -lo) (by omega) g (by rw [Int.natAbs_neg, Int.natAbs_neg]; exact hg)
    rw [e1, e2]
    refine ⟨a1, ?_, by rw [Int.natAbs_neg] at a3; exact a3, by rw [Int.natAbs_neg] at a4; exact a4, by omega, by rw [Int.natAbs_neg] at a6; rw [Int.natAbs_neg]; exact a6⟩
    unfold Eqr at *
    dsimp only at *
    rw [Int.mul_neg, Int.neg_mul] at a2
    omega
  · rw [if_neg hn] at hc
    subst hc
    obtain ⟨a1, a2, a3, a4, a5, a6⟩ := low_ok (t := up) (b := lo) (by omega) c hg
    rw [Int.fdiv_eq_ediv_of_nonneg _ (by omega), Int.fdiv_eq_ediv_of_nonneg _ (by omega)]
    exact ⟨a1, a2, a3, a4, by omega, a6⟩
theorem abs_nat (i : Int) : (if i < 0 then -i else i) = ((i.natAbs : Nat) : Int) := by
  by_cases h : i < 0
  · rw [if_pos h]; omega
  · rw [if_neg h]; omega
end SB
namespace SB
theorem lead_cons (z : Int) (r : List Int) : lead (z :: r) = if z = 0 then lead r else z := by
  unfold lead firstNZ
  rw [List.findIdx_cons]
  by_cases h : z = 0
  · rw [if_pos h, show decide (z ≠ 0) = false from decide_eq_false (fun n => n h)]
    rfl
  · rw [if_neg h, show decide (z ≠ 0) = true from decide_eq_true h]
    rfl
theorem lead_nil : lead [] = 0 := rfl
theorem lead_map {f : Int → Int} (h0 : f 0 = 0) : ∀ {ns : List Int}, (∀ z, z ∈ ns → z ≠ 0 → f z ≠ 0) → lead (ns.map f) = f (lead ns)
  | [], _ => by rw [List.map_nil, lead_nil, h0]
  | z :: r, h => by
    rw [List.map_cons, lead_cons, lead_cons]
    by_cases hz : z = 0
    · rw [if_pos hz, hz, h0, if_pos rfl]
      exact lead_map h0 fun y hy => h y (List.mem_cons_of_mem _ hy)
    · rw [if_neg hz, if_neg (h z List.mem_cons_self hz)]
theorem lead_filter : ∀ {ns t : List Int}, NonZ ns → ((ns ++ t).filter fun z => decide (z ≠ 0))[0]? = some (lead ns)
  | [], _, h => absurd (show false = true from h) Bool.false_ne_true
  | z :: r, t, h => by
    rw [lead_cons, List.cons_append]
    by_cases hz : z = 0
    · rw [if_pos hz, List.filter_cons_of_neg (by simp [hz])]
      refine lead_filter ?_
      have h2 : (decide (z ≠ 0) || r.any fun z => decide (z ≠ 0)) = true := h
      rw [show decide (z ≠ 0) = false from decide_eq_false (fun n => n hz), Bool.false_or] at h2
      exact h2
    · rw [if_neg hz, List.filter_cons_of_pos (by simp [hz])]
      rfl
/-- a question's form in one row -/
def grU (q : List Int × Int) : List Int := (nfU q).1 ++ [(nfU q).2]
theorem grU_inj {p q : List Int × Int} (h : grU p = grU q) : nfU p = nfU q := by
  unfold grU at h
  obtain ⟨h1, h2⟩ := List.append_inj' h rfl
  exact Prod.ext h1 (by simpa using h2)
theorem neg_div {x : Int} {g : Nat} (h : g ∣ x.natAbs) : (-x) / (g : Int) = -(x / (g : Int)) := Int.neg_ediv_of_dvd (Int.ofNat_dvd_left.mpr h)
theorem grU_eq {q : List Int × Int} (h : QOk q) : grU q = (q.1 ++ [q.2]).map fun x => if 0 < lead q.1 then x / ((gcdL (q.1 ++ [q.2]) : Nat) : Int) else (-x) / ((gcdL (q.1 ++ [q.2]) : Nat) : Int) := by
  obtain ⟨g0, _⟩ := h.g
  generalize hG : gcdL (q.1 ++ [q.2]) = G at *
  have dv : ∀ z, z ∈ q.1 ++ [q.2] → G ∣ z.natAbs := fun z hz => by rw [← hG]; exact gcdL_dvd hz
  have e1 : divU q = (q.1.map fun z => z / (G : Int), q.2 / (G : Int)) := by unfold divU; rw [hG]
  have gp : (0 : Int) < (G : Int) := by omega
  have el : lead (q.1.map fun z => z / (G : Int)) = lead q.1 / (G : Int) := lead_map (f := fun z => z / (G : Int)) (Int.zero_ediv _) fun z hz n => (div_le g0 (dv z (List.mem_append_left _ hz))).2 n
  have sg : 0 < lead q.1 / (G : Int) ↔ 0 < lead q.1 := by
    have hm : lead q.1 ∈ q.1 := List.mem_of_getElem? (firstNZ_at h.nz).1
    obtain ⟨t, et⟩ := Int.ofNat_dvd_left.mpr (dv _ (List.mem_append_left _ hm))
    rw [et, Int.mul_ediv_cancel_left _ (by omega)]
    constructor
    · exact fun z => Int.mul_pos gp z
    · intro z
      rcases Int.lt_trichotomy t 0 with y | y | y
      · have := Int.mul_neg_of_pos_of_neg gp y
        omega
      · rw [y, Int.mul_zero] at z
        omega
      · exact y
  unfold grU nfU
  rw [e1]
  dsimp only
  rw [el]
  by_cases hc : 0 < lead q.1
  · rw [if_pos (sg.mpr hc)]
    simp only [if_pos hc, List.map_append, List.map_cons, List.map_nil]
  · rw [if_neg (fun z => hc (sg.mp z))]
    simp only [if_neg hc, List.map_append, List.map_cons, List.map_nil, negU, List.map_map]
    rw [neg_div (dv q.2 (List.mem_append_right _ List.mem_cons_self))]
    refine congrArg (· ++ _) (List.map_congr_left fun z hz => ?_)
    exact (neg_div (dv z (List.mem_append_left _ hz))).symm
end SB
namespace SB
theorem gcdF_neg : ∀ (l : List Int) (c : Nat), (l.map fun z => -z).foldl (fun c z => Nat.gcd c z.natAbs) c = l.foldl (fun c z => Nat.gcd c z.natAbs) c
  | [], _ => rfl
  | z :: r, c => by
    rw [List.map_cons, List.foldl_cons, List.foldl_cons, Int.natAbs_neg]
    exact gcdF_neg r _
theorem gcdL_neg (l : List Int) : gcdL (l.map fun z => -z) = gcdL l := gcdF_neg l 0
theorem lead_neg (ns : List Int) : lead (ns.map fun z => -z) = -lead ns := lead_map (f := fun z => -z) rfl fun z _ h => by omega
theorem nfU_neg {q : List Int × Int} (h : QOk q) : nfU (negU q) = nfU q := by
  refine grU_inj ?_
  obtain ⟨_, n0, _⟩ := firstNZ_at h.nz
  rw [grU_eq h, grU_eq h.neg]
  have e : (negU q).1 ++ [(negU q).2] = (q.1 ++ [q.2]).map fun z => -z := by
    rw [List.map_append]
    rfl
  have el : lead (negU q).1 = -lead q.1 := lead_neg q.1
  rw [e, gcdL_neg, List.map_map, el]
  refine List.map_congr_left fun x _ => ?_
  show (if 0 < -lead q.1 then (-x) / _ else (-(-x)) / _) = _
  by_cases c : 0 < lead q.1
  · rw [if_pos c, if_neg (by omega), Int.neg_neg]
  · rw [if_neg c, if_pos (by omega)]
theorem foldU_neg : ∀ (ns : List Int) (us : List (Int × Int)) (g : Int × Int), sumU (ns.map fun z => -z) us (-g.1, g.2) = (-(sumU ns us g).1, (sumU ns us g).2)
  | [], _, _ => rfl
  | _ :: _, [], _ => rfl
  | z :: r, u :: t, g => by
    have h := foldU_neg r t (stepU g (z, u))
    have e : stepU (-g.1, g.2) (-z, u) = (-(stepU g (z, u)).1, (stepU g (z, u)).2) := by
      unfold stepU fPlus fTimes
      dsimp only
      refine Prod.ext ?_ rfl
      dsimp only
      grind
    show sumU (r.map fun z => -z) t (stepU (-g.1, g.2) (-z, u)) = _
    rw [e, h]
    rfl
theorem worth_neg (q : List Int × Int) (us : List (Int × Int)) : (worthU (negU q) us).1 = -(worthU q us).1 := by
  have h := foldU_neg q.1 us (-q.2, 1)
  have : worthU (negU q) us = sumU (q.1.map fun z => -z) us (-(-q.2, (1:Int)).1, (-q.2, (1:Int)).2) := rfl
  rw [this, h]
  rfl
theorem set_take {α : Type} {l : List α} {i : Nat} (a : α) (h : i < l.length) : (l.take i ++ [a]) ++ l.drop (i + 1) = l.set i a := by
  rw [List.set_eq_take_append_cons_drop, if_pos h, List.append_assoc]
  rfl
end SB
namespace SB
/-! ### numbers as fractions -/
def qv (p : Int × Int) : Rat := (p.1 : Rat) / (p.2 : Rat)
theorem rpos {b : Int} (h : 0 < b) : (0 : Rat) < (b : Rat) := Rat.intCast_pos.mpr h
theorem rne {b : Int} (h : 0 < b) : (b : Rat) ≠ 0 := fun e => by
  have := Rat.intCast_eq_zero_iff.mp e
  omega
theorem rne0 {b : Int} (h : b ≠ 0) : (b : Rat) ≠ 0 := fun e => h (Rat.intCast_eq_zero_iff.mp e)
theorem qv_mul {p : Int × Int} (h : 0 < p.2) : qv p * (p.2 : Rat) = (p.1 : Rat) := by
  have := rne h
  unfold qv
  grind
theorem qv_of {p : Int × Int} {x : Rat} (h : 0 < p.2) (e : x * (p.2 : Rat) = (p.1 : Rat)) : qv p = x := by
  have := rne h
  unfold qv
  grind
theorem qv_eqr {r : Int × Int} {N D : Int} (e : Eqr r N D) (h : 0 < r.2) (hD : 0 < D) : qv r = qv (N, D) := by
  refine qv_of h ?_
  have h1 := qv_mul (p := (N, D)) hD
  have e : r.1 * D = N * r.2 := e
  have e2 : (r.1 : Rat) * (D : Rat) = (N : Rat) * (r.2 : Rat) := by rw [← Rat.intCast_mul, e, Rat.intCast_mul]
  have := rne hD
  have h1 : qv (N, D) * (D : Rat) = (N : Rat) := h1
  grind
theorem qv_eqr' {r p : Int × Int} (e : Eqr r p.1 p.2) (h : 0 < r.2) (hD : 0 < p.2) : qv r = qv p := qv_eqr e h hD
theorem qv_inj {p q : Int × Int} (hp : Lo p) (hq : Lo q) (e : qv p = qv q) : p = q := by
  have h1 := qv_mul hp.1
  have h2 := qv_mul hq.1
  have e2 : (p.1 : Rat) * (q.2 : Rat) = (q.1 : Rat) * (p.2 : Rat) := by rw [e] at h1; grind
  rw [← Rat.intCast_mul, ← Rat.intCast_mul] at e2
  exact lo_uniq hp hq (Rat.intCast_inj.mp e2)
theorem qv_plus {p q : Int × Int} (hp : 0 < p.2) (hq : 0 < q.2) : qv (fPlus p q) = qv p + qv q := by
  refine qv_of (Int.mul_pos hp hq) ?_
  have h1 := qv_mul hp
  have h2 := qv_mul hq
  show _ * ((p.2 * q.2 : Int) : Rat) = ((p.1 * q.2 + q.1 * p.2 : Int) : Rat)
  rw [Rat.intCast_add, Rat.intCast_mul, Rat.intCast_mul, Rat.intCast_mul]
  grind
theorem qv_minus {p q : Int × Int} (hp : 0 < p.2) (hq : 0 < q.2) : qv (fMinus p q) = qv p - qv q := by
  refine qv_of (Int.mul_pos hp hq) ?_
  have h1 := qv_mul hp
  have h2 := qv_mul hq
  show _ * ((p.2 * q.2 : Int) : Rat) = ((p.1 * q.2 - q.1 * p.2 : Int) : Rat)
  rw [Rat.intCast_sub, Rat.intCast_mul, Rat.intCast_mul, Rat.intCast_mul]
  grind
theorem qv_times {p q : Int × Int} (hp : 0 < p.2) (hq : 0 < q.2) : qv (fTimes p q) = qv p * qv q := by
  refine qv_of (Int.mul_pos hp hq) ?_
  have h1 := qv_mul hp
  have h2 := qv_mul hq
  show _ * ((p.2 * q.2 : Int) : Rat) = ((p.1 * q.1 : Int) : Rat)
  rw [Rat.intCast_mul, Rat.intCast_mul]
  grind
theorem qv_int (z : Int) : qv (z, 1) = (z : Rat) := qv_of Int.one_pos (by show _ * ((1 : Int) : Rat) = (z : Rat); rw [Rat.intCast_one]; grind)
theorem qv_pos {p : Int × Int} (h : 0 < p.2) : 0 < qv p ↔ 0 < p.1 := by
  have h1 := qv_mul h
  have h2 := rpos h
  rw [← Rat.intCast_pos, ← h1]
  exact (Rat.mul_pos_iff_of_pos_right h2).symm
theorem qv_neg {p : Int × Int} (h : 0 < p.2) : qv p < 0 ↔ p.1 < 0 := by
  have h1 := qv_pos (p := (-p.1, p.2)) h
  have e : qv (-p.1, p.2) = -qv p := qv_of h (by
    have := qv_mul h
    show -qv p * (p.2 : Rat) = ((-p.1 : Int) : Rat)
    rw [Rat.intCast_neg]
    grind)
  rw [e] at h1
  have h1 : 0 < -qv p ↔ 0 < -p.1 := h1
  constructor
  · intro z
    have := h1.mp (by grind)
    omega
  · intro z
    have := h1.mpr (by omega)
    grind
/-- the sign of a fraction -/
def sgQ (x : Rat) : Int := if 0 < x then 1 else if x < 0 then -1 else 0
theorem sgQ_pos {x : Rat} (h : 0 < x) : sgQ x = 1 := if_pos h
theorem sgQ_neg {x : Rat} (h : x < 0) : sgQ x = -1 := by
  unfold sgQ
  rw [if_neg (by grind), if_pos h]
theorem sgQ_zero : sgQ 0 = 0 := by decide +kernel
theorem sgQ_mul {x c : Rat} (h : 0 < c) : sgQ (c * x) = sgQ x := by
  by_cases h1 : 0 < x
  · rw [sgQ_pos h1, sgQ_pos (Rat.mul_pos h h1)]
  · by_cases h2 : x < 0
    · have := Rat.mul_pos h (show 0 < -x by grind)
      rw [sgQ_neg h2, sgQ_neg (by grind)]
    · have : x = 0 := by grind
      rw [this, Rat.mul_zero]
/-- a sum of sides times numbers -/
def dotQ : List Int → List Rat → Rat
  | n :: r, x :: t => (n : Rat) * x + dotQ r t
  | _, _ => 0
theorem sumU_qv : ∀ (ns : List Int) (us : List (Int × Int)) (g : Int × Int), 0 < g.2 → (∀ u, u ∈ us → 0 < u.2) → qv (sumU ns us g) = qv g + dotQ ns (us.map qv)
  | [], us, g, _, _ => by
    show qv g = qv g + dotQ [] _
    cases us <;> (unfold dotQ; grind)
  | _ :: _, [], g, _, _ => by
    show qv g = qv g + 0
    grind
  | n :: r, u :: t, g, hg, hu => by
    have h2 := hu u List.mem_cons_self
    have h := sumU_qv r t (stepU g (n, u)) (stepU_pos hg h2) fun v hv => hu v (List.mem_cons_of_mem _ hv)
    show qv (sumU r t (stepU g (n, u))) = qv g + ((n : Rat) * qv u + dotQ r (t.map qv))
    have e : qv (stepU g (n, u)) = qv g + (n : Rat) * qv u := by
      show qv (fPlus g (fTimes (n, 1) u)) = _
      rw [qv_plus hg (Int.mul_pos Int.one_pos h2), qv_times Int.one_pos h2, qv_int]
    rw [h, e]
    grind
theorem worth_qv {q : List Int × Int} {us : List (Int × Int)} (h : ∀ u, u ∈ us → 0 < u.2) : qv (worthU q us) = dotQ q.1 (us.map qv) - (q.2 : Rat) := by
  unfold worthU
  rw [sumU_qv _ _ _ Int.one_pos h, qv_int, Rat.intCast_neg]
  grind
/-- on the way from xs to ys -/
def mixQ (s : Rat) (xs ys : List Rat) : List Rat := List.zipWith (fun x y => x + s * (y - x)) xs ys
theorem dot_mix (s : Rat) : ∀ (ns : List Int) (xs ys : List Rat), xs.length = ys.length → dotQ ns (mixQ s xs ys) = dotQ ns xs + s * (dotQ ns ys - dotQ ns xs)
  | [], xs, ys, _ => by
    have h : ∀ l : List Rat, dotQ [] l = 0 := fun l => by cases l <;> rfl
    rw [h, h, h]
    grind
  | n :: r, [], [], _ => by
    show (0 : Rat) = 0 + s * (0 - 0)
    grind
  | n :: r, x :: xs, y :: ys, h => by
    have := dot_mix s r xs ys (by simpa using h)
    show (n : Rat) * (x + s * (y - x)) + dotQ r (mixQ s xs ys) = ((n : Rat) * x + dotQ r xs) + s * (((n : Rat) * y + dotQ r ys) - ((n : Rat) * x + dotQ r xs))
    rw [this]
    grind
theorem mix_at {s : Rat} {xs ys : List Rat} {i : Nat} {x y : Rat} (h : xs[i]? = some x) (k : ys[i]? = some y) : (mixQ s xs ys)[i]? = some (x + s * (y - x)) := by
  unfold mixQ
  rw [List.getElem?_zipWith, h, k]
theorem qvs_inj : ∀ {ps qs : List (Int × Int)}, (∀ p, p ∈ ps → Lo p) → (∀ q, q ∈ qs → Lo q) → ps.map qv = qs.map qv → ps = qs
  | [], [], _, _, _ => rfl
  | [], _ :: _, _, _, e => by cases e
  | _ :: _, [], _, _, e => by cases e
  | p :: r, q :: t, hp, hq, e => by
    rw [List.map_cons, List.map_cons] at e
    obtain ⟨e1, e2⟩ := List.cons.inj e
    rw [qv_inj (hp p List.mem_cons_self) (hq q List.mem_cons_self) e1, qvs_inj (fun x h => hp x (List.mem_cons_of_mem _ h)) (fun x h => hq x (List.mem_cons_of_mem _ h)) e2]
/-- the one's answers, where these are 0 the other's -/
def aheadU (zs ws : List Int) : List Int := List.zipWith (fun z w => if z = 0 then w else z) zs ws
theorem ahead_len {zs ws : List Int} (h : zs.length = ws.length) : (aheadU zs ws).length = zs.length := by
  unfold aheadU
  rw [List.length_zipWith]
  omega
theorem ahead_at {zs ws : List Int} {i : Nat} {z w : Int} (h : zs[i]? = some z) (k : ws[i]? = some w) : (aheadU zs ws)[i]? = some (if z = 0 then w else z) := by
  unfold aheadU
  rw [List.getElem?_zipWith, h, k]
/-- near enough to the one point the answer is the one's, or where this is 0 the other's -/
theorem sg_ahead {a b s : Rat} (h0 : 0 < s) (h1 : s < 1) (hp : 0 < a → b < 0 → s * (a - b) < a) (hn : a < 0 → 0 < b → s * (b - a) < -a) : sgQ (a + s * (b - a)) = if sgQ a = 0 then sgQ b else sgQ a := by
  by_cases a1 : 0 < a
  · rw [sgQ_pos a1, if_neg (by decide)]
    refine sgQ_pos ?_
    by_cases b1 : b < 0
    · have := hp a1 b1
      grind
    · have h2 : 0 < (1 - s) * a := Rat.mul_pos (by grind) a1
      have h3 : 0 ≤ s * b := Rat.mul_nonneg (by grind) (by grind)
      grind
  · by_cases a2 : a < 0
    · rw [sgQ_neg a2, if_neg (by decide)]
      refine sgQ_neg ?_
      by_cases b1 : 0 < b
      · have := hn a2 b1
        grind
      · have h2 : 0 < (1 - s) * (-a) := Rat.mul_pos (by grind) (by grind)
        have h3 : 0 ≤ s * (-b) := Rat.mul_nonneg (by grind) (by grind)
        grind
    · have : a = 0 := by grind
      subst this
      rw [sgQ_zero, if_pos rfl]
      have : (0 : Rat) + s * (b - 0) = s * b := by grind
      rw [this, sgQ_mul h0]
end SB
namespace SB
/-! ### questions with the same noughts; a question moved -/
def scU (k : Int) (q : List Int × Int) : List Int × Int := (q.1.map fun z => k * z, k * q.2)
theorem scU_sc (a b : Int) (q : List Int × Int) : scU a (scU b q) = scU (a * b) q := by
  unfold scU
  refine Prod.ext ?_ ?_
  · show (q.1.map _).map _ = _
    rw [List.map_map]
    refine List.map_congr_left fun z _ => ?_
    show a * (b * z) = a * b * z
    rw [Int.mul_assoc]
  · show a * (b * q.2) = a * b * q.2
    rw [Int.mul_assoc]
theorem scU_cells (k : Int) (q : List Int × Int) : (scU k q).1 ++ [(scU k q).2] = (q.1 ++ [q.2]).map fun z => k * z := by
  rw [List.map_append]
  rfl
theorem gcdF_mul (k : Int) : ∀ (l : List Int) (c : Nat), (l.map fun z => k * z).foldl (fun c z => Nat.gcd c z.natAbs) (k.natAbs * c) = k.natAbs * l.foldl (fun c z => Nat.gcd c z.natAbs) c
  | [], _ => rfl
  | z :: r, c => by
    rw [List.map_cons, List.foldl_cons, List.foldl_cons, Int.natAbs_mul, Nat.gcd_mul_left]
    exact gcdF_mul k r _
theorem gcdL_mul (k : Int) (l : List Int) : gcdL (l.map fun z => k * z) = k.natAbs * gcdL l := gcdF_mul k l 0
theorem nonZ_g {q : List Int × Int} (h : NonZ q.1) : 0 < gcdL (q.1 ++ [q.2]) := by
  obtain ⟨z, h1, h2⟩ := h.ex
  exact gcdL_pos (List.mem_append_left _ h1) h2
theorem NonZ.sc {q : List Int × Int} (h : NonZ q.1) {k : Int} (hk : k ≠ 0) : NonZ (scU k q).1 := by
  obtain ⟨z, h1, h2⟩ := h.ex
  exact nonZ_of (List.mem_map.mpr ⟨z, h1, rfl⟩) (Int.mul_ne_zero hk h2)
theorem divU_sc {k : Int} (hk : 0 < k) {q : List Int × Int} (h : NonZ q.1) : divU (scU k q) = divU q := by
  have g0 := nonZ_g h
  have eg : ((gcdL ((scU k q).1 ++ [(scU k q).2]) : Nat) : Int) = k * ((gcdL (q.1 ++ [q.2]) : Nat) : Int) := by
    rw [scU_cells, gcdL_mul, Int.natCast_mul]
    congr 1
    omega
  unfold divU
  rw [eg]
  refine Prod.ext ?_ ?_
  · show (q.1.map _).map _ = _
    rw [List.map_map]
    refine List.map_congr_left fun z _ => ?_
    show (k * z) / (k * _) = z / _
    rw [Int.mul_ediv_mul_of_pos _ _ hk]
  · show (k * q.2) / (k * _) = q.2 / _
    rw [Int.mul_ediv_mul_of_pos _ _ hk]
/-- what the greatest divisor takes out -/
theorem scU_divU (q : List Int × Int) : scU ((gcdL (q.1 ++ [q.2]) : Nat) : Int) (divU q) = q := by
  unfold scU divU
  refine Prod.ext ?_ ?_
  · show (q.1.map _).map _ = q.1
    rw [List.map_map]
    have : ∀ l : List Int, (∀ z, z ∈ l → z ∈ q.1 ++ [q.2]) → l.map ((fun z => ((gcdL (q.1 ++ [q.2]) : Nat) : Int) * z) ∘ fun z => z / ((gcdL (q.1 ++ [q.2]) : Nat) : Int)) = l := fun l => by
      induction l with
      | nil => exact fun _ => rfl
      | cons z r ih =>
        intro h
        rw [List.map_cons, ih fun y hy => h y (List.mem_cons_of_mem _ hy)]
        congr 1
        exact Int.mul_ediv_cancel' (Int.ofNat_dvd_left.mpr (gcdL_dvd (h z List.mem_cons_self)))
    exact this q.1 fun z h => List.mem_append_left _ h
  · exact Int.mul_ediv_cancel' (Int.ofNat_dvd_left.mpr (gcdL_dvd (List.mem_append_right _ List.mem_cons_self)))
theorem divU_same {p q : List Int × Int} {u v : Int} (hu : 0 < u) (hv : 0 < v) (hp : NonZ p.1) (hq : NonZ q.1) (e : scU v p = scU u q) : divU p = divU q := by
  rw [← divU_sc hv hp, e, divU_sc hu hq]
theorem nonZ_div {q : List Int × Int} (h : NonZ q.1) : NonZ (divU q).1 := by
  have g0 := nonZ_g h
  obtain ⟨z, h1, h2⟩ := h.ex
  exact nonZ_of (List.mem_map.mpr ⟨z, h1, rfl⟩) ((div_le g0 (gcdL_dvd (List.mem_append_left _ h1))).2 h2)
theorem negU_sc (q : List Int × Int) : negU q = scU (-1) q := by
  unfold negU scU
  refine Prod.ext (List.map_congr_left fun z _ => ?_) ?_
  · show -z = -1 * z
    omega
  · show -q.2 = -1 * q.2
    omega
/-- the form is a multiple -/
theorem nf_sc {q : List Int × Int} (h : NonZ q.1) : ∃ a : Int, a ≠ 0 ∧ scU a (nfU q) = q := by
  have g0 := nonZ_g h
  unfold nfU
  by_cases c : 0 < lead (divU q).1
  · rw [if_pos c]
    exact ⟨_, by omega, scU_divU q⟩
  · rw [if_neg c, negU_sc]
    refine ⟨-((gcdL (q.1 ++ [q.2]) : Nat) : Int), by omega, ?_⟩
    rw [scU_sc]
    have : -((gcdL (q.1 ++ [q.2]) : Nat) : Int) * -1 = ((gcdL (q.1 ++ [q.2]) : Nat) : Int) := by omega
    rw [this, scU_divU]
theorem nf_of {p q : List Int × Int} (hp : NonZ p.1) (hq : NonZ q.1) (e : nfU p = nfU q) : ∃ u v : Int, u ≠ 0 ∧ v ≠ 0 ∧ scU v p = scU u q := by
  obtain ⟨a, a0, ea⟩ := nf_sc hp
  obtain ⟨b, b0, eb⟩ := nf_sc hq
  refine ⟨a, b, a0, b0, ?_⟩
  rw [← ea, e, scU_sc]
  conv => rhs; rw [← eb, scU_sc]
  rw [Int.mul_comm]
theorem nf_same {p q : List Int × Int} (hp : QOk p) (hq : QOk q) {u v : Int} (u0 : u ≠ 0) (v0 : v ≠ 0) (e : scU v p = scU u q) : nfU p = nfU q := by
  -- both factors above 0, perhaps with a question turned
  have key : ∀ {p q : List Int × Int} {u v : Int}, NonZ p.1 → NonZ q.1 → 0 < u → 0 < v → scU v p = scU u q → nfU p = nfU q := fun {p q u v} hp hq hu hv e => by
    unfold nfU
    rw [divU_same hu hv hp hq e]
  have neg : ∀ {p q : List Int × Int} {u v : Int}, scU v p = scU u q → scU (-v) p = scU (-u) q := fun {p q u v} e => by
    have := congrArg (scU (-1)) e
    rw [scU_sc, scU_sc] at this
    rw [show -v = -1 * v by omega, show -u = -1 * u by omega]
    exact this
  have pos : ∀ {p q : List Int × Int} {u v : Int}, QOk p → QOk q → u ≠ 0 → 0 < v → scU v p = scU u q → nfU p = nfU q := fun {p q u v} hp hq hu hv e => by
    by_cases c : 0 < u
    · exact key hp.nz hq.nz c hv e
    · rw [← nfU_neg hq]
      refine key hp.nz hq.neg.nz (u := -u) (v := v) (by omega) hv ?_
      rw [negU_sc, scU_sc, e]
      congr 1
      omega
  by_cases c : 0 < v
  · exact pos hp hq u0 c e
  · exact pos hp hq (u := -u) (v := -v) (by omega) (by omega) (neg e)
/-- in lowest terms -/
def lowU (p : Int × Int) : Int × Int := (p.1 / ((Nat.gcd p.1.natAbs p.2.natAbs : Nat) : Int), p.2 / ((Nat.gcd p.1.natAbs p.2.natAbs : Nat) : Int))
theorem lowU_ok {p : Int × Int} (h : 0 < p.2) : Lo (lowU p) ∧ Eqr (lowU p) p.1 p.2 := by
  obtain ⟨a, b, _⟩ := low_ok (t := p.1) h _ rfl
  exact ⟨a, b⟩
theorem lowU_is {p r : Int × Int} (h : 0 < p.2) (hr : Lo r) (e : Eqr r p.1 p.2) : r = lowU p := by
  obtain ⟨a, b⟩ := lowU_ok h
  refine qv_inj hr a ?_
  rw [qv_eqr' e hr.1 h, qv_eqr' b a.1 h]
/-- what the sides come to at a point, and the wall -/
def shiftU (q : List Int × Int) (us : List (Int × Int)) : Int × Int := lowU (fPlus (sumU q.1 us (0, 1)) (q.2, 1))
def rawU (q : List Int × Int) (r : Int × Int) : List Int × Int := (q.1.map fun z => z * r.2, r.1)
def movU (q : List Int × Int) (us : List (Int × Int)) : List Int × Int := divU (rawU q (shiftU q us))
theorem shift_pos {q : List Int × Int} {us : List (Int × Int)} (h : ∀ u, u ∈ us → Lo u) : 0 < (fPlus (sumU q.1 us (0, 1)) (q.2, 1)).2 := by
  refine Int.mul_pos (sumU_pos (by show (0 : Int) < 1; decide) fun p hp => ?_) Int.one_pos
  exact (h p.2 (List.of_mem_zip (a := p.1) (b := p.2) hp).2).1
theorem shift_lo {q : List Int × Int} {us : List (Int × Int)} (h : ∀ u, u ∈ us → Lo u) : Lo (shiftU q us) := (lowU_ok (shift_pos h)).1
theorem shift_qv {q : List Int × Int} {us : List (Int × Int)} (h : ∀ u, u ∈ us → Lo u) : qv (shiftU q us) = dotQ q.1 (us.map qv) + (q.2 : Rat) := by
  have p := shift_pos (q := q) h
  obtain ⟨a, b⟩ := lowU_ok p
  have h0 : 0 < (sumU q.1 us (0, 1)).2 := sumU_pos (by show (0 : Int) < 1; decide) fun p hp => (h p.2 (List.of_mem_zip (a := p.1) (b := p.2) hp).2).1
  show qv (lowU _) = _
  rw [qv_eqr' b a.1 p, qv_plus h0 Int.one_pos, sumU_qv _ _ _ Int.one_pos fun u hu => (h u hu).1, qv_int, qv_int, Rat.intCast_zero]
  grind
theorem raw_nz {q : List Int × Int} {r : Int × Int} (h : NonZ q.1) (hr : 0 < r.2) : NonZ (rawU q r).1 := by
  obtain ⟨z, h1, h2⟩ := h.ex
  exact nonZ_of (List.mem_map.mpr ⟨z, h1, rfl⟩) (Int.mul_ne_zero h2 (by omega))
theorem dot_sc (k : Int) : ∀ (ns : List Int) (xs : List Rat), dotQ (ns.map fun z => k * z) xs = (k : Rat) * dotQ ns xs
  | [], _ => by
    show dotQ [] _ = _ * dotQ [] _
    have h : ∀ l : List Rat, dotQ [] l = 0 := fun l => by cases l <;> rfl
    rw [h]
    grind
  | _ :: _, [] => by
    show (0 : Rat) = _ * 0
    grind
  | n :: r, x :: t => by
    show ((k * n : Int) : Rat) * x + dotQ (r.map _) t = (k : Rat) * ((n : Rat) * x + dotQ r t)
    rw [dot_sc k r t, Rat.intCast_mul]
    grind
/-- moved questions with the same noughts come of such -/
theorem mov_nf {p q : List Int × Int} {us : List (Int × Int)} (hp : QOk p) (hq : QOk q) (h : ∀ u, u ∈ us → Lo u) (e : nfU (movU p us) = nfU (movU q us)) : nfU p = nfU q := by
  have lp := shift_lo (q := p) h
  have lq := shift_lo (q := q) h
  have vp := shift_qv (q := p) h
  have vq := shift_qv (q := q) h
  generalize hrp : shiftU p us = rp at *
  generalize hrq : shiftU q us = rq at *
  have np := raw_nz (r := rp) hp.nz lp.1
  have nq := raw_nz (r := rq) hq.nz lq.1
  have ep : movU p us = divU (rawU p rp) := by unfold movU; rw [hrp]
  have eq : movU q us = divU (rawU q rq) := by unfold movU; rw [hrq]
  rw [ep, eq] at e
  obtain ⟨u, v, u0, v0, e2⟩ := nf_of (nonZ_div np) (nonZ_div nq) e
  have gp := nonZ_g np
  have gq := nonZ_g nq
  have sp := scU_divU (rawU p rp)
  have sq := scU_divU (rawU q rq)
  generalize ((gcdL ((rawU p rp).1 ++ [(rawU p rp).2]) : Nat) : Int) = a at sp
  generalize ((gcdL ((rawU q rq).1 ++ [(rawU q rq).2]) : Nat) : Int) = b at sq
  have a0 : a ≠ 0 := fun z => by
    rw [z] at sp
    obtain ⟨y, h1, h2⟩ := np.ex
    rw [← sp] at h1
    obtain ⟨x, _, hx⟩ := List.mem_map.mp h1
    rw [← hx, Int.zero_mul] at h2
    exact h2 rfl
  have b0 : b ≠ 0 := fun z => by
    rw [z] at sq
    obtain ⟨y, h1, h2⟩ := nq.ex
    rw [← sq] at h1
    obtain ⟨x, _, hx⟩ := List.mem_map.mp h1
    rw [← hx, Int.zero_mul] at h2
    exact h2 rfl
  -- the raw ones are multiples of one another
  have e3 : scU (v * b) (rawU p rp) = scU (u * a) (rawU q rq) := by
    rw [← sp, scU_sc]
    conv => rhs; rw [← sq, scU_sc]
    have := congrArg (scU (a * b)) e2
    rw [scU_sc, scU_sc] at this
    rw [show v * b * a = a * b * v by grind, show u * a * b = a * b * u by grind]
    exact this
  have V0 : v * b ≠ 0 := Int.mul_ne_zero v0 b0
  have U0 : u * a ≠ 0 := Int.mul_ne_zero u0 a0
  generalize v * b = V at e3 V0
  generalize u * a = U at e3 U0
  have es : p.1.map (fun z => V * rp.2 * z) = q.1.map fun z => U * rq.2 * z := by
    have h1 : (p.1.map fun z => z * rp.2).map (fun z => V * z) = (q.1.map fun z => z * rq.2).map fun z => U * z := congrArg Prod.fst e3
    rw [List.map_map, List.map_map] at h1
    have c1 : (fun z => V * rp.2 * z) = (fun z => V * z) ∘ fun z => z * rp.2 := funext fun z => by show V * rp.2 * z = V * (z * rp.2); grind
    have c2 : (fun z => U * rq.2 * z) = (fun z => U * z) ∘ fun z => z * rq.2 := funext fun z => by show U * rq.2 * z = U * (z * rq.2); grind
    rw [c1, c2]
    exact h1
  have ew : V * rp.1 = U * rq.1 := congrArg Prod.snd e3
  refine nf_same hp hq (u := U * rq.2) (v := V * rp.2) (Int.mul_ne_zero U0 (by have := lq.1; omega)) (Int.mul_ne_zero V0 (by have := lp.1; omega)) (Prod.ext es ?_)
  show V * rp.2 * p.2 = U * rq.2 * q.2
  have d1 := dot_sc (V * rp.2) p.1 (us.map qv)
  have d2 := dot_sc (U * rq.2) q.1 (us.map qv)
  rw [es, d2] at d1
  have m1 := qv_mul lp.1
  have m2 := qv_mul lq.1
  rw [vp] at m1
  rw [vq] at m2
  have ew2 : (V : Rat) * (rp.1 : Rat) = (U : Rat) * (rq.1 : Rat) := by rw [← Rat.intCast_mul, ew, Rat.intCast_mul]
  rw [Rat.intCast_mul, Rat.intCast_mul] at d1
  refine Rat.intCast_inj.mp ?_
  rw [Rat.intCast_mul, Rat.intCast_mul, Rat.intCast_mul, Rat.intCast_mul]
  grind
end SB
namespace SB
def lineQ (q : List Int × Int) (xs : List Rat) : Rat := dotQ q.1 xs - (q.2 : Rat)
theorem line_sc (k : Int) (q : List Int × Int) (xs : List Rat) : lineQ (scU k q) xs = (k : Rat) * lineQ q xs := by
  have h := dot_sc k q.1 xs
  show dotQ (q.1.map fun z => k * z) xs - ((k * q.2 : Int) : Rat) = (k : Rat) * (dotQ q.1 xs - (q.2 : Rat))
  rw [h, Rat.intCast_mul]
  grind
theorem line_raw (q : List Int × Int) (r : Int × Int) (xs : List Rat) : lineQ (rawU q r) xs = (r.2 : Rat) * dotQ q.1 xs - (r.1 : Rat) := by
  have h := dot_sc r.2 q.1 xs
  have e : (q.1.map fun z => z * r.2) = q.1.map fun z => r.2 * z := List.map_congr_left fun z _ => Int.mul_comm _ _
  show dotQ (q.1.map fun z => z * r.2) xs - (r.1 : Rat) = _
  rw [e, h]
theorem raw_g {q : List Int × Int} {r : Int × Int} (h : NonZ q.1) (hr : 0 < r.2) : ∃ g : Int, 0 < g ∧ scU g (divU (rawU q r)) = rawU q r := by
  have g0 := nonZ_g (raw_nz h hr)
  exact ⟨_, by omega, scU_divU _⟩
/-- a moved question at any point -/
theorem mov_line {q : List Int × Int} {us : List (Int × Int)} (hq : NonZ q.1) (h : ∀ u, u ∈ us → Lo u) : ∃ c : Rat, 0 < c ∧ ∀ xs, lineQ (movU q us) xs = c * (dotQ q.1 xs - dotQ q.1 (us.map qv) - (q.2 : Rat)) := by
  have lo := shift_lo (q := q) h
  have vs := shift_qv (q := q) h
  have e : movU q us = divU (rawU q (shiftU q us)) := rfl
  generalize shiftU q us = r at *
  obtain ⟨g, g0, eg⟩ := raw_g hq lo.1
  have gp := rpos g0
  have gn := rne g0
  have rp := rpos lo.1
  have m := qv_mul lo.1
  rw [vs] at m
  refine ⟨(r.2 : Rat) * (g : Rat)⁻¹, Rat.mul_pos rp (Rat.inv_pos.mpr gp), fun xs => ?_⟩
  have h1 := line_sc g (divU (rawU q r)) xs
  rw [eg, line_raw, ← e] at h1
  have h2 : (g : Rat) * (g : Rat)⁻¹ = 1 := Rat.mul_inv_cancel _ gn
  generalize (g : Rat)⁻¹ = i at h2 ⊢
  grind
def addQ (xs ys : List Rat) : List Rat := List.zipWith (fun x y => x + y) xs ys
theorem dot_add : ∀ (ns : List Int) (xs ys : List Rat), xs.length = ys.length → dotQ ns (addQ xs ys) = dotQ ns xs + dotQ ns ys
  | [], xs, ys, _ => by
    have h : ∀ l : List Rat, dotQ [] l = 0 := fun l => by cases l <;> rfl
    rw [h, h, h]
    grind
  | n :: r, [], [], _ => by
    show (0 : Rat) = 0 + 0
    grind
  | n :: r, x :: xs, y :: ys, h => by
    have := dot_add r xs ys (by simpa using h)
    show (n : Rat) * (x + y) + dotQ r (addQ xs ys) = ((n : Rat) * x + dotQ r xs) + ((n : Rat) * y + dotQ r ys)
    rw [this]
    grind
theorem add_at {xs ys : List Rat} {i : Nat} {x y : Rat} (h : xs[i]? = some x) (k : ys[i]? = some y) : (addQ xs ys)[i]? = some (x + y) := by
  unfold addQ
  rw [List.getElem?_zipWith, h, k]
theorem sg_same {a b s : Rat} (h0 : 0 ≤ s) (h1 : s ≤ 1) (e : sgQ a = sgQ b) : sgQ (a + s * (b - a)) = sgQ a := by
  have key : a + s * (b - a) = (1 - s) * a + s * b := by grind
  rw [key]
  by_cases a1 : 0 < a
  · rw [sgQ_pos a1] at e ⊢
    have b1 : 0 < b := by
      by_cases b1 : 0 < b
      · exact b1
      · unfold sgQ at e
        rw [if_neg b1] at e
        split at e <;> omega
    have h2 : 0 ≤ (1 - s) * a := Rat.mul_nonneg (by grind) (by grind)
    have h3 : 0 ≤ s * b := Rat.mul_nonneg h0 (by grind)
    refine sgQ_pos ?_
    by_cases hs : s = 0
    · subst hs
      grind
    · have : 0 < s * b := Rat.mul_pos (by grind) b1
      grind
  · by_cases a2 : a < 0
    · rw [sgQ_neg a2] at e ⊢
      have b1 : b < 0 := by
        by_cases b1 : b < 0
        · exact b1
        · unfold sgQ at e
          rw [if_neg b1] at e
          split at e <;> omega
      have h2 : 0 ≤ (1 - s) * (-a) := Rat.mul_nonneg (by grind) (by grind)
      have h3 : 0 ≤ s * (-b) := Rat.mul_nonneg h0 (by grind)
      refine sgQ_neg ?_
      by_cases hs : s = 0
      · subst hs
        grind
      · have : 0 < s * (-b) := Rat.mul_pos (by grind) (by grind)
        grind
    · have a0 : a = 0 := by grind
      subst a0
      have b0 : b = 0 := by
        rw [sgQ_zero] at e
        unfold sgQ at e
        split at e
        · omega
        · split at e
          · omega
          · grind
      subst b0
      have : (1 - s) * 0 + s * 0 = (0 : Rat) := by grind
      rw [this]
/-- moved there and back -/
theorem divU_raw1 (q : List Int × Int) : rawU q (q.2, 1) = q := by
  unfold rawU
  refine Prod.ext ?_ rfl
  show (q.1.map fun z => z * 1) = q.1
  have : (fun z : Int => z * 1) = id := funext fun z => Int.mul_one z
  rw [this, List.map_id]
theorem scU_inj {k : Int} (hk : k ≠ 0) {p q : List Int × Int} (e : scU k p = scU k q) : p = q := by
  have inj : ∀ {l m : List Int}, (l.map fun z => k * z) = (m.map fun z => k * z) → l = m := fun {l} => by
    induction l with
    | nil =>
      intro m h
      cases m with
      | nil => rfl
      | cons y t => cases h
    | cons z r ih =>
      intro m h
      cases m with
      | nil => cases h
      | cons y t =>
        rw [List.map_cons, List.map_cons] at h
        obtain ⟨h1, h2⟩ := List.cons.inj h
        rw [Int.eq_of_mul_eq_mul_left hk h1, ih h2]
  exact Prod.ext (inj (congrArg Prod.fst e)) (Int.eq_of_mul_eq_mul_left hk (congrArg Prod.snd e))
theorem mov_zero {q : List Int × Int} {us : List (Int × Int)} (h : ∀ u, u ∈ us → Lo u) (hz : dotQ q.1 (us.map qv) = 0) : movU q us = divU q := by
  have lo := shift_lo (q := q) h
  have vs := shift_qv (q := q) h
  rw [hz] at vs
  have : shiftU q us = (q.2, 1) := qv_inj lo ⟨Int.one_pos, by show Nat.gcd q.2.natAbs 1 = 1; exact Nat.gcd_one_right _⟩ (by rw [vs, qv_int]; grind)
  unfold movU
  rw [this, divU_raw1]
theorem mov_back {q : List Int × Int} {us vs : List (Int × Int)} (hq : NonZ q.1) (h : ∀ u, u ∈ us → Lo u) (k : ∀ u, u ∈ vs → Lo u) (e : dotQ q.1 (vs.map qv) = -dotQ q.1 (us.map qv)) : movU (movU q us) vs = divU q := by
  have lo := shift_lo (q := q) h
  have v1 := shift_qv (q := q) h
  have e1 : movU q us = divU (rawU q (shiftU q us)) := rfl
  generalize shiftU q us = r at *
  obtain ⟨g, g0, eg⟩ := raw_g hq lo.1
  rw [← e1] at eg
  have nm : NonZ (movU q us).1 := by rw [e1]; exact nonZ_div (raw_nz hq lo.1)
  generalize movU q us = p at *
  have lo2 := shift_lo (q := p) k
  have v2 := shift_qv (q := p) k
  have e2 : movU p vs = divU (rawU p (shiftU p vs)) := rfl
  generalize shiftU p vs = t at *
  rw [e2]
  have m1 := qv_mul lo.1
  have m2 := qv_mul lo2.1
  rw [v1] at m1
  rw [v2] at m2
  have gn := rne g0
  -- g times what p's sides come to
  have d1 := dot_sc g p.1 (vs.map qv)
  have s1 : (p.1.map fun z => g * z) = q.1.map fun z => z * r.2 := congrArg Prod.fst eg
  have w1 : g * p.2 = r.1 := congrArg Prod.snd eg
  have d2 := dot_sc r.2 q.1 (vs.map qv)
  have s2 : (q.1.map fun z => z * r.2) = q.1.map fun z => r.2 * z := List.map_congr_left fun z _ => Int.mul_comm _ _
  rw [s1, s2, d2, e] at d1
  have w2 : (g : Rat) * (p.2 : Rat) = (r.1 : Rat) := by rw [← Rat.intCast_mul, w1]
  refine divU_same (u := r.2 * t.2) (v := g) (Int.mul_pos lo.1 lo2.1) g0 (raw_nz nm lo2.1) hq (Prod.ext ?_ ?_)
  · show ((p.1.map fun z => z * t.2).map fun z => g * z) = q.1.map fun z => r.2 * t.2 * z
    have c1 : ((p.1.map fun z => z * t.2).map fun z => g * z) = (p.1.map fun z => g * z).map fun z => z * t.2 := by
      rw [List.map_map, List.map_map]
      exact List.map_congr_left fun z _ => by show g * (z * t.2) = g * z * t.2; rw [Int.mul_assoc]
    rw [c1, s1, List.map_map]
    exact List.map_congr_left fun z _ => by show z * r.2 * t.2 = r.2 * t.2 * z; grind
  · show g * t.1 = r.2 * t.2 * q.2
    refine Rat.intCast_inj.mp ?_
    rw [Rat.intCast_mul, Rat.intCast_mul, Rat.intCast_mul]
    grind
end SB
namespace SB
open PySem L2 GxR GA
/-! ### what the built-in names are -/
structure Blt (mg : Str → Option Value) : Prop where
  len : mg "len" = none
  int : mg "int" = none
  isi : mg "isinstance" = none
  tup : mg "tuple" = none
  lst : mg "list" = none
  str : mg "str" = none
  bool : mg "bool" = none
  rng : mg "range" = none
  abs : mg "abs" = none
  max : mg "max" = none
  min : mg "min" = none
  any : mg "any" = none
  all : mg "all" = none
  zip : mg "zip" = none
  gcd : mg "gcd" = some (.builtin "math.gcd")
theorem bootTup : bootBuiltins "tuple" = some (.type "tuple") := by decide +kernel
theorem bootLst : bootBuiltins "list" = some (.type "list") := by decide +kernel
theorem bootStr : bootBuiltins "str" = some (.type "str") := by decide +kernel
theorem bootBool : bootBuiltins "bool" = some (.type "bool") := by decide +kernel
theorem bootAll : bootBuiltins "all" = some (.builtin "all") := by decide +kernel
theorem bootAny : bootBuiltins "any" = some (.builtin "any") := by decide +kernel
theorem kTL {K : PySem.W.Frag} {T : String} {b1 b2 : Bool} (h1 : kitB T "tuple" = some b1) (h2 : kitB T "list" = some b2) : PySem.W.kitAny K (.type T) [.type "tuple", .type "list"] = some (b1 || b2) := by
  cases b1 with
  | true => exact kitAny_cons (kit_ty h1) (fun z => nomatch z) (fun _ => rfl)
  | false =>
    cases b2 with
    | true => exact kitAny_cons (kit_ty h1) (fun _ => kitAny_cons (kit_ty h2) (fun z => nomatch z) (fun _ => rfl)) (fun z => nomatch z)
    | false => exact kitAny_cons (kit_ty h1) (fun _ => kitAny_cons (kit_ty h2) (fun _ => kitAny_nil) (fun z => nomatch z)) (fun z => nomatch z)
theorem clsTL : Paired ClsV [.ty "tuple", .ty "list"] [.type "tuple", .type "list"] := .cons (.ty _) (.cons (.ty _) .nil)
theorem szN {n : Nat} (h : n ≤ 1000000) : n ≤ sizeLine := Nat.le_trans h (by decide)
theorem iteP {p A B : Prop} [Decidable p] (h : p) (a : A) : if decide p = true then A else B := by
  rw [decide_eq_true h]
  exact iteT a
theorem iteN {p A B : Prop} [Decidable p] (h : ¬ p) (b : B) : if decide p = true then A else B := by
  rw [decide_eq_false h]
  exact iteF b
theorem qd {Q : VK} {H : Hp} {x y : V} (e : x = y) (q : Q (.bl true) H) : Q (.bl (decide (x = y))) H := by
  rw [decide_eq_true e]
  exact q
theorem qe {Q : VK} {H : Hp} {b c : Bool} (e : b = c) (q : Q (.bl c) H) : Q (.bl b) H := by
  rw [e]
  exact q
theorem len_rng {n : Nat} (h : n ≤ sizeLine) : -(2 ^ 62) ≤ ((n : Nat) : Int) ∧ ((n : Nat) : Int) < 2 ^ 62 := by
  have e : sizeLine = 16777216 := sizeLine_eq
  omega
/-! ### never reached -/
theorem pe_no {X : Cx} {e : Expr} : PE X e (fun _ _ _ => False) := ⟨fun _ _ _ _ _ _ h => h.elim⟩
theorem ps_no {X : Cx} {st : Stmt} : PS X st (fun _ _ _ => False) := ⟨fun _ _ _ _ _ _ h => h.elim⟩
theorem pss_no {X : Cx} {st : List Stmt} : PSs X st (fun _ _ _ => False) := ⟨fun _ _ _ _ _ _ h => h.elim⟩
/-! ### how the heap grows: all that was tracked is as it was, tables may be longer -/
structure Gr (H H' : Hp) : Prop where
  keep : ∀ b o, (∀ ps, o ≠ .tbl ps) → H b = some o → H' b = some o
  tab : ∀ P, TabG H P → TabG H' P
/-- .. but what stands at d -/
structure GrD (d : Addr) (H H' : Hp) : Prop where
  keep : ∀ b o, b ≠ d → (∀ ps, o ≠ .tbl ps) → H b = some o → H' b = some o
  tab : ∀ P, P ≠ d → TabG H P → TabG H' P
theorem Gr.refl (H : Hp) : Gr H H := ⟨fun _ _ _ e => e, fun _ h => h⟩
theorem Gr.trans {H H1 H2 : Hp} (a : Gr H H1) (b : Gr H1 H2) : Gr H H2 := ⟨fun c o n e => b.keep c o n (a.keep c o n e), fun P h => b.tab P (a.tab P h)⟩
theorem Gr.new {H H1 : Hp} {p : Addr} (a : Gr H H1) (h : H1 p = none) (o : HO) : Gr H (upd H1 p o) := by
  refine ⟨fun b u n e => ?_, fun P t => ?_⟩
  · have e1 := a.keep b u n e
    rw [upd_ne (ne_of_none e1 h)]
    exact e1
  · obtain ⟨ps, e1, t1⟩ := a.tab P t
    exact ⟨ps, by rw [upd_ne (ne_of_none e1 h)]; exact e1, t1⟩
theorem Gr.tabbed {H H1 H2 : Hp} {P : Addr} (a : Gr H H1) (hP : TabG H1 P) (h : Tabbed P H1 H2) : Gr H H2 := by
  refine ⟨fun b u n e => ?_, fun Q t => ?_⟩
  · have e1 := a.keep b u n e
    rw [h.2 b fun z => ?_]
    · exact e1
    · obtain ⟨ps, e2, _⟩ := hP
      rw [z, e2] at e1
      exact n ps (Option.some.inj e1).symm
  · by_cases z : Q = P
    · rw [z]
      exact h.1
    · obtain ⟨ps, e1, t1⟩ := a.tab Q t
      exact ⟨ps, by rw [h.2 Q z]; exact e1, t1⟩
theorem Gr.d {H H' : Hp} (a : Gr H H') (d : Addr) : GrD d H H' := ⟨fun b o _ n e => a.keep b o n e, fun P _ h => a.tab P h⟩
theorem GrD.refl (d : Addr) (H : Hp) : GrD d H H := (Gr.refl H).d d
theorem GrD.trans {d : Addr} {H H1 H2 : Hp} (a : GrD d H H1) (b : GrD d H1 H2) : GrD d H H2 := ⟨fun c o z n e => b.keep c o z n (a.keep c o z n e), fun P z h => b.tab P z (a.tab P z h)⟩
theorem GrD.gr {d : Addr} {H H1 H2 : Hp} (a : GrD d H H1) (b : Gr H1 H2) : GrD d H H2 := a.trans (b.d d)
theorem GrD.set {d : Addr} {H H1 : Hp} (a : GrD d H H1) (o : HO) : GrD d H (upd H1 d o) := ⟨fun c u z n e => by rw [upd_ne z]; exact a.keep c u z n e, fun P z h => by
  obtain ⟨ps, e, t⟩ := a.tab P z h
  exact ⟨ps, by rw [upd_ne z]; exact e, t⟩⟩
theorem Gr.seqT {K : PySem.W.Frag} {H H' : Hp} {a : Addr} {xs : List V} (e : Gr H H') (h : SqT K H a xs) : SqT K H' a xs := by
  rcases h with (h | ⟨o, h⟩) | h
  · exact .inl (.inl (e.keep _ _ (fun _ z => nomatch z) h))
  · exact .inl (.inr ⟨o, e.keep _ _ (fun _ z => nomatch z) h⟩)
  · exact .inr h
theorem Gr.seqL {K : PySem.W.Frag} {H H' : Hp} {a : Addr} {xs : List V} (e : Gr H H') (h : SqL K H a xs) : SqL K H' a xs := by
  rcases h with (h | ⟨o, h⟩) | h
  · exact .inl (.inl (e.keep _ _ (fun _ z => nomatch z) h))
  · exact .inl (.inr ⟨o, e.keep _ _ (fun _ z => nomatch z) h⟩)
  · exact .inr h
/-- the deck is a list: no tuple stands there -/
theorem GrD.seqT {K : PySem.W.Frag} {d : Addr} {H H' : Hp} {a : Addr} {xs ys : List V} (e : GrD d H H') (hd : H d = some (.lst ys)) (h : SqT K H a xs) : SqT K H' a xs := by
  rcases h with (h | ⟨o, h⟩) | h
  · exact .inl (.inl (e.keep _ _ (ne_of h hd (fun z => nomatch z)) (fun _ z => nomatch z) h))
  · exact .inl (.inr ⟨o, e.keep _ _ (ne_of h hd (fun z => nomatch z)) (fun _ z => nomatch z) h⟩)
  · exact .inr h
/-- tables there -/
def Tbs (ts : List Addr) (H : Hp) : Prop := ∀ P ∈ ts, TabG H P
theorem Tbs.gr {ts : List Addr} {H H' : Hp} (t : Tbs ts H) (g : Gr H H') : Tbs ts H' := fun P h => g.tab P (t P h)
/-! ### kinds of values -/
def scB : V → Bool
  | .non => true
  | .bl _ => true
  | .int _ => true
  | .str _ => true
  | _ => false
def isInt : V → Bool
  | .int _ => true
  | _ => false
theorem tyL {K : PySem.W.Frag} {H : Hp} {a : Addr} {xs : List V} (h : SqL K H a xs) : TyX K H (.ref a) (.type "list") := by
  rcases h with (h | ⟨o, h⟩) | ⟨o, its, n, h, c, _⟩
  · exact .base (.lst h)
  · exact .base (.frz h)
  · exact .kList h c
theorem tyT {K : PySem.W.Frag} {H : Hp} {a : Addr} {xs : List V} (h : SqT K H a xs) : TyX K H (.ref a) (.type "tuple") := by
  rcases h with (h | ⟨o, h⟩) | ⟨o, its, n, h, c, _⟩
  · exact .base (.tup h)
  · exact .fTuple h
  · exact .kTuple h c
/-- the types that are looked at, of a known value -/
inductive Kn (K : PySem.W.Frag) (H : Hp) : V → String → Prop where
  | non : Kn K H .non "NoneType"
  | bl (b : Bool) : Kn K H (.bl b) "bool"
  | int (i : Int) : Kn K H (.int i) "int"
  | str (x : Str) : Kn K H (.str x) "str"
  | lst {a : Addr} {xs : List V} (h : SqL K H a xs) : Kn K H (.ref a) "list"
  | tup {a : Addr} {xs : List V} (h : SqT K H a xs) : Kn K H (.ref a) "tuple"
theorem Kn.ty {K : PySem.W.Frag} {H : Hp} {x : V} {t : String} (k : Kn K H x t) : TyX K H x (.type t) := by
  cases k with
  | non => exact .base .non
  | bl b => exact .base (.bl b)
  | int i => exact .base (.int i)
  | str x => exact .base (.str x)
  | lst h => exact tyL h
  | tup h => exact tyT h
/-! ### any(..) of a tuple, a list of ints -/
section
variable {X : Cx}
theorem truth_ints {prog : Program} {w : World} {A : Around} {ns : List Int} {its : List Value} (e : Vals (ns.map V.int) its) :
    PySem.TruthOf prog w A (fun i v => its.toArray[i]? = some v) (fun i => (ns.map fun z => decide (z ≠ 0)).getD i false) := fun i v s Q E hv hq => by
  have hv' : its[i]? = some v := by simpa using hv
  have hl := Vals.length e
  rw [List.length_map] at hl
  have hi : i < ns.length := by
    have := (List.getElem?_eq_some_iff.mp hv').1
    omega
  obtain ⟨u, hu, ru⟩ := Vals.get e (i := i) (x := .int ns[i]) (by rw [List.getElem?_map, List.getElem?_eq_getElem hi] <;> rfl)
  rw [hv'] at hu
  obtain ⟨t, et⟩ := ru
  cases hu
  subst et
  have hg : (ns.map fun z => decide (z ≠ 0)).getD i false = decide (ns[i] ≠ 0) := by
    rw [List.getD_eq_getElem?_getD, List.getElem?_map, List.getElem?_eq_getElem hi] <;> rfl
  have hq : Q ((ns.map fun z => decide (z ≠ 0)).getD i false) s := hq
  rw [hg] at hq
  refine PySem.P.truthy_int ?_
  first
    | exact hq
    | (have e2 : (ns[i] != 0) = decide (ns[i] ≠ 0) := by rw [bne, Bool.eq_iff_iff]; simp
       rw [e2]; exact hq)
theorem any_ints : ∀ ns : List Int, (List.range ns.length).any (fun i => (ns.map fun z => decide (z ≠ 0)).getD i false) = ns.any fun z => decide (z ≠ 0) := fun ns => by
  have h := any_range (ns.map fun z => decide (z ≠ 0))
  rw [List.length_map, List.any_map] at h
  exact h
def rAnyT (K : PySem.W.Frag) : List V → Hp → VK → Prop := fun vs H Q => ∃ (a : Addr) (ns : List Int), vs = [V.ref a] ∧ SqT K H a (ns.map V.int) ∧ Q (.bl (ns.any fun z => decide (z ≠ 0))) H
theorem cr_anyT (hc : X.calm = true) : CallR X (.builtin "any") (rAnyT X.K) := by
  intro pins s σ H vs us Q I r h
  obtain ⟨a, ns, rfl, hs, q⟩ := h
  obtain ⟨its, rv, hl, _⟩ := I.tuple hs
  rw [Vals.ref1 r]
  have hlt : a < s.heap.objs.size := by obtain ⟨_, e, _⟩ := hl; exact Heap.lt_size e
  refine PySem.call_any_walk (PySem.wpAny_pyIter_tuple (show s.heap.IsTuple a its.toArray from hl) ?_)
  refine ⟨_, _, _, _, _, _, _, rfl, PySem.Walks.tuple (A := X.A.in1) (I.ok.hd hc) _ a (Nat.ne_of_lt hlt) its.toArray, ⟨⟨_, Heap.get?_push_size _ rfl, rfl, rfl⟩, (show s.heap.IsTuple a its.toArray from hl).push _⟩, truth_ints rv, fun h' tk hk => ?_⟩
  refine ⟨.bl _, H, I.kept fun b o eo => hk b o (fun hmem => ?_) (Heap.get?_push_of_some _ eo), ?_, q⟩
  · rcases List.mem_cons.mp hmem with e1 | hmem
    · exact absurd (e1 ▸ Heap.lt_size eo) (Nat.lt_irrefl _)
    · cases hmem
  · show Value.bool _ = Value.bool _
    have hl2 := Vals.length rv
    rw [List.length_map] at hl2
    rw [← any_ints, List.size_toArray, hl2]
end
/-! ### a def whose code object is known, with its table -/
structure FunT (K : PySem.W.Frag) (x : Str) (st : Stmt) (f : Addr) (fd : FuncData) (c : Addr) : Prop where
  ex : ∃ (oc : Value) (od : Option Addr) (kV doc pm : Value) (an : Option Addr) (ct : Value) (osl : Array (Option Value)),
    fd = PySem.W.fnOf x x (defArgs st) (defBody st) (defScope st) .none kV doc pm an (.ref c) ct ∧ K.lookup f = some ⟨oc, od, .func fd, osl⟩ ∧ PySem.W.codeIn K (.ref c) x = true
  kp : PySem.W.keepIn K (.ref f) = true
theorem FunT.fn {K : PySem.W.Frag} {x : Str} {st : Stmt} {f : Addr} {fd : FuncData} {c : Addr} (F : FunT K x st f fd c) : Fun K x x st f fd := by
  obtain ⟨oc, od, kV, doc, pm, an, ct, osl, h1, h2, h3⟩ := F.ex
  exact ⟨⟨oc, od, kV, doc, pm, an, _, ct, osl, h1, h2, h3⟩, F.kp⟩
theorem FunT.ok {P : Program} {w : World} {K : PySem.W.Frag} {mg : Str → Option Value} {base : Heap} {x : Str} {st : Stmt} {f : Addr} {fd : FuncData} {c : Addr} {N ps : List Str} {k : Nat} {sp : Sp} (F : FunT K x st f fd c) (S : FnScope N ps (defScope st)) (len : ∀ vs H Q E, sp vs H Q E → vs.length = ps.length)
    (hbody : ∀ (A : Around) (outer : List Env) (s : Shared) (H : Hp) (vs : List V) (Q : VK) (E : XK), Room k (A.deeper (PyProof.Rows.envOfC x (defScope st) s.heap.objs.size f (.ref c))) → sp vs H Q E →
      ∃ t, PSs (cxOf CX0 P w K mg base N x (defScope st) f (.ref c) A outer s H E).nox (defBody st) t ∧ t { nx := fun _ H' => Q .non H', rt := Q } (start N vs) H) : FnOk P w K mg base CX0 (k + 1) f fd ps sp := by
  obtain ⟨oc, od, kV, doc, pm, an, ct, osl, rfl, lk, hcd⟩ := F.ex
  refine fn_of lk hcd S len fun A outer s H vs Q E hr hsp => ?_
  obtain ⟨t, h, q⟩ := hbody A outer s H vs Q E hr hsp
  exact ⟨t, h.nox, q⟩
/-- a look at the names of a generator expression -/
def genC (N : List Str) (sc scope : Scope) (own : List (Str × Nat)) : Bool :=
  blkC N sc scope own && !scope.isCoroutine && scope.names.all (fun y => !decide (y.2 = .cell)) && decide (scope.names.lookup (".0" : Str) = some NameKind.local)
theorem genOk_by {N : List Str} {sc scope : Scope} {own : List (Str × Nat)} (h : genC N sc scope own = true) : GenOk N sc scope own := by
  unfold genC at h
  simp only [Bool.and_eq_true, Bool.not_eq_true', decide_eq_true_eq, List.all_eq_true, decide_eq_false_iff_not] at h
  obtain ⟨⟨⟨h1, h2⟩, h3⟩, h4⟩ := h
  exact { toBlkOk := blkOk_by h1, co := h2, cell := h3, dot := h4 }
theorem Room.gen {k : Nat} {X : Cx} {cenv : Env} (r : Room (k + 1) X.A) : Room k (arG X cenv) :=
  ⟨r.hd, by have := r.dp; show X.A.depth + 1 + 3 * k + 5 < _; omega, by have := r.un; show X.A.units + 1 + 1 + 3 + 16 * k + 200 < _; omega⟩
/-- a walk over a tuple, each item told (p: what is known of an item that was true) -/
theorem plan_tup {K : PySem.W.Frag} {a : Addr} {xs : List V} {g : TG} {te : TE} {σ0 : L2.St} {vs : List Nat} {QT QF : Hp → Prop} {H2 : Hp} (p : Nat → Prop) (hS : SqT K H2 a xs)
    (step : ∀ i x H, xs[i]? = some x → Gr H2 H → g x σ0 H fun σ2 H3 => wipe σ2 vs = σ0 ∧ te σ2 H3 fun y H4 => ∃ b, y = .bl b ∧ (if b = true then Gr H2 H4 ∧ p i else QF H4))
    (fin : ∀ H, Gr H2 H → (∀ i, i < xs.length → p i) → QT H) : ∃ W : Nat → Nat → Hp → Prop, (∃ m, W 0 m H2) ∧ Plan (Itt K a) g tYes te σ0 vs QT QF W := by
  refine ⟨fun i m H => Gr H2 H ∧ i + m = xs.length ∧ ∀ j, j < i → p j, ⟨xs.length, Gr.refl _, Nat.zero_add _, fun j hj => absurd hj (Nat.not_lt_zero _)⟩, fun i m H w => ?_⟩
  obtain ⟨gr, hm, hp⟩ := w
  have hSi := gr.seqT hS
  cases m with
  | zero => exact .inl ⟨⟨xs, hSi, by omega⟩, fin H gr fun j hj => hp j (by omega)⟩
  | succ m =>
    have hi : i < xs.length := by omega
    refine .inr ⟨⟨xs, xs[i], hSi, List.getElem?_eq_getElem hi⟩, fun H' => Gr H2 H' ∧ p i, fun H' h => ⟨m, Nat.lt_succ_self _, h.1, by omega, fun j hj => ?_⟩, fun x H' hy => ?_⟩
    · by_cases e : j = i
      · rw [e]
        exact h.2
      · exact hp j (by omega)
    · obtain ⟨rfl, hx⟩ := hy
      have ex := step i x H' (hx xs hSi) gr
      exact ex
end SB
namespace SB
open PySem L2 GxR GA
/-! ### short rules -/
section
variable {X : Cx} {e e2 : Expr} {te te2 : TE} {p p1 p2 pos : Pos}
def tMo (te : TE) : TE := fun σ H Q => ∃ K2 : VK, te σ H K2 ∧ ∀ x H1, K2 x H1 → Q x H1
theorem pe_mo (he : PE X e te) : PE X e (tMo te) := ⟨fun pins s σ H Q I ⟨K2, w, m⟩ => thn (he.run pins s σ H K2 I w) fun v s1 ⟨x, H1, I1, r1, q1⟩ => ⟨x, H1, I1, r1, m _ _ q1⟩⟩
theorem pe_imp {te' : TE} (he : PE X e te) (i : ∀ σ H Q, te' σ H Q → te σ H Q) : PE X e te' := ⟨fun pins s σ H Q I w => he.run pins s σ H Q I (i _ _ _ w)⟩
/-- isinstance(e, T) -/
def tIsi (K : PySem.W.Frag) (te : TE) (T : String) : TE := fun σ H Q => te σ H fun x H1 => ∃ t b, Kn K H1 x t ∧ kitB t T = some b ∧ Q (.bl b) H1
theorem pe_isi {x : Str} (T : String) (he : PE X e te) (hb : bootBuiltins x = some (.type T)) (hm : X.mg x = none) (hi : X.mg "isinstance" = none) (hg : Gl X "isinstance" := by rfl) (hgx : Gl X x := by rfl) (hn : x ≠ "__name__" := by decide) (hd : (x == ("__debug__" : Str)) = false := by decide)
    (hst : starEach [e, .Name x p1] X.env = (false, eval e X.env) :: starEach [.Name x p1] X.env := by rfl) (hst2 : starEach [.Name x p1] X.env = (false, eval (.Name x p1) X.env) :: starEach [] X.env := by rfl) (hpl : (backTo pos (starEach [.Name x p1] X.env)).any (·.1) = false := by rfl) :
    PE X (.Call (.Name "isinstance" p) [e, .Name x p1] [] pos) (tIsi X.K te T) :=
  pe_imp (pe_callB (X := X) (p := p) (pos := pos) call_isi hg hi PyProof.Rows.boot_isinstance (pa_cons (pe_mo he) (pa_cons (pe_bltn (v := .ty T) (pos := p1) hgx hm hb rfl hn hd) pa_nil hst2) hst) (by decide) (by decide) hst hpl)
    fun σ H Q w => ⟨_, w, fun x H1 ⟨t, b, k, kb, q⟩ => ⟨x, .ty T, .type t, .type T, b, rfl, .ty _, k.ty, kit_ty kb, q⟩⟩
/-- len(e) of a tuple, a list -/
def tLen (K : PySem.W.Frag) (te : TE) : TE := fun σ H Q => te σ H fun x H1 => ∃ a xs, x = .ref a ∧ (SqL K H1 a xs ∨ SqT K H1 a xs) ∧ Q (.int ((xs.length : Nat) : Int)) H1
theorem pe_len (he : PE X e te) (hm : X.mg "len" = none) (hg : Gl X "len" := by rfl) (hst : starEach [e] X.env = (false, eval e X.env) :: starEach [] X.env := by rfl) (hpl : (backTo pos (starEach [] X.env)).any (·.1) = false := by rfl) :
    PE X (.Call (.Name "len" p) [e] [] pos) (tLen X.K te) :=
  pe_imp (pe_callB (X := X) (p := p) (pos := pos) call_len_seq hg hm PySem.boot_len (pa_cons (pe_mo he) pa_nil hst) (by decide) (by decide) hst hpl)
    fun σ H Q w => ⟨_, w, fun x H1 ⟨a, xs, ex, k, q⟩ => ⟨a, xs, by rw [ex], k, q⟩⟩
/-- e[k] of a tuple, k written or known -/
def tAt (K : PySem.W.Frag) (te ti : TE) : TE := fun σ H Q => te σ H fun x H1 => ti σ H1 fun y H2 => ∃ a xs i v, x = .ref a ∧ y = .int i ∧ (SqL K H2 a xs ∨ SqT K H2 a xs) ∧ atI xs i = some v ∧ Q v H2
/-- gcd(a, b) -/
def tGcd (ta tb : TE) : TE := fun σ H Q => ta σ H fun x H1 => tb σ H1 fun y H2 => ∃ i j : Int, x = .int i ∧ y = .int j ∧ Q (.int ((Nat.gcd i.natAbs j.natAbs : Nat) : Int)) H2
def tMo2 (ta tb : TE) : TA := fun σ H Q => ta σ H fun x H1 => tb σ H1 fun y H2 => Q [x, y] H2
end
/-! ### a def that may be called by its name -/
structure Cl (P : Program) (w : World) (K : PySem.W.Frag) (mg : Str → Option Value) (base : Heap) (k : Nat) (x : Str) (ps : List Str) (sp : Sp) : Prop where
  ex : ∃ (f : Addr) (fd : FuncData), FnOk P w K mg base CX0 k f fd ps sp ∧ mg x = some (.ref f) ∧ PySem.W.keepIn K (.ref f) = true ∧ Binds K fd ps []
  lk : ∀ f : Addr, mg x = some (.ref f) → ∃ (fd : FuncData), FnOk P w K mg base CX0 k f fd ps sp ∧ ∃ (oc : Value) (od : Option Addr) (osl : Array (Option Value)), K.lookup f = some ⟨oc, od, .func fd, osl⟩
theorem pe_cl {X : Cx} {k : Nat} {x : Str} {ps : List Str} {sp : Sp} {p pos : Pos} {e : Expr} {es : List Expr} {t : TA} (c : Cl X.prog X.w X.K X.mg X.base k x ps sp) (hr : Room k X.A) (ha : PA X (e :: es) t) (hg : Gl X x := by rfl) (hdb : (x == ("__debug__" : Str)) = false := by decide)
    (he : starEach (e :: es) X.env = (false, eval e X.env) :: starEach es X.env := by rfl) (hpl : (backTo pos (starEach es X.env)).any (·.1) = false := by rfl) :
    PE X (.Call (.Name x p) (e :: es) [] pos) (tCall sp [] E0 t) := by
  obtain ⟨f, fd, F, hm, hk, hb⟩ := c.ex
  exact pe_call F hr hg hm hk hb .nil pass0 ha hdb he hpl
theorem Cl.mono {P : Program} {w : World} {K : PySem.W.Frag} {mg : Str → Option Value} {base : Heap} {j k : Nat} {x : Str} {ps : List Str} {sp : Sp} (c : Cl P w K mg base j x ps sp) (h : j ≤ k) : Cl P w K mg base k x ps sp := by
  obtain ⟨f, fd, F, r⟩ := c.ex
  exact ⟨⟨f, fd, F.mono h, r⟩, fun g hg => let ⟨gd, G, z⟩ := c.lk g hg; ⟨gd, G.mono h, z⟩⟩
theorem fn_imp {P : Program} {w : World} {K : PySem.W.Frag} {mg : Str → Option Value} {base : Heap} {CX : CXT} {k : Nat} {f : Addr} {fd : FuncData} {ps : List Str} {sp sp2 : Sp} (F : FnOk P w K mg base CX k f fd ps sp) (i : ∀ vs H Q E, sp2 vs H Q E → sp vs H Q E) : FnOk P w K mg base CX k f fd ps sp2 :=
  ⟨fun vs H Q E h => F.len vs H Q E (i _ _ _ _ h), fun A outer s H args us vs Q E hr e b r h => F.run A outer s H args us vs Q E hr e b r (i _ _ _ _ h)⟩
/-- a promise that asks more -/
theorem Cl.imp {P : Program} {w : World} {K : PySem.W.Frag} {mg : Str → Option Value} {base : Heap} {k : Nat} {x : Str} {ps : List Str} {sp sp2 : Sp} (c : Cl P w K mg base k x ps sp) (i : ∀ vs H Q E, sp2 vs H Q E → sp vs H Q E) : Cl P w K mg base k x ps sp2 := by
  obtain ⟨f, fd, F, r⟩ := c.ex
  exact ⟨⟨f, fd, fn_imp F i, r⟩, fun g hg => let ⟨gd, G, z⟩ := c.lk g hg; ⟨gd, fn_imp G i, z⟩⟩
/-- a def of the text, under its name -/
structure Df (K : PySem.W.Frag) (mg : Str → Option Value) (x : Str) (st : Stmt) : Prop where
  ex : ∃ (f : Addr) (fd : FuncData), Fun K x x st f fd ∧ mg x = some (.ref f)
/-- .. with its code object at c -/
structure DfT (K : PySem.W.Frag) (mg : Str → Option Value) (x : Str) (st : Stmt) (c : Addr) : Prop where
  ex : ∃ (f : Addr) (fd : FuncData), FunT K x st f fd c ∧ mg x = some (.ref f)
section
variable {P : Program} {w : World} {K : PySem.W.Frag} {mg : Str → Option Value} {base : Heap} {k : Nat} {x : Str} {st : Stmt} {ps : List Str} {sp : Sp} {c : Addr}
theorem Df.cl (D : Df K mg x st) (hb : ∀ (kV doc pm : Value) (an : Option Addr) (cdv ct : Value) (us : List Value), us.length = ps.length → bindArgs (PySem.W.fnOf x x (defArgs st) (defBody st) (defScope st) .none kV doc pm an cdv ct) ⟨us, []⟩ = pure (ps.zip us))
    (h : ∀ f fd, Fun K x x st f fd → FnOk P w K mg base CX0 k f fd ps sp) : Cl P w K mg base k x ps sp := by
  obtain ⟨f, fd, F, m⟩ := D.ex
  obtain ⟨oc, od, kV, doc, pm, an, cdv, ct, osl, e, lk, hcd⟩ := F.ex
  exact ⟨⟨f, fd, h f fd F, m, F.kp, F.binds hb⟩, fun g hg => by
    rw [m] at hg
    cases hg
    exact ⟨fd, h f fd F, oc, od, osl, lk⟩⟩
theorem DfT.cl (D : DfT K mg x st c) (hb : ∀ (kV doc pm : Value) (an : Option Addr) (cdv ct : Value) (us : List Value), us.length = ps.length → bindArgs (PySem.W.fnOf x x (defArgs st) (defBody st) (defScope st) .none kV doc pm an cdv ct) ⟨us, []⟩ = pure (ps.zip us))
    (h : ∀ f fd, FunT K x st f fd c → FnOk P w K mg base CX0 k f fd ps sp) : Cl P w K mg base k x ps sp := by
  obtain ⟨f, fd, F, m⟩ := D.ex
  obtain ⟨oc, od, kV, doc, pm, an, ct, osl, e, lk, hcd⟩ := F.ex
  exact ⟨⟨f, fd, h f fd F, m, F.kp, F.fn.binds hb⟩, fun g hg => by
    rw [m] at hg
    cases hg
    exact ⟨fd, h f fd F, oc, od, osl, lk⟩⟩
end
/-! ### the things -/
/-- a number: its top and bottom -/
def NuV (K : PySem.W.Frag) (H : Hp) (x : V) (q : Int × Int) : Prop := ∃ a, x = .ref a ∧ SqT K H a [.int q.1, .int q.2]
def PtV (K : PySem.W.Frag) (H : Hp) (x : V) (us : List (Int × Int)) : Prop := ∃ a xs, x = .ref a ∧ SqT K H a xs ∧ Paired (NuV K H) xs us
def SiV (K : PySem.W.Frag) (H : Hp) (x : V) (ns : List Int) : Prop := ∃ a, x = .ref a ∧ SqT K H a (ns.map V.int)
/-- a question: its sides, its wall -/
def QuV (K : PySem.W.Frag) (H : Hp) (x : V) (q : List Int × Int) : Prop := ∃ a s, x = .ref a ∧ SqT K H a [s, .int q.2] ∧ SiV K H s q.1
/-- a book -/
def BkV (K : PySem.W.Frag) (H : Hp) (x : V) (d : Nat) (qs : List (List Int × Int)) : Prop := ∃ a b xs, x = .ref a ∧ SqT K H a [.int d, .ref b] ∧ SqT K H b xs ∧ Paired (QuV K H) xs qs
section
variable {K : PySem.W.Frag} {H H' : Hp} {x : V}
theorem NuV.gr {q : Int × Int} (h : NuV K H x q) (g : Gr H H') : NuV K H' x q := let ⟨a, e, s⟩ := h; ⟨a, e, g.seqT s⟩
theorem PtV.gr {q : List (Int × Int)} (h : PtV K H x q) (g : Gr H H') : PtV K H' x q := let ⟨a, xs, e, s, p⟩ := h; ⟨a, xs, e, g.seqT s, Paired.mapP p fun _ _ z => NuV.gr z g⟩
theorem SiV.gr {q : List Int} (h : SiV K H x q) (g : Gr H H') : SiV K H' x q := let ⟨a, e, s⟩ := h; ⟨a, e, g.seqT s⟩
theorem QuV.gr {q : List Int × Int} (h : QuV K H x q) (g : Gr H H') : QuV K H' x q := let ⟨a, t, e, s, z⟩ := h; ⟨a, t, e, g.seqT s, z.gr g⟩
theorem BkV.gr {d : Nat} {q : List (List Int × Int)} (h : BkV K H x d q) (g : Gr H H') : BkV K H' x d q := let ⟨a, b, xs, e, s, t, p⟩ := h; ⟨a, b, xs, e, g.seqT s, g.seqT t, Paired.mapP p fun _ _ z => QuV.gr z g⟩
/-- its items fit the length of a line (what the heap's own facts give) -/
theorem paired_len {α β : Type} {F : α → β → Prop} {xs : List α} {ys : List β} (h : Paired F xs ys) : xs.length = ys.length := Paired.length h
theorem paired_get {α β : Type} {F : α → β → Prop} : ∀ {xs : List α} {ys : List β}, Paired F xs ys → ∀ {i : Nat} {x : α}, xs[i]? = some x → ∃ y, ys[i]? = some y ∧ F x y
  | _, _, .nil, i, x, e => by simp at e
  | _, _, .cons r _, 0, x, e => by simp at e; subst e; exact ⟨_, rfl, r⟩
  | _, _, .cons _ t, i + 1, x, e => by
    obtain ⟨y, h1, h2⟩ := paired_get t (i := i) (x := x) (by simpa using e)
    exact ⟨y, by simpa using h1, h2⟩
end
/-! ### is_whole -/
def spWhole (K : PySem.W.Frag) : Sp := fun vs H Q _ => ∃ x t, vs = [x] ∧ Kn K H x t ∧ Q (.bl (isInt x)) H
section
variable {P : Program} {w : World} {K : PySem.W.Frag} {mg : Str → Option Value} {base : Heap}
theorem sc_whole : FnScope ["told"] ["told"] (defScope s_is_whole) := ⟨rfl, rfl, rfl, by decide +kernel, rfl, by decide +kernel, by decide +kernel⟩
theorem cl_whole (D : Df K mg "is_whole" s_is_whole) (B : Blt mg) : Cl P w K mg base 1 "is_whole" ["told"] (spWhole K) := by
  refine D.cl (fun _ _ _ _ _ _ us hl => match us, hl with | [_], _ => rfl) fun f fd F => F.ok sc_whole (fun vs H Q E h => ?_) (fun cdv A outer s H vs Q E hr h => ?_)
  · obtain ⟨x, t, rfl, _⟩ := h
    rfl
  obtain ⟨x, t, rfl, k, q⟩ := h
  refine ⟨_, pss_one (ps_ret (pe_and (pe_isi "int" (pv 0) PyProof.Rows.boot_int B.int B.isi) (pe_one (pe_not (pe_isi "bool" (pv 0) bootBool B.bool B.isi))))), ?_⟩
  cases k with
  | non => exact ⟨_, rfl, _, false, .non, by decide +kernel, _, rfl, iteF q⟩
  | bl b => exact ⟨_, rfl, _, true, .bl b, by decide +kernel, _, rfl, iteT ⟨_, rfl, _, true, .bl b, by decide +kernel, _, rfl, q⟩⟩
  | int i => exact ⟨_, rfl, _, true, .int i, by decide +kernel, _, rfl, iteT ⟨_, rfl, _, false, .int i, by decide +kernel, _, rfl, q⟩⟩
  | str z => exact ⟨_, rfl, _, false, .str z, by decide +kernel, _, rfl, iteF q⟩
  | lst h => exact ⟨_, rfl, _, false, .lst h, by decide +kernel, _, rfl, iteF q⟩
  | tup h => exact ⟨_, rfl, _, false, .tup h, by decide +kernel, _, rfl, iteF q⟩
end
end SB
namespace SB
open PySem L2 GxR GA
section
variable {P : Program} {w : World} {K : PySem.W.Frag} {mg : Str → Option Value} {base : Heap}
theorem kTT : kitB "tuple" "tuple" = some true := by decide +kernel
def spNumber (K : PySem.W.Frag) : Sp := fun vs H Q _ => ∃ x q, vs = [x] ∧ NuV K H x q ∧ Lo q ∧ Q (.bl true) H
theorem at_ {α : Type} {xs : List α} {i : Nat} (h : i < xs.length) : xs[i]? = some xs[i] := List.getElem?_eq_getElem h
/-! ### are_numbers, is_point -/
def spNumbers (K : PySem.W.Frag) : Sp := fun vs H Q _ => ∃ a xs us, vs = [.ref a] ∧ SqT K H a xs ∧ Paired (NuV K H) xs us ∧ (∀ q, q ∈ us → Lo q) ∧ Q (.bl true) H
def spPoint (K : PySem.W.Frag) : Sp := fun vs H Q _ => ∃ x us, vs = [x] ∧ PtV K H x us ∧ us ≠ [] ∧ (∀ q, q ∈ us → Lo q) ∧ ∀ H', Gr H H' → Q (.bl true) H'
end
end SB
namespace SB
open PySem L2 GxR GA
section
variable {P : Program} {w : World} {K : PySem.W.Frag} {mg : Str → Option Value} {base : Heap}
/-! ### are_wholes, are_sides, is_question -/
def spWholes (K : PySem.W.Frag) : Sp := fun vs H Q _ => ∃ x ns, vs = [x] ∧ SiV K H x ns ∧ Q (.bl true) H
theorem sc_wholes : FnScope ["told", "item"] ["told"] (defScope s_are_wholes) := ⟨rfl, rfl, rfl, by decide +kernel, rfl, by decide +kernel, by decide +kernel⟩
theorem cl_wholes (D : Df K mg "are_wholes" s_are_wholes) (CW : Cl P w K mg base 1 "is_whole" ["told"] (spWhole K)) : Cl P w K mg base 2 "are_wholes" ["told"] (spWholes K) := by
  refine D.cl (fun _ _ _ _ _ _ us hl => match us, hl with | [_], _ => rfl) fun f fd F => F.ok sc_wholes (fun vs H Q E h => ?_) (fun cdv A outer s H vs Q E hr h => ?_)
  · obtain ⟨x, ns, rfl, _⟩ := h
    rfl
  obtain ⟨x, ns, rfl, ⟨a, rfl, hs⟩, hq⟩ := h
  refine ⟨_, pss_cons (ps_for PassesOwn.never rfl (pi_tup (pv 0)) (pg_name (i := 1) sc_wholes.nd rfl (Or.inl rfl))
    (pss_one (ps_if (pt_not (pt_val (pe_cl CW (hr.mono (by decide)) (pa_cons (pv 1) pa_nil)))) pss_no pss_nil))) (pss_one (ps_ret pe_bl)), ?_⟩
  refine ⟨_, rfl, a, rfl, ⟨_, hs⟩, for_tup (xs := ns.map V.int) (fun i σ H1 => ∃ c, σ = [some (.ref a), c] ∧ H1 = H) ⟨_, rfl, rfl⟩ (fun i σ H1 _ h => ?_) (fun i x σ H1 hx h => ?_) (fun σ H1 h => ?_)⟩
  · obtain ⟨c, rfl, rfl⟩ := h
    exact hs
  · obtain ⟨c, rfl, rfl⟩ := h
    rw [List.getElem?_map] at hx
    obtain ⟨z, hz, rfl⟩ := Option.map_eq_some_iff.mp hx
    exact ⟨_, rfl, _, _, rfl, .int z, _, rfl, iteF ⟨some (.int z), rfl, rfl⟩⟩
  · obtain ⟨c, rfl, rfl⟩ := h
    exact hq
def spSides (K : PySem.W.Frag) : Sp := fun vs H Q _ => ∃ x ns, vs = [x] ∧ SiV K H x ns ∧ NonZ ns ∧ ∀ H', Gr H H' → Q (.bl true) H'
theorem sc_sides : FnScope ["told"] ["told"] (defScope s_are_sides) := ⟨rfl, rfl, rfl, by decide +kernel, rfl, by decide +kernel, by decide +kernel⟩
theorem cl_sides (D : Df K mg "are_sides" s_are_sides) (B : Blt mg) (CW : Cl P w K mg base 2 "are_wholes" ["told"] (spWholes K)) : Cl P w K mg base 3 "are_sides" ["told"] (spSides K) := by
  refine D.cl (fun _ _ _ _ _ _ us hl => match us, hl with | [_], _ => rfl) fun f fd F => F.ok sc_sides (fun vs H Q E h => ?_) (fun cdv A outer s H vs Q E hr h => ?_)
  · obtain ⟨x, t, rfl, _⟩ := h
    rfl
  obtain ⟨x, ns, rfl, ⟨a, rfl, hs⟩, hne, hq⟩ := h
  refine ⟨_, pss_one (ps_ret (pe_and (pe_isi "tuple" (pv 0) bootTup B.tup B.isi) (pe_and (pe_cl CW (hr.mono (by decide)) (pa_cons (pv 0) pa_nil)) (pe_one (pe_callB (cr_anyT rfl) rfl B.any bootAny (pa_cons (pv 0) pa_nil)))))), ?_⟩
  refine ⟨_, rfl, _, _, .tup hs, kTT, _, rfl, iteT ⟨_, rfl, _, ns, rfl, ⟨a, rfl, hs⟩, _, rfl, iteT ⟨_, rfl, a, ns, rfl, hs, qe hne (hq H (Gr.refl H))⟩⟩⟩
def spQuest (K : PySem.W.Frag) : Sp := fun vs H Q _ => ∃ x q, vs = [x] ∧ QuV K H x q ∧ NonZ q.1 ∧ ∀ H', Gr H H' → Q (.bl true) H'
theorem sc_quest : FnScope ["told", "sides", "wall"] ["told"] (defScope s_is_question) := ⟨rfl, rfl, rfl, by decide +kernel, rfl, by decide +kernel, by decide +kernel⟩
theorem cl_quest (D : Df K mg "is_question" s_is_question) (B : Blt mg) (CW : Cl P w K mg base 1 "is_whole" ["told"] (spWhole K)) (CS : Cl P w K mg base 3 "are_sides" ["told"] (spSides K)) : Cl P w K mg base 4 "is_question" ["told"] (spQuest K) := by
  refine D.cl (fun _ _ _ _ _ _ us hl => match us, hl with | [_], _ => rfl) fun f fd F => F.ok sc_quest (fun vs H Q E h => ?_) (fun cdv A outer s H vs Q E hr h => ?_)
  · obtain ⟨x, t, rfl, _⟩ := h
    rfl
  obtain ⟨x, q, rfl, ⟨a, t, rfl, hs, hst⟩, hne, hq⟩ := h
  refine ⟨_, pss_cons (ps_if (PW.pt (by exact (pw_or (pt_not (pt_val (pe_isi "tuple" (pv 0) bootTup B.tup B.isi))) (pw_or1 (pt_cmpR op_ne (pe_len (pv 0) B.len) pe_int (nomark _)))))) pss_no pss_nil)
    (pss_cons (ps_asg (pv 0) (pg_tup rfl (pgs_cons (pg_name (i := 1) sc_quest.nd rfl (Or.inl rfl)) (pgs_cons (pg_name (i := 2) sc_quest.nd rfl (Or.inl rfl)) pgs_nil))))
    (pss_one (ps_ret (pe_and (pe_cl CS (hr.mono (by decide)) (pa_cons (pv 1) pa_nil)) (pe_one (pe_cl CW (hr.mono (by decide)) (pa_cons (pv 2) pa_nil))))))), ?_⟩
  refine ⟨_, rfl, _, _, .tup hs, kTT, _, rfl, iteF ⟨_, rfl, a, _, rfl, .inr hs, rfl, _, rfl, iteNS rfl ⟨_, rfl, a, _, rfl, hs, rfl, _, _, rfl, _, _, rfl, rfl, ?_⟩⟩⟩
  exact ⟨_, rfl, _, _, rfl, hst, hne, fun H' g => ⟨_, rfl, iteT ⟨_, rfl, _, _, rfl, .int _, hq H' g⟩⟩⟩
def spQuestOf (K : PySem.W.Frag) : Sp := fun vs H Q _ => ∃ x q, vs = [x, .int ((q.1.length : Nat) : Int)] ∧ QuV K H x q ∧ NonZ q.1 ∧ ∀ H', Gr H H' → Q (.bl true) H'
theorem sc_questOf : FnScope ["told", "d"] ["told", "d"] (defScope s_is_question_of) := ⟨rfl, rfl, rfl, by decide +kernel, rfl, by decide +kernel, by decide +kernel⟩
theorem cl_questOf (D : Df K mg "is_question_of" s_is_question_of) (B : Blt mg) (CQ : Cl P w K mg base 4 "is_question" ["told"] (spQuest K)) : Cl P w K mg base 5 "is_question_of" ["told", "d"] (spQuestOf K) := by
  refine D.cl (fun _ _ _ _ _ _ us hl => match us, hl with | [_, _], _ => rfl) fun f fd F => F.ok sc_questOf (fun vs H Q E h => ?_) (fun cdv A outer s H vs Q E hr h => ?_)
  · obtain ⟨x, t, rfl, _⟩ := h
    rfl
  obtain ⟨x, q, rfl, hx, hne, hq⟩ := h
  refine ⟨_, pss_one (ps_ret (pe_and (pe_cl CQ (hr.mono (by decide)) (pa_cons (pv 0) pa_nil)) (pe_one (pe_cmpR op_eq (pe_len (pe_ix ix_tup (pv 0) pe_int (fun _ _ => rfl)) B.len) (pv 1) (nomark _))))), ?_⟩
  refine ⟨_, rfl, _, _, rfl, hx, hne, fun H' g => ⟨_, rfl, iteT ?_⟩⟩
  obtain ⟨a, t, rfl, hs, b, rfl, hb⟩ := hx.gr g
  refine ⟨_, rfl, a, _, _, _, rfl, rfl, hs, rfl, b, _, rfl, .inr hb, _, rfl, rfl, ?_⟩
  exact qd (by rw [List.length_map]) (hq H' g)
/-! ### is_answer, is_wish_of, is_index -/
def spAnsw (K : PySem.W.Frag) : Sp := fun vs H Q _ => ∃ i : Int, vs = [.int i] ∧ -1 ≤ i ∧ i ≤ 1 ∧ Q (.bl true) H
def spIndex : Sp := fun vs H Q _ => ∃ i n : Int, vs = [.int i, .int n] ∧ 0 ≤ i ∧ i < n ∧ Q (.bl true) H
theorem sc_index : FnScope ["told", "many"] ["told", "many"] (defScope s_is_index) := ⟨rfl, rfl, rfl, by decide +kernel, rfl, by decide +kernel, by decide +kernel⟩
theorem cl_index (D : Df K mg "is_index" s_is_index) (CW : Cl P w K mg base 1 "is_whole" ["told"] (spWhole K)) : Cl P w K mg base 2 "is_index" ["told", "many"] spIndex := by
  refine D.cl (fun _ _ _ _ _ _ us hl => match us, hl with | [_, _], _ => rfl) fun f fd F => F.ok sc_index (fun vs H Q E h => ?_) (fun cdv A outer s H vs Q E hr h => ?_)
  · obtain ⟨i, n, rfl, _⟩ := h
    rfl
  obtain ⟨i, n, rfl, h0, h1, q⟩ := h
  refine ⟨_, pss_one (ps_ret (pe_and (pe_cl CW (hr.mono (by decide)) (pa_cons (pv 0) pa_nil)) (pe_one (pe_chain op_le op_lt pe_int (pv 0) (pv 1))))), ?_⟩
  refine ⟨_, rfl, _, _, rfl, .int i, _, rfl, iteT ⟨_, rfl, _, _, rfl, rfl, _, rfl, iteP h0 ⟨_, rfl, _, _, rfl, rfl, ?_⟩⟩⟩
  exact qe (decide_eq_true h1) q
/-- a wish's item: none, or an answer -/
def Hope (x : V) : Prop := x = .non ∨ ∃ i : Int, x = .int i ∧ -1 ≤ i ∧ i ≤ 1
def spWish (K : PySem.W.Frag) : Sp := fun vs H Q _ => ∃ a xs, vs = [.ref a, .int ((xs.length : Nat) : Int)] ∧ SqT K H a xs ∧ (∀ x, x ∈ xs → Hope x) ∧ ∀ H', Gr H H' → Q (.bl true) H'
end
end SB
namespace SB
open PySem L2 GxR GA
section
variable {P : Program} {w : World} {K : PySem.W.Frag} {mg : Str → Option Value} {base : Heap}
/-! ### check_point, check_index, sign -/
def spChkPt (K : PySem.W.Frag) : Sp := fun vs H Q _ => ∃ x us, vs = [x, .int ((us.length : Nat) : Int)] ∧ PtV K H x us ∧ us ≠ [] ∧ (∀ q, q ∈ us → Lo q) ∧ ∀ H', Gr H H' → Q .non H'
def spChkIx : Sp := fun vs H Q _ => ∃ i n : Int, vs = [.int i, .int n] ∧ 0 ≤ i ∧ i < n ∧ Q .non H
theorem sc_chkIx : FnScope ["index", "many"] ["index", "many"] (defScope s_check_index) := ⟨rfl, rfl, rfl, by decide +kernel, rfl, by decide +kernel, by decide +kernel⟩
theorem cl_chkIx (D : Df K mg "check_index" s_check_index) (CI : Cl P w K mg base 2 "is_index" ["told", "many"] spIndex) : Cl P w K mg base 3 "check_index" ["index", "many"] spChkIx := by
  refine D.cl (fun _ _ _ _ _ _ us hl => match us, hl with | [_, _], _ => rfl) fun f fd F => F.ok sc_chkIx (fun vs H Q E h => ?_) (fun cdv A outer s H vs Q E hr h => ?_)
  · obtain ⟨i, n, rfl, _⟩ := h
    rfl
  obtain ⟨i, n, rfl, h0, h1, q⟩ := h
  refine ⟨_, pss_one (ps_if (pt_not (pt_val (pe_cl CI (hr.mono (by decide)) (pa_cons (pv 0) (pa_cons (pv 1) pa_nil))))) pss_no pss_nil), ?_⟩
  exact ⟨_, rfl, _, rfl, i, n, rfl, h0, h1, _, rfl, iteF q⟩
def spChkWish (K : PySem.W.Frag) : Sp := fun vs H Q _ => ∃ a xs, vs = [.ref a, .int ((xs.length : Nat) : Int)] ∧ SqT K H a xs ∧ (∀ x, x ∈ xs → Hope x) ∧ ∀ H', Gr H H' → Q .non H'
def sgn (i : Int) : Int := if 0 < i then 1 else if i < 0 then -1 else 0
def spSign : Sp := fun vs H Q _ => ∃ i : Int, vs = [.int i] ∧ Q (.int (sgn i)) H
/-! ### numbers -/
/-- what comes is the number N / D -/
def spLowest (K : PySem.W.Frag) : Sp := fun vs H Q _ => ∃ t b : Int, vs = [.int t, .int b] ∧ 0 < b ∧ Wd 310000 (t, b) ∧ ∀ v r H', Gr H H' → NuV K H' v r → Lo r → Eqr r t b → r.1.natAbs ≤ t.natAbs → r.2.natAbs ≤ b.natAbs → Q v H'
/-- two numbers put together by f -/
def spBin (K : PySem.W.Frag) (f : Int × Int → Int × Int → Int × Int) : Sp := fun vs H Q _ => ∃ x y p q m n, vs = [x, y] ∧ NuV K H x p ∧ NuV K H y q ∧ 0 < p.2 ∧ 0 < q.2 ∧ Wd m p ∧ Wd n q ∧ m + n ≤ 300000 ∧
  ∀ v r H', Gr H H' → NuV K H' v r → Lo r → Eqr r (f p q).1 (f p q).2 → Wd (m + n + 1) r → Q v H'
theorem wd_le {m : Nat} {r : Int × Int} {t b : Int} (h : Wd m (t, b)) (h1 : r.1.natAbs ≤ t.natAbs) (h2 : r.2.natAbs ≤ b.natAbs) : Wd m r := ⟨Nat.lt_of_le_of_lt h1 h.1, Nat.lt_of_le_of_lt h2 h.2⟩
theorem cmw {i j : Int} {m n : Nat} (h : i.natAbs < 2 ^ m) (k : j.natAbs < 2 ^ n) (z : m + n ≤ 300000) : CMulW i j := by
  refine wide_mul (a := m + 1) (b := n + 1) (Nat.lt_of_lt_of_le h (Nat.pow_le_pow_right (by decide) (Nat.le_succ _))) (Nat.lt_of_lt_of_le k (Nat.pow_le_pow_right (by decide) (Nat.le_succ _))) (Nat.succ_pos _) (Nat.succ_pos _) ?_
  omega
end
end SB
namespace SB
open PySem L2 GxR GA RZ
/-- the numbers of a point: in bounds -/
def UsOk (us : List (Int × Int)) : Prop := us ≠ [] ∧ us.length ≤ 4 ∧ (∀ q, q ∈ us → Lo q) ∧ ∀ q, q ∈ us → Wd 20000 q
theorem wd_one {z : Int} (h : z.natAbs < 2 ^ 10000) : Wd 10000 (z, 1) := ⟨h, by show (1 : Nat) < 2 ^ 10000; exact Nat.one_lt_two_pow (by decide)⟩
section
variable {P : Program} {w : World} {K : PySem.W.Frag} {mg : Str → Option Value} {base : Heap}
def spCome (K : PySem.W.Frag) : Sp := fun vs H Q _ => ∃ x y ns us, vs = [x, y] ∧ SiV K H x ns ∧ PtV K H y us ∧ ns.length = us.length ∧ UsOk us ∧ NsOk ns ∧
  ∀ v r H', Gr H H' → NuV K H' v r → 0 < r.2 → Eqr r (sumU ns us (0, 1)).1 (sumU ns us (0, 1)).2 → Wd 121000 r → Q v H'
/-- .. with sides of width k, numbers of width m -/
def spComeP (K : PySem.W.Frag) : Sp := fun vs H Q _ => ∃ x y ns us k m, vs = [x, y] ∧ SiV K H x ns ∧ PtV K H y us ∧ ns.length = us.length ∧ us.length ≤ 4 ∧ (∀ u, u ∈ us → Lo u) ∧ (∀ u, u ∈ us → Wd m u) ∧ (∀ z, z ∈ ns → z.natAbs < 2 ^ k) ∧ 4 * (m + k + 3) ≤ 290000 ∧
  ∀ v r H', Gr H H' → NuV K H' v r → 0 < r.2 → Eqr r (sumU ns us (0, 1)).1 (sumU ns us (0, 1)).2 → Wd (1 + us.length * (m + k + 3)) r → Q v H'
/-- the sum itself, not divided -/
def spSumAt (K : PySem.W.Frag) : Sp := fun vs H Q _ => ∃ x y ns us k m, vs = [x, y] ∧ SiV K H x ns ∧ PtV K H y us ∧ ns.length = us.length ∧ us.length ≤ 4 ∧ (∀ u, u ∈ us → Wd m u) ∧ (∀ z, z ∈ ns → z.natAbs < 2 ^ k) ∧ 4 * (m + k + 3) ≤ 290000 ∧
  ∀ v H', Gr H H' → NuV K H' v (sumU ns us (0, 1)) → Wd (1 + us.length * (m + k + 3)) (sumU ns us (0, 1)) → Q v H'
theorem stepU_is (g : Int × Int) (z : Int) (u : Int × Int) : stepU g (z, u) = (g.1 * u.2 + z * u.1 * g.2, g.2 * u.2) := by
  unfold stepU fPlus fTimes
  dsimp only
  rw [Int.one_mul]
theorem wd_step {m k n : Nat} {g u : Int × Int} {z : Int} (hg : Wd n g) (hu : Wd m u) (hz : z.natAbs < 2 ^ k) : Wd (n + (m + k + 3)) (stepU g (z, u)) := by
  have wz : Wd (k + 1) (z, 1) := ⟨Nat.lt_of_lt_of_le hz (Nat.pow_le_pow_right (by decide) (Nat.le_succ k)), Nat.one_lt_two_pow (Nat.succ_ne_zero k)⟩
  exact (wd_plus hg (wd_times wz hu)).mono (by omega)
theorem sum_pos {ns : List Int} {us : List (Int × Int)} (h : ∀ u, u ∈ us → Lo u) : 0 < (sumU ns us (0, 1)).2 := by
  refine sumU_pos (by show (0 : Int) < 1; decide) fun p hp => ?_
  exact (h p.2 (List.of_mem_zip (a := p.1) (b := p.2) hp).2).1
end
end SB
namespace SB
open PySem L2 GxR GA RZ
/-! ### tuples stay -/
def Tst (K : PySem.W.Frag) (H H' : Hp) : Prop := ∀ a xs, SqT K H a xs → SqT K H' a xs
section
variable {K : PySem.W.Frag} {H H' H1 : Hp} {x : V} {D : Addr}
theorem Gr.st (g : Gr H H') : Tst K H H' := fun _ _ h => g.seqT h
theorem Tst.trans {H2 : Hp} (a : Tst K H H') (b : Tst K H' H2) : Tst K H H2 := fun c xs h => b c xs (a c xs h)
theorem Tst.put {ys : List V} {o : HO} (hD : H D = some (.lst ys)) : Tst K H (upd H D o) := fun a xs h => by
  rcases h with (h | ⟨u, h⟩) | h
  · exact .inl (.inl (by rw [upd_ne (ne_of h hD (fun z => nomatch z))]; exact h))
  · exact .inl (.inr ⟨u, by rw [upd_ne (ne_of h hD (fun z => nomatch z))]; exact h⟩)
  · exact .inr h
theorem NuV.st {q : Int × Int} (h : NuV K H x q) (g : Tst K H H') : NuV K H' x q := let ⟨a, e, s⟩ := h; ⟨a, e, g _ _ s⟩
theorem SiV.st {q : List Int} (h : SiV K H x q) (g : Tst K H H') : SiV K H' x q := let ⟨a, e, s⟩ := h; ⟨a, e, g _ _ s⟩
theorem QuV.st {q : List Int × Int} (h : QuV K H x q) (g : Tst K H H') : QuV K H' x q := let ⟨a, t, e, s, z⟩ := h; ⟨a, t, e, g _ _ s, z.st g⟩
theorem PtV.st {q : List (Int × Int)} (h : PtV K H x q) (g : Tst K H H') : PtV K H' x q := let ⟨a, xs, e, s, p⟩ := h; ⟨a, xs, e, g _ _ s, Paired.mapP p fun _ _ z => NuV.st z g⟩
theorem BkV.st {d : Nat} {q : List (List Int × Int)} (h : BkV K H x d q) (g : Tst K H H') : BkV K H' x d q := let ⟨a, b, xs, e, s, t, p⟩ := h; ⟨a, b, xs, e, g _ _ s, g _ _ t, Paired.mapP p fun _ _ z => QuV.st z g⟩
theorem GrD.to (g : GrD D H H') (n : H D = none) : Gr H H' := by
  refine ⟨fun b o z e => g.keep b o (ne_of_none e n) z e, fun P h => ?_⟩
  obtain ⟨ps, e, t⟩ := id h
  exact g.tab P (ne_of_none e n) h
end
/-- a list of what comes of each item of a tuple, of a list -/
theorem lc_mapT {K : PySem.W.Frag} {a : Addr} {xs : List V} {g : TG} {te : TE} {vs : List Nat} {σ : L2.St} {H1 : Hp} {D : Addr} {Qd : Hp → Prop} (R : Nat → V → Hp → Prop) (hst : ∀ i y H H', R i y H → Tst K H H' → R i y H') (nD : H1 D = none) (hs : SqT K H1 a xs) (hz : xs.length ≤ 1000)
    (step : ∀ i x H (Kc : VK), xs[i]? = some x → Gr H1 H → (∀ y H4, Gr H H4 → R i y H4 → Kc y H4) → g x (wipe σ vs) H fun σ2 H2 => wipe σ2 vs = wipe σ vs ∧ te σ2 H2 Kc)
    (fin : ∀ ys H, H D = some (.lst ys) → ys.length = xs.length → Gr H1 H → (∀ i y, ys[i]? = some y → R i y H) → Qd H) :
    ∃ W : Nat → Nat → Hp → Prop, (∃ m, W 0 m (upd H1 D (.lst []))) ∧ ∀ i m H, W i m H →
      ((Itt K a).stop i H ∧ Qd H) ∨ ((Itt K a).go i H ∧ ∃ Nx : Hp → Prop, (∀ H', Nx H' → ∃ m', m' < m ∧ W (i + 1) m' H') ∧ ∀ x H', (Itt K a).yld i H x H' → g x (wipe σ vs) H' fun σ2 H2 => wipe σ2 vs = wipe σ vs ∧ tYes σ2 H2 fun b H3 =>
        if b = true then te σ2 H3 fun y H4 => ∃ acc, H4 D = some (.lst acc) ∧ acc.length < sizeLine ∧ Nx (upd H4 D (.lst (acc ++ [y]))) else Nx H3) := by
  refine ⟨fun i m H => i + m = xs.length ∧ ∃ ys, H D = some (.lst ys) ∧ ys.length = i ∧ GrD D H1 H ∧ ∀ j y, ys[j]? = some y → R j y H, ⟨xs.length, Nat.zero_add _, [], upd_same, rfl, (GrD.refl D H1).set _, fun j y h => by simp at h⟩, fun i m H w => ?_⟩
  obtain ⟨hm, ys, hD, hy, gr, hR⟩ := w
  have g1 := gr.to nD
  have hSi := g1.seqT hs
  cases m with
  | zero => exact .inl ⟨⟨xs, hSi, by omega⟩, fin ys H hD (by omega) g1 hR⟩
  | succ m =>
    have hi : i < xs.length := by omega
    refine .inr ⟨⟨xs, xs[i], hSi, List.getElem?_eq_getElem hi⟩, fun H' => ∃ ys, H' D = some (.lst ys) ∧ ys.length = i + 1 ∧ GrD D H1 H' ∧ ∀ j y, ys[j]? = some y → R j y H', fun H' h => ⟨m, Nat.lt_succ_self _, by omega, h⟩, fun x H' hyl => ?_⟩
    obtain ⟨rfl, hx⟩ := hyl
    have key : ∀ y H4, Gr H' H4 → R i y H4 → ∃ acc, H4 D = some (.lst acc) ∧ acc.length < sizeLine ∧ (∃ ys, (upd H4 D (.lst (acc ++ [y]))) D = some (.lst ys) ∧ ys.length = i + 1 ∧ GrD D H1 (upd H4 D (.lst (acc ++ [y]))) ∧ ∀ j z, ys[j]? = some z → R j z (upd H4 D (.lst (acc ++ [y])))) := fun y H4 g4 r4 => by
      have hD4 : H4 D = some (.lst ys) := g4.keep D _ (fun _ z => nomatch z) hD
      have tp : Tst K H4 (upd H4 D (.lst (ys ++ [y]))) := Tst.put hD4
      refine ⟨ys, hD4, small1000 (by omega), ys ++ [y], upd_same, by rw [List.length_append, hy]; rfl, (gr.trans (g4.d D)).set _, fun j z hz2 => ?_⟩
      by_cases hj : j < ys.length
      · rw [List.getElem?_append_left hj] at hz2
        exact hst _ _ _ _ (hR j z hz2) (g4.st.trans tp)
      · have hl := (List.getElem?_eq_some_iff.mp hz2).1
        rw [List.length_append] at hl
        have hl' : j < ys.length + 1 := hl
        have ej : j = ys.length := by omega
        subst ej
        rw [List.getElem?_append_right (Nat.le_refl _), Nat.sub_self] at hz2
        cases hz2
        rw [hy]
        exact hst _ _ _ _ r4 tp
    exact step i x H' _ (hx xs hSi) g1 key

theorem lc_mapL {K : PySem.W.Frag} {a : Addr} {xs : List V} {g : TG} {te : TE} {vs : List Nat} {σ : L2.St} {H1 : Hp} {D : Addr} {Qd : Hp → Prop} (R : Nat → V → Hp → Prop) (hst : ∀ i y H H', R i y H → Tst K H H' → R i y H') (nD : H1 D = none) (hs : SqL K H1 a xs) (hz : xs.length ≤ 1000)
    (step : ∀ i x H (Kc : VK), xs[i]? = some x → Gr H1 H → (∀ y H4, Gr H H4 → R i y H4 → Kc y H4) → g x (wipe σ vs) H fun σ2 H2 => wipe σ2 vs = wipe σ vs ∧ te σ2 H2 Kc)
    (fin : ∀ ys H, H D = some (.lst ys) → ys.length = xs.length → Gr H1 H → (∀ i y, ys[i]? = some y → R i y H) → Qd H) :
    ∃ W : Nat → Nat → Hp → Prop, (∃ m, W 0 m (upd H1 D (.lst []))) ∧ ∀ i m H, W i m H →
      ((Itl K a).stop i H ∧ Qd H) ∨ ((Itl K a).go i H ∧ ∃ Nx : Hp → Prop, (∀ H', Nx H' → ∃ m', m' < m ∧ W (i + 1) m' H') ∧ ∀ x H', (Itl K a).yld i H x H' → g x (wipe σ vs) H' fun σ2 H2 => wipe σ2 vs = wipe σ vs ∧ tYes σ2 H2 fun b H3 =>
        if b = true then te σ2 H3 fun y H4 => ∃ acc, H4 D = some (.lst acc) ∧ acc.length < sizeLine ∧ Nx (upd H4 D (.lst (acc ++ [y]))) else Nx H3) := by
  refine ⟨fun i m H => i + m = xs.length ∧ ∃ ys, H D = some (.lst ys) ∧ ys.length = i ∧ GrD D H1 H ∧ ∀ j y, ys[j]? = some y → R j y H, ⟨xs.length, Nat.zero_add _, [], upd_same, rfl, (GrD.refl D H1).set _, fun j y h => by simp at h⟩, fun i m H w => ?_⟩
  obtain ⟨hm, ys, hD, hy, gr, hR⟩ := w
  have g1 := gr.to nD
  have hSi := g1.seqL hs
  cases m with
  | zero => exact .inl ⟨⟨xs, hSi, by omega⟩, fin ys H hD (by omega) g1 hR⟩
  | succ m =>
    have hi : i < xs.length := by omega
    refine .inr ⟨⟨xs, xs[i], hSi, List.getElem?_eq_getElem hi⟩, fun H' => ∃ ys, H' D = some (.lst ys) ∧ ys.length = i + 1 ∧ GrD D H1 H' ∧ ∀ j y, ys[j]? = some y → R j y H', fun H' h => ⟨m, Nat.lt_succ_self _, by omega, h⟩, fun x H' hyl => ?_⟩
    obtain ⟨rfl, hx⟩ := hyl
    have key : ∀ y H4, Gr H' H4 → R i y H4 → ∃ acc, H4 D = some (.lst acc) ∧ acc.length < sizeLine ∧ (∃ ys, (upd H4 D (.lst (acc ++ [y]))) D = some (.lst ys) ∧ ys.length = i + 1 ∧ GrD D H1 (upd H4 D (.lst (acc ++ [y]))) ∧ ∀ j z, ys[j]? = some z → R j z (upd H4 D (.lst (acc ++ [y])))) := fun y H4 g4 r4 => by
      have hD4 : H4 D = some (.lst ys) := g4.keep D _ (fun _ z => nomatch z) hD
      have tp : Tst K H4 (upd H4 D (.lst (ys ++ [y]))) := Tst.put hD4
      refine ⟨ys, hD4, small1000 (by omega), ys ++ [y], upd_same, by rw [List.length_append, hy]; rfl, (gr.trans (g4.d D)).set _, fun j z hz2 => ?_⟩
      by_cases hj : j < ys.length
      · rw [List.getElem?_append_left hj] at hz2
        exact hst _ _ _ _ (hR j z hz2) (g4.st.trans tp)
      · have hl := (List.getElem?_eq_some_iff.mp hz2).1
        rw [List.length_append] at hl
        have hl' : j < ys.length + 1 := hl
        have ej : j = ys.length := by omega
        subst ej
        rw [List.getElem?_append_right (Nat.le_refl _), Nat.sub_self] at hz2
        cases hz2
        rw [hy]
        exact hst _ _ _ _ r4 tp
    exact step i x H' _ (hx xs hSi) g1 key
/-- a list of ints known item by item -/
theorem ints_at {ys : List V} {zs : List Int} (hl : ys.length = zs.length) (h : ∀ (i : Nat) (y : V), ys[i]? = some y → ∃ z : Int, zs[i]? = some z ∧ y = V.int z) : ys = zs.map V.int := by
  refine List.ext_getElem? fun i => ?_
  rw [List.getElem?_map]
  cases e : ys[i]? with
  | none =>
    have : ys.length ≤ i := List.getElem?_eq_none_iff.mp e
    rw [List.getElem?_eq_none (by omega)]
    rfl
  | some y =>
    obtain ⟨z, hz, rfl⟩ := h i y e
    rw [hz]
    rfl
theorem paired_at2 {α β : Type} {F : α → β → Prop} : ∀ {xs : List α} {ys : List β}, xs.length = ys.length → (∀ (i : Nat) (x : α) (y : β), xs[i]? = some x → ys[i]? = some y → F x y) → Paired F xs ys
  | [], [], _, _ => .nil
  | [], _ :: _, h, _ => by simp at h
  | _ :: _, [], h, _ => by simp at h
  | x :: xs, y :: ys, h, f => .cons (f 0 x y rfl rfl) (paired_at2 (by simpa using h) fun i a b ha hb => f (i + 1) a b (by simpa using ha) (by simpa using hb))
end SB
namespace SB
open PySem L2 GxR GA RZ
section
variable {P : Program} {w : World} {K : PySem.W.Frag} {mg : Str → Option Value} {base : Heap}
def spCommon (K : PySem.W.Frag) : Sp := fun vs H Q _ => ∃ a ns, vs = [.ref a] ∧ SqT K H a (ns.map V.int) ∧ Q (.int ((gcdL ns : Nat) : Int)) H
theorem sc_common : FnScope ["wholes", "common", "whole"] ["wholes"] (defScope s_common_of) := ⟨rfl, rfl, rfl, by decide +kernel, rfl, by decide +kernel, by decide +kernel⟩
theorem cl_common (D : Df K mg "common_of" s_common_of) (B : Blt mg) : Cl P w K mg base 1 "common_of" ["wholes"] (spCommon K) := by
  refine D.cl (fun _ _ _ _ _ _ us hl => match us, hl with | [_], _ => rfl) fun f fd F => F.ok sc_common (fun vs H Q E h => ?_) (fun cdv A outer s H vs Q E hr h => ?_)
  · obtain ⟨a, ns, rfl, _⟩ := h
    rfl
  obtain ⟨a, ns, rfl, ha, q⟩ := h
  refine ⟨_, pss_cons (ps_set (i := 1) sc_common.nd rfl (.inl rfl) pe_int) (pss_cons (ps_for PassesOwn.never rfl (pi_tup (pv 0)) (pg_name (i := 2) sc_common.nd rfl (Or.inl rfl))
    (pss_one (ps_set (i := 1) sc_common.nd rfl (.inl rfl) (pe_callBfun cr_gcd rfl B.gcd (pa_cons (pv 1) (pa_cons (pv 2) pa_nil)))))) (pss_one (ps_ret (pv 1)))), ?_⟩
  refine ⟨_, rfl, a, rfl, ⟨_, ha⟩, for_tup (xs := ns.map V.int) (fun i σ H1 => ∃ c, σ = [some (.ref a), some (.int ((gcdL (ns.take i) : Nat) : Int)), c] ∧ H1 = H) ⟨_, rfl, rfl⟩ (fun i σ H1 _ h => ?_) (fun i x σ H1 hx h => ?_) (fun σ H1 h => ?_)⟩
  · obtain ⟨c, rfl, rfl⟩ := h
    exact ha
  · obtain ⟨c, rfl, rfl⟩ := h
    rw [List.getElem?_map] at hx
    obtain ⟨z, hz, rfl⟩ := Option.map_eq_some_iff.mp hx
    refine ⟨_, rfl, _, rfl, _, _, rfl, some (.int z), ?_, rfl⟩
    have e : gcdL (ns.take (i + 1)) = Nat.gcd (gcdL (ns.take i)) z.natAbs := fold_take (fun c (z : Int) => Nat.gcd c z.natAbs) 0 hz
    rw [e, Int.natAbs_natCast]
    rfl
  · obtain ⟨c, rfl, rfl⟩ := h
    have e : ns.take (ns.map V.int).length = ns := List.take_of_length_le (by rw [List.length_map]; exact Nat.le_refl _)
    rw [e]
    exact ⟨_, rfl, q⟩
def spBegins (K : PySem.W.Frag) : Sp := fun vs H Q _ => ∃ a ns, vs = [.ref a] ∧ SqT K H a (ns.map V.int) ∧ NonZ ns ∧ Q (.int ((firstNZ ns : Nat) : Int)) H
theorem sc_begins : FnScope ["wholes", "at"] ["wholes"] (defScope s_begins_at) := ⟨rfl, rfl, rfl, by decide +kernel, rfl, by decide +kernel, by decide +kernel⟩
theorem cl_begins (D : Df K mg "begins_at" s_begins_at) : Cl P w K mg base 1 "begins_at" ["wholes"] (spBegins K) := by
  refine D.cl (fun _ _ _ _ _ _ us hl => match us, hl with | [_], _ => rfl) fun f fd F => F.ok sc_begins (fun vs H Q E h => ?_) (fun cdv A outer s H vs Q E hr h => ?_)
  · obtain ⟨a, ns, rfl, _⟩ := h
    rfl
  obtain ⟨a, ns, rfl, ha, nz, q⟩ := h
  obtain ⟨k1, k2, k3⟩ := firstNZ_at nz
  refine ⟨_, pss_cons (ps_set (i := 1) sc_begins.nd rfl (.inl rfl) pe_int) (pss_cons (ps_while PassesOwn.never (pt_cmpR op_eq (pe_ix ix_tup (pv 0) (pv 1) (fun _ _ => rfl)) pe_int (nomark _)) (pss_one (ps_aug (i := 1) sc_begins.nd rfl (.inl rfl) pe_int ip_add))) (pss_one (ps_ret (pv 1)))), ?_⟩
  refine ⟨fun m σ H1 => ∃ i : Nat, σ = [some (.ref a), some (.int (i : Int))] ∧ H1 = H ∧ i + m = firstNZ ns, ⟨firstNZ ns, 0, rfl, rfl, Nat.zero_add _⟩, fun m σ H1 hw => ?_⟩
  obtain ⟨i, rfl, rfl, hm⟩ := hw
  have hl := (List.getElem?_eq_some_iff.mp k1).1
  have hi : i < ns.length := by omega
  have ei : ns[i]? = some ns[i] := List.getElem?_eq_getElem hi
  refine ⟨_, rfl, _, rfl, a, _, _, .int ns[i], rfl, rfl, ha, atI_nat (by rw [List.getElem?_map, ei]; rfl), rfl, _, rfl, ?_⟩
  cases m with
  | zero =>
    have e : i = firstNZ ns := by omega
    subst e
    rw [ei] at k1
    have : ns[firstNZ ns] = lead ns := Option.some.inj k1
    exact iteN (fun z => k2 (by rw [← this]; injection z)) ⟨_, rfl, q⟩
  | succ m =>
    have z0 := k3 i _ (by omega) ei
    refine iteP (by rw [z0]) ⟨fun σ H' => ∃ i' : Nat, σ = [some (.ref a), some (.int (i' : Int))] ∧ H' = H1 ∧ i' + m = firstNZ ns, fun σ' H' h => ⟨m, Nat.lt_succ_self _, h⟩, ?_⟩
    refine ⟨_, rfl, _, _, rfl, rfl, i + 1, ?_, rfl, by omega⟩
    simp
def spMany : Sp := fun vs H Q _ => ∃ d : Int, vs = [.int d] ∧ 1 ≤ d ∧ Q (.bl true) H
theorem sc_many : FnScope ["d"] ["d"] (defScope s__is_many) := ⟨rfl, rfl, rfl, by decide +kernel, rfl, by decide +kernel, by decide +kernel⟩
theorem cl_many (D : Df K mg "_is_many" s__is_many) (CW : Cl P w K mg base 1 "is_whole" ["told"] (spWhole K)) : Cl P w K mg base 2 "_is_many" ["d"] spMany := by
  refine D.cl (fun _ _ _ _ _ _ us hl => match us, hl with | [_], _ => rfl) fun f fd F => F.ok sc_many (fun vs H Q E h => ?_) (fun cdv A outer s H vs Q E hr h => ?_)
  · obtain ⟨d, rfl, _⟩ := h
    rfl
  obtain ⟨d, rfl, h1, q⟩ := h
  refine ⟨_, pss_one (ps_ret (pe_and (pe_cl CW (hr.mono (by decide)) (pa_cons (pv 0) pa_nil)) (pe_one (pe_cmpR op_ge (pv 0) pe_int (nomark _))))), ?_⟩
  exact ⟨_, rfl, _, _, rfl, .int d, _, rfl, iteT ⟨_, rfl, _, _, rfl, rfl, qe (decide_eq_true h1) q⟩⟩
end
end SB
namespace SB
open PySem L2 GxR GA RZ SG PpSet
section
variable {P : Program} {w : World} {K : PySem.W.Frag} {mg : Str → Option Value} {base : Heap}
def spDiv (K : PySem.W.Frag) : Sp := fun vs H Q _ => ∃ x q, vs = [x] ∧ QuV K H x q ∧ NonZ q.1 ∧ q.1.length ≤ 8 ∧ ∀ v H', Gr H H' → QuV K H' v (divU q) → Q v H'
theorem sc_div : FnScope ["question", "sides", "wall", "common", "side"] ["question"] (defScope s_divided) := ⟨rfl, rfl, rfl, by decide +kernel, rfl, by decide +kernel, by decide +kernel⟩
theorem ne_of_nonZ {ns : List Int} (h : NonZ ns) : ns.map V.int ≠ [] := fun e => by
  rw [List.map_eq_nil_iff] at e
  rw [e] at h
  exact absurd (show false = true from h) Bool.false_ne_true
theorem cl_div (D : Df K mg "divided" s_divided) (B : Blt mg) (NS : NSK P K) (CC : Cl P w K mg base 1 "common_of" ["wholes"] (spCommon K)) : Cl P w K mg base 34 "divided" ["question"] (spDiv K) := by
  refine D.cl (fun _ _ _ _ _ _ us hl => match us, hl with | [_], _ => rfl) fun f fd F => F.ok sc_div (fun vs H Q E h => ?_) (fun cdv A outer s H vs Q E hr h => ?_)
  · obtain ⟨x, q, rfl, _⟩ := h
    rfl
  obtain ⟨x, q, rfl, ⟨a, t, rfl, hs, b, rfl, hb⟩, ok, l8, hq⟩ := h
  refine ⟨_, pss_cons (ps_asg (pv 0) (pg_tup rfl (pgs_cons (pg_name (i := 1) sc_div.nd rfl (Or.inl rfl)) (pgs_cons (pg_name (i := 2) sc_div.nd rfl (Or.inl rfl)) pgs_nil))))
    (pss_cons (ps_set (i := 3) sc_div.nd rfl (.inr rfl) (pe_cl CC (hr.mono (by decide)) (pa_cons (pe_op op_catT (pv 1) (pe_tup (pa_cons (pv 2) pa_nil))) pa_nil)))
    (pss_one (ps_ret (pe_tup (pa_cons (pe_callTy call_tuple_of rfl B.tup bootTup (pa_cons (pe_lc (own := [("side", 4)]) (g := gName 4) rfl sc_div.nd (pi_tup (pv 1)) (blkOk_by (N := ["question", "sides", "wall", "common", "side"]) (sc := defScope s_divided) (by decide +kernel)) (fun _ _ _ _ _ => pg_name (i := 4) sc_div.nd rfl (Or.inl rfl)) (fun _ _ _ _ _ => pts_nil) (fun _ _ _ _ _ => pe_op (op_fdivE NS (Room.far hr) rfl rfl rfl rfl rfl) (pv 4) (pv 3))) pa_nil)) (pa_cons (pe_op (op_fdivE NS (Room.far hr) rfl rfl rfl rfl rfl) (pv 2) (pv 3)) pa_nil)))))), ?_⟩
  have g0 : 0 < gcdL (q.1 ++ [q.2]) := by
    obtain ⟨z, h1, h2⟩ := ok.ex
    exact gcdL_pos (List.mem_append_left _ h1) h2
  have cd : ∀ i : Int, (0 : Int) < ((gcdL (q.1 ++ [q.2]) : Nat) : Int) := fun _ => by omega
  refine ⟨_, rfl, a, _, rfl, hs, rfl, _, _, rfl, _, _, rfl, rfl, ?_⟩
  refine ⟨_, rfl, _, rfl, szN (by show 1 ≤ 1000000; decide), fun p0 n0 => ?_⟩
  have k0 := (Gr.refl H).new n0 (.tup [.int q.2])
  refine ⟨_, _, _, _, rfl, rfl, k0.seqT hb, SqT.of upd_same, ne_of_nonZ ok, ?_, fun z => absurd z (List.cons_ne_nil _ _), fun _ p1 n1 => ?_⟩
  · rw [List.length_map]
    exact szN (by show q.1.length + 1 ≤ 1000000; omega)
  have k1 := k0.new n1 (.tup (q.1.map V.int ++ [.int q.2]))
  refine ⟨p1, q.1 ++ [q.2], rfl, SqT.of (by rw [upd_same, List.map_append]; rfl), ?_⟩
  refine ⟨_, rfl, b, rfl, ⟨_, k1.seqT hb⟩, fun D nD => lc_mapT (xs := q.1.map V.int) (fun i y _ => ∃ z : Int, q.1[i]? = some z ∧ y = .int (z / ((gcdL (q.1 ++ [q.2]) : Nat) : Int))) (fun _ _ _ _ h _ => h) nD (k1.seqT hb) (by rw [List.length_map]; omega) (fun i x H5 Kc hx g5 kc => ?_) (fun ys H5 hD hl g5 hR => ?_)⟩
  · rw [List.getElem?_map] at hx
    obtain ⟨z, hz, rfl⟩ := Option.map_eq_some_iff.mp hx
    exact ⟨rfl, _, rfl, _, rfl, _, _, rfl, rfl, cd 0, kc _ _ (Gr.refl _) ⟨z, hz, rfl⟩⟩
  · have ey : ys = (divU q).1.map V.int := by
      refine ints_at (by rw [hl, List.length_map]; show _ = (List.map _ q.1).length; rw [List.length_map]) fun i y hy => ?_
      obtain ⟨z, hz, rfl⟩ := hR i y hy
      exact ⟨_, by show (List.map _ q.1)[i]? = _; rw [List.getElem?_map, hz]; rfl, rfl⟩
    subst ey
    refine ⟨D, _, rfl, .inl ⟨SqL.of hD, fun p2 n2 => ?_⟩⟩
    have k5 := (k1.trans g5).new n2 (.tup ((divU q).1.map V.int))
    refine ⟨_, rfl, _, rfl, _, _, rfl, rfl, cd 0, szN (by show 2 ≤ 1000000; decide), fun p3 n3 => ?_⟩
    have k6 := k5.new n3 (.tup [.ref p2, .int (q.2 / ((gcdL (q.1 ++ [q.2]) : Nat) : Int))])
    exact hq _ _ k6 ⟨p3, _, rfl, SqT.of upd_same, p2, rfl, ((Gr.refl _).new n3 _).seqT (SqT.of upd_same)⟩
def spTurnQ (K : PySem.W.Frag) : Sp := fun vs H Q _ => ∃ x q, vs = [x] ∧ QuV K H x q ∧ q.1.length ≤ 8 ∧ ∀ v H', Gr H H' → QuV K H' v (negU q) → Q v H'
/-- the flat normal form -/
def spNorm (K : PySem.W.Frag) : Sp := fun vs H Q _ => ∃ a q, vs = [.ref a] ∧ SqT K H a ((q.1 ++ [q.2]).map V.int) ∧ NonZ q.1 ∧ q.1.length ≤ 8 ∧ ∀ b H', Gr H H' → VF K H' b (nfU q) → Q (.ref b) H'
theorem sc_norm : FnScope ["wholes", "common", "whole"] ["wholes"] (defScope s_normal_form) := ⟨rfl, rfl, rfl, by decide +kernel, rfl, by decide +kernel, by decide +kernel⟩
theorem cl_norm (D : Df K mg "normal_form" s_normal_form) (B : Blt mg) (NS : NSK P K) (CC : Cl P w K mg base 1 "common_of" ["wholes"] (spCommon K)) (CB : Cl P w K mg base 1 "begins_at" ["wholes"] (spBegins K)) : Cl P w K mg base 34 "normal_form" ["wholes"] (spNorm K) := by
  refine D.cl (fun _ _ _ _ _ _ us hl => match us, hl with | [_], _ => rfl) fun f fd F => F.ok sc_norm (fun vs H Q E h => ?_) (fun cdv A outer s H vs Q E hr h => ?_)
  · obtain ⟨a, q, rfl, _⟩ := h
    rfl
  obtain ⟨a, q, rfl, hs, nz, l8, hq⟩ := h
  refine ⟨_, pss_cons (ps_set (i := 1) sc_norm.nd rfl (.inr rfl) (pe_cl CC (hr.mono (by decide)) (pa_cons (pv 0) pa_nil)))
    (pss_cons (ps_if (pt_cmpR op_lt (pe_ix ix_tup (pv 0) (pe_cl CB (hr.mono (by decide)) (pa_cons (pv 0) pa_nil)) (fun _ _ => rfl)) pe_int (nomark _)) (pss_one (ps_set (i := 1) sc_norm.nd rfl (.inr rfl) (pe_un un_neg (pv 1)))) pss_nil)
    (pss_one (ps_ret (pe_ifExp (pt_cmpR op_eq (pv 1) pe_int (nomark _)) (pe_callTy call_tuple_of rfl B.tup bootTup (pa_cons (pv 0) pa_nil)) (pe_callTy call_tuple_of rfl B.tup bootTup (pa_cons (pe_lc (own := [("whole", 2)]) (g := gName 2) rfl sc_norm.nd (pi_tup (pv 0)) (blkOk_by (N := ["wholes", "common", "whole"]) (sc := defScope s_normal_form) (by decide +kernel)) (fun _ _ _ _ _ => pg_name (i := 2) sc_norm.nd rfl (Or.inl rfl)) (fun _ _ _ _ _ => pts_nil) (fun _ _ _ _ _ => pe_op (op_fdivP NS (Room.far hr) rfl rfl rfl rfl rfl) (pv 2) (pv 1))) pa_nil)))))), ?_⟩
  obtain ⟨nf, nc⟩ := nf_flat nz
  have nl := znonZ_app [q.2] nz
  obtain ⟨k1, k2, _⟩ := firstNZ_at nl
  refine ⟨_, rfl, a, q.1 ++ [q.2], rfl, hs, ?_⟩
  refine ⟨_, rfl, _, rfl, a, q.1 ++ [q.2], rfl, hs, nl, a, _, _, .int (lead (q.1 ++ [q.2])), rfl, rfl, hs, atI_nat (by rw [List.getElem?_map, k1]; rfl), _, _, rfl, rfl, _, rfl, ?_⟩
  by_cases hn : lead (q.1 ++ [q.2]) < 0
  · refine iteP hn ⟨_, rfl, _, rfl, ?_⟩
    have ec : -((gcdL (q.1 ++ [q.2]) : Nat) : Int) = nfC q := by unfold nfC; rw [if_pos hn]
    refine ⟨_, rfl, rfl, _, rfl, ?_⟩
    by_cases h1 : -((gcdL (q.1 ++ [q.2]) : Nat) : Int) = 1
    · refine iteP (show V.int (-((gcdL (q.1 ++ [q.2]) : Nat) : Int)) = V.int 1 by rw [h1]) ⟨_, rfl, a, _, rfl, .inr ⟨hs, hq a H (Gr.refl H) ?_⟩⟩
      show SqT K H a _
      rw [nf, ← ec, h1]
      have e1 : (q.1 ++ [q.2]).map (fun z => z.fdiv 1) = q.1 ++ [q.2] := by
        conv => rhs; rw [← List.map_id (q.1 ++ [q.2])]
        exact List.map_congr_left fun z _ => Int.fdiv_one z
      rw [e1]
      exact hs
    · refine iteN (fun z => h1 (by injection z)) ⟨_, rfl, a, rfl, ⟨_, hs⟩, fun D nD => lc_mapT (xs := (q.1 ++ [q.2]).map V.int) (fun i y _ => ∃ z : Int, (q.1 ++ [q.2])[i]? = some z ∧ y = .int (z.fdiv (-((gcdL (q.1 ++ [q.2]) : Nat) : Int)))) (fun _ _ _ _ h _ => h) nD hs (by rw [List.length_map, List.length_append]; show q.1.length + 1 ≤ 1000; omega) (fun i x H5 Kc hx g5 kc => ?_) (fun ys H5 hD hl g5 hR => ?_)⟩
      · rw [List.getElem?_map] at hx
        obtain ⟨z, hz, rfl⟩ := Option.map_eq_some_iff.mp hx
        exact ⟨rfl, _, rfl, _, rfl, _, _, rfl, rfl, by rw [ec]; exact nc, kc _ _ (Gr.refl _) ⟨z, hz, rfl⟩⟩
      · have ey : ys = ((nfU q).1 ++ [(nfU q).2]).map V.int := by
          rw [nf]
          refine ints_at (by rw [hl, List.length_map, List.length_map]) fun i y hy => ?_
          obtain ⟨z, hz, rfl⟩ := hR i y hy
          exact ⟨_, by rw [List.getElem?_map, hz]; rfl, by rw [ec]⟩
        subst ey
        exact ⟨D, _, rfl, .inl ⟨SqL.of hD, fun p2 n2 => hq _ _ (g5.new n2 _) (SqT.of upd_same)⟩⟩
  · refine iteN hn ?_
    have ec : ((gcdL (q.1 ++ [q.2]) : Nat) : Int) = nfC q := by unfold nfC; rw [if_neg hn]
    refine ⟨_, rfl, rfl, _, rfl, ?_⟩
    by_cases h1 : ((gcdL (q.1 ++ [q.2]) : Nat) : Int) = 1
    · refine iteP (show V.int ((gcdL (q.1 ++ [q.2]) : Nat) : Int) = V.int 1 by rw [h1]) ⟨_, rfl, a, _, rfl, .inr ⟨hs, hq a H (Gr.refl H) ?_⟩⟩
      show SqT K H a _
      rw [nf, ← ec, h1]
      have e1 : (q.1 ++ [q.2]).map (fun z => z.fdiv 1) = q.1 ++ [q.2] := by
        conv => rhs; rw [← List.map_id (q.1 ++ [q.2])]
        exact List.map_congr_left fun z _ => Int.fdiv_one z
      rw [e1]
      exact hs
    · refine iteN (fun z => h1 (by injection z)) ⟨_, rfl, a, rfl, ⟨_, hs⟩, fun D nD => lc_mapT (xs := (q.1 ++ [q.2]).map V.int) (fun i y _ => ∃ z : Int, (q.1 ++ [q.2])[i]? = some z ∧ y = .int (z.fdiv ((gcdL (q.1 ++ [q.2]) : Nat) : Int))) (fun _ _ _ _ h _ => h) nD hs (by rw [List.length_map, List.length_append]; show q.1.length + 1 ≤ 1000; omega) (fun i x H5 Kc hx g5 kc => ?_) (fun ys H5 hD hl g5 hR => ?_)⟩
      · rw [List.getElem?_map] at hx
        obtain ⟨z, hz, rfl⟩ := Option.map_eq_some_iff.mp hx
        exact ⟨rfl, _, rfl, _, rfl, _, _, rfl, rfl, by rw [ec]; exact nc, kc _ _ (Gr.refl _) ⟨z, hz, rfl⟩⟩
      · have ey : ys = ((nfU q).1 ++ [(nfU q).2]).map V.int := by
          rw [nf]
          refine ints_at (by rw [hl, List.length_map, List.length_map]) fun i y hy => ?_
          obtain ⟨z, hz, rfl⟩ := hR i y hy
          exact ⟨_, by rw [List.getElem?_map, hz]; rfl, by rw [ec]⟩
        subst ey
        exact ⟨D, _, rfl, .inl ⟨SqL.of hD, fun p2 n2 => hq _ _ (g5.new n2 _) (SqT.of upd_same)⟩⟩
def spNought (K : PySem.W.Frag) : Sp := fun vs H Q _ => ∃ x q, vs = [x] ∧ QuV K H x q ∧ QOk q ∧ q.1.length ≤ 8 ∧ ∀ b H', Gr H H' → VF K H' b (nfU q) → Q (.ref b) H'
theorem sc_nought : FnScope ["question", "sides", "wall"] ["question"] (defScope s_nought_form) := ⟨rfl, rfl, rfl, by decide +kernel, rfl, by decide +kernel, by decide +kernel⟩
theorem cl_nought (D : Df K mg "nought_form" s_nought_form) (CN : Cl P w K mg base 34 "normal_form" ["wholes"] (spNorm K)) : Cl P w K mg base 35 "nought_form" ["question"] (spNought K) := by
  refine D.cl (fun _ _ _ _ _ _ us hl => match us, hl with | [_], _ => rfl) fun f fd F => F.ok sc_nought (fun vs H Q E h => ?_) (fun cdv A outer s H vs Q E hr h => ?_)
  · obtain ⟨x, q, rfl, _⟩ := h
    rfl
  obtain ⟨x, q, rfl, ⟨a, t, rfl, hs, b, rfl, hb⟩, ok, l8, hq⟩ := h
  refine ⟨_, pss_cons (ps_asg (pv 0) (pg_tup rfl (pgs_cons (pg_name (i := 1) sc_nought.nd rfl (Or.inl rfl)) (pgs_cons (pg_name (i := 2) sc_nought.nd rfl (Or.inl rfl)) pgs_nil))))
    (pss_one (ps_ret (pe_cl CN (hr.mono (by decide)) (pa_cons (pe_op op_catT (pv 1) (pe_tup (pa_cons (pv 2) pa_nil))) pa_nil)))), ?_⟩
  refine ⟨_, rfl, a, _, rfl, hs, rfl, _, _, rfl, _, _, rfl, rfl, ?_⟩
  refine ⟨_, rfl, _, rfl, szN (by show 1 ≤ 1000000; decide), fun p0 n0 => ?_⟩
  have k0 := (Gr.refl H).new n0 (.tup [.int q.2])
  refine ⟨_, _, _, _, rfl, rfl, k0.seqT hb, SqT.of upd_same, ne_of_nonZ ok.nz, ?_, fun z => absurd z (List.cons_ne_nil _ _), fun _ p1 n1 => ?_⟩
  · rw [List.length_map]
    exact szN (by show q.1.length + 1 ≤ 1000000; omega)
  have k1 := k0.new n1 (.tup (q.1.map V.int ++ [.int q.2]))
  exact ⟨p1, q, rfl, SqT.of (by rw [upd_same, List.map_append]; rfl), ok.nz, l8, fun b H' g v => hq b H' (k1.trans g) v⟩
end
end SB
namespace SB
open PySem L2 GxR GA RZ SG PpSet
section
variable {P : Program} {w : World} {K : PySem.W.Frag} {mg : Str → Option Value} {base : Heap}
structure BOk (d : Nat) (qs : List (List Int × Int)) : Prop where
  d1 : 1 ≤ d
  d8 : d ≤ 8
  l8 : qs.length ≤ 8
  ok : ∀ q, q ∈ qs → QOk q ∧ q.1.length = d
  nd : (qs.map nfU).Nodup
theorem Tst.put2 {H : Hp} {D : Addr} {o o0 : HO} (hD : H D = some o0) (n1 : ∀ xs, o0 ≠ .tup xs) (n2 : ∀ u xs, o0 ≠ .frz u (.tup xs)) : Tst K H (upd H D o) := fun a xs h => by
  have ne : ∀ {o1 : HO}, H a = some o1 → o1 ≠ o0 → a ≠ D := fun e z q => by
    rw [q, hD] at e
    exact z (Option.some.inj e).symm
  rcases h with (h | ⟨u, h⟩) | h
  · exact .inl (.inl (by rw [upd_ne (ne h (Ne.symm (n1 xs)))]; exact h))
  · exact .inl (.inr ⟨u, by rw [upd_ne (ne h (Ne.symm (n2 u xs)))]; exact h⟩)
  · exact .inr h
theorem vf_st {H H' : Hp} {a : Addr} {k : Fm} (h : VF K H a k) (g : Tst K H H') : VF K H' a k := g _ _ h
/-- the members' keys of a set that is built -/
theorem nd_at {α β : Type} [DecidableEq β] {f : α → β} {l : List α} {i : Nat} {x : α} (h : (l.map f).Nodup) (e : l[i]? = some x) : f x ∉ (l.take i).map f := fun hm => by
  obtain ⟨hi, ex⟩ := List.getElem?_eq_some_iff.mp e
  obtain ⟨y, hy, ef⟩ := List.mem_map.mp hm
  obtain ⟨j, hj, ey⟩ := List.getElem_of_mem hy
  have hj' : j < i := by
    rw [List.length_take] at hj
    omega
  rw [List.getElem_take] at ey
  have h1 : (l.map f)[j]'(by rw [List.length_map]; omega) = (l.map f)[i]'(by rw [List.length_map]; exact hi) := by
    rw [List.getElem_map, List.getElem_map, ey, ef, ex]
  exact List.pairwise_iff_getElem.mp h j i (by rw [List.length_map]; omega) (by rw [List.length_map]; exact hi) hj' h1
def spBook (K : PySem.W.Frag) : Sp := fun vs H Q _ => ∃ x d qs, vs = [x] ∧ BkV K H x d qs ∧ BOk d qs ∧ ∀ H', Gr H H' → Q (.bl true) H'
theorem sc_book : FnScope ["told", "d", "questions", "question"] ["told"] (defScope s_is_book) := ⟨rfl, rfl, rfl, by decide +kernel, rfl, by decide +kernel, by decide +kernel⟩
theorem cl_book (D : Df K mg "is_book" s_is_book) (B : Blt mg) (CM : Cl P w K mg base 2 "_is_many" ["d"] spMany) (CQ : Cl P w K mg base 5 "is_question_of" ["told", "d"] (spQuestOf K)) (CN : Cl P w K mg base 35 "nought_form" ["question"] (spNought K)) :
    Cl P w K mg base 37 "is_book" ["told"] (spBook K) := by
  refine D.cl (fun _ _ _ _ _ _ us hl => match us, hl with | [_], _ => rfl) fun f fd F => F.ok sc_book (fun vs H Q E h => ?_) (fun cdv A outer s H vs Q E hr h => ?_)
  · obtain ⟨x, d, qs, rfl, _⟩ := h
    rfl
  obtain ⟨x, d, qs, rfl, ⟨a, b, xs, rfl, ha, hb, hp⟩, ok, hq⟩ := h
  refine ⟨_, pss_cons (ps_if (PW.pt (by exact (pw_or (pt_not (pt_val (pe_isi "tuple" (pv 0) bootTup B.tup B.isi))) (pw_or1 (pt_cmpR op_ne (pe_len (pv 0) B.len) pe_int (nomark _)))))) pss_no pss_nil)
    (pss_cons (ps_asg (pv 0) (pg_tup rfl (pgs_cons (pg_name (i := 1) sc_book.nd rfl (Or.inl rfl)) (pgs_cons (pg_name (i := 2) sc_book.nd rfl (Or.inl rfl)) pgs_nil))))
    (pss_cons (ps_if (PW.pt (by exact (pw_or (pt_not (pt_val (pe_cl CM (hr.mono (by decide)) (pa_cons (pv 1) pa_nil)))) (pw_or1 (pt_not (pt_val (pe_isi "tuple" (pv 2) bootTup B.tup B.isi))))))) pss_no pss_nil)
    (pss_cons (ps_for PassesOwn.never rfl (pi_tup (pv 2)) (pg_name (i := 3) sc_book.nd rfl (Or.inl rfl))
      (pss_one (ps_if (pt_not (pt_val (pe_cl CQ (hr.mono (by decide)) (pa_cons (pv 3) (pa_cons (pv 1) pa_nil))))) pss_no pss_nil)))
    (pss_one (ps_ret (pe_cmpR op_eq (pe_callB len_setG rfl B.len PySem.boot_len (pa_cons (pe_sg (Q0 := trivial) (own := [("question", 3)]) (g := gName 3) rfl hr.units sc_book.nd (pi_tup (pv 2)) (blkOk_by (N := ["told", "d", "questions", "question"]) (sc := defScope s_is_book) (by decide +kernel)) (fun _ _ _ _ _ => pg_name (i := 3) sc_book.nd rfl (Or.inl rfl)) (fun _ _ _ _ _ => pts_nil)
      (fun _ _ _ _ _ => pe_cl CN (hr.mono (by decide)) (pa_cons (pv 3) pa_nil))) pa_nil)) (pe_len (pv 2) B.len) (nomark _))))))), ?_⟩
  refine ⟨_, rfl, _, _, .tup ha, kTT, _, rfl, iteF ⟨_, rfl, a, _, rfl, .inr ha, rfl, _, rfl, iteNS rfl ⟨_, rfl, a, _, rfl, ha, rfl, _, _, rfl, _, _, rfl, rfl, ?_⟩⟩⟩
  refine ⟨_, rfl, _, rfl, by have := ok.d1; omega, _, rfl, iteF ⟨_, rfl, _, _, .tup hb, kTT, _, rfl, iteF ?_⟩⟩
  have lx : xs.length = qs.length := paired_len hp
  refine ⟨_, rfl, b, rfl, ⟨_, hb⟩, for_tup (xs := xs) (fun i σ H1 => ∃ c, σ = [some (.ref a), some (.int (d : Int)), some (.ref b), c] ∧ Gr H H1) ⟨_, rfl, Gr.refl H⟩ (fun i σ H1 _ h => ?_) (fun i x σ H1 hx h => ?_) (fun σ H3 h => ?_)⟩
  · obtain ⟨c, rfl, gr⟩ := h
    exact gr.seqT hb
  · obtain ⟨c, rfl, gr⟩ := h
    obtain ⟨q, hq1, hn⟩ := paired_get hp hx
    obtain ⟨qo, ql⟩ := ok.ok q (List.mem_of_getElem? hq1)
    exact ⟨_, rfl, _, rfl, x, q, by rw [ql]; rfl, hn.gr gr, qo.nz, fun H' g4 => ⟨_, rfl, iteF ⟨some x, rfl, gr.trans g4⟩⟩⟩
  obtain ⟨c, rfl, g4⟩ := h
  have hb3 := g4.seqT hb
  refine ⟨_, rfl, b, rfl, ⟨_, hb3⟩, fun D nD => ?_⟩
  refine sg_tup (xs := xs) (fun i H => ∃ L : List (Addr × Fm), H D = some (SetGO P w D L) ∧ L.length = i ∧ GrD D H3 H ∧ (∀ p ∈ L, VF K H p.1 p.2) ∧ ∀ k, k ∈ L.map (·.2) ↔ k ∈ (qs.take i).map nfU)
    ⟨[], upd_same, rfl, (GrD.refl D H3).set _, fun p h => by simp at h, fun k => by simp⟩ (fun i H h1 h => ?_) (fun i x H hx h => ?_) (fun H h => ?_)
  · obtain ⟨L, hD, hl, gr, _⟩ := h
    exact (gr.to nD).seqT hb3
  · obtain ⟨L, hD, hl, gr, hv, hk⟩ := h
    obtain ⟨q, hq1, hn⟩ := paired_get hp hx
    have hi := (List.getElem?_eq_some_iff.mp hq1).1
    have l8 := ok.l8
    obtain ⟨qo, ql⟩ := ok.ok q (List.mem_of_getElem? hq1)
    have d8 := ok.d8
    have g5 := gr.to nD
    refine ⟨rfl, _, rfl, x, q, rfl, hn.gr (g4.trans g5), qo, by omega, fun a4 H4 g6 vf => ?_⟩
    have hD4 : H4 D = some (SetGO P w D L) := g6.keep D _ (fun _ z => by unfold SetGO at z; cases z) hD
    refine ⟨a4, nfU q, L, rfl, vf, hD4, fun p hp' => vf_st (hv p hp') g6.st, by omega, fun L' h1 h2 => ?_⟩
    have nin : nfU q ∉ L.map (·.2) := fun z => nd_at ok.nd hq1 ((hk _).mp z)
    have pm := h2 nin
    have tp : Tst K H4 (upd H4 D (SetGO P w D L')) := Tst.put2 hD4 (fun _ z => by unfold SetGO at z; cases z) (fun _ _ z => by unfold SetGO at z; cases z)
    refine ⟨L', upd_same, by rw [pm.length_eq, List.length_cons, hl], (gr.trans (g6.d D)).set _, fun p hp' => ?_, fun k => ?_⟩
    · rcases List.mem_cons.mp (pm.mem_iff.mp hp') with rfl | hp2
      · exact vf_st vf tp
      · exact vf_st (vf_st (hv p hp2) g6.st) tp
    · have e1 : k ∈ L'.map (·.2) ↔ k = nfU q ∨ k ∈ L.map (·.2) := by
        rw [(pm.map _).mem_iff, List.map_cons, List.mem_cons]
      rw [e1, hk k, List.take_add_one, hq1, Option.toList_some, List.map_append, List.mem_append, List.map_singleton, List.mem_singleton]
      exact Or.comm
  · obtain ⟨L, hD, hl, gr, _⟩ := h
    have g5 := gr.to nD
    refine ⟨D, L, rfl, hD, _, rfl, b, _, rfl, .inr (g5.seqT hb3), rfl, ?_⟩
    exact qd (by rw [hl]) (hq H (g4.trans g5))
end
end SB
namespace SB
open PySem L2 GxR GA RZ
section
variable {P : Program} {w : World} {K : PySem.W.Frag} {mg : Str → Option Value} {base : Heap}
/-- the tables that the program's defs want: how many, which -/
structure Tb5 (T : Nat → Addr) (H : Hp) : Prop where
  t : ∀ i, i < T 0 → TabG H (T (i + 1))
theorem Tb5.gr {T : Nat → Addr} {H H' : Hp} (t : Tb5 T H) (g : Gr H H') : Tb5 T H' := ⟨fun i h => g.tab _ (t.t i h)⟩
def spChkBk (K : PySem.W.Frag) (T : Nat → Addr) : Sp := fun vs H Q _ => ∃ x d qs, vs = [x] ∧ Tb5 T H ∧ BkV K H x d qs ∧ BOk d qs ∧ ∀ H', Gr H H' → Q .non H'
theorem sc_chkBk : FnScope ["book"] ["book"] (defScope s_check_book) := ⟨rfl, rfl, rfl, by decide +kernel, rfl, by decide +kernel, by decide +kernel⟩
theorem cl_chkBk {T : Nat → Addr} (D : Df K mg "check_book" s_check_book) (CB : Cl P w K mg base 37 "is_book" ["told"] (spBook K)) : Cl P w K mg base 38 "check_book" ["book"] (spChkBk K T) := by
  refine D.cl (fun _ _ _ _ _ _ us hl => match us, hl with | [_], _ => rfl) fun f fd F => F.ok sc_chkBk (fun vs H Q E h => ?_) (fun cdv A outer s H vs Q E hr h => ?_)
  · obtain ⟨x, d, qs, rfl, _⟩ := h
    rfl
  obtain ⟨x, d, qs, rfl, tb, hx, ok, q⟩ := h
  refine ⟨_, pss_one (ps_if (pt_not (pt_val (pe_cl CB (hr.mono (by decide)) (pa_cons (pv 0) pa_nil)))) pss_no pss_nil), ?_⟩
  exact ⟨_, rfl, x, d, qs, rfl, hx, ok, fun H' g => ⟨_, rfl, iteF (q H' g)⟩⟩
/-- the answer of a question at a point -/
def ansU (q : List Int × Int) (us : List (Int × Int)) : Int := sgn (worthU q us).1
def spAnsAt (K : PySem.W.Frag) : Sp := fun vs H Q _ => ∃ x y q us, vs = [x, y] ∧ QuV K H x q ∧ PtV K H y us ∧ QOk q ∧ UsOk us ∧ q.1.length = us.length ∧ ∀ H', Gr H H' → Q (.int (ansU q us)) H'
theorem worth_pos {q : List Int × Int} {us : List (Int × Int)} (h : ∀ u, u ∈ us → Lo u) : 0 < (worthU q us).2 := by
  refine sumU_pos (by show (0 : Int) < 1; decide) fun p hp => ?_
  exact (h p.2 (List.of_mem_zip (a := p.1) (b := p.2) hp).2).1
theorem sgn_eqr {r : Int × Int} {N D : Int} (h : Eqr r N D) (hr : 0 < r.2) (hD : 0 < D) : sgn r.1 = sgn N := by
  obtain ⟨a, _, b⟩ := eqr_sign h hr hD
  unfold sgn
  by_cases h1 : 0 < r.1
  · rw [if_pos h1, if_pos (a.mp h1)]
  · rw [if_neg h1, if_neg (fun z => h1 (a.mpr z))]
    by_cases h2 : r.1 < 0
    · rw [if_pos h2, if_pos (b.mp h2)]
    · rw [if_neg h2, if_neg (fun z => h2 (b.mpr z))]
def rowU (qs : List (List Int × Int)) (us : List (Int × Int)) : List Int := qs.map fun q => ansU q us
def spRowAt (K : PySem.W.Frag) : Sp := fun vs H Q _ => ∃ x y d qs us, vs = [x, y] ∧ BkV K H x d qs ∧ PtV K H y us ∧ BOk d qs ∧ UsOk us ∧ us.length = d ∧ ∀ v H', Gr H H' → SiV K H' v (rowU qs us) → Q v H'
def spAnswer (K : PySem.W.Frag) (T : Nat → Addr) : Sp := fun vs H Q _ => ∃ x y q us, vs = [x, y] ∧ Tb5 T H ∧ QuV K H x q ∧ PtV K H y us ∧ QOk q ∧ UsOk us ∧ q.1.length = us.length ∧ ∀ H', Gr H H' → Q (.int (ansU q us)) H'
def spRowOf (K : PySem.W.Frag) (T : Nat → Addr) : Sp := fun vs H Q _ => ∃ x y d qs us, vs = [x, y] ∧ Tb5 T H ∧ BkV K H x d qs ∧ PtV K H y us ∧ BOk d qs ∧ UsOk us ∧ us.length = d ∧ ∀ v H', Gr H H' → SiV K H' v (rowU qs us) → Q v H'
end
end SB
namespace SB
open PySem L2 GxR GA RZ
/-- a walk over two tuples side by side -/
theorem plan_zipT {K : PySem.W.Frag} {a b : Addr} {xs ys : List V} {g : TG} {te : TE} {σ0 : L2.St} {vs : List Nat} {QT QF : Hp → Prop} {H2 : Hp} (p : Nat → Prop) (hl : xs.length = ys.length) (hS : SqT K H2 a xs) (hS2 : SqT K H2 b ys)
    (step : ∀ i x y T H, xs[i]? = some x → ys[i]? = some y → Gr H2 H → H T = none → (∀ j, j < i → p j) → g (.ref T) σ0 (upd H T (.tup [x, y])) fun σ2 H3 => wipe σ2 vs = σ0 ∧ te σ2 H3 fun z H4 => ∃ b, z = .bl b ∧ (if b = true then Gr H2 H4 ∧ p i else QF H4))
    (fin : ∀ H, Gr H2 H → (∀ i, i < xs.length → p i) → QT H) : ∃ W : Nat → Nat → Hp → Prop, (∃ m, W 0 m H2) ∧ Plan (ItzT K a b) g tYes te σ0 vs QT QF W := by
  refine ⟨fun i m H => Gr H2 H ∧ i + m = xs.length ∧ ∀ j, j < i → p j, ⟨xs.length, Gr.refl _, Nat.zero_add _, fun j hj => absurd hj (Nat.not_lt_zero _)⟩, fun i m H w => ?_⟩
  obtain ⟨gr, hm, hp⟩ := w
  have hSi := gr.seqT hS
  have hSi2 := gr.seqT hS2
  cases m with
  | zero => exact .inl ⟨⟨xs, ys, hSi, hSi2, .inl (by omega)⟩, fin H gr fun j hj => hp j (by omega)⟩
  | succ m =>
    have hi : i < xs.length := by omega
    have hi2 : i < ys.length := by omega
    refine .inr ⟨⟨xs, ys, xs[i], ys[i], hSi, hSi2, List.getElem?_eq_getElem hi, List.getElem?_eq_getElem hi2⟩, fun H' => Gr H2 H' ∧ p i, fun H' h => ⟨m, Nat.lt_succ_self _, h.1, by omega, fun j hj => ?_⟩, fun v H' hy => ?_⟩
    · by_cases e : j = i
      · rw [e]
        exact h.2
      · exact hp j (by omega)
    · obtain ⟨T, x, y, rfl, nT, rfl, hx, hy2⟩ := hy
      exact step i x y T H (hx xs hSi) (hy2 ys hSi2) gr nT hp
section
variable {P : Program} {w : World} {K : PySem.W.Frag} {mg : Str → Option Value} {base : Heap}
def hopeV : Option Int → V
  | none => .non
  | some i => .int i
def fit1 (h : Option Int) (z : Int) : Bool := match h with
  | none => true
  | some i => decide (i = z)
def fitU (hs : List (Option Int)) (zs : List Int) : Bool := (hs.zip zs).all fun p => fit1 p.1 p.2
def HpOk (hs : List (Option Int)) : Prop := ∀ i, some i ∈ hs → -1 ≤ i ∧ i ≤ 1
def spFits (K : PySem.W.Frag) (T : Nat → Addr) : Sp := fun vs H Q _ => ∃ x a y d qs us hs, vs = [x, .ref a, y] ∧ Tb5 T H ∧ BkV K H x d qs ∧ SqT K H a (hs.map hopeV) ∧ PtV K H y us ∧ BOk d qs ∧ hs.length = qs.length ∧ HpOk hs ∧ UsOk us ∧ us.length = d ∧ ∀ H', Gr H H' → Q (.bl (fitU hs (rowU qs us))) H'
/-- two tuples put together -/
theorem rcat {H : Hp} {a b : Addr} {xs ys : List V} {Kc : VK} (ha : SqT K H a xs) (hb : SqT K H b ys) (hz : xs.length + ys.length ≤ 1000) (k : ∀ c H', Gr H H' → SqT K H' c (xs ++ ys) → Kc (.ref c) H') : L2.rCatA K (.ref a) (.ref b) H Kc := by
  refine ⟨a, b, xs, ys, rfl, rfl, ha, hb, szN (by omega), fun e => ?_, fun _ e => ?_, fun _ _ p np => ?_⟩
  · subst e
    exact k b H (Gr.refl _) hb
  · subst e
    exact k a H (Gr.refl _) (by rw [List.append_nil]; exact ha)
  · exact k p _ ((Gr.refl _).new np _) (SqT.of upd_same)
end
end SB
namespace SB
open PySem L2 GxR GA RZ
section
variable {P : Program} {w : World} {K : PySem.W.Frag} {mg : Str → Option Value} {base : Heap}
theorem cut_to (xs : List V) (i : Nat) (h : i ≤ xs.length) : cutV xs none (some (i : Int)) = xs.take i := by
  unfold cutV
  rw [HT.sIx_none, HT.sIx_nat, List.drop_zero, Nat.sub_zero, Nat.min_eq_left h]
theorem cut_from (xs : List V) (i : Nat) (h : i ≤ xs.length) : cutV xs (some (i : Int)) none = xs.drop i := by
  unfold cutV
  rw [HT.sIx_none, HT.sIx_nat, Nat.min_eq_left h, List.take_of_length_le]
  rw [List.length_drop]
  exact Nat.le_refl _
/-- the book with a question turned -/
def turnU (qs : List (List Int × Int)) (i : Nat) : List (List Int × Int) := match qs[i]? with
  | some q => (qs.take i ++ [negU q]) ++ qs.drop (i + 1)
  | none => qs
theorem paired_app {α β : Type} {F : α → β → Prop} : ∀ {xs xs' : List α} {ys ys' : List β}, Paired F xs ys → Paired F xs' ys' → Paired F (xs ++ xs') (ys ++ ys')
  | _, _, _, _, .nil, h => h
  | _, _, _, _, .cons r t, h => .cons r (paired_app t h)
theorem paired_take {α β : Type} {F : α → β → Prop} : ∀ {xs : List α} {ys : List β} (n : Nat), Paired F xs ys → Paired F (xs.take n) (ys.take n)
  | _, _, 0, _ => by simp only [List.take_zero]; exact .nil
  | _, _, _ + 1, .nil => .nil
  | _, _, n + 1, .cons r t => .cons r (paired_take n t)
theorem paired_drop {α β : Type} {F : α → β → Prop} : ∀ {xs : List α} {ys : List β} (n : Nat), Paired F xs ys → Paired F (xs.drop n) (ys.drop n)
  | _, _, 0, h => h
  | _, _, _ + 1, .nil => .nil
  | _, _, n + 1, .cons r t => paired_drop n t
def spTurned (K : PySem.W.Frag) (T : Nat → Addr) : Sp := fun vs H Q _ => ∃ x d qs i, vs = [x, .int ((i : Nat) : Int)] ∧ Tb5 T H ∧ BkV K H x d qs ∧ BOk d qs ∧ i < qs.length ∧ ∀ v H', Gr H H' → BkV K H' v d (turnU qs i) → Q v H'
end
end SB
namespace SB
open PySem L2 GxR GA
/-- the same data, of nesting n at most -/
def Alike (K : PySem.W.Frag) (H : Hp) : Nat → V → V → Prop
  | 0 => fun _ _ => False
  | n + 1 => fun x y => (x = y ∧ scB x = true) ∨ ∃ (a b : Addr) (xs ys : List V), x = .ref a ∧ y = .ref b ∧ ys.length ≤ sizeLine ∧ ((SqT K H a xs ∧ SqT K H b ys) ∨ (SqL K H a xs ∧ SqL K H b ys)) ∧ Paired (Alike K H n) xs ys
theorem Alike.gr {K : PySem.W.Frag} {H H' : Hp} (e : Gr H H') : ∀ {n : Nat} {x y : V}, Alike K H n x y → Alike K H' n x y
  | 0, _, _, h => h.elim
  | n + 1, x, y, h => by
    rcases h with h | ⟨a, b, xs, ys, rfl, rfl, hz, h, p⟩
    · exact .inl h
    · refine .inr ⟨a, b, xs, ys, rfl, rfl, hz, ?_, Paired.mapP p fun _ _ q => Alike.gr e q⟩
      rcases h with ⟨h1, h2⟩ | ⟨h1, h2⟩
      · exact .inl ⟨Gr.seqT e h1, Gr.seqT e h2⟩
      · exact .inr ⟨e.seqL h1, e.seqL h2⟩
theorem Alike.more {K : PySem.W.Frag} {H : Hp} : ∀ {n : Nat} {x y : V}, Alike K H n x y → Alike K H (n + 1) x y
  | 0, _, _, h => h.elim
  | n + 1, x, y, h => by
    rcases h with h | ⟨a, b, xs, ys, rfl, rfl, hz, h, p⟩
    · exact .inl h
    · exact .inr ⟨a, b, xs, ys, rfl, rfl, hz, h, Paired.mapP p fun _ _ q => Alike.more q⟩
theorem paired_at {α β : Type} {F : α → β → Prop} : ∀ {xs : List α} {ys : List β}, Paired F xs ys → ∀ i, i < ys.length → ∃ x y, xs[i]? = some x ∧ ys[i]? = some y ∧ F x y
  | _, _, .nil, i, h => absurd h (Nat.not_lt_zero i)
  | _, _, .cons r t, 0, _ => ⟨_, _, rfl, rfl, r⟩
  | _, _, .cons r t, i + 1, h => by
    obtain ⟨x, y, e1, e2, q⟩ := paired_at t i (Nat.lt_of_succ_lt_succ h)
    exact ⟨x, y, by simpa using e1, by simpa using e2, q⟩
/-- the two are the same data: the answer is True -/
def spSame (K : PySem.W.Frag) (n : Nat) : Sp := fun vs H Q _ => ∃ x y : V, vs = [x, y] ∧ Alike K H n x y ∧ ∀ H', Gr H H' → Q (.bl true) H'
section
variable {P : Program} {w : World} {K : PySem.W.Frag} {mg : Str → Option Value} {base : Heap}
theorem szL2 : (2 : Nat) ≤ sizeLine := by decide
theorem qt {Q : VK} {H : Hp} {b : Bool} (e : b = true) (q : Q (.bl true) H) : Q (.bl b) H := by
  rw [e]
  exact q
theorem szL0 : (0 : Nat) ≤ sizeLine := by decide
end
end SB
namespace SB
open PySem L2 GxR GA
/-- the deck as it may stand at d -/
def DeckAt (d : Addr) (H : Hp) : Prop := ∃ a b : Int, H d = some (.lst [.int a, .int b]) ∧ 0 ≤ b ∧ b < 2 ^ 64
theorem DeckAt.gr {d : Addr} {H H' : Hp} (h : DeckAt d H) (g : Gr H H') : DeckAt d H' := let ⟨a, b, e, r⟩ := h; ⟨a, b, g.keep _ _ (fun _ z => nomatch z) e, r⟩
theorem GrD.st {K : PySem.W.Frag} {d : Addr} {H H' : Hp} (g : GrD d H H') (h : DeckAt d H) : Tst K H H' := fun a xs q => by
  obtain ⟨u, v, e, _⟩ := h
  exact g.seqT e q
/-- a deck: a new list of two ints -/
def spDeck (K : PySem.W.Frag) : Sp := fun vs H Q _ => ∃ (l : Addr) (ns : List Int) (k : Int), vs = [.ref l, .int k] ∧ SqL K H l (ns.map V.int) ∧ ns.length ≤ 63 ∧ 0 ≤ k ∧ k < 1000 ∧
  ∀ (p : Addr) (a b : Int), H p = none → 0 ≤ b → b < 2305843009213693951 → Q (.ref p) (upd H p (.lst [.int a, .int b]))
def spTake : Sp := fun vs H Q _ => ∃ (d : Addr) (many : Int), vs = [.ref d, .int many] ∧ DeckAt d H ∧ 1 ≤ many ∧ many.natAbs < 2 ^ 8000 ∧
  ∀ (t : Int) H', 0 ≤ t → t < many → GrD d H H' → DeckAt d H' → Q (.int t) H'
section
variable {P : Program} {w : World} {K : PySem.W.Frag} {mg : Str → Option Value} {base : Heap}
theorem modB (x : Int) {m : Int} (h : 0 < m) : 0 ≤ x % m ∧ x % m < m := ⟨Int.emod_nonneg _ (by omega), Int.emod_lt_of_pos _ h⟩
theorem atL {ns : List Int} {k : Int} (h0 : 0 ≤ k) (h : k < (ns.length : Int)) : ∃ z : Int, atI (ns.map V.int) k = some (.int z) := by
  have hk : k.toNat < ns.length := by omega
  have ek : ((k.toNat : Nat) : Int) = k := Int.toNat_of_nonneg h0
  refine ⟨ns[k.toNat], ?_⟩
  have q : atI (ns.map V.int) ((k.toNat : Nat) : Int) = some (.int ns[k.toNat]) := atI_nat (by rw [List.getElem?_map, List.getElem?_eq_getElem hk] <;> rfl)
  rwa [ek] at q
end
section
variable {P : Program} {w : World} {K : PySem.W.Frag} {mg : Str → Option Value} {base : Heap}
end
end SB
namespace SB
open PySem L2 GxR GA
section
variable {P : Program} {w : World} {K : PySem.W.Frag} {mg : Str → Option Value} {base : Heap}
def spGcd : Sp := fun vs H Q _ => ∃ u v : Nat, vs = [.int (u : Int), .int (v : Int)] ∧ Q (.int ((Nat.gcd u v : Nat) : Int)) H
def spPair (K : PySem.W.Frag) : Sp := fun vs H Q _ => ∃ t b : Int, vs = [.int t, .int b] ∧ b ≠ 0 ∧ Wd 310000 (t, b) ∧ ∀ v r H', Gr H H' → NuV K H' v r → Lo r → Eqr r t b → r.1.natAbs ≤ t.natAbs → r.2.natAbs ≤ b.natAbs → Q v H'
def spTenth : Sp := fun vs H Q _ => ∃ k : Nat, vs = [.int (k : Int)] ∧ k ≤ 64 ∧ Q (.int ((10 : Int) ^ k)) H
end
end SB
namespace ZM
open PySem PySem.Spec L2 RZ
/-- what an iterator over a row of items must do: It, the iterator; Sq, the row -/
structure Runs1 (prog : Program) (w : World) (It : Heap → Addr → Addr → Nat → Prop) (Sq : Heap → Addr → Array Value → Prop) : Prop where
  stay : ∀ {h h' : Heap} {i l b : Addr} {k : Nat}, It h i l k → Heap.ExtBut b h h' → i ≠ b → It h' i l k
  sits : ∀ {h h' : Heap} {l b : Addr} {v : Array Value}, Sq h l v → Heap.ExtBut b h h' → l ≠ b → Sq h' l v
  here : ∀ {h : Heap} {i l : Addr} {k : Nat}, It h i l k → ∃ o, h.get? i = some o ∧ ∀ z, o.data ≠ .cell z
  same : ∀ {h h' : Heap} {i l : Addr} {k : Nat}, It h i l k → (∀ o, h.get? i = some o → h'.get? i = some o) → It h' i l k
  more : ∀ {A : Around} {E : Value → Shared → Prop} {s : Shared} {i l : Addr} {k : Nat} {v : Array Value} {x : Value} {Q : Value → Shared → Prop}, It s.heap i l k → Sq s.heap l v → v[k]? = some x →
    (∀ h', It h' i l (k + 1) → Heap.SameBut i s.heap h' → Q x { s with heap := h' }) → wpAny (model prog w) A (Builtin.SmallTypes.nextOf (.ref i)) Q E s
  ends : ∀ {A : Around} {E : Value → Shared → Prop} {s : Shared} {i l : Addr} {k : Nat} {v : Array Value} {Q : Value → Shared → Prop}, A.handled = none → It s.heap i l k → Sq s.heap l v → v[k]? = none →
    (∀ h' e, Heap.ExtBut i s.heap h' → (∃ o, h'.get? e = some o ∧ o.cls = .type "StopIteration") → E (.ref e) { s with heap := h' }) → wpAny (model prog w) A (Builtin.SmallTypes.nextOf (.ref i)) Q E s
theorem runs_list {prog : Program} {w : World} : Runs1 prog w (fun h i l k => h.IsListIter i l k) (fun h l v => h.IsList l v) :=
  ⟨fun x e n => x.extBut e n, fun x e n => x.extBut e n, fun ⟨o, e, _, d⟩ => ⟨o, e, fun z q => by rw [d] at q; cases q⟩, fun x k => x.at k, fun a b c d => wpAny_nextOf_list_item a b c d, fun hh a b c d => wpAny_nextOf_list_end hh a b c d⟩
theorem runs_tup {prog : Program} {w : World} : Runs1 prog w (fun h i l k => h.IsTupleIter i l k) (fun h l v => h.IsTuple l v) :=
  ⟨fun x e n => x.extBut e n, fun x e n => x.extBut e n, fun ⟨o, e, _, d⟩ => ⟨o, e, fun z q => by rw [d] at q; cases q⟩, fun x k => x.at k, fun a b c d => nextOf_tuple_item a b c d, fun hh a b c d => nextOf_tuple_end hh a b c d⟩
/-- nothing but the zip, its own pair and the two iterators has changed -/
abbrev Kept (z TO i1 i2 : Addr) (h h' : Heap) : Prop := ∀ c o, c ≠ z → c ≠ TO → c ≠ i1 → c ≠ i2 → h.get? c = some o → h'.get? c = some o
section
variable {prog : Program} {w : World} {A : Around} {E : Value → Shared → Prop} {s : Shared} {I1 I2 : Heap → Addr → Addr → Nat → Prop} {S1 S2 : Heap → Addr → Array Value → Prop}
  {z TI TO i1 i2 l1 l2 : Addr} {k1 k2 : Nat} {xs ys : Array Value} {x y a b : Value}
theorem zip_more (r1 : Runs1 prog w I1 S1) (r2 : Runs1 prog w I2 S2) {Q : Value → Shared → Prop} (D : ZipApart z TI TO i1 i2 l1 l2) (hz : IsZip s.heap z TI TO .none) (hTI : IsPair s.heap TI (.ref i1) (.ref i2)) (hTO : IsPair s.heap TO a b)
    (h1 : I1 s.heap i1 l1 k1) (h2 : I2 s.heap i2 l2 k2) (hl1 : S1 s.heap l1 xs) (hl2 : S2 s.heap l2 ys) (hx : xs[k1]? = some x) (hy : ys[k2]? = some y)
    (hQ : ∀ h', IsZip h' z TI TO (rawInt s.heap.objs.size) → IsPair h' TO x y → I1 h' i1 l1 (k1 + 1) → I2 h' i2 l2 (k2 + 1) → IsPair h' s.heap.objs.size x y → h'.objs.size = s.heap.objs.size + 1 → Kept z TO i1 i2 s.heap h' → Q (.ref s.heap.objs.size) { s with heap := h' }) :
    wpAny (model prog w) A (Builtin.«zip.__next__» ⟨[.ref z], []⟩) (fun fin s' => ∃ v, fin = .done (.ret v) ∧ Q v s') E s := by
  show wpAny _ _ (field (.ref z) 2 >>= _) _ _ _
  refine wpAny_bind (wpAny_field hz rfl (x := .bool false) rfl ?_)
  show wpAny _ _ (field (.ref z) 3 >>= _) _ _ _
  refine wpAny_bind (wpAny_field hz rfl (x := .ref TI) rfl (wpAny_bind (wpAny_seqItems hTI rfl ?_)))
  show wpAny _ _ (Builtin.SmallTypes.ownedTupleIsFree (.ref z) >>= _) _ _ _
  unfold Builtin.SmallTypes.ownedTupleIsFree
  refine wpAny_bind (wpAny_bind (wpAny_field hz rfl (x := .none) rfl (wpAny_pure ?_)))
  simp only [if_true]
  refine wpAny_bind (wpAny_rule (wpAny_bind (wpAny_field hz rfl (x := .ref TO) rfl (wpAny_bind (wpAny_setField_rec hz (by simp) fun g1 z1 e1 => ?_)))))
  have z1' : IsZip g1 z TI TO .ellipsis := z1
  refine wpAny_bind ?_
  simp only [List.zipIdx_cons, List.zipIdx_nil, List.forIn_cons, List.forIn_nil]
  refine wpAny_bind (wpAny_bind (wpAny_onRaise ?_))
  show wpAny _ _ (Builtin.SmallTypes.nextOf (.ref i1) >>= _) _ _ _
  refine wpAny_bind (r1.more (r1.stay h1 e1.extBut D.i1z) (r1.sits hl1 e1.extBut D.l1z) hx fun g2 n2 e2 => wpAny_pure ?_)
  have o2 : IsPair g2 TO a b := e2.extBut _ _ D.TOi1 (e1.extBut _ _ D.TOz hTO)
  refine wpAny_bind (wpAny_seqItems o2 rfl (wpAny_bind (wpAny_updateSeq_pair o2 fun g3 o3 e3 => wpAny_bind (wpAny_letGo (wpAny_pure ?_)))))
  have o3' : IsPair g3 TO x b := o3
  refine wpAny_bind (wpAny_bind (wpAny_onRaise ?_))
  show wpAny _ _ (Builtin.SmallTypes.nextOf (.ref i2) >>= _) _ _ _
  refine wpAny_bind (r2.more (r2.stay (r2.stay (r2.stay h2 e1.extBut D.i2z) e2.extBut D.i12.symm) e3.extBut D.TOi2.symm) (r2.sits (r2.sits (r2.sits hl2 e1.extBut D.l2z) e2.extBut D.l2i1) e3.extBut D.l2TO) hy fun g4 n4 e4 => wpAny_pure ?_)
  have o4 : IsPair g4 TO x b := e4.extBut _ _ D.TOi2 o3'
  refine wpAny_bind (wpAny_seqItems o4 rfl (wpAny_bind (wpAny_updateSeq_pair o4 fun g5 o5 e5 => wpAny_bind (wpAny_letGo (wpAny_pure (wpAny_pure ?_))))))
  have o5' : IsPair g5 TO x y := o5
  refine wpAny_bind (wpAny_seqItems o5' rfl (wpAny_bind (wpAny_newTuple ?_)))
  have sz : g5.objs.size = s.heap.objs.size := by rw [e5.1, e4.1, e3.1, e2.1, e1.1]
  have z5 : IsZip g5 z TI TO .ellipsis := e5.extBut _ _ D.TOz.symm (e4.extBut _ _ D.i2z.symm (e3.extBut _ _ D.TOz.symm (e2.extBut _ _ D.i1z.symm z1')))
  have kp : Kept z TO i1 i2 s.heap g5 := fun c o c1 c2 c3 c4 e => e5.extBut _ _ c2 (e4.extBut _ _ c4 (e3.extBut _ _ c2 (e2.extBut _ _ c3 (e1.extBut _ _ c1 e))))
  have m1 : I1 g5 i1 l1 (k1 + 1) := r1.stay (r1.stay (r1.stay n2 e3.extBut D.TOi1.symm) e4.extBut D.i12) e5.extBut D.TOi1.symm
  have m2 : I2 g5 i2 l2 (k2 + 1) := r2.stay n4 e5.extBut D.TOi2.symm
  have zl : z < g5.objs.size := Heap.lt_size z5
  show wpAny _ _ (Builtin.SmallTypes.ownedTupleHandOut (.ref z) (.ref g5.objs.size) >>= _) _ _ _
  unfold Builtin.SmallTypes.ownedTupleHandOut
  have z6 : IsZip (g5.push { cls := .type "tuple", data := .seq #[x, y] }) z TI TO .ellipsis := Heap.get?_push_of_some _ z5
  refine wpAny_bind (wpAny_bind (wpAny_setField_rec z6 (by simp) fun g7 z7 e7 => ?_))
  have z7' : IsZip g7 z TI TO (rawInt g5.objs.size) := z7
  refine wpAny_setField_rec z7' (by simp) fun g8 z8 e8 => ?_
  have z8' : IsZip g8 z TI TO (rawInt g5.objs.size) := z8
  have up : ∀ c o, c ≠ z → g5.get? c = some o → g8.get? c = some o := fun c o n e => e8.extBut _ _ n (e7.extBut _ _ n (Heap.get?_push_of_some _ e))
  have pr : IsPair g8 g5.objs.size x y := e8.extBut _ _ (Nat.ne_of_gt zl) (e7.extBut _ _ (Nat.ne_of_gt zl) (Heap.get?_push_size _ rfl))
  have s8 : g8.objs.size = g5.objs.size + 1 := by rw [e8.1, e7.1, Heap.size_push]
  rw [sz] at z8' pr s8
  refine wpAny_pure ⟨_, rfl, ?_⟩
  show Q (.ref g5.objs.size) _
  rw [sz]
  exact hQ g8 z8' (up _ _ D.TOz o5') (r1.same m1 fun o e => up _ o D.i1z e) (r2.same m2 fun o e => up _ o D.i2z e) pr s8 fun c o c1 c2 c3 c4 e => up c o c1 (kp c o c1 c2 c3 c4 e)
theorem zip_ends (r1 : Runs1 prog w I1 S1) (r2 : Runs1 prog w I2 S2) {Q : Fin → Shared → Prop} (hh : A.handled = none) (D : ZipApart z TI TO i1 i2 l1 l2) (hz : IsZip s.heap z TI TO .none) (hTI : IsPair s.heap TI (.ref i1) (.ref i2)) (hTO : IsPair s.heap TO a b)
    (h1 : I1 s.heap i1 l1 k1) (h2 : I2 s.heap i2 l2 k2) (hl1 : S1 s.heap l1 xs) (hl2 : S2 s.heap l2 ys) (hend : xs[k1]? = none ∨ ys[k2]? = none)
    (hE : ∀ h' e, Kept z TO i1 i2 s.heap h' → (∃ o, h'.get? e = some o ∧ o.cls = .type "StopIteration") → E (.ref e) { s with heap := h' }) : wpAny (model prog w) A (Builtin.«zip.__next__» ⟨[.ref z], []⟩) Q E s := by
  show wpAny _ _ (field (.ref z) 2 >>= _) _ _ _
  refine wpAny_bind (wpAny_field hz rfl (x := .bool false) rfl ?_)
  show wpAny _ _ (field (.ref z) 3 >>= _) _ _ _
  refine wpAny_bind (wpAny_field hz rfl (x := .ref TI) rfl (wpAny_bind (wpAny_seqItems hTI rfl ?_)))
  show wpAny _ _ (Builtin.SmallTypes.ownedTupleIsFree (.ref z) >>= _) _ _ _
  unfold Builtin.SmallTypes.ownedTupleIsFree
  refine wpAny_bind (wpAny_bind (wpAny_field hz rfl (x := .none) rfl (wpAny_pure ?_)))
  simp only [if_true]
  refine wpAny_bind (wpAny_rule (wpAny_bind (wpAny_field hz rfl (x := .ref TO) rfl (wpAny_bind (wpAny_setField_rec hz (by simp) fun g1 z1 e1 => ?_)))))
  have z1' : IsZip g1 z TI TO .ellipsis := z1
  have noz : ∀ {g : Heap} {e : Addr} {o : Obj}, IsZip g z TI TO .ellipsis → g.get? e = some o → o.cls = .type "StopIteration" → e ≠ z := fun {g e o} hg ho hc q => by
    rw [q, hg] at ho
    cases ho
    simp at hc
  refine wpAny_bind ?_
  simp only [List.zipIdx_cons, List.zipIdx_nil, List.forIn_cons, List.forIn_nil]
  refine wpAny_bind (wpAny_bind (wpAny_onRaise ?_))
  show wpAny _ _ (Builtin.SmallTypes.nextOf (.ref i1) >>= _) _ _ _
  cases hx : xs[k1]? with
  | none =>
    refine wpAny_bind (r1.ends hh (r1.stay h1 e1.extBut D.i1z) (r1.sits hl1 e1.extBut D.l1z) hx fun g2 e e2 ⟨oe, ho, hc⟩ => ?_)
    have z2 : IsZip g2 z TI TO .ellipsis := e2 _ _ D.i1z.symm z1'
    exact wpAny_setField_rec z2 (by simp) fun g3 _ e3 => hE g3 e (fun c o c1 _ c3 _ q => e3.extBut _ _ c1 (e2 _ _ c3 (e1.extBut _ _ c1 q))) ⟨oe, e3.extBut _ _ (noz z2 ho hc) ho, hc⟩
  | some x =>
    have hy : ys[k2]? = none := hend.elim (fun q => by rw [hx] at q; cases q) id
    refine wpAny_bind (r1.more (r1.stay h1 e1.extBut D.i1z) (r1.sits hl1 e1.extBut D.l1z) hx fun g2 n2 e2 => wpAny_pure ?_)
    have o2 : IsPair g2 TO a b := e2.extBut _ _ D.TOi1 (e1.extBut _ _ D.TOz hTO)
    refine wpAny_bind (wpAny_seqItems o2 rfl (wpAny_bind (wpAny_updateSeq_pair o2 fun g3 o3 e3 => wpAny_bind (wpAny_letGo (wpAny_pure ?_)))))
    refine wpAny_bind (wpAny_bind (wpAny_onRaise ?_))
    show wpAny _ _ (Builtin.SmallTypes.nextOf (.ref i2) >>= _) _ _ _
    refine wpAny_bind (r2.ends hh (r2.stay (r2.stay (r2.stay h2 e1.extBut D.i2z) e2.extBut D.i12.symm) e3.extBut D.TOi2.symm) (r2.sits (r2.sits (r2.sits hl2 e1.extBut D.l2z) e2.extBut D.l2i1) e3.extBut D.l2TO) hy fun g4 e e4 ⟨oe, ho, hc⟩ => ?_)
    have z4 : IsZip g4 z TI TO .ellipsis := e4 _ _ D.i2z.symm (e3.extBut _ _ D.TOz.symm (e2.extBut _ _ D.i1z.symm z1'))
    exact wpAny_setField_rec z4 (by simp) fun g5 _ e5 => hE g5 e (fun c o c1 c2 c3 c4 q => e5.extBut _ _ c1 (e4 _ _ c4 (e3.extBut _ _ c2 (e2.extBut _ _ c3 (e1.extBut _ _ c1 q))))) ⟨oe, e5.extBut _ _ (noz z4 ho hc) ho, hc⟩
end
end ZM
namespace ZM
open PySem PySem.Spec L2 RZ
section
variable {prog : Program} {w : World} {A : Around} {E : Value → Shared → Prop} {s : Shared} {z TI TO i1 i2 l1 l2 : Addr} {k1 k2 : Nat} {xs ys : Array Value} {x y a b : Value}
/-- the zip's next, a tuple beside a list -/
theorem next_more {Q : Option Value → Shared → Prop} (D : ZipApart z TI TO i1 i2 l1 l2) (hz : IsZip s.heap z TI TO .none) (hTI : IsPair s.heap TI (.ref i1) (.ref i2)) (hTO : IsPair s.heap TO a b)
    (h1 : s.heap.IsTupleIter i1 l1 k1) (h2 : s.heap.IsListIter i2 l2 k2) (hl1 : s.heap.IsTuple l1 xs) (hl2 : s.heap.IsList l2 ys) (hx : xs[k1]? = some x) (hy : ys[k2]? = some y)
    (hQ : ∀ h', IsZip h' z TI TO (rawInt s.heap.objs.size) → IsPair h' TO x y → h'.IsTupleIter i1 l1 (k1 + 1) → h'.IsListIter i2 l2 (k2 + 1) → IsPair h' s.heap.objs.size x y → Kept z TO i1 i2 s.heap h' → Q (some (.ref s.heap.objs.size)) { s with heap := h' }) :
    wpAny (model prog w) A (pyNext (.ref z)) Q E s := by
  have hT : s.TypeIs (.ref z) "zip" := ⟨_, hz, rfl⟩
  unfold pyNext
  refine wpAny_bind (wpAny_attempt (wpAny_callSpecial?_slot (name := Str.ofString "__next__") hT F.slot_zip_next (wpAny_call_entry F.slot_zip_next hT F.entry_zip_next ?_ (F.args_zip_next_1 _))))
  exact zip_more runs_tup runs_list D hz hTI hTO h1 h2 hl1 hl2 hx hy fun h' a1 a2 a3 a4 a5 _ a7 => wpAny_pure (hQ h' a1 a2 a3 a4 a5 a7)
theorem next_ends {Q : Option Value → Shared → Prop} (hh : A.handled = none) (D : ZipApart z TI TO i1 i2 l1 l2) (hz : IsZip s.heap z TI TO .none) (hTI : IsPair s.heap TI (.ref i1) (.ref i2)) (hTO : IsPair s.heap TO a b)
    (h1 : s.heap.IsTupleIter i1 l1 k1) (h2 : s.heap.IsListIter i2 l2 k2) (hl1 : s.heap.IsTuple l1 xs) (hl2 : s.heap.IsList l2 ys) (hend : xs[k1]? = none ∨ ys[k2]? = none)
    (hQ : ∀ h', Kept z TO i1 i2 s.heap h' → Q none { s with heap := h' }) : wpAny (model prog w) A (pyNext (.ref z)) Q E s := by
  have hT : s.TypeIs (.ref z) "zip" := ⟨_, hz, rfl⟩
  unfold pyNext
  refine wpAny_bind (wpAny_attempt (wpAny_callSpecial?_slot (name := Str.ofString "__next__") hT F.slot_zip_next (wpAny_call_entry F.slot_zip_next hT F.entry_zip_next ?_ (F.args_zip_next_1 _))))
  refine zip_ends runs_tup runs_list hh D hz hTI hTO h1 h2 hl1 hl2 hend fun h' e hk ⟨o, ho, hc⟩ => ?_
  exact wpAny_bind (wpAny_isInstance (T := "StopIteration") (b := true) ⟨o, ho, hc⟩ isSubtype_stop (wpAny_pure (hQ _ hk)))
end
abbrev mH1 (h : Heap) (a : Addr) : Heap := h.push { cls := .type "tuple_iterator", data := .fields #[.ref a, .int 0 0] }
abbrev mH2 (h : Heap) (a b : Addr) : Heap := (mH1 h a).push { cls := .type "list_iterator", data := .fields #[.ref b, .int 0 0] }
abbrev mH3 (h : Heap) (a b : Addr) : Heap := (mH2 h a b).push { cls := .type "tuple", data := .seq #[.ref h.objs.size, .ref (mH1 h a).objs.size] }
abbrev mH4 (h : Heap) (a b : Addr) : Heap := (mH3 h a b).push { cls := .type "tuple", data := .seq #[.none, .none] }
abbrev mH5 (h : Heap) (a b : Addr) : Heap := (mH4 h a b).push { cls := .type "zip", data := .fields #[.none, .bool false, .bool false, .ref (mH2 h a b).objs.size, .ref (mH3 h a b).objs.size] }
theorem meets_mixed (a b : Addr) (xs ys : Array Value) :
    Meets (Builtin.«zip.__new__» ⟨[.type "zip", .ref a, .ref b], []⟩) (fun _ R s => s.heap.IsTuple a xs ∧ s.heap.IsList b ys ∧ R (.ok (.ret (.ref (mH4 s.heap a b).objs.size))) { s with heap := mH5 s.heap a b }) :=
  .of_wp fun prog w A R s h => by
    obtain ⟨hp, g, d, tk, os⟩ := s
    obtain ⟨q1, q2, h⟩ := h
    have hsub := sub_zip
    have r1 : Heap.IsTuple (Shared.heap ⟨hp, g, d, tk, os⟩) a xs := q1
    have r2 : Heap.IsList (Shared.heap ⟨hp.push { cls := .type "tuple_iterator", data := .fields #[.ref a, .int 0 0] }, g, d, tk, os⟩) b ys := Heap.IsList.push q2 _
    wp_walk using wpAny_pyIter_tuple r1, wpAny_pyIter_list r2
    exact ⟨_, rfl, h⟩
theorem call_mixed {prog : Program} {w : World} {A : Around} {E : Value → Shared → Prop} {s : Shared} {a b : Addr} {xs ys : Array Value} {Q : Value → Shared → Prop} (ha : s.heap.IsTuple a xs) (hb : s.heap.IsList b ys)
    (h : ∀ h', IsZip h' (s.heap.objs.size + 4) (s.heap.objs.size + 2) (s.heap.objs.size + 3) .none → IsPair h' (s.heap.objs.size + 2) (.ref s.heap.objs.size) (.ref (s.heap.objs.size + 1)) → IsPair h' (s.heap.objs.size + 3) .none .none →
      h'.IsTupleIter s.heap.objs.size a 0 → h'.IsListIter (s.heap.objs.size + 1) b 0 → (∀ c o, s.heap.get? c = some o → h'.get? c = some o) → Q (.ref (s.heap.objs.size + 4)) { s with heap := h' }) :
    wpAny (model prog w) A (call (.type "zip") [.ref a, .ref b]) Q E s := by
  refine callType_new F.called_zip (by decide) (F.typeCall_zip_2 _ _) (F.newCall_zip_2 _ _) (fun obj => F.args_object_init_3 obj _ _) F.entry_zip_new (meets_mixed a b xs ys) ⟨ha, hb, ?_⟩
  have n1 : (mH1 s.heap a).objs.size = s.heap.objs.size + 1 := Heap.size_push ..
  have n2 : (mH2 s.heap a b).objs.size = s.heap.objs.size + 2 := by rw [Heap.size_push, n1]
  have n3 : (mH3 s.heap a b).objs.size = s.heap.objs.size + 3 := by rw [Heap.size_push, n2]
  have n4 : (mH4 s.heap a b).objs.size = s.heap.objs.size + 4 := by rw [Heap.size_push, n3]
  have up : ∀ {h : Heap} {c : Addr} {o : Obj} (u : Obj), h.get? c = some o → (h.push u).get? c = some o := fun u e => Heap.get?_push_of_some _ e
  have p5 : (mH5 s.heap a b).get? (mH4 s.heap a b).objs.size = some _ := Heap.get?_push_size _ rfl
  have p4 : (mH5 s.heap a b).get? (mH3 s.heap a b).objs.size = some _ := up _ (Heap.get?_push_size _ rfl)
  have p3 : (mH5 s.heap a b).get? (mH2 s.heap a b).objs.size = some _ := up _ (up _ (Heap.get?_push_size _ rfl))
  have p2 : (mH5 s.heap a b).get? (mH1 s.heap a).objs.size = some _ := up _ (up _ (up _ (Heap.get?_push_size _ rfl)))
  have p1 : (mH5 s.heap a b).get? s.heap.objs.size = some _ := up _ (up _ (up _ (up _ (Heap.get?_push_size _ rfl))))
  show _ ∧ _
  rw [n2, n3, n4] at p5
  rw [n1, n2] at p3
  rw [n3] at p4
  rw [n1] at p2
  rw [n4]
  exact ⟨⟨_, p5, rfl⟩, h _ p5 p3 p4 ⟨_, p1, rfl, rfl⟩ ⟨_, p2, rfl, rfl⟩ fun c o e => up _ (up _ (up _ (up _ (up _ e))))⟩
/-- a tuple and a list, side by side -/
def ItzM (K : PySem.W.Frag) (a b : Addr) : It where
  go := fun i H => ∃ (xs ys : List V) (x y : V), SqT K H a xs ∧ SqL K H b ys ∧ xs[i]? = some x ∧ ys[i]? = some y
  yld := fun i H v H' => ∃ T x y, v = .ref T ∧ H T = none ∧ H' = upd H T (.tup [x, y]) ∧ (∀ xs, SqT K H a xs → xs[i]? = some x) ∧ ∀ ys, SqL K H b ys → ys[i]? = some y
  stop := fun i H => ∃ xs ys : List V, SqT K H a xs ∧ SqL K H b ys ∧ (xs.length ≤ i ∨ ys.length ≤ i)
theorem five {c z TI TO i1 i2 : Addr} (h : c ∈ [z, TI, TO, i1, i2]) : c = z ∨ c = TI ∨ c = TO ∨ c = i1 ∨ c = i2 := by simpa using h
theorem turn_mixed {P : Program} {w : World} {K : PySem.W.Frag} {elts : List Expr} {kk : Nat} {tpos : Pos} {a b z TI TO i1 i2 : Addr} (D : ZipApart z TI TO i1 i2 a b) :
    Turn P w K (.Tuple elts kk tpos) (ItzM K a b) [z, TI, TO, i1, i2] z (fun i h => IsZip h z TI TO .none ∧ IsPair h TI (.ref i1) (.ref i2) ∧ (∃ x y, IsPair h TO x y) ∧ h.IsTupleIter i1 a i ∧ h.IsListIter i2 b i) := by
  refine ⟨by simp, fun i h st c hc => ?_, fun i h h' st k => ?_, fun X hP hw hK hc i pins s σ H E I hf st hg => ?_, fun X hP hw hK hc i pins s σ H E I hf st hg => ?_, fun A i s Q E st h => wpAny_pyIter_zip st.1 h⟩
  · obtain ⟨q1, q2, ⟨x, y, q3⟩, ⟨o1, e1, _, d1⟩, ⟨o2, e2, _, d2⟩⟩ := st
    rcases five hc with q | q | q | q | q <;> subst q
    · exact ⟨_, q1, fun v r => nomatch r⟩
    · exact ⟨_, q2, fun v r => nomatch r⟩
    · exact ⟨_, q3, fun v r => nomatch r⟩
    · exact ⟨o1, e1, fun v r => by rw [d1] at r; cases r⟩
    · exact ⟨o2, e2, fun v r => by rw [d2] at r; cases r⟩
  · obtain ⟨q1, q2, ⟨x, y, q3⟩, q4, q5⟩ := st
    exact ⟨k z (by simp) _ q1, k TI (by simp) _ q2, ⟨x, y, k TO (by simp) _ q3⟩, q4.at fun o q => k i1 (by simp) o q, q5.at fun o q => k i2 (by simp) o q⟩
  · subst hP hw hK
    obtain ⟨q1, q2, ⟨x0, y0, q3⟩, q4, q5⟩ := st
    obtain ⟨xs, ys, x, y, sx, sy, hx, hy⟩ := hg
    obtain ⟨its, rv, p, _⟩ := I.tuple sx
    obtain ⟨its2, rv2, p2, _⟩ := I.list sy
    obtain ⟨u, hu, ru⟩ := rv.get hx
    obtain ⟨u2, hu2, ru2⟩ := rv2.get hy
    have zl : z < s.heap.objs.size := Heap.lt_size q1
    have tp : s.heap.IsTuple a its.toArray := p
    refine next_more D q1 q2 q3 q4 q5 tp p2.isList (x := u) (y := u2) (by simpa using hu) (by simpa using hu2) fun h' z' TO' n1 n2 pr kp => ?_
    refine ⟨_, rfl, wpAny_letOwnedTupleGo_zip (s := { s with heap := h' }) z' fun h'' z'' sb => ?_⟩
    have pr2 : h''.get? s.heap.objs.size = some { cls := .type "tuple", data := .seq #[u, u2] } := (sb.2 _ (Nat.ne_of_gt zl)).trans pr
    have new : ObjOk X.prog X.w (upd H s.heap.objs.size (.tup [x, y])) h'' s.heap.objs.size (.tup [x, y]) := ⟨by show 2 ≤ sizeLine; decide, [u, u2], .cons ru (.cons ru2 .nil), ⟨_, pr2, rfl, _, rfl⟩⟩
    have J := I.turnedNew (t' := s.toks) (ch := [z, TI, TO, i1, i2]) (h' := h'') (fun c o hb q => by
      have hb : ¬ (c = z ∨ c = TI ∨ c = TO ∨ c = i1 ∨ c = i2) := fun r => hb (by simpa using r)
      exact (sb.2 c fun r => hb (.inl r)).trans (kp c o (fun r => hb (.inl r)) (fun r => hb (.inr (.inr (.inl r)))) (fun r => hb (.inr (.inr (.inr (.inl r))))) (fun r => hb (.inr (.inr (.inr (.inr r))))) q)) hf (Nat.le_refl _) new
    refine ⟨.ref s.heap.objs.size, _, J, rfl, ⟨_, x, y, rfl, I.hok.fresh (Nat.le_refl _), rfl, fun l hl => by rw [I.tuple_inj hl sx]; exact hx, fun l hl => by rw [I.list_inj hl sy]; exact hy⟩, ⟨z'', (sb.2 _ D.TIz).trans (kp _ _ D.TIz D.TITO D.TIi1 D.TIi2 q2), ⟨u, u2, (sb.2 _ D.TOz).trans TO'⟩,
      n1.at fun o q => (sb.2 _ D.i1z).trans q, n2.at fun o q => (sb.2 _ D.i2z).trans q⟩, fun c hcm => ?_⟩
    have hlt : c < s.heap.objs.size := by
      obtain ⟨_, e1, _⟩ := q4
      obtain ⟨_, e2, _⟩ := q5
      rcases five hcm with q | q | q | q | q <;> subst q
      · exact zl
      · exact Heap.lt_size q2
      · exact Heap.lt_size q3
      · exact Heap.lt_size e1
      · exact Heap.lt_size e2
    rw [upd_ne (Nat.ne_of_lt hlt)]
    exact (hf c hcm).1
  · subst hP hw hK
    obtain ⟨q1, q2, ⟨x0, y0, q3⟩, q4, q5⟩ := st
    obtain ⟨xs, ys, sx, sy, he⟩ := hg
    obtain ⟨its, rv, p, _⟩ := I.tuple sx
    obtain ⟨its2, rv2, p2, _⟩ := I.list sy
    have m1 := rv.length
    have m2 := rv2.length
    have tp : s.heap.IsTuple a its.toArray := p
    have he' : its.toArray[i]? = none ∨ its2.toArray[i]? = none := he.imp (fun q => by simp; omega) fun q => by simp; omega
    refine next_ends (I.ok.hd hc) D q1 q2 q3 q4 q5 tp p2.isList he' fun h' kp => ⟨rfl, I.turnedL (t' := s.toks) (ch := [z, TI, TO, i1, i2]) (fun c o hb q => ?_) hf⟩
    have hb : ¬ (c = z ∨ c = TI ∨ c = TO ∨ c = i1 ∨ c = i2) := fun r => hb (by simpa using r)
    exact kp c o (fun r => hb (.inl r)) (fun r => hb (.inr (.inr (.inl r)))) (fun r => hb (.inr (.inr (.inr (.inl r))))) (fun r => hb (.inr (.inr (.inr (.inr r))))) q
/-- zip of a tuple and a tuple, or of a tuple and a list -/
def iZipM (K : PySem.W.Frag) (ta : TA) : TI := fun σ H R => ta σ H fun vs H1 => ∃ a b xs ys, vs = [.ref a, .ref b] ∧ SqT K H1 a xs ∧ ((SqT K H1 b ys ∧ R (ItzT K a b) H1) ∨ (SqL K H1 b ys ∧ R (ItzM K a b) H1))
theorem pi_zipM {X : Cx} {e e2 : Expr} {ta : TA} {p pos tpos : Pos} {elts : List Expr} {kk : Nat} (hg : Gl X "zip") (hm : X.mg "zip" = none) (ha : PA X [e, e2] ta)
    (hs : starEach [e, e2] X.env = (false, eval e X.env) :: starEach [e2] X.env := by rfl) (hpl : (backTo pos (starEach [e2] X.env)).any (·.1) = false := by rfl) : PI X (.Tuple elts kk tpos) (.Call (.Name "zip" p) [e, e2] [] pos) (iZipM X.K ta) := by
  refine ⟨fun pins s σ H R I h => PyProof.Rows.Call_ (ld_blt I hg hm PyProof.Rows.boot_zip (PyProof.Rows.callWith_type1 (thn (ha.run pos pins s σ H _ I h) fun us s1 ⟨vs, H1, I1, r1, a, b, xs, ys, ex, sx, q1⟩ => ?_) hs hpl))⟩
  subst ex
  obtain ⟨u1, u2, rfl, e1, e2⟩ := vals2 r1
  cases e1
  cases e2
  obtain ⟨its, rv, p1, _⟩ := I1.tuple sx
  have t1 : s1.heap.IsTuple a its.toArray := p1
  have la : a < s1.heap.objs.size := by obtain ⟨_, e, _⟩ := t1; exact Heap.lt_size e
  have fr : ∀ c, c ∈ [s1.heap.objs.size + 4, s1.heap.objs.size + 2, s1.heap.objs.size + 3, s1.heap.objs.size, s1.heap.objs.size + 1] → FpOk X pins H1 c := fun c hc => by
    have hle : s1.heap.objs.size ≤ c := by
      rcases five hc with q | q | q | q | q <;> rw [q]
      · exact Nat.le_add_right _ _
      · exact Nat.le_add_right _ _
      · exact Nat.le_add_right _ _
      · exact Nat.le_refl _
      · exact Nat.le_add_right _ _
    exact I1.fpOk hle (I1.hok.fresh hle)
  rcases q1 with ⟨sy, q⟩ | ⟨sy, q⟩
  · obtain ⟨its2, rv2, p2, _⟩ := I1.tuple sy
    have t2 : s1.heap.IsTuple b its2.toArray := p2
    have lb : b < s1.heap.objs.size := by obtain ⟨_, e, _⟩ := t2; exact Heap.lt_size e
    exact call_zipT t1 t2 fun h' hz hTI hTO h1 h2 hsz hk => wpAny_pyIter_zip hz ⟨_, _, _, _, H1, rfl, I1.kept (t' := s1.toks) hk, turn_zipT (PySem.W.ktu_apart s1.heap.objs.size a b la lb), ⟨hz, hTI, ⟨_, _, hTO⟩, h1, h2⟩, fr, q⟩
  · obtain ⟨its2, rv2, p2, _⟩ := I1.list sy
    have lb : b < s1.heap.objs.size := by obtain ⟨_, _, e, _⟩ := p2; exact Heap.lt_size e
    exact call_mixed t1 p2.isList fun h' hz hTI hTO h1 h2 hk => wpAny_pyIter_zip hz ⟨_, _, _, _, H1, rfl, I1.kept (t' := s1.toks) hk, turn_mixed (PySem.W.ktu_apart s1.heap.objs.size a b la lb), ⟨hz, hTI, ⟨_, _, hTO⟩, h1, h2⟩, fr, q⟩
/-- a loop over them -/
theorem for_zipM {K : PySem.W.Frag} {a b : Addr} {xs ys : List V} {g : TG} {tb : TS} {D : Ends} {σ : L2.St} {H : Hp} (hl : xs.length = ys.length) (Pv : Nat → L2.St → Hp → Prop) (h0 : Pv 0 σ H) (hq : ∀ i σ H, Pv i σ H → SqT K H a xs ∧ SqL K H b ys)
    (hs : ∀ (i : Nat) (x y : V) (T : Addr) (σ : L2.St) (H : Hp), xs[i]? = some x → ys[i]? = some y → Pv i σ H → H T = none → g (.ref T) σ (upd H T (.tup [x, y])) fun σ2 H2 => tb { D with nx := Pv (i + 1), ct := Pv (i + 1), bk := D.nx } σ2 H2) (hd : ∀ σ H, Pv xs.length σ H → D.nx σ H) :
    ∃ W : Nat → Nat → L2.St → Hp → Prop, (∃ m, W 0 m σ H) ∧ ∀ i m σ H, W i m σ H → ((ItzM K a b).stop i H ∧ D.nx σ H) ∨
      ((ItzM K a b).go i H ∧ ∃ N : L2.St → Hp → Prop, (∀ σ' H', N σ' H' → ∃ m', m' < m ∧ W (i + 1) m' σ' H') ∧ ∀ v H', (ItzM K a b).yld i H v H' → g v σ H' fun σ2 H2 => tb { D with nx := N, ct := N, bk := D.nx } σ2 H2) := by
  refine ⟨fun i m σ H => i + m = xs.length ∧ Pv i σ H, ⟨xs.length, Nat.zero_add _, h0⟩, fun i m σ H ⟨hm, p⟩ => ?_⟩
  obtain ⟨sx, sy⟩ := hq i σ H p
  cases m with
  | zero =>
    have e : i = xs.length := by omega
    subst e
    exact .inl ⟨⟨xs, ys, sx, sy, .inl (Nat.le_refl _)⟩, hd σ H p⟩
  | succ m =>
    have i1 : i < xs.length := by omega
    have i2 : i < ys.length := by omega
    refine .inr ⟨⟨xs, ys, xs[i], ys[i], sx, sy, List.getElem?_eq_getElem i1, List.getElem?_eq_getElem i2⟩, Pv (i + 1), fun σ' H' q => ⟨m, Nat.lt_succ_self _, by omega, q⟩, fun v H' ⟨T, x, y, ev, nT, eH, hx, hy⟩ => ?_⟩
    subst ev eH
    exact hs i x y T σ H (hx xs sx) (hy ys sy) p nT
end ZM
namespace SB
open PySem L2 GxR GA RZ
/-- numbers in a tuple or a list -/
def SpV (K : PySem.W.Frag) (H : Hp) (x : V) (us : List (Int × Int)) : Prop := ∃ a xs, x = .ref a ∧ (SqT K H a xs ∨ SqL K H a xs) ∧ Paired (NuV K H) xs us
theorem SpV.gr {K : PySem.W.Frag} {H H' : Hp} {x : V} {us : List (Int × Int)} (h : SpV K H x us) (g : Gr H H') : SpV K H' x us := let ⟨a, xs, e, s, p⟩ := h; ⟨a, xs, e, s.imp (fun q => g.seqT q) (fun q => g.seqL q), Paired.mapP p fun _ _ z => NuV.gr z g⟩
theorem PtV.sp {K : PySem.W.Frag} {H : Hp} {x : V} {us : List (Int × Int)} (h : PtV K H x us) : SpV K H x us := let ⟨a, xs, e, s, p⟩ := h; ⟨a, xs, e, .inl s, p⟩
/-- a drawn question: small -/
structure Q9 (q : List Int × Int) : Prop where
  nz : NonZ q.1
  ns : ∀ z, z ∈ q.1 → z.natAbs < 2 ^ 4
  wl : q.2.natAbs < 2 ^ 4
theorem Q9.g {q : List Int × Int} (h : Q9 q) : gcdL (q.1 ++ [q.2]) < 2 ^ 64 := by
  obtain ⟨z, h1, h2⟩ := h.nz.ex
  exact Nat.lt_of_le_of_lt (gcdL_le (List.mem_append_left _ h1) h2) (Nat.lt_of_lt_of_le (h.ns z h1) (by decide))
theorem two_le {a b : Nat} (h : a ≤ b) : 2 ^ a ≤ 2 ^ b := Nat.pow_le_pow_right (by decide) h
theorem Q9.ok {q : List Int × Int} (h : Q9 q) : QOk q := ⟨h.nz, fun z hz => Nat.lt_of_lt_of_le (h.ns z hz) (two_le (by decide)), Nat.lt_of_lt_of_le h.wl (two_le (by decide))⟩
section
variable {P : Program} {w : World} {K : PySem.W.Frag} {mg : Str → Option Value} {base : Heap}
def spWorth (K : PySem.W.Frag) : Sp := fun vs H Q _ => ∃ x y q us m, vs = [x, y] ∧ QuV K H x q ∧ SpV K H y us ∧ Q9 q ∧ q.1.length = us.length ∧ us.length ≤ 4 ∧ (∀ u, u ∈ us → Lo u) ∧ (∀ u, u ∈ us → Wd m u) ∧ m ≤ 20000 ∧
  ∀ v r H', Gr H H' → NuV K H' v r → 0 < r.2 → Eqr r (worthU q us).1 (worthU q us).2 → Wd (5 + us.length * (m + 6)) r → Q v H'
end
end SB
namespace SB
open PySem L2 GxR GA RZ
section
variable {P : Program} {w : World} {K : PySem.W.Frag} {mg : Str → Option Value} {base : Heap}
/-! ### the law's own row of a point -/
def spLRow (K : PySem.W.Frag) : Sp := fun vs H Q _ => ∃ x y d qs us m, vs = [x, y] ∧ BkV K H x d qs ∧ SpV K H y us ∧ qs.length ≤ 8 ∧ (∀ q, q ∈ qs → Q9 q ∧ q.1.length = us.length) ∧ us.length ≤ 4 ∧ (∀ u, u ∈ us → Lo u) ∧ (∀ u, u ∈ us → Wd m u) ∧ m ≤ 20000 ∧
  ∀ v H', Gr H H' → SiV K H' v (rowU qs us) → Q v H'
theorem sgn_two (i : Int) : (if decide (i > 0) = true then (1 : Int) else 0) - (if decide (i < 0) = true then (1 : Int) else 0) = sgn i := by
  unfold sgn
  by_cases h1 : 0 < i
  · rw [if_pos (decide_eq_true h1), if_neg (by simp; omega), if_pos h1]
    rfl
  · rw [if_neg (by simp; omega), if_neg h1]
    by_cases h2 : i < 0
    · rw [if_pos (decide_eq_true h2), if_pos h2]
      rfl
    · rw [if_neg (by simp; omega), if_neg h2]
      rfl
/-! ### whether a row fits -/
def spDoesFit (K : PySem.W.Frag) : Sp := fun vs H Q _ => ∃ a b zs hs, vs = [.ref a, .ref b] ∧ SqT K H a (zs.map V.int) ∧ SqT K H b (hs.map hopeV) ∧ hs.length = zs.length ∧ zs.length ≤ 8 ∧ ∀ H', Gr H H' → Q (.bl (fitU hs zs)) H'
end
end SB
namespace SB
open PySem L2 GxR GA RZ
section
variable {P : Program} {w : World} {K : PySem.W.Frag} {mg : Str → Option Value} {base : Heap}
theorem DeckAt.ne {d p : Addr} {H : Hp} (h : DeckAt d H) (n : H p = none) : p ≠ d := by
  obtain ⟨a, b, e, _⟩ := h
  exact Ne.symm (ne_of_none e n)
def spLNum (K : PySem.W.Frag) : Sp := fun vs H Q _ => ∃ d, vs = [.ref d] ∧ DeckAt d H ∧ ∀ v r H', GrD d H H' → DeckAt d H' → NuV K H' v r → Lo r → Wd 134 r → Q v H'
theorem lnum_wd {F L t u : Int} (hF : 0 ≤ F) (hF2 : F ≤ 10 ^ 40) (hL2 : L ≤ 10 ^ 40) (t0 : 0 ≤ t) (t1 : t < 2 * F + 1) (u0 : 0 ≤ u) (u1 : u < L) : (1 + u) ≠ 0 ∧ Wd 134 (t - F, 1 + u) := by
  have e : (10 : Int) ^ 40 < 2 ^ 133 := by decide
  have e2 : (2 : Nat) ^ 134 = 2 * 2 ^ 133 := by decide
  have e3 : ((2 ^ 133 : Nat) : Int) = (2 : Int) ^ 133 := by decide
  refine ⟨by omega, ?_, ?_⟩
  · show (t - F).natAbs < 2 ^ 134
    omega
  · show (1 + u).natAbs < 2 ^ 134
    omega
end
end SB
namespace SB
open PySem L2 GxR GA RZ
theorem dp_ints {K : PySem.W.Frag} {H : Hp} : ∀ js : List Int, DpAll K H (js.map V.int) (js.map PyData.int)
  | [] => .nil
  | j :: r => .cons (.int j) (dp_ints r)
theorem lay_ints : ∀ js : List Int, PyData.canLayAll0 (js.map PyData.int) = true
  | [] => rfl
  | j :: r => by
    show (PyData.canLay0 (.int j) && PyData.canLayAll0 (r.map PyData.int)) = true
    rw [lay_ints r]
    rfl
theorem dep_ints : ∀ js : List Int, PyData.depthAll (js.map PyData.int) = 0
  | [] => rfl
  | j :: r => by
    have h := dep_ints r
    rw [List.map_cons]
    simp [PyData.depthAll, PyData.depth, h]
theorem shp_ints (js : List Int) : SeqAt.shaped (.list (js.map PyData.int)) = true := by
  unfold SeqAt.shaped
  rw [Bool.and_eq_true]
  refine ⟨lay_ints js, decide_eq_true ?_⟩
  have h := dep_ints js
  simp [PyData.depth, h]
theorem eqv_nil (js : List Int) : PyData.eqv (.list (js.map PyData.int)) (.list []) = js.isEmpty := by
  cases js with
  | nil => decide
  | cons j r => rfl
section
variable {P : Program} {w : World} {K : PySem.W.Frag} {mg : Str → Option Value} {base : Heap}
theorem fit_all {hs : List (Option Int)} {zs : List Int} (hl : hs.length = zs.length) (h : ∀ (i : Nat) (h : Option Int) (z : Int), hs[i]? = some h → zs[i]? = some z → fit1 h z = true) : fitU hs zs = true := by
  refine List.all_eq_true.mpr fun p hp => ?_
  obtain ⟨i, hi⟩ := List.getElem?_of_mem hp
  have hz := List.getElem?_zip_eq_some.mp hi
  exact h i p.1 p.2 hz.1 hz.2
theorem fit_not {hs : List (Option Int)} {zs : List Int} {i : Nat} {h : Option Int} {z : Int} (e1 : hs[i]? = some h) (e2 : zs[i]? = some z) (n : fit1 h z = false) : fitU hs zs = false := by
  rw [Bool.eq_false_iff]
  intro q
  have := List.all_eq_true.mp q (h, z) (List.mem_of_getElem? (zip_at e1 e2))
  rw [n] at this
  cases this
end
end SB
namespace SB
open PySem L2 GxR GA RZ
section
variable {P : Program} {w : World} {K : PySem.W.Frag} {mg : Str → Option Value} {base : Heap}
def spGround (K : PySem.W.Frag) : Sp := fun vs H Q _ => ∃ x q, vs = [x] ∧ QuV K H x q ∧ Q9 q ∧ q.1.length ≤ 8 ∧ ∀ b H', Gr H H' → H' b = some (.tup ((grU q).map V.int)) → Q (.ref b) H'
end
end SB
namespace SB
open PySem L2 GxR GA RZ
theorem GrD.put {d D : Addr} {H1 H : Hp} (g : GrD d H1 H) (nD : H1 D = none) (o : HO) : GrD d H1 (upd H D o) := ⟨fun b u n z e => by
  rw [upd_ne (ne_of_none e nD)]
  exact g.keep b u n z e, fun P n t => by
  obtain ⟨ps, e, tr⟩ := id t
  obtain ⟨qs, e2, t2⟩ := g.tab P n t
  exact ⟨qs, by rw [upd_ne (ne_of_none e nD)]; exact e2, t2⟩⟩
theorem DeckAt.put {d D : Addr} {H : Hp} (h : DeckAt d H) (n : D ≠ d) (o : HO) : DeckAt d (upd H D o) := let ⟨a, b, e, r⟩ := h; ⟨a, b, by rw [upd_ne (Ne.symm n)]; exact e, r⟩
/-- one item more -/
theorem deck_more {K : PySem.W.Frag} {d D : Addr} {H1 H H4 : Hp} {ys : List V} {y : V} {i : Nat} (R : Nat → V → Hp → Prop) (hst : ∀ i y H H', R i y H → Tst K H H' → R i y H') (nD : H1 D = none) (nd : D ≠ d) (hD : H D = some (.lst ys)) (hy : ys.length = i) (hi : i < 1000)
    (gr : GrD d H1 H) (dk : DeckAt d H) (hR : ∀ j z, ys[j]? = some z → R j z H) (g4 : GrD d H H4) (dk4 : DeckAt d H4) (r4 : R i y H4) :
    ∃ acc, H4 D = some (.lst acc) ∧ acc.length < sizeLine ∧ ∃ zs, (upd H4 D (.lst (acc ++ [y]))) D = some (.lst zs) ∧ zs.length = i + 1 ∧ GrD d H1 (upd H4 D (.lst (acc ++ [y]))) ∧ DeckAt d (upd H4 D (.lst (acc ++ [y]))) ∧ ∀ j z, zs[j]? = some z → R j z (upd H4 D (.lst (acc ++ [y]))) := by
  have hD4 : H4 D = some (.lst ys) := g4.keep D _ nd (fun _ z => nomatch z) hD
  have tp : Tst K H4 (upd H4 D (.lst (ys ++ [y]))) := Tst.put hD4
  refine ⟨ys, hD4, small1000 (by omega), ys ++ [y], upd_same, by rw [List.length_append, hy]; rfl, (gr.trans g4).put nD _, dk4.put nd _, fun j z hz => ?_⟩
  by_cases hj : j < ys.length
  · rw [List.getElem?_append_left hj] at hz
    exact hst _ _ _ _ (hR j z hz) ((g4.st dk).trans tp)
  · have hl := (List.getElem?_eq_some_iff.mp hz).1
    rw [List.length_append] at hl
    have hl : j < ys.length + 1 := hl
    have ej : j = ys.length := by omega
    subst ej
    rw [List.getElem?_append_right (Nat.le_refl _), Nat.sub_self] at hz
    cases hz
    rw [hy]
    exact hst _ _ _ _ r4 tp
/-- a list of n things drawn -/
theorem lc_deckR {K : PySem.W.Frag} {d : Addr} {lo : Int} {n : Nat} {g : TG} {te : TE} {vs : List Nat} {σ : L2.St} {H1 : Hp} {D : Addr} {Qd : Hp → Prop} (R : Nat → V → Hp → Prop) (hst : ∀ i y H H', R i y H → Tst K H H' → R i y H') (nD : H1 D = none) (dk : DeckAt d H1) (hz : n ≤ 1000)
    (step : ∀ (i : Nat) H (Kc : VK), i < n → GrD d H1 H → DeckAt d H → (∀ y H4, GrD d H H4 → DeckAt d H4 → R i y H4 → Kc y H4) → g (.int (lo + i)) (wipe σ vs) H fun σ2 H2 => wipe σ2 vs = wipe σ vs ∧ te σ2 H2 Kc)
    (fin : ∀ ys H, H D = some (.lst ys) → ys.length = n → GrD d H1 H → DeckAt d H → (∀ i y, ys[i]? = some y → R i y H) → Qd H) :
    ∃ W : Nat → Nat → Hp → Prop, (∃ m, W 0 m (upd H1 D (.lst []))) ∧ ∀ i m H, W i m H → ((Itr lo n).stop i H ∧ Qd H) ∨
      ((Itr lo n).go i H ∧ ∃ Nx : Hp → Prop, (∀ H', Nx H' → ∃ m', m' < m ∧ W (i + 1) m' H') ∧ ∀ x H', (Itr lo n).yld i H x H' → g x (wipe σ vs) H' fun σ2 H2 => wipe σ2 vs = wipe σ vs ∧ tYes σ2 H2 fun b H3 =>
        if b = true then te σ2 H3 fun y H4 => ∃ acc, H4 D = some (.lst acc) ∧ acc.length < sizeLine ∧ Nx (upd H4 D (.lst (acc ++ [y]))) else Nx H3) := by
  have nd := dk.ne nD
  refine ⟨fun i m H => i + m = n ∧ ∃ ys, H D = some (.lst ys) ∧ ys.length = i ∧ GrD d H1 H ∧ DeckAt d H ∧ ∀ j y, ys[j]? = some y → R j y H, ⟨n, Nat.zero_add _, [], upd_same, rfl, (GrD.refl d H1).put nD _, dk.put nd _, fun j y h => by simp at h⟩, fun i m H ⟨hm, ys, hD, hy, gr, dk', hR⟩ => ?_⟩
  cases m with
  | zero => exact .inl ⟨(by show n ≤ i; omega), fin ys H hD (by omega) gr dk' hR⟩
  | succ m =>
    refine .inr ⟨(by show i < n; omega), fun H' => ∃ ys, H' D = some (.lst ys) ∧ ys.length = i + 1 ∧ GrD d H1 H' ∧ DeckAt d H' ∧ ∀ j y, ys[j]? = some y → R j y H', fun H' h => ⟨m, Nat.lt_succ_self _, by omega, h⟩, fun x H' hyl => ?_⟩
    obtain ⟨rfl, rfl⟩ := hyl
    exact step i H' _ (by omega) gr dk' fun y H4 g4 dk4 r4 => deck_more R hst nD nd hD hy (by omega) gr dk' hR g4 dk4 r4
/-- one for each of a tuple's items -/
theorem lc_deckT {K : PySem.W.Frag} {d a : Addr} {xs : List V} {g : TG} {te : TE} {vs : List Nat} {σ : L2.St} {H1 : Hp} {D : Addr} {Qd : Hp → Prop} (R : Nat → V → Hp → Prop) (hst : ∀ i y H H', R i y H → Tst K H H' → R i y H') (nD : H1 D = none) (dk : DeckAt d H1) (hs : SqT K H1 a xs) (hz : xs.length ≤ 1000)
    (step : ∀ (i : Nat) x H (Kc : VK), xs[i]? = some x → GrD d H1 H → DeckAt d H → (∀ y H4, GrD d H H4 → DeckAt d H4 → R i y H4 → Kc y H4) → g x (wipe σ vs) H fun σ2 H2 => wipe σ2 vs = wipe σ vs ∧ te σ2 H2 Kc)
    (fin : ∀ ys H, H D = some (.lst ys) → ys.length = xs.length → GrD d H1 H → DeckAt d H → (∀ i y, ys[i]? = some y → R i y H) → Qd H) :
    ∃ W : Nat → Nat → Hp → Prop, (∃ m, W 0 m (upd H1 D (.lst []))) ∧ ∀ i m H, W i m H → ((Itt K a).stop i H ∧ Qd H) ∨
      ((Itt K a).go i H ∧ ∃ Nx : Hp → Prop, (∀ H', Nx H' → ∃ m', m' < m ∧ W (i + 1) m' H') ∧ ∀ x H', (Itt K a).yld i H x H' → g x (wipe σ vs) H' fun σ2 H2 => wipe σ2 vs = wipe σ vs ∧ tYes σ2 H2 fun b H3 =>
        if b = true then te σ2 H3 fun y H4 => ∃ acc, H4 D = some (.lst acc) ∧ acc.length < sizeLine ∧ Nx (upd H4 D (.lst (acc ++ [y]))) else Nx H3) := by
  have nd := dk.ne nD
  refine ⟨fun i m H => i + m = xs.length ∧ ∃ ys, H D = some (.lst ys) ∧ ys.length = i ∧ GrD d H1 H ∧ DeckAt d H ∧ ∀ j y, ys[j]? = some y → R j y H, ⟨xs.length, Nat.zero_add _, [], upd_same, rfl, (GrD.refl d H1).put nD _, dk.put nd _, fun j y h => by simp at h⟩, fun i m H ⟨hm, ys, hD, hy, gr, dk', hR⟩ => ?_⟩
  have sx := gr.st dk a xs hs
  cases m with
  | zero => exact .inl ⟨⟨xs, sx, by omega⟩, fin ys H hD (by omega) gr dk' hR⟩
  | succ m =>
    have hi : i < xs.length := by omega
    refine .inr ⟨⟨xs, xs[i], sx, List.getElem?_eq_getElem hi⟩, fun H' => ∃ ys, H' D = some (.lst ys) ∧ ys.length = i + 1 ∧ GrD d H1 H' ∧ DeckAt d H' ∧ ∀ j y, ys[j]? = some y → R j y H', fun H' h => ⟨m, Nat.lt_succ_self _, by omega, h⟩, fun x H' hyl => ?_⟩
    obtain ⟨rfl, hx⟩ := hyl
    exact step i x H' _ (hx xs sx) gr dk' fun y H4 g4 dk4 r4 => deck_more R hst nD nd hD hy (by omega) gr dk' hR g4 dk4 r4
end SB
namespace SB
open PySem L2 GxR GA RZ
def hopeP : Option Int → PyData
  | none => .none
  | some i => .int i
theorem dp_hopes {K : PySem.W.Frag} {H : Hp} : ∀ hs : List (Option Int), DpAll K H (hs.map hopeV) (hs.map hopeP)
  | [] => .nil
  | none :: r => .cons .non (dp_hopes r)
  | some i :: r => .cons (.int i) (dp_hopes r)
theorem shp_hopes (hs : List (Option Int)) : SeqAt.shaped (.list (hs.map hopeP)) = true := by
  have l : ∀ hs : List (Option Int), PyData.canLayAll0 (hs.map hopeP) = true := fun hs => by
    induction hs with
    | nil => rfl
    | cons h r ih =>
      rw [List.map_cons]
      cases h <;> simp [PyData.canLayAll0, hopeP, PyData.canLay0, ih]
  have d : ∀ hs : List (Option Int), PyData.depthAll (hs.map hopeP) = 0 := fun hs => by
    induction hs with
    | nil => rfl
    | cons h r ih =>
      rw [List.map_cons]
      cases h <;> simp [PyData.depthAll, PyData.depth, hopeP, ih]
  unfold SeqAt.shaped
  rw [Bool.and_eq_true]
  refine ⟨l hs, decide_eq_true ?_⟩
  have h := d hs
  simp [PyData.depth, h]
theorem eqv_nilP (hs : List (Option Int)) : PyData.eqv (.list (hs.map hopeP)) (.list []) = hs.isEmpty := by
  cases hs with
  | nil => decide
  | cons j r => rfl
theorem hopes_of {Pr : Option Int → Prop} : ∀ {ys : List V}, (∀ (i : Nat) (y : V), ys[i]? = some y → ∃ h, y = hopeV h ∧ Pr h) → ∃ hs : List (Option Int), ys = hs.map hopeV ∧ ∀ h, h ∈ hs → Pr h
  | [], _ => ⟨[], rfl, fun h hm => by simp at hm⟩
  | y :: r, f => by
    obtain ⟨h, rfl, ph⟩ := f 0 y rfl
    obtain ⟨hs, rfl, pr⟩ := hopes_of (ys := r) fun i z e => f (i + 1) z (by simpa using e)
    refine ⟨h :: hs, rfl, fun k hk => ?_⟩
    rcases List.mem_cons.mp hk with rfl | hk
    · exact ph
    · exact pr k hk
theorem ixN_nat {n j : Nat} (h : j < n) : ixN n (j : Int) = some j := by
  unfold ixN
  rw [if_pos (by omega), if_pos (by omega)]
  rfl
theorem big_take {n : Nat} (h : n ≤ 64) : ((n : Nat) : Int).natAbs < 2 ^ 8000 := Nat.lt_of_le_of_lt (by omega) (show 64 < 2 ^ 8000 by decide +kernel)
theorem three_less {c : Int} (h0 : -1 ≤ c) (h1 : c ≤ 1) : (([-1, 0, 1] : List Int).filter fun z => decide (z ≠ c)).length = 2 := by
  have : c = -1 ∨ c = 0 ∨ c = 1 := by omega
  rcases this with rfl | rfl | rfl <;> decide
section
variable {P : Program} {w : World} {K : PySem.W.Frag} {mg : Str → Option Value} {base : Heap}
/-- a row's cells: each -1, 0 or 1 -/
def CeOk (zs : List Int) : Prop := ∀ z, z ∈ zs → -1 ≤ z ∧ z ≤ 1
def spLWish (K : PySem.W.Frag) : Sp := fun vs H Q _ => ∃ d a zs, vs = [.ref d, .ref a] ∧ DeckAt d H ∧ SqT K H a (zs.map V.int) ∧ CeOk zs ∧ zs.length ≤ 8 ∧ ∀ p hs H', GrD d H H' → DeckAt d H' → SqT K H' p (hs.map hopeV) → hs.length = zs.length → HpOk hs → Q (.ref p) H'
end
end SB
namespace SB
open PySem L2 GxR GA RZ
/-- a question as data -/
def quP (q : List Int × Int) : PyData := .tuple [.tuple (q.1.map PyData.int), .int q.2]
theorem dp_qus {K : PySem.W.Frag} {H : Hp} : ∀ {xs : List V} {qs : List (List Int × Int)}, Paired (QuV K H) xs qs → DpAll K H xs (qs.map quP)
  | _, _, .nil => .nil
  | _, _, .cons ⟨a, t, ea, hs, b, et, hb⟩ r => by
    subst ea et
    exact .cons (.tup hs (.cons (.tup hb (dp_ints _)) (.cons (.int _) .nil))) (dp_qus r)
theorem shp_qus (qs : List (List Int × Int)) : SeqAt.shaped (.tuple (qs.map quP)) = true := by
  have l : ∀ qs : List (List Int × Int), PyData.canLayAll0 (qs.map quP) = true := fun qs => by
    induction qs with
    | nil => rfl
    | cons q r ih =>
      rw [List.map_cons]
      have h := lay_ints q.1
      simp [PyData.canLayAll0, quP, PyData.canLay0, ih, h]
  have d : ∀ qs : List (List Int × Int), PyData.depthAll (qs.map quP) ≤ 2 := fun qs => by
    induction qs with
    | nil => decide
    | cons q r ih =>
      rw [List.map_cons]
      have h := dep_ints q.1
      simp [PyData.depthAll, PyData.depth, quP, h]
      omega
  unfold SeqAt.shaped
  rw [Bool.and_eq_true]
  refine ⟨l qs, decide_eq_true ?_⟩
  have h := d qs
  simp [PyData.depth]
  omega
theorem eqv_nilT (ds : List PyData) : PyData.eqv (.tuple ds) (.tuple []) = ds.isEmpty := by
  cases ds with
  | nil => decide
  | cons j r => rfl
theorem nums_of {K : PySem.W.Frag} {H : Hp} {Pr : Int × Int → Prop} : ∀ {ys : List V}, (∀ (i : Nat) (y : V), ys[i]? = some y → ∃ u, NuV K H y u ∧ Pr u) → ∃ us : List (Int × Int), Paired (NuV K H) ys us ∧ ∀ u, u ∈ us → Pr u
  | [], _ => ⟨[], .nil, fun h hm => by simp at hm⟩
  | y :: r, f => by
    obtain ⟨u, nu, pu⟩ := f 0 y rfl
    obtain ⟨us, pa, pr⟩ := nums_of (ys := r) fun i z e => f (i + 1) z (by simpa using e)
    refine ⟨u :: us, .cons nu pa, fun k hk => ?_⟩
    rcases List.mem_cons.mp hk with rfl | hk
    · exact pu
    · exact pr k hk
theorem paired_set {α β : Type} {F : α → β → Prop} {x : α} {y : β} : ∀ {xs : List α} {ys : List β}, Paired F xs ys → F x y → ∀ i : Nat, Paired F (xs.set i x) (ys.set i y)
  | _, _, .nil, _, _ => .nil
  | _, _, .cons _ t, h, 0 => .cons h t
  | _, _, .cons r t, h, i + 1 => .cons r (paired_set t h i)
section
variable {P : Program} {w : World} {K : PySem.W.Frag} {mg : Str → Option Value} {base : Heap}
/-- a drawn page: its questions small, of one length -/
structure Pg9 (n : Nat) (qs : List (List Int × Int)) : Prop where
  n1 : 1 ≤ n
  n4 : n ≤ 4
  l8 : qs.length ≤ 8
  q9 : ∀ q, q ∈ qs → Q9 q ∧ q.1.length = n
def spSpot (K : PySem.W.Frag) : Sp := fun vs H Q _ => ∃ d x n qs, vs = [.ref d, x] ∧ DeckAt d H ∧ BkV K H x n qs ∧ Pg9 n qs ∧
  ∀ v us H', GrD d H H' → DeckAt d H' → PtV K H' v us → us.length = n → (∀ u, u ∈ us → Lo u) → (∀ u, u ∈ us → Wd 1000 u) → Q v H'
end
end SB
namespace SB
open PySem L2
theorem eqv_intsA : ∀ a b : List Int, PyData.eqvAll (a.map PyData.int) (b.map PyData.int) = decide (a = b)
  | [], [] => by decide
  | [], _ :: _ => by simp [PyData.eqvAll]
  | _ :: _, [] => by simp [PyData.eqvAll]
  | x :: r, y :: t => by
    have h := eqv_intsA r t
    simp only [List.map_cons, PyData.eqvAll, h, PyData.eqv]
    by_cases e : x = y <;> by_cases e2 : r = t <;> simp [e, e2]
theorem eqv_ints (a b : List Int) : PyData.eqv (.list (a.map PyData.int)) (.list (b.map PyData.int)) = decide (a = b) := by
  have h := eqv_intsA a b
  simp only [PyData.eqv, h]
theorem nonZ_or (zs : List Int) : NonZ zs ∨ zs = List.replicate zs.length 0 := by
  by_cases h : ∃ z, z ∈ zs ∧ z ≠ 0
  · obtain ⟨z, h1, h2⟩ := h
    exact .inl (nonZ_of h1 h2)
  · refine .inr (List.eq_replicate_iff.mpr ⟨rfl, fun z hz => ?_⟩)
    by_cases e : z = 0
    · exact e
    · exact absurd ⟨z, hz, e⟩ h
end SB
namespace SB
open PySem L2 GxR GA RZ
theorem shp_qusL (qs : List (List Int × Int)) : SeqAt.shaped (.list (qs.map quP)) = true := by
  have h := shp_qus qs
  unfold SeqAt.shaped at h ⊢
  rw [Bool.and_eq_true] at h ⊢
  refine ⟨h.1, decide_eq_true ?_⟩
  have h2 := of_decide_eq_true h.2
  simp [PyData.depth] at h2 ⊢
  omega
theorem eqv_nilL (ds : List PyData) : PyData.eqv (.list ds) (.list []) = ds.isEmpty := by
  cases ds with
  | nil => decide
  | cons j r => rfl
theorem ints_of {b : Nat} : ∀ {l : List V}, (∀ (i : Nat) (y : V), l[i]? = some y → ∃ z : Int, y = .int z ∧ z.natAbs ≤ b) → ∃ zs : List Int, l = zs.map V.int ∧ ∀ z, z ∈ zs → z.natAbs ≤ b
  | [], _ => ⟨[], rfl, fun z h => by simp at h⟩
  | y :: r, f => by
    obtain ⟨z, rfl, hz⟩ := f 0 y rfl
    obtain ⟨zs, rfl, hr⟩ := ints_of (l := r) fun i y e => f (i + 1) y (by simpa using e)
    refine ⟨z :: zs, rfl, fun k hk => ?_⟩
    rcases List.mem_cons.mp hk with rfl | hk
    · exact hz
    · exact hr k hk
/-- a list of what comes of two tuples side by side -/
theorem lc_mapZ {K : PySem.W.Frag} {a b : Addr} {xs zs : List V} {g : TG} {te : TE} {vs : List Nat} {σ : L2.St} {H1 : Hp} {D : Addr} {Qd : Hp → Prop} (R : Nat → V → Prop) (nD : H1 D = none) (hl : xs.length = zs.length) (hs : SqT K H1 a xs) (hs2 : SqT K H1 b zs) (hz : xs.length ≤ 1000)
    (step : ∀ (i : Nat) x y (T : Addr) H (Kc : VK), xs[i]? = some x → zs[i]? = some y → Gr H1 H → H T = none → (∀ v H4, Gr (upd H T (.tup [x, y])) H4 → R i v → Kc v H4) → g (.ref T) (wipe σ vs) (upd H T (.tup [x, y])) fun σ2 H2 => wipe σ2 vs = wipe σ vs ∧ te σ2 H2 Kc)
    (fin : ∀ ys H, H D = some (.lst ys) → ys.length = xs.length → Gr H1 H → (∀ i y, ys[i]? = some y → R i y) → Qd H) :
    ∃ W : Nat → Nat → Hp → Prop, (∃ m, W 0 m (upd H1 D (.lst []))) ∧ ∀ i m H, W i m H → ((ItzT K a b).stop i H ∧ Qd H) ∨
      ((ItzT K a b).go i H ∧ ∃ Nx : Hp → Prop, (∀ H', Nx H' → ∃ m', m' < m ∧ W (i + 1) m' H') ∧ ∀ x H', (ItzT K a b).yld i H x H' → g x (wipe σ vs) H' fun σ2 H2 => wipe σ2 vs = wipe σ vs ∧ tYes σ2 H2 fun b H3 =>
        if b = true then te σ2 H3 fun y H4 => ∃ acc, H4 D = some (.lst acc) ∧ acc.length < sizeLine ∧ Nx (upd H4 D (.lst (acc ++ [y]))) else Nx H3) := by
  refine ⟨fun i m H => i + m = xs.length ∧ ∃ ys, H D = some (.lst ys) ∧ ys.length = i ∧ GrD D H1 H ∧ ∀ j y, ys[j]? = some y → R j y, ⟨xs.length, Nat.zero_add _, [], upd_same, rfl, (GrD.refl D H1).set _, fun j y h => by simp at h⟩, fun i m H ⟨hm, ys, hD, hy, gr, hR⟩ => ?_⟩
  have g1 := gr.to nD
  have q1 := g1.seqT hs
  have q2 := g1.seqT hs2
  cases m with
  | zero => exact .inl ⟨⟨xs, zs, q1, q2, .inl (by omega)⟩, fin ys H hD (by omega) g1 hR⟩
  | succ m =>
    have i1 : i < xs.length := by omega
    have i2 : i < zs.length := by omega
    refine .inr ⟨⟨xs, zs, xs[i], zs[i], q1, q2, List.getElem?_eq_getElem i1, List.getElem?_eq_getElem i2⟩, fun H' => ∃ ys, H' D = some (.lst ys) ∧ ys.length = i + 1 ∧ GrD D H1 H' ∧ ∀ j y, ys[j]? = some y → R j y, fun H' h => ⟨m, Nat.lt_succ_self _, by omega, h⟩, fun v H' hyl => ?_⟩
    obtain ⟨T, x, y, rfl, nT, rfl, hx, hy2⟩ := hyl
    refine step i x y T H _ (hx xs q1) (hy2 zs q2) g1 nT fun v H4 g4 rv => ?_
    have gT : Gr H (upd H T (.tup [x, y])) := (Gr.refl H).new nT _
    have hD4 : H4 D = some (.lst ys) := (gT.trans g4).keep D _ (fun _ z => nomatch z) hD
    refine ⟨ys, hD4, small1000 (by omega), ys ++ [v], upd_same, by rw [List.length_append, hy]; rfl, (gr.trans ((gT.trans g4).d D)).set _, fun j z hz2 => ?_⟩
    by_cases hj : j < ys.length
    · rw [List.getElem?_append_left hj] at hz2
      exact hR j z hz2
    · have hl2 := (List.getElem?_eq_some_iff.mp hz2).1
      rw [List.length_append] at hl2
      have hl2 : j < ys.length + 1 := hl2
      have ej : j = ys.length := by omega
      subst ej
      rw [List.getElem?_append_right (Nat.le_refl _), Nat.sub_self] at hz2
      cases hz2
      rw [hy]
      exact rv
theorem flat_zero : ∀ n : Nat, (List.replicate n [V.int 0]).flatten = (List.replicate n (0 : Int)).map V.int
  | 0 => rfl
  | n + 1 => by
    rw [List.replicate_succ, List.flatten_cons, flat_zero n, List.replicate_succ, List.map_cons]
    rfl
/-- ways that come together again: Pst, what holds where they meet -/
theorem seq_join {t u : TS} {D : Ends} {σ : L2.St} {H : Hp} (Pst : L2.St → Hp → Prop) (h2 : ∀ σ' H', Pst σ' H' → u D σ' H') (h1 : ∀ Kn : L2.St → Hp → Prop, (∀ σ' H', Pst σ' H' → Kn σ' H') → t { D with nx := Kn } σ H) : tSeq t u D σ H := h1 (fun σ' H' => u D σ' H') h2
section
variable {P : Program} {w : World} {K : PySem.W.Frag} {mg : Str → Option Value} {base : Heap}
/-- questions in a list -/
def QlV (K : PySem.W.Frag) (H : Hp) (a : Addr) (n : Nat) (qs : List (List Int × Int)) : Prop := ∃ xs, H a = some (.lst xs) ∧ Paired (QuV K H) xs qs ∧ qs.length ≤ 8 ∧ ∀ q, q ∈ qs → Q9 q ∧ q.1.length = n
def spLine (K : PySem.W.Frag) : Sp := fun vs H Q _ => ∃ d a n qs, vs = [.ref d, .int ((n : Nat) : Int), .ref a] ∧ DeckAt d H ∧ a ≠ d ∧ 1 ≤ n ∧ n ≤ 4 ∧ QlV K H a n qs ∧ ∀ v q H', GrD d H H' → DeckAt d H' → QuV K H' v q → Q9 q → q.1.length = n → Q v H'
end
end SB
namespace SB
open PySem L2 GxR GA RZ
/-- a ground as a dict's key -/
def grK (q : List Int × Int) : List Key := (grU q).map Sum.inl
theorem grK_kV (q : List Int × Int) : (grK q).map kV = (grU q).map V.int := by
  unfold grK
  rw [List.map_map]
  rfl
theorem nfU_gr {p q : List Int × Int} (h : nfU p = nfU q) : grK p = grK q := by
  unfold grK grU
  rw [h]
theorem new_none {H : Hp} {a b : Addr} {o : HO} (h : (upd H a o) b = none) : b ≠ a ∧ H b = none := by
  have n : b ≠ a := fun e => by
    rw [e, upd_same] at h
    cases h
  rw [upd_ne n] at h
  exact ⟨n, h⟩
section
variable {P : Program} {w : World} {K : PySem.W.Frag} {mg : Str → Option Value} {base : Heap}
def spPage (K : PySem.W.Frag) : Sp := fun vs H Q _ => ∃ (d : Addr) (m : Nat), vs = [.ref d, .int ((m : Nat) : Int)] ∧ DeckAt d H ∧ m ≤ 7 ∧ ∀ v n qs H', GrD d H H' → DeckAt d H' → BkV K H' v n qs → BOk n qs → Pg9 n qs → Q v H'
end
end SB
namespace SB
open PySem L2 GxR GA RZ
/-- a list of what comes of two tuples side by side, with what stands in the heap -/
theorem lc_mapZH {K : PySem.W.Frag} {a b : Addr} {xs zs : List V} {g : TG} {te : TE} {vs : List Nat} {σ : L2.St} {H1 : Hp} {D : Addr} {Qd : Hp → Prop} (R : Nat → V → Hp → Prop) (hst : ∀ i y H H', R i y H → Tst K H H' → R i y H') (nD : H1 D = none) (hl : xs.length = zs.length) (hs : SqT K H1 a xs) (hs2 : SqT K H1 b zs) (hz : xs.length ≤ 1000)
    (step : ∀ (i : Nat) x y (T : Addr) H (Kc : VK), xs[i]? = some x → zs[i]? = some y → Gr H1 H → H T = none → (∀ v H4, Gr (upd H T (.tup [x, y])) H4 → R i v H4 → Kc v H4) → g (.ref T) (wipe σ vs) (upd H T (.tup [x, y])) fun σ2 H2 => wipe σ2 vs = wipe σ vs ∧ te σ2 H2 Kc)
    (fin : ∀ ys H, H D = some (.lst ys) → ys.length = xs.length → Gr H1 H → (∀ i y, ys[i]? = some y → R i y H) → Qd H) :
    ∃ W : Nat → Nat → Hp → Prop, (∃ m, W 0 m (upd H1 D (.lst []))) ∧ ∀ i m H, W i m H → ((ItzT K a b).stop i H ∧ Qd H) ∨
      ((ItzT K a b).go i H ∧ ∃ Nx : Hp → Prop, (∀ H', Nx H' → ∃ m', m' < m ∧ W (i + 1) m' H') ∧ ∀ x H', (ItzT K a b).yld i H x H' → g x (wipe σ vs) H' fun σ2 H2 => wipe σ2 vs = wipe σ vs ∧ tYes σ2 H2 fun b H3 =>
        if b = true then te σ2 H3 fun y H4 => ∃ acc, H4 D = some (.lst acc) ∧ acc.length < sizeLine ∧ Nx (upd H4 D (.lst (acc ++ [y]))) else Nx H3) := by
  refine ⟨fun i m H => i + m = xs.length ∧ ∃ ys, H D = some (.lst ys) ∧ ys.length = i ∧ GrD D H1 H ∧ ∀ j y, ys[j]? = some y → R j y H, ⟨xs.length, Nat.zero_add _, [], upd_same, rfl, (GrD.refl D H1).set _, fun j y h => by simp at h⟩, fun i m H ⟨hm, ys, hD, hy, gr, hR⟩ => ?_⟩
  have g1 := gr.to nD
  have q1 := g1.seqT hs
  have q2 := g1.seqT hs2
  cases m with
  | zero => exact .inl ⟨⟨xs, zs, q1, q2, .inl (by omega)⟩, fin ys H hD (by omega) g1 hR⟩
  | succ m =>
    have i1 : i < xs.length := by omega
    have i2 : i < zs.length := by omega
    refine .inr ⟨⟨xs, zs, xs[i], zs[i], q1, q2, List.getElem?_eq_getElem i1, List.getElem?_eq_getElem i2⟩, fun H' => ∃ ys, H' D = some (.lst ys) ∧ ys.length = i + 1 ∧ GrD D H1 H' ∧ ∀ j y, ys[j]? = some y → R j y H', fun H' h => ⟨m, Nat.lt_succ_self _, by omega, h⟩, fun v H' hyl => ?_⟩
    obtain ⟨T, x, y, rfl, nT, rfl, hx, hy2⟩ := hyl
    refine step i x y T H _ (hx xs q1) (hy2 zs q2) g1 nT fun v H4 g4 rv => ?_
    have gT : Gr H (upd H T (.tup [x, y])) := (Gr.refl H).new nT _
    have hD4 : H4 D = some (.lst ys) := (gT.trans g4).keep D _ (fun _ z => nomatch z) hD
    have t4 : Tst K H4 (upd H4 D (.lst (ys ++ [v]))) := Tst.put hD4
    refine ⟨ys, hD4, small1000 (by omega), ys ++ [v], upd_same, by rw [List.length_append, hy]; rfl, (gr.trans ((gT.trans g4).d D)).set _, fun j z hz2 => ?_⟩
    by_cases hj : j < ys.length
    · rw [List.getElem?_append_left hj] at hz2
      exact hst _ _ _ _ (hR j z hz2) ((gT.trans g4).st.trans t4)
    · have hl2 := (List.getElem?_eq_some_iff.mp hz2).1
      rw [List.length_append] at hl2
      have hl2 : j < ys.length + 1 := hl2
      have ej : j = ys.length := by omega
      subst ej
      rw [List.getElem?_append_right (Nat.le_refl _), Nat.sub_self] at hz2
      cases hz2
      rw [hy]
      exact hst _ _ _ _ rv t4
/-- numbers in a row, told place by place -/
theorem nums_at {K : PySem.W.Frag} {H : Hp} : ∀ {ys : List V} {Pr : Nat → Int × Int → Prop}, (∀ (i : Nat) (y : V), ys[i]? = some y → ∃ u, NuV K H y u ∧ Pr i u) → ∃ us : List (Int × Int), Paired (NuV K H) ys us ∧ ∀ i u, us[i]? = some u → Pr i u
  | [], _, _ => ⟨[], .nil, fun i u h => by simp at h⟩
  | y :: r, Pr, f => by
    obtain ⟨u, nu, pu⟩ := f 0 y rfl
    obtain ⟨us, pa, pr⟩ := nums_at (ys := r) (Pr := fun i => Pr (i + 1)) fun i z e => f (i + 1) z (by simpa using e)
    refine ⟨u :: us, .cons nu pa, fun i k hk => ?_⟩
    cases i with
    | zero =>
      have : u = k := by simpa using hk
      rw [← this]
      exact pu
    | succ i => exact pr i k (by simpa using hk)
/-- a number on the way from u to w -/
def OnWay (s u w : Int × Int) (m : Nat) (r : Int × Int) : Prop := Lo r ∧ Wd m r ∧ qv r = qv u + qv s * (qv w - qv u)
theorem mix_of {s : Int × Int} {us ws rs : List (Int × Int)} {m : Nat} (hl : us.length = ws.length) (lr : rs.length = us.length) (h : ∀ (i : Nat) (r : Int × Int), rs[i]? = some r → ∃ u w, us[i]? = some u ∧ ws[i]? = some w ∧ OnWay s u w m r) :
    (∀ r, r ∈ rs → Lo r) ∧ (∀ r, r ∈ rs → Wd m r) ∧ rs.map qv = mixQ (qv s) (us.map qv) (ws.map qv) := by
  refine ⟨fun r hr => ?_, fun r hr => ?_, List.ext_getElem? fun i => ?_⟩
  · obtain ⟨i, e⟩ := List.getElem?_of_mem hr
    obtain ⟨u, w, _, _, o⟩ := h i r e
    exact o.1
  · obtain ⟨i, e⟩ := List.getElem?_of_mem hr
    obtain ⟨u, w, _, _, o⟩ := h i r e
    exact o.2.1
  · rw [List.getElem?_map]
    cases e : rs[i]? with
    | none =>
      have : rs.length ≤ i := List.getElem?_eq_none_iff.mp e
      rw [Option.map_none]
      refine (List.getElem?_eq_none ?_).symm
      unfold mixQ
      rw [List.length_zipWith, List.length_map, List.length_map]
      omega
    | some r =>
      obtain ⟨u, w, eu, ew, o⟩ := h i r e
      rw [Option.map_some, mix_at (by rw [List.getElem?_map, eu]; rfl) (by rw [List.getElem?_map, ew]; rfl), o.2.2]
section
variable {P : Program} {w : World} {K : PySem.W.Frag} {mg : Str → Option Value} {base : Heap}
def spPutA (K : PySem.W.Frag) : Sp := fun vs H Q _ => ∃ a b zs ws, vs = [.ref a, .ref b] ∧ SqT K H a (zs.map V.int) ∧ SqT K H b (ws.map V.int) ∧ zs.length = ws.length ∧ zs.length ≤ 8 ∧ ∀ v H', Gr H H' → SiV K H' v (aheadU zs ws) → Q v H'
def spRowB (K : PySem.W.Frag) (T : Nat → Addr) : Sp := fun vs H Q _ => ∃ x y z d qs us ws, vs = [x, y, z] ∧ Tb5 T H ∧ BkV K H x d qs ∧ PtV K H y us ∧ PtV K H z ws ∧ BOk d qs ∧ UsOk us ∧ UsOk ws ∧ us.length = d ∧ ws.length = d ∧ ∀ v H', Gr H H' → SiV K H' v (aheadU (rowU qs us) (rowU qs ws)) → Q v H'
def spBetween (K : PySem.W.Frag) : Sp := fun vs H Q _ => ∃ x y z us ws s m n k, vs = [x, y, z] ∧ PtV K H x us ∧ PtV K H y ws ∧ NuV K H z s ∧ us ≠ [] ∧ us.length = ws.length ∧ us.length ≤ 8 ∧ (∀ u, u ∈ us → Lo u) ∧ (∀ u, u ∈ ws → Lo u) ∧ Lo s ∧ (∀ u, u ∈ us → Wd m u) ∧ (∀ u, u ∈ ws → Wd n u) ∧ Wd k s ∧ 2 * m + n + k ≤ 200000 ∧
  ∀ v rs H', Gr H H' → PtV K H' v rs → rs.length = us.length → (∀ r, r ∈ rs → Lo r) → (∀ r, r ∈ rs → Wd (2 * m + n + k + 4) r) → rs.map qv = mixQ (qv s) (us.map qv) (ws.map qv) → Q v H'
end
end SB
namespace SB
open PySem L2 GxR GA RZ
theorem paired_of {α β : Type} {F : α → β → Prop} : ∀ {ys : List α} {zs : List β}, ys.length = zs.length → (∀ (i : Nat) (y : α) (z : β), ys[i]? = some y → zs[i]? = some z → F y z) → Paired F ys zs
  | [], [], _, _ => .nil
  | [], _ :: _, h, _ => by cases h
  | _ :: _, [], h, _ => by cases h
  | y :: r, z :: t, h, f => .cons (f 0 y z rfl rfl) (paired_of (by simpa using h) fun i a b e1 e2 => f (i + 1) a b (by simpa using e1) (by simpa using e2))
/-- sides and wall of width k -/
def QW (k : Nat) (q : List Int × Int) : Prop := (∀ z, z ∈ q.1 → z.natAbs < 2 ^ k) ∧ q.2.natAbs < 2 ^ k
section
variable {P : Program} {w : World} {K : PySem.W.Frag} {mg : Str → Option Value} {base : Heap}
def spWithout (K : PySem.W.Frag) (T : Nat → Addr) : Sp := fun vs H Q _ => ∃ x d qs i, vs = [x, .int ((i : Nat) : Int)] ∧ Tb5 T H ∧ BkV K H x d qs ∧ BOk d qs ∧ i < qs.length ∧ ∀ v H', Gr H H' → BkV K H' v d (qs.take i ++ qs.drop (i + 1)) → Q v H'
/-! ### moved -/
def spMovQ (K : PySem.W.Frag) : Sp := fun vs H Q _ => ∃ x y q us k m, vs = [x, y] ∧ QuV K H x q ∧ PtV K H y us ∧ NonZ q.1 ∧ q.1.length = us.length ∧ us.length ≤ 4 ∧ (∀ u, u ∈ us → Lo u) ∧ (∀ u, u ∈ us → Wd m u) ∧ QW k q ∧ 4 * (m + k + 3) + 2 * k ≤ 200000 ∧
  ∀ v H', Gr H H' → QuV K H' v (movU q us) → Wd (3 + us.length * (m + k + 3) + k) (shiftU q us) → Q v H'
def spMoved (K : PySem.W.Frag) (T : Nat → Addr) : Sp := fun vs H Q _ => ∃ x y d qs us k m, vs = [x, y] ∧ Tb5 T H ∧ BkV K H x d qs ∧ PtV K H y us ∧ BOk d qs ∧ us.length = d ∧ us ≠ [] ∧ us.length ≤ 4 ∧ (∀ u, u ∈ us → Lo u) ∧ (∀ u, u ∈ us → Wd m u) ∧ (∀ q, q ∈ qs → QW k q) ∧ 4 * (m + k + 3) + 2 * k ≤ 200000 ∧
  ∀ v H', Gr H H' → BkV K H' v d (qs.map fun q => movU q us) → (∀ q, q ∈ qs → Wd (3 + us.length * (m + k + 3) + k) (shiftU q us)) → Q v H'
end
end SB
namespace SB
open PySem L2 GxR GA RZ
/-- a list of what comes of a tuple and a list side by side -/
theorem lc_mapM {K : PySem.W.Frag} {a b : Addr} {xs zs : List V} {g : TG} {te : TE} {vs : List Nat} {σ : L2.St} {H1 : Hp} {D : Addr} {Qd : Hp → Prop} (R : Nat → V → Prop) (nD : H1 D = none) (hl : xs.length = zs.length) (hs : SqT K H1 a xs) (hs2 : SqL K H1 b zs) (hz : xs.length ≤ 1000)
    (step : ∀ (i : Nat) x y (T : Addr) H (Kc : VK), xs[i]? = some x → zs[i]? = some y → Gr H1 H → H T = none → (∀ v H4, Gr (upd H T (.tup [x, y])) H4 → R i v → Kc v H4) → g (.ref T) (wipe σ vs) (upd H T (.tup [x, y])) fun σ2 H2 => wipe σ2 vs = wipe σ vs ∧ te σ2 H2 Kc)
    (fin : ∀ ys H, H D = some (.lst ys) → ys.length = xs.length → Gr H1 H → (∀ i y, ys[i]? = some y → R i y) → Qd H) :
    ∃ W : Nat → Nat → Hp → Prop, (∃ m, W 0 m (upd H1 D (.lst []))) ∧ ∀ i m H, W i m H → ((ZM.ItzM K a b).stop i H ∧ Qd H) ∨
      ((ZM.ItzM K a b).go i H ∧ ∃ Nx : Hp → Prop, (∀ H', Nx H' → ∃ m', m' < m ∧ W (i + 1) m' H') ∧ ∀ x H', (ZM.ItzM K a b).yld i H x H' → g x (wipe σ vs) H' fun σ2 H2 => wipe σ2 vs = wipe σ vs ∧ tYes σ2 H2 fun b H3 =>
        if b = true then te σ2 H3 fun y H4 => ∃ acc, H4 D = some (.lst acc) ∧ acc.length < sizeLine ∧ Nx (upd H4 D (.lst (acc ++ [y]))) else Nx H3) := by
  refine ⟨fun i m H => i + m = xs.length ∧ ∃ ys, H D = some (.lst ys) ∧ ys.length = i ∧ GrD D H1 H ∧ ∀ j y, ys[j]? = some y → R j y, ⟨xs.length, Nat.zero_add _, [], upd_same, rfl, (GrD.refl D H1).set _, fun j y h => by simp at h⟩, fun i m H ⟨hm, ys, hD, hy, gr, hR⟩ => ?_⟩
  have g1 := gr.to nD
  have q1 := g1.seqT hs
  have q2 := g1.seqL hs2
  cases m with
  | zero => exact .inl ⟨⟨xs, zs, q1, q2, .inl (by omega)⟩, fin ys H hD (by omega) g1 hR⟩
  | succ m =>
    have i1 : i < xs.length := by omega
    have i2 : i < zs.length := by omega
    refine .inr ⟨⟨xs, zs, xs[i], zs[i], q1, q2, List.getElem?_eq_getElem i1, List.getElem?_eq_getElem i2⟩, fun H' => ∃ ys, H' D = some (.lst ys) ∧ ys.length = i + 1 ∧ GrD D H1 H' ∧ ∀ j y, ys[j]? = some y → R j y, fun H' h => ⟨m, Nat.lt_succ_self _, by omega, h⟩, fun v H' hyl => ?_⟩
    obtain ⟨T, x, y, rfl, nT, rfl, hx, hy2⟩ := hyl
    refine step i x y T H _ (hx xs q1) (hy2 zs q2) g1 nT fun v H4 g4 rv => ?_
    have gT : Gr H (upd H T (.tup [x, y])) := (Gr.refl H).new nT _
    have hD4 : H4 D = some (.lst ys) := (gT.trans g4).keep D _ (fun _ z => nomatch z) hD
    refine ⟨ys, hD4, small1000 (by omega), ys ++ [v], upd_same, by rw [List.length_append, hy]; rfl, (gr.trans ((gT.trans g4).d D)).set _, fun j z hz2 => ?_⟩
    by_cases hj : j < ys.length
    · rw [List.getElem?_append_left hj] at hz2
      exact hR j z hz2
    · have hl2 := (List.getElem?_eq_some_iff.mp hz2).1
      rw [List.length_append] at hl2
      have hl2 : j < ys.length + 1 := hl2
      have ej : j = ys.length := by omega
      subst ej
      rw [List.getElem?_append_right (Nat.le_refl _), Nat.sub_self] at hz2
      cases hz2
      rw [hy]
      exact rv
/-- what the sides come to at a point, less the wall -/
def wq (q : List Int × Int) (us : List (Int × Int)) : Rat := qv (worthU q us)
/-- a share below the one at which the sign changes -/
def Near (s a b : Rat) : Prop := (0 < a → b < 0 → s * (a - b) < a) ∧ (a < 0 → 0 < b → s * (b - a) < -a)
def Upto (s a b : Rat) : Prop := (0 < a → b < 0 → s * (a - b) ≤ a) ∧ (a < 0 → 0 < b → s * (b - a) ≤ -a)
theorem Upto.less {s t a b : Rat} (h : Upto s a b) (hl : t ≤ s) : Upto t a b := by
  refine ⟨fun h1 h2 => ?_, fun h1 h2 => ?_⟩
  · have := h.1 h1 h2
    have : 0 ≤ (s - t) * (a - b) := Rat.mul_nonneg (by grind) (by grind)
    grind
  · have := h.2 h1 h2
    have : 0 ≤ (s - t) * (b - a) := Rat.mul_nonneg (by grind) (by grind)
    grind
theorem Upto.near {s t a b : Rat} (h : Upto s a b) (hl : t < s) : Near t a b := by
  refine ⟨fun h1 h2 => ?_, fun h1 h2 => ?_⟩
  · have := h.1 h1 h2
    have : 0 < (s - t) * (a - b) := Rat.mul_pos (by grind) (by grind)
    grind
  · have := h.2 h1 h2
    have : 0 < (s - t) * (b - a) := Rat.mul_pos (by grind) (by grind)
    grind
theorem qv_inv {r w : Int × Int} (e : Eqr r w.2 w.1) (h : 0 < r.2) (hw : 0 < w.2) (h0 : w.1 ≠ 0) : qv r * qv w = 1 := by
  have e : r.1 * w.1 = w.2 * r.2 := e
  have e2 : (r.1 : Rat) * (w.1 : Rat) = (w.2 : Rat) * (r.2 : Rat) := by rw [← Rat.intCast_mul, e, Rat.intCast_mul]
  have h1 := qv_mul h
  have h2 := qv_mul hw
  have n1 := rne h
  have n2 := rne hw
  have n3 := rne0 h0
  have key : (qv r * qv w - 1) * ((r.2 : Rat) * (w.2 : Rat)) = 0 := by grind
  rcases Rat.mul_eq_zero.mp key with z | z
  · grind
  · rcases Rat.mul_eq_zero.mp z with z | z
    · exact absurd z n1
    · exact absurd z n2
theorem less_qv {p q : Int × Int} (hp : 0 < p.2) (hq : 0 < q.2) : p.1 * q.2 - q.1 * p.2 < 0 ↔ qv p < qv q := by
  have h := qv_neg (p := fMinus p q) (Int.mul_pos hp hq)
  rw [qv_minus hp hq] at h
  have h : qv p - qv q < 0 ↔ p.1 * q.2 - q.1 * p.2 < 0 := h
  rw [← h]
  constructor <;> intro z <;> grind
section
variable {P : Program} {w : World} {K : PySem.W.Frag} {mg : Str → Option Value} {base : Heap}
def spLess (K : PySem.W.Frag) : Sp := fun vs H Q _ => ∃ x y p q m n, vs = [x, y] ∧ NuV K H x p ∧ NuV K H y q ∧ Wd m p ∧ Wd n q ∧ m + n ≤ 300000 ∧ Q (.bl (decide (p.1 * q.2 - q.1 * p.2 < 0))) H
def spLBet (K : PySem.W.Frag) : Sp := fun vs H Q _ => ∃ x y z us ws s m n k, vs = [x, y, z] ∧ PtV K H x us ∧ PtV K H y ws ∧ NuV K H z s ∧ us.length = ws.length ∧ us.length ≤ 8 ∧ (∀ u, u ∈ us → Lo u) ∧ (∀ u, u ∈ ws → Lo u) ∧ Lo s ∧ (∀ u, u ∈ us → Wd m u) ∧ (∀ u, u ∈ ws → Wd n u) ∧ Wd k s ∧ 2 * m + n + k ≤ 200000 ∧
  ∀ v rs H', Gr H H' → PtV K H' v rs → rs.length = us.length → (∀ r, r ∈ rs → Lo r) → (∀ r, r ∈ rs → Wd (2 * m + n + k + 4) r) → rs.map qv = mixQ (qv s) (us.map qv) (ws.map qv) → Q v H'
/-! ### a share -/
def spLPart (K : PySem.W.Frag) : Sp := fun vs H Q _ => ∃ d, vs = [.ref d] ∧ DeckAt d H ∧ ∀ v r H', GrD d H H' → DeckAt d H' → NuV K H' v r → Lo r → Wd 134 r → Q v H'
end
end SB
namespace SB
open PySem L2 GxR GA RZ
/-- the signs of two fractions are unlike -/
theorem two_sides {p q : Int × Int} (hp : 0 < p.2) (hq : 0 < q.2) : p.1 * q.1 < 0 ↔ (0 < qv p ∧ qv q < 0) ∨ (qv p < 0 ∧ 0 < qv q) := by
  rw [qv_pos hp, qv_pos hq, qv_neg hp, qv_neg hq]
  constructor
  · intro h
    rcases Int.lt_trichotomy p.1 0 with z | z | z
    · refine .inr ⟨z, ?_⟩
      rcases Int.lt_trichotomy q.1 0 with y | y | y
      · have := Int.mul_pos_of_neg_of_neg z y
        omega
      · rw [y, Int.mul_zero] at h
        omega
      · exact y
    · rw [z, Int.zero_mul] at h
      omega
    · refine .inl ⟨z, ?_⟩
      rcases Int.lt_trichotomy q.1 0 with y | y | y
      · exact y
      · rw [y, Int.mul_zero] at h
        omega
      · have := Int.mul_pos z y
        omega
  · rintro (⟨h1, h2⟩ | ⟨h1, h2⟩)
    · exact Int.mul_neg_of_pos_of_neg h1 h2
    · exact Int.mul_neg_of_neg_of_pos h1 h2
theorem not_near {s a b : Rat} (h : ¬ ((0 < a ∧ b < 0) ∨ (a < 0 ∧ 0 < b))) : Upto s a b := ⟨fun h1 h2 => absurd (.inl ⟨h1, h2⟩) h, fun h1 h2 => absurd (.inr ⟨h1, h2⟩) h⟩
section
variable {P : Program} {w : World} {K : PySem.W.Frag} {mg : Str → Option Value} {base : Heap}
def spLeast (K : PySem.W.Frag) : Sp := fun vs H Q _ => ∃ x y z d qs us ws, vs = [x, y, z] ∧ BkV K H x d qs ∧ PtV K H y us ∧ PtV K H z ws ∧ (∀ q, q ∈ qs → Q9 q ∧ q.1.length = us.length) ∧ us.length = ws.length ∧ us.length ≤ 4 ∧ (∀ u, u ∈ us → Lo u) ∧ (∀ u, u ∈ ws → Lo u) ∧ (∀ u, u ∈ us → Wd 1000 u) ∧ (∀ u, u ∈ ws → Wd 1000 u) ∧
  ∀ v r H', Gr H H' → NuV K H' v r → Lo r → Wd 12300 r → 0 < qv r → qv r < 1 → (∀ q, q ∈ qs → Near (qv r) (wq q us) (wq q ws)) → Q v H'
end
end SB
namespace SB
open PySem L2 GxR GA RZ
section
variable {P : Program} {w : World} {K : PySem.W.Frag} {mg : Str → Option Value} {base : Heap}
def spThr (K : PySem.W.Frag) : Sp := fun vs H Q _ => ∃ d x n qs, vs = [.ref d, x] ∧ DeckAt d H ∧ BkV K H x n qs ∧ Pg9 n qs ∧ ∀ v qs' H', GrD d H H' → DeckAt d H' → BkV K H' v n qs' → BOk n qs' → Pg9 n qs' → Q v H'
end
end SB
namespace RP
open PySem PySem.Spec PyProof.Rows L2
theorem mulOne (l : Addr) (items : Array Value) (n : Nat) (dd : Option Addr) (sl : Array (Option Value)) (u : Tok) :
    Meets (Builtin.«tuple.__mul__» ⟨[.ref l, .int 1 u], []⟩) (fun _ R s => s.heap.get? l = some { cls := .type "tuple", dict := dd, data := .seq items n, slots := sl } ∧ R (.ok (.ret (Value.ref l))) s) :=
  .of_wp fun prog w A R s h => by
    obtain ⟨hp, g, d, tk, os⟩ := s
    obtain ⟨hl, h⟩ := h
    have f1 := AutoSeq1.idx_int
    wp_walk using wpAny_loadPart' hl
    repeat (first
      | (refine wpAny_ite_false (decide_eq_false (by decide)) ?_; wp_walk using wpAny_loadPart' hl)
      | (refine wpAny_ite_true (decide_eq_true (by simp)) ?_; wp_walk using wpAny_loadPart' hl))
    exact ⟨_, rfl, h⟩
theorem mulNone (l : Addr) (items : Array Value) (n : Nat) (dd : Option Addr) (sl : Array (Option Value)) (u : Tok) (hi : items.isEmpty = false) :
    Meets (Builtin.«tuple.__mul__» ⟨[.ref l, .int 0 u], []⟩) (fun _ R s => s.heap.get? l = some { cls := .type "tuple", dict := dd, data := .seq items n, slots := sl } ∧
      R (.ok (.ret (Value.ref s.heap.objs.size))) { s with heap := s.heap.push { cls := Value.type "tuple", data := Data.seq #[] }, toks := s.toks }) :=
  .of_wp fun prog w A R s h => by
    obtain ⟨hp, g, d, tk, os⟩ := s
    obtain ⟨hl, h⟩ := h
    have f1 := AutoSeq1.idx_int
    wp_walk using wpAny_loadPart' hl
    repeat (first
      | (refine wpAny_ite_false (decide_eq_false (by decide)) ?_; wp_walk using wpAny_loadPart' hl)
      | (refine wpAny_ite_false (decide_eq_false (by rw [hi]; decide)) ?_; wp_walk using wpAny_loadPart' hl)
      | (refine wpAny_ite_true (decide_eq_true (by simp)) ?_; wp_walk using wpAny_loadPart' hl))
    exact ⟨_, rfl, h⟩
/-- tuple * k, k from 0 on -/
def rRepA (K : PySem.W.Frag) : R2 := fun x y H Q => ∃ l k xs, x = .ref l ∧ y = .int k ∧ SqT K H l xs ∧ xs ≠ [] ∧ 0 ≤ k ∧ k ≤ 1000 ∧ xs.length ≤ 1000 ∧ (k = 1 → Q (.ref l) H) ∧ (k ≠ 1 → ∀ p, H p = none → Q (.ref p) (upd H p (.tup (List.replicate k.toNat xs).flatten)))
theorem op_repA {X : Cx} : OpR X (binaryOp .Mult) (rRepA X.K) := by
  intro pins s σ H x y v u Q I rx ry h
  obtain ⟨l, k, xs, rfl, rfl, hT, hne, h1, h2, hz, qa, qb⟩ := h
  by_cases c : 2 ≤ k
  · exact op_repT pins s σ H _ _ v u Q I rx ry ⟨l, k, xs, rfl, rfl, hT, hne, c, h2, hz, qb (by omega)⟩
  cases rx
  obtain ⟨t, rfl⟩ := ry
  obtain ⟨its, r, ⟨⟨cls, dd, data, sl⟩, ho, hc, n, hd⟩, hs⟩ := I.tuple hT
  simp only at hc hd
  subst hc hd
  have hle : its.length = xs.length := r.length.symm
  have hn : its ≠ [] := fun e => hne (by
    rw [e] at hle
    exact List.eq_nil_of_length_eq_zero hle.symm)
  have hi : its.toArray.isEmpty = false := by
    cases its with
    | nil => exact absurd rfl hn
    | cons a b => rfl
  have c2 : k = 0 ∨ k = 1 := by omega
  rcases c2 with rfl | rfl
  · refine wpAny_binaryOp_repeat_ref (T := "tuple") (U := "int") (by decide) ⟨_, ho, rfl⟩ (fun s' => typeIs_int s' 0 t) noFill_tuple_mul F.fills_int_mul F.slot_int_rmul repeat_tuple F.slot_int_index.lookup
      (call_meets F.slot_int_rmul (typeIs_int s 0 t) F.entry_int_rmul (F.args_int_rmul_2 _ _) (int_rmul_tuple 0 t l its.toArray n dd sl)
        ⟨ho, rfl, ⟨_, ho, rfl⟩, call_meets F.slot_tuple_mul ⟨_, ho, rfl⟩ F.entry_tuple_mul (F.args_tuple_mul_2 _ _) (mulNone l its.toArray n dd sl t hi) ⟨ho, ?_⟩⟩)
    refine ⟨.ref s.heap.objs.size, _, I.laid (t' := s.toks) (o := .tup []) (fun b ob q => Heap.get?_push_of_some _ q) (Nat.le_refl _) ?_, rfl, qb (by decide) _ (I.hok.fresh (Nat.le_refl _))⟩
    exact ⟨by decide, _, .nil, IsTup.new _ _⟩
  · refine wpAny_binaryOp_repeat_ref (T := "tuple") (U := "int") (by decide) ⟨_, ho, rfl⟩ (fun s' => typeIs_int s' 1 t) noFill_tuple_mul F.fills_int_mul F.slot_int_rmul repeat_tuple F.slot_int_index.lookup
      (call_meets F.slot_int_rmul (typeIs_int s 1 t) F.entry_int_rmul (F.args_int_rmul_2 _ _) (int_rmul_tuple 1 t l its.toArray n dd sl)
        ⟨ho, rfl, ⟨_, ho, rfl⟩, call_meets F.slot_tuple_mul ⟨_, ho, rfl⟩ F.entry_tuple_mul (F.args_tuple_mul_2 _ _) (mulOne l its.toArray n dd sl t) ⟨ho, ?_⟩⟩)
    exact ⟨.ref l, H, I, rfl, qa rfl⟩
end RP
namespace SB
open PySem L2 GxR GA RZ
/-! ### a call by names alone -/
structure ClK (P : Program) (w : World) (K : PySem.W.Frag) (mg : Str → Option Value) (base : Heap) (k : Nat) (x : Str) (ps ks : List Str) (g : List Value → List Value → List Value) (gV : List V → List V → List V) (sp : Sp) : Prop where
  ex : ∃ (f : Addr) (fd : FuncData), FnOk P w K mg base CX0 k f fd ps sp ∧ mg x = some (.ref f) ∧ PySem.W.keepIn K (.ref f) = true ∧ KBinds K fd ps ks g gV
theorem ClK.mono {P : Program} {w : World} {K : PySem.W.Frag} {mg : Str → Option Value} {base : Heap} {j k : Nat} {x : Str} {ps ks : List Str} {g : List Value → List Value → List Value} {gV : List V → List V → List V} {sp : Sp} (c : ClK P w K mg base j x ps ks g gV sp) (h : j ≤ k) : ClK P w K mg base k x ps ks g gV sp := by
  obtain ⟨f, fd, F, r⟩ := c.ex
  exact ⟨f, fd, F.mono h, r⟩
def tCallK0 (sp : Sp) (gV : List V → List V → List V) (tk : TA) : TE := fun σ H Q => tk σ H fun zs H2 => sp (gV [] zs) H2 Q E0
theorem pe_clK {X : Cx} {k : Nat} {x : Str} {ps ks : List Str} {g : List Value → List Value → List Value} {gV : List V → List V → List V} {sp : Sp} {p pos : Pos} {kws : List Keyword} {tk : TA} (c : ClK X.prog X.w X.K X.mg X.base k x ps ks g gV sp) (hr : Room k X.A) (hkw : PK X kws tk) (hg : Gl X x := by rfl)
    (hall : (backToKw pos (keywordEach kws X.env)).all (·.1.isSome) = true := by rfl) (hks : (backToKw pos (keywordEach kws X.env)).filterMap (·.1) = ks := by rfl) (hdb : (x == ("__debug__" : Str)) = false := by decide)
    (hpl : ((backTo pos (starEach [] X.env)).any (·.1) || (backToKw pos (keywordEach kws X.env)).any (·.1.isNone)) = false := by rfl) : PE X (.Call (.Name x p) [] kws pos) (tCallK0 sp gV tk) := by
  obtain ⟨f, fd, F, hm, hk, hb⟩ := c.ex
  refine ⟨fun pins s σ H Q I h => ?_⟩
  refine wpAny_Call_Name_kw (ld_glob I hg hm ?_ hdb)
  refine PySem.W.callWith_KW0 (h₀ := X.base) I.ok.mod.kin hk hall (thn (hkw.run pos pins s σ H _ I h) fun ws s2 ⟨zs, H2, I2, rz, q2⟩ => ⟨I2.kIn, ?_⟩) hpl
  rw [hks]
  exact run_fnk (us := []) (vs := []) F hr hb pass0 I2 .nil rz q2
/-- two, three, four names the other way round -/
def gR2 {α : Type} : List α → List α → List α
  | [], [a, b] => [b, a]
  | _, _ => []
def gR3 {α : Type} : List α → List α → List α
  | [], [a, b, c] => [c, b, a]
  | _, _ => []
theorem gR2_rel {vs : List V} {us : List Value} {zs : List V} {ws : List Value} (r : Vals vs us) (q : Vals zs ws) : Vals (gR2 vs zs) (gR2 us ws) := by
  cases r with
  | cons _ _ => exact .nil
  | nil =>
    cases q with
    | nil => exact .nil
    | cons h1 q =>
      cases q with
      | nil => exact .nil
      | cons h2 q =>
        cases q with
        | nil => exact .cons h2 (.cons h1 .nil)
        | cons h3 q => exact .nil
theorem gR3_rel {vs : List V} {us : List Value} {zs : List V} {ws : List Value} (r : Vals vs us) (q : Vals zs ws) : Vals (gR3 vs zs) (gR3 us ws) := by
  cases r with
  | cons _ _ => exact .nil
  | nil =>
    cases q with
    | nil => exact .nil
    | cons h1 q =>
      cases q with
      | nil => exact .nil
      | cons h2 q =>
        cases q with
        | nil => exact .nil
        | cons h3 q =>
          cases q with
          | nil => exact .cons h3 (.cons h2 (.cons h1 .nil))
          | cons h4 q => exact .nil
theorem gR2_len {us ws : List Value} (h : (gR2 us ws).length = 2) : ∃ a b, us = [] ∧ ws = [a, b] := by
  match us, ws, h with
  | [], [a, b], _ => exact ⟨a, b, rfl, rfl⟩
theorem gR3_len {us ws : List Value} (h : (gR3 us ws).length = 3) : ∃ a b c, us = [] ∧ ws = [a, b, c] := by
  match us, ws, h with
  | [], [a, b, c], _ => exact ⟨a, b, c, rfl, rfl⟩
section
variable {P : Program} {w : World} {K : PySem.W.Frag} {mg : Str → Option Value} {base : Heap} {k : Nat} {x : Str} {st : Stmt} {sp : Sp} {c : Addr}
/-- from a call by places, where the def is known -/
theorem clK_of {ps ks : List Str} {g : List Value → List Value → List Value} {gV : List V → List V → List V} (C : Cl P w K mg base k x ps sp) (D : Df K mg x st)
    (hb : ∀ (kV doc pm : Value) (an : Option Addr) (cdv ct : Value), KBinds K (PySem.W.fnOf x x (defArgs st) (defBody st) (defScope st) .none kV doc pm an cdv ct) ps ks g gV) : ClK P w K mg base k x ps ks g gV sp := by
  obtain ⟨f, fd, F, m⟩ := D.ex
  obtain ⟨oc, od, kV, doc, pm, an, cdv, ct, osl, rfl, lk, hcd⟩ := F.ex
  obtain ⟨fd2, G, oc2, od2, osl2, lk2⟩ := C.lk f m
  rw [lk] at lk2
  cases lk2
  exact ⟨f, _, G, m, F.kp, hb kV doc pm an cdv ct⟩
theorem DfT.df (D : DfT K mg x st c) : Df K mg x st := by
  obtain ⟨f, fd, F, m⟩ := D.ex
  exact ⟨f, fd, F.fn, m⟩
theorem clK2 {a b : Str} (C : Cl P w K mg base k x [a, b] sp) (D : Df K mg x st)
    (hb : ∀ (kV doc pm : Value) (an : Option Addr) (cdv ct : Value) (u v : Value), bindArgs (PySem.W.fnOf x x (defArgs st) (defBody st) (defScope st) .none kV doc pm an cdv ct) ⟨[], [(b, v), (a, u)]⟩ = pure [(a, u), (b, v)]) : ClK P w K mg base k x [a, b] [b, a] gR2 gR2 sp :=
  clK_of C D fun kV doc pm an cdv ct => ⟨fun s us ws _ hl => by
    obtain ⟨u, v, rfl, rfl⟩ := gR2_len hl
    exact .of_eq (hb kV doc pm an cdv ct v u), fun r q => gR2_rel r q⟩
theorem clK3 {a b d : Str} (C : Cl P w K mg base k x [a, b, d] sp) (D : Df K mg x st)
    (hb : ∀ (kV doc pm : Value) (an : Option Addr) (cdv ct : Value) (u v z : Value), bindArgs (PySem.W.fnOf x x (defArgs st) (defBody st) (defScope st) .none kV doc pm an cdv ct) ⟨[], [(d, z), (b, v), (a, u)]⟩ = pure [(a, u), (b, v), (d, z)]) : ClK P w K mg base k x [a, b, d] [d, b, a] gR3 gR3 sp :=
  clK_of C D fun kV doc pm an cdv ct => ⟨fun s us ws _ hl => by
    obtain ⟨u, v, z, rfl, rfl⟩ := gR3_len hl
    exact .of_eq (hb kV doc pm an cdv ct z v u), fun r q => gR3_rel r q⟩
end
end SB
namespace SB
open PySem L2 GxR GA RZ
theorem sgn_neg (i : Int) : sgn (-i) = -sgn i := by
  unfold sgn
  by_cases h1 : 0 < i
  · rw [if_pos h1, if_neg (by omega), if_pos (by omega)]
  · rw [if_neg h1]
    by_cases h2 : i < 0
    · rw [if_pos h2, if_pos (by omega)]
      rfl
    · rw [if_neg h2, if_neg (by omega), if_neg (by omega)]
      rfl
theorem sgn_in (i : Int) : -1 ≤ sgn i ∧ sgn i ≤ 1 := by
  unfold sgn
  by_cases h1 : 0 < i
  · rw [if_pos h1]; decide
  · rw [if_neg h1]
    by_cases h2 : i < 0
    · rw [if_pos h2]; decide
    · rw [if_neg h2]; decide
theorem ans_neg (q : List Int × Int) (us : List (Int × Int)) : ansU (negU q) us = -ansU q us := by
  unfold ansU
  rw [worth_neg, sgn_neg]
theorem row_len (qs : List (List Int × Int)) (us : List (Int × Int)) : (rowU qs us).length = qs.length := List.length_map _
theorem row_at {qs : List (List Int × Int)} {us : List (Int × Int)} {i : Nat} {q : List Int × Int} (e : qs[i]? = some q) : (rowU qs us)[i]? = some (ansU q us) := by
  unfold rowU
  rw [List.getElem?_map, e]
  rfl
theorem row_ce (qs : List (List Int × Int)) (us : List (Int × Int)) : CeOk (rowU qs us) := fun z hz => by
  obtain ⟨q, _, rfl⟩ := List.mem_map.mp hz
  exact sgn_in _
theorem turn_set {qs : List (List Int × Int)} {i : Nat} {q : List Int × Int} (e : qs[i]? = some q) : turnU qs i = qs.set i (negU q) := by
  unfold turnU
  rw [e]
  exact set_take _ (List.getElem?_eq_some_iff.mp e).1
theorem row_turn {qs : List (List Int × Int)} {i : Nat} {q : List Int × Int} (us : List (Int × Int)) (e : qs[i]? = some q) : rowU (turnU qs i) us = (rowU qs us).set i (-ansU q us) := by
  rw [turn_set e]
  unfold rowU
  rw [List.map_set, ans_neg]
theorem BOk.turn {d : Nat} {qs : List (List Int × Int)} {i : Nat} (ok : BOk d qs) (hi : i < qs.length) : BOk d (turnU qs i) := by
  have e : qs[i]? = some qs[i] := List.getElem?_eq_getElem hi
  obtain ⟨qo, ql⟩ := ok.ok qs[i] (List.getElem_mem hi)
  rw [turn_set e]
  refine ⟨ok.d1, ok.d8, by rw [List.length_set]; exact ok.l8, fun q hq => ?_, ?_⟩
  · rcases List.mem_or_eq_of_mem_set hq with h | h
    · exact ok.ok q h
    · rw [h]
      exact ⟨qo.neg, by show (List.map _ _).length = _; rw [List.length_map]; exact ql⟩
  · rw [List.map_set, nfU_neg qo]
    have : (qs.map nfU).set i (nfU qs[i]) = qs.map nfU := by
      refine List.ext_getElem? fun j => ?_
      rw [List.getElem?_set]
      by_cases h : i = j
      · subst h
        rw [if_pos rfl, if_pos (by rw [List.length_map]; exact hi), List.getElem?_map, e]
        rfl
      · rw [if_neg h]
    rw [this]
    exact ok.nd
theorem fit_none (n : Nat) (zs : List Int) : fitU (List.replicate n none) zs = true := by
  unfold fitU
  refine List.all_eq_true.mpr fun p hp => ?_
  have := (List.of_mem_zip (a := p.1) (b := p.2) hp).1
  rw [(List.mem_replicate.mp this).2]
  rfl
theorem Tb5.grd {T : Nat → Addr} {d : Addr} {H H' : Hp} (t : Tb5 T H) (dk : DeckAt d H) (g : GrD d H H') : Tb5 T H' := ⟨fun i h => by
  have z := t.t i h
  refine g.tab _ (fun e => ?_) z
  obtain ⟨ps, e1, _⟩ := z
  obtain ⟨a, b, e2, _⟩ := dk
  rw [e, e2] at e1
  cases e1⟩
/-! ### the same data -/
section
variable {K : PySem.W.Frag} {H : Hp}
theorem al_int (n : Nat) (i : Int) : Alike K H (n + 1) (.int i) (.int i) := .inl ⟨rfl, rfl⟩
theorem al_bl (n : Nat) (b : Bool) : Alike K H (n + 1) (.bl b) (.bl b) := .inl ⟨rfl, rfl⟩
theorem al_ints (n : Nat) : ∀ zs : List Int, Paired (Alike K H (n + 1)) (zs.map V.int) (zs.map V.int)
  | [] => .nil
  | z :: r => .cons (al_int n z) (al_ints n r)
theorem al_si (n : Nat) {x y : V} {zs : List Int} (hx : SiV K H x zs) (hy : SiV K H y zs) (hl : zs.length ≤ 1000) : Alike K H (n + 2) x y := by
  obtain ⟨a, rfl, ha⟩ := hx
  obtain ⟨b, rfl, hb⟩ := hy
  exact .inr ⟨a, b, _, _, rfl, rfl, szN (by rw [List.length_map]; omega), .inl ⟨ha, hb⟩, al_ints n zs⟩
theorem al_l2 {n : Nat} {p q : Addr} {x1 x2 y1 y2 : V} (hp : SqL K H p [x1, x2]) (hq : SqL K H q [y1, y2]) (h1 : Alike K H n x1 y1) (h2 : Alike K H n x2 y2) : Alike K H (n + 1) (.ref p) (.ref q) :=
  .inr ⟨p, q, _, _, rfl, rfl, szN (by show 2 ≤ 1000000; decide), .inr ⟨hp, hq⟩, .cons h1 (.cons h2 .nil)⟩
end
/-- what stands while the law looks at one point -/
structure RSt (K : PySem.W.Frag) (T : Nat → Addr) (d : Addr) (n : Nat) (qs : List (List Int × Int)) (us : List (Int × Int)) (x y : V) (r : Addr) (H0 H : Hp) : Prop where
  g : GrD d H0 H
  dk : DeckAt d H
  tb : Tb5 T H
  hx : BkV K H x n qs
  hy : PtV K H y us
  hr : SqT K H r ((rowU qs us).map V.int)
theorem RSt.grd {K : PySem.W.Frag} {T : Nat → Addr} {d : Addr} {n : Nat} {qs : List (List Int × Int)} {us : List (Int × Int)} {x y : V} {r : Addr} {H0 H H' : Hp} (s : RSt K T d n qs us x y r H0 H) (g : GrD d H H') (dk : DeckAt d H') : RSt K T d n qs us x y r H0 H' :=
  ⟨s.g.trans g, dk, s.tb.grd s.dk g, s.hx.st (g.st s.dk), s.hy.st (g.st s.dk), g.st s.dk _ _ s.hr⟩
theorem RSt.gr {K : PySem.W.Frag} {T : Nat → Addr} {d : Addr} {n : Nat} {qs : List (List Int × Int)} {us : List (Int × Int)} {x y : V} {r : Addr} {H0 H H' : Hp} (s : RSt K T d n qs us x y r H0 H) (g : Gr H H') : RSt K T d n qs us x y r H0 H' := s.grd (g.d d) (s.dk.gr g)
end SB
namespace SB
open PySem L2 GxR GA RZ
theorem sgn_qv {p : Int × Int} (h : 0 < p.2) : sgn p.1 = sgQ (qv p) := by
  unfold sgn sgQ
  by_cases h1 : 0 < p.1
  · rw [if_pos h1, if_pos ((qv_pos h).mpr h1)]
  · rw [if_neg h1, if_neg fun z => h1 ((qv_pos h).mp z)]
    by_cases h2 : p.1 < 0
    · rw [if_pos h2, if_pos ((qv_neg h).mpr h2)]
    · rw [if_neg h2, if_neg fun z => h2 ((qv_neg h).mp z)]
theorem ans_qv {q : List Int × Int} {us : List (Int × Int)} (h : ∀ u, u ∈ us → Lo u) : ansU q us = sgQ (wq q us) := sgn_qv (worth_pos h)
/-- the row of a point near enough to the one -/
theorem row_mix {qs : List (List Int × Int)} {us ws rs : List (Int × Int)} {s : Rat} (hu : ∀ u, u ∈ us → Lo u) (hw : ∀ u, u ∈ ws → Lo u) (hr : ∀ u, u ∈ rs → Lo u) (hl : us.length = ws.length) (e : rs.map qv = mixQ s (us.map qv) (ws.map qv)) (s0 : 0 < s) (s1 : s < 1) (hN : ∀ q, q ∈ qs → Near s (wq q us) (wq q ws)) :
    rowU qs rs = aheadU (rowU qs us) (rowU qs ws) := by
  refine List.ext_getElem? fun i => ?_
  cases eq : qs[i]? with
  | none =>
    have : qs.length ≤ i := List.getElem?_eq_none_iff.mp eq
    rw [List.getElem?_eq_none (by rw [row_len]; omega), List.getElem?_eq_none (by rw [ahead_len (by rw [row_len, row_len]), row_len]; omega)]
  | some q =>
    have nq := hN q (List.mem_of_getElem? eq)
    rw [row_at eq, ahead_at (row_at (us := us) eq) (row_at (us := ws) eq), ans_qv hu, ans_qv hw, ans_qv hr]
    have h1 : wq q rs = wq q us + s * (wq q ws - wq q us) := by
      have a1 := worth_qv (q := q) (us := us) fun u h => (hu u h).1
      have a2 := worth_qv (q := q) (us := ws) fun u h => (hw u h).1
      have a3 := worth_qv (q := q) (us := rs) fun u h => (hr u h).1
      unfold wq
      rw [a1, a2, a3, e, dot_mix _ _ _ _ (by rw [List.length_map, List.length_map, hl])]
      grind
    rw [h1, sg_ahead s0 s1 nq.1 nq.2]
theorem ahead_self (zs : List Int) : aheadU zs zs = zs := by
  refine List.ext_getElem? fun i => ?_
  cases e : zs[i]? with
  | none => rw [List.getElem?_eq_none (by rw [ahead_len rfl]; exact List.getElem?_eq_none_iff.mp e)]
  | some z =>
    rw [ahead_at e e]
    by_cases h : z = 0
    · rw [if_pos h]
    · rw [if_neg h]
section
variable {K : PySem.W.Frag} {H : Hp}
theorem al_nu (n : Nat) {x y : V} {q : Int × Int} (hx : NuV K H x q) (hy : NuV K H y q) : Alike K H (n + 2) x y := by
  obtain ⟨a, rfl, ha⟩ := hx
  obtain ⟨b, rfl, hb⟩ := hy
  exact .inr ⟨a, b, _, _, rfl, rfl, szN (by show 2 ≤ 1000000; decide), .inl ⟨ha, hb⟩, .cons (al_int n _) (.cons (al_int n _) .nil)⟩
theorem al_nus (n : Nat) : ∀ {xs ys : List V} {us : List (Int × Int)}, Paired (NuV K H) xs us → Paired (NuV K H) ys us → Paired (Alike K H (n + 2)) xs ys
  | _, _, _, .nil, .nil => .nil
  | _, _, _, .cons h1 t1, .cons h2 t2 => .cons (al_nu n h1 h2) (al_nus n t1 t2)
theorem al_pt (n : Nat) {x y : V} {us : List (Int × Int)} (hx : PtV K H x us) (hy : PtV K H y us) (hl : us.length ≤ 1000) : Alike K H (n + 3) x y := by
  obtain ⟨a, xs, rfl, ha, hp⟩ := hx
  obtain ⟨b, ys, rfl, hb, hq⟩ := hy
  have := paired_len hq
  exact .inr ⟨a, b, _, _, rfl, rfl, szN (by omega), .inl ⟨ha, hb⟩, al_nus n hp hq⟩
end
/-- what stands while the law looks at two points -/
structure RS5 (K : PySem.W.Frag) (T : Nat → Addr) (d : Addr) (n : Nat) (qs : List (List Int × Int)) (us ws : List (Int × Int)) (x y v : V) (H0 H : Hp) : Prop where
  g : GrD d H0 H
  dk : DeckAt d H
  tb : Tb5 T H
  hx : BkV K H x n qs
  hy : PtV K H y us
  hv : PtV K H v ws
theorem RS5.grd {K : PySem.W.Frag} {T : Nat → Addr} {d : Addr} {n : Nat} {qs : List (List Int × Int)} {us ws : List (Int × Int)} {x y v : V} {H0 H H' : Hp} (s : RS5 K T d n qs us ws x y v H0 H) (g : GrD d H H') (dk : DeckAt d H') : RS5 K T d n qs us ws x y v H0 H' :=
  ⟨s.g.trans g, dk, s.tb.grd s.dk g, s.hx.st (g.st s.dk), s.hy.st (g.st s.dk), s.hv.st (g.st s.dk)⟩
theorem RS5.gr {K : PySem.W.Frag} {T : Nat → Addr} {d : Addr} {n : Nat} {qs : List (List Int × Int)} {us ws : List (Int × Int)} {x y v : V} {H0 H H' : Hp} (s : RS5 K T d n qs us ws x y v H0 H) (g : Gr H H') : RS5 K T d n qs us ws x y v H0 H' := s.grd (g.d d) (s.dk.gr g)
/-! ### moved, turned, left out -/
theorem wq_line {q : List Int × Int} {us : List (Int × Int)} (h : ∀ u, u ∈ us → Lo u) : wq q us = lineQ q (us.map qv) := worth_qv fun u hu => (h u hu).1
theorem ans_mov {q : List Int × Int} {us by_ es : List (Int × Int)} (hq : NonZ q.1) (hu : ∀ u, u ∈ us → Lo u) (hb : ∀ u, u ∈ by_ → Lo u) (he : ∀ u, u ∈ es → Lo u) (hl : us.length = by_.length) (e : es.map qv = addQ (us.map qv) (by_.map qv)) : ansU (movU q by_) es = ansU q us := by
  obtain ⟨c, c0, hc⟩ := mov_line hq hb
  rw [ans_qv he, ans_qv hu, wq_line he, wq_line hu, hc, e, dot_add _ _ _ (by rw [List.length_map, List.length_map, hl])]
  have : c * (dotQ q.1 (us.map qv) + dotQ q.1 (by_.map qv) - dotQ q.1 (by_.map qv) - (q.2 : Rat)) = c * lineQ q (us.map qv) := by
    unfold lineQ
    grind
  rw [this, sgQ_mul c0]
theorem row_mov {qs : List (List Int × Int)} {us by_ es : List (Int × Int)} (hq : ∀ q, q ∈ qs → NonZ q.1) (hu : ∀ u, u ∈ us → Lo u) (hb : ∀ u, u ∈ by_ → Lo u) (he : ∀ u, u ∈ es → Lo u) (hl : us.length = by_.length) (e : es.map qv = addQ (us.map qv) (by_.map qv)) : rowU (qs.map fun q => movU q by_) es = rowU qs us := by
  unfold rowU
  rw [List.map_map]
  exact List.map_congr_left fun q h => ans_mov (hq q h) hu hb he hl e
theorem mov_wd {q : List Int × Int} {us : List (Int × Int)} {k W : Nat} (hq : NonZ q.1) (hu : ∀ u, u ∈ us → Lo u) (qw : QW k q) (w : Wd W (shiftU q us)) : QW (k + W) (movU q us) := by
  have lo := shift_lo (q := q) hu
  have e : movU q us = divU (rawU q (shiftU q us)) := rfl
  generalize shiftU q us = r at *
  have nz := raw_nz (r := r) hq lo.1
  have g0 := nonZ_g nz
  have le : ∀ z, z ∈ (rawU q r).1 ++ [(rawU q r).2] → (z / ((gcdL ((rawU q r).1 ++ [(rawU q r).2]) : Nat) : Int)).natAbs ≤ z.natAbs := fun z hz => (div_le g0 (gcdL_dvd hz)).1
  rw [e]
  refine ⟨fun z hz => ?_, ?_⟩
  · obtain ⟨y, hy, rfl⟩ := List.mem_map.mp hz
    refine Nat.lt_of_le_of_lt (le y (List.mem_append_left _ hy)) ?_
    obtain ⟨x, hx, rfl⟩ := List.mem_map.mp hy
    exact mul_lt2 (qw.1 x hx) w.2
  · refine Nat.lt_of_le_of_lt (le _ (List.mem_append_right _ List.mem_cons_self)) ?_
    exact Nat.lt_of_lt_of_le w.1 (Nat.pow_le_pow_right (by decide) (by omega))
theorem mov_len (q : List Int × Int) (us : List (Int × Int)) : (movU q us).1.length = q.1.length := by
  show (List.map _ (List.map _ q.1)).length = _
  rw [List.length_map, List.length_map]
theorem mov_ok {q : List Int × Int} {us : List (Int × Int)} {k W : Nat} (hq : NonZ q.1) (hu : ∀ u, u ∈ us → Lo u) (qw : QW k q) (w : Wd W (shiftU q us)) (h : k + W ≤ 10000) : QOk (movU q us) := by
  have m := mov_wd hq hu qw w
  have le : (2 : Nat) ^ (k + W) ≤ 2 ^ 10000 := Nat.pow_le_pow_right (by decide) h
  exact ⟨nonZ_div (raw_nz hq (shift_lo hu).1), fun z hz => Nat.lt_of_lt_of_le (m.1 z hz) le, Nat.lt_of_lt_of_le m.2 le⟩
theorem BOk.mov {d : Nat} {qs : List (List Int × Int)} {us : List (Int × Int)} {k W : Nat} (ok : BOk d qs) (hu : ∀ u, u ∈ us → Lo u) (qw : ∀ q, q ∈ qs → QW k q) (w : ∀ q, q ∈ qs → Wd W (shiftU q us)) (h : k + W ≤ 10000) : BOk d (qs.map fun q => movU q us) := by
  refine ⟨ok.d1, ok.d8, by rw [List.length_map]; exact ok.l8, fun q hq => ?_, ?_⟩
  · obtain ⟨p, hp, rfl⟩ := List.mem_map.mp hq
    obtain ⟨po, pl⟩ := ok.ok p hp
    exact ⟨mov_ok po.nz hu (qw p hp) (w p hp) h, by rw [mov_len]; exact pl⟩
  · have : ∀ l : List (List Int × Int), (∀ q, q ∈ l → QOk q) → (l.map nfU).Nodup → ((l.map fun q => movU q us).map nfU).Nodup := fun l => by
      induction l with
      | nil => exact fun _ _ => List.nodup_nil
      | cons p r ih =>
        intro ho hn
        rw [List.map_cons, List.nodup_cons] at hn
        rw [List.map_cons, List.map_cons, List.nodup_cons]
        refine ⟨fun hm => hn.1 ?_, ih (fun q h => ho q (List.mem_cons_of_mem _ h)) hn.2⟩
        obtain ⟨q', hq', e⟩ := List.mem_map.mp hm
        obtain ⟨q, hq, rfl⟩ := List.mem_map.mp hq'
        have := mov_nf (ho q (List.mem_cons_of_mem _ hq)) (ho p List.mem_cons_self) hu e
        exact List.mem_map.mpr ⟨q, hq, this⟩
    exact this qs (fun q h => (ok.ok q h).1) ok.nd
theorem BOk.wo {d : Nat} {qs : List (List Int × Int)} (ok : BOk d qs) (i : Nat) : BOk d (qs.take i ++ qs.drop (i + 1)) := by
  have sub : List.Sublist (qs.take i ++ qs.drop (i + 1)) qs := by
    rw [← List.eraseIdx_eq_take_drop_succ]
    exact List.eraseIdx_sublist qs i
  exact ⟨ok.d1, ok.d8, Nat.le_trans sub.length_le ok.l8, fun q hq => ok.ok q (sub.subset hq), ok.nd.sublist (sub.map nfU)⟩
theorem row_wo (qs : List (List Int × Int)) (us : List (Int × Int)) (i : Nat) : rowU (qs.take i ++ qs.drop (i + 1)) us = (rowU qs us).take i ++ (rowU qs us).drop (i + 1) := by
  unfold rowU
  rw [List.map_append, List.map_take, List.map_drop]
theorem zw_take {α : Type} (f : α → α → α) : ∀ (n : Nat) (xs ys : List α), (List.zipWith f xs ys).take n = List.zipWith f (xs.take n) (ys.take n)
  | 0, _, _ => rfl
  | _ + 1, [], _ => by simp
  | _ + 1, _ :: _, [] => by simp
  | n + 1, x :: r, y :: t => by simp [zw_take f n r t]
theorem zw_drop {α : Type} (f : α → α → α) : ∀ (n : Nat) (xs ys : List α), (List.zipWith f xs ys).drop n = List.zipWith f (xs.drop n) (ys.drop n)
  | 0, _, _ => rfl
  | _ + 1, [], _ => by simp
  | _ + 1, _ :: _, [] => by simp
  | n + 1, x :: r, y :: t => by simp [zw_drop f n r t]
theorem ahead_wo {zs ws : List Int} (h : zs.length = ws.length) (i : Nat) : aheadU (zs.take i ++ zs.drop (i + 1)) (ws.take i ++ ws.drop (i + 1)) = (aheadU zs ws).take i ++ (aheadU zs ws).drop (i + 1) := by
  unfold aheadU
  rw [zw_take, zw_drop, List.zipWith_append (by rw [List.length_take, List.length_take, h])]
theorem ahead_set {zs ws : List Int} {i : Nat} {z w : Int} (hz : zs[i]? = some z) (hw : ws[i]? = some w) : aheadU (zs.set i (-z)) (ws.set i (-w)) = (aheadU zs ws).set i (-(if z = 0 then w else z)) := by
  refine List.ext_getElem? fun j => ?_
  have iz := (List.getElem?_eq_some_iff.mp hz).1
  have iw := (List.getElem?_eq_some_iff.mp hw).1
  have il : i < (aheadU zs ws).length := by unfold aheadU; rw [List.length_zipWith]; omega
  rw [List.getElem?_set]
  by_cases e : i = j
  · subst e
    rw [if_pos rfl, if_pos il, ahead_at (z := -z) (w := -w) (by rw [List.getElem?_set, if_pos rfl, if_pos iz]) (by rw [List.getElem?_set, if_pos rfl, if_pos iw])]
    by_cases c : z = 0
    · rw [if_pos c, if_pos (by omega)]
    · rw [if_neg c, if_neg (by omega)]
  · rw [if_neg e]
    unfold aheadU
    rw [List.getElem?_zipWith, List.getElem?_zipWith, List.getElem?_set_ne e, List.getElem?_set_ne e]
/-- between two points the answers that both have -/
theorem row_same {qs : List (List Int × Int)} {us ws rs : List (Int × Int)} {s : Rat} (hu : ∀ u, u ∈ us → Lo u) (hw : ∀ u, u ∈ ws → Lo u) (hr : ∀ u, u ∈ rs → Lo u) (hl : us.length = ws.length) (e : rs.map qv = mixQ s (us.map qv) (ws.map qv)) (s0 : 0 ≤ s) (s1 : s ≤ 1) {i : Nat} {q : List Int × Int} (hq : qs[i]? = some q) (ha : ansU q us = ansU q ws) : ansU q rs = ansU q us := by
  rw [ans_qv hu, ans_qv hw] at ha
  rw [ans_qv hu, ans_qv hr]
  have h1 : wq q rs = wq q us + s * (wq q ws - wq q us) := by
    rw [wq_line hr, wq_line hu, wq_line hw]
    unfold lineQ
    rw [e, dot_mix _ _ _ _ (by rw [List.length_map, List.length_map, hl])]
    grind
  rw [h1, sg_same s0 s1 ha]
end SB
namespace SB
open PySem PySem.Spec PyProof.Rows L2 GxR GA RZ
/-! ### a def's promise where nothing is being shown yet (no repr under way) -/
structure FnG (P : Program) (w : World) (K : PySem.W.Frag) (mg : Str → Option Value) (base : Heap) (k : Nat) (f : Addr) (fd : FuncData) (ps : List Str) (sp : Sp) : Prop where
  len : ∀ vs H Q E, sp vs H Q E → vs.length = ps.length
  run : ∀ (A : Around) (out : List Env) (s : Shared) (H : Hp) (args : Args) (us : List Value) (vs : List V) (Q : VK) (E : XK), A.guards = some [] → Room k A → Env0 P w K mg base A out s H →
    BindsTo s fd args (ps.zip us) → Vals vs us → sp vs H Q E → codeAny (model P w) A (.call (.ref f) args) (CR CX0 out P w H s Q E) s
theorem FnG.mono {P : Program} {w : World} {K : PySem.W.Frag} {mg : Str → Option Value} {base : Heap} {j k : Nat} {f : Addr} {fd : FuncData} {ps : List Str} {sp : Sp} (F : FnG P w K mg base j f fd ps sp) (h : j ≤ k) : FnG P w K mg base k f fd ps sp :=
  ⟨F.len, fun A out s H args us vs Q E g r => F.run A out s H args us vs Q E g (r.mono h)⟩
section
variable {P : Program} {w : World} {K : PySem.W.Frag} {mg : Str → Option Value} {base : Heap}
theorem okG {x : Str} {st : Stmt} {f : Addr} {fd : FuncData} {N ps : List Str} {k : Nat} {sp : Sp} (F : Fun K x x st f fd) (S : FnScope N ps (defScope st)) (len : ∀ vs H Q E, sp vs H Q E → vs.length = ps.length)
    (B : ∀ (cdv : Value) (A : Around) (out : List Env) (s : Shared) (H : Hp) (vs : List V) (Q : VK) (E : XK), A.guards = some [] → Room k (A.deeper (envOfC x (defScope st) s.heap.objs.size f cdv)) → sp vs H Q E →
      ∃ t, PSs (cxOf CX0 P w K mg base N x (defScope st) f cdv A out s H E).nox (defBody st) t ∧ t { nx := fun _ H' => Q .non H', rt := Q } (start N vs) H) : FnG P w K mg base (k + 1) f fd ps sp := by
  obtain ⟨oc, od, kV, dc, pm, an, cdv, ct, sl, rfl, lk, cin⟩ := F.ex
  refine ⟨len, fun A out s0 H0 args us vs Q E gd rm env bnd rel hs => ?_⟩
  have kin : K.In s0.heap := env.mod.kin.keeps fun b o z => (env.bs b o z).1
  have knd : ∀ y ∈ ps.zip us, (defScope st).names.lookup y.1 = some .local ∨ ((defScope st).names.lookup y.1 = some .cell ∧ ((cellsFrom (s0.heap.objs.size + 1) (defScope st).names []).lookup y.1).isSome = true) := by
    intro y hy
    have hm := (List.of_mem_zip (a := y.1) (b := y.2) hy).1
    exact (S.par y.1 hm).imp id fun z => ⟨z, PySem.W.cellsFrom_some _ _ _ (.inl z)⟩
  refine codeAny_call_function rm.depth (kin _ _ lk) rfl S.co S.gen rfl (PySem.W.codeRec_of kin cin) (bnd _ _ _ _ (wpAny_newFunctionEnv_cells S.kind knd ?_))
  intro e0 ee sh inn
  cases ee
  have lim : s0.heap.NoLimit := env.mod.nolimit.keeps fun b o z => (env.bs b o z).1
  refine ⟨lim.keeps inn.toInCall.keep, codeAny_func ?_⟩
  obtain ⟨t, pt, rd⟩ := B cdv A out s0 H0 vs Q E gd (rm.deeper _) hs
  have inv : Inv (cxOf CX0 P w K mg base N x (defScope st) f cdv A out s0 H0 E) [] (start N vs) H0 sh := inv_start S rm.hd env (len _ _ _ _ hs) rel inn
  refine wpAny_mono (pt.nox.run [] sh (start N vs) H0 _ inv rd) (fun fl s' z => ?_) fun _ _ z => z
  match fl, z with
  | .ret u, ⟨v, σ', H', J, rv, q⟩ => exact ⟨v, H', J.os, J.bare, J.base, J.hok, rv, q⟩
  | .next, ⟨σ', H', J, q⟩ => exact ⟨V.non, H', J.os, J.bare, J.base, J.hok, rfl, q⟩
  | .brk, ⟨_, _, _, q⟩ => exact q.elim
  | .cont, ⟨_, _, _, q⟩ => exact q.elim
end
/-- a def of such a promise, by its name -/
structure ClG (P : Program) (w : World) (K : PySem.W.Frag) (mg : Str → Option Value) (base : Heap) (k : Nat) (x : Str) (ps : List Str) (sp : Sp) : Prop where
  ex : ∃ (f : Addr) (fd : FuncData), FnG P w K mg base k f fd ps sp ∧ mg x = some (.ref f) ∧ PySem.W.keepIn K (.ref f) = true ∧ Binds K fd ps []
theorem clG {P : Program} {w : World} {K : PySem.W.Frag} {mg : Str → Option Value} {base : Heap} {k : Nat} {x : Str} {st : Stmt} {ps : List Str} {sp : Sp} (D : Df K mg x st)
    (hb : ∀ (kV doc pm : Value) (an : Option Addr) (cdv ct : Value) (us : List Value), us.length = ps.length → bindArgs (PySem.W.fnOf x x (defArgs st) (defBody st) (defScope st) .none kV doc pm an cdv ct) ⟨us, []⟩ = pure (ps.zip us))
    (h : ∀ f fd, Fun K x x st f fd → FnG P w K mg base k f fd ps sp) : ClG P w K mg base k x ps sp := by
  obtain ⟨f, fd, F, m⟩ := D.ex
  exact ⟨f, fd, h f fd F, m, F.kp, F.binds hb⟩
theorem pe_clG {X : Cx} {k : Nat} {x : Str} {ps : List Str} {sp : Sp} {p pos : Pos} {e : Expr} {es : List Expr} {t : TA} (c : ClG X.prog X.w X.K X.mg X.base k x ps sp) (gd : X.A.guards = some []) (hr : Room k X.A) (ha : PA X (e :: es) t) (hg : Gl X x := by rfl) (hdb : (x == ("__debug__" : Str)) = false := by decide)
    (he : starEach (e :: es) X.env = (false, eval e X.env) :: starEach es X.env := by rfl) (hpl : (backTo pos (starEach es X.env)).any (·.1) = false := by rfl) :
    PE X (.Call (.Name x p) (e :: es) [] pos) (tCall sp [] E0 t) := by
  obtain ⟨f, fd, F, hm, hk, hb⟩ := c.ex
  refine ⟨fun pins s0 σ H0 Q I z => wpAny_Call_Name_kw (ld_glob I hg hm (PySem.W.callWith_K (h₀ := X.base) I.ok.mod.kin hk (thn (ha.run pos pins s0 σ H0 _ I z) fun us s1 y => ?_) he hpl) hdb)⟩
  obtain ⟨vs, H1, J, rel, q⟩ := y
  refine ⟨J.kIn, wpAny_call ?_⟩
  have q : sp vs H1 Q E0 := by
    have : vs ++ [] = vs := List.append_nil vs
    rw [← this]
    exact q
  have hl : us.length = ps.length := by rw [← rel.length]; exact F.len _ _ _ _ q
  have bd := hb s1 us J.kIn (by rw [List.append_nil]; exact hl)
  rw [List.append_nil] at bd
  refine codeAny_mono (F.run X.A X.stack s1 H1 ⟨us, []⟩ us vs Q E0 gd hr J.env0 bd rel q) fun r s' z => ?_
  match r, z with
  | .error e, z => exact pass0 pins σ H1 s1 e s' J z
  | .ok (.ret u), z => exact J.after z
  | .ok .next, z => exact z.elim
  | .ok .brk, z => exact z.elim
  | .ok .cont, z => exact z.elim
/-- repr of a list, a tuple of data -/
def rRepr (K : PySem.W.Frag) : List V → Hp → VK → Prop := fun xs H Q => ∃ a d, xs = [.ref a] ∧ Dp K H (.ref a) d ∧ d.showable = true ∧ d.hasDict = false ∧ d.depth ≤ 8 ∧ d.shown.length ≤ sizeLine ∧ Q (.str d.shown) H
theorem cr_repr {X : Cx} (gd : X.A.guards = some []) (hu : X.A.units + 64 < cLine) : CallR X (.builtin "repr") (rRepr X.K) := by
  intro pins s0 σ H0 xs us Q I r h
  obtain ⟨a, d, rfl, hd, h1, h2, h3, h4, q⟩ := h
  obtain ⟨u, rfl, rx⟩ := vals1 r
  cases rx
  obtain ⟨as, rd⟩ := Dp.reads I d _ _ hd rfl
  exact repr_of_reads' rd h1 (PyData.noDict_hsm h2) gd (by omega) (fun _ _ e => e) (fun h' u tk hk => ⟨.str d.shown, H0, I.kept hk, ⟨u, rfl⟩, q⟩) h4
end SB
/-! t[::-1] of a tuple -/
namespace HT
open PySem PySem.Spec PyProof.Rows L2
section
variable {prog : Program} {w : World} {A : Around} {E : Value → Shared → Prop} {s : Shared}
theorem rev_places (n : Nat) : Builtin.Slice.slicePlaces ((n : Int) - 1) (-1) (-1) = n := by
  unfold Builtin.Slice.slicePlaces
  rw [if_neg (by decide)]
  by_cases h : (n : Int) - 1 > -1
  · rw [if_pos h]
    have e : ((n : Int) - 1 - -1 - 1) / (- -1) + 1 = (n : Int) := by
      rw [show (- -1 : Int) = 1 by decide, Int.ediv_one]
      omega
    rw [e, Int.toNat_natCast]
  · rw [if_neg h]
    have : n = 0 := by omega
    rw [this]
    rfl
theorem rev_applied {c : Addr} {m : Tok} {n : Nat} {Q : Int × Int × Nat → Shared → Prop} (so : s.heap.IsSliceOf c .none .none (.int (-1) m)) (q : Q ((n : Int) - 1, -1, n) s) :
    wpAny (model prog w) A (Builtin.Slice.sliceApplied (.ref c) (pure (n : Int))) Q E s := by
  obtain ⟨o, hget, hcls, hfl⟩ := so
  unfold Builtin.Slice.sliceApplied Builtin.Slice.sliceFields
  refine wpAny_bind (wpAny_bind ?_)
  refine wpAny_field hget hfl (x := Value.none) rfl (wpAny_bind ?_)
  refine wpAny_field hget hfl (x := Value.none) rfl (wpAny_bind ?_)
  refine wpAny_field hget hfl (x := Value.int (-1) m) rfl (wpAny_pure ?_)
  refine wpAny_bind (slicePart_int (i := -1) (u := m) ?_)
  show wpAny _ _ (if ((-1 : Int) == 0) = true then _ else _) _ _ s
  rw [if_neg (by decide)]
  refine wpAny_bind (slicePart_none (wpAny_bind (slicePart_none (wpAny_bind (wpAny_pure ?_)))))
  show wpAny _ _ (pure ((n : Int) - 1, (-1 : Int), Builtin.Slice.slicePlaces ((n : Int) - 1) (-1) (-1))) _ _ s
  rw [rev_places]
  exact wpAny_pure q
theorem fm_congr {α β : Type} {f g : α → Option β} : ∀ {l : List α}, (∀ x, x ∈ l → f x = g x) → l.filterMap f = l.filterMap g
  | [], _ => rfl
  | x :: r, h => by rw [List.filterMap_cons, List.filterMap_cons, h x List.mem_cons_self, fm_congr (l := r) fun y hy => h y (List.mem_cons_of_mem _ hy)]
theorem rev_pick (xs : Array Value) : ((List.range xs.size).filterMap fun (k : Nat) => xs[(((xs.size : Nat) : Int) - 1 + (k : Int) * -1).toNat]?).toArray = xs.toList.reverse.toArray := by
  have h := PySem.W.krv_pick xs
  unfold slicePick at h
  rw [PySem.W.krv_bounds] at h
  have h : ((sliceRange ((xs.size : Int) - 1) (-1) (-1)).filterMap (xs[·]?)).toArray = xs.toList.reverse.toArray := h
  rw [PySem.W.krv_sliceRange, List.filterMap_map] at h
  rw [← h]
  congr 1
  refine fm_congr fun k hk => ?_
  have hk := List.mem_range.mp hk
  have e : (((xs.size : Nat) : Int) - 1 + (k : Int) * -1).toNat = xs.size - 1 - k := by omega
  show _ = xs[xs.size - 1 - k]?
  rw [e]
theorem rev_getItem {t c : Addr} {xs : Array Value} {m : Tok} {Q : Value → Shared → Prop} (it : IsTup s.heap t xs) (so : s.heap.IsSliceOf c .none .none (.int (-1) m)) (small : xs.size ≤ sizeLine)
    (q : Q (.ref s.heap.objs.size) { s with heap := s.heap.push { cls := .type "tuple", data := .seq xs.toList.reverse.toArray } }) : wpAny (model prog w) A (getItem (.ref t) (.ref c)) Q E s := by
  obtain ⟨o, hget, hcls, hfl⟩ := id so
  unfold getItem
  try with_reducible refine wpAny_holding ?_
  first | refine wpAny_bind (wpAny_pure ?_) | skip
  refine wpAny_bind (wpAny_sequenceKey it.typeIs (by decide) (wpAny_bind (wpAny_callSpecial?_slot (name := Str.ofString "__getitem__") it.typeIs slot_tuple_getitem
    (wpAny_call_entry slot_tuple_getitem it.typeIs entry_tuple_getitem ?_ (args_tuple_getitem _ _)))))
  show wpAny _ _ (Builtin.Tuple.tupleItemsOf (.ref t) >>= _) _ _ s
  refine wpAny_bind (tupleItemsOf_ it (wpAny_bind (wpAny_typeOf (T := "slice") ⟨o, hget, hcls⟩ ?_)))
  rw [if_pos (by decide)]
  refine wpAny_bind (rev_applied so ?_)
  have no : ¬ (((((xs.size : Nat) : Int) - 1) == 0 && (-1 : Int) == 1 && xs.size == xs.size) = true) := by
    intro z
    rw [Bool.and_eq_true, Bool.and_eq_true] at z
    exact absurd z.1.2 (by decide)
  show wpAny _ _ (if ((((xs.size : Nat) : Int) - 1) == 0 && (-1 : Int) == 1 && xs.size == xs.size) = true then _ else _) _ _ s
  rw [if_neg no, rev_pick]
  have sz : sizeOk (.seq xs.toList.reverse.toArray) := by
    show xs.toList.reverse.toArray.size ≤ sizeLine
    rw [List.size_toArray, List.length_reverse, Array.length_toList]
    exact small
  first
    | exact wpAny_bind (m := Builtin.Tuple.tupleExact _) (wpAny_newObj_type (wpAny_pure ⟨_, rfl, wpAny_pure q⟩) sz)
    | exact wpAny_bind (wpAny_bind (m := Builtin.Tuple.tupleExact _) (wpAny_newObj_type (wpAny_pure (wpAny_pure ⟨_, rfl, wpAny_pure q⟩)) sz))
end
end HT
namespace L2
open PySem PySem.Spec PyProof.Rows
section
variable {X : Cx}
def tRevT (K : PySem.W.Frag) (te : TE) : TE := fun σ H Q => te σ H fun x H1 => ∃ a xs, x = .ref a ∧ SqT K H1 a xs ∧ ∀ p, H1 p = none → Q (.ref p) (upd H1 p (.tup xs.reverse))
theorem pe_revT {e : Expr} {te : TE} {k : Nat} {p1 p2 p3 pos : Pos} (he : PE X e te) : PE X (.Subscript e (.Slice none none (some (.UnaryOp .USub (.Constant (.int 1) k p1) p2)) p3) pos) (tRevT X.K te) := by
  refine ⟨fun pins s0 σ H0 Q I0 z => Subscript_ (thn (he.run pins s0 σ H0 _ I0 z) fun v s1 y => ?_)⟩
  obtain ⟨x, H1, I1, rv, a, xs, rfl, sq, q⟩ := y
  cases rv
  have neg1 : PO X (some (.UnaryOp .USub (.Constant (.int 1) k p1) p2)) (tPart (tUn (rU fun i => .int (-i)) (tC (.int 1)))) := po_some (pe_un un_neg pe_int)
  refine wpAny_Slice (thn (po_none.run pins s1 σ H1 (fun o J => o = none ∧ J = H1) I1 ⟨rfl, rfl⟩) fun v1 s2 ⟨o1, J1, K1, b1, c1, d1⟩ => ?_)
  subst c1 d1
  refine thn (po_none.run pins s2 σ J1 (fun o J => o = none ∧ J = J1) K1 ⟨rfl, rfl⟩) fun v2 s3 ⟨o2, J2, K2, b2, c2, d2⟩ => ?_
  subst c2 d2
  refine thn (neg1.run pins s3 σ J2 (fun o J => o = some (-1) ∧ J = J2) K2 ⟨1, rfl, -1, rfl, rfl, rfl⟩) fun v3 s4 ⟨o3, J3, K3, b3, c3, d3⟩ => ?_
  subst c3 d3
  cases b1
  cases b2
  cases b3 with
  | int i m =>
    have K4 : Inv X pins σ J3 { s4 with heap := s4.heap.push { cls := .type "slice", data := .fields #[.none, .none, .int (-1) m] } } := K3.kept (t' := s4.toks) fun b ob q => Heap.get?_push_of_some _ q
    obtain ⟨its, r, it, few⟩ := K4.tuple sq
    have len := r.length
    show wpAny (model X.prog X.w) X.A (subscriptTail e (.Slice none none (some (.UnaryOp .USub (.Constant (.int 1) k p1) p2)) p3) (.ref a) (.ref s4.heap.objs.size)) (EP X pins σ Q) X.xe { s4 with heap := s4.heap.push { cls := .type "slice", data := .fields #[.none, .none, .int (-1) m] } }
    refine tail_any (ops := [.ref a, .ref s4.heap.objs.size]) it.typeIs (PyProof.Rows.slot_tuple_getitem.lookup) (HT.rev_getItem it (Heap.IsSliceOf.new _ _ _ _) (by rw [List.size_toArray]; omega) ?_) (by with_unfolding_all rfl)
    refine ⟨.ref _, _, K4.laid (t' := s4.toks) (o := .tup xs.reverse) (fun b ob q => Heap.get?_push_of_some _ q) (Nat.le_refl _) ?_, rfl, q _ (K4.hok.fresh (Nat.le_refl _))⟩
    exact ⟨by rw [List.length_reverse]; exact few, _, r.reverse, IsTup.new _ _⟩
end
end L2
namespace SB
open PySem L2 GxR GA RZ
/-! ### the program's judgements of any data -/
mutual
theorem dp_gr {K : PySem.W.Frag} {H H' : Hp} (g : Gr H H') : ∀ {v : V} {d : PyData}, Dp K H v d → Dp K H' v d
  | _, _, .non => .non
  | _, _, .bl b => .bl b
  | _, _, .int i => .int i
  | _, _, .str x => .str x
  | _, _, .lst h p => .lst (g.seqL h) (dpa_gr g p)
  | _, _, .tup h p => .tup (g.seqT h) (dpa_gr g p)
theorem dpa_gr {K : PySem.W.Frag} {H H' : Hp} (g : Gr H H') : ∀ {vs : List V} {ds : List PyData}, DpAll K H vs ds → DpAll K H' vs ds
  | _, _, .nil => .nil
  | _, _, .cons h t => .cons (dp_gr g h) (dpa_gr g t)
end
theorem dpa_len {K : PySem.W.Frag} {H : Hp} : ∀ {vs : List V} {ds : List PyData}, DpAll K H vs ds → vs.length = ds.length
  | _, _, .nil => rfl
  | _, _, .cons _ t => congrArg (· + 1) (dpa_len t)
theorem dpa_get {K : PySem.W.Frag} {H : Hp} : ∀ {vs : List V} {ds : List PyData} {i : Nat} {v : V}, DpAll K H vs ds → vs[i]? = some v → ∃ d, ds[i]? = some d ∧ Dp K H v d
  | _, _, _, _, .nil, h => by simp at h
  | _, _, 0, _, .cons h _, e => by
    have e := Option.some.inj e
    subst e
    exact ⟨_, rfl, h⟩
  | _, _, i + 1, _, .cons _ t, e => dpa_get (i := i) t e
def isIntD : PyData → Bool
  | .int _ => true
  | _ => false
def isTupD : PyData → Bool
  | .tuple _ => true
  | _ => false
theorem dp_kn {K : PySem.W.Frag} {H : Hp} {v : V} {d : PyData} (h : Dp K H v d) : ∃ t, Kn K H v t ∧ isInt v = isIntD d ∧ kitB t "tuple" = some (isTupD d) := by
  cases h with
  | non => exact ⟨_, .non, rfl, by show kitB _ "tuple" = some false; decide +kernel⟩
  | bl b => exact ⟨_, .bl b, rfl, by show kitB _ "tuple" = some false; decide +kernel⟩
  | int i => exact ⟨_, .int i, rfl, by show kitB _ "tuple" = some false; decide +kernel⟩
  | str x => exact ⟨_, .str x, rfl, by show kitB _ "tuple" = some false; decide +kernel⟩
  | lst h _ => exact ⟨_, .lst h, rfl, by show kitB _ "tuple" = some false; decide +kernel⟩
  | tup h _ => exact ⟨_, .tup h, rfl, by show kitB _ "tuple" = some true; decide +kernel⟩
theorem dp_ofInt {K : PySem.W.Frag} {H : Hp} {v : V} {d : PyData} (h : Dp K H v d) (i : isIntD d = true) : ∃ z : Int, v = .int z ∧ d = .int z := by
  cases h with
  | int z => exact ⟨z, rfl, rfl⟩
  | non => cases i
  | bl b => cases i
  | str x => cases i
  | lst h _ => cases i
  | tup h _ => cases i
theorem dp_ofTup {K : PySem.W.Frag} {H : Hp} {v : V} {d : PyData} (h : Dp K H v d) (i : isTupD d = true) : ∃ a xs ds, v = .ref a ∧ d = .tuple ds ∧ SqT K H a xs ∧ DpAll K H xs ds := by
  cases h with
  | tup h p => exact ⟨_, _, _, rfl, rfl, h, p⟩
  | non => cases i
  | bl b => cases i
  | str x => cases i
  | int h => cases i
  | lst h _ => cases i
def intD : PyData → Int
  | .int z => z
  | _ => 0
theorem dpa_ints {K : PySem.W.Frag} {H : Hp} : ∀ {vs : List V} {ds : List PyData}, DpAll K H vs ds → (∀ (i : Nat) (d : PyData), ds[i]? = some d → isIntD d = true) → vs = (ds.map intD).map V.int ∧ ds = (ds.map intD).map PyData.int
  | _, _, .nil, _ => ⟨rfl, rfl⟩
  | _, _, .cons h t, f => by
    obtain ⟨z, rfl, rfl⟩ := dp_ofInt h (f 0 _ rfl)
    obtain ⟨e1, e2⟩ := dpa_ints t fun i d e => f (i + 1) d e
    exact ⟨by rw [List.map_cons, List.map_cons, ← e1]; rfl, by rw [List.map_cons, List.map_cons, ← e2]; rfl⟩
def sidesD : PyData → Bool
  | .tuple ds => ds.all isIntD && (ds.map intD).any fun z => decide (z ≠ 0)
  | _ => false
def questD : PyData → Bool
  | .tuple [s, w] => sidesD s && isIntD w
  | _ => false
def lenD : PyData → Int
  | .tuple (.tuple ss :: _) => ss.length
  | _ => 0
def manyD : PyData → Bool
  | .int i => decide (1 ≤ i)
  | _ => false
section
variable {P : Program} {w : World} {K : PySem.W.Frag} {mg : Str → Option Value} {base : Heap}
def spWholesD (K : PySem.W.Frag) : Sp := fun vs H Q _ => ∃ a xs ds, vs = [.ref a] ∧ SqT K H a xs ∧ DpAll K H xs ds ∧ Q (.bl (ds.all isIntD)) H
theorem all_not {ds : List PyData} {p : PyData → Bool} {d : PyData} (h : d ∈ ds) (n : p d = false) : ds.all p = false := by
  rw [Bool.eq_false_iff]
  intro z
  have := List.all_eq_true.mp z d h
  rw [n] at this
  cases this
theorem cl_wholesD (D : Df K mg "are_wholes" s_are_wholes) (CW : Cl P w K mg base 1 "is_whole" ["told"] (spWhole K)) : Cl P w K mg base 2 "are_wholes" ["told"] (spWholesD K) := by
  refine D.cl (fun _ _ _ _ _ _ us hl => match us, hl with | [_], _ => rfl) fun f fd F => F.ok sc_wholes (fun vs H Q E h => ?_) (fun cdv A outer s H vs Q E hr h => ?_)
  · obtain ⟨a, xs, ds, rfl, _⟩ := h
    rfl
  obtain ⟨a, xs, ds, rfl, hs, hp, hq⟩ := h
  refine ⟨_, pss_cons (ps_for PassesOwn.never rfl (pi_tup (pv 0)) (pg_name (i := 1) sc_wholes.nd rfl (Or.inl rfl))
    (pss_one (ps_if (pt_not (pt_val (pe_cl CW (hr.mono (by decide)) (pa_cons (pv 1) pa_nil)))) (pss_one (ps_ret pe_bl)) pss_nil))) (pss_one (ps_ret pe_bl)), ?_⟩
  refine ⟨_, rfl, a, rfl, ⟨_, hs⟩, for_tup (xs := xs) (fun i σ H1 => ∃ c, σ = [some (.ref a), c] ∧ H1 = H ∧ ∀ j d, j < i → ds[j]? = some d → isIntD d = true) ⟨_, rfl, rfl, fun j d h => absurd h (Nat.not_lt_zero _)⟩ (fun i σ H1 _ h => ?_) (fun i x σ H1 hx h => ?_) (fun σ H1 h => ?_)⟩
  · obtain ⟨c, rfl, rfl, _⟩ := h
    exact hs
  · obtain ⟨c, rfl, rfl, hall⟩ := h
    obtain ⟨d, ed, hdx⟩ := dpa_get hp hx
    obtain ⟨t, kn, ki, _⟩ := dp_kn hdx
    refine ⟨_, rfl, _, t, rfl, kn, _, rfl, ?_⟩
    rw [ki]
    cases hi : isIntD d with
    | true =>
      refine iteF ⟨some x, rfl, rfl, fun j d' hj e' => ?_⟩
      by_cases e : j = i
      · rw [e, ed] at e'
        cases e'
        exact hi
      · exact hall j d' (by omega) e'
    | false =>
      rw [all_not (List.mem_of_getElem? ed) hi] at hq
      exact iteT hq
  · obtain ⟨c, rfl, rfl, hall⟩ := h
    have : ds.all isIntD = true := List.all_eq_true.mpr fun d hd => by
      obtain ⟨i, e⟩ := List.getElem?_of_mem hd
      exact hall i d (by rw [dpa_len hp]; exact (List.getElem?_eq_some_iff.mp e).1) e
    rw [this] at hq
    exact hq
def spSidesD (K : PySem.W.Frag) : Sp := fun vs H Q _ => ∃ x d, vs = [x] ∧ Dp K H x d ∧ ∀ H', Gr H H' → Q (.bl (sidesD d)) H'
theorem cl_sidesD (D : Df K mg "are_sides" s_are_sides) (B : Blt mg) (CW : Cl P w K mg base 2 "are_wholes" ["told"] (spWholesD K)) : Cl P w K mg base 3 "are_sides" ["told"] (spSidesD K) := by
  refine D.cl (fun _ _ _ _ _ _ us hl => match us, hl with | [_], _ => rfl) fun f fd F => F.ok sc_sides (fun vs H Q E h => ?_) (fun cdv A outer s H vs Q E hr h => ?_)
  · obtain ⟨x, d, rfl, _⟩ := h
    rfl
  obtain ⟨x, d, rfl, hd, hq⟩ := h
  have hq := hq H (Gr.refl H)
  refine ⟨_, pss_one (ps_ret (pe_and (pe_isi "tuple" (pv 0) bootTup B.tup B.isi) (pe_and (pe_cl CW (hr.mono (by decide)) (pa_cons (pv 0) pa_nil)) (pe_one (pe_callB (cr_anyT rfl) rfl B.any bootAny (pa_cons (pv 0) pa_nil)))))), ?_⟩
  obtain ⟨t, kn, _, kt⟩ := dp_kn hd
  refine ⟨_, rfl, _, _, kn, kt, _, rfl, ?_⟩
  cases ht : isTupD d with
  | false =>
    have : sidesD d = false := by
      cases d <;> first | rfl | cases ht
    rw [this] at hq
    exact iteF hq
  | true =>
    obtain ⟨a, xs, ds, rfl, rfl, hs, hp⟩ := dp_ofTup hd ht
    refine iteT ⟨_, rfl, a, xs, ds, rfl, hs, hp, _, rfl, ?_⟩
    have e0 : sidesD (.tuple ds) = (ds.all isIntD && (ds.map intD).any fun z => decide (z ≠ 0)) := rfl
    rw [e0] at hq
    cases ha : ds.all isIntD with
    | false =>
      rw [ha] at hq
      exact iteF hq
    | true =>
      rw [ha] at hq
      obtain ⟨e1, e2⟩ := dpa_ints hp fun i d e => List.all_eq_true.mp ha d (List.mem_of_getElem? e)
      rw [e1] at hs
      exact iteT ⟨_, rfl, a, _, rfl, hs, hq⟩
end
end SB
namespace SB
open PySem L2 GxR GA RZ
def questOfD (n : Int) (d : PyData) : Bool := questD d && decide (lenD d = n)
theorem isTup_ex {d : PyData} (h : isTupD d = true) : ∃ ds, d = .tuple ds := by
  cases d <;> first | exact ⟨_, rfl⟩ | cases h
theorem dpa_two {K : PySem.W.Frag} {H : Hp} {xs : List V} {ds : List PyData} (h : DpAll K H xs ds) (l : xs.length = 2) : ∃ x1 x2 d1 d2, xs = [x1, x2] ∧ ds = [d1, d2] ∧ Dp K H x1 d1 ∧ Dp K H x2 d2 := by
  cases h with
  | nil => cases l
  | cons h1 p =>
    cases p with
    | nil => cases l
    | cons h2 p =>
      cases p with
      | nil => exact ⟨_, _, _, _, rfl, rfl, h1, h2⟩
      | cons h3 p => simp at l
theorem questD_two {ds : List PyData} (l : ds.length ≠ 2) : questD (.tuple ds) = false := by
  match ds, l with
  | [], _ => rfl
  | [_], _ => rfl
  | [_, _], l => exact absurd rfl l
  | _ :: _ :: _ :: _, _ => rfl
theorem questD_not {d : PyData} (h : isTupD d = false) : questD d = false := by
  cases d <;> first | rfl | cases h
theorem questD_at (d1 d2 : PyData) : questD (.tuple [d1, d2]) = (sidesD d1 && isIntD d2) := rfl
section
variable {P : Program} {w : World} {K : PySem.W.Frag} {mg : Str → Option Value} {base : Heap}
def spQuestD (K : PySem.W.Frag) : Sp := fun vs H Q _ => ∃ x d, vs = [x] ∧ Dp K H x d ∧ ∀ H', Gr H H' → Q (.bl (questD d)) H'
theorem cl_questD (D : Df K mg "is_question" s_is_question) (B : Blt mg) (CW : Cl P w K mg base 1 "is_whole" ["told"] (spWhole K)) (CS : Cl P w K mg base 3 "are_sides" ["told"] (spSidesD K)) : Cl P w K mg base 4 "is_question" ["told"] (spQuestD K) := by
  refine D.cl (fun _ _ _ _ _ _ us hl => match us, hl with | [_], _ => rfl) fun f fd F => F.ok sc_quest (fun vs H Q E h => ?_) (fun cdv A outer s H vs Q E hr h => ?_)
  · obtain ⟨x, d, rfl, _⟩ := h
    rfl
  obtain ⟨x, d, rfl, hd, hq⟩ := h
  refine ⟨_, pss_cons (ps_if (PW.pt (by exact (pw_or (pt_not (pt_val (pe_isi "tuple" (pv 0) bootTup B.tup B.isi))) (pw_or1 (pt_cmpR op_ne (pe_len (pv 0) B.len) pe_int (nomark _)))))) (pss_one (ps_ret pe_bl)) pss_nil)
    (pss_cons (ps_asg (pv 0) (pg_tup rfl (pgs_cons (pg_name (i := 1) sc_quest.nd rfl (Or.inl rfl)) (pgs_cons (pg_name (i := 2) sc_quest.nd rfl (Or.inl rfl)) pgs_nil))))
    (pss_one (ps_ret (pe_and (pe_cl CS (hr.mono (by decide)) (pa_cons (pv 1) pa_nil)) (pe_one (pe_cl CW (hr.mono (by decide)) (pa_cons (pv 2) pa_nil))))))), ?_⟩
  obtain ⟨t, kn, _, kt⟩ := dp_kn hd
  refine ⟨_, rfl, _, _, kn, kt, _, rfl, ?_⟩
  have q0 := hq H (Gr.refl H)
  cases ht : isTupD d with
  | false =>
    rw [questD_not ht] at q0
    exact iteT (iteT q0)
  | true =>
    obtain ⟨a, xs, ds, rfl, rfl, hs, hp⟩ := dp_ofTup hd ht
    have lx := dpa_len hp
    refine iteF ⟨_, rfl, a, xs, rfl, .inr hs, rfl, _, rfl, ?_⟩
    by_cases l2 : xs.length = 2
    · refine iteNS (by rw [l2]; rfl) ?_
      obtain ⟨x1, x2, d1, d2, rfl, rfl, h1, h2⟩ := dpa_two hp l2
      refine ⟨_, rfl, a, _, rfl, hs, rfl, _, _, rfl, _, _, rfl, rfl, ?_⟩
      refine ⟨_, rfl, _, _, rfl, h1, fun H' g => ⟨_, rfl, ?_⟩⟩
      obtain ⟨t2, kn2, ki2, _⟩ := dp_kn (dp_gr g h2)
      have q1 := hq H' g
      rw [questD_at] at q1
      cases hs1 : sidesD d1 with
      | false =>
        rw [hs1] at q1
        exact iteF q1
      | true =>
        rw [hs1] at q1
        refine iteT ⟨_, rfl, _, t2, rfl, kn2, ?_⟩
        rw [ki2]
        exact q1
    · rw [questD_two (by omega)] at q0
      rw [decide_eq_false (show ¬ V.int ((xs.length : Nat) : Int) = V.int 2 from fun z => l2 (by injection z with z; omega))]
      exact iteT q0
end
end SB
namespace SB
open PySem L2 GxR GA RZ
theorem questOfD_not {n : Int} {d : PyData} (h : questD d = false) : questOfD n d = false := by
  unfold questOfD
  rw [h]
  rfl
theorem questD_yes {K : PySem.W.Frag} {H : Hp} {x : V} {d : PyData} (h : Dp K H x d) (q : questD d = true) : ∃ a b ys ss w x2, x = .ref a ∧ d = .tuple [.tuple ss, w] ∧ SqT K H a [.ref b, x2] ∧ SqT K H b ys ∧ ys.length = ss.length ∧ ∀ n : Int, questOfD n d = decide (((ss.length : Nat) : Int) = n) := by
  cases ht : isTupD d with
  | false =>
    rw [questD_not ht] at q
    cases q
  | true =>
    obtain ⟨a, xs, ds, rfl, rfl, hs, hp⟩ := dp_ofTup h ht
    by_cases l : ds.length = 2
    · obtain ⟨x1, x2, d1, d2, rfl, rfl, h1, h2⟩ := dpa_two hp (by rw [dpa_len hp, l])
      rw [questD_at] at q
      have q1 : sidesD d1 = true := by
        cases e : sidesD d1 with
        | true => rfl
        | false => rw [e] at q; cases q
      have t1 : isTupD d1 = true := by
        cases d1 <;> first | rfl | cases q1
      obtain ⟨b, ys, ss, rfl, rfl, hb, hbp⟩ := dp_ofTup h1 t1
      refine ⟨a, b, ys, ss, d2, x2, rfl, rfl, hs, hb, dpa_len hbp, fun n => ?_⟩
      show (questD (.tuple [.tuple ss, d2]) && _) = _
      rw [questD_at, q]
      rfl
    · rw [questD_two l] at q
      cases q
section
variable {P : Program} {w : World} {K : PySem.W.Frag} {mg : Str → Option Value} {base : Heap}
def spQuestOfD (K : PySem.W.Frag) : Sp := fun vs H Q _ => ∃ x d n, vs = [x, .int n] ∧ Dp K H x d ∧ ∀ H', Gr H H' → Q (.bl (questOfD n d)) H'
theorem cl_questOfD (D : Df K mg "is_question_of" s_is_question_of) (B : Blt mg) (CQ : Cl P w K mg base 4 "is_question" ["told"] (spQuestD K)) : Cl P w K mg base 5 "is_question_of" ["told", "d"] (spQuestOfD K) := by
  refine D.cl (fun _ _ _ _ _ _ us hl => match us, hl with | [_, _], _ => rfl) fun f fd F => F.ok sc_questOf (fun vs H Q E h => ?_) (fun cdv A outer s H vs Q E hr h => ?_)
  · obtain ⟨x, d, n, rfl, _⟩ := h
    rfl
  obtain ⟨x, d, n, rfl, hd, hq⟩ := h
  refine ⟨_, pss_one (ps_ret (pe_and (pe_cl CQ (hr.mono (by decide)) (pa_cons (pv 0) pa_nil)) (pe_one (pe_cmpR op_eq (pe_len (pe_ix ix_tup (pv 0) pe_int (fun _ _ => rfl)) B.len) (pv 1) (nomark _))))), ?_⟩
  refine ⟨_, rfl, _, d, rfl, hd, fun H' g => ⟨_, rfl, ?_⟩⟩
  have q1 := hq H' g
  cases hQ : questD d with
  | false =>
    rw [questOfD_not hQ] at q1
    exact iteF q1
  | true =>
    obtain ⟨a, b, ys, ss, w1, x2, rfl, ed, hs, hb, ly, hn⟩ := questD_yes (dp_gr g hd) hQ
    rw [hn] at q1
    refine iteT ⟨_, rfl, a, _, _, _, rfl, rfl, hs, rfl, b, _, rfl, .inr hb, _, rfl, rfl, ?_⟩
    rw [ly]
    have e2 : decide (V.int ((ss.length : Nat) : Int) = V.int n) = decide (((ss.length : Nat) : Int) = n) := by
      by_cases c : ((ss.length : Nat) : Int) = n
      · rw [c, decide_eq_true rfl, decide_eq_true rfl]
      · rw [decide_eq_false c, decide_eq_false fun z => c (by injection z)]
    rw [e2]
    exact q1
def spManyD (K : PySem.W.Frag) : Sp := fun vs H Q _ => ∃ x d, vs = [x] ∧ Dp K H x d ∧ Q (.bl (manyD d)) H
theorem cl_manyD (D : Df K mg "_is_many" s__is_many) (CW : Cl P w K mg base 1 "is_whole" ["told"] (spWhole K)) : Cl P w K mg base 2 "_is_many" ["d"] (spManyD K) := by
  refine D.cl (fun _ _ _ _ _ _ us hl => match us, hl with | [_], _ => rfl) fun f fd F => F.ok sc_many (fun vs H Q E h => ?_) (fun cdv A outer s H vs Q E hr h => ?_)
  · obtain ⟨x, d, rfl, _⟩ := h
    rfl
  obtain ⟨x, d, rfl, hd, q⟩ := h
  refine ⟨_, pss_one (ps_ret (pe_and (pe_cl CW (hr.mono (by decide)) (pa_cons (pv 0) pa_nil)) (pe_one (pe_cmpR op_ge (pv 0) pe_int (nomark _))))), ?_⟩
  obtain ⟨t, kn, ki, _⟩ := dp_kn hd
  refine ⟨_, rfl, _, t, rfl, kn, _, rfl, ?_⟩
  rw [ki]
  cases hi : isIntD d with
  | false =>
    have : manyD d = false := by
      cases d <;> first | rfl | cases hi
    rw [this] at q
    exact iteF q
  | true =>
    obtain ⟨z, rfl, rfl⟩ := dp_ofInt hd hi
    exact iteT ⟨_, rfl, _, _, rfl, rfl, q⟩
end
end SB
namespace SB
open PySem L2 GxR GA RZ SG PpSet
def quD : PyData → List Int × Int
  | .tuple [.tuple ss, w] => (ss.map intD, intD w)
  | _ => ([], 0)
def partD : PyData → List PyData
  | .tuple ds => ds
  | _ => []
def bookD : PyData → Bool
  | .tuple [n, qs] => manyD n && (isTupD qs && ((partD qs).all (questOfD (intD n)) && decide ((((partD qs).map quD).map nfU).Nodup)))
  | _ => false
/-- not too great to be looked at -/
def SmallD : PyData → Prop
  | .tuple [_, qs] => (partD qs).length ≤ 60 ∧ ∀ q, q ∈ partD qs → questD q = true → (quD q).1.length ≤ 8 ∧ (∀ z, z ∈ (quD q).1 → z.natAbs < 2 ^ 10000) ∧ (quD q).2.natAbs < 2 ^ 10000
  | _ => True
theorem questD_qu {K : PySem.W.Frag} {H : Hp} {x : V} {d : PyData} (h : Dp K H x d) (q : questD d = true) : QuV K H x (quD d) ∧ NonZ (quD d).1 := by
  cases ht : isTupD d with
  | false =>
    rw [questD_not ht] at q
    cases q
  | true =>
    obtain ⟨a, xs, ds, rfl, rfl, hs, hp⟩ := dp_ofTup h ht
    by_cases l : ds.length = 2
    · obtain ⟨x1, x2, d1, d2, rfl, rfl, h1, h2⟩ := dpa_two hp (by rw [dpa_len hp, l])
      rw [questD_at] at q
      have q1 : sidesD d1 = true := by
        cases e : sidesD d1 with
        | true => rfl
        | false => rw [e] at q; cases q
      rw [q1] at q
      have q2 : isIntD d2 = true := q
      have t1 : isTupD d1 = true := by
        cases d1 <;> first | rfl | cases q1
      obtain ⟨b, ys, ss, rfl, rfl, hb, hbp⟩ := dp_ofTup h1 t1
      obtain ⟨z, rfl, rfl⟩ := dp_ofInt h2 q2
      have q3 : (ss.all isIntD && (ss.map intD).any fun z => decide (z ≠ 0)) = true := q1
      have q4 : ss.all isIntD = true := by
        cases e : ss.all isIntD with
        | true => rfl
        | false => rw [e] at q3; cases q3
      rw [q4] at q3
      obtain ⟨e1, e2⟩ := dpa_ints hbp fun i d e => List.all_eq_true.mp q4 d (List.mem_of_getElem? e)
      rw [e1] at hb
      exact ⟨⟨a, _, rfl, hs, b, rfl, hb⟩, q3⟩
    · rw [questD_two l] at q
      cases q
theorem bookD_two {ds : List PyData} (l : ds.length ≠ 2) : bookD (.tuple ds) = false := by
  match ds, l with
  | [], _ => rfl
  | [_], _ => rfl
  | [_, _], l => exact absurd rfl l
  | _ :: _ :: _ :: _, _ => rfl
theorem bookD_not {d : PyData} (h : isTupD d = false) : bookD d = false := by
  cases d <;> first | rfl | cases h
theorem bookD_at (d1 d2 : PyData) : bookD (.tuple [d1, d2]) = (manyD d1 && (isTupD d2 && ((partD d2).all (questOfD (intD d1)) && decide ((((partD d2).map quD).map nfU).Nodup)))) := rfl
theorem nodup_snoc {α : Type} {l : List α} {a : α} : (l ++ [a]).Nodup ↔ l.Nodup ∧ a ∉ l := by
  rw [List.nodup_append]
  constructor
  · rintro ⟨h1, _, h3⟩
    exact ⟨h1, fun z => h3 a z a (List.mem_singleton.mpr rfl) rfl⟩
  · rintro ⟨h1, h2⟩
    refine ⟨h1, by simp, fun b hb c hc e => ?_⟩
    rw [List.mem_singleton.mp hc] at e
    rw [e] at hb
    exact h2 hb
section
variable {P : Program} {w : World} {K : PySem.W.Frag} {mg : Str → Option Value} {base : Heap}
def spBookD (K : PySem.W.Frag) : Sp := fun vs H Q _ => ∃ x d, vs = [x] ∧ Dp K H x d ∧ SmallD d ∧ ∀ H', Gr H H' → Q (.bl (bookD d)) H'
theorem cl_bookD (D : Df K mg "is_book" s_is_book) (B : Blt mg) (CM : Cl P w K mg base 2 "_is_many" ["d"] (spManyD K)) (CQ : Cl P w K mg base 5 "is_question_of" ["told", "d"] (spQuestOfD K)) (CN : Cl P w K mg base 35 "nought_form" ["question"] (spNought K)) :
    Cl P w K mg base 37 "is_book" ["told"] (spBookD K) := by
  refine D.cl (fun _ _ _ _ _ _ us hl => match us, hl with | [_], _ => rfl) fun f fd F => F.ok sc_book (fun vs H Q E h => ?_) (fun cdv A outer s H vs Q E hr h => ?_)
  · obtain ⟨x, d, rfl, _⟩ := h
    rfl
  obtain ⟨x, d, rfl, hd, sm, hq⟩ := h
  refine ⟨_, pss_cons (ps_if (PW.pt (by exact (pw_or (pt_not (pt_val (pe_isi "tuple" (pv 0) bootTup B.tup B.isi))) (pw_or1 (pt_cmpR op_ne (pe_len (pv 0) B.len) pe_int (nomark _)))))) (pss_one (ps_ret pe_bl)) pss_nil)
    (pss_cons (ps_asg (pv 0) (pg_tup rfl (pgs_cons (pg_name (i := 1) sc_book.nd rfl (Or.inl rfl)) (pgs_cons (pg_name (i := 2) sc_book.nd rfl (Or.inl rfl)) pgs_nil))))
    (pss_cons (ps_if (PW.pt (by exact (pw_or (pt_not (pt_val (pe_cl CM (hr.mono (by decide)) (pa_cons (pv 1) pa_nil)))) (pw_or1 (pt_not (pt_val (pe_isi "tuple" (pv 2) bootTup B.tup B.isi))))))) (pss_one (ps_ret pe_bl)) pss_nil)
    (pss_cons (ps_for PassesOwn.never rfl (pi_tup (pv 2)) (pg_name (i := 3) sc_book.nd rfl (Or.inl rfl))
      (pss_one (ps_if (pt_not (pt_val (pe_cl CQ (hr.mono (by decide)) (pa_cons (pv 3) (pa_cons (pv 1) pa_nil))))) (pss_one (ps_ret pe_bl)) pss_nil)))
    (pss_one (ps_ret (pe_cmpR op_eq (pe_callB len_setG rfl B.len PySem.boot_len (pa_cons (pe_sg (Q0 := trivial) (own := [("question", 3)]) (g := gName 3) rfl hr.units sc_book.nd (pi_tup (pv 2)) (blkOk_by (N := ["told", "d", "questions", "question"]) (sc := defScope s_is_book) (by decide +kernel)) (fun _ _ _ _ _ => pg_name (i := 3) sc_book.nd rfl (Or.inl rfl)) (fun _ _ _ _ _ => pts_nil)
      (fun _ _ _ _ _ => pe_cl CN (hr.mono (by decide)) (pa_cons (pv 3) pa_nil))) pa_nil)) (pe_len (pv 2) B.len) (nomark _))))))), ?_⟩
  obtain ⟨t, kn, _, kt⟩ := dp_kn hd
  refine ⟨_, rfl, _, _, kn, kt, _, rfl, ?_⟩
  have q0 := hq H (Gr.refl H)
  cases ht : isTupD d with
  | false =>
    rw [bookD_not ht] at q0
    exact iteT (iteT q0)
  | true =>
  obtain ⟨a, xs0, ds, rfl, rfl, ha, hp⟩ := dp_ofTup hd ht
  have lx := dpa_len hp
  refine iteF ⟨_, rfl, a, xs0, rfl, .inr ha, rfl, _, rfl, ?_⟩
  by_cases l2 : xs0.length = 2
  case neg =>
    rw [bookD_two (by omega)] at q0
    rw [decide_eq_false (show ¬ V.int ((xs0.length : Nat) : Int) = V.int 2 from fun z => l2 (by injection z with z; omega))]
    exact iteT q0
  refine iteNS (by rw [l2]; rfl) ?_
  obtain ⟨x1, x2, d1, d2, rfl, rfl, h1, h2⟩ := dpa_two hp l2
  rw [bookD_at] at q0
  refine ⟨_, rfl, a, _, rfl, ha, rfl, _, _, rfl, _, _, rfl, rfl, ?_⟩
  refine ⟨_, rfl, _, d1, rfl, h1, _, rfl, ?_⟩
  cases hm : manyD d1 with
  | false =>
    rw [hm] at q0
    exact iteT (iteT q0)
  | true =>
  rw [hm] at q0
  obtain ⟨t2', kn2, _, kt2⟩ := dp_kn h2
  refine iteF ⟨_, rfl, _, _, kn2, kt2, _, rfl, ?_⟩
  cases ht2 : isTupD d2 with
  | false =>
    rw [ht2] at q0
    exact iteT q0
  | true =>
  refine iteF ?_
  clear q0
  obtain ⟨b, xs, qd, rfl, rfl, hb, hbp⟩ := dp_ofTup h2 ht2
  have im : isIntD d1 = true := by
    cases d1 <;> first | rfl | cases hm
  obtain ⟨n, rfl, rfl⟩ := dp_ofInt h1 im
  have hq : ∀ H', Gr H H' → Q (.bl (qd.all (questOfD n) && decide (((qd.map quD).map nfU).Nodup))) H' := fun H' g => by
    have q := hq H' g
    rw [bookD_at, hm, ht2] at q
    exact q
  obtain ⟨s60, sall⟩ := sm
  have s60 : qd.length ≤ 60 := s60
  have lxq : xs.length = qd.length := dpa_len hbp
  refine ⟨_, rfl, b, rfl, ⟨_, hb⟩, for_tup (xs := xs) (fun i σ H1 => ∃ c, σ = [some (.ref a), some (.int n), some (.ref b), c] ∧ Gr H H1 ∧ ∀ j q, j < i → qd[j]? = some q → questOfD n q = true) ⟨_, rfl, Gr.refl H, fun j q h => absurd h (Nat.not_lt_zero _)⟩ (fun i σ H1 _ h => ?_) (fun i x σ H1 hx h => ?_) (fun σ H3 h => ?_)⟩
  · obtain ⟨c, rfl, gr, _⟩ := h
    exact gr.seqT hb
  · obtain ⟨c, rfl, gr, hall⟩ := h
    obtain ⟨q, eq, hdx⟩ := dpa_get hbp hx
    refine ⟨_, rfl, _, rfl, x, q, n, rfl, dp_gr gr hdx, fun H' g4 => ⟨_, rfl, ?_⟩⟩
    cases hQ : questOfD n q with
    | true =>
      refine iteF ⟨some x, rfl, gr.trans g4, fun j q' hj e' => ?_⟩
      by_cases e : j = i
      · rw [e, eq] at e'
        cases e'
        exact hQ
      · exact hall j q' (by omega) e'
    | false =>
      refine iteT ?_
      have q1 := hq H' (gr.trans g4)
      rw [all_not (List.mem_of_getElem? eq) hQ] at q1
      exact q1
  obtain ⟨c, rfl, g4, hall⟩ := h
  have hb3 := g4.seqT hb
  have hA : ∀ q, q ∈ qd → questOfD n q = true := fun q hq' => by
    obtain ⟨i, e⟩ := List.getElem?_of_mem hq'
    exact hall i q (by rw [lxq]; exact (List.getElem?_eq_some_iff.mp e).1) e
  have hQ1 : ∀ q, q ∈ qd → questD q = true := fun q hq' => by
    have h := hA q hq'
    unfold questOfD at h
    cases e : questD q with
    | true => rfl
    | false => rw [e] at h; cases h
  have all1 : qd.all (questOfD n) = true := List.all_eq_true.mpr hA
  refine ⟨_, rfl, b, rfl, ⟨_, hb3⟩, fun D nD => ?_⟩
  refine sg_tup (xs := xs) (fun i H => ∃ L : List (Addr × Fm), H D = some (SetGO P w D L) ∧ L.length ≤ i ∧ (L.length = i ↔ (((qd.take i).map quD).map nfU).Nodup) ∧ GrD D H3 H ∧ (∀ p ∈ L, VF K H p.1 p.2) ∧ ∀ k, k ∈ L.map (·.2) ↔ k ∈ ((qd.take i).map quD).map nfU)
    ⟨[], upd_same, Nat.le_refl _, by simp, (GrD.refl D H3).set _, fun p h => by simp at h, fun k => by simp⟩ (fun i H h1 h => ?_) (fun i x H hx h => ?_) (fun H h => ?_)
  · obtain ⟨L, hD, hl, hn, gr, _⟩ := h
    exact (gr.to nD).seqT hb3
  · obtain ⟨L, hD, hl, hn, gr, hv, hk⟩ := h
    obtain ⟨qx, hq1, hdx⟩ := dpa_get hbp hx
    have hi := (List.getElem?_eq_some_iff.mp hq1).1
    have mem := List.mem_of_getElem? hq1
    obtain ⟨b1, b2, b3⟩ := sall qx mem (hQ1 qx mem)
    have g5 := gr.to nD
    obtain ⟨hqu, nzq⟩ := questD_qu (dp_gr (g4.trans g5) hdx) (hQ1 qx mem)
    refine ⟨rfl, _, rfl, x, quD qx, rfl, hqu, ⟨nzq, b2, b3⟩, b1, fun a4 H4 g6 vf => ?_⟩
    have hD4 : H4 D = some (SetGO P w D L) := g6.keep D _ (fun _ z => by unfold SetGO at z; cases z) hD
    have tk : ((qd.take (i + 1)).map quD).map nfU = ((qd.take i).map quD).map nfU ++ [nfU (quD qx)] := by
      rw [List.take_add_one, hq1, Option.toList_some, List.map_append, List.map_append]
      rfl
    refine ⟨a4, nfU (quD qx), L, rfl, vf, hD4, fun p hp' => vf_st (hv p hp') g6.st, by omega, fun L' e1 e2 => ?_⟩
    have tp : Tst K H4 (upd H4 D (SetGO P w D L')) := Tst.put2 hD4 (fun _ z => by unfold SetGO at z; cases z) (fun _ _ z => by unfold SetGO at z; cases z)
    by_cases nin : nfU (quD qx) ∈ L.map (·.2)
    · have := e1 nin
      subst this
      refine ⟨L', upd_same, by omega, ?_, (gr.trans (g6.d D)).set _, fun p hp' => vf_st (vf_st (hv p hp') g6.st) tp, fun k => ?_⟩
      · rw [tk, nodup_snoc]
        constructor
        · intro z
          omega
        · rintro ⟨_, z⟩
          exact absurd ((hk _).mp nin) z
      · rw [tk, List.mem_append, List.mem_singleton, hk k]
        constructor
        · exact .inl
        · rintro (z | rfl)
          · exact z
          · exact (hk _).mp nin
    · have pm := e2 nin
      refine ⟨L', upd_same, by rw [pm.length_eq, List.length_cons]; omega, ?_, (gr.trans (g6.d D)).set _, fun p hp' => ?_, fun k => ?_⟩
      · rw [tk, nodup_snoc, pm.length_eq, List.length_cons, ← hn]
        constructor
        · intro z
          exact ⟨by omega, fun y => nin ((hk _).mpr y)⟩
        · rintro ⟨z, _⟩
          omega
      · rcases List.mem_cons.mp (pm.mem_iff.mp hp') with rfl | hp2
        · exact vf_st vf tp
        · exact vf_st (vf_st (hv p hp2) g6.st) tp
      · have e1 : k ∈ L'.map (·.2) ↔ k = nfU (quD qx) ∨ k ∈ L.map (·.2) := by
          rw [(pm.map _).mem_iff, List.map_cons, List.mem_cons]
        rw [e1, hk k, tk, List.mem_append, List.mem_singleton]
        exact Or.comm
  · obtain ⟨L, hD, hl, hn, gr, _⟩ := h
    have g5 := gr.to nD
    refine ⟨D, L, rfl, hD, _, rfl, b, _, rfl, .inr (g5.seqT hb3), rfl, ?_⟩
    have q1 := hq H (g4.trans g5)
    rw [all1] at q1
    rw [lxq, List.take_length] at hn
    rw [lxq]
    have e2 : decide (V.int ((L.length : Nat) : Int) = V.int ((qd.length : Nat) : Int)) = decide (((qd.map quD).map nfU).Nodup) := by
      by_cases c : L.length = qd.length
      · rw [decide_eq_true (hn.mp c), c, decide_eq_true rfl]
      · rw [decide_eq_false (fun z => c (hn.mpr z)), decide_eq_false fun z => c (by injection z with z; omega)]
    rw [e2]
    exact q1
end
end SB
namespace SG
open PySem PySem.Spec PyProof.Rows L2 PpSet
section
variable {P : Program} {w : World} {κ : Type} [DecidableEq κ] {kd : Kd P w κ} {A : Around} {E : Value → Shared → Prop} {s : Shared} {a : Addr} {L : List (Addr × κ)} {es : Array (Int × Value)} {ep : Nat} {t : SetTable}
theorem sr_lookup (R : SR kd s.heap a L es ep t) {x : Addr} {k : κ} (hx : kd.is s.heap k x) (hu : A.units + 8 < cLine) {Q : Option Nat → Shared → Prop} (q : ∀ r : Option Nat, (r.isSome = true ↔ k ∈ L.map (·.2)) → Q r s) :
    wpAny (model P w) A (setFind a (.ref x) (kd.hash k)) Q E s := by
  obtain ⟨o, ho, hex, hd⟩ := R.ob
  unfold setFind
  rw [show (100000 : Nat) = 99999 + 1 from rfl, setFindIn]
  refine wpAny_bind (wpAny_setState_of ho hd R.fits ?_)
  dsimp only
  refine wp_if_neg (by simp [byScan, Value.scannable]) ?_
  try refine wpAny_bind (wpAny_pure ?_)
  refine wpAny_bind (sr_find R false hx hu (fun i hm => ?_) fun K hm hK hb => ?_)
  · unfold met
    dsimp only
    exact wpAny_pure (q _ ⟨fun _ => hm, fun _ => rfl⟩)
  · dsimp only
    exact wpAny_pure (q none ⟨fun z => (by cases z), fun z => absurd z hm⟩)
theorem sr_notin (R : SR kd s.heap a L es ep t) {x : Addr} {k : κ} (hx : kd.is s.heap k x) (hu : A.units + 16 < cLine) {Q : Value → Shared → Prop}
    (h : Q (.bool (!decide (k ∈ L.map (·.2)))) { s with toks := s.toks + kd.draws k }) : wpAny (model P w) A (compareOp .NotIn (.ref x) (.ref a)) Q E s := by
  have hT : s.TypeIs (.ref a) "set" := by
    obtain ⟨o, ho, hex, _⟩ := R.ob
    exact ⟨o, ho, hex.1⟩
  show wpAny _ _ (do return .bool (!(← contains (.ref a) (.ref x)))) Q E s
  refine wpAny_bind ?_
  unfold contains
  try with_reducible refine wpAny_holding ?_
  refine wpAny_bind (wpAny_specialOf hT F.slot_set_contains.lookup ?_)
  show wpAny _ _ (if (some (Value.builtin "set.__contains__") == some Value.none) = true then _ else _) _ E s
  rw [if_neg (by rw [beq_builtin_none]; exact Bool.false_ne_true)]
  refine wpAny_bind (wpAny_callSpecialUnlessNone?_slot (name := Str.ofString "__contains__") hT F.slot_set_contains
    (wpAny_call_entry F.slot_set_contains hT entry_set_contains ?_ (F.args_set_contains_2 _ _)))
  unfold Builtin.«frozenset.__contains__» Builtin.Frozenset.oneOther
  simp only [List.isEmpty_nil, bind_assoc]
  unfold Builtin.Frozenset.addrOf Builtin.Frozenset.withSetAsKey setContains
  refine wpAny_bind (wpAny_pure ?_)
  try dsimp only
  refine wpAny_bind (wpAny_pure ?_)
  try dsimp only
  refine wpAny_bind (wpAny_tryCatch ?_)
  refine wpAny_holding ?_
  have hu1 : ∀ n, n ≤ 4 → A.units + n + 8 < cLine := fun n hn => by omega
  refine wpAny_bind (kd.pyH (by first | exact hu1 0 (by decide) | exact hu1 1 (by decide) | exact hu1 2 (by decide) | (show A.units + 1 + 8 < cLine; omega) | (show A.units + 1 + 1 + 8 < cLine; omega)) hx ?_)
  refine wpAny_bind (sr_lookup (s := { s with toks := s.toks + kd.draws k }) R hx (by first | exact hu1 0 (by decide) | exact hu1 1 (by decide) | exact hu1 2 (by decide) | (show A.units + 1 + 8 < cLine; omega) | (show A.units + 1 + 1 + 8 < cLine; omega)) fun r hr => ?_)
  refine wpAny_pure ?_
  show wpAny _ _ (ret (Value.bool r.isSome)) _ _ _
  have e : r.isSome = decide (k ∈ L.map (·.2)) := by
    by_cases c : k ∈ L.map (·.2)
    · rw [hr.mpr c, decide_eq_true c]
    · rw [decide_eq_false c, Bool.eq_false_iff]
      exact fun z => c (hr.mp z)
  rw [e]
  exact wpAny_pure ⟨_, rfl, wpAny_truthy_bool (wpAny_pure h)⟩
end
end SG
namespace SG
open PySem PySem.Spec PyProof.Rows L2 PpSet
section
variable {X : Cx}
theorem dec_iff {p : Prop} {i : Decidable p} : (@decide p i) = true ↔ p := @decide_eq_true_iff p i
/-- form not in seen -/
def rSNotG (P : Program) (w : World) (K : PySem.W.Frag) : V → V → Hp → VK → Prop := fun x y H Q => ∃ (b D : Addr) (k : Fm) (L : List (Addr × Fm)), x = V.ref b ∧ y = V.ref D ∧ VF K H b k ∧ H D = some (SetGO P w D L) ∧ (∀ p ∈ L, VF K H p.1 p.2) ∧ (k ∈ L.map (·.2) → Q (.bl false) H) ∧ (k ∉ L.map (·.2) → Q (.bl true) H)
theorem or_notinG (hu : X.A.units + 64 < cLine) : OpR X (compareOp .NotIn) (rSNotG X.prog X.w X.K) := by
  intro pins s σ H x y v u Q I rx ry h
  obtain ⟨b, D, k, L, rfl, rfl, hb, hD, hm, q1, q2⟩ := h
  cases rx
  cases ry
  obtain ⟨es, ep, t, R⟩ := (show ObjOk X.prog X.w H s.heap D (SetGO X.prog X.w D L) from I.hok D _ hD).1
  have f : ∀ bb : Bool, (bb = true ↔ k ∈ L.map (·.2)) → Q (.bl (!bb)) H := fun bb e => by
    cases bb with
    | true => exact q1 (e.mp rfl)
    | false =>
      exact q2 fun z => by
        have := e.mpr z
        cases this
  exact sr_notin (R.sr fun p hp => vf_is I (hm p hp)) (vf_is I hb) (by omega) ⟨.bl _, H, I.tok _, rfl, f _ dec_iff⟩
/-- set() -/
def rSet0G (P : Program) (w : World) : List V → Hp → VK → Prop := fun xs H Q => xs = [] ∧ ∀ p, H p = none → Q (.ref p) (upd H p (SetGO P w p []))
theorem cr_set0G : CallR X (.type "set") (rSet0G X.prog X.w) := by
  intro pins s σ H xs us Q I r h
  obtain ⟨rfl, q⟩ := h
  cases r
  refine setR_new fun _ => ?_
  have new : S0 X.prog X.w (s.heap.push { cls := .type "set", dict := none, data := .set #[] 0 (.fresh 0 0 (!X.w.params.followText "set-order")) }) s.heap.objs.size [] #[] 0 (.fresh 0 0 (!X.w.params.followText "set-order")) :=
    (sr_fresh (kd := KF X.prog X.w) (Heap.get?_push_size _ rfl)).s0
  exact ⟨.ref _, upd H s.heap.objs.size (SetGO X.prog X.w s.heap.objs.size []), I.laid (t' := s.toks) (fun b u e => Heap.get?_push_of_some _ e) (Nat.le_refl _) (setGO_ok new), rfl, q _ (I.hok.fresh (Nat.le_refl _))⟩
/-- seen.add(form) -/
def rSAddG (P : Program) (w : World) (K : PySem.W.Frag) : V → List V → Hp → VK → Prop := fun x xs H Q => ∃ (b D : Addr) (k : Fm) (L : List (Addr × Fm)), x = V.ref D ∧ xs = [.ref b] ∧ VF K H b k ∧ H D = some (SetGO P w D L) ∧ (∀ p ∈ L, VF K H p.1 p.2) ∧ L.length + 1 < 64 ∧
  ∀ L', (k ∈ L.map (·.2) → L' = L) → (k ∉ L.map (·.2) → L'.Perm ((b, k) :: L)) → Q .non (upd H D (SetGO P w D L'))
theorem mt_saddG (hu : X.A.units + 64 < cLine) : MtR X "set.add" (rSAddG X.prog X.w X.K) := by
  intro pins s σ H x xs v us Q I rx rxs h
  obtain ⟨b, D, k, L, rfl, rfl, hb, hD, hm, few, q⟩ := h
  cases rx
  cases rxs with
  | cons ry rt =>
    cases rt
    cases ry
    exact addG_ok hu I hD hb hm few fun L' s' e1 e2 I' => ⟨.non, _, I', rfl, q L' e1 e2⟩
end
end SG
namespace SG
open PySem PySem.Spec PyProof.Rows L2 PpSet
section
variable {X : Cx}
def tSAddG (P : Program) (w : World) (K : PySem.W.Frag) (to : TE) (t : TA) : TE := fun σ H Q => to σ H fun x H1 => (∃ a L, x = V.ref a ∧ H1 a = some (SetGO P w a L)) ∧ t σ H1 fun xs H2 => rSAddG P w K x xs H2 Q
variable {o e : Expr} {es : List Expr} {to : TE} {t : TA} {apos cpos : Pos}
theorem pe_saddG (hu : X.A.units + 64 < cLine) (ho : PE X o to) (ha : PA X (e :: es) t)
    (hbase : attributeBase o "add" X.env (eval o X.env) = eval o X.env := by rfl)
    (hfew : ((backTo cpos (starEach (e :: es) X.env)).all (fun x => !x.1) && (backToKw cpos (keywordEach [] X.env)).all (fun x => x.1.isSome)
      && decide ((e :: es).length + ([] : List Keyword).length + (if ([] : List Keyword).isEmpty then 0 else 1) < 30)) = true := by rfl)
    (hline : (apos.endLine == cpos.line) = true := by rfl) (hs : starEach (e :: es) X.env = (false, eval e X.env) :: starEach es X.env := by rfl) (hplain : (backTo cpos (starEach es X.env)).any (·.1) = false := by rfl) :
    PE X (.Call (.Attribute o "add" apos) (e :: es) [] cpos) (tSAddG X.prog X.w X.K to t) := by
  refine ⟨fun pins s σ H Q I h => ?_⟩
  refine wpAny_Call_method_late hbase hfew hline rfl (thn (ho.run pins s σ H _ I h) fun v s1 ⟨x, H1, I1, r1, ty, q1⟩ => ?_)
  obtain ⟨a, L, rfl, hka⟩ := ty
  obtain ⟨es', ep, t', R⟩ := (show ObjOk X.prog X.w H1 s1.heap a (SetGO X.prog X.w a L) from I1.hok a _ hka).1
  obtain ⟨ob, hob, hex, _⟩ := R.ob
  cases r1
  refine ⟨"set", "set.add", F.plainAttrs_set, F.slot_set_add, F.type_set_add, ⟨ob, hob, hex.1⟩, (fun b eb => by cases eb; exact ⟨ob, hob, hex.2.1⟩), ?_⟩
  have hA := ha.run cpos pins s1 σ H1 _ I1 q1
  rw [hs] at hA ⊢
  refine Calls.callWith_builtin (by show (false || (backTo cpos (starEach es X.env)).any (·.1)) = false; rw [hplain] <;> rfl) (Calls.evalArgs_plain ?_)
  exact thn hA fun us s2 ⟨vs, H2, I2, r2, q2⟩ => mt_saddG hu pins s2 σ H2 (.ref a) vs (.ref a) us Q I2 rfl r2 q2
end
end SG
namespace L2
open PySem PySem.Spec PyProof.Rows
section
variable {X : Cx} {tg : Expr}
/-- a list or a tuple -/
def iSeq (K : PySem.W.Frag) (tl : TE) : TI := fun σ H R => tl σ H fun x H1 => ∃ a, x = .ref a ∧ (((∃ xs, SqL K H1 a xs) ∧ R (Itl K a) H1) ∨ ((∃ xs, SqT K H1 a xs) ∧ R (Itt K a) H1))
theorem pi_seq {l : Expr} {tl : TE} (hl : PE X l tl) : PI X tg l (iSeq X.K tl) := by
  refine ⟨fun pins s σ H R I h => ?_⟩
  refine thn (hl.run pins s σ H _ I h) fun v s1 ⟨x, H1, I1, r1, q1⟩ => ?_
  obtain ⟨a, e, q1⟩ := q1
  subst e
  cases r1
  rcases q1 with ⟨⟨xs, hq⟩, q⟩ | ⟨⟨xs, hq⟩, q⟩
  · obtain ⟨its, rv, p, hz⟩ := I1.list hq
    refine wpAny_pyIter_list p.isList ?_
    refine ⟨s1.heap.objs.size, [s1.heap.objs.size], _, _, H1, rfl, I1.kept (t' := s1.toks) fun b o e => Heap.get?_push_of_some _ e, turn_list a _, ⟨_, Heap.get?_push_size _ rfl, rfl, rfl⟩, fun b hb => ?_, q⟩
    have e : b = s1.heap.objs.size := by simpa using hb
    subst e
    exact I1.fpOk (Nat.le_refl _) (I1.hok.fresh (Nat.le_refl _))
  · obtain ⟨its, rv, p, hz⟩ := I1.tuple hq
    refine wpAny_pyIter_tuple (show s1.heap.IsTuple a its.toArray from p) ?_
    refine ⟨s1.heap.objs.size, [s1.heap.objs.size], _, _, H1, rfl, I1.kept (t' := s1.toks) fun b o e => Heap.get?_push_of_some _ e, turn_tuple a _, ⟨_, Heap.get?_push_size _ rfl, rfl, rfl⟩, fun b hb => ?_, q⟩
    have e : b = s1.heap.objs.size := by simpa using hb
    subst e
    exact I1.fpOk (Nat.le_refl _) (I1.hok.fresh (Nat.le_refl _))
end
end L2
namespace SB
open PySem L2 GxR GA RZ SG PpSet
theorem bootSetB : bootBuiltins "set" = some (.type "set") := by decide +kernel
theorem paired_join {α β : Type} {F : α → β → Prop} : ∀ {a c : List α} {b d : List β}, Paired F a b → Paired F c d → Paired F (a ++ c) (b ++ d)
  | _, _, _, _, .nil, q => q
  | _, _, _, _, .cons h t, q => .cons h (paired_join t q)
/-- those left that are new -/
def keptU (qs : List (List Int × Int)) : List (List Int × Int) := qs.foldl (fun acc q => if nfU q ∈ acc.map nfU then acc else acc ++ [q]) []
theorem kept_snoc (qs : List (List Int × Int)) (q : List Int × Int) : keptU (qs ++ [q]) = if nfU q ∈ (keptU qs).map nfU then keptU qs else keptU qs ++ [q] := by
  unfold keptU
  rw [List.foldl_append]
  rfl
section
variable {P : Program} {w : World} {K : PySem.W.Frag} {mg : Str → Option Value} {base : Heap}
def spMade (K : PySem.W.Frag) : Sp := fun vs H Q _ => ∃ n a xs qs, vs = [.int ((n : Nat) : Int), .ref a] ∧ (SqL K H a xs ∨ SqT K H a xs) ∧ Paired (QuV K H) xs qs ∧ (∀ q, q ∈ qs → QOk q ∧ q.1.length ≤ 8) ∧ qs.length ≤ 60 ∧ ∀ v H', Gr H H' → BkV K H' v n ((keptU qs).map divU) → Q v H'
theorem sc_made : FnScope ["d", "questions", "seen", "kept", "question", "form"] ["d", "questions"] (defScope s_made_book) := ⟨rfl, rfl, rfl, by decide +kernel, rfl, by decide +kernel, by decide +kernel⟩
theorem cl_made (D : Df K mg "made_book" s_made_book) (B : Blt mg) (ms : mg "set" = none) (CN : Cl P w K mg base 35 "nought_form" ["question"] (spNought K)) (CD : Cl P w K mg base 34 "divided" ["question"] (spDiv K)) : Cl P w K mg base 36 "made_book" ["d", "questions"] (spMade K) := by
  refine D.cl (fun _ _ _ _ _ _ us hl => match us, hl with | [_, _], _ => rfl) fun f fd F => F.ok sc_made (fun vs H Q E h => ?_) (fun cdv A outer s H vs Q E hr h => ?_)
  · obtain ⟨n, a, xs, qs, rfl, _⟩ := h
    rfl
  obtain ⟨n, a, xs, qs, rfl, hs, hp, hok, l60, hq⟩ := h
  refine ⟨_, (pss_cons (ps_set (i := 2) sc_made.nd rfl (.inl rfl) (pe_callTy0 cr_set0G rfl ms bootSetB))
    (pss_cons (ps_set (i := 3) sc_made.nd rfl (.inl rfl) (pe_lst pa_nil))
    (pss_cons (ps_for PassesOwn.never rfl (pi_seq (pv 1)) (pg_name (i := 4) sc_made.nd rfl (Or.inl rfl))
      (pss_cons (ps_set (i := 5) sc_made.nd rfl (.inl rfl) (pe_cl CN (hr.mono (by decide)) (pa_cons (pv 4) pa_nil)))
      (pss_one (ps_if (pt_cmpR (or_notinG hr.units) (pv 5) (pv 2) rfl)
        (pss_cons (ps_expr (pe_saddG hr.units (pv 2) (pa_cons (pv 5) pa_nil)))
        (pss_one (ps_expr (pe_bm PySem.F.plainAttrs_list PySem.F.slot_list_append PySem.F.type_list_append mt_append (pv 3) (pa_cons (pe_cl CD (hr.mono (by decide)) (pa_cons (pv 4) pa_nil)) pa_nil))))) pss_nil))))
    (pss_one (ps_ret (pe_tup (pa_cons (pv 0) (pa_cons (pe_callTy call_tuple_of rfl B.tup bootTup (pa_cons (pv 3) pa_nil)) pa_nil)))))))), ?_⟩
  have lx : xs.length = qs.length := paired_len hp
  refine ⟨rfl, fun S nS => ⟨szN (by show 0 ≤ 1000000; decide), fun D nD => ?_⟩⟩
  have gS : Gr H (upd H S (SetGO P w S [])) := (Gr.refl H).new nS _
  have neS : S ≠ D := fun e => by rw [← e, upd_same] at nD; cases nD
  have nD0 : H D = none := by rw [upd_ne (Ne.symm neS)] at nD; exact nD
  have g0 : Gr H (upd (upd H S (SetGO P w S [])) D (.lst [])) := gS.new nD _
  have eS : (upd (upd H S (SetGO P w S [])) D (.lst [])) S = some (SetGO P w S []) := by rw [upd_ne neS]; exact upd_same
  have eD : (upd (upd H S (SetGO P w S [])) D (.lst [])) D = some (.lst []) := upd_same
  refine ⟨_, rfl, a, rfl, ?_⟩
  let Pv : Nat → L2.St → Hp → Prop := fun i σ H1 => ∃ (L : List (Addr × Fm)) (zs : List V) (c4 c5 : Option V), σ = [some (.int ((n : Nat) : Int)), some (.ref a), some (.ref S), some (.ref D), c4, c5] ∧ Gr H H1 ∧ H1 S = some (SetGO P w S L) ∧ H1 D = some (.lst zs) ∧ L.length ≤ i ∧ (∀ p ∈ L, VF K H1 p.1 p.2) ∧ (∀ k, k ∈ L.map (·.2) ↔ k ∈ (keptU (qs.take i)).map nfU) ∧ Paired (QuV K H1) zs ((keptU (qs.take i)).map divU) ∧ (keptU (qs.take i)).length ≤ i
  have P0 : Pv 0 [some (.int ((n : Nat) : Int)), some (.ref a), some (.ref S), some (.ref D), none, none] (upd (upd H S (SetGO P w S [])) D (.lst [])) := ⟨[], [], _, _, rfl, g0, eS, eD, Nat.le_refl _, fun p h => by simp at h, fun k => by simp [keptU], .nil, Nat.le_refl _⟩
  have keep : ∀ i σ H1, Pv i σ H1 → Gr H H1 := fun i σ H1 h => by
    obtain ⟨L, zs, c4, c5, rfl, g, _⟩ := h
    exact g
  rcases hs with hs | hs
  · refine .inl ⟨⟨xs, g0.seqL hs⟩, for_list (xs := xs) Pv P0 (fun i σ H1 _ h => (keep i σ H1 h).seqL hs) (fun i x σ H1 hx h => ?_) (fun σ H1 h => ?_)⟩
    · obtain ⟨L, zs, c4, c5, rfl, g, hS, hD, lL, hv, hk, hpz, lk⟩ := h
      obtain ⟨q, eq, hn⟩ := paired_get hp hx
      have iq := (List.getElem?_eq_some_iff.mp eq).1
      obtain ⟨qo, q8⟩ := hok q (List.mem_of_getElem? eq)
      have tk : keptU (qs.take (i + 1)) = if nfU q ∈ (keptU (qs.take i)).map nfU then keptU (qs.take i) else keptU (qs.take i) ++ [q] := by
        rw [List.take_add_one, eq, Option.toList_some, kept_snoc]
      refine ⟨_, rfl, x, q, rfl, hn.gr g, qo, q8, fun fa H2 g2 vf => ?_⟩
      have hS2 : H2 S = some (SetGO P w S L) := g2.keep S _ (fun _ z => by unfold SetGO at z; cases z) hS
      have hD2 : H2 D = some (.lst zs) := g2.keep D (.lst zs) (fun _ z => nomatch z) hD
      have hv2 : ∀ p ∈ L, VF K H2 p.1 p.2 := fun p h => vf_st (hv p h) g2.st
      have hp2 : Paired (QuV K H2) zs ((keptU (qs.take i)).map divU) := Paired.mapP hpz fun _ _ z => QuV.gr z g2
      refine ⟨_, rfl, _, rfl, fa, S, nfU q, L, rfl, rfl, vf, hS2, hv2, fun hin => ?_, fun hout => ?_⟩
      · refine ⟨_, rfl, iteF ?_⟩
        rw [hk] at hin
        rw [if_pos hin] at tk
        exact ⟨L, zs, _, _, rfl, g.trans g2, hS2, hD2, by omega, hv2, fun k => by rw [tk]; exact hk k, by rw [tk]; exact hp2, by rw [tk]; omega⟩
      · refine ⟨_, rfl, iteT ⟨_, rfl, ⟨S, L, rfl, hS2⟩, _, rfl, fa, S, nfU q, L, rfl, rfl, vf, hS2, hv2, by omega, fun L' e1 e2 => ?_⟩⟩
        have pm := e2 hout
        have tp : Tst K H2 (upd H2 S (SetGO P w S L')) := Tst.put2 hS2 (fun _ z => by unfold SetGO at z; cases z) (fun _ _ z => by unfold SetGO at z; cases z)
        have gS3 : Gr H (upd H2 S (SetGO P w S L')) := (((g.trans g2).d S).set _).to nS
        have hD3 : (upd H2 S (SetGO P w S L')) D = some (.lst zs) := by rw [upd_ne (Ne.symm neS)]; exact hD2
        have hS3 : (upd H2 S (SetGO P w S L')) S = some (SetGO P w S L') := upd_same
        rw [hk] at hout
        rw [if_neg hout] at tk
        refine ⟨_, rfl, .inl ⟨rfl, _, SqL.of hD3⟩, _, rfl, x, q, rfl, hn.gr gS3, qo.nz, q8, fun v3 H4 g4 hv3 => ?_⟩
        have hD4 : H4 D = some (.lst zs) := g4.keep D (.lst zs) (fun _ z => nomatch z) hD3
        have hS4 : H4 S = some (SetGO P w S L') := g4.keep S _ (fun _ z => by unfold SetGO at z; cases z) hS3
        have t9 : Tst K H4 (upd H4 D (.lst (zs ++ [v3]))) := Tst.put hD4
        have lz : zs.length = (keptU (qs.take i)).length := by rw [paired_len hpz, List.length_map]
        refine ⟨D, _, _, rfl, rfl, hD4, small1000 (by omega), L', zs ++ [v3], _, _, rfl, (((gS3.trans g4).d D).set _).to nD0, by rw [upd_ne neS]; exact hS4, upd_same, by rw [pm.length_eq, List.length_cons]; omega, fun p hp' => ?_, fun k => ?_, ?_, by rw [tk, List.length_append]; show _ + 1 ≤ i + 1; omega⟩
        · rcases List.mem_cons.mp (pm.mem_iff.mp hp') with rfl | hp3
          · exact vf_st (vf_st (vf_st vf tp) g4.st) t9
          · exact vf_st (vf_st (vf_st (hv2 p hp3) tp) g4.st) t9
        · have e3 : k ∈ L'.map (·.2) ↔ k = nfU q ∨ k ∈ L.map (·.2) := by
            rw [(pm.map _).mem_iff, List.map_cons, List.mem_cons]
          rw [e3, hk k, tk, List.map_append, List.mem_append, List.map_singleton, List.mem_singleton]
          exact Or.comm
        · rw [tk, List.map_append]
          exact paired_join (Paired.mapP hp2 fun _ _ z => QuV.st z (tp.trans (g4.st.trans t9))) (.cons (hv3.st t9) .nil)
    · obtain ⟨L, zs, c4, c5, rfl, g, hS, hD, lL, hv, hk, hpz, lk⟩ := h
      rw [lx, List.take_length] at hpz
      refine ⟨_, rfl, _, rfl, D, _, rfl, .inl ⟨SqL.of hD, fun p1 n1 => ⟨szN (by show 2 ≤ 1000000; decide), fun p2 n2 => ?_⟩⟩⟩
      have k1 := (Gr.refl H1).new n1 (.tup zs)
      have k2 := k1.new n2 (.tup [.int ((n : Nat) : Int), .ref p1])
      exact hq _ _ (g.trans k2) ⟨p2, p1, zs, rfl, SqT.of upd_same, ((Gr.refl _).new n2 _).seqT (SqT.of upd_same), Paired.mapP hpz fun _ _ z => QuV.gr z k2⟩
  · refine .inr ⟨⟨xs, g0.seqT hs⟩, for_tup (xs := xs) Pv P0 (fun i σ H1 _ h => (keep i σ H1 h).seqT hs) (fun i x σ H1 hx h => ?_) (fun σ H1 h => ?_)⟩
    · obtain ⟨L, zs, c4, c5, rfl, g, hS, hD, lL, hv, hk, hpz, lk⟩ := h
      obtain ⟨q, eq, hn⟩ := paired_get hp hx
      have iq := (List.getElem?_eq_some_iff.mp eq).1
      obtain ⟨qo, q8⟩ := hok q (List.mem_of_getElem? eq)
      have tk : keptU (qs.take (i + 1)) = if nfU q ∈ (keptU (qs.take i)).map nfU then keptU (qs.take i) else keptU (qs.take i) ++ [q] := by
        rw [List.take_add_one, eq, Option.toList_some, kept_snoc]
      refine ⟨_, rfl, x, q, rfl, hn.gr g, qo, q8, fun fa H2 g2 vf => ?_⟩
      have hS2 : H2 S = some (SetGO P w S L) := g2.keep S _ (fun _ z => by unfold SetGO at z; cases z) hS
      have hD2 : H2 D = some (.lst zs) := g2.keep D (.lst zs) (fun _ z => nomatch z) hD
      have hv2 : ∀ p ∈ L, VF K H2 p.1 p.2 := fun p h => vf_st (hv p h) g2.st
      have hp2 : Paired (QuV K H2) zs ((keptU (qs.take i)).map divU) := Paired.mapP hpz fun _ _ z => QuV.gr z g2
      refine ⟨_, rfl, _, rfl, fa, S, nfU q, L, rfl, rfl, vf, hS2, hv2, fun hin => ?_, fun hout => ?_⟩
      · refine ⟨_, rfl, iteF ?_⟩
        rw [hk] at hin
        rw [if_pos hin] at tk
        exact ⟨L, zs, _, _, rfl, g.trans g2, hS2, hD2, by omega, hv2, fun k => by rw [tk]; exact hk k, by rw [tk]; exact hp2, by rw [tk]; omega⟩
      · refine ⟨_, rfl, iteT ⟨_, rfl, ⟨S, L, rfl, hS2⟩, _, rfl, fa, S, nfU q, L, rfl, rfl, vf, hS2, hv2, by omega, fun L' e1 e2 => ?_⟩⟩
        have pm := e2 hout
        have tp : Tst K H2 (upd H2 S (SetGO P w S L')) := Tst.put2 hS2 (fun _ z => by unfold SetGO at z; cases z) (fun _ _ z => by unfold SetGO at z; cases z)
        have gS3 : Gr H (upd H2 S (SetGO P w S L')) := (((g.trans g2).d S).set _).to nS
        have hD3 : (upd H2 S (SetGO P w S L')) D = some (.lst zs) := by rw [upd_ne (Ne.symm neS)]; exact hD2
        have hS3 : (upd H2 S (SetGO P w S L')) S = some (SetGO P w S L') := upd_same
        rw [hk] at hout
        rw [if_neg hout] at tk
        refine ⟨_, rfl, .inl ⟨rfl, _, SqL.of hD3⟩, _, rfl, x, q, rfl, hn.gr gS3, qo.nz, q8, fun v3 H4 g4 hv3 => ?_⟩
        have hD4 : H4 D = some (.lst zs) := g4.keep D (.lst zs) (fun _ z => nomatch z) hD3
        have hS4 : H4 S = some (SetGO P w S L') := g4.keep S _ (fun _ z => by unfold SetGO at z; cases z) hS3
        have t9 : Tst K H4 (upd H4 D (.lst (zs ++ [v3]))) := Tst.put hD4
        have lz : zs.length = (keptU (qs.take i)).length := by rw [paired_len hpz, List.length_map]
        refine ⟨D, _, _, rfl, rfl, hD4, small1000 (by omega), L', zs ++ [v3], _, _, rfl, (((gS3.trans g4).d D).set _).to nD0, by rw [upd_ne neS]; exact hS4, upd_same, by rw [pm.length_eq, List.length_cons]; omega, fun p hp' => ?_, fun k => ?_, ?_, by rw [tk, List.length_append]; show _ + 1 ≤ i + 1; omega⟩
        · rcases List.mem_cons.mp (pm.mem_iff.mp hp') with rfl | hp3
          · exact vf_st (vf_st (vf_st vf tp) g4.st) t9
          · exact vf_st (vf_st (vf_st (hv2 p hp3) tp) g4.st) t9
        · have e3 : k ∈ L'.map (·.2) ↔ k = nfU q ∨ k ∈ L.map (·.2) := by
            rw [(pm.map _).mem_iff, List.map_cons, List.mem_cons]
          rw [e3, hk k, tk, List.map_append, List.mem_append, List.map_singleton, List.mem_singleton]
          exact Or.comm
        · rw [tk, List.map_append]
          exact paired_join (Paired.mapP hp2 fun _ _ z => QuV.st z (tp.trans (g4.st.trans t9))) (.cons (hv3.st t9) .nil)
    · obtain ⟨L, zs, c4, c5, rfl, g, hS, hD, lL, hv, hk, hpz, lk⟩ := h
      rw [lx, List.take_length] at hpz
      refine ⟨_, rfl, _, rfl, D, _, rfl, .inl ⟨SqL.of hD, fun p1 n1 => ⟨szN (by show 2 ≤ 1000000; decide), fun p2 n2 => ?_⟩⟩⟩
      have k1 := (Gr.refl H1).new n1 (.tup zs)
      have k2 := k1.new n2 (.tup [.int ((n : Nat) : Int), .ref p1])
      exact hq _ _ (g.trans k2) ⟨p2, p1, zs, rfl, SqT.of upd_same, ((Gr.refl _).new n2 _).seqT (SqT.of upd_same), Paired.mapP hpz fun _ _ z => QuV.gr z k2⟩
end
end SB
namespace SB
open PySem L2 GxR GA RZ
theorem nf_div {q : List Int × Int} (h : QOk q) : nfU (divU q) = nfU q := by
  have g0 := nonZ_g h.nz
  refine nf_same h.div h (u := 1) (v := ((gcdL (q.1 ++ [q.2]) : Nat) : Int)) (by decide) (by omega) ?_
  rw [scU_divU]
  unfold scU
  refine Prod.ext ?_ (Int.one_mul _).symm
  show q.1 = q.1.map fun z => 1 * z
  have : (fun z : Int => 1 * z) = id := funext fun z => Int.one_mul z
  rw [this, List.map_id]
theorem kept_sub : ∀ (qs : List (List Int × Int)) (q : List Int × Int), q ∈ keptU qs → q ∈ qs := fun qs => by
  have : ∀ (rs acc : List (List Int × Int)) (q : List Int × Int), q ∈ rs.foldl (fun acc q => if nfU q ∈ acc.map nfU then acc else acc ++ [q]) acc → q ∈ acc ∨ q ∈ rs := fun rs => by
    induction rs with
    | nil => exact fun acc q h => .inl h
    | cons r t ih =>
      intro acc q h
      rw [List.foldl_cons] at h
      rcases ih _ q h with z | z
      · split at z
        · exact .inl z
        · rcases List.mem_append.mp z with y | y
          · exact .inl y
          · rw [List.mem_singleton.mp y]
            exact .inr List.mem_cons_self
      · exact .inr (List.mem_cons_of_mem _ z)
  intro q h
  rcases this qs [] q h with z | z
  · simp at z
  · exact z
theorem kept_nd (qs : List (List Int × Int)) : ((keptU qs).map nfU).Nodup := by
  have : ∀ (rs acc : List (List Int × Int)), (acc.map nfU).Nodup → ((rs.foldl (fun acc q => if nfU q ∈ acc.map nfU then acc else acc ++ [q]) acc).map nfU).Nodup := fun rs => by
    induction rs with
    | nil => exact fun acc h => h
    | cons r t ih =>
      intro acc h
      rw [List.foldl_cons]
      refine ih _ ?_
      split
      · exact h
      · rename_i nin
        rw [List.map_append]
        exact nodup_snoc.mpr ⟨h, nin⟩
  exact this qs [] List.nodup_nil
theorem kept_len (qs : List (List Int × Int)) : (keptU qs).length ≤ qs.length := by
  have : ∀ (rs acc : List (List Int × Int)), (rs.foldl (fun acc q => if nfU q ∈ acc.map nfU then acc else acc ++ [q]) acc).length ≤ acc.length + rs.length := fun rs => by
    induction rs with
    | nil => exact fun acc => Nat.le_refl _
    | cons r t ih =>
      intro acc
      rw [List.foldl_cons]
      refine Nat.le_trans (ih _) ?_
      split
      · rw [List.length_cons]; omega
      · rw [List.length_append, List.length_cons, List.length_cons]; show acc.length + 1 + _ ≤ _; omega
  have := this qs []
  simpa [keptU] using this
/-- what is told is a book -/
theorem made_ok {n : Nat} {qs : List (List Int × Int)} (n1 : 1 ≤ n) (n8 : n ≤ 8) (h : ∀ q, q ∈ qs → QOk q ∧ q.1.length = n) (l8 : qs.length ≤ 8) : BOk n ((keptU qs).map divU) := by
  refine ⟨n1, n8, by rw [List.length_map]; exact Nat.le_trans (kept_len qs) l8, fun q hq => ?_, ?_⟩
  · obtain ⟨p, hp, rfl⟩ := List.mem_map.mp hq
    obtain ⟨po, pl⟩ := h p (kept_sub qs p hp)
    exact ⟨po.div, by show (List.map _ p.1).length = n; rw [List.length_map]; exact pl⟩
  · have : ((keptU qs).map divU).map nfU = (keptU qs).map nfU := by
      rw [List.map_map]
      exact List.map_congr_left fun q hq => nf_div (h q (kept_sub qs q hq)).1
    rw [this]
    exact kept_nd qs
/-- of a book made before it is the same -/
theorem kept_book {qs : List (List Int × Int)} (h : (qs.map nfU).Nodup) : keptU qs = qs := by
  have : ∀ (rs acc : List (List Int × Int)), ((acc ++ rs).map nfU).Nodup → rs.foldl (fun acc q => if nfU q ∈ acc.map nfU then acc else acc ++ [q]) acc = acc ++ rs := fun rs => by
    induction rs with
    | nil => intro acc _; simp
    | cons r t ih =>
      intro acc hn
      rw [List.foldl_cons, if_neg ?_, ih (acc ++ [r]) (by rw [List.append_assoc]; exact hn), List.append_assoc]
      · rfl
      · rw [List.map_append, List.nodup_append] at hn
        exact fun z => hn.2.2 _ z _ (List.mem_map.mpr ⟨r, List.mem_cons_self, rfl⟩) rfl
  exact this qs [] h
end SB
namespace SB
open PySem L2 GxR GA RZ
/-! ### powers of wide ints -/
def CPowW (i j : Int) : Prop := 0 ≤ j ∧ j ≤ 100 ∧ i.natAbs.log2 < 10000
theorem op_powW {X : Cx} : OpR X (binaryOp .Pow) (rI CPowW fun i j => .int (i ^ j.toNat)) := opI fun i j _ _ _ _ _ hc q => PyProof.Rows.pow_int hc.1 (by
  have b : (Builtin.Int.intBits i : Nat) ≤ i.natAbs.log2 + 1 := by
    unfold Builtin.Int.intBits
    split <;> omega
  have l := hc.2.2
  have h0 := hc.1
  have h1 := hc.2.1
  have h2 : ((Builtin.Int.intBits i : Nat) : Int) ≤ 10000 := by omega
  calc ((Builtin.Int.intBits i : Nat) : Int) * j ≤ 10000 * j := Int.mul_le_mul_of_nonneg_right h2 h0
    _ ≤ 10000 * 100 := Int.mul_le_mul_of_nonneg_left h1 (by decide)
    _ ≤ 2 ^ 27 := by decide) q
theorem wide_pow {i : Int} {a : Nat} {j : Int} (ha : i.natAbs < 2 ^ a) (h0 : 0 < a) (h : a ≤ 9000) (j0 : 0 ≤ j) (j1 : j ≤ 100) : CPowW i j := ⟨j0, j1, Nat.lt_of_lt_of_le (PySem.Flt.log2_lt_of h0 ha) (by omega)⟩
/-! ### the stock: what draws come from -/
def Stk (d : Addr) (m : Nat) (H : Hp) : Prop := ∃ a b c : Int, H d = some (.lst [.int a, .int b, .int c]) ∧ 0 ≤ b ∧ b < 2 ^ 94 ∧ 0 ≤ c ∧ c ≤ m
theorem Stk.more {d : Addr} {m k : Nat} {H : Hp} (h : Stk d m H) (l : m ≤ k) : Stk d k H := let ⟨a, b, c, e, h0, h1, h2, h3⟩ := h; ⟨a, b, c, e, h0, h1, h2, by omega⟩
theorem Stk.gr {d : Addr} {m : Nat} {H H' : Hp} (h : Stk d m H) (g : Gr H H') : Stk d m H' := let ⟨a, b, c, e, r⟩ := h; ⟨a, b, c, g.keep _ _ (fun _ z => nomatch z) e, r⟩
theorem Stk.ne {d p : Addr} {m : Nat} {H : Hp} (h : Stk d m H) (n : H p = none) : p ≠ d := fun e => by
  obtain ⟨a, b, c, z, _⟩ := h
  rw [← e, n] at z
  cases z
theorem Stk.off {d p : Addr} {m : Nat} {H : Hp} {o : HO} (h : Stk d m H) (n : p ≠ d) : Stk d m (upd H p o) := let ⟨a, b, c, e, r⟩ := h; ⟨a, b, c, by rw [upd_ne (Ne.symm n)]; exact e, r⟩
theorem GrD.sk {K : PySem.W.Frag} {d : Addr} {m : Nat} {H H' : Hp} (g : GrD d H H') (h : Stk d m H) : Tst K H H' := fun a xs q => by
  obtain ⟨u, v, c, e, _⟩ := h
  exact g.seqT e q
def spStock (K : PySem.W.Frag) : Sp := fun vs H Q _ => ∃ (l : Addr) (ns : List Int) (k : Int), vs = [.ref l, .int k] ∧ SqL K H l (ns.map V.int) ∧ ns.length ≤ 63 ∧ 0 ≤ k ∧ k < 1000 ∧
  ∀ (p : Addr) (a b : Int), H p = none → 0 ≤ b → b < 2 ^ 94 → Q (.ref p) (upd H p (.lst [.int a, .int b, .int 0]))
def spPick : Sp := fun vs H Q _ => ∃ (d : Addr) (many : Int) (m : Nat), vs = [.ref d, .int many] ∧ Stk d m H ∧ m ≤ 1000000 ∧ 1 ≤ many ∧ many.natAbs < 2 ^ 8000 ∧
  ∀ (t : Int) H', 0 ≤ t → t < many → GrD d H H' → Stk d (m + 1) H' → Q (.int t) H'
section
variable {P : Program} {w : World} {K : PySem.W.Frag} {mg : Str → Option Value} {base : Heap}
theorem sc_stock : FnScope ["_law_script", "_law_spot", "_law_cell", "_law_figures"] ["_law_script", "_law_spot"] (defScope s__law_stock) := ⟨rfl, rfl, rfl, by decide +kernel, rfl, by decide +kernel, by decide +kernel⟩
theorem cl_stock (D : Df K mg "_law_stock" s__law_stock) (B : Blt mg) : Cl P w K mg base 1 "_law_stock" ["_law_script", "_law_spot"] (spStock K) := by
  refine D.cl (fun _ _ _ _ _ _ us hl => match us, hl with | [_, _], _ => rfl) fun f fd F => F.ok sc_stock (fun vs H Q E h => ?_) (fun cdv A outer s H vs Q E hr h => ?_)
  · obtain ⟨l, ns, k, rfl, _⟩ := h
    rfl
  obtain ⟨l, ns, k, rfl, hS, h63, h0, h1, q⟩ := h
  refine ⟨_, (pss_cons (ps_set (i := 2) sc_stock.nd rfl (.inl rfl) (pe_ifExp (pt_cmpR op_lt (pv 1) (pe_len (pv 0) B.len) (nomark _)) (pe_ix ix_list (pv 0) (pv 1) (fun _ _ => rfl)) (pe_op op_add (pe_op op_add (pe_op op_mul pe_int (pv 1)) (pe_op op_mul pe_int (pe_len (pv 0) B.len))) pe_int)))
    (pss_cons (ps_set (i := 3) sc_stock.nd rfl (.inl rfl) (pe_ifExp (pt_cmpR op_ge (pv 2) (pe_op op_pow pe_int pe_int) (nomark _)) (pe_op op_sub (pv 2) (pe_op op_pow pe_int pe_int)) pe_int))
    (pss_one (ps_ret (pe_lst (pa_cons (pv 3) (pa_cons (pe_op op_mod (pe_callTy call_int1 rfl B.int PyProof.Rows.boot_int (pa_cons (pe_op op_add (pe_op op_add (pe_op op_mul (pv 2) pe_int) (pe_op op_mul (pv 1) pe_int)) pe_int) pa_nil)) (pe_op op_add (pe_op op_pow pe_int pe_int) pe_int)) (pa_cons pe_int pa_nil)))))))), ?_⟩
  have hl : (ns.map V.int).length = ns.length := List.length_map _
  have hi : ∀ z a : Int, (∀ (p : Addr), H p = none → Q (.ref p) (upd H p (.lst [.int a, .int ((z * 1299709 + k * 15487469 + 4241) % (10 ^ (28 : Int).toNat + 331)), .int 0]))) := fun z a p hp => q p _ _ hp (modB _ (by decide)).1 (Int.lt_trans (modB _ (by decide)).2 (by decide))
  refine ⟨_, rfl, _, rfl, l, _, rfl, .inl hS, _, _, rfl, rfl, _, rfl, ?_⟩
  refine ite2 (fun c => ?_) (fun c => ?_)
  · have c' : k < (((ns.map V.int).length : Nat) : Int) := of_decide_eq_true c
    rw [hl] at c'
    obtain ⟨z, hz⟩ := atL h0 c'
    refine ⟨_, rfl, _, rfl, l, _, _, _, rfl, rfl, hS, hz, ?_⟩
    refine ⟨_, rfl, _, _, rfl, rfl, ⟨by decide, by decide, by decide⟩, _, _, rfl, rfl, _, rfl, ?_⟩
    refine ite2 (fun c2 => ?_) (fun c2 => ?_)
    · refine ⟨_, rfl, _, _, rfl, rfl, ⟨by decide, by decide, by decide⟩, _, _, rfl, rfl, _, rfl, _, rfl, _, _, rfl, rfl, .inr ⟨by decide, by decide⟩, _, rfl, _, _, rfl, rfl, .inr ⟨by decide, by decide⟩, _, _, rfl, rfl, _, _, rfl, rfl, .inl ⟨_, rfl, _, _, rfl, rfl, ⟨by decide, by decide, by decide⟩, _, _, rfl, rfl, _, _, rfl, rfl, (by show (0 : Int) < _; decide), (by show 3 ≤ sizeLine; decide), fun p hp => hi z _ p hp⟩⟩
    · refine ⟨_, rfl, _, rfl, _, _, rfl, rfl, .inr ⟨by decide, by decide⟩, _, rfl, _, _, rfl, rfl, .inr ⟨by decide, by decide⟩, _, _, rfl, rfl, _, _, rfl, rfl, .inl ⟨_, rfl, _, _, rfl, rfl, ⟨by decide, by decide, by decide⟩, _, _, rfl, rfl, _, _, rfl, rfl, (by show (0 : Int) < _; decide), (by show 3 ≤ sizeLine; decide), fun p hp => hi z _ p hp⟩⟩
  · refine ⟨_, rfl, _, _, rfl, rfl, .inl (by decide), _, rfl, l, _, rfl, .inl hS, _, _, rfl, rfl, .inl (by decide), _, _, rfl, rfl, _, _, rfl, rfl, ?_⟩
    refine ⟨_, rfl, _, _, rfl, rfl, ⟨by decide, by decide, by decide⟩, _, _, rfl, rfl, _, rfl, ?_⟩
    refine ite2 (fun c2 => ?_) (fun c2 => ?_)
    · refine ⟨_, rfl, _, _, rfl, rfl, ⟨by decide, by decide, by decide⟩, _, _, rfl, rfl, _, rfl, _, rfl, _, _, rfl, rfl, .inr ⟨by decide, by decide⟩, _, rfl, _, _, rfl, rfl, .inr ⟨by decide, by decide⟩, _, _, rfl, rfl, _, _, rfl, rfl, .inl ⟨_, rfl, _, _, rfl, rfl, ⟨by decide, by decide, by decide⟩, _, _, rfl, rfl, _, _, rfl, rfl, (by show (0 : Int) < _; decide), (by show 3 ≤ sizeLine; decide), fun p hp => hi _ _ p hp⟩⟩
    · refine ⟨_, rfl, _, rfl, _, _, rfl, rfl, .inr ⟨by decide, by decide⟩, _, rfl, _, _, rfl, rfl, .inr ⟨by decide, by decide⟩, _, _, rfl, rfl, _, _, rfl, rfl, .inl ⟨_, rfl, _, _, rfl, rfl, ⟨by decide, by decide, by decide⟩, _, _, rfl, rfl, _, _, rfl, rfl, (by show (0 : Int) < _; decide), (by show 3 ≤ sizeLine; decide), fun p hp => hi _ _ p hp⟩⟩
theorem sc_pick : FnScope ["_law_stock_here", "_law_many", "_law_figure", "_law_mixed"] ["_law_stock_here", "_law_many"] (defScope s__law_pick) := ⟨rfl, rfl, rfl, by decide +kernel, rfl, by decide +kernel, by decide +kernel⟩
theorem cl_pick (D : Df K mg "_law_pick" s__law_pick) (B : Blt mg) : Cl P w K mg base 1 "_law_pick" ["_law_stock_here", "_law_many"] spPick := by
  refine D.cl (fun _ _ _ _ _ _ us hl => match us, hl with | [_, _], _ => rfl) fun f fd F => F.ok sc_pick (fun vs H Q E h => ?_) (fun cdv A outer s H vs Q E hr h => ?_)
  · obtain ⟨d, many, m, rfl, _⟩ := h
    rfl
  obtain ⟨d, many, m, rfl, ⟨a, b, c, hd, hb0, hb1, hc0, hc1⟩, mm, m1, mb, q2⟩ := h
  have q : ∀ t a' c' : Int, 0 ≤ t → t < many → 0 ≤ c' → c' ≤ c + 1 → Q (.int t) (upd H d (.lst [.int a', .int b, .int c'])) := fun t a' c' t0 t1 h0 h1 => q2 t _ t0 t1 ((GrD.refl d H).set _) ⟨a', b, c', upd_same, hb0, hb1, h0, by omega⟩
  have hdL : SqL K H d [.int a, .int b, .int c] := SqL.of hd
  refine ⟨_, (pss_cons (ps_if (pt_cmpR op_gt (pe_ix ix_list (pv 0) pe_int (fun _ _ => rfl)) pe_int (nomark _)) (pss_cons (ps_set (i := 2) sc_pick.nd rfl (.inl rfl) (pe_op op_mod (pe_callTy call_int1 rfl B.int PyProof.Rows.boot_int (pa_cons (pe_ix ix_list (pv 0) pe_int (fun _ _ => rfl)) pa_nil)) (pv 1)))
      (pss_cons (ps_asg (pe_op op_fdivW (pe_ix ix_list (pv 0) pe_int (fun _ _ => rfl)) (pv 1)) (pg_sub (pv 0) pe_int set_list))
      (pss_one (ps_ret (pv 2))))) pss_nil)
    (pss_cons (ps_asg (pe_op op_add (pe_ix ix_list (pv 0) pe_int (fun _ _ => rfl)) pe_int) (pg_sub (pv 0) pe_int set_list))
    (pss_cons (ps_set (i := 3) sc_pick.nd rfl (.inl rfl) (pe_op op_mod (pe_op op_powW (pe_callTy call_int1 rfl B.int PyProof.Rows.boot_int (pa_cons (pe_op op_add (pe_ix ix_list (pv 0) pe_int (fun _ _ => rfl)) (pe_op op_mul pe_int (pe_ix ix_list (pv 0) pe_int (fun _ _ => rfl)))) pa_nil)) pe_int) (pe_op op_add (pe_op op_pow pe_int pe_int) pe_int)))
    (pss_cons (ps_set (i := 3) sc_pick.nd rfl (.inl rfl) (pe_op op_mod (pe_op op_powW (pe_callTy call_int1 rfl B.int PyProof.Rows.boot_int (pa_cons (pe_op op_add (pv 3) (pe_op op_mul (pe_op op_mul pe_int (pe_ix ix_list (pv 0) pe_int (fun _ _ => rfl))) (pe_ix ix_list (pv 0) pe_int (fun _ _ => rfl)))) pa_nil)) pe_int) (pe_op op_add (pe_op op_pow pe_int pe_int) pe_int)))
    (pss_one (ps_ret (pe_op op_mod (pe_callTy call_int1 rfl B.int PyProof.Rows.boot_int (pa_cons (pe_op op_fdivW (pv 3) pe_int) pa_nil)) (pv 1)))))))), ?_⟩
  have mw : CDivW 0 many := wide_div (b := 8000) (by omega) mb (by decide) (by decide)
  refine ⟨_, rfl, d, _, _, _, rfl, rfl, hdL, rfl, _, _, rfl, rfl, _, rfl, ?_⟩
  refine ite2 (fun c0 => ?_) (fun c0 => ?_)
  · refine ⟨_, rfl, d, _, _, _, rfl, rfl, hdL, rfl, .inl ⟨_, rfl, _, rfl, _, _, rfl, rfl, (by show (0 : Int) < many; omega), ?_⟩⟩
    refine ⟨_, rfl, d, _, _, _, rfl, rfl, hdL, rfl, _, rfl, _, _, rfl, rfl, mw, ?_⟩
    refine ⟨_, rfl, d, _, _, _, rfl, rfl, hd, rfl, _, rfl, ?_⟩
    obtain ⟨t0, t1⟩ := modB a (m := many) (by omega)
    exact q _ _ _ t0 t1 hc0 (by omega)
  · refine ⟨_, rfl, d, _, _, _, rfl, rfl, hdL, rfl, _, _, rfl, rfl, ?_⟩
    refine ⟨_, rfl, d, _, _, _, rfl, rfl, hd, rfl, ?_⟩
    refine ⟨_, rfl, d, _, _, _, rfl, rfl, SqL.of upd_same, rfl, _, rfl, d, _, _, _, rfl, rfl, SqL.of upd_same, rfl, _, _, rfl, rfl, .inl (by decide), _, _, rfl, rfl, .inl ⟨_, rfl, _, _, rfl, rfl, wide_pow (a := 100) ?_ (by decide) (by decide) (by decide) (by decide), _, _, rfl, rfl, ⟨by decide, by decide, by decide⟩, _, _, rfl, rfl, _, _, rfl, rfl, (by show (0 : Int) < _; decide), ?_⟩⟩
    · omega
    have u0 := (modB ((b + 7368787 * (c + 1)) ^ (3 : Int).toNat) (m := 10 ^ (27 : Int).toNat + 103) (by decide)).1
    have u1 := (modB ((b + 7368787 * (c + 1)) ^ (3 : Int).toNat) (m := 10 ^ (27 : Int).toNat + 103) (by decide)).2
    have u2 : (10 ^ (27 : Int).toNat + 103 : Int) < 2 ^ 94 := by decide
    have v1 : 0 ≤ 15485863 * (c + 1) * (c + 1) := Int.mul_nonneg (by omega) (by omega)
    have v2 : 15485863 * (c + 1) * (c + 1) ≤ 15485863 * 1000001 * 1000001 := Int.mul_le_mul (by omega) (by omega) (by omega) (by decide)
    have key : ∀ x : Int, 0 ≤ x → x < 2 ^ 94 → (x + 15485863 * (c + 1) * (c + 1)).natAbs < 2 ^ 100 := fun x x0 x1 => by
      generalize 15485863 * (c + 1) * (c + 1) = y at v1 v2 ⊢
      omega
    refine ⟨_, rfl, _, rfl, d, _, _, _, rfl, rfl, SqL.of upd_same, rfl, _, _, rfl, rfl, .inl (by decide), _, rfl, d, _, _, _, rfl, rfl, SqL.of upd_same, rfl, _, _, rfl, rfl, .inr ⟨by omega, by omega⟩, _, _, rfl, rfl, .inl ⟨_, rfl, _, _, rfl, rfl, wide_pow (a := 100) ?_ (by decide) (by decide) (by decide) (by decide), _, _, rfl, rfl, ⟨by decide, by decide, by decide⟩, _, _, rfl, rfl, _, _, rfl, rfl, (by show (0 : Int) < _; decide), ?_⟩⟩
    · exact key _ u0 (Int.lt_trans u1 u2)
    refine ⟨_, rfl, _, _, rfl, rfl, wide_div (b := 34) (by decide) (by decide) (by decide) (by decide), .inl ⟨_, rfl, _, rfl, _, _, rfl, rfl, (by show (0 : Int) < many; omega), ?_⟩⟩
    exact q _ _ _ (modB _ (by omega)).1 (modB _ (by omega)).2 (by omega) (by omega)
end
end SB
namespace SB
open PySem L2 GxR GA RZ
/-- a list of what comes of two tuples, two lists, side by side -/
theorem lc_zipT {K : PySem.W.Frag} {a b : Addr} {xs zs : List V} {g : TG} {te : TE} {vs : List Nat} {σ : L2.St} {H1 : Hp} {D : Addr} {Qd : Hp → Prop} (R : Nat → V → Prop) (nD : H1 D = none) (hl : xs.length = zs.length) (hs : SqT K H1 a xs) (hs2 : SqT K H1 b zs) (hz : xs.length ≤ sizeLine)
    (step : ∀ (i : Nat) x y (T : Addr) H (Kc : VK), xs[i]? = some x → zs[i]? = some y → Gr H1 H → H T = none → (∀ v H4, Gr (upd H T (.tup [x, y])) H4 → R i v → Kc v H4) → g (.ref T) (wipe σ vs) (upd H T (.tup [x, y])) fun σ2 H2 => wipe σ2 vs = wipe σ vs ∧ te σ2 H2 Kc)
    (fin : ∀ ys H, H D = some (.lst ys) → ys.length = xs.length → Gr H1 H → (∀ i y, ys[i]? = some y → R i y) → Qd H) :
    ∃ W : Nat → Nat → Hp → Prop, (∃ m, W 0 m (upd H1 D (.lst []))) ∧ ∀ i m H, W i m H → ((ItzT K a b).stop i H ∧ Qd H) ∨
      ((ItzT K a b).go i H ∧ ∃ Nx : Hp → Prop, (∀ H', Nx H' → ∃ m', m' < m ∧ W (i + 1) m' H') ∧ ∀ x H', (ItzT K a b).yld i H x H' → g x (wipe σ vs) H' fun σ2 H2 => wipe σ2 vs = wipe σ vs ∧ tYes σ2 H2 fun b H3 =>
        if b = true then te σ2 H3 fun y H4 => ∃ acc, H4 D = some (.lst acc) ∧ acc.length < sizeLine ∧ Nx (upd H4 D (.lst (acc ++ [y]))) else Nx H3) := by
  refine ⟨fun i m H => i + m = xs.length ∧ ∃ ys, H D = some (.lst ys) ∧ ys.length = i ∧ GrD D H1 H ∧ ∀ j y, ys[j]? = some y → R j y, ⟨xs.length, Nat.zero_add _, [], upd_same, rfl, (GrD.refl D H1).set _, fun j y h => by simp at h⟩, fun i m H ⟨hm, ys, hD, hy, gr, hR⟩ => ?_⟩
  have g1 := gr.to nD
  have q1 := g1.seqT hs
  have q2 := g1.seqT hs2
  cases m with
  | zero => exact .inl ⟨⟨xs, zs, q1, q2, .inl (by omega)⟩, fin ys H hD (by omega) g1 hR⟩
  | succ m =>
    have i1 : i < xs.length := by omega
    have i2 : i < zs.length := by omega
    refine .inr ⟨⟨xs, zs, xs[i], zs[i], q1, q2, List.getElem?_eq_getElem i1, List.getElem?_eq_getElem i2⟩, fun H' => ∃ ys, H' D = some (.lst ys) ∧ ys.length = i + 1 ∧ GrD D H1 H' ∧ ∀ j y, ys[j]? = some y → R j y, fun H' h => ⟨m, Nat.lt_succ_self _, by omega, h⟩, fun v H' hyl => ?_⟩
    obtain ⟨T, x, y, rfl, nT, rfl, hx, hy2⟩ := hyl
    refine step i x y T H _ (hx xs q1) (hy2 zs q2) g1 nT fun v H4 g4 rv => ?_
    have gT : Gr H (upd H T (.tup [x, y])) := (Gr.refl H).new nT _
    have hD4 : H4 D = some (.lst ys) := (gT.trans g4).keep D _ (fun _ z => nomatch z) hD
    refine ⟨ys, hD4, Nat.lt_of_lt_of_le (by omega : ys.length < xs.length) hz, ys ++ [v], upd_same, by rw [List.length_append, hy]; rfl, (gr.trans ((gT.trans g4).d D)).set _, fun j z hz2 => ?_⟩
    by_cases hj : j < ys.length
    · rw [List.getElem?_append_left hj] at hz2
      exact hR j z hz2
    · have hl2 := (List.getElem?_eq_some_iff.mp hz2).1
      rw [List.length_append] at hl2
      have hl2 : j < ys.length + 1 := hl2
      have ej : j = ys.length := by omega
      subst ej
      rw [List.getElem?_append_right (Nat.le_refl _), Nat.sub_self] at hz2
      cases hz2
      rw [hy]
      exact rv
theorem lc_zipL {K : PySem.W.Frag} {a b : Addr} {xs zs : List V} {g : TG} {te : TE} {vs : List Nat} {σ : L2.St} {H1 : Hp} {D : Addr} {Qd : Hp → Prop} (R : Nat → V → Prop) (nD : H1 D = none) (hl : xs.length = zs.length) (hs : SqL K H1 a xs) (hs2 : SqL K H1 b zs) (hz : xs.length ≤ sizeLine)
    (step : ∀ (i : Nat) x y (T : Addr) H (Kc : VK), xs[i]? = some x → zs[i]? = some y → Gr H1 H → H T = none → (∀ v H4, Gr (upd H T (.tup [x, y])) H4 → R i v → Kc v H4) → g (.ref T) (wipe σ vs) (upd H T (.tup [x, y])) fun σ2 H2 => wipe σ2 vs = wipe σ vs ∧ te σ2 H2 Kc)
    (fin : ∀ ys H, H D = some (.lst ys) → ys.length = xs.length → Gr H1 H → (∀ i y, ys[i]? = some y → R i y) → Qd H) :
    ∃ W : Nat → Nat → Hp → Prop, (∃ m, W 0 m (upd H1 D (.lst []))) ∧ ∀ i m H, W i m H → ((Itz K a b).stop i H ∧ Qd H) ∨
      ((Itz K a b).go i H ∧ ∃ Nx : Hp → Prop, (∀ H', Nx H' → ∃ m', m' < m ∧ W (i + 1) m' H') ∧ ∀ x H', (Itz K a b).yld i H x H' → g x (wipe σ vs) H' fun σ2 H2 => wipe σ2 vs = wipe σ vs ∧ tYes σ2 H2 fun b H3 =>
        if b = true then te σ2 H3 fun y H4 => ∃ acc, H4 D = some (.lst acc) ∧ acc.length < sizeLine ∧ Nx (upd H4 D (.lst (acc ++ [y]))) else Nx H3) := by
  refine ⟨fun i m H => i + m = xs.length ∧ ∃ ys, H D = some (.lst ys) ∧ ys.length = i ∧ GrD D H1 H ∧ ∀ j y, ys[j]? = some y → R j y, ⟨xs.length, Nat.zero_add _, [], upd_same, rfl, (GrD.refl D H1).set _, fun j y h => by simp at h⟩, fun i m H ⟨hm, ys, hD, hy, gr, hR⟩ => ?_⟩
  have g1 := gr.to nD
  have q1 := g1.seqL hs
  have q2 := g1.seqL hs2
  cases m with
  | zero => exact .inl ⟨⟨xs, zs, q1, q2, .inl (by omega)⟩, fin ys H hD (by omega) g1 hR⟩
  | succ m =>
    have i1 : i < xs.length := by omega
    have i2 : i < zs.length := by omega
    refine .inr ⟨⟨xs, zs, xs[i], zs[i], q1, q2, List.getElem?_eq_getElem i1, List.getElem?_eq_getElem i2⟩, fun H' => ∃ ys, H' D = some (.lst ys) ∧ ys.length = i + 1 ∧ GrD D H1 H' ∧ ∀ j y, ys[j]? = some y → R j y, fun H' h => ⟨m, Nat.lt_succ_self _, by omega, h⟩, fun v H' hyl => ?_⟩
    obtain ⟨T, x, y, rfl, nT, rfl, hx, hy2⟩ := hyl
    refine step i x y T H _ (hx xs q1) (hy2 zs q2) g1 nT fun v H4 g4 rv => ?_
    have gT : Gr H (upd H T (.tup [x, y])) := (Gr.refl H).new nT _
    have hD4 : H4 D = some (.lst ys) := (gT.trans g4).keep D _ (fun _ z => nomatch z) hD
    refine ⟨ys, hD4, Nat.lt_of_lt_of_le (by omega : ys.length < xs.length) hz, ys ++ [v], upd_same, by rw [List.length_append, hy]; rfl, (gr.trans ((gT.trans g4).d D)).set _, fun j z hz2 => ?_⟩
    by_cases hj : j < ys.length
    · rw [List.getElem?_append_left hj] at hz2
      exact hR j z hz2
    · have hl2 := (List.getElem?_eq_some_iff.mp hz2).1
      rw [List.length_append] at hl2
      have hl2 : j < ys.length + 1 := hl2
      have ej : j = ys.length := by omega
      subst ej
      rw [List.getElem?_append_right (Nat.le_refl _), Nat.sub_self] at hz2
      cases hz2
      rw [hy]
      exact rv
theorem all_true : ∀ {ys : List V}, (∀ (i : Nat) (y : V), ys[i]? = some y → y = .bl true) → ys = (List.replicate ys.length true).map V.bl
  | [], _ => rfl
  | y :: r, h => by
    have e := h 0 y rfl
    have t := all_true (ys := r) fun i y e => h (i + 1) y (by simpa using e)
    rw [List.length_cons, List.replicate_succ, List.map_cons, ← t, e]
theorem rep_all (n : Nat) : (List.replicate n true).all id = true := by
  rw [List.all_eq_true]
  intro x hx
  exact (List.mem_replicate.mp hx).2
section
variable {P : Program} {w : World} {K : PySem.W.Frag} {mg : Str → Option Value} {base : Heap}
theorem sc_alike : FnScope ["_law_thing", "_law_due", "_law_one", "_law_other"] ["_law_thing", "_law_due"] (defScope s__law_alike) := ⟨rfl, rfl, rfl, by decide +kernel, rfl, by decide +kernel, by decide +kernel⟩
theorem ok_alike {n : Nat} {f g : Addr} {fd gd : FuncData} (F : Fun K "_law_alike" "_law_alike" s__law_alike f fd) (B : Blt mg) (G : FnOk P w K mg base CX0 n g gd ["_law_thing", "_law_due"] (spSame K n)) (bG : Binds K gd ["_law_thing", "_law_due"] []) (kG : PySem.W.keepIn K (.ref g) = true) (mG : mg "_law_alike" = some (.ref g)) :
    FnOk P w K mg base CX0 (n + 1) f fd ["_law_thing", "_law_due"] (spSame K (n + 1)) := by
  refine F.ok sc_alike (fun vs H Q E h => ?_) (fun cdv A outer s H vs Q E hr h => ?_)
  · obtain ⟨x, y, rfl, _⟩ := h
    rfl
  obtain ⟨x, y, rfl, ha, q⟩ := h
  refine ⟨_, (pss_cons (ps_if (pt_cmp (pc_isN (pv 1))) (pss_one (ps_ret (pe_cmp (pc_isN (pv 0))))) pss_nil)
    (pss_cons (ps_if (pt_val (pe_callB call_isi rfl B.isi PyProof.Rows.boot_isinstance (pa_cons (pv 1) (pa_cons (pe_bltn (v := .ty "bool") rfl B.bool bootBool rfl) pa_nil)))) (pss_one (ps_ret (pe_and (pe_callB call_isi rfl B.isi PyProof.Rows.boot_isinstance (pa_cons (pv 0) (pa_cons (pe_bltn (v := .ty "bool") rfl B.bool bootBool rfl) pa_nil))) (pe_one (pe_cmpR op_eq (pv 0) (pv 1) (nomark _)))))) pss_nil)
    (pss_cons (ps_if (pt_val (pe_callB call_isi rfl B.isi PyProof.Rows.boot_isinstance (pa_cons (pv 1) (pa_cons (pe_bltn (v := .ty "int") rfl B.int PyProof.Rows.boot_int rfl) pa_nil)))) (pss_one (ps_ret (pe_and (pe_callB call_isi rfl B.isi PyProof.Rows.boot_isinstance (pa_cons (pv 0) (pa_cons (pe_bltn (v := .ty "int") rfl B.int PyProof.Rows.boot_int rfl) pa_nil))) (pe_and (pe_not (pe_callB call_isi rfl B.isi PyProof.Rows.boot_isinstance (pa_cons (pv 0) (pa_cons (pe_bltn (v := .ty "bool") rfl B.bool bootBool rfl) pa_nil)))) (pe_one (pe_cmpR op_eq (pv 0) (pv 1) (nomark _))))))) pss_nil)
    (pss_cons (ps_if (pt_val (pe_callB call_isi rfl B.isi PyProof.Rows.boot_isinstance (pa_cons (pv 1) (pa_cons (pe_bltn (v := .ty "str") rfl B.str bootStr rfl) pa_nil)))) (pss_one (ps_ret (pe_and (pe_callB call_isi rfl B.isi PyProof.Rows.boot_isinstance (pa_cons (pv 0) (pa_cons (pe_bltn (v := .ty "str") rfl B.str bootStr rfl) pa_nil))) (pe_one (pe_cmpR op_eq (pv 0) (pv 1) (nomark _)))))) pss_nil)
    (pss_cons (ps_if (PW.pt (by exact (pw_or (PW.pt (by exact (pw_and (pt_val (pe_callB call_isi rfl B.isi PyProof.Rows.boot_isinstance (pa_cons (pv 1) (pa_cons (pe_bltn (v := .ty "tuple") rfl B.tup bootTup rfl) pa_nil)))) (pw_and1 (pt_not (pt_val (pe_callB call_isi rfl B.isi PyProof.Rows.boot_isinstance (pa_cons (pv 0) (pa_cons (pe_bltn (v := .ty "tuple") rfl B.tup bootTup rfl) pa_nil))))))))) (pw_or1 (PW.pt (by exact (pw_and (pt_val (pe_callB call_isi rfl B.isi PyProof.Rows.boot_isinstance (pa_cons (pv 1) (pa_cons (pe_bltn (v := .ty "list") rfl B.lst bootLst rfl) pa_nil)))) (pw_and1 (pt_not (pt_val (pe_callB call_isi rfl B.isi PyProof.Rows.boot_isinstance (pa_cons (pv 0) (pa_cons (pe_bltn (v := .ty "list") rfl B.lst bootLst rfl) pa_nil))))))))))))) (pss_one (ps_ret pe_bl)) pss_nil)
    (pss_one (ps_ret (pe_and (pe_cmpR op_eq (pe_len (pv 0) B.len) (pe_len (pv 1) B.len) (nomark _)) (pe_one (pe_callB (cr_all rfl) rfl B.all PyProof.Rows.boot_all (pa_cons (pe_lc (own := [("_law_one", 2), ("_law_other", 3)]) (g := gTup K 2 (gCons (gName 2) (gCons (gName 3) gNil))) rfl sc_alike.nd (pi_zipA rfl B.zip (pa_cons (pv 0) (pa_cons (pv 1) pa_nil))) (blkOk_by (N := ["_law_thing", "_law_due", "_law_one", "_law_other"]) (sc := defScope s__law_alike) (by decide +kernel)) (fun _ _ _ _ _ => (pg_tup rfl (pgs_cons (pg_name (i := 2) sc_alike.nd rfl (Or.inl rfl)) (pgs_cons (pg_name (i := 3) sc_alike.nd rfl (Or.inl rfl)) pgs_nil)))) (fun _ _ _ _ _ => pts_nil) (fun _ _ _ _ _ => (pe_call G hr rfl mG kG bG .nil pass0 (pa_cons (pv 2) (pa_cons (pv 3) pa_nil))))) pa_nil))))))))))), ?_⟩
  rcases ha with ⟨rfl, hs⟩ | ⟨a, b, xs, ys, rfl, rfl, hsz, hsq, hp⟩
  · cases x with
    | non => exact ⟨_, rfl, _, rfl, iteP rfl ⟨_, rfl, qd rfl (q _ (Gr.refl _))⟩⟩
    | bl c =>
      refine ⟨_, rfl, _, rfl, iteN (fun z => nomatch z) ?_⟩
      refine ⟨_, rfl, _, _, _, _, _, rfl, .ty _, .base (.bl c), kit_ty (r := true) (by decide +kernel), _, rfl, iteT ?_⟩
      exact ⟨_, rfl, _, _, _, _, _, rfl, .ty _, .base (.bl c), kit_ty (r := true) (by decide +kernel), _, rfl, iteT ⟨_, rfl, _, rfl, rfl, qd rfl (q _ (Gr.refl _))⟩⟩
    | int i =>
      refine ⟨_, rfl, _, rfl, iteN (fun z => nomatch z) ?_⟩
      refine ⟨_, rfl, _, _, _, _, _, rfl, .ty _, .base (.int i), kit_ty (r := false) (by decide +kernel), _, rfl, iteF ?_⟩
      refine ⟨_, rfl, _, _, _, _, _, rfl, .ty _, .base (.int i), kit_ty (r := true) (by decide +kernel), _, rfl, iteT ?_⟩
      refine ⟨_, rfl, _, _, _, _, _, rfl, .ty _, .base (.int i), kit_ty (r := true) (by decide +kernel), _, rfl, iteT ?_⟩
      refine ⟨_, rfl, _, _, _, _, _, rfl, .ty _, .base (.int i), kit_ty (r := false) (by decide +kernel), _, rfl, _, rfl, iteT ⟨_, rfl, _, rfl, rfl, qd rfl (q _ (Gr.refl _))⟩⟩
    | str z =>
      refine ⟨_, rfl, _, rfl, iteN (fun z => nomatch z) ?_⟩
      refine ⟨_, rfl, _, _, _, _, _, rfl, .ty _, .base (.str z), kit_ty (r := false) (by decide +kernel), _, rfl, iteF ?_⟩
      refine ⟨_, rfl, _, _, _, _, _, rfl, .ty _, .base (.str z), kit_ty (r := false) (by decide +kernel), _, rfl, iteF ?_⟩
      refine ⟨_, rfl, _, _, _, _, _, rfl, .ty _, .base (.str z), kit_ty (r := true) (by decide +kernel), _, rfl, iteT ?_⟩
      exact ⟨_, rfl, _, _, _, _, _, rfl, .ty _, .base (.str z), kit_ty (r := true) (by decide +kernel), _, rfl, iteT ⟨_, rfl, _, rfl, rfl, qd rfl (q _ (Gr.refl _))⟩⟩
    | byt _ => cases hs
    | flt _ => cases hs
    | ref _ => cases hs
    | ty _ => cases hs
  have hl : xs.length = ys.length := Paired.length hp
  rcases hsq with ⟨h1, h2⟩ | ⟨h1, h2⟩
  · refine ⟨_, rfl, _, rfl, iteN (fun z => nomatch z) ?_⟩
    refine ⟨_, rfl, _, _, _, _, _, rfl, .ty _, tyT h2, kit_ty (r := false) (by decide +kernel), _, rfl, iteF ?_⟩
    refine ⟨_, rfl, _, _, _, _, _, rfl, .ty _, tyT h2, kit_ty (r := false) (by decide +kernel), _, rfl, iteF ?_⟩
    refine ⟨_, rfl, _, _, _, _, _, rfl, .ty _, tyT h2, kit_ty (r := false) (by decide +kernel), _, rfl, iteF ?_⟩
    refine ⟨_, rfl, _, _, _, _, _, rfl, .ty _, tyT h2, kit_ty (r := true) (by decide +kernel), _, rfl, iteT ?_⟩
    refine ⟨_, rfl, _, _, _, _, _, rfl, .ty _, tyT h1, kit_ty (r := true) (by decide +kernel), _, rfl, iteF ?_⟩
    refine ⟨_, rfl, _, _, _, _, _, rfl, .ty _, tyT h2, kit_ty (r := false) (by decide +kernel), _, rfl, iteF (iteF ?_)⟩
    refine ⟨_, rfl, _, _, rfl, .inr h1, _, rfl, _, _, rfl, .inr h2, rfl, _, rfl, iteP (congrArg (fun n : Nat => V.int n) hl) ?_⟩
    refine ⟨_, rfl, _, rfl, a, b, xs, ys, rfl, .inr ⟨h1, h2, fun D nD => lc_zipT (K := K) (fun _ y => y = .bl true) nD hl h1 h2 (by rw [hl]; exact hsz) (fun i x y T H5 Kc ex ey g5 nT kc => ?_) (fun zs H5 hD hl5 g5 hR => ?_)⟩⟩
    · have gT := g5.new nT (.tup [x, y])
      refine ⟨T, _, rfl, SqT.of upd_same, rfl, _, _, rfl, _, _, rfl, rfl, rfl, _, rfl, _, rfl, x, y, rfl, ?_, fun H6 g6 => kc _ _ g6 rfl⟩
      obtain ⟨v, u, e1, e2, al⟩ := paired_at hp i (List.getElem?_eq_some_iff.mp ey).1
      rw [ex] at e1
      rw [ey] at e2
      cases e1
      cases e2
      exact al.gr gT
    · rw [all_true hR] at hD
      exact ⟨D, _, rfl, SqL.of hD, by rw [rep_all]; exact q _ g5⟩
  · refine ⟨_, rfl, _, rfl, iteN (fun z => nomatch z) ?_⟩
    refine ⟨_, rfl, _, _, _, _, _, rfl, .ty _, tyL h2, kit_ty (r := false) (by decide +kernel), _, rfl, iteF ?_⟩
    refine ⟨_, rfl, _, _, _, _, _, rfl, .ty _, tyL h2, kit_ty (r := false) (by decide +kernel), _, rfl, iteF ?_⟩
    refine ⟨_, rfl, _, _, _, _, _, rfl, .ty _, tyL h2, kit_ty (r := false) (by decide +kernel), _, rfl, iteF ?_⟩
    refine ⟨_, rfl, _, _, _, _, _, rfl, .ty _, tyL h2, kit_ty (r := false) (by decide +kernel), _, rfl, iteF (iteF ?_)⟩
    refine ⟨_, rfl, _, _, _, _, _, rfl, .ty _, tyL h2, kit_ty (r := true) (by decide +kernel), _, rfl, iteT ?_⟩
    refine ⟨_, rfl, _, _, _, _, _, rfl, .ty _, tyL h1, kit_ty (r := true) (by decide +kernel), _, rfl, iteF ?_⟩
    refine ⟨_, rfl, _, _, rfl, .inl h1, _, rfl, _, _, rfl, .inl h2, rfl, _, rfl, iteP (congrArg (fun n : Nat => V.int n) hl) ?_⟩
    refine ⟨_, rfl, _, rfl, a, b, xs, ys, rfl, .inl ⟨h1, h2, fun D nD => lc_zipL (K := K) (fun _ y => y = .bl true) nD hl h1 h2 (by rw [hl]; exact hsz) (fun i x y T H5 Kc ex ey g5 nT kc => ?_) (fun zs H5 hD hl5 g5 hR => ?_)⟩⟩
    · have gT := g5.new nT (.tup [x, y])
      refine ⟨T, _, rfl, SqT.of upd_same, rfl, _, _, rfl, _, _, rfl, rfl, rfl, _, rfl, _, rfl, x, y, rfl, ?_, fun H6 g6 => kc _ _ g6 rfl⟩
      obtain ⟨v, u, e1, e2, al⟩ := paired_at hp i (List.getElem?_eq_some_iff.mp ey).1
      rw [ex] at e1
      rw [ey] at e2
      cases e1
      cases e2
      exact al.gr gT
    · rw [all_true hR] at hD
      exact ⟨D, _, rfl, SqL.of hD, by rw [rep_all]; exact q _ g5⟩
theorem alike_all {f : Addr} {fd : FuncData} (F : Fun K "_law_alike" "_law_alike" s__law_alike f fd) (B : Blt mg) (bF : Binds K fd ["_law_thing", "_law_due"] []) (mF : mg "_law_alike" = some (.ref f)) : ∀ n : Nat, FnOk P w K mg base CX0 n f fd ["_law_thing", "_law_due"] (spSame K n)
  | 0 => by
    have no : ∀ vs H Q E, ¬ spSame K 0 vs H Q E := fun vs H Q E h => by
      obtain ⟨x, y, _, h, _⟩ := h
      exact h
    exact ⟨fun vs H Q E h => absurd h (no vs H Q E), fun A outer s H args us vs Q E _ _ _ _ h => absurd h (no vs H Q E)⟩
  | n + 1 => ok_alike F B (alike_all F B bF mF n) bF F.kp mF
theorem cl_alike (D : Df K mg "_law_alike" s__law_alike) (B : Blt mg) (n : Nat) : Cl P w K mg base n "_law_alike" ["_law_thing", "_law_due"] (spSame K n) := by
  obtain ⟨f, fd, F, m⟩ := D.ex
  have bF : Binds K fd ["_law_thing", "_law_due"] [] := F.binds fun _ _ _ _ _ _ us hl => match us, hl with | [_, _], _ => rfl
  obtain ⟨oc, od, kV, doc, pm, an, cdv, ct, osl, e, lk, hcd⟩ := F.ex
  exact ⟨⟨f, fd, alike_all F B bF m n, m, F.kp, bF⟩, fun g hg => by
    rw [m] at hg
    cases hg
    exact ⟨fd, alike_all F B bF m n, oc, od, osl, lk⟩⟩
end
end SB
namespace SB
open PySem L2 GxR GA RZ
/-! ### two rows, cleared by a place: side by side or not -/
def rowQ (q : List Int × Int) : List Int := q.1 ++ [q.2]
def atR (l : List Int) (k : Nat) : Int := l.getD k 0
theorem atR_get {l : List Int} {k : Nat} {z : Int} (h : l[k]? = some z) : atR l k = z := by
  unfold atR
  rw [List.getD_eq_getElem?_getD, h]
  rfl
theorem atR_map (c : Int) (l : List Int) (k : Nat) : atR (l.map fun z => c * z) k = c * atR l k := by
  unfold atR
  rw [List.getD_eq_getElem?_getD, List.getD_eq_getElem?_getD, List.getElem?_map]
  cases l[k]? with
  | none => simp
  | some z => rfl
theorem rowQ_sc (c : Int) (q : List Int × Int) : rowQ (scU c q) = (rowQ q).map fun z => c * z := by
  unfold rowQ scU
  rw [List.map_append]
  rfl
theorem rowQ_ext {p q : List Int × Int} (hl : p.1.length = q.1.length) (h : ∀ k, atR (rowQ p) k = atR (rowQ q) k) : p = q := by
  have e : rowQ p = rowQ q := by
    refine List.ext_getElem? fun k => ?_
    have hk := h k
    unfold atR at hk
    rw [List.getD_eq_getElem?_getD, List.getD_eq_getElem?_getD] at hk
    have lp : (rowQ p).length = (rowQ q).length := by
      unfold rowQ
      rw [List.length_append, List.length_append, hl]
      rfl
    by_cases c : k < (rowQ p).length
    · rw [List.getElem?_eq_getElem c, List.getElem?_eq_getElem (by omega)] at hk ⊢
      exact congrArg some hk
    · rw [List.getElem?_eq_none (by omega), List.getElem?_eq_none (by omega)]
  unfold rowQ at e
  obtain ⟨e1, e2⟩ := List.append_inj e hl
  exact Prod.ext e1 (List.cons.inj e2).1
/-- what is left of the other row at place k, cleared by the own one's place c -/
def redR (own other : List Int) (c k : Nat) : Int := atR other k * atR own c - atR own k * atR other c
theorem rowQ_nz {q : List Int × Int} (h : NonZ q.1) : ∃ k, atR (rowQ q) k ≠ 0 := by
  obtain ⟨z, hz, nz⟩ := h.ex
  obtain ⟨k, hk⟩ := List.getElem?_of_mem hz
  refine ⟨k, ?_⟩
  rw [atR_get (z := z) (by unfold rowQ; rw [List.getElem?_append_left (List.getElem?_eq_some_iff.mp hk).1]; exact hk)]
  exact nz
theorem red_iff {own other : List Int × Int} (hp : QOk own) (hq : QOk other) (hl : own.1.length = other.1.length) {c : Nat} (hc : atR (rowQ own) c ≠ 0) : (∀ k, redR (rowQ own) (rowQ other) c k = 0) ↔ nfU own = nfU other := by
  constructor
  · intro h
    have b0 : atR (rowQ other) c ≠ 0 := fun e => by
      obtain ⟨k, hk⟩ := rowQ_nz hq.nz
      have := h k
      unfold redR at this
      rw [e, Int.mul_zero, Int.sub_zero] at this
      rcases Int.mul_eq_zero.mp this with z | z
      · exact hk z
      · exact hc z
    refine nf_same hp hq (u := atR (rowQ own) c) (v := atR (rowQ other) c) hc b0 (rowQ_ext ?_ fun k => ?_)
    · unfold scU
      rw [List.length_map, List.length_map]
      exact hl
    · rw [rowQ_sc, rowQ_sc, atR_map, atR_map]
      have := h k
      unfold redR at this
      rw [Int.mul_comm (atR (rowQ other) c), Int.mul_comm (atR (rowQ own) c)]
      omega
  · intro e k
    obtain ⟨u, v, u0, v0, e⟩ := nf_of hp.nz hq.nz e
    have at' : ∀ j, v * atR (rowQ own) j = u * atR (rowQ other) j := fun j => by
      have := congrArg (fun q => atR (rowQ q) j) e
      simp only [rowQ_sc, atR_map] at this
      exact this
    have : u * redR (rowQ own) (rowQ other) c k = 0 := by
      unfold redR
      have h1 := at' k
      have h2 := at' c
      rw [Int.mul_sub, ← Int.mul_assoc, ← Int.mul_assoc, ← h1]
      have : u * atR (rowQ own) k * atR (rowQ other) c = atR (rowQ own) k * (v * atR (rowQ own) c) := by
        rw [h2]
        grind
      rw [this]
      grind
    rcases Int.mul_eq_zero.mp this with z | z
    · exact absurd z u0
    · exact z
/-- how many rows of two are left in steps: none alike 2, alike 1 -/
def rkU (p q : List Int × Int) : Nat := if nfU p = nfU q then 1 else 2
/-- as it stands behind i columns: rows left, rows found -/
def ClrAt (p q : List Int × Int) (i : Nat) (rows found : List (List Int)) : Prop :=
  (rows = [rowQ p, rowQ q] ∧ found = [] ∧ ∀ j, j < i → atR (rowQ p) j = 0 ∧ atR (rowQ q) j = 0) ∨
  (∃ own other c r, ((own = p ∧ other = q) ∨ (own = q ∧ other = p)) ∧ atR (rowQ own) c ≠ 0 ∧ rows = [r] ∧ r.length = (rowQ own).length ∧ (∀ k, atR r k = redR (rowQ own) (rowQ other) c k) ∧ found = [rowQ own] ∧ ∀ j, j < i → atR r j = 0) ∨
  (rows = [] ∧ found.length = 2 ∧ nfU p ≠ nfU q)
theorem ClrAt.fin {p q : List Int × Int} (hp : QOk p) (hq : QOk q) (hl : p.1.length = q.1.length) {rows found : List (List Int)} (h : ClrAt p q (p.1.length + 1) rows found) : found.length = rkU p q := by
  have lr : ∀ x : List Int × Int, (rowQ x).length = x.1.length + 1 := fun x => by
    unfold rowQ
    rw [List.length_append]
    rfl
  have out : ∀ (l : List Int) k, l.length ≤ k → atR l k = 0 := fun l k h => by
    unfold atR
    rw [List.getD_eq_getElem?_getD, List.getElem?_eq_none h]
    rfl
  unfold rkU
  rcases h with ⟨_, _, h⟩ | ⟨own, other, c, r, ho, hc, _, rl, hr, rfl, h⟩ | ⟨_, h2, h3⟩
  · obtain ⟨k, hk⟩ := rowQ_nz hp.nz
    by_cases c : k < p.1.length + 1
    · exact absurd (h k c).1 hk
    · exact absurd (out _ _ (by rw [lr]; omega)) hk
  · have oo : QOk own ∧ QOk other ∧ own.1.length = other.1.length ∧ own.1.length = p.1.length ∧ (nfU own = nfU other ↔ nfU p = nfU q) := by
      rcases ho with ⟨rfl, rfl⟩ | ⟨rfl, rfl⟩
      · exact ⟨hp, hq, hl, rfl, Iff.rfl⟩
      · exact ⟨hq, hp, hl.symm, hl.symm, eq_comm⟩
    obtain ⟨o1, o2, o3, o4, o5⟩ := oo
    rw [if_pos (o5.mp ((red_iff o1 o2 o3 hc).mp fun k => ?_))]
    · rfl
    · rw [← hr]
      by_cases c : k < p.1.length + 1
      · exact h k c
      · exact out _ _ (by rw [rl, lr]; omega)
  · rw [if_neg h3]
    exact h2
end SB
namespace SB
open PySem L2 GxR GA RZ
theorem atR_out {l : List Int} {k : Nat} (h : l.length ≤ k) : atR l k = 0 := by
  unfold atR
  rw [List.getD_eq_getElem?_getD, List.getElem?_eq_none h]
  rfl
theorem rowQ_len (q : List Int × Int) : (rowQ q).length = q.1.length + 1 := by
  unfold rowQ
  rw [List.length_append]
  rfl
/-- a row cleared by the own one's place i -/
def redL (own l : List Int) (i : Nat) : List Int := (List.range l.length).map fun j => redR own l i j
theorem redL_len (own l : List Int) (i : Nat) : (redL own l i).length = l.length := by
  unfold redL
  rw [List.length_map, List.length_range]
theorem redL_at {own l : List Int} (h : own.length = l.length) (i k : Nat) : atR (redL own l i) k = redR own l i k := by
  by_cases c : k < l.length
  · refine atR_get ?_
    unfold redL
    rw [List.getElem?_map, List.getElem?_range c]
    rfl
  · rw [atR_out (by rw [redL_len]; omega)]
    unfold redR
    rw [atR_out (l := l) (k := k) (by omega), atR_out (l := own) (k := k) (by omega), Int.zero_mul, Int.zero_mul]
    rfl
theorem red_own (own l : List Int) (i : Nat) : redR own l i i = 0 := by
  unfold redR
  rw [Int.mul_comm]
  exact Int.sub_self _
theorem ClrAt.skip {p q : List Int × Int} {i : Nat} {rows found : List (List Int)} (h : ClrAt p q i rows found) (z : ∀ l, l ∈ rows → atR l i = 0) : ClrAt p q (i + 1) rows found := by
  rcases h with ⟨rfl, h2, h3⟩ | ⟨own, other, c, r, ho, hc, rfl, rl, hr, hf, h3⟩ | h
  · refine .inl ⟨rfl, h2, fun j hj => ?_⟩
    by_cases e : j = i
    · rw [e]
      exact ⟨z _ (by simp), z _ (by simp)⟩
    · exact h3 j (by omega)
  · refine .inr (.inl ⟨own, other, c, r, ho, hc, rfl, rl, hr, hf, fun j hj => ?_⟩)
    by_cases e : j = i
    · rw [e]
      exact z _ (by simp)
    · exact h3 j (by omega)
  · exact .inr (.inr h)
theorem ClrAt.go {p q : List Int × Int} (hp : QOk p) (hq : QOk q) (hl : p.1.length = q.1.length) {i : Nat} {rows found : List (List Int)} (h : ClrAt p q i rows found) {k : Nat} {w : List Int} (hk : rows[k]? = some w) (nz : atR w i ≠ 0) :
    ClrAt p q (i + 1) ((rows.take k ++ rows.drop (k + 1)).map fun l => redL w l i) (found ++ [w]) := by
  have lr : (rowQ p).length = (rowQ q).length := by rw [rowQ_len, rowQ_len, hl]
  rcases h with ⟨rfl, rfl, h3⟩ | ⟨own, other, c, r, ho, hc, rfl, rl, hr, rfl, h3⟩ | ⟨rfl, _, _⟩
  · match k, hk with
    | 0, hk =>
      cases hk
      refine .inr (.inl ⟨p, q, i, redL (rowQ p) (rowQ q) i, .inl ⟨rfl, rfl⟩, nz, rfl, by rw [redL_len, lr], fun k => redL_at lr i k, rfl, fun j hj => ?_⟩)
      rw [redL_at lr]
      by_cases e : j = i
      · rw [e]
        exact red_own _ _ _
      · obtain ⟨a, b⟩ := h3 j (by omega)
        unfold redR
        rw [a, b, Int.zero_mul, Int.zero_mul]
        rfl
    | 1, hk =>
      cases hk
      refine .inr (.inl ⟨q, p, i, redL (rowQ q) (rowQ p) i, .inr ⟨rfl, rfl⟩, nz, rfl, by rw [redL_len, lr], fun k => redL_at lr.symm i k, rfl, fun j hj => ?_⟩)
      rw [redL_at lr.symm]
      by_cases e : j = i
      · rw [e]
        exact red_own _ _ _
      · obtain ⟨a, b⟩ := h3 j (by omega)
        unfold redR
        rw [a, b, Int.zero_mul, Int.zero_mul]
        rfl
    | k + 2, hk => simp at hk
  · match k, hk with
    | 0, hk =>
      cases hk
      refine .inr (.inr ⟨rfl, rfl, fun e => nz ?_⟩)
      rw [hr]
      rcases ho with ⟨rfl, rfl⟩ | ⟨rfl, rfl⟩
      · exact (red_iff hp hq hl hc).mpr e i
      · exact (red_iff hq hp hl.symm hc).mpr e.symm i
    | k + 1, hk => simp at hk
  · simp at hk
/-- two rows are there only as they were given -/
theorem ClrAt.two {p q : List Int × Int} {i : Nat} {rows found : List (List Int)} (h : ClrAt p q i rows found) (l : 2 ≤ rows.length) : rows = [rowQ p, rowQ q] := by
  rcases h with ⟨rfl, _, _⟩ | ⟨own, other, c, r, ho, hc, rfl, _⟩ | ⟨rfl, _, _⟩
  · rfl
  · exact absurd l (by show ¬ 2 ≤ 1; decide)
  · exact absurd l (by show ¬ 2 ≤ 0; decide)
theorem ClrAt.len {p q : List Int × Int} (hl : p.1.length = q.1.length) {i : Nat} {rows found : List (List Int)} (h : ClrAt p q i rows found) : rows.length ≤ 2 ∧ found.length ≤ 2 ∧ ∀ l, l ∈ rows → l.length = p.1.length + 1 := by
  rcases h with ⟨rfl, rfl, _⟩ | ⟨own, other, c, r, ho, hc, rfl, rl, _, rfl, _⟩ | ⟨rfl, h, _⟩
  · refine ⟨Nat.le_refl _, Nat.zero_le _, fun l hm => ?_⟩
    simp only [List.mem_cons, List.not_mem_nil, or_false] at hm
    rcases hm with rfl | rfl
    · exact rowQ_len _
    · rw [rowQ_len, hl]
  · refine ⟨by show 1 ≤ 2; decide, by show 1 ≤ 2; decide, fun l hm => ?_⟩
    rw [List.mem_singleton.mp hm, rl, rowQ_len]
    rcases ho with ⟨rfl, rfl⟩ | ⟨rfl, rfl⟩
    · rfl
    · rw [hl]
  · exact ⟨Nat.zero_le _, by omega, fun l hm => by cases hm⟩
end SB
namespace SB
open PySem L2 GxR GA RZ
theorem GrL.lst {H H' : Hp} (g : Gr H H') {a : Addr} {xs : List V} (h : H a = some (.lst xs)) : H' a = some (.lst xs) := g.keep a _ (fun _ z => nomatch z) h
theorem GrDL.lst {d : Addr} {H H' : Hp} (g : GrD d H H') {a : Addr} {xs : List V} (n : a ≠ d) (h : H a = some (.lst xs)) : H' a = some (.lst xs) := g.keep a _ n (fun _ z => nomatch z) h
def rLstOf (K : PySem.W.Frag) : List V → Hp → VK → Prop := fun xs H Q => ∃ p ys, xs = [V.ref p] ∧ (SqL K H p ys ∨ SqT K H p ys) ∧ ∀ (l : Addr), H l = none → Q (V.ref l) (upd H l (.lst ys))
theorem cr_listK {X : Cx} : CallR X (.type "list") (rLstOf X.K) := call_list_of
/-- a list of ints, not the one at F -/
def LiF (F : Addr) (H : Hp) (v : V) (l : List Int) : Prop := ∃ b, v = .ref b ∧ b ≠ F ∧ H b = some (.lst (l.map V.int))
theorem LiF.gr {F : Addr} {H H' : Hp} {v : V} {l : List Int} (h : LiF F H v l) (g : Gr H H') : LiF F H' v l := let ⟨b, e, n, h⟩ := h; ⟨b, e, n, GrL.lst g h⟩
theorem LiF.gd {F : Addr} {H H' : Hp} {v : V} {l : List Int} (h : LiF F H v l) (g : GrD F H H') : LiF F H' v l := let ⟨b, e, n, h⟩ := h; ⟨b, e, n, GrDL.lst g n h⟩
theorem filt_snoc (f : Nat → Bool) (j : Nat) : (List.range (j + 1)).filter f = (List.range j).filter f ++ (if f j = true then [j] else []) := by
  rw [List.range_succ, List.filter_append]
  cases h : f j <;> simp [h]
theorem cut_upto (xs : List V) (k : Nat) : cutV xs none (some (k : Int)) = xs.take k := by
  unfold cutV
  rw [HT.sIx_nat, HT.sIx_none, List.drop_zero, Nat.sub_zero]
  by_cases h : k ≤ xs.length
  · rw [Nat.min_eq_left h]
  · rw [Nat.min_eq_right (by omega), List.take_of_length_le (Nat.le_refl _), List.take_of_length_le (by omega)]
theorem neq_dec (z : Int) : (!decide (V.int z = V.int 0)) = decide (z ≠ 0) := by
  by_cases c : z = 0
  · subst c
    rfl
  · rw [decide_eq_false (fun e => c (by injection e)), decide_eq_true c]
    rfl
theorem at0_int {l : List Int} {k : Nat} (h : k < l.length) : atI (l.map V.int) (0 + (k : Int)) = some (.int (atR l k)) := by
  refine at_of (Int.zero_add _) ?_
  rw [List.getElem?_map, List.getElem?_eq_getElem h, Option.map_some]
  exact congrArg (fun z => some (V.int z)) (atR_get (List.getElem?_eq_getElem h)).symm
theorem atR_wide {l : List Int} (h : ∀ z, z ∈ l → z.natAbs < 2 ^ 10000) (k : Nat) : (atR l k).natAbs < 2 ^ 10000 := by
  by_cases c : k < l.length
  · rw [atR_get (List.getElem?_eq_getElem c)]
    exact h _ (List.getElem_mem c)
  · rw [atR_out (by omega)]
    exact Nat.pow_pos (by decide)
theorem rowQ_wide {q : List Int × Int} (h : QOk q) : ∀ z, z ∈ rowQ q → z.natAbs < 2 ^ 10000 := fun z hz => by
  rcases List.mem_append.mp hz with y | y
  · exact h.ns z y
  · rw [List.mem_singleton.mp y]
    exact h.wl
section
variable {P : Program} {w : World} {K : PySem.W.Frag} {mg : Str → Option Value} {base : Heap}
def spClear (K : PySem.W.Frag) : Sp := fun vs H Q _ => ∃ a va vb p q, vs = [.ref a, .int ((p.1.length + 1 : Nat) : Int)] ∧ SqL K H a [va, vb] ∧ SiV K H va (rowQ p) ∧ SiV K H vb (rowQ q) ∧ QOk p ∧ QOk q ∧ p.1.length = q.1.length ∧ p.1.length ≤ 8 ∧
  ∀ t f r xs H', Gr H H' → SqT K H' t [.ref f, r] → SqL K H' f xs → xs.length = rkU p q → Q (.ref t) H'
theorem sc_clear : FnScope ["_law_rows", "_law_many", "_law_row", "_law_found", "_law_at", "_law_place", "_law_first", "_law_own", "_law_rest", "_law_k"] ["_law_rows", "_law_many"] (defScope s__law_clear) := ⟨rfl, rfl, rfl, by decide +kernel, rfl, by decide +kernel, by decide +kernel⟩
theorem cl_clear (D : Df K mg "_law_clear" s__law_clear) (B : Blt mg) (ben : mg "enumerate" = none) : Cl P w K mg base 1 "_law_clear" ["_law_rows", "_law_many"] (spClear K) := by
  refine D.cl (fun _ _ _ _ _ _ us hl => match us, hl with | [_, _], _ => rfl) fun f fd F => F.ok sc_clear (fun vs H Q E h => ?_) (fun cdv A outer s H vs Q E hr h => ?_)
  · obtain ⟨a, va, vb, p, q, rfl, _⟩ := h
    rfl
  obtain ⟨a, va, vb, p, q, rfl, hS, ⟨a1, rfl, h1⟩, ⟨a2, rfl, h2⟩, hp, hq, hl, l8, hQ⟩ := h
  refine ⟨_, (pss_cons (ps_par (i := 0) (j := 3) rfl sc_clear.nd rfl rfl (by decide) rfl rfl (pa_cons (pe_lc (own := [("_law_row", 2)]) (g := gName 2) rfl sc_clear.nd (pi_list (pv 0)) (blkOk_by (N := ["_law_rows", "_law_many", "_law_row", "_law_found", "_law_at", "_law_place", "_law_first", "_law_own", "_law_rest", "_law_k"]) (sc := defScope s__law_clear) (by decide +kernel)) (fun _ _ _ _ _ => (pg_name (i := 2) sc_clear.nd rfl (Or.inl rfl))) (fun _ _ _ _ _ => pts_nil) (fun _ _ _ _ _ => (pe_callTy (r := rLstOf K) cr_listK rfl B.lst bootLst (pa_cons (pv 2) pa_nil)))) (pa_cons (pe_lst pa_nil) pa_nil)) rfl)
    (pss_cons (ps_for PassesOwn.never rfl (pi_range1 rfl B.rng (pa_cons (pv 1) pa_nil)) (pg_name (i := 4) sc_clear.nd rfl (Or.inr rfl))
      (pss_cons (ps_setLc (i := 6) (own := [("_law_place", 5), ("_law_row", 2)]) (g := gTup K 2 (gCons (gName 5) (gCons (gName 2) gNil))) rfl sc_clear.nd rfl rfl rfl (pi_enum rfl ben (pa_cons (pv 0) pa_nil)) (blkOk_by (N := ["_law_rows", "_law_many", "_law_row", "_law_found", "_law_at", "_law_place", "_law_first", "_law_own", "_law_rest", "_law_k"]) (sc := defScope s__law_clear) (by decide +kernel)) (fun _ _ _ _ _ => (pg_tup rfl (pgs_cons (pg_name (i := 5) sc_clear.nd rfl (Or.inl rfl)) (pgs_cons (pg_name (i := 2) sc_clear.nd rfl (Or.inl rfl)) pgs_nil)))) (fun _ _ _ _ _ => pts_one (pt_cmpR op_ne (pe_ix (r := rIxL K) ix_list (pv 2) (pv 4) (fun _ _ => rfl)) pe_int (nomark _))) (fun _ _ _ _ _ => (pv 5)))
      (pss_one (ps_if (pt_cmpR (op_neD hr.units) (pv 6) (pe_lst pa_nil) (nomark _)) (pss_cons (ps_asg (pe_tup (pa_cons (pe_ix ix_list (pv 0) (pe_ix ix_list (pv 6) pe_int (fun _ _ => rfl)) (fun _ _ => rfl)) (pa_cons (pe_op op_cat (pe_slice sl_list (pv 0) po_none (po_some (pe_ix ix_list (pv 6) pe_int (fun _ _ => rfl)))) (pe_slice sl_list (pv 0) (po_some (pe_op op_add (pe_ix ix_list (pv 6) pe_int (fun _ _ => rfl)) pe_int)) po_none)) pa_nil))) (pg_tup rfl (pgs_cons (pg_name (i := 7) sc_clear.nd rfl (Or.inr rfl)) (pgs_cons (pg_name (i := 8) sc_clear.nd rfl (Or.inl rfl)) pgs_nil))))
        (pss_cons (ps_set (i := 0) sc_clear.nd rfl (.inl rfl) (pe_lst pa_nil))
        (pss_cons (ps_for PassesOwn.never rfl (pi_list (pv 8)) (pg_name (i := 2) sc_clear.nd rfl (Or.inr rfl))
          (pss_one (ps_expr (pe_bm PySem.F.plainAttrs_list PySem.F.slot_list_append PySem.F.type_list_append mt_append (pv 0) (pa_cons (pe_lc (own := [("_law_k", 9)]) (g := gName 9) rfl sc_clear.nd (pi_range1 rfl B.rng (pa_cons (pe_len (pv 2) B.len) pa_nil)) (blkOk_by (N := ["_law_rows", "_law_many", "_law_row", "_law_found", "_law_at", "_law_place", "_law_first", "_law_own", "_law_rest", "_law_k"]) (sc := defScope s__law_clear) (by decide +kernel)) (fun _ _ _ _ _ => (pg_name (i := 9) sc_clear.nd rfl (Or.inl rfl))) (fun _ _ _ _ _ => pts_nil) (fun _ _ _ _ _ => (pe_op op_sub (pe_op op_mulW (pe_ix (r := rIxL K) ix_list (pv 2) (pv 9) (fun _ _ => rfl)) (pe_ix (r := rIxL K) ix_list (pv 7) (pv 4) (fun _ _ => rfl))) (pe_op op_mulW (pe_ix (r := rIxL K) ix_list (pv 7) (pv 9) (fun _ _ => rfl)) (pe_ix (r := rIxL K) ix_list (pv 2) (pv 4) (fun _ _ => rfl)))))) pa_nil)))))
        (pss_one (ps_expr (pe_bm PySem.F.plainAttrs_list PySem.F.slot_list_append PySem.F.type_list_append mt_append (pv 3) (pa_cons (pv 7) pa_nil))))))) pss_nil))))
    (pss_one (ps_ret (pe_tup (pa_cons (pv 3) (pa_cons (pv 0) pa_nil))))))), ?_⟩
  have lp := rowQ_len p
  have lq := rowQ_len q
  refine ⟨_, rfl, a, rfl, ⟨_, hS⟩, fun D0 nD0 => lc_list (xs := [.ref a1, .ref a2]) (fun i H' => GrD D0 H H' ∧ ∃ ys, H' D0 = some (.lst ys) ∧ ys.length = i ∧ Paired (LiF D0 H') ys ([rowQ p, rowQ q].take i)) ⟨(GrD.refl D0 H).set _, [], upd_same, rfl, .nil⟩ (fun i H' _ h => ?_) (fun i x H' hx h => ?_) (fun H' h => ?_)⟩
  · exact (h.1.to nD0).seqL hS
  · obtain ⟨g, ys, hD, hy, hp⟩ := h
    have gg := g.to nD0
    have hr' : ∃ (b : Addr) (l : List Int), x = .ref b ∧ SqT K H' b (l.map V.int) ∧ ([rowQ p, rowQ q] : List (List Int))[i]? = some l ∧ l.length ≤ 9 := by
      match i, hx with
      | 0, hx =>
        cases hx
        exact ⟨a1, _, rfl, gg.seqT h1, rfl, by omega⟩
      | 1, hx =>
        cases hx
        exact ⟨a2, _, rfl, gg.seqT h2, rfl, by omega⟩
      | i + 2, hx => simp at hx
    obtain ⟨b, l, rfl, hb, el, ll⟩ := hr'
    refine ⟨rfl, ?_⟩
    unfold L2.tYes
    refine iteT ?_
    refine ⟨_, rfl, b, _, rfl, .inr hb, fun pn nn => ?_⟩
    have r1 := (Gr.refl H').new nn (.lst (l.map V.int))
    have nD : pn ≠ D0 := fun e => by rw [e, hD] at nn; cases nn
    have hD1 : (upd H' pn (.lst (l.map V.int))) D0 = some (.lst ys) := by rw [upd_ne (Ne.symm nD)]; exact hD
    have new : LiF D0 (upd H' pn (.lst (l.map V.int))) (.ref pn) l := ⟨pn, rfl, nD, upd_same⟩
    have hp1 : Paired (LiF D0 (upd H' pn (.lst (l.map V.int)))) ys ([rowQ p, rowQ q].take i) := Paired.mapP hp fun _ _ z => z.gr r1
    have g1 := g.gr r1
    generalize upd H' pn (.lst (l.map V.int)) = H1 at g1 hD1 new hp1 ⊢
    have gd : GrD D0 H1 (upd H1 D0 (.lst (ys ++ [.ref pn]))) := (GrD.refl D0 H1).set _
    refine ⟨ys, hD1, small1000 (by have := (List.getElem?_eq_some_iff.mp hx).1; have h2 : i < 2 := this; omega), g1.trans gd, ys ++ [.ref pn], upd_same, by rw [List.length_append, hy]; rfl, ?_⟩
    rw [List.take_add_one, el, Option.toList_some]
    exact paired_app (Paired.mapP hp1 fun _ _ z => z.gd gd) (.cons (new.gd gd) .nil)
  obtain ⟨g0, rvs, hR, hy, hpr⟩ := h
  have gH := g0.to nD0
  refine ⟨szN (by show 0 ≤ 1000000; decide), fun F nF => ⟨_, _, rfl, ?_⟩⟩
  have rF := (Gr.refl H').new nF (.lst [])
  have eF : (upd H' F (.lst [])) F = some (.lst []) := upd_same
  have off : ∀ {v : V} {l : List Int}, LiF D0 H' v l → LiF F (upd H' F (.lst [])) v l := fun h => by
    obtain ⟨b, e, n, hb⟩ := h
    exact ⟨b, e, ne_of_none hb nF, GrL.lst rF hb⟩
  have hpF : Paired (LiF F (upd H' F (.lst []))) rvs [rowQ p, rowQ q] := Paired.mapP hpr fun _ _ z => off z
  have nFD : D0 ≠ F := ne_of_none hR nF
  have hR1 := GrL.lst rF hR
  have gF := rF.d F
  generalize upd H' F (.lst []) = H1 at eF hpF hR1 gF rF ⊢
  clear off rF hpr hR g0 hy
  refine ⟨_, rfl, _, rfl, by omega, by omega, for_range (lo := 0) (fun i σ H' => ∃ (R : Addr) (rvs fvs : List V) (rows found : List (List Int)) (c2 c4 c5 c6 c7 c8 c9 : Option V), σ = [some (.ref R), some (.int ((p.1.length + 1 : Nat) : Int)), c2, some (.ref F), c4, c5, c6, c7, c8, c9] ∧ GrD F H1 H' ∧ R ≠ F ∧ H' R = some (.lst rvs) ∧ Paired (LiF F H') rvs rows ∧ H' F = some (.lst fvs) ∧ fvs.length = found.length ∧ ClrAt p q i rows found)
    ⟨D0, rvs, [], [rowQ p, rowQ q], [], _, _, _, _, _, _, _, rfl, GrD.refl F H1, nFD, hR1, hpF, eF, rfl, .inl ⟨rfl, rfl, fun j hj => absurd hj (Nat.not_lt_zero _)⟩⟩ (fun i σ H2 hi h => ?_) (fun σ H2 h => ?_)⟩
  · obtain ⟨R, rvs, fvs, rows, found, c2, c4, c5, c6, c7, c8, c9, rfl, g2, nR, hR2, hp2, hF2, lf, clr⟩ := h
    have i9 : i < p.1.length + 1 := by
      rw [Int.toNat_natCast] at hi
      exact hi
    obtain ⟨rl2, fl2, rlen⟩ := clr.len hl
    have lrv : rvs.length = rows.length := paired_len hp2
    refine ⟨_, rfl, R, rvs, rfl, SqL.of hR2, fun D nD => lc_it (walk_enum (xs := rvs)) (fun j H' => GrD D H2 H' ∧ H' D = some (.lst ((((List.range j).filter fun k => decide (atR (rows.getD k []) i ≠ 0)).map fun k => ((k : Nat) : Int)).map V.int))) ⟨(GrD.refl D H2).set _, upd_same⟩ (fun j H' _ h => (h.1.to nD).seqL (SqL.of hR2)) (fun j x H' H'' hj h y => ?_) (fun H' h => ?_)⟩
    · obtain ⟨g, hD⟩ := h
      obtain ⟨T, x1, x2, rfl, nT, rfl, ex1, ex2⟩ := y
      cases ex1
      obtain ⟨l, el, b, rfl, nb, hb⟩ := paired_get hp2 ex2
      have gT := (g.to nD).new nT (.tup [.int ((j : Nat) : Int), .ref b])
      have nTD : T ≠ D := fun e => by rw [e, hD] at nT; cases nT
      have hb' := GrL.lst gT hb
      have hD' : (upd H' T (.tup [.int ((j : Nat) : Int), .ref b])) D = some (.lst ((((List.range j).filter fun k => decide (atR (rows.getD k []) i ≠ 0)).map fun k => ((k : Nat) : Int)).map V.int)) := by rw [upd_ne (Ne.symm nTD)]; exact hD
      have gD := g.gr ((Gr.refl H').new nT (.tup [.int ((j : Nat) : Int), .ref b]))
      have ll : l.length = p.1.length + 1 := rlen l (List.mem_of_getElem? el)
      refine ⟨T, _, rfl, SqT.of upd_same, rfl, _, _, rfl, _, _, rfl, rfl, rfl, ?_⟩
      generalize upd H' T (.tup [.int ((j : Nat) : Int), .ref b]) = H3 at hb' hD' gD ⊢
      refine ⟨_, rfl, _, rfl, b, _, _, _, rfl, rfl, SqL.of hb', at0_int (by omega), rfl, _, rfl, ?_⟩
      have eg : rows.getD j [] = l := by
        rw [List.getD_eq_getElem?_getD, el]
        rfl
      rw [neq_dec]
      by_cases cz : atR l i = 0
      · refine iteN (fun z => z cz) ⟨gD, ?_⟩
        rw [filt_snoc, if_neg (by rw [eg, decide_eq_false (fun z => z cz)]; exact Bool.false_ne_true), List.append_nil]
        exact hD'
      · refine iteP cz ⟨_, rfl, _, hD', ?_, gD.set _, ?_⟩
        · rw [List.length_map, List.length_map]
          exact small1000 (by have := List.length_filter_le (fun k => decide (atR (rows.getD k []) i ≠ 0)) (List.range j); rw [List.length_range] at this; omega)
        · rw [filt_snoc, if_pos (by rw [eg]; exact decide_eq_true cz), upd_same, List.map_append, List.map_append]
          rfl
    obtain ⟨g3, hD⟩ := h
    have k3 := g3.to nD
    have hR3 := GrL.lst k3 hR2
    have hF3 := GrL.lst k3 hF2
    have hp3 : Paired (LiF F H') rvs rows := Paired.mapP hp2 fun _ _ z => z.gr k3
    have g13 := g2.gr k3
    rw [lrv] at hD
    refine ⟨_, rfl, szN (by show 0 ≤ 1000000; decide), fun pe ne => ?_⟩
    have re := (Gr.refl H').new ne (.lst [])
    refine ⟨.list ((((List.range rows.length).filter fun k => decide (atR (rows.getD k []) i ≠ 0)).map fun k => ((k : Nat) : Int)).map PyData.int), .list [], .lst (SqL.of (GrL.lst re hD)) (dp_ints _), .lst (SqL.of upd_same) .nil, shp_ints _, by decide, _, rfl, ?_⟩
    rw [eqv_nilL]
    have hD4 := GrL.lst re hD
    have hR4 := GrL.lst re hR3
    have hF4 := GrL.lst re hF3
    have hp4 : Paired (LiF F (upd H' pe (.lst []))) rvs rows := Paired.mapP hp3 fun _ _ z => z.gr re
    have g14 := g13.gr re
    generalize upd H' pe (.lst []) = H4 at hD4 hR4 hF4 hp4 g14 ⊢
    clear hp3 hR3 hF3 g13 re ne hD k3 g3 nD hR2 hF2 hp2 g2
    cases hjs : (List.range rows.length).filter fun k => decide (atR (rows.getD k []) i ≠ 0) with
    | nil =>
      refine iteF ⟨R, rvs, fvs, rows, found, _, _, _, _, _, _, _, rfl, g14, nR, hR4, hp4, hF4, lf, clr.skip fun l hm => ?_⟩
      obtain ⟨k, hk⟩ := List.getElem?_of_mem hm
      by_cases z : atR l i = 0
      · exact z
      · have : k ∈ (List.range rows.length).filter fun k => decide (atR (rows.getD k []) i ≠ 0) := List.mem_filter.mpr ⟨List.mem_range.mpr (List.getElem?_eq_some_iff.mp hk).1, decide_eq_true (by rw [List.getD_eq_getElem?_getD, hk]; exact z)⟩
        rw [hjs] at this
        cases this
    | cons k js =>
      rw [hjs] at hD4
      have hm : k ∈ (List.range rows.length).filter fun k => decide (atR (rows.getD k []) i ≠ 0) := by rw [hjs]; exact List.mem_cons_self
      obtain ⟨hm1, hm2⟩ := List.mem_filter.mp hm
      have hk : k < rows.length := List.mem_range.mp hm1
      have nz : atR (rows.getD k []) i ≠ 0 := of_decide_eq_true hm2
      have ek : rows[k]? = some rows[k] := List.getElem?_eq_getElem hk
      rw [List.getD_eq_getElem?_getD, ek] at nz
      obtain ⟨own, hown, ev⟩ : ∃ v, rvs[k]? = some v ∧ LiF F H4 v rows[k] := by
        obtain ⟨v, e⟩ : ∃ v, rvs[k]? = some v := ⟨_, List.getElem?_eq_getElem (by omega)⟩
        obtain ⟨l, el, h⟩ := paired_get hp4 e
        rw [ek] at el
        cases el
        exact ⟨v, e, h⟩
      refine iteT ?_
      obtain ⟨ob, rfl, nob, hob⟩ := ev
      generalize hw : rows[k] = wo at ek nz hob
      have ah : atI (((k :: js).map fun k => ((k : Nat) : Int)).map V.int) (0 : Int) = some (.int ((k : Nat) : Int)) := by
        have : atI (((k :: js).map fun k => ((k : Nat) : Int)).map V.int) ((0 : Nat) : Int) = some (.int ((k : Nat) : Int)) := atI_nat rfl
        exact this
      refine ⟨_, rfl, _, rfl, D, _, _, _, rfl, rfl, SqL.of hD4, ah, R, rvs, _, _, rfl, rfl, SqL.of hR4, atI_nat hown, _, rfl, _, rfl, D, _, _, _, rfl, rfl, SqL.of hD4, ah, _, rfl, R, rvs, rfl, SqL.of hR4, fun p1 n1 => ?_⟩
      rw [cut_upto]
      have s1 := (Gr.refl H4).new n1 (.lst (rvs.take k))
      have e1 : (upd H4 p1 (.lst (rvs.take k))) p1 = some (.lst (rvs.take k)) := upd_same
      generalize upd H4 p1 (.lst (rvs.take k)) = H5 at s1 e1 ⊢
      refine ⟨_, rfl, _, rfl, D, _, _, _, rfl, rfl, SqL.of (GrL.lst s1 hD4), ah, _, _, rfl, rfl, _, rfl, R, rvs, rfl, SqL.of (GrL.lst s1 hR4), fun p2 n2 => ?_⟩
      rw [show cutV rvs (some (((k : Nat) : Int) + 1)) none = rvs.drop (k + 1) from cut_from rvs (k + 1) (by omega)]
      have s2 := (Gr.refl H5).new n2 (.lst (rvs.drop (k + 1)))
      have e2 : (upd H5 p2 (.lst (rvs.drop (k + 1)))) p2 = some (.lst (rvs.drop (k + 1))) := upd_same
      have e12 := GrL.lst s2 e1
      have k5 := s1.trans s2
      generalize upd H5 p2 (.lst (rvs.drop (k + 1))) = H6 at s2 e2 e12 k5 ⊢
      refine ⟨p1, p2, _, _, rfl, rfl, e12, e2, by rw [List.length_take, List.length_drop]; exact szN (by show _ + _ ≤ 1000000; omega), fun p3 n3 => ⟨szN (by show 2 ≤ 1000000; decide), fun p4 n4 => ⟨p4, _, rfl, SqT.of upd_same, rfl, _, _, rfl, _, _, rfl, rfl, ?_⟩⟩⟩
      have s3 := (Gr.refl H6).new n3 (.lst (rvs.take k ++ rvs.drop (k + 1)))
      have s4 := s3.new n4 (.tup [.ref ob, .ref p3])
      have e3 : (upd (upd H6 p3 (.lst (rvs.take k ++ rvs.drop (k + 1)))) p4 (.tup [.ref ob, .ref p3])) p3 = some (.lst (rvs.take k ++ rvs.drop (k + 1))) := GrL.lst ((Gr.refl _).new n4 _) upd_same
      have k6 := k5.trans s4
      generalize upd (upd H6 p3 (.lst (rvs.take k ++ rvs.drop (k + 1)))) p4 (.tup [.ref ob, .ref p3]) = H7 at e3 k6 ⊢
      have hD7 := GrL.lst k6 hD4
      have hF7 := GrL.lst k6 hF4
      have hob7 := GrL.lst k6 hob
      have hp7 : Paired (LiF F H7) (rvs.take k ++ rvs.drop (k + 1)) (rows.take k ++ rows.drop (k + 1)) := Paired.mapP (paired_app (paired_take k hp4) (paired_drop (k + 1) hp4)) fun _ _ z => z.gr k6
      have g17 := g14.gr k6
      have go := clr.go hp hq hl ek nz
      have lwo : wo.length = p.1.length + 1 := rlen wo (List.mem_of_getElem? ek)
      have rest2 : ∀ l, l ∈ rows.take k ++ rows.drop (k + 1) → l.length = p.1.length + 1 ∧ (∀ z, z ∈ l → z.natAbs < 2 ^ 10000) ∧ ∀ z, z ∈ wo → z.natAbs < 2 ^ 10000 := fun l hm => by
        have l2 : 2 ≤ rows.length := by
          have : 0 < (rows.take k ++ rows.drop (k + 1)).length := List.length_pos_of_mem hm
          rw [List.length_append, List.length_take, List.length_drop] at this
          omega
        have two := clr.two l2
        have ml : l ∈ rows := by
          rcases List.mem_append.mp hm with h | h
          · exact List.mem_of_mem_take h
          · exact List.mem_of_mem_drop h
        have wide : ∀ l, l ∈ rows → ∀ z, z ∈ l → z.natAbs < 2 ^ 10000 := fun l h => by
          rw [two] at h
          simp only [List.mem_cons, List.not_mem_nil, or_false] at h
          rcases h with rfl | rfl
          · exact rowQ_wide hp
          · exact rowQ_wide hq
        exact ⟨rlen l ml, wide l ml, wide wo (List.mem_of_getElem? ek)⟩
      have lrest : (rvs.take k ++ rvs.drop (k + 1)).length = (rows.take k ++ rows.drop (k + 1)).length := paired_len hp7
      have lr2 : (rows.take k ++ rows.drop (k + 1)).length ≤ 2 := by
        rw [List.length_append, List.length_take, List.length_drop]
        omega
      generalize rvs.take k ++ rvs.drop (k + 1) = restv at e3 hp7 lrest
      generalize rows.take k ++ rows.drop (k + 1) = rest at hp7 go rest2 lrest lr2
      clear hp4 hF4 hR4 hD4 k6 k5 e12 e1 e2 s1 s2 s3 s4 n1 n2 n3 n4 g14 hob hown hw
      refine ⟨szN (by show 0 ≤ 1000000; decide), fun R2 nR2 => ?_⟩
      have r8 := (Gr.refl H7).new nR2 (.lst [])
      have nR2F : R2 ≠ F := fun e => by rw [e, hF7] at nR2; cases nR2
      refine ⟨_, rfl, p3, rfl, ⟨_, SqL.of (GrL.lst r8 e3)⟩, ?_⟩
      refine for_list (xs := restv) (fun j σ H' => ∃ (nvs : List V) (c2 c5 c9 : Option V), σ = [some (.ref R2), some (.int ((p.1.length + 1 : Nat) : Int)), c2, some (.ref F), some (.int (0 + (i : Int))), c5, some (.ref D), some (.ref ob), some (.ref p3), c9] ∧ GrD R2 H7 H' ∧ H' R2 = some (.lst nvs) ∧ nvs.length = j ∧ Paired (fun v l => LiF F H' v l ∧ v ≠ .ref R2) nvs ((rest.take j).map fun l => redL wo l i))
        ⟨[], _, _, _, rfl, r8.d R2, upd_same, rfl, .nil⟩ (fun j σ H' _ h => ?_) (fun j x σ H' hx h => ?_) (fun σ H' h => ?_)
      · obtain ⟨nvs, c2, c5, c9, rfl, g, _⟩ := h
        exact SqL.of (GrL.lst (g.to nR2) e3)
      · obtain ⟨nvs, c2, c5, c9, rfl, g, hN, ln, hpn⟩ := h
        have kg := g.to nR2
        obtain ⟨l, el, b, rfl, nb, hb⟩ := paired_get hp7 hx
        obtain ⟨ll, wl, ww⟩ := rest2 l (List.mem_of_getElem? el)
        have hb' := GrL.lst kg hb
        have ho' := GrL.lst kg hob7
        refine ⟨_, rfl, .inl ⟨rfl, _, SqL.of hN⟩, _, rfl, b, _, rfl, .inl (SqL.of hb'), _, rfl, by rw [List.length_map]; omega, by rw [List.length_map]; omega, fun D2 nD2 => ?_⟩
        refine lc_range (lo := 0) (Pv := fun u H'' => GrD D2 H' H'' ∧ H'' D2 = some (.lst (((List.range u).map fun y => redR wo l i y).map V.int))) ⟨(GrD.refl _ _).set _, upd_same⟩ (fun u H'' hu h => ?_) (fun H'' h => ?_)
        · obtain ⟨g9, h9⟩ := h
          rw [List.length_map, Int.toNat_natCast] at hu
          have k9 := g9.to nD2
          have hb9 := SqL.of (K := K) (GrL.lst k9 hb')
          have ho9 := SqL.of (K := K) (GrL.lst k9 ho')
          have w2 : ∀ a b : Int, a.natAbs < 2 ^ 10000 → b.natAbs < 2 ^ 10000 → CMulW a b := fun a b h h' => wide_mul h h' (by decide) (by decide) (by decide)
          refine ⟨rfl, ?_⟩
          unfold L2.tYes
          refine iteT ?_
          refine ⟨_, rfl, _, rfl, b, _, _, _, rfl, rfl, hb9, at0_int (by omega), _, rfl, _, rfl, ob, _, _, _, rfl, rfl, ho9, at0_int (by omega), _, _, rfl, rfl, w2 _ _ (atR_wide wl u) (atR_wide ww i), _, rfl, _, rfl, ob, _, _, _, rfl, rfl, ho9, at0_int (by omega), _, rfl, _, rfl, b, _, _, _, rfl, rfl, hb9, at0_int (by omega), _, _, rfl, rfl, w2 _ _ (atR_wide ww u) (atR_wide wl i), _, _, rfl, rfl, _, h9, ?_, g9.set _, ?_⟩
          · rw [List.length_map, List.length_map, List.length_range]
            exact small1000 (by omega)
          · rw [upd_same, List.range_succ, List.map_append, List.map_append]
            rfl
        · obtain ⟨g9, h9⟩ := h
          rw [List.length_map, Int.toNat_natCast] at h9
          have k9 := g9.to nD2
          have nDR : D2 ≠ R2 := fun e => by rw [e, hN] at nD2; cases nD2
          have nDF : D2 ≠ F := fun e => by rw [e, GrL.lst kg hF7] at nD2; cases nD2
          have gd : GrD R2 H'' (upd H'' R2 (.lst (nvs ++ [.ref D2]))) := (GrD.refl R2 H'').set _
          have hj : j < rest.length := (List.getElem?_eq_some_iff.mp el).1
          have keepL : ∀ {v : V} {l : List Int}, LiF F H' v l ∧ v ≠ .ref R2 → LiF F (upd H'' R2 (.lst (nvs ++ [.ref D2]))) v l ∧ v ≠ .ref R2 := fun h => by
            obtain ⟨⟨c, rfl, n, hc⟩, nr⟩ := h
            refine ⟨⟨c, rfl, n, ?_⟩, nr⟩
            rw [upd_ne (fun e => nr (by rw [e]))]
            exact GrL.lst k9 hc
          refine ⟨R2, _, _, rfl, rfl, GrL.lst k9 hN, small1000 (by omega), nvs ++ [.ref D2], _, _, _, rfl, (g.gr k9).trans gd, upd_same, by rw [List.length_append, ln]; rfl, ?_⟩
          rw [List.take_add_one, el, Option.toList_some, List.map_append]
          refine paired_app (Paired.mapP hpn fun _ _ z => keepL z) (.cons ⟨⟨D2, rfl, nDF, ?_⟩, fun e => nDR (by injection e)⟩ .nil)
          rw [upd_ne nDR]
          exact h9
      · obtain ⟨nvs, c2, c5, c9, rfl, g, hN, ln, hpn⟩ := h
        have kg := g.to nR2
        have hF8 := GrL.lst kg hF7
        rw [List.take_of_length_le (by omega)] at hpn
        have gd : GrD F H' (upd H' F (.lst (fvs ++ [.ref ob]))) := (GrD.refl F H').set _
        refine ⟨_, rfl, .inl ⟨rfl, _, SqL.of hF8⟩, _, rfl, F, _, _, rfl, rfl, hF8, small1000 (by omega), R2, nvs, fvs ++ [.ref ob], _, found ++ [wo], _, _, _, _, _, _, _, rfl, (g17.gr kg).trans gd, nR2F, ?_, Paired.mapP hpn fun _ _ z => z.1.gd gd, upd_same, by rw [List.length_append, List.length_append, lf]; rfl, go⟩
        rw [upd_ne nR2F]
        exact hN
  · obtain ⟨R, rvs, fvs, rows, found, c2, c4, c5, c6, c7, c8, c9, rfl, g2, nR, hR2, hp2, hF2, lf, clr⟩ := h
    refine ⟨_, rfl, _, rfl, szN (by show 2 ≤ 1000000; decide), fun t nt => ?_⟩
    have rt := (Gr.refl H2).new nt (.tup [.ref F, .ref R])
    have e : ((p.1.length + 1 : Nat) : Int).toNat = p.1.length + 1 := Int.toNat_natCast _
    rw [e] at clr
    refine hQ t F (.ref R) fvs _ ((gH.trans ((gF.trans g2).to nF)).trans rt) (SqT.of upd_same) (SqL.of (GrL.lst rt hF2)) ?_
    rw [lf]
    exact clr.fin hp hq hl
end
end SB
namespace SB
open PySem L2 GxR GA RZ
section
variable {P : Program} {w : World} {K : PySem.W.Frag} {mg : Str → Option Value} {base : Heap}
def spRank (K : PySem.W.Frag) : Sp := fun vs H Q _ => ∃ a va vb p q m, vs = [.ref a, .int m] ∧ m = ((p.1.length + 1 : Nat) : Int) ∧ SqL K H a [va, vb] ∧ SiV K H va (rowQ p) ∧ SiV K H vb (rowQ q) ∧ QOk p ∧ QOk q ∧ p.1.length = q.1.length ∧ p.1.length ≤ 8 ∧
  ∀ H', Gr H H' → Q (.int ((rkU p q : Nat) : Int)) H'
theorem sc_rank : FnScope ["_law_rows", "_law_many"] ["_law_rows", "_law_many"] (defScope s__law_rank) := ⟨rfl, rfl, rfl, by decide +kernel, rfl, by decide +kernel, by decide +kernel⟩
theorem cl_rank (D : Df K mg "_law_rank" s__law_rank) (B : Blt mg) (CC : Cl P w K mg base 1 "_law_clear" ["_law_rows", "_law_many"] (spClear K)) : Cl P w K mg base 2 "_law_rank" ["_law_rows", "_law_many"] (spRank K) := by
  refine D.cl (fun _ _ _ _ _ _ us hl => match us, hl with | [_, _], _ => rfl) fun f fd F => F.ok sc_rank (fun vs H Q E h => ?_) (fun cdv A outer s H vs Q E hr h => ?_)
  · obtain ⟨a, va, vb, p, q, m, rfl, _⟩ := h
    rfl
  obtain ⟨a, va, vb, p, q, m, rfl, rfl, hS, h1, h2, hp, hq, hl, l8, hQ⟩ := h
  refine ⟨_, (pss_one (ps_ret (pe_len (pe_ix ix_tup (pe_cl CC (hr.mono (by decide)) (pa_cons (pv 0) (pa_cons (pv 1) pa_nil))) pe_int (fun _ _ => rfl)) B.len))), ?_⟩
  refine ⟨_, rfl, _, rfl, a, va, vb, p, q, rfl, hS, h1, h2, hp, hq, hl, l8, fun t f r xs H' g ht hf lx => ?_⟩
  refine ⟨t, _, _, _, rfl, rfl, ht, rfl, f, xs, rfl, .inl hf, ?_⟩
  rw [lx]
  exact hQ H' g
def spIsNew (K : PySem.W.Frag) : Sp := fun vs H Q _ => ∃ b y n xs qs q, vs = [.ref b, y, .int ((n : Nat) : Int)] ∧ SqT K H b xs ∧ Paired (QuV K H) xs qs ∧ QuV K H y q ∧ (∀ r, r ∈ qs → QOk r ∧ r.1.length = n) ∧ QOk q ∧ q.1.length = n ∧ n ≤ 8 ∧
  ∀ H', Gr H H' → Q (.bl (decide (nfU q ∉ qs.map nfU))) H'
theorem sc_isnew : FnScope ["_law_questions", "_law_question_here", "_law_d", "_law_row", "_law_sides", "_law_shut"] ["_law_questions", "_law_question_here", "_law_d"] (defScope s__law_is_new) := ⟨rfl, rfl, rfl, by decide +kernel, rfl, by decide +kernel, by decide +kernel⟩
theorem cl_isnew (D : Df K mg "_law_is_new" s__law_is_new) (CR : Cl P w K mg base 2 "_law_rank" ["_law_rows", "_law_many"] (spRank K)) : Cl P w K mg base 3 "_law_is_new" ["_law_questions", "_law_question_here", "_law_d"] (spIsNew K) := by
  refine D.cl (fun _ _ _ _ _ _ us hl => match us, hl with | [_, _, _], _ => rfl) fun f fd F => F.ok sc_isnew (fun vs H Q E h => ?_) (fun cdv A outer s H vs Q E hr h => ?_)
  · obtain ⟨b, y, n, xs, qs, q, rfl, _⟩ := h
    rfl
  obtain ⟨b, y, n, xs, qs, q, rfl, hb, hpr, hy, hok, hq, hl, n8, hQ⟩ := h
  refine ⟨_, (pss_cons (ps_set (i := 3) sc_isnew.nd rfl (.inl rfl) (pe_op op_catT (pe_ix ix_tup (pv 1) pe_int (fun _ _ => rfl)) (pe_tup (pa_cons (pe_ix ix_tup (pv 1) pe_int (fun _ _ => rfl)) pa_nil))))
    (pss_cons (ps_for PassesOwn.never rfl (pi_tup (pv 0)) (pg_tup rfl (pgs_cons (pg_name (i := 4) sc_isnew.nd rfl (Or.inl rfl)) (pgs_cons (pg_name (i := 5) sc_isnew.nd rfl (Or.inl rfl)) pgs_nil)))
      (pss_one (ps_if (pt_cmpR op_lt (pe_cl CR (hr.mono (by decide)) (pa_cons (pe_lst (pa_cons (pe_op op_catT (pv 4) (pe_tup (pa_cons (pv 5) pa_nil))) (pa_cons (pv 3) pa_nil))) (pa_cons (pe_op op_add (pv 2) pe_int) pa_nil))) pe_int (nomark _)) (pss_one (ps_ret pe_bl)) pss_nil)))
    (pss_one (ps_ret pe_bl)))), ?_⟩
  obtain ⟨qa, sv, rfl, s1, sa, rfl, s2⟩ := id hy
  have lx : xs.length = qs.length := paired_len hpr
  refine ⟨_, rfl, qa, _, _, _, rfl, rfl, s1, rfl, _, rfl, qa, _, _, _, rfl, rfl, s1, rfl, szN (by show 1 ≤ 1000000; decide), fun p0 n0 => ?_⟩
  have k0 := (Gr.refl H).new n0 (.tup [.int q.2])
  refine ⟨_, _, _, _, rfl, rfl, k0.seqT s2, SqT.of upd_same, ne_of_nonZ hq.nz, ?_, fun z => absurd z (List.cons_ne_nil _ _), fun _ p1 m1 => ?_⟩
  · rw [List.length_map]
    exact szN (by show q.1.length + 1 ≤ 1000000; omega)
  have k1 := k0.new m1 (.tup (q.1.map V.int ++ [.int q.2]))
  have hrow : SqT K (upd (upd H p0 (.tup [.int q.2])) p1 (.tup (q.1.map V.int ++ [.int q.2]))) p1 ((rowQ q).map V.int) := SqT.of (by rw [upd_same]; unfold rowQ; rw [List.map_append]; rfl)
  generalize upd (upd H p0 (.tup [.int q.2])) p1 (.tup (q.1.map V.int ++ [.int q.2])) = H1 at k1 hrow ⊢
  refine ⟨_, rfl, b, rfl, ⟨_, k1.seqT hb⟩, for_tup (xs := xs) (fun i σ H' => ∃ c4 c5 : Option V, σ = [some (.ref b), some (.ref qa), some (.int ((n : Nat) : Int)), some (.ref p1), c4, c5] ∧ Gr H H' ∧ SqT K H' p1 ((rowQ q).map V.int) ∧ ∀ r, r ∈ qs.take i → nfU r ≠ nfU q)
    ⟨_, _, rfl, k1, hrow, fun r h => by cases h⟩ (fun i σ H' _ h => ?_) (fun i x σ H' hx h => ?_) (fun σ H' h => ?_)⟩
  · obtain ⟨c4, c5, rfl, g, _⟩ := h
    exact g.seqT hb
  · obtain ⟨c4, c5, rfl, g, hrw, hne⟩ := h
    obtain ⟨r, er, hr'⟩ := paired_get hpr hx
    obtain ⟨ro, rl⟩ := hok r (List.mem_of_getElem? er)
    obtain ⟨ra, rv, rfl, t1, ta, rfl, t2⟩ := hr'.gr g
    refine ⟨ra, _, rfl, t1, rfl, _, _, rfl, _, _, rfl, rfl, ?_⟩
    refine ⟨_, rfl, _, rfl, szN (by show 1 ≤ 1000000; decide), fun p2 n2 => ?_⟩
    have k2 := (Gr.refl H').new n2 (.tup [.int r.2])
    refine ⟨_, _, _, _, rfl, rfl, k2.seqT t2, SqT.of upd_same, ne_of_nonZ ro.nz, ?_, fun z => absurd z (List.cons_ne_nil _ _), fun _ p3 m3 => ?_⟩
    · rw [List.length_map]
      exact szN (by show r.1.length + 1 ≤ 1000000; omega)
    have k3 := k2.new m3 (.tup (r.1.map V.int ++ [.int r.2]))
    have hrr : SqT K (upd (upd H' p2 (.tup [.int r.2])) p3 (.tup (r.1.map V.int ++ [.int r.2]))) p3 ((rowQ r).map V.int) := SqT.of (by rw [upd_same]; unfold rowQ; rw [List.map_append]; rfl)
    generalize upd (upd H' p2 (.tup [.int r.2])) p3 (.tup (r.1.map V.int ++ [.int r.2])) = H3 at k3 hrr ⊢
    refine ⟨_, rfl, szN (by show 2 ≤ 1000000; decide), fun p4 n4 => ?_⟩
    have k4 := (Gr.refl H3).new n4 (.lst [.ref p3, .ref p1])
    refine ⟨_, rfl, _, _, rfl, rfl, p4, _, _, r, q, _, rfl, by rw [rl]; rfl, SqL.of upd_same, ⟨p3, rfl, k4.seqT hrr⟩, ⟨p1, rfl, (k3.trans k4).seqT hrw⟩, ro, hq, by rw [rl, hl], by omega, fun H5 g5 => ?_⟩
    have k5 := (k3.trans k4).trans g5
    refine ⟨_, _, rfl, rfl, _, rfl, ?_⟩
    unfold rkU
    by_cases e : nfU r = nfU q
    · rw [if_pos e]
      refine iteP (by decide) ?_
      have : decide (nfU q ∉ qs.map nfU) = false := decide_eq_false fun z => z (List.mem_map.mpr ⟨r, List.mem_of_getElem? er, e⟩)
      rw [this] at hQ
      exact hQ _ (g.trans k5)
    · rw [if_neg e]
      refine iteN (by decide) ⟨_, _, rfl, g.trans k5, k5.seqT hrw, fun r' h => ?_⟩
      rw [List.take_add_one, er, Option.toList_some] at h
      rcases List.mem_append.mp h with h | h
      · exact hne r' h
      · rw [List.mem_singleton.mp h]
        exact e
  · obtain ⟨c4, c5, rfl, g, hrw, hne⟩ := h
    rw [lx, List.take_length] at hne
    have : decide (nfU q ∉ qs.map nfU) = true := decide_eq_true fun z => by
      obtain ⟨r, hr', e⟩ := List.mem_map.mp z
      exact hne r hr' e
    rw [this] at hQ
    exact hQ _ g
end
end SB
namespace SB
open PySem L2 GxR GA RZ
section
variable {P : Program} {w : World} {K : PySem.W.Frag} {mg : Str → Option Value} {base : Heap}
/-- a small question -/
structure QSm (n : Nat) (q : List Int × Int) : Prop where
  nz : NonZ q.1
  ns : ∀ z, z ∈ q.1 → z.natAbs ≤ 10
  len : q.1.length = n
theorem Stk.gd {d a : Addr} {m : Nat} {H : Hp} {o : HO} (h : Stk d m H) (n : a ≠ d) : Stk d m (upd H a o) := h.off n
def spQn (K : PySem.W.Frag) : Sp := fun vs H Q _ => ∃ dk n m k, vs = [.ref dk, .int ((n : Nat) : Int), .int ((m : Nat) : Int)] ∧ Stk dk k H ∧ k ≤ 900000 ∧ 1 ≤ n ∧ n ≤ 4 ∧ 1 ≤ m ∧ m ≤ 9 ∧
  ∀ v q H', GrD dk H H' → Stk dk (k + 10) H' → QuV K H' v q → QSm n q → q.2.natAbs ≤ 9 → Q v H'
theorem sc_qn : FnScope ["_law_stock_here", "_law_d", "_law_most", "_law_k", "_law_sides"] ["_law_stock_here", "_law_d", "_law_most"] (defScope s__law_question) := ⟨rfl, rfl, rfl, by decide +kernel, rfl, by decide +kernel, by decide +kernel⟩
theorem cl_qn (D : Df K mg "_law_question" s__law_question) (B : Blt mg) (CP : Cl P w K mg base 1 "_law_pick" ["_law_stock_here", "_law_many"] spPick) : Cl P w K mg base 2 "_law_question" ["_law_stock_here", "_law_d", "_law_most"] (spQn K) := by
  refine D.cl (fun _ _ _ _ _ _ us hl => match us, hl with | [_, _, _], _ => rfl) fun f fd F => F.ok sc_qn (fun vs H Q E h => ?_) (fun cdv A outer s H vs Q E hr h => ?_)
  · obtain ⟨dk, n, m, k, rfl, _⟩ := h
    rfl
  obtain ⟨dk, n, m, k, rfl, hdk, k9, n1, n4, m1, m9, hQ⟩ := h
  refine ⟨_, (pss_cons (ps_setLc (i := 4) (own := [("_law_k", 3)]) (g := gName 3) rfl sc_qn.nd rfl rfl rfl (pi_range1 rfl B.rng (pa_cons (pv 1) pa_nil)) (blkOk_by (N := ["_law_stock_here", "_law_d", "_law_most", "_law_k", "_law_sides"]) (sc := defScope s__law_question) (by decide +kernel)) (fun _ _ _ _ _ => (pg_name (i := 3) sc_qn.nd rfl (Or.inl rfl))) (fun _ _ _ _ _ => pts_nil) (fun _ _ _ _ _ => (pe_op op_sub (pe_cl CP (hr.mono (by decide)) (pa_cons (pv 0) (pa_cons (pe_op op_add (pe_op op_mul pe_int (pv 2)) pe_int) pa_nil))) (pv 2))))
    (pss_cons (ps_if (pt_cmpR op_eq (pe_cl CP (hr.mono (by decide)) (pa_cons (pv 0) (pa_cons pe_int pa_nil))) pe_int (nomark _)) (pss_one (ps_set (i := 4) sc_qn.nd rfl (.inl rfl) (pe_op op_rep (pe_lst (pa_cons pe_int pa_nil)) (pv 1)))) pss_nil)
    (pss_cons (ps_if (pt_cmpR (op_eqD hr.units) (pv 4) (pe_op op_rep (pe_lst (pa_cons pe_int pa_nil)) (pv 1)) (nomark _)) (pss_one (ps_asg (pe_op op_add pe_int (pe_cl CP (hr.mono (by decide)) (pa_cons (pv 0) (pa_cons (pv 2) pa_nil)))) (pg_sub (pv 4) (pe_cl CP (hr.mono (by decide)) (pa_cons (pv 0) (pa_cons (pv 1) pa_nil))) set_list))) pss_nil)
    (pss_one (ps_ret (pe_tup (pa_cons (pe_callTy call_tuple_of rfl B.tup bootTup (pa_cons (pv 4) pa_nil)) (pa_cons (pe_ifExp (pt_cmpR op_gt (pe_cl CP (hr.mono (by decide)) (pa_cons (pv 0) (pa_cons pe_int pa_nil))) pe_int (nomark _)) (pe_op op_sub (pe_cl CP (hr.mono (by decide)) (pa_cons (pv 0) (pa_cons (pe_op op_add (pe_op op_mul pe_int (pv 2)) pe_int) pa_nil))) (pv 2)) pe_int) pa_nil)))))))), ?_⟩
  let Pst : (List Int → Prop) → Nat → L2.St → Hp → Prop := fun C u σ' H' => ∃ (zs : List Int) (Ds : Addr) (c3 : Option V) (Hq : Hp), σ' = [some (.ref dk), some (.int ((n : Nat) : Int)), some (.int ((m : Nat) : Int)), c3, some (.ref Ds)] ∧
    H' Ds = some (.lst (zs.map V.int)) ∧ Ds ≠ dk ∧ zs.length = n ∧ (∀ z, z ∈ zs → z.natAbs ≤ 10) ∧ GrD dk H Hq ∧ Hq Ds = none ∧ GrD dk Hq H' ∧ Stk dk (k + u) H' ∧ C zs
  refine ⟨_, rfl, _, rfl, by omega, by omega, fun D nD => ?_⟩
  have nDd := hdk.ne nD
  refine lc_range (lo := 0) (Pv := fun i H' => ∃ zs : List Int, H' D = some (.lst (zs.map V.int)) ∧ zs.length = i ∧ (∀ z, z ∈ zs → z.natAbs ≤ 10) ∧ GrD dk H H' ∧ Stk dk (k + i) H') ⟨[], upd_same, rfl, fun z h => (by cases h), (GrD.refl dk H).put nD _, hdk.off nDd⟩ (fun i H' hi h => ?_) (fun H' h => ?_)
  · obtain ⟨zs, hD, lz, z9, g, sk⟩ := h
    rw [Int.toNat_natCast] at hi
    refine ⟨rfl, ?_⟩
    unfold L2.tYes
    refine iteT ?_
    refine ⟨_, rfl, _, rfl, _, _, rfl, rfl, .inl ⟨by decide, by decide⟩, _, _, rfl, rfl, dk, _, _, rfl, sk, by omega, by omega, big_take (n := 2 * m + 1) (by omega), fun t H2 t0 t1 g2 s2 => ?_⟩
    refine ⟨_, rfl, _, _, rfl, rfl, _, GrDL.lst g2 nDd hD, ?_, zs ++ [t - (m : Int)], by rw [upd_same, List.map_append]; rfl, by rw [List.length_append, lz]; rfl, fun z hz => ?_, (g.trans g2).put nD _, s2.off nDd⟩
    · rw [List.length_map]
      exact small1000 (by omega)
    · rcases List.mem_append.mp hz with h | h
      · exact z9 z h
      · rw [List.mem_singleton.mp h]
        omega
  obtain ⟨zs, hD, lz, z9, g, sk⟩ := h
  rw [Int.toNat_natCast] at lz sk
  refine seq_join (Pst (fun _ => True) 4) (fun σ' H2 h => ?_) (fun Kn hK => hK _ _ ⟨zs, D, _, H, rfl, hD, nDd, lz, z9, GrD.refl dk H, nD, g, sk.more (by omega), trivial⟩)
  clear z9 lz hD g sk
  obtain ⟨zs, D, c3, Hq, rfl, hD, nDd, lz, z9, gq, nq, g, sk, _⟩ := h
  refine seq_join (Pst (fun _ => True) 5) (fun σ' H3 h => ?_) (fun Kn hK => ?_)
  · clear z9 lz hD g sk gq nq
    obtain ⟨zs, D, c3, Hq, rfl, hD, nDd, lz, z9, gq, nq, g, sk, _⟩ := h
    refine seq_join (Pst NonZ 7) (fun σ' H4 h => ?_) (fun Kn hK => ?_)
    · clear z9 lz hD g sk gq nq
      obtain ⟨zs, D, c3, Hq, rfl, hD, nDd, lz, z9, gq, nq, g, sk, nz⟩ := h
      refine ⟨_, rfl, D, _, rfl, .inl ⟨SqL.of hD, fun p1 n1 => ?_⟩⟩
      have r1 := (Gr.refl H4).new n1 (.tup (zs.map V.int))
      have t1 : SqT K (upd H4 p1 (.tup (zs.map V.int))) p1 (zs.map V.int) := SqT.of upd_same
      have s4 := sk.gr r1
      have g4 := (gq.trans g).gr r1
      generalize upd H4 p1 (.tup (zs.map V.int)) = H5 at t1 s4 g4 ⊢
      have fin : ∀ (wv : Int) (Hn : Hp), wv.natAbs ≤ 9 → GrD dk H5 Hn → Stk dk (k + 9) Hn → ∀ p2, Hn p2 = none → Q (.ref p2) (upd Hn p2 (.tup [.ref p1, .int wv])) := fun wv Hn hw gn sn p2 n2 => by
        have r2 := (Gr.refl Hn).new n2 (.tup [.ref p1, .int wv])
        exact hQ _ (zs, wv) _ ((g4.trans gn).gr r2) ((sn.gr r2).more (by omega)) ⟨p2, _, rfl, SqT.of upd_same, p1, rfl, r2.seqT ((gn.sk s4) _ _ t1)⟩ ⟨nz, z9, lz⟩ hw
      refine ⟨_, rfl, dk, 3, _, rfl, s4, by omega, by decide, by decide +kernel, fun t H6 t0 t1' g6 s6 => ⟨_, _, rfl, rfl, _, rfl, ?_⟩⟩
      by_cases c : 0 < t
      · refine iteP c ?_
        refine ⟨_, rfl, _, rfl, _, _, rfl, rfl, .inl ⟨by decide, by decide⟩, _, _, rfl, rfl, dk, _, _, rfl, s6, by omega, by omega, big_take (n := 2 * m + 1) (by omega), fun t2 H7 t20 t21 g7 s7 => ⟨_, rfl, _, _, rfl, rfl, szN (by show 2 ≤ 1000000; decide), fun p2 n2 => ?_⟩⟩
        exact fin _ _ (by omega) (g6.trans g7) s7 p2 n2
      · refine iteN c ⟨szN (by show 2 ≤ 1000000; decide), fun p2 n2 => ?_⟩
        exact fin _ _ (by decide) g6 (s6.more (by omega)) p2 n2
    · refine ⟨_, rfl, szN (by show 1 ≤ 1000000; decide), fun o0 w0 => ?_⟩
      have f0 := (Gr.refl H3).new w0 (.lst [.int 0])
      refine ⟨_, rfl, o0, _, _, rfl, rfl, upd_same, by omega, by omega, by rw [Int.toNat_natCast]; exact szN (by show 1 * n ≤ 1000000; omega), fun o1 w1 => ?_⟩
      have ez : (List.replicate ((n : Nat) : Int).toNat [V.int 0]).flatten = (List.replicate n (0 : Int)).map V.int := by rw [Int.toNat_natCast, flat_zero]
      rw [ez]
      have f1 := f0.new w1 (.lst ((List.replicate n (0 : Int)).map V.int))
      have e1 : (upd (upd H3 o0 (.lst [.int 0])) o1 (.lst ((List.replicate n (0 : Int)).map V.int))) o1 = some (.lst ((List.replicate n (0 : Int)).map V.int)) := upd_same
      have hDw := GrL.lst f1 hD
      have sw := sk.gr f1
      have gw := g.gr f1
      generalize upd (upd H3 o0 (.lst [.int 0])) o1 (.lst ((List.replicate n (0 : Int)).map V.int)) = W0 at e1 hDw sw gw ⊢
      clear f1 f0 ez
      refine ⟨.list (zs.map PyData.int), .list ((List.replicate n (0 : Int)).map PyData.int), .lst (SqL.of hDw) (dp_ints zs), .lst (SqL.of e1) (dp_ints _), shp_ints zs, shp_ints _, _, rfl, ?_⟩
      rw [eqv_ints]
      by_cases cz : zs = List.replicate n 0
      · refine iteP cz ?_
        refine ⟨_, rfl, _, rfl, dk, _, _, rfl, sw, by omega, by omega, big_take (n := m) (by omega), fun t H5 t0 t1 g5 s5 => ⟨_, _, rfl, rfl, ?_⟩⟩
        refine ⟨_, rfl, _, rfl, _, rfl, dk, _, _, rfl, s5, by omega, by omega, big_take (n := n) (by omega), fun u H6 u0 u1 g6 s6 => ?_⟩
        obtain ⟨ku, rfl⟩ : ∃ j : Nat, u = (j : Int) := ⟨u.toNat, by omega⟩
        have hD6 := GrDL.lst g6 nDd (GrDL.lst g5 nDd hDw)
        refine ⟨D, _, _, ku, rfl, rfl, hD6, ixN_nat (by rw [List.length_map, lz]; omega), ?_⟩
        refine hK _ _ ⟨zs.set ku (1 + t), D, c3, Hq, rfl, by rw [upd_same, List.map_set], nDd, by rw [List.length_set, lz], fun z hz => ?_, gq, nq, ((gw.trans g5).trans g6).put nq _, s6.off nDd, nonZ_of (List.mem_set (by omega) (1 + t)) (by omega)⟩
        rcases List.mem_or_eq_of_mem_set hz with h | h
        · exact z9 z h
        · rw [h]
          omega
      · refine iteN cz (hK _ _ ⟨zs, D, c3, Hq, rfl, hDw, nDd, lz, z9, gq, nq, gw, sw.more (by omega), ?_⟩)
        rcases nonZ_or zs with h | h
        · exact h
        · rw [lz] at h
          exact absurd h cz
  · refine ⟨_, rfl, dk, 4, _, rfl, sk, by omega, by decide, by decide +kernel, fun t H3 t0 t1 g3 s3 => ⟨rfl, _, rfl, ?_⟩⟩
    by_cases c : t = 0
    · refine iteP (by rw [c]) ?_
      refine ⟨szN (by show 1 ≤ 1000000; decide), fun o0 w0 => ?_⟩
      have f0 := (Gr.refl H3).new w0 (.lst [.int 0])
      refine ⟨_, rfl, o0, _, _, rfl, rfl, upd_same, by omega, by omega, by rw [Int.toNat_natCast]; exact szN (by show 1 * n ≤ 1000000; omega), fun o1 w1 => ?_⟩
      have ez : (List.replicate ((n : Nat) : Int).toNat [V.int 0]).flatten = (List.replicate n (0 : Int)).map V.int := by rw [Int.toNat_natCast, flat_zero]
      rw [ez]
      have f1 := (Gr.refl (upd H3 o0 (.lst [.int 0]))).new w1 (.lst ((List.replicate n (0 : Int)).map V.int))
      exact hK _ _ ⟨List.replicate n 0, o1, c3, upd H3 o0 (.lst [.int 0]), rfl, upd_same, (s3.gr f0).ne w1, List.length_replicate, fun z hz => (by rw [(List.mem_replicate.mp hz).2]; decide), ((gq.trans g).trans g3).gr f0, w1, f1.d dk, (s3.gr f0).gr f1, trivial⟩
    · exact iteN (fun z => c (by injection z)) (hK _ _ ⟨zs, D, c3, Hq, rfl, GrDL.lst g3 nDd hD, nDd, lz, z9, gq, nq, g.trans g3, s3, trivial⟩)
end
end SB
namespace SB
open PySem L2 GxR GA RZ
/-! ### the book of a web of four things -/
def six : List (Nat × Nat) := [(0, 1), (0, 2), (0, 3), (1, 2), (1, 3), (2, 3)]
def tieQ (t : Int) (p : Nat × Nat) : List Int × Int := ((List.range 4).map fun k => t * ((if k = p.1 then 1 else 0) - (if k = p.2 then 1 else 0)), 0)
theorem tie_nf : ∀ p ∈ six, nfU (tieQ 1 p) = tieQ 1 p ∧ nfU (tieQ (-1) p) = tieQ 1 p := by decide +kernel
theorem tie_inj : ∀ p ∈ six, ∀ q ∈ six, tieQ 1 p = tieQ 1 q → p = q := by decide +kernel
theorem tie_sm : ∀ p ∈ six, ∀ t ∈ ([1, -1] : List Int), ((tieQ t p).1.any fun z => decide (z ≠ 0)) = true ∧ (∀ z ∈ (tieQ t p).1, z.natAbs ≤ 10) ∧ (tieQ t p).1.length = 4 := by decide +kernel
def tiesTo (i : Nat) : List (Nat × Nat) := (List.range i).flatMap fun a => (List.range (3 - a)).map fun b => (a, a + 1 + b)
theorem ties_six : tiesTo 4 = six := by decide
theorem ties_snoc (i : Nat) : tiesTo (i + 1) = tiesTo i ++ (List.range (3 - i)).map fun b => (i, i + 1 + b) := by
  unfold tiesTo
  rw [List.range_succ, List.flatMap_append]
  simp
theorem ties_len (i : Nat) (h : i ≤ 4) : (tiesTo i).length ≤ 6 := by
  have : i = 0 ∨ i = 1 ∨ i = 2 ∨ i = 3 ∨ i = 4 := by omega
  rcases this with rfl | rfl | rfl | rfl | rfl <;> decide
/-- questions of ties, some turned -/
inductive TieQs : List (Nat × Nat) → List (List Int × Int) → Prop
  | nil : TieQs [] []
  | snoc {L : List (Nat × Nat)} {qs : List (List Int × Int)} {p : Nat × Nat} {t : Int} : TieQs L qs → (t = 1 ∨ t = -1) → TieQs (L ++ [p]) (qs ++ [tieQ t p])
theorem TieQs.ok {L : List (Nat × Nat)} {qs : List (List Int × Int)} (h : TieQs L qs) (s : ∀ p, p ∈ L → p ∈ six) : qs.length = L.length ∧ qs.map nfU = L.map (tieQ 1) ∧ ∀ q, q ∈ qs → QSm 4 q ∧ q.2 = 0 := by
  induction h with
  | nil => exact ⟨rfl, rfl, fun q h => by cases h⟩
  | snoc h ht ih =>
    rename_i L qs p t
    obtain ⟨a, b, c⟩ := ih fun p hp => s p (List.mem_append_left _ hp)
    have hp := s p (List.mem_append_right _ (List.mem_singleton.mpr rfl))
    have nf : nfU (tieQ t p) = tieQ 1 p := by
      rcases ht with rfl | rfl
      · exact (tie_nf p hp).1
      · exact (tie_nf p hp).2
    have sm := tie_sm p hp t (by rcases ht with rfl | rfl <;> decide)
    refine ⟨by rw [List.length_append, List.length_append, a]; rfl, by rw [List.map_append, List.map_append, b]; show _ ++ [nfU (tieQ t p)] = _; rw [nf]; rfl, fun q hq => ?_⟩
    rcases List.mem_append.mp hq with h | h
    · exact c q h
    · rw [List.mem_singleton.mp h]
      exact ⟨⟨sm.1, sm.2.1, sm.2.2⟩, rfl⟩
theorem nodup_mapT : ∀ {L : List (Nat × Nat)}, L.Nodup → (∀ p, p ∈ L → p ∈ six) → (L.map (tieQ 1)).Nodup
  | [], _, _ => List.nodup_nil
  | p :: r, h, s => by
    obtain ⟨h1, h2⟩ := List.nodup_cons.mp h
    rw [List.map_cons]
    refine List.nodup_cons.mpr ⟨fun z => ?_, nodup_mapT h2 fun p hp => s p (List.mem_cons_of_mem _ hp)⟩
    obtain ⟨q, hq, e⟩ := List.mem_map.mp z
    rw [tie_inj q (s q (List.mem_cons_of_mem _ hq)) p (s p List.mem_cons_self) e] at hq
    exact h1 hq
theorem QSm.ok {n : Nat} {q : List Int × Int} (h : QSm n q) (w : q.2.natAbs ≤ 20) : QOk q := ⟨h.nz, fun z hz => Nat.lt_of_le_of_lt (h.ns z hz) (Nat.lt_of_lt_of_le (by decide : 10 < 2 ^ 5) (two_le (by decide))), Nat.lt_of_le_of_lt w (Nat.lt_of_lt_of_le (by decide : 20 < 2 ^ 5) (two_le (by decide)))⟩
theorem TieQs.book {L : List (Nat × Nat)} {qs : List (List Int × Int)} (h : TieQs L qs) (s : ∀ p, p ∈ L → p ∈ six) (nd : L.Nodup) (l : L.length ≤ 6) : BOk 4 qs ∧ ∀ q, q ∈ qs → QSm 4 q ∧ q.2.natAbs ≤ 20 := by
  obtain ⟨a, b, c⟩ := h.ok s
  have w : ∀ q, q ∈ qs → q.2.natAbs ≤ 20 := fun q hq => by rw [(c q hq).2]; decide
  exact ⟨⟨by decide, by decide, by omega, fun q hq => ⟨(c q hq).1.ok (w q hq), (c q hq).1.len⟩, by rw [b]; exact nodup_mapT nd s⟩, fun q hq => ⟨(c q hq).1, w q hq⟩⟩
end SB
namespace SB
open PySem L2 GxR GA RZ
/-- a pair of places -/
def PrV (K : PySem.W.Frag) (H : Hp) (v : V) (p : Nat × Nat) : Prop := ∃ a, v = .ref a ∧ SqT K H a [.int ((p.1 : Nat) : Int), .int ((p.2 : Nat) : Int)]
theorem PrV.st {K : PySem.W.Frag} {H H' : Hp} {v : V} {p : Nat × Nat} (h : PrV K H v p) (s : Tst K H H') : PrV K H' v p := let ⟨a, e, t⟩ := h; ⟨a, e, s _ _ t⟩
theorem PrV.gr {K : PySem.W.Frag} {H H' : Hp} {v : V} {p : Nat × Nat} (h : PrV K H v p) (g : Gr H H') : PrV K H' v p := let ⟨a, e, t⟩ := h; ⟨a, e, g.seqT t⟩
theorem seqIx_nat {k n : Nat} (h : k < n) : PySem.seqIndex? ((k : Nat) : Int) n = some k := by
  unfold PySem.seqIndex?
  have c : ¬ ((k : Nat) : Int) < 0 := by omega
  simp only [c, if_false]
  rw [if_pos (by simp; omega)]
  rfl
theorem eq_dec (u v : Nat) : (if decide (V.int (0 + (u : Int)) = V.int ((v : Nat) : Int)) = true then (1 : Int) else 0) = if u = v then 1 else 0 := by
  by_cases c : u = v
  · rw [if_pos c, decide_eq_true (by rw [c, Int.zero_add])]
    rfl
  · rw [if_neg c, decide_eq_false (fun e => c (by injection e with e; omega))]
    rfl
def prP (p : Nat × Nat) : PyData := .tuple [.int ((p.1 : Nat) : Int), .int ((p.2 : Nat) : Int)]
theorem dp_prs {K : PySem.W.Frag} {H : Hp} : ∀ {vs : List V} {L : List (Nat × Nat)}, Paired (PrV K H) vs L → DpAll K H vs (L.map prP)
  | _, _, .nil => .nil
  | _, _, .cons ⟨a, e, s⟩ r => by
    subst e
    exact .cons (.tup s (.cons (.int _) (.cons (.int _) .nil))) (dp_prs r)
theorem shp_prs (L : List (Nat × Nat)) : SeqAt.shaped (.list (L.map prP)) = true := by
  have a : PyData.canLayAll0 (L.map prP) = true ∧ PyData.depthAll (L.map prP) ≤ 2 := by
    induction L with
    | nil => exact ⟨rfl, by simp [PyData.depthAll]⟩
    | cons p r ih =>
      refine ⟨?_, ?_⟩
      · rw [List.map_cons, PyData.canLayAll0, ih.1, Bool.and_true]
        rfl
      · rw [List.map_cons]
        have : (prP p).depth ≤ 2 := by simp [prP, PyData.depth, PyData.depthAll]
        simp only [PyData.depthAll]
        omega
  unfold SeqAt.shaped
  rw [Bool.and_eq_true]
  refine ⟨a.1, decide_eq_true ?_⟩
  simp only [PyData.depth]
  omega
theorem paired_erase {α β : Type} {F : α → β → Prop} : ∀ {xs : List α} {ys : List β} (k : Nat), Paired F xs ys → Paired F (xs.eraseIdx k) (ys.eraseIdx k)
  | _, _, _, .nil => .nil
  | _, _, 0, .cons _ t => t
  | _, _, k + 1, .cons h t => .cons h (paired_erase k t)
section
variable {P : Program} {w : World} {K : PySem.W.Frag} {mg : Str → Option Value} {base : Heap}
def spWeb (K : PySem.W.Frag) : Sp := fun vs H Q _ => ∃ dk m k, vs = [.ref dk, .int ((m : Nat) : Int)] ∧ Stk dk k H ∧ k ≤ 900000 ∧
  ∀ v qs H', GrD dk H H' → Stk dk (k + 40) H' → BkV K H' v 4 qs → BOk 4 qs → (∀ q, q ∈ qs → QSm 4 q ∧ q.2.natAbs ≤ 20) → Q v H'
theorem sc_web : FnScope ["_law_stock_here", "_law_many", "_law_ties", "_law_found", "_law_i", "_law_j", "_law_turn", "_law_k"] ["_law_stock_here", "_law_many"] (defScope s__law_web) := ⟨rfl, rfl, rfl, by decide +kernel, rfl, by decide +kernel, by decide +kernel⟩
theorem cl_web (D : Df K mg "_law_web" s__law_web) (B : Blt mg) (CP : Cl P w K mg base 1 "_law_pick" ["_law_stock_here", "_law_many"] spPick) : Cl P w K mg base 2 "_law_web" ["_law_stock_here", "_law_many"] (spWeb K) := by
  refine D.cl (fun _ _ _ _ _ _ us hl => match us, hl with | [_, _], _ => rfl) fun f fd F => F.ok sc_web (fun vs H Q E h => ?_) (fun cdv A outer s H vs Q E hr h => ?_)
  · obtain ⟨dk, m, k, rfl, _⟩ := h
    rfl
  obtain ⟨dk, m, k, rfl, hdk, k9, hQ⟩ := h
  refine ⟨_, (pss_cons (ps_par (i := 2) (j := 3) rfl sc_web.nd rfl rfl (by decide) rfl rfl (pa_cons (pe_lst pa_nil) (pa_cons (pe_tup pa_nil) pa_nil)) rfl)
    (pss_cons (ps_for PassesOwn.never rfl (pi_range1 rfl B.rng (pa_cons pe_int pa_nil)) (pg_name (i := 4) sc_web.nd rfl (Or.inr rfl))
      (pss_one (ps_set (i := 2) sc_web.nd rfl (.inl rfl) (pe_op op_cat (pv 2) (pe_lc (own := [("_law_j", 5)]) (g := gName 5) rfl sc_web.nd (pi_range2 rfl B.rng (pa_cons (pe_op op_add (pv 4) pe_int) (pa_cons pe_int pa_nil))) (blkOk_by (N := ["_law_stock_here", "_law_many", "_law_ties", "_law_found", "_law_i", "_law_j", "_law_turn", "_law_k"]) (sc := defScope s__law_web) (by decide +kernel)) (fun _ _ _ _ _ => (pg_name (i := 5) sc_web.nd rfl (Or.inl rfl))) (fun _ _ _ _ _ => pts_nil) (fun _ _ _ _ _ => (pe_tup (pa_cons (pv 4) (pa_cons (pv 5) pa_nil)))))))))
    (pss_cons (ps_while PassesOwn.never (PW.pt (by exact (pw_or (pt_cmpR op_gt (pe_len (pv 2) B.len) (pv 1) (nomark _)) (pw_or1 (PW.pt (by exact (pw_and (pt_cmpR (op_neD hr.units) (pv 2) (pe_lst pa_nil) (nomark _)) (pw_and1 (pt_cmpR op_eq (pe_cl CP (hr.mono (by decide)) (pa_cons (pv 0) (pa_cons pe_int pa_nil))) pe_int (nomark _)))))))))) (pss_one (ps_expr (pe_bm PySem.F.plainAttrs_list PySem.F.slot_list_pop PySem.F.type_list_pop mt_popAt (pv 2) (pa_cons (pe_cl CP (hr.mono (by decide)) (pa_cons (pv 0) (pa_cons (pe_len (pv 2) B.len) pa_nil))) pa_nil)))))
    (pss_cons (ps_for PassesOwn.never rfl (pi_list (pv 2)) (pg_tup rfl (pgs_cons (pg_name (i := 4) sc_web.nd rfl (Or.inr rfl)) (pgs_cons (pg_name (i := 5) sc_web.nd rfl (Or.inr rfl)) pgs_nil)))
      (pss_cons (ps_set (i := 6) sc_web.nd rfl (.inr rfl) (pe_ifExp (pt_cmpR op_eq (pe_cl CP (hr.mono (by decide)) (pa_cons (pv 0) (pa_cons pe_int pa_nil))) pe_int (nomark _)) (pe_un un_neg pe_int) pe_int))
      (pss_one (ps_set (i := 3) sc_web.nd rfl (.inl rfl) (pe_op op_catA (pv 3) (pe_tup (pa_cons (pe_tup (pa_cons (pe_callTy call_tuple_of rfl B.tup bootTup (pa_cons (pe_lc (own := [("_law_k", 7)]) (g := gName 7) rfl sc_web.nd (pi_range1 rfl B.rng (pa_cons pe_int pa_nil)) (blkOk_by (N := ["_law_stock_here", "_law_many", "_law_ties", "_law_found", "_law_i", "_law_j", "_law_turn", "_law_k"]) (sc := defScope s__law_web) (by decide +kernel)) (fun _ _ _ _ _ => (pg_name (i := 7) sc_web.nd rfl (Or.inl rfl))) (fun _ _ _ _ _ => pts_nil) (fun _ _ _ _ _ => (pe_op op_mul (pv 6) (pe_op op_sub (pe_callTy call_int1 rfl B.int PyProof.Rows.boot_int (pa_cons (pe_cmpR op_eq (pv 7) (pv 4) (nomark _)) pa_nil)) (pe_callTy call_int1 rfl B.int PyProof.Rows.boot_int (pa_cons (pe_cmpR op_eq (pv 7) (pv 5) (nomark _)) pa_nil)))))) pa_nil)) (pa_cons pe_int pa_nil))) pa_nil)))))))
    (pss_one (ps_ret (pe_tup (pa_cons pe_int (pa_cons (pv 3) pa_nil))))))))), ?_⟩
  refine ⟨szN (by show 0 ≤ 1000000; decide), fun R nR => ⟨szN (by show 0 ≤ 1000000; decide), fun F nF => ⟨_, _, rfl, ?_⟩⟩⟩
  have r1 := (Gr.refl H).new nR (.lst [])
  have r2 := (Gr.refl (upd H R (.lst []))).new nF (.tup [])
  have eR := GrL.lst r2 (upd_same (H := H) (a := R) (o := .lst []))
  have eF : SqT K (upd (upd H R (.lst [])) F (.tup [])) F [] := SqT.of upd_same
  have sk1 := (hdk.gr r1).gr r2
  have nRd := hdk.ne nR
  have g1 := r1.trans r2
  generalize upd (upd H R (.lst [])) F (.tup []) = H1 at eR eF sk1 g1 ⊢
  clear r1 r2 nF
  refine ⟨_, rfl, by decide, by decide, for_range (lo := 0) (fun i σ H' => ∃ (R : Addr) (vs : List V) (Hq : Hp) (c4 c5 c6 c7 : Option V), σ = [some (.ref dk), some (.int ((m : Nat) : Int)), some (.ref R), some (.ref F), c4, c5, c6, c7] ∧ H' R = some (.lst vs) ∧ R ≠ dk ∧ Paired (PrV K H') vs (tiesTo i) ∧ Gr H Hq ∧ Hq R = none ∧ Gr Hq H' ∧ SqT K H' F [] ∧ Stk dk k H')
    ⟨R, [], H, _, _, _, _, rfl, eR, nRd, .nil, Gr.refl H, nR, g1, eF, sk1⟩ (fun i σ H2 hi h => ?_) (fun σ H2 h => ?_)⟩
  · clear eR eF sk1 nRd g1 nR
    obtain ⟨R, vs, Hq, c4, c5, c6, c7, rfl, hR, nRd, hp, gq, nq, g, hF, sk⟩ := h
    have hi4 : i < 4 := hi
    have lv : vs.length = (tiesTo i).length := paired_len hp
    have l6 := ties_len i (by omega)
    refine ⟨_, rfl, _, rfl, _, _, rfl, rfl, _, _, rfl, ⟨by omega, by omega, by omega, by omega⟩, fun D nD => ?_⟩
    have nRD : R ≠ D := ne_of_none hR nD
    refine lc_range (lo := 0 + (i : Int) + 1) (Pv := fun u H' => ∃ ys, H' D = some (.lst ys) ∧ Paired (PrV K H') ys ((List.range u).map fun b => (i, i + 1 + b)) ∧ GrD D H2 H') ⟨[], upd_same, .nil, (GrD.refl D H2).set _⟩ (fun u H' hu h => ?_) (fun H' h => ?_)
    · obtain ⟨ys, hD, hy, gD⟩ := h
      refine ⟨rfl, ?_⟩
      unfold L2.tYes
      refine iteT ?_
      refine ⟨_, rfl, _, rfl, szN (by show 2 ≤ 1000000; decide), fun pp np => ?_⟩
      have e1 : (0 : Int) + (i : Int) = ((i : Nat) : Int) := Int.zero_add _
      have e2 : (0 : Int) + (i : Int) + 1 + (u : Int) = ((i + 1 + u : Nat) : Int) := by omega
      rw [e2, e1]
      have rp := (Gr.refl H').new np (.tup [.int ((i : Nat) : Int), .int ((i + 1 + u : Nat) : Int)])
      have new : PrV K (upd H' pp (.tup [.int ((i : Nat) : Int), .int ((i + 1 + u : Nat) : Int)])) (.ref pp) (i, i + 1 + u) := ⟨pp, rfl, SqT.of upd_same⟩
      have hD' := GrL.lst rp hD
      have hy' : Paired (PrV K (upd H' pp (.tup [.int ((i : Nat) : Int), .int ((i + 1 + u : Nat) : Int)]))) ys ((List.range u).map fun b => (i, i + 1 + b)) := Paired.mapP hy fun _ _ z => z.gr rp
      have gD' := gD.gr rp
      generalize upd H' pp (.tup [.int ((i : Nat) : Int), .int ((i + 1 + u : Nat) : Int)]) = H3 at new hD' hy' gD' ⊢
      have ts : Tst K H3 (upd H3 D (.lst (ys ++ [.ref pp]))) := Tst.put hD'
      have ly := paired_len hy'
      rw [List.length_map, List.length_range] at ly
      refine ⟨ys, hD', small1000 (by omega), ys ++ [.ref pp], upd_same, ?_, gD'.set _⟩
      rw [List.range_succ, List.map_append]
      exact paired_app (Paired.mapP hy' fun _ _ z => z.st ts) (.cons (new.st ts) .nil)
    · obtain ⟨ys, hD, hy, gD⟩ := h
      have k2 := gD.to nD
      have hR' := GrL.lst k2 hR
      have en : ((4 : Int) - (0 + (i : Int) + 1)).toNat = 3 - i := by omega
      rw [en] at hy
      have ly := paired_len hy
      rw [List.length_map, List.length_range] at ly
      refine ⟨R, D, _, _, rfl, rfl, hR', hD, szN (by show _ ≤ 1000000; omega), fun p np => ?_⟩
      have rp := (Gr.refl H').new np (.lst (vs ++ ys))
      refine ⟨p, vs ++ ys, H', _, _, _, _, rfl, upd_same, ((sk.gr k2)).ne np, ?_, (gq.trans g).trans k2, np, rp, rp.seqT (k2.seqT hF), (sk.gr k2).gr rp⟩
      rw [ties_snoc]
      exact paired_app (Paired.mapP hp fun _ _ z => z.gr (k2.trans rp)) (Paired.mapP hy fun _ _ z => z.gr rp)
  clear eR eF sk1 nRd g1 nR
  obtain ⟨R, vs, Hq, c4, c5, c6, c7, rfl, hR, nRd, hp, gq, nq, g, hF, sk⟩ := h
  rw [show ((4 : Int)).toNat = 4 from rfl, ties_six] at hp
  have nd6 : six.Nodup := by decide
  let Pst : Nat → L2.St → Hp → Prop := fun u σ' H' => ∃ (L : List (Nat × Nat)) (vs : List V) (c4 c5 c6 c7 : Option V), σ' = [some (.ref dk), some (.int ((m : Nat) : Int)), some (.ref R), some (.ref F), c4, c5, c6, c7] ∧ H' R = some (.lst vs) ∧ Paired (PrV K H') vs L ∧ L.Nodup ∧ (∀ p, p ∈ L → p ∈ six) ∧ L.length ≤ 6 ∧ GrD dk Hq H' ∧ SqT K H' F [] ∧ Stk dk (k + u) H'
  refine seq_join (Pst 0) (fun σ' H3 h => ?_) (fun Kn hK => hK _ _ ⟨six, vs, _, _, _, _, rfl, hR, hp, nd6, fun p h => h, by decide, g.d dk, hF, sk⟩)
  clear hR hp g hF sk
  obtain ⟨L, vs, c4, c5, c6, c7, rfl, hR, hp, nd, ms, l6, g, hF, sk⟩ := h
  refine seq_join (Pst 14) (fun σ' H4 h => ?_) (fun Kn hK => ?_)
  · clear hR hp nd ms l6 g hF sk
    obtain ⟨L, vs, c4, c5, c6, c7, rfl, hR, hp, nd, ms, l6, g, hF, sk⟩ := h
    have lv : vs.length = L.length := paired_len hp
    refine ⟨_, rfl, R, rfl, ⟨_, SqL.of hR⟩, for_list (xs := vs) (fun i σ H' => ∃ (Fi : Addr) (fs : List V) (qs : List (List Int × Int)) (c4 c5 c6 c7 : Option V), σ = [some (.ref dk), some (.int ((m : Nat) : Int)), some (.ref R), some (.ref Fi), c4, c5, c6, c7] ∧ GrD dk H4 H' ∧ SqT K H' Fi fs ∧ Paired (QuV K H') fs qs ∧ TieQs (L.take i) qs ∧ Stk dk (k + 14 + i) H')
      ⟨F, [], [], _, _, _, _, rfl, GrD.refl dk H4, hF, .nil, .nil, sk⟩ (fun i σ H' _ h => ?_) (fun i x σ H' hx h => ?_) (fun σ H' h => ?_)⟩
    · obtain ⟨Fi, fs, qs, c4, c5, c6, c7, rfl, g4, _⟩ := h
      exact SqL.of (GrDL.lst g4 nRd hR)
    · obtain ⟨Fi, fs, qs, c4, c5, c6, c7, rfl, g4, hFi, hqs, ht, s4⟩ := h
      obtain ⟨p, ep, hp1⟩ := paired_get hp hx
      have hi : i < vs.length := (List.getElem?_eq_some_iff.mp hx).1
      obtain ⟨a, rfl, ta⟩ := hp1.st (g4.sk sk)
      refine ⟨a, _, rfl, ta, rfl, _, _, rfl, _, _, rfl, rfl, ?_⟩
      refine seq_join (fun σ' H5 => ∃ (tv : Int) (c7 : Option V), σ' = [some (.ref dk), some (.int ((m : Nat) : Int)), some (.ref R), some (.ref Fi), some (.int ((p.1 : Nat) : Int)), some (.int ((p.2 : Nat) : Int)), some (.int tv), c7] ∧ (tv = 1 ∨ tv = -1) ∧ GrD dk H4 H5 ∧ SqT K H5 Fi fs ∧ Paired (QuV K H5) fs qs ∧ Stk dk (k + 14 + (i + 1)) H5) (fun σ' H5 h => ?_) (fun Kn hK => ?_)
      · clear hFi hqs s4 g4 ta hp1
        obtain ⟨tv, c7, rfl, htv, g4, hFi, hqs, s4⟩ := h
        refine ⟨_, rfl, _, rfl, by decide, by decide, fun D nD => ?_⟩
        have lf := paired_len hqs
        have lq : qs.length = i := by
          have := (ht.ok fun p h => ms p (List.mem_of_mem_take h)).1
          rw [List.length_take] at this
          omega
        refine lc_range (lo := 0) (Pv := fun u H' => H' D = some (.lst (((List.range u).map fun k => tv * ((if k = p.1 then 1 else 0) - (if k = p.2 then 1 else 0))).map V.int)) ∧ GrD D H5 H') ⟨upd_same, (GrD.refl D H5).set _⟩ (fun u H' hu h => ?_) (fun H' h => ?_)
        · obtain ⟨hD, gD⟩ := h
          have hu : u < 4 := hu
          refine ⟨rfl, ?_⟩
          unfold L2.tYes
          refine iteT ?_
          refine ⟨_, rfl, _, rfl, _, rfl, rfl, .inr ⟨_, rfl, _, rfl, _, rfl, rfl, .inr ⟨_, rfl, _, _, rfl, rfl, _, _, rfl, rfl, .inl ⟨by omega, by omega⟩, _, hD, ?_, ?_, gD.set _⟩⟩⟩
          · rw [List.length_map, List.length_map, List.length_range]
            exact small1000 (by omega)
          · rw [upd_same, eq_dec, eq_dec, List.range_succ, List.map_append, List.map_append]
            rfl
        · obtain ⟨hD, gD⟩ := h
          have kD := gD.to nD
          refine ⟨D, _, rfl, .inl ⟨SqL.of hD, fun p1 n1 => ⟨szN (by show 2 ≤ 1000000; decide), fun p2 n2 => ⟨szN (by show 1 ≤ 1000000; decide), fun p3 n3 => ?_⟩⟩⟩⟩
          have q1 := (Gr.refl H').new n1 (.tup (((List.range 4).map fun k => tv * ((if k = p.1 then 1 else 0) - (if k = p.2 then 1 else 0))).map V.int))
          have t1 : SqT K (upd H' p1 (.tup (((List.range 4).map fun k => tv * ((if k = p.1 then 1 else 0) - (if k = p.2 then 1 else 0))).map V.int))) p1 ((tieQ tv p).1.map V.int) := SqT.of upd_same
          have q2 := (Gr.refl _).new n2 (.tup [.ref p1, .int 0])
          have hq2 : QuV K (upd (upd H' p1 (.tup (((List.range 4).map fun k => tv * ((if k = p.1 then 1 else 0) - (if k = p.2 then 1 else 0))).map V.int))) p2 (.tup [.ref p1, .int 0])) (.ref p2) (tieQ tv p) := ⟨p2, _, rfl, SqT.of upd_same, p1, rfl, q2.seqT t1⟩
          have q3 := (Gr.refl _).new n3 (.tup [.ref p2])
          have t3 : SqT K _ p3 [.ref p2] := SqT.of (upd_same (H := upd (upd H' p1 (.tup (((List.range 4).map fun k => tv * ((if k = p.1 then 1 else 0) - (if k = p.2 then 1 else 0))).map V.int))) p2 (.tup [.ref p1, .int 0])) (a := p3) (o := .tup [.ref p2]))
          have hq3 := hq2.gr q3
          have kz := kD.trans ((q1.trans q2).trans q3)
          refine rcat (K := K) (kz.seqT hFi) t3 (by show _ + 1 ≤ 1000; omega) fun c H9 g9 hc => ?_
          have k9 := kz.trans g9
          refine ⟨c, fs ++ [.ref p2], qs ++ [tieQ tv p], _, _, _, _, rfl, g4.gr k9, hc, paired_app (Paired.mapP hqs fun _ _ z => z.gr k9) (.cons (hq3.gr g9) .nil), ?_, s4.gr k9⟩
          rw [List.take_add_one, ep, Option.toList_some]
          exact .snoc ht htv
      · refine ⟨_, rfl, dk, 3, _, rfl, s4, by omega, by decide, by decide +kernel, fun t H5 t0 t1 g5 s5 => ⟨rfl, _, rfl, ?_⟩⟩
        have st : Tst K H' H5 := g5.sk s4
        by_cases c : t = 0
        · exact iteP (by rw [c]) ⟨_, rfl, hK _ _ ⟨-1, _, rfl, .inr rfl, g4.trans g5, st _ _ hFi, Paired.mapP hqs fun _ _ z => z.st st, s5⟩⟩
        · exact iteN (fun z => c (by injection z)) (hK _ _ ⟨1, _, rfl, .inl rfl, g4.trans g5, st _ _ hFi, Paired.mapP hqs fun _ _ z => z.st st, s5⟩)
    · obtain ⟨Fi, fs, qs, c4, c5, c6, c7, rfl, g4, hFi, hqs, ht, s4⟩ := h
      rw [lv, List.take_length] at ht
      refine ⟨_, rfl, szN (by show 2 ≤ 1000000; decide), fun pz nz => ?_⟩
      have rz := (Gr.refl H').new nz (.tup [.int 4, .ref Fi])
      obtain ⟨bo, sm⟩ := ht.book ms nd l6
      exact hQ _ qs _ (((gq.d dk).trans (g.trans g4)).gr rz) ((s4.gr rz).more (by omega)) ⟨pz, Fi, fs, rfl, SqT.of upd_same, rz.seqT hFi, Paired.mapP hqs fun _ _ z => z.gr rz⟩ bo sm
  · let W : Nat → L2.St → Hp → Prop := fun mm σ' H' => ∃ (L : List (Nat × Nat)) (vs : List V) (c4 c5 c6 c7 : Option V), σ' = [some (.ref dk), some (.int ((m : Nat) : Int)), some (.ref R), some (.ref F), c4, c5, c6, c7] ∧ H' R = some (.lst vs) ∧ Paired (PrV K H') vs L ∧ L.Nodup ∧ (∀ p, p ∈ L → p ∈ six) ∧ L.length = mm ∧ mm ≤ 6 ∧ GrD dk Hq H' ∧ SqT K H' F [] ∧ Stk dk (k + 2 * (6 - mm)) H'
    refine ⟨W, ⟨L.length, L, vs, _, _, _, _, rfl, hR, hp, nd, ms, rfl, l6, g, hF, sk.more (by omega)⟩, fun mm σ' H' h => ?_⟩
    clear hR hp nd ms l6 g hF sk
    obtain ⟨L, vs, c4, c5, c6, c7, rfl, hR, hp, nd, ms, lm, l6, g, hF, sk⟩ := h
    have lv : vs.length = L.length := paired_len hp
    -- a turn: one tie out
    have turn : ∀ (H5 : Hp), 0 < L.length → H5 R = some (.lst vs) → Paired (PrV K H5) vs L → GrD dk Hq H5 → SqT K H5 F [] → Stk dk (k + 2 * (6 - mm) + 1) H5 → ∀ (Kt : L2.St → Hp → Prop), (∀ σ H, (∃ (L : List (Nat × Nat)) (vs : List V) (c4 c5 c6 c7 : Option V), σ = [some (.ref dk), some (.int ((m : Nat) : Int)), some (.ref R), some (.ref F), c4, c5, c6, c7] ∧ H R = some (.lst vs) ∧ Paired (PrV K H) vs L ∧ L.Nodup ∧ (∀ p, p ∈ L → p ∈ six) ∧ L.length = mm - 1 ∧ mm - 1 ≤ 6 ∧ GrD dk Hq H ∧ SqT K H F [] ∧ Stk dk (k + 2 * (6 - (mm - 1))) H) → Kt σ H) →
        spPick [.ref dk, .int ((vs.length : Nat) : Int)] H5 (fun v H6 => ∃ l xs i kk y, (V.ref R) = .ref l ∧ [v] = [.int i] ∧ H6 l = some (.lst xs) ∧ -(2 ^ 63) ≤ i ∧ i < 2 ^ 63 ∧ PySem.seqIndex? i xs.length = some kk ∧ xs[kk]? = some y ∧ Kt [some (.ref dk), some (.int ((m : Nat) : Int)), some (.ref R), some (.ref F), c4, c5, c6, c7] (upd H6 l (.lst (xs.eraseIdx kk)))) E0 := fun H5 lp hR5 hp5 g5 hF5 s5 Kt hKt => by
      refine ⟨dk, _, _, rfl, s5, by omega, by omega, big_take (by omega), fun t H6 t0 t1 g6 s6 => ?_⟩
      obtain ⟨kt, rfl⟩ : ∃ j : Nat, t = (j : Int) := ⟨t.toNat, by omega⟩
      have hk : kt < vs.length := by omega
      have hR6 := GrDL.lst g6 nRd hR5
      have st6 : Tst K H5 H6 := g6.sk s5
      have ts : Tst K H6 (upd H6 R (.lst (vs.eraseIdx kt))) := Tst.put hR6
      refine ⟨R, vs, _, kt, _, rfl, rfl, hR6, by omega, by omega, seqIx_nat hk, List.getElem?_eq_getElem hk, hKt _ _ ⟨L.eraseIdx kt, vs.eraseIdx kt, _, _, _, _, rfl, upd_same, paired_erase kt (Paired.mapP hp5 fun _ _ z => (z.st st6).st ts), nd.sublist (List.eraseIdx_sublist _ _), fun p h => ms p (List.mem_of_mem_eraseIdx h), ?_, by omega, (g5.trans g6).put nq _, ts _ _ (st6 _ _ hF5), (s6.off nRd).more (by omega)⟩⟩
      rw [List.length_eraseIdx_of_lt (by omega), lm]
    refine ⟨_, rfl, R, vs, rfl, .inl (SqL.of hR), _, rfl, _, _, rfl, rfl, _, rfl, ?_⟩
    by_cases c : ((m : Nat) : Int) < ((vs.length : Nat) : Int)
    · refine iteP c (iteT ⟨W (mm - 1), fun σ H h => ⟨mm - 1, by omega, h⟩, ?_⟩)
      refine ⟨_, rfl, .inl ⟨rfl, _, SqL.of hR⟩, _, rfl, _, rfl, R, vs, rfl, .inl (SqL.of hR), ?_⟩
      exact turn H' (by omega) hR hp g hF (sk.more (by omega)) (W (mm - 1)) fun σ H h => h
    refine iteN c ?_
    refine ⟨_, rfl, szN (by show 0 ≤ 1000000; decide), fun pe ne => ?_⟩
    have re := (Gr.refl H').new ne (.lst [])
    have hp5 : Paired (PrV K (upd H' pe (.lst []))) vs L := Paired.mapP hp fun _ _ z => z.gr re
    have hR5 := GrL.lst re hR
    refine ⟨.list (L.map prP), .list [], .lst (SqL.of hR5) (dp_prs hp5), .lst (SqL.of upd_same) .nil, shp_prs L, by decide, _, rfl, ?_⟩
    rw [eqv_nilL]
    have hF5 := re.seqT hF
    have g5 := g.gr re
    have s5 := sk.gr re
    generalize upd H' pe (.lst []) = H5 at hp5 hR5 hF5 g5 s5 ⊢
    clear hR hp g hF sk re
    cases hL : L with
    | nil =>
      refine iteF (iteF (hK _ _ ⟨[], vs, _, _, _, _, rfl, hR5, by rw [← hL]; exact hp5, List.nodup_nil, (fun p h => nomatch h), Nat.zero_le _, g5, hF5, s5.more (by omega)⟩))
    | cons p0 L0 =>
      have lp : 0 < L.length := by rw [hL]; exact Nat.succ_pos _
      clear hL
      refine iteT ⟨_, rfl, dk, 4, _, rfl, s5, by omega, by decide, by decide +kernel, fun t H6 t0 t1 g6 s6 => ⟨rfl, _, rfl, ?_⟩⟩
      have hR6 := GrDL.lst g6 nRd hR5
      have st6 : Tst K H5 H6 := g6.sk s5
      have hp6 : Paired (PrV K H6) vs L := Paired.mapP hp5 fun _ _ z => z.st st6
      by_cases ct : t = 0
      · refine iteP (by rw [ct]) ⟨W (mm - 1), fun σ H h => ⟨mm - 1, by omega, h⟩, ?_⟩
        refine ⟨_, rfl, .inl ⟨rfl, _, SqL.of hR6⟩, _, rfl, _, rfl, R, vs, rfl, .inl (SqL.of hR6), ?_⟩
        exact turn H6 lp hR6 hp6 (g5.trans g6) (st6 _ _ hF5) s6 (W (mm - 1)) fun σ H h => h
      · exact iteN (fun z => ct (by injection z)) (hK _ _ ⟨L, vs, _, _, _, _, rfl, hR6, hp6, nd, ms, by omega, g5.trans g6, st6 _ _ hF5, s6.more (by omega)⟩)
end
end SB
namespace SB
open PySem L2 GxR GA RZ
theorem nodup_addK {α : Type} {l : List α} {a : α} (h : l.Nodup) (n : a ∉ l) : (l ++ [a]).Nodup := by
  rw [List.nodup_append]
  refine ⟨h, by simp, fun b hb c hc e => ?_⟩
  rw [List.mem_singleton.mp hc] at e
  rw [e] at hb
  exact n hb
section
variable {P : Program} {w : World} {K : PySem.W.Frag} {mg : Str → Option Value} {base : Heap}
def spLBook (K : PySem.W.Frag) : Sp := fun vs H Q _ => ∃ dk mn m k, vs = [.ref dk, .int ((mn : Nat) : Int), .int ((m : Nat) : Int)] ∧ Stk dk k H ∧ k ≤ 800000 ∧ mn ≤ 6 ∧ 1 ≤ m ∧ m ≤ 9 ∧
  ∀ v n qs H', GrD dk H H' → Stk dk (k + 200) H' → BkV K H' v n qs → BOk n qs → n ≤ 4 → (∀ q, q ∈ qs → QSm n q ∧ q.2.natAbs ≤ 20) → Q v H'
theorem sc_lbook : FnScope ["_law_stock_here", "_law_many", "_law_most", "_law_d", "_law_questions", "_law_turn", "_law_question_here", "_law_sides", "_law_shut"] ["_law_stock_here", "_law_many", "_law_most"] (defScope s__law_book) := ⟨rfl, rfl, rfl, by decide +kernel, rfl, by decide +kernel, by decide +kernel⟩
theorem cl_lbook (D : Df K mg "_law_book" s__law_book) (B : Blt mg) (CP : Cl P w K mg base 1 "_law_pick" ["_law_stock_here", "_law_many"] spPick) (CW : Cl P w K mg base 2 "_law_web" ["_law_stock_here", "_law_many"] (spWeb K)) (CQ : Cl P w K mg base 2 "_law_question" ["_law_stock_here", "_law_d", "_law_most"] (spQn K))
    (CN : Cl P w K mg base 3 "_law_is_new" ["_law_questions", "_law_question_here", "_law_d"] (spIsNew K)) : Cl P w K mg base 4 "_law_book" ["_law_stock_here", "_law_many", "_law_most"] (spLBook K) := by
  refine D.cl (fun _ _ _ _ _ _ us hl => match us, hl with | [_, _, _], _ => rfl) fun f fd F => F.ok sc_lbook (fun vs H Q E h => ?_) (fun cdv A outer s H vs Q E hr h => ?_)
  · obtain ⟨dk, mn, m, k, rfl, _⟩ := h
    rfl
  obtain ⟨dk, mn, m, k, rfl, hdk, k9, mn6, m1, m9, hQ⟩ := h
  refine ⟨_, (pss_cons (ps_if (pt_cmpR op_eq (pe_cl CP (hr.mono (by decide)) (pa_cons (pv 0) (pa_cons pe_int pa_nil))) pe_int (nomark _)) (pss_one (ps_ret (pe_cl CW (hr.mono (by decide)) (pa_cons (pv 0) (pa_cons (pv 1) pa_nil))))) pss_nil)
    (pss_cons (ps_par (i := 3) (j := 4) rfl sc_lbook.nd rfl rfl (by decide) rfl rfl (pa_cons (pe_ix ix_list (pe_lst (pa_cons pe_int (pa_cons pe_int (pa_cons pe_int (pa_cons pe_int pa_nil))))) (pe_cl CP (hr.mono (by decide)) (pa_cons (pv 0) (pa_cons pe_int pa_nil))) (fun _ _ => rfl)) (pa_cons (pe_tup pa_nil) pa_nil)) rfl)
    (pss_cons (ps_for PassesOwn.never rfl (pi_range1 rfl B.rng (pa_cons (pe_ix ix_list (pe_lst (pa_cons (pv 1) (pa_cons (pv 1) (pa_cons (pe_op op_sub (pv 1) pe_int) (pa_cons (pe_cl CP (hr.mono (by decide)) (pa_cons (pv 0) (pa_cons (pe_op op_add (pv 1) pe_int) pa_nil))) pa_nil))))) (pe_cl CP (hr.mono (by decide)) (pa_cons (pv 0) (pa_cons pe_int pa_nil))) (fun _ _ => rfl)) pa_nil)) (pg_name (i := 5) sc_lbook.nd rfl (Or.inl rfl))
      (pss_cons (ps_set (i := 6) sc_lbook.nd rfl (.inl rfl) (pe_cl CQ (hr.mono (by decide)) (pa_cons (pv 0) (pa_cons (pv 3) (pa_cons (pv 2) pa_nil)))))
      (pss_cons (ps_if (PW.pt (by exact (pw_and (pt_cmpR (op_neD hr.units) (pv 4) (pe_tup pa_nil) (nomark _)) (pw_and1 (pt_cmpR op_eq (pe_cl CP (hr.mono (by decide)) (pa_cons (pv 0) (pa_cons pe_int pa_nil))) pe_int (nomark _)))))) (pss_cons (ps_asg (pe_ix ix_tup (pv 4) (pe_cl CP (hr.mono (by decide)) (pa_cons (pv 0) (pa_cons (pe_len (pv 4) B.len) pa_nil))) (fun _ _ => rfl)) (pg_tup rfl (pgs_cons (pg_name (i := 7) sc_lbook.nd rfl (Or.inl rfl)) (pgs_cons (pg_name (i := 8) sc_lbook.nd rfl (Or.inl rfl)) pgs_nil))))
        (pss_one (ps_set (i := 6) sc_lbook.nd rfl (.inl rfl) (pe_tup (pa_cons (pv 7) (pa_cons (pe_op op_add (pe_op op_add (pv 8) pe_int) (pe_cl CP (hr.mono (by decide)) (pa_cons (pv 0) (pa_cons (pv 2) pa_nil)))) pa_nil)))))) pss_nil)
      (pss_one (ps_if (PW.pt (by exact (pw_and (pt_cmpR op_lt (pe_ix ix_tup (pv 6) pe_int (fun _ _ => rfl)) pe_int (nomark _)) (pw_and1 (pt_val (pe_cl CN (hr.mono (by decide)) (pa_cons (pv 4) (pa_cons (pv 6) (pa_cons (pv 3) pa_nil))))))))) (pss_one (ps_set (i := 4) sc_lbook.nd rfl (.inl rfl) (pe_op op_catA (pv 4) (pe_tup (pa_cons (pv 6) pa_nil))))) pss_nil)))))
    (pss_one (ps_ret (pe_tup (pa_cons (pv 3) (pa_cons (pv 4) pa_nil)))))))), ?_⟩
  refine ⟨_, rfl, dk, 6, _, rfl, hdk, by omega, by decide, by decide +kernel, fun t0 H1 t00 t01 g1 s1 => ⟨rfl, _, rfl, ?_⟩⟩
  by_cases c0 : t0 = 0
  · exact iteP (by rw [c0]) ⟨_, rfl, _, rfl, dk, mn, _, rfl, s1, by omega, fun v qs H2 g2 s2 hv ok sm => hQ v 4 qs H2 (g1.trans g2) (s2.more (by omega)) hv ok (by decide) sm⟩
  refine iteN (fun z => c0 (by injection z)) ?_
  refine ⟨szN (by show 4 ≤ 1000000; decide), fun L nL => ?_⟩
  have r2 := (Gr.refl H1).new nL (.lst [.int 1, .int 2, .int 2, .int 3])
  have eL : (upd H1 L (.lst [.int 1, .int 2, .int 2, .int 3])) L = some (.lst [.int 1, .int 2, .int 2, .int 3]) := upd_same
  have nLd := s1.ne nL
  have s2 := s1.gr r2
  have g2 := g1.gr r2
  generalize upd H1 L (.lst [.int 1, .int 2, .int 2, .int 3]) = H2 at eL s2 g2 ⊢
  refine ⟨_, rfl, dk, 4, _, rfl, s2, by omega, by decide, by decide +kernel, fun t1 H3 t10 t11 g3 s3 => ?_⟩
  have hn : ∃ n : Nat, atI ([.int 1, .int 2, .int 2, .int 3] : List V) t1 = some (.int ((n : Nat) : Int)) ∧ 1 ≤ n ∧ n ≤ 3 := by
    have : t1 = 0 ∨ t1 = 1 ∨ t1 = 2 ∨ t1 = 3 := by omega
    rcases this with rfl | rfl | rfl | rfl
    · exact ⟨1, rfl, by decide, by decide⟩
    · exact ⟨2, rfl, by decide, by decide⟩
    · exact ⟨2, rfl, by decide, by decide⟩
    · exact ⟨3, rfl, by decide, by decide⟩
  obtain ⟨n, an, n1, n3⟩ := hn
  refine ⟨L, _, _, _, rfl, rfl, SqL.of (GrDL.lst g3 nLd eL), an, szN (by show 0 ≤ 1000000; decide), fun F nF => ⟨_, _, rfl, ?_⟩⟩
  have r4 := (Gr.refl H3).new nF (.tup [])
  have eF : SqT K (upd H3 F (.tup [])) F [] := SqT.of upd_same
  have s4 := s3.gr r4
  have g4 := (g2.trans g3).gr r4
  generalize upd H3 F (.tup []) = H4 at eF s4 g4 ⊢
  clear eL nLd s2 g2 s3 g3 an r4 r2 nF nL s1 g1
  refine ⟨_, rfl, _, rfl, _, rfl, _, _, rfl, rfl, _, rfl, _, rfl, _, _, rfl, rfl, dk, _, _, rfl, s4, by omega, by omega, big_take (n := mn + 1) (by omega), fun t2 H5 t20 t21 g5 s5 => ⟨szN (by show 4 ≤ 1000000; decide), fun L nL => ?_⟩⟩
  have r6 := (Gr.refl H5).new nL (.lst [.int ((mn : Nat) : Int), .int ((mn : Nat) : Int), .int (((mn : Nat) : Int) - 1), .int t2])
  have eL : (upd H5 L (.lst [.int ((mn : Nat) : Int), .int ((mn : Nat) : Int), .int (((mn : Nat) : Int) - 1), .int t2])) L = some (.lst [.int ((mn : Nat) : Int), .int ((mn : Nat) : Int), .int (((mn : Nat) : Int) - 1), .int t2]) := upd_same
  have nLd := s5.ne nL
  have s6 := s5.gr r6
  have g6 := (g4.trans g5).gr r6
  have eF6 : SqT K (upd H5 L (.lst [.int ((mn : Nat) : Int), .int ((mn : Nat) : Int), .int (((mn : Nat) : Int) - 1), .int t2])) F [] := r6.seqT ((g5.sk s4) _ _ eF)
  generalize upd H5 L (.lst [.int ((mn : Nat) : Int), .int ((mn : Nat) : Int), .int (((mn : Nat) : Int) - 1), .int t2]) = H6 at eL s6 g6 eF6 ⊢
  refine ⟨_, rfl, dk, 4, _, rfl, s6, by omega, by decide, by decide +kernel, fun t3 H7 t30 t31 g7 s7 => ?_⟩
  have hr' : ∃ r : Int, atI ([.int ((mn : Nat) : Int), .int ((mn : Nat) : Int), .int (((mn : Nat) : Int) - 1), .int t2] : List V) t3 = some (.int r) ∧ -1 ≤ r ∧ r ≤ 6 := by
    have : t3 = 0 ∨ t3 = 1 ∨ t3 = 2 ∨ t3 = 3 := by omega
    rcases this with rfl | rfl | rfl | rfl
    · exact ⟨_, rfl, by omega, by omega⟩
    · exact ⟨_, rfl, by omega, by omega⟩
    · exact ⟨_, rfl, by omega, by omega⟩
    · exact ⟨_, rfl, by omega, by omega⟩
  obtain ⟨r, ar, ra, rb⟩ := hr'
  have eF7 : SqT K H7 F [] := (g7.sk s6) _ _ eF6
  refine ⟨L, _, _, _, rfl, rfl, SqL.of (GrDL.lst g7 nLd eL), ar, _, rfl, by omega, by omega, for_range (lo := 0) (fun i σ H' => ∃ (Qa : Addr) (xs : List V) (qs : List (List Int × Int)) (c5 c6 c7 c8 : Option V), σ = [some (.ref dk), some (.int ((mn : Nat) : Int)), some (.int ((m : Nat) : Int)), some (.int ((n : Nat) : Int)), some (.ref Qa), c5, c6, c7, c8] ∧ SqT K H' Qa xs ∧ Paired (QuV K H') xs qs ∧ (∀ q, q ∈ qs → QSm n q ∧ q.2.natAbs ≤ 9) ∧ (qs.map nfU).Nodup ∧ qs.length ≤ i ∧ GrD dk H H' ∧ Stk dk (k + 10 + 13 * i) H')
    ⟨F, [], [], _, _, _, _, rfl, eF7, .nil, (fun q h => nomatch h), List.nodup_nil, Nat.le_refl _, g6.trans g7, s7.more (by omega)⟩ (fun i σ H' hi h => ?_) (fun σ H' h => ?_)⟩
  · clear eF eF6 eF7 eL nLd s4 s5 s6 s7 g4 g5 g6 g7 ar r6 nL
    obtain ⟨Qa, xs, qs, c5, c6, c7, c8, rfl, hqa, hp, sm, nd, ln, g, sk⟩ := h
    have i6 : i < 6 := by omega
    refine ⟨_, rfl, _, rfl, _, rfl, dk, n, m, _, rfl, sk, by omega, n1, by omega, m1, m9, fun v q H8 g8 s8 hv qsm w9 => ?_⟩
    have st8 : Tst K H' H8 := g8.sk sk
    let Pst : Nat → L2.St → Hp → Prop := fun u σ' H' => ∃ (v : V) (q : List Int × Int) (c5 c7 c8 : Option V), σ' = [some (.ref dk), some (.int ((mn : Nat) : Int)), some (.int ((m : Nat) : Int)), some (.int ((n : Nat) : Int)), some (.ref Qa), c5, some v, c7, c8] ∧ QuV K H' v q ∧ QSm n q ∧ q.2.natAbs ≤ 20 ∧ -9 ≤ q.2 ∧ SqT K H' Qa xs ∧ Paired (QuV K H') xs qs ∧ GrD dk H H' ∧ Stk dk (k + 10 + 13 * i + u) H'
    refine seq_join (Pst 10) (fun σ' H9 h => ?_) (fun Kn hK => hK _ _ ⟨v, q, _, _, _, rfl, hv, qsm, by omega, by omega, st8 _ _ hqa, Paired.mapP hp fun _ _ z => z.st st8, g.trans g8, s8⟩)
    clear hqa hp g sk g8 s8 hv qsm w9 st8
    obtain ⟨v, q, c5, c7, c8, rfl, hv, qsm, w20, wlo, hqa, hp, g, sk⟩ := h
    refine seq_join (Pst 13) (fun σ' HA h => ?_) (fun Kn hK => ?_)
    · clear hqa hp g sk hv qsm w20 wlo
      obtain ⟨v, q, c5, c7, c8, rfl, hv, qsm, w20, wlo, hqa, hp, g, sk⟩ := h
      obtain ⟨qa, sv, rfl, t1, sa, rfl, t2⟩ := id hv
      refine ⟨_, rfl, qa, _, _, _, rfl, rfl, t1, rfl, _, _, rfl, rfl, _, rfl, ?_⟩
      have stay : ∀ (HB : Hp), Gr HA HB → ∃ (Qa' : Addr) (xs : List V) (qs : List (List Int × Int)) (d5 d6 d7 d8 : Option V), [some (V.ref dk), some (.int ((mn : Nat) : Int)), some (.int ((m : Nat) : Int)), some (.int ((n : Nat) : Int)), some (.ref Qa), c5, some (.ref qa), c7, c8] = [some (.ref dk), some (.int ((mn : Nat) : Int)), some (.int ((m : Nat) : Int)), some (.int ((n : Nat) : Int)), some (.ref Qa'), d5, d6, d7, d8] ∧ SqT K HB Qa' xs ∧ Paired (QuV K HB) xs qs ∧ (∀ q, q ∈ qs → QSm n q ∧ q.2.natAbs ≤ 9) ∧ (qs.map nfU).Nodup ∧ qs.length ≤ i + 1 ∧ GrD dk H HB ∧ Stk dk (k + 10 + 13 * (i + 1)) HB := fun HB gB =>
        ⟨Qa, xs, qs, _, _, _, _, rfl, gB.seqT hqa, Paired.mapP hp fun _ _ z => z.gr gB, sm, nd, by omega, g.gr gB, (sk.gr gB).more (by omega)⟩
      by_cases c : q.2 < 10
      · refine iteP c ?_
        refine ⟨_, rfl, _, rfl, _, rfl, Qa, .ref qa, n, xs, qs, q, rfl, hqa, hp, hv, fun r hr => ⟨(sm r hr).1.ok (by have := (sm r hr).2; omega), (sm r hr).1.len⟩, qsm.ok w20, qsm.len, by omega, fun HB gB => ⟨_, rfl, ?_⟩⟩
        by_cases e : nfU q ∉ qs.map nfU
        · refine iteP e ?_
          refine ⟨_, rfl, _, rfl, szN (by show 1 ≤ 1000000; decide), fun p1 n1' => ?_⟩
          have r1 := (Gr.refl HB).new n1' (.tup [.ref qa])
          have lx := paired_len hp
          refine rcat (K := K) (r1.seqT (gB.seqT hqa)) (SqT.of upd_same) (by show _ + 1 ≤ 1000; omega) fun cc HC gC hC => ?_
          have kC := (gB.trans r1).trans gC
          refine ⟨cc, xs ++ [.ref qa], qs ++ [q], _, _, _, _, rfl, hC, paired_app (Paired.mapP hp fun _ _ z => z.gr kC) (.cons (hv.gr kC) .nil), fun r hr => ?_, ?_, by rw [List.length_append]; show _ + 1 ≤ _; omega, g.gr kC, (sk.gr kC).more (by omega)⟩
          · rcases List.mem_append.mp hr with h | h
            · exact sm r h
            · rw [List.mem_singleton.mp h]
              exact ⟨qsm, by omega⟩
          · rw [List.map_append]
            exact nodup_addK nd e
        · exact iteN e (stay HB gB)
      · exact iteN c (stay HA (Gr.refl HA))
    · refine ⟨_, rfl, szN (by show 0 ≤ 1000000; decide), fun pe ne => ?_⟩
      have re := (Gr.refl H9).new ne (.tup [])
      refine ⟨.tuple (qs.map quP), .tuple [], .tup (re.seqT hqa) (dp_qus (Paired.mapP hp fun _ _ z => QuV.gr z re)), .tup (SqT.of upd_same) .nil, shp_qus qs, by decide, _, rfl, ?_⟩
      rw [eqv_nilT]
      have hv1 := hv.gr re
      have hqa1 := re.seqT hqa
      have hp1 : Paired (QuV K (upd H9 pe (.tup []))) xs qs := Paired.mapP hp fun _ _ z => QuV.gr z re
      have g1 := g.gr re
      have s1 := sk.gr re
      generalize upd H9 pe (.tup []) = HA at hv1 hqa1 hp1 g1 s1 ⊢
      clear hv hqa hp g sk re
      cases hem : (qs.map quP).isEmpty with
      | true => exact iteF (iteF (hK _ _ ⟨v, q, _, _, _, rfl, hv1, qsm, w20, wlo, hqa1, hp1, g1, s1.more (by omega)⟩))
      | false =>
        have lq : 0 < qs.length := by
          cases qs with
          | nil => cases hem
          | cons _ _ => exact Nat.succ_pos _
        have lx := paired_len hp1
        refine iteT ⟨_, rfl, dk, 4, _, rfl, s1, by omega, by decide, by decide +kernel, fun t HB t0 t1 gB sB => ⟨rfl, _, rfl, ?_⟩⟩
        have stB : Tst K HA HB := gB.sk s1
        by_cases ct : t = 0
        · refine iteP (by rw [ct]) ?_
          refine ⟨_, rfl, _, rfl, _, rfl, Qa, xs, rfl, .inr (stB _ _ hqa1), dk, _, _, rfl, sB, by omega, by omega, big_take (by omega), fun u HC u0 u1 gC sC => ?_⟩
          obtain ⟨ku, rfl⟩ : ∃ j : Nat, u = (j : Int) := ⟨u.toNat, by omega⟩
          have stC : Tst K HA HC := stB.trans (gC.sk sB)
          have hk : ku < xs.length := by omega
          obtain ⟨r, er, hr'⟩ := paired_get (Paired.mapP hp1 fun _ _ z => QuV.st z stC) (List.getElem?_eq_getElem hk)
          obtain ⟨rsm, rw9⟩ := sm r (List.mem_of_getElem? er)
          generalize hx : xs[ku] = xv at hr'
          have ex : xs[ku]? = some xv := by rw [List.getElem?_eq_getElem hk, hx]
          obtain ⟨ra, rv, rfl, d1, da, rfl, d2⟩ := hr'
          refine ⟨Qa, xs, _, _, rfl, rfl, stC _ _ hqa1, atI_nat ex, ra, _, rfl, d1, rfl, _, _, rfl, _, _, rfl, rfl, ?_⟩
          refine ⟨_, rfl, _, rfl, _, _, rfl, rfl, _, rfl, _, rfl, dk, _, _, rfl, sC, by omega, by omega, big_take (n := m) (by omega), fun t3 HD t30 t31 gD sD => ⟨_, _, rfl, rfl, szN (by show 2 ≤ 1000000; decide), fun p2 n2 => ?_⟩⟩
          have stD : Tst K HA HD := stC.trans (gD.sk sC)
          have rz := (Gr.refl HD).new n2 (.tup [.ref da, .int (r.2 + 1 + t3)])
          exact hK _ _ ⟨.ref p2, (r.1, r.2 + 1 + t3), _, _, _, rfl, ⟨p2, _, rfl, SqT.of upd_same, da, rfl, rz.seqT ((gD.sk sC) _ _ d2)⟩, ⟨rsm.nz, rsm.ns, rsm.len⟩, by show (r.2 + 1 + t3).natAbs ≤ 20; omega, by show -9 ≤ r.2 + 1 + t3; omega, rz.seqT (stD _ _ hqa1), Paired.mapP hp1 fun _ _ z => (QuV.st z stD).gr rz, (((g1.trans gB).trans gC).trans gD).gr rz, (sD.gr rz).more (by omega)⟩
        · exact iteN (fun z => ct (by injection z)) (hK _ _ ⟨v, q, _, _, _, rfl, hv1.st stB, qsm, w20, wlo, stB _ _ hqa1, Paired.mapP hp1 fun _ _ z => QuV.st z stB, g1.trans gB, sB.more (by omega)⟩)
  · obtain ⟨Qa, xs, qs, c5, c6, c7, c8, rfl, hqa, hp, sm, nd, ln, g, sk⟩ := h
    have l6 : qs.length ≤ 6 := by omega
    refine ⟨_, rfl, _, rfl, szN (by show 2 ≤ 1000000; decide), fun pz nz => ?_⟩
    have rz := (Gr.refl H').new nz (.tup [.int ((n : Nat) : Int), .ref Qa])
    exact hQ _ n qs _ (g.gr rz) ((sk.gr rz).more (by omega)) ⟨pz, Qa, xs, rfl, SqT.of upd_same, rz.seqT hqa, Paired.mapP hp fun _ _ z => z.gr rz⟩ ⟨n1, by omega, by omega, fun q hq => ⟨(sm q hq).1.ok (by have := (sm q hq).2; omega), (sm q hq).1.len⟩, nd⟩ (by omega) fun q hq => ⟨(sm q hq).1, by have := (sm q hq).2; omega⟩
end
end SB
namespace SB
open PySem L2 GxR GA RZ
section
variable {P : Program} {w : World} {K : PySem.W.Frag} {mg : Str → Option Value} {base : Heap}
/-- ints by what divides them all -/
def spLDiv (K : PySem.W.Frag) : Sp := fun vs H Q _ => ∃ a zs, vs = [.ref a] ∧ SqL K H a (zs.map V.int) ∧ 0 < gcdL zs ∧ gcdL zs < 2 ^ 8000 ∧ zs.length ≤ 20 ∧ ∀ t H', Gr H H' → SqT K H' t ((zs.map fun z => z / ((gcdL zs : Nat) : Int)).map V.int) → Q (.ref t) H'
theorem sc_ldvd : FnScope ["_law_row", "_law_common", "_law_number", "_law_here", "_law_beside"] ["_law_row"] (defScope s__law_divided) := ⟨rfl, rfl, rfl, by decide +kernel, rfl, by decide +kernel, by decide +kernel⟩
theorem cl_ldvd (D : Df K mg "_law_divided" s__law_divided) (B : Blt mg) : Cl P w K mg base 1 "_law_divided" ["_law_row"] (spLDiv K) := by
  refine D.cl (fun _ _ _ _ _ _ us hl => match us, hl with | [_], _ => rfl) fun f fd F => F.ok sc_ldvd (fun vs H Q E h => ?_) (fun cdv A outer s H vs Q E hr h => ?_)
  · obtain ⟨a, zs, rfl, _⟩ := h
    rfl
  obtain ⟨a, zs, rfl, hS, g0, g8, lz, hQ⟩ := h
  refine ⟨_, (pss_cons (ps_set (i := 1) sc_ldvd.nd rfl (.inr rfl) pe_int)
    (pss_cons (ps_for PassesOwn.never rfl (pi_list (pv 0)) (pg_name (i := 2) sc_ldvd.nd rfl (Or.inl rfl))
      (pss_cons (ps_par (i := 3) (j := 4) rfl sc_ldvd.nd rfl rfl (by decide) rfl rfl (pa_cons (pe_callB call_abs rfl B.abs PyProof.Rows.boot_abs (pa_cons (pv 2) pa_nil)) (pa_cons (pv 1) pa_nil)) rfl)
      (pss_cons (ps_while PassesOwn.never (pt_cmpR op_ne (pv 4) pe_int (nomark _)) (pss_one (ps_par (i := 3) (j := 4) rfl sc_ldvd.nd rfl rfl (by decide) rfl rfl (pa_cons (pv 4) (pa_cons (pe_op op_mod (pe_callTy call_int1 rfl B.int PyProof.Rows.boot_int (pa_cons (pv 3) pa_nil)) (pv 4)) pa_nil)) rfl)))
      (pss_one (ps_set (i := 1) sc_ldvd.nd rfl (.inr rfl) (pv 3))))))
    (pss_one (ps_ret (pe_callTy call_tuple_of rfl B.tup bootTup (pa_cons (pe_lc (own := [("_law_number", 2)]) (g := gName 2) rfl sc_ldvd.nd (pi_list (pv 0)) (blkOk_by (N := ["_law_row", "_law_common", "_law_number", "_law_here", "_law_beside"]) (sc := defScope s__law_divided) (by decide +kernel)) (fun _ _ _ _ _ => (pg_name (i := 2) sc_ldvd.nd rfl (Or.inl rfl))) (fun _ _ _ _ _ => pts_nil) (fun _ _ _ _ _ => (pe_op op_fdivW (pv 2) (pv 1)))) pa_nil)))))), ?_⟩
  refine ⟨_, rfl, a, rfl, ⟨_, hS⟩, for_list (xs := zs.map V.int) (fun i σ H' => ∃ c2 c3 c4 : Option V, σ = [some (.ref a), some (.int ((gcdL (zs.take i) : Nat) : Int)), c2, c3, c4] ∧ H' = H) ⟨_, _, _, rfl, rfl⟩ (fun i σ H' _ h => ?_) (fun i x σ H' hx h => ?_) (fun σ H' h => ?_)⟩
  · obtain ⟨c2, c3, c4, rfl, rfl⟩ := h
    exact hS
  · obtain ⟨c2, c3, c4, rfl, rfl⟩ := h
    rw [List.getElem?_map] at hx
    obtain ⟨z, hz, rfl⟩ := Option.map_eq_some_iff.mp hx
    have e : gcdL (zs.take (i + 1)) = Nat.gcd (gcdL (zs.take i)) z.natAbs := fold_take (fun c (z : Int) => Nat.gcd c z.natAbs) 0 hz
    refine ⟨_, rfl, z, rfl, _, rfl, _, _, rfl, ?_⟩
    rw [abs_nat]
    refine ⟨fun m σ H1 => ∃ x y : Nat, σ = [some (.ref a), some (.int ((gcdL (zs.take i) : Nat) : Int)), some (.int z), some (.int (x : Int)), some (.int (y : Int))] ∧ H1 = H' ∧ m = y ∧ Nat.gcd x y = gcdL (zs.take (i + 1)), ⟨gcdL (zs.take i), z.natAbs, gcdL (zs.take i), rfl, rfl, rfl, by rw [e, Nat.gcd_comm]⟩, fun m σ H1 hw => ?_⟩
    obtain ⟨x, y, rfl, rfl, rfl, hg⟩ := hw
    refine ⟨_, rfl, rfl, _, rfl, ?_⟩
    by_cases hy : m = 0
    · subst hy
      rw [Nat.gcd_zero_right] at hg
      subst hg
      exact iteNS rfl ⟨_, rfl, _, _, _, rfl, rfl⟩
    · have hne : V.int ((m : Nat) : Int) ≠ V.int 0 := fun z => hy (by injection z with z; omega)
      rw [decide_eq_false hne]
      refine iteT ⟨fun σ H' => ∃ m', m' < m ∧ ∃ x y : Nat, σ = [some (.ref a), some (.int ((gcdL (zs.take i) : Nat) : Int)), some (.int z), some (.int (x : Int)), some (.int (y : Int))] ∧ H' = H1 ∧ m' = y ∧ Nat.gcd x y = gcdL (zs.take (i + 1)), fun σ' H' h => h, ?_⟩
      refine ⟨_, rfl, _, rfl, .inl ⟨_, rfl, _, rfl, _, _, rfl, rfl, by omega, _, _, rfl, x % m, Nat.mod_lt _ (by omega), m, x % m, ?_, rfl, rfl, ?_⟩⟩
      · simp
      · rw [← hg, Nat.gcd_comm x m, Nat.gcd_rec m x, Nat.gcd_comm]
  · obtain ⟨c2, c3, c4, rfl, rfl⟩ := h
    rw [List.length_map, List.take_length]
    have cd : CDivW 0 ((gcdL zs : Nat) : Int) := wide_div (b := 8000) (by omega) (by rw [Int.natAbs_natCast]; exact g8) (by decide) (by decide)
    refine ⟨_, rfl, a, rfl, ⟨_, hS⟩, fun D nD => lc_mapL (xs := zs.map V.int) (fun i y _ => ∃ z : Int, zs[i]? = some z ∧ y = .int (z / ((gcdL zs : Nat) : Int))) (fun _ _ _ _ h _ => h) nD hS (by rw [List.length_map]; omega) (fun i x H5 Kc hx g5 kc => ?_) (fun ys H5 hD hl5 g5 hR => ?_)⟩
    · rw [List.getElem?_map] at hx
      obtain ⟨z, hz, rfl⟩ := Option.map_eq_some_iff.mp hx
      exact ⟨rfl, _, rfl, _, rfl, _, _, rfl, rfl, cd, kc _ _ (Gr.refl _) ⟨z, hz, rfl⟩⟩
    · have ey : ys = (zs.map fun z => z / ((gcdL zs : Nat) : Int)).map V.int := by
        refine ints_at (by rw [hl5, List.length_map, List.length_map]) fun i y hy => ?_
        obtain ⟨z, hz, rfl⟩ := hR i y hy
        exact ⟨_, by rw [List.getElem?_map, hz]; rfl, rfl⟩
      subst ey
      refine ⟨D, _, rfl, .inl ⟨SqL.of hD, fun p np => ?_⟩⟩
      exact hQ p _ (g5.new np _) (SqT.of upd_same)
end
/-! ### what is merged -/
/-- L is the last place that is not 0 -/
def IsLast (s : List Int) (L : Nat) : Prop := L < s.length ∧ atR s L ≠ 0 ∧ ∀ j, L < j → atR s j = 0
theorem IsLast.one {s : List Int} {L M : Nat} (h : IsLast s L) (k : IsLast s M) : L = M := by
  rcases Nat.lt_trichotomy L M with c | c | c
  · exact absurd (h.2.2 M c) k.2.1
  · exact c
  · exact absurd (k.2.2 L c) h.2.1
/-- the other's share: its side at L, the sign of the own one's -/
def shareU (L : Nat) (b q : List Int × Int) : Int := if 0 < atR b.1 L then atR q.1 L else -atR q.1 L
def leftU (L : Nat) (b q : List Int × Int) : List Int := (List.range q.1.length).map fun k => ((atR b.1 L).natAbs : Int) * atR q.1 k - shareU L b q * atR b.1 k
def mergeU (L : Nat) (b q : List Int × Int) : List Int × Int := ((leftU L b q).eraseIdx L, ((atR b.1 L).natAbs : Int) * q.2 - shareU L b q * b.2)
/-- the questions left, those without sides out -/
def leftsU (L : Nat) (b : List Int × Int) (qs : List (List Int × Int)) : List (List Int × Int) := (qs.map (mergeU L b)).filter fun q => q.1.any fun z => decide (z ≠ 0)
def mergedU (L : Nat) (b : List Int × Int) (qs : List (List Int × Int)) : List (List Int × Int) := (keptU (leftsU L b qs)).map divU
theorem leftU_len (L : Nat) (b q : List Int × Int) : (leftU L b q).length = q.1.length := by
  unfold leftU
  rw [List.length_map, List.length_range]
theorem mergeU_len {L n : Nat} {b q : List Int × Int} (hq : q.1.length = n + 1) (hL : L < n + 1) : (mergeU L b q).1.length = n := by
  show ((leftU L b q).eraseIdx L).length = n
  rw [List.length_eraseIdx_of_lt (by rw [leftU_len, hq]; exact hL), leftU_len, hq]
  rfl
/-- widths -/
def WQ (b : Nat) (q : List Int × Int) : Prop := (∀ z, z ∈ q.1 → z.natAbs < 2 ^ b) ∧ q.2.natAbs < 2 ^ b
theorem WQ.at {b : Nat} {q : List Int × Int} (h : WQ b q) (k : Nat) : (atR q.1 k).natAbs < 2 ^ b := by
  by_cases c : k < q.1.length
  · rw [atR_get (List.getElem?_eq_getElem c)]
    exact h.1 _ (List.getElem_mem c)
  · rw [atR_out (by omega)]
    exact Nat.pow_pos (by decide)
theorem share_w {b L : Nat} {p q : List Int × Int} (hq : WQ b q) : (shareU L p q).natAbs < 2 ^ b := by
  unfold shareU
  split
  · exact hq.at L
  · rw [Int.natAbs_neg]
    exact hq.at L
theorem two_prod {b : Nat} {x y u v : Int} (hx : x.natAbs < 2 ^ b) (hy : y.natAbs < 2 ^ b) (hu : u.natAbs < 2 ^ b) (hv : v.natAbs < 2 ^ b) : (x * y - u * v).natAbs < 2 ^ (2 * b + 1) := by
  have h1 : (x * y).natAbs < 2 ^ (b + b) := wide_lt hx hy
  have h2 : (u * v).natAbs < 2 ^ (b + b) := wide_lt hu hv
  have e : 2 ^ (2 * b + 1) = 2 ^ (b + b) + 2 ^ (b + b) := by rw [show 2 * b + 1 = (b + b) + 1 from by omega, Nat.pow_succ]; omega
  omega
theorem mergeU_w {b L : Nat} {p q : List Int × Int} (hp : WQ b p) (hq : WQ b q) : WQ (2 * b + 1) (mergeU L p q) := by
  have hs := share_w (L := L) (p := p) hq
  have ha : ((atR p.1 L).natAbs : Int).natAbs < 2 ^ b := by rw [Int.natAbs_natCast]; exact hp.at L
  refine ⟨fun z hz => ?_, two_prod ha hq.2 hs hp.2⟩
  have hz : z ∈ leftU L p q := List.mem_of_mem_eraseIdx hz
  obtain ⟨k, _, rfl⟩ := List.mem_map.mp hz
  exact two_prod ha (hq.at k) hs (hp.at k)
end SB
namespace SB
open PySem L2 GxR GA RZ
theorem rsl {K : PySem.W.Frag} {H : Hp} {a : Addr} {xs : List V} {lo hi : Option Int} {Kc : VK} (ha : SqT K H a xs) (cont : ∀ c H', Gr H H' → SqT K H' c (cutV xs lo hi) → Kc (.ref c) H') : L2.rSlA K (.ref a) lo hi H Kc :=
  ⟨a, xs, rfl, ha, fun e => cont a H (Gr.refl H) (by
    have : cutV xs lo hi = xs := by
      unfold cutV
      rw [e.1, e.2]
      simp
    rw [this]
    exact ha), fun _ p np => cont p _ ((Gr.refl H).new np _) (SqT.of upd_same)⟩
theorem rslF {K : PySem.W.Frag} {σ : L2.St} {H : Hp} {a : Addr} {xs : List V} {lo : Option Int} {Kc : VK} (ha : SqT K H a xs) (cont : ∀ c H', Gr H H' → SqT K H' c (cutV xs lo none) → Kc (.ref c) H') : L2.tNoPart σ H (fun u H3 => L2.rSlA K (.ref a) lo u H3 Kc) := rsl (lo := lo) (hi := none) ha cont
theorem vat_neg1 {α : Type} {xs : List α} {x : α} : atI (xs ++ [x]) (-1) = some x := by
  have hl : (xs ++ [x]).length = xs.length + 1 := by rw [List.length_append]; rfl
  have e : L2.ixN (xs ++ [x]).length (-1) = some xs.length := by
    unfold L2.ixN
    rw [if_neg (by decide), hl]
    by_cases c : (-1 : Int) + ((xs.length + 1 : Nat) : Int) < 0
    · omega
    · have e1 : ((-1 : Int) + ((xs.length + 1 : Nat) : Int)).toNat = xs.length := by omega
      simp only [e1]
      simp
      omega
  unfold atI
  rw [e]
  show (xs ++ [x])[xs.length]? = some x
  rw [List.getElem?_append_right (Nat.le_refl _), Nat.sub_self]
  rfl
theorem vsIx_last {n : Nat} (d : Nat) (h : 0 < n) : HT.sIx n d (some (-1)) = n - 1 := by
  show (if (-1 : Int) < 0 then ((-1 : Int) + (n : Int)).toNat else min (-1 : Int).toNat n) = n - 1
  rw [if_pos (by decide)]
  omega
theorem vcut_last (xs : List V) (x : V) : cutV (xs ++ [x]) none (some (-1)) = xs := by
  have hl : (xs ++ [x]).length = xs.length + 1 := by rw [List.length_append]; rfl
  unfold cutV
  rw [vsIx_last _ (by rw [hl]; exact Nat.succ_pos _), HT.sIx_none, List.drop_zero, hl]
  simp

instance nzDec (l : List Int) : Decidable (NonZ l) := inferInstanceAs (Decidable ((l.any fun z => decide (z ≠ 0)) = true))
theorem WQ.ok {b : Nat} {q : List Int × Int} (h : WQ b q) (l : b ≤ 10000) (nz : NonZ q.1) : QOk q := ⟨nz, fun z hz => Nat.lt_of_lt_of_le (h.1 z hz) (two_le l), Nat.lt_of_lt_of_le h.2 (two_le l)⟩
theorem gcdL_w {b : Nat} {q : List Int × Int} (h : WQ b q) (nz : NonZ q.1) : 0 < gcdL (q.1 ++ [q.2]) ∧ gcdL (q.1 ++ [q.2]) < 2 ^ b := by
  have g0 := nonZ_g nz
  obtain ⟨z, hz, z0⟩ := nz.ex
  have d : gcdL (q.1 ++ [q.2]) ∣ z.natAbs := gcdL_dvd (List.mem_append_left _ hz)
  exact ⟨g0, Nat.lt_of_le_of_lt (Nat.le_of_dvd (by omega) d) (h.1 z hz)⟩
theorem lefts_snoc (L : Nat) (b : List Int × Int) (l : List (List Int × Int)) (q : List Int × Int) : leftsU L b (l ++ [q]) = if NonZ (mergeU L b q).1 then leftsU L b l ++ [mergeU L b q] else leftsU L b l := by
  unfold leftsU
  rw [List.map_append, List.filter_append]
  by_cases c : NonZ (mergeU L b q).1
  · rw [if_pos c]
    have c' : ((mergeU L b q).1.any fun z => decide (z ≠ 0)) = true := c
    simp only [List.map_cons, List.map_nil, List.filter_cons, c', if_true, List.filter_nil]
  · rw [if_neg c]
    have c' : ((mergeU L b q).1.any fun z => decide (z ≠ 0)) = false := by
      cases e : ((mergeU L b q).1.any fun z => decide (z ≠ 0)) with
      | true => exact absurd e c
      | false => rfl
    simp only [List.map_cons, List.map_nil, List.filter_cons, c', List.filter_nil]
    simp
theorem merged_nf {L : Nat} {b : List Int × Int} {l : List (List Int × Int)} (h : ∀ r, r ∈ leftsU L b l → QOk r) : (mergedU L b l).map nfU = (keptU (leftsU L b l)).map nfU := by
  unfold mergedU
  rw [List.map_map]
  exact List.map_congr_left fun q hq => nf_div (h q (kept_sub _ q hq))
theorem merged_snoc {L : Nat} {b : List Int × Int} {l : List (List Int × Int)} {q : List Int × Int} (h : ∀ r, r ∈ leftsU L b l → QOk r) (hq : NonZ (mergeU L b q).1 → QOk (mergeU L b q)) :
    mergedU L b (l ++ [q]) = if NonZ (mergeU L b q).1 then (if nfU (divU (mergeU L b q)) ∈ (mergedU L b l).map nfU then mergedU L b l else mergedU L b l ++ [divU (mergeU L b q)]) else mergedU L b l := by
  by_cases c : NonZ (mergeU L b q).1
  · rw [if_pos c, merged_nf h, nf_div (hq c)]
    show (keptU (leftsU L b (l ++ [q]))).map divU = _
    rw [lefts_snoc, if_pos c, kept_snoc]
    by_cases e : nfU (mergeU L b q) ∈ (keptU (leftsU L b l)).map nfU
    · rw [if_pos e, if_pos e]
      rfl
    · rw [if_neg e, if_neg e, List.map_append]
      rfl
  · rw [if_neg c]
    unfold mergedU
    rw [lefts_snoc, if_neg c]
theorem lefts_mem {L : Nat} {b : List Int × Int} {l : List (List Int × Int)} {r : List Int × Int} (h : r ∈ leftsU L b l) : ∃ q, q ∈ l ∧ r = mergeU L b q ∧ NonZ r.1 := by
  obtain ⟨h1, h2⟩ := List.mem_filter.mp h
  obtain ⟨q, hq, rfl⟩ := List.mem_map.mp h1
  exact ⟨q, hq, rfl, h2⟩
theorem lefts_ok {w L n : Nat} {b : List Int × Int} {l : List (List Int × Int)} (hw : 2 * w + 1 ≤ 10000) (hb : WQ w b) (hL : L < n + 1) (h : ∀ q, q ∈ l → WQ w q ∧ q.1.length = n + 1) : ∀ r, r ∈ leftsU L b l → QOk r ∧ r.1.length = n := fun r hr => by
  obtain ⟨q, hq, rfl, nz⟩ := lefts_mem hr
  obtain ⟨a, c⟩ := h q hq
  exact ⟨(mergeU_w hb a).ok hw nz, mergeU_len c hL⟩
theorem erase_range (f : Nat → Int) : ∀ (n L : Nat), ((List.range n).filter fun k => decide (k ≠ L)).map f = ((List.range n).map f).eraseIdx L
  | 0, _ => rfl
  | n + 1, L => by
    rw [List.range_succ, List.filter_append, List.map_append, List.map_append, erase_range f n L]
    by_cases c : n = L
    · subst c
      rw [List.eraseIdx_append_of_length_le (by rw [List.length_map, List.length_range]; exact Nat.le_refl _), List.length_map, List.length_range, Nat.sub_self, List.eraseIdx_of_length_le (by rw [List.length_map, List.length_range]; exact Nat.le_refl _)]
      simp
    · by_cases d : L < n
      · rw [List.eraseIdx_append_of_lt_length (by rw [List.length_map, List.length_range]; exact d)]
        simp [c]
      · rw [List.eraseIdx_of_length_le (by rw [List.length_map, List.length_range]; omega), List.eraseIdx_of_length_le (by rw [List.length_append, List.length_map, List.length_range]; show _ + 1 ≤ _; omega)]
        simp [c]
theorem last_of {s : List Int} {M : Int} (hm : M ∈ ((List.range s.length).filter fun k => decide (atR s k ≠ 0)).map fun k => ((k : Nat) : Int)) (hge : ∀ z, z ∈ (((List.range s.length).filter fun k => decide (atR s k ≠ 0)).map fun k => ((k : Nat) : Int)) → z ≤ M) : ∃ L : Nat, M = ((L : Nat) : Int) ∧ IsLast s L := by
  obtain ⟨L, hL, rfl⟩ := List.mem_map.mp hm
  obtain ⟨h1, h2⟩ := List.mem_filter.mp hL
  refine ⟨L, rfl, List.mem_range.mp h1, of_decide_eq_true h2, fun j hj => ?_⟩
  by_cases c : j < s.length
  · by_cases z : atR s j = 0
    · exact z
    · have := hge ((j : Nat) : Int) (List.mem_map.mpr ⟨j, List.mem_filter.mpr ⟨List.mem_range.mpr c, decide_eq_true z⟩, rfl⟩)
      omega
  · exact atR_out (by omega)
theorem last_ne {s : List Int} (h : NonZ s) : 0 < (((List.range s.length).filter fun k => decide (atR s k ≠ 0)).map fun k => ((k : Nat) : Int)).length := by
  obtain ⟨z, hz, z0⟩ := h.ex
  obtain ⟨k, hk⟩ := List.getElem?_of_mem hz
  have : k ∈ (List.range s.length).filter fun k => decide (atR s k ≠ 0) := List.mem_filter.mpr ⟨List.mem_range.mpr (List.getElem?_eq_some_iff.mp hk).1, decide_eq_true (by rw [atR_get hk]; exact z0)⟩
  rw [List.length_map]
  exact List.length_pos_of_mem this
theorem filt_nz {l : List Int} : (l.filter fun z => decide (z ≠ 0)).isEmpty = true ↔ ¬ NonZ l := by
  unfold NonZ
  rw [List.isEmpty_iff, List.filter_eq_nil_iff, List.any_eq_true]
  constructor
  · rintro h ⟨z, hz, e⟩
    exact h z hz e
  · intro h z hz e
    exact h ⟨z, hz, e⟩
end SB
namespace SB
open PySem L2 GxR GA RZ
theorem neq2 (u L : Nat) : (!decide (V.int (0 + (u : Int)) = V.int ((L : Nat) : Int))) = decide (u ≠ L) := by
  by_cases c : u = L
  · subst c
    rw [decide_eq_true (by rw [Int.zero_add]), decide_eq_false (fun h => h rfl)]
    rfl
  · rw [decide_eq_false (fun e => c (by injection e with e; omega)), decide_eq_true c]
    rfl
theorem filt_take {l : List Int} {u : Nat} {z : Int} (h : l[u]? = some z) : (l.take (u + 1)).filter (fun z => decide (z ≠ 0)) = (l.take u).filter (fun z => decide (z ≠ 0)) ++ (if z = 0 then [] else [z]) := by
  rw [List.take_add_one, h, Option.toList_some, List.filter_append]
  by_cases c : z = 0
  · rw [if_pos c]
    simp [c]
  · rw [if_neg c]
    simp [c]
theorem isEmpty_mapI (l : List Int) : (l.map PyData.int).isEmpty = l.isEmpty := by
  cases l <;> rfl
section
variable {P : Program} {w : World} {K : PySem.W.Frag} {mg : Str → Option Value} {base : Heap}
def spLMg (K : PySem.W.Frag) : Sp := fun vs H Q _ => ∃ x kk n wd qs b, vs = [x, .int ((kk : Nat) : Int)] ∧ BkV K H x (n + 1) qs ∧ BOk (n + 1) qs ∧ 1 ≤ n ∧ qs[kk]? = some b ∧ (∀ q, q ∈ qs → WQ wd q) ∧ 2 * wd + 1 ≤ 7000 ∧
  ∀ v L H', Gr H H' → IsLast b.1 L → BkV K H' v n (mergedU L b (qs.take kk ++ qs.drop (kk + 1))) → Q v H'
theorem sc_lmg : FnScope ["_law_book_here", "_law_at", "_law_d", "_law_questions", "_law_sides", "_law_shut", "_law_k", "_law_last", "_law_found", "_law_other", "_law_far", "_law_by", "_law_turn", "_law_row", "_law_side"] ["_law_book_here", "_law_at"] (defScope s__law_merged) := ⟨rfl, rfl, rfl, by decide +kernel, rfl, by decide +kernel, by decide +kernel⟩
theorem cl_lmg (D : Df K mg "_law_merged" s__law_merged) (B : Blt mg) (CDv : Cl P w K mg base 1 "_law_divided" ["_law_row"] (spLDiv K)) (CN : Cl P w K mg base 3 "_law_is_new" ["_law_questions", "_law_question_here", "_law_d"] (spIsNew K)) : Cl P w K mg base 4 "_law_merged" ["_law_book_here", "_law_at"] (spLMg K) := by
  refine D.cl (fun _ _ _ _ _ _ us hl => match us, hl with | [_, _], _ => rfl) fun f fd F => F.ok sc_lmg (fun vs H Q E h => ?_) (fun cdv A outer s H vs Q E hr h => ?_)
  · obtain ⟨x, kk, n, wd, qs, b, rfl, _⟩ := h
    rfl
  obtain ⟨x, kk, n, wd, qs, b, rfl, hbk, ok, n1, eb, hw, w9, hQ⟩ := h
  refine ⟨_, (pss_cons (ps_asg (pv 0) (pg_tup rfl (pgs_cons (pg_name (i := 2) sc_lmg.nd rfl (Or.inl rfl)) (pgs_cons (pg_name (i := 3) sc_lmg.nd rfl (Or.inl rfl)) pgs_nil))))
    (pss_cons (ps_asg (pe_ix ix_tup (pv 3) (pv 1) (fun _ _ => rfl)) (pg_tup rfl (pgs_cons (pg_name (i := 4) sc_lmg.nd rfl (Or.inr rfl)) (pgs_cons (pg_name (i := 5) sc_lmg.nd rfl (Or.inl rfl)) pgs_nil))))
    (pss_cons (ps_asg (pe_tup (pa_cons (pe_callB (cr_max rfl) rfl B.max PyProof.Rows.boot_max (pa_cons (pe_lc (own := [("_law_k", 6)]) (g := gName 6) rfl sc_lmg.nd (pi_range1 rfl B.rng (pa_cons (pv 2) pa_nil)) (blkOk_by (N := ["_law_book_here", "_law_at", "_law_d", "_law_questions", "_law_sides", "_law_shut", "_law_k", "_law_last", "_law_found", "_law_other", "_law_far", "_law_by", "_law_turn", "_law_row", "_law_side"]) (sc := defScope s__law_merged) (by decide +kernel)) (fun _ _ _ _ _ => (pg_name (i := 6) sc_lmg.nd rfl (Or.inl rfl))) (fun _ _ _ _ _ => pts_one (pt_cmpR op_ne (pe_ix (r := rIxT K) ix_tup (pv 4) (pv 6) (fun _ _ => rfl)) pe_int (nomark _))) (fun _ _ _ _ _ => (pv 6))) pa_nil)) (pa_cons (pe_tup pa_nil) pa_nil))) (pg_tup rfl (pgs_cons (pg_name (i := 7) sc_lmg.nd rfl (Or.inr rfl)) (pgs_cons (pg_name (i := 8) sc_lmg.nd rfl (Or.inl rfl)) pgs_nil))))
    (pss_cons (ps_for PassesOwn.never rfl (pi_tup (pe_op op_catA (pe_slice sl_tupA (pv 3) po_none (po_some (pv 1))) (pe_slice sl_tupA (pv 3) (po_some (pe_op op_add (pv 1) pe_int)) po_none))) (pg_tup rfl (pgs_cons (pg_name (i := 9) sc_lmg.nd rfl (Or.inr rfl)) (pgs_cons (pg_name (i := 10) sc_lmg.nd rfl (Or.inl rfl)) pgs_nil)))
      (pss_cons (ps_asg (pe_tup (pa_cons (pe_callB call_abs rfl B.abs PyProof.Rows.boot_abs (pa_cons (pe_ix ix_tup (pv 4) (pv 7) (fun _ _ => rfl)) pa_nil)) (pa_cons (pe_op op_mul (pe_ix ix_tup (pv 9) (pv 7) (fun _ _ => rfl)) (pe_ifExp (pt_cmpR op_gt (pe_ix ix_tup (pv 4) (pv 7) (fun _ _ => rfl)) pe_int (nomark _)) pe_int (pe_un un_neg pe_int))) pa_nil))) (pg_tup rfl (pgs_cons (pg_name (i := 11) sc_lmg.nd rfl (Or.inr rfl)) (pgs_cons (pg_name (i := 12) sc_lmg.nd rfl (Or.inr rfl)) pgs_nil))))
      (pss_cons (ps_setLc (i := 13) (own := [("_law_k", 6)]) (g := gName 6) rfl sc_lmg.nd rfl rfl rfl (pi_range1 rfl B.rng (pa_cons (pv 2) pa_nil)) (blkOk_by (N := ["_law_book_here", "_law_at", "_law_d", "_law_questions", "_law_sides", "_law_shut", "_law_k", "_law_last", "_law_found", "_law_other", "_law_far", "_law_by", "_law_turn", "_law_row", "_law_side"]) (sc := defScope s__law_merged) (by decide +kernel)) (fun _ _ _ _ _ => (pg_name (i := 6) sc_lmg.nd rfl (Or.inl rfl))) (fun _ _ _ _ _ => pts_one (pt_cmpR op_ne (pv 6) (pv 7) (nomark _))) (fun _ _ _ _ _ => (pe_op op_sub (pe_op op_mulW (pv 11) (pe_ix (r := rIxT K) ix_tup (pv 9) (pv 6) (fun _ _ => rfl))) (pe_op op_mulW (pv 12) (pe_ix (r := rIxT K) ix_tup (pv 4) (pv 6) (fun _ _ => rfl))))))
      (pss_one (ps_if (pt_cmpR (op_neD hr.units) (pe_lc (own := [("_law_side", 14)]) (g := gName 14) rfl sc_lmg.nd (pi_list (pv 13)) (blkOk_by (N := ["_law_book_here", "_law_at", "_law_d", "_law_questions", "_law_sides", "_law_shut", "_law_k", "_law_last", "_law_found", "_law_other", "_law_far", "_law_by", "_law_turn", "_law_row", "_law_side"]) (sc := defScope s__law_merged) (by decide +kernel)) (fun _ _ _ _ _ => (pg_name (i := 14) sc_lmg.nd rfl (Or.inl rfl))) (fun _ _ _ _ _ => pts_one (pt_cmpR op_ne (pv 14) pe_int (nomark _))) (fun _ _ _ _ _ => (pv 14))) (pe_lst pa_nil) (nomark _)) (pss_cons (ps_set (i := 13) sc_lmg.nd rfl (.inl rfl) (pe_cl CDv (hr.mono (by decide)) (pa_cons (pe_op op_cat (pv 13) (pe_lst (pa_cons (pe_op op_sub (pe_op op_mulW (pv 11) (pv 10)) (pe_op op_mulW (pv 12) (pv 5))) pa_nil))) pa_nil)))
        (pss_one (ps_if (pt_val (pe_cl CN (hr.mono (by decide)) (pa_cons (pv 8) (pa_cons (pe_tup (pa_cons (pe_slice sl_tupA (pv 13) po_none (po_some (pe_un un_neg pe_int))) (pa_cons (pe_ix ix_tup (pv 13) (pe_un un_neg pe_int) (fun _ _ => rfl)) pa_nil))) (pa_cons (pe_op op_sub (pv 2) pe_int) pa_nil))))) (pss_one (ps_set (i := 8) sc_lmg.nd rfl (.inl rfl) (pe_op op_catA (pv 8) (pe_tup (pa_cons (pe_tup (pa_cons (pe_slice sl_tupA (pv 13) po_none (po_some (pe_un un_neg pe_int))) (pa_cons (pe_ix ix_tup (pv 13) (pe_un un_neg pe_int) (fun _ _ => rfl)) pa_nil))) pa_nil))))) pss_nil))) pss_nil)))))
    (pss_one (ps_ret (pe_tup (pa_cons (pe_op op_sub (pv 2) pe_int) (pa_cons (pv 8) pa_nil))))))))), ?_⟩
  obtain ⟨a, b2, xs, rfl, ha, hb, hp⟩ := id hbk
  have lx : xs.length = qs.length := paired_len hp
  have n8 := ok.d8
  have l8 := ok.l8
  obtain ⟨bo, bl⟩ := ok.ok b (List.mem_of_getElem? eb)
  have bw := hw b (List.mem_of_getElem? eb)
  have hkk : kk < qs.length := (List.getElem?_eq_some_iff.mp eb).1
  obtain ⟨xv, ex⟩ : ∃ v, xs[kk]? = some v := ⟨_, List.getElem?_eq_getElem (by omega)⟩
  obtain ⟨b', eb', hv⟩ := paired_get hp ex
  rw [eb] at eb'
  cases eb'
  obtain ⟨ba, bv, rfl, t1, sa, rfl, t2⟩ := id hv
  refine ⟨_, rfl, a, _, rfl, ha, rfl, _, _, rfl, _, _, rfl, rfl, ?_⟩
  refine ⟨_, rfl, _, rfl, b2, xs, _, _, rfl, rfl, hb, atI_nat ex, ba, _, rfl, t1, rfl, _, _, rfl, _, _, rfl, rfl, ?_⟩
  refine ⟨_, rfl, _, rfl, by omega, by omega, fun D nD => ?_⟩
  refine lc_range (lo := 0) (Pv := fun u H' => H' D = some (.lst ((((List.range u).filter fun k => decide (atR b.1 k ≠ 0)).map fun k => ((k : Nat) : Int)).map V.int)) ∧ GrD D H H') ⟨upd_same, (GrD.refl D H).set _⟩ (fun u H' hu h => ?_) (fun H' h => ?_)
  · obtain ⟨hD, gD⟩ := h
    have hu : u < n + 1 := by
      rw [Int.toNat_natCast] at hu
      exact hu
    refine ⟨rfl, ?_⟩
    refine ⟨_, rfl, _, rfl, sa, _, _, _, rfl, rfl, (gD.to nD).seqT t2, at0_int (by omega), rfl, _, rfl, ?_⟩
    rw [neq_dec]
    by_cases cz : atR b.1 u = 0
    · refine iteN (fun z => z cz) ⟨?_, gD⟩
      rw [filt_snoc, if_neg (by rw [decide_eq_false (fun z => z cz)]; exact Bool.false_ne_true), List.append_nil]
      exact hD
    · refine iteP cz ⟨_, rfl, _, hD, ?_, ?_, gD.set _⟩
      · rw [List.length_map, List.length_map]
        exact small1000 (by have := List.length_filter_le (fun k => decide (atR b.1 k ≠ 0)) (List.range u); rw [List.length_range] at this; omega)
      · rw [filt_snoc, if_pos (decide_eq_true cz), upd_same, List.map_append, List.map_append, Int.zero_add]
        rfl
  obtain ⟨hD, gD⟩ := h
  rw [Int.toNat_natCast, ← bl] at hD
  have kD := gD.to nD
  refine ⟨D, _, rfl, SqL.of hD, last_ne bo.nz, fun mx hm hge => ⟨szN (by show 0 ≤ 1000000; decide), fun F nF => ⟨szN (by show 2 ≤ 1000000; decide), fun T nT => ?_⟩⟩⟩
  obtain ⟨L, rfl, hL⟩ := last_of hm hge
  have r1 := (Gr.refl H').new nF (.tup [])
  have r2 := (Gr.refl _).new nT (.tup [.int ((L : Nat) : Int), .ref F])
  have eF : SqT K (upd (upd H' F (.tup [])) T (.tup [.int ((L : Nat) : Int), .ref F])) F [] := r2.seqT (SqT.of upd_same)
  refine ⟨T, _, rfl, SqT.of upd_same, rfl, _, _, rfl, _, _, rfl, rfl, ?_⟩
  have k1 := kD.trans (r1.trans r2)
  generalize upd (upd H' F (.tup [])) T (.tup [.int ((L : Nat) : Int), .ref F]) = H1 at eF k1 ⊢
  clear r1 r2 nT nF kD gD hD hm hge nD
  have hL1 : L < n + 1 := by rw [← bl]; exact hL.1
  refine ⟨_, rfl, _, rfl, _, rfl, rsl (k1.seqT hb) fun c1 H2 g2 hc1 => ?_⟩
  rw [cut_upto] at hc1
  refine ⟨_, rfl, _, rfl, _, _, rfl, rfl, _, rfl, rslF (g2.seqT (k1.seqT hb)) fun c2 H3 g3 hc2 => ?_⟩
  rw [show cutV xs (some (((kk : Nat) : Int) + 1)) none = xs.drop (kk + 1) from cut_from xs (kk + 1) (by omega)] at hc2
  refine rcat (K := K) (g3.seqT hc1) hc2 (by rw [List.length_take, List.length_drop]; omega) fun c3 H4 g4 hc3 => ?_
  have k4 := ((k1.trans g2).trans g3).trans g4
  have eF4 := ((g2.trans g3).trans g4).seqT eF
  have t24 := k4.seqT t2
  have hp4 : Paired (QuV K H4) (xs.take kk ++ xs.drop (kk + 1)) (qs.take kk ++ qs.drop (kk + 1)) := Paired.mapP (paired_app (paired_take kk hp) (paired_drop (kk + 1) hp)) fun _ _ z => QuV.gr z k4
  have hin : ∀ q, q ∈ qs.take kk ++ qs.drop (kk + 1) → q ∈ qs := fun q hq => by
    rcases List.mem_append.mp hq with h | h
    · exact List.mem_of_mem_take h
    · exact List.mem_of_mem_drop h
  have lo8 : (qs.take kk ++ qs.drop (kk + 1)).length ≤ 8 := by
    rw [List.length_append, List.length_take, List.length_drop]
    omega
  generalize qs.take kk ++ qs.drop (kk + 1) = os at hp4 hin lo8 hQ
  generalize xs.take kk ++ xs.drop (kk + 1) = ys at hp4 hc3
  clear hc1 hc2 g2 g3 g4 eF k1
  have ly : ys.length = os.length := paired_len hp4
  have wdos : ∀ q, q ∈ os → WQ wd q ∧ q.1.length = n + 1 := fun q hq => ⟨hw q (hin q hq), (ok.ok q (hin q hq)).2⟩
  have lok : ∀ i, ∀ r, r ∈ leftsU L b (os.take i) → QOk r ∧ r.1.length = n := fun i => lefts_ok (w := wd) (by omega) bw hL1 fun q hq => wdos q (List.mem_of_mem_take hq)
  have mlen : ∀ i, (mergedU L b (os.take i)).length ≤ 8 := fun i => by
    unfold mergedU
    rw [List.length_map]
    refine Nat.le_trans (kept_len _) ?_
    unfold leftsU
    refine Nat.le_trans (List.length_filter_le _ _) ?_
    rw [List.length_map, List.length_take]
    omega
  have mok : ∀ i, ∀ r, r ∈ mergedU L b (os.take i) → QOk r ∧ r.1.length = n := fun i r hr => by
    obtain ⟨q, hq, rfl⟩ := List.mem_map.mp hr
    obtain ⟨h1, h2⟩ := lok i q (kept_sub _ q hq)
    exact ⟨h1.div, by show (List.map _ q.1).length = n; rw [List.length_map]; exact h2⟩
  refine ⟨c3, rfl, ⟨_, hc3⟩, for_tup (xs := ys) (fun i σ H' => ∃ (Fi : Addr) (fs : List V) (c6 c9 c10 c11 c12 c13 c14 : Option V), σ = [some (.ref a), some (.int ((kk : Nat) : Int)), some (.int ((n + 1 : Nat) : Int)), some (.ref b2), some (.ref sa), some (.int b.2), c6, some (.int ((L : Nat) : Int)), some (.ref Fi), c9, c10, c11, c12, c13, c14] ∧ Gr H4 H' ∧ SqT K H' Fi fs ∧ Paired (QuV K H') fs (mergedU L b (os.take i)))
    ⟨F, [], _, _, _, _, _, _, _, rfl, Gr.refl H4, eF4, .nil⟩ (fun i σ H' _ h => ?_) (fun i x σ H' hx h => ?_) (fun σ H' h => ?_)⟩
  · obtain ⟨Fi, fs, c6, c9, c10, c11, c12, c13, c14, rfl, g, _⟩ := h
    exact g.seqT hc3
  · obtain ⟨Fi, fs, c6, c9, c10, c11, c12, c13, c14, rfl, g, hFi, hfs⟩ := h
    obtain ⟨q, eq, hq⟩ := paired_get hp4 hx
    obtain ⟨qw, ql⟩ := wdos q (List.mem_of_getElem? eq)
    obtain ⟨oa, ov, rfl, d1, oo, rfl, d2⟩ := hq.gr g
    have t2' := g.seqT t24
    refine ⟨oa, _, rfl, d1, rfl, _, _, rfl, _, _, rfl, rfl, ?_⟩
    refine seq_join (fun σ' H5 => ∃ (c6 c13 c14 : Option V), σ' = [some (.ref a), some (.int ((kk : Nat) : Int)), some (.int ((n + 1 : Nat) : Int)), some (.ref b2), some (.ref sa), some (.int b.2), c6, some (.int ((L : Nat) : Int)), some (.ref Fi), some (.ref oo), some (.int q.2), some (.int ((atR b.1 L).natAbs : Int)), some (.int (shareU L b q)), c13, c14] ∧ Gr H' H5) (fun σ' H5 h => ?_) (fun Kn hK => ?_)
    · obtain ⟨c6, c13, c14, rfl, g5⟩ := h
      have hm1 : (mergeU L b q).1.length = n := mergeU_len ql hL1
      have ww := mergeU_w (L := L) bw qw
      have q5 := g5.seqT d2
      have b5 := g5.seqT t2'
      have hA : ((atR b.1 L).natAbs : Int).natAbs < 2 ^ wd := by rw [Int.natAbs_natCast]; exact bw.at L
      have hT : (shareU L b q).natAbs < 2 ^ wd := share_w qw
      have mw : ∀ x y : Int, x.natAbs < 2 ^ wd → y.natAbs < 2 ^ wd → CMulW x y := fun x y hx hy => wide_mul (a := wd + 1) (b := wd + 1) (Nat.lt_of_lt_of_le hx (two_le (by omega))) (Nat.lt_of_lt_of_le hy (two_le (by omega))) (by omega) (by omega) (by omega)
      refine ⟨_, rfl, _, rfl, by omega, by omega, fun D nD => ?_⟩
      refine lc_range (lo := 0) (Pv := fun u H' => H' D = some (.lst ((((List.range u).filter fun k => decide (k ≠ L)).map fun k => ((atR b.1 L).natAbs : Int) * atR q.1 k - shareU L b q * atR b.1 k).map V.int)) ∧ GrD D H5 H') ⟨upd_same, (GrD.refl D H5).set _⟩ (fun u H6 hu h => ?_) (fun H6 h => ?_)
      · obtain ⟨hD, gD⟩ := h
        have hu : u < n + 1 := by
          rw [Int.toNat_natCast] at hu
          exact hu
        have kD := gD.to nD
        refine ⟨rfl, ?_⟩
        refine ⟨_, rfl, _, rfl, rfl, _, rfl, ?_⟩
        rw [neq2]
        by_cases cz : u = L
        · refine iteN (fun z => z cz) ⟨?_, gD⟩
          rw [filt_snoc, if_neg (by rw [decide_eq_false (fun z => z cz)]; exact Bool.false_ne_true), List.append_nil]
          exact hD
        · refine iteP cz ⟨_, rfl, _, rfl, _, rfl, oo, _, _, _, rfl, rfl, kD.seqT q5, at0_int (by omega), _, _, rfl, rfl, mw _ _ hA (qw.at u), _, rfl, _, rfl, _, rfl, sa, _, _, _, rfl, rfl, kD.seqT b5, at0_int (by omega), _, _, rfl, rfl, mw _ _ hT (bw.at u), _, _, rfl, rfl, _, hD, ?_, ?_, gD.set _⟩
          · rw [List.length_map, List.length_map]
            exact small1000 (by have := List.length_filter_le (fun k => decide (k ≠ L)) (List.range u); rw [List.length_range] at this; omega)
          · rw [filt_snoc, if_pos (decide_eq_true cz), upd_same, List.map_append, List.map_append]
            rfl
      obtain ⟨hD, gD⟩ := h
      have k6 := gD.to nD
      rw [Int.toNat_natCast, ← ql, erase_range] at hD
      have hD : H6 D = some (.lst ((mergeU L b q).1.map V.int)) := hD
      clear gD nD
      have step : mergedU L b (os.take (i + 1)) = if NonZ (mergeU L b q).1 then (if nfU (divU (mergeU L b q)) ∈ (mergedU L b (os.take i)).map nfU then mergedU L b (os.take i) else mergedU L b (os.take i) ++ [divU (mergeU L b q)]) else mergedU L b (os.take i) := by
        rw [List.take_add_one, eq, Option.toList_some]
        exact merged_snoc (fun r hr => (lok i r hr).1) fun nz => ww.ok (by omega) nz
      generalize hmq : mergeU L b q = mq at hD hm1 ww step
      refine ⟨_, rfl, D, rfl, ⟨_, SqL.of hD⟩, fun D2 nD2 => lc_list (xs := mq.1.map V.int) (fun u H' => GrD D2 H6 H' ∧ H' D2 = some (.lst (((mq.1.take u).filter fun z => decide (z ≠ 0)).map V.int))) ⟨(GrD.refl D2 H6).set _, upd_same⟩ (fun u H' _ h => SqL.of (GrL.lst (h.1.to nD2) hD)) (fun u x H' hx h => ?_) (fun H' h => ?_)⟩
      · obtain ⟨g7, h7⟩ := h
        rw [List.getElem?_map] at hx
        obtain ⟨z, hz, rfl⟩ := Option.map_eq_some_iff.mp hx
        have hu : u < mq.1.length := (List.getElem?_eq_some_iff.mp hz).1
        refine ⟨rfl, ?_⟩
        refine ⟨_, rfl, rfl, _, rfl, ?_⟩
        rw [neq_dec]
        by_cases cz : z = 0
        · refine iteN (fun y => y cz) ⟨g7, ?_⟩
          rw [filt_take hz, if_pos cz, List.append_nil]
          exact h7
        · refine iteP cz ⟨_, rfl, _, h7, ?_, g7.set _, ?_⟩
          · rw [List.length_map]
            exact small1000 (by have := List.length_filter_le (fun z => decide (z ≠ 0)) (mq.1.take u); rw [List.length_take] at this; omega)
          · rw [filt_take hz, if_neg cz, upd_same, List.map_append]
            rfl
      obtain ⟨g7, h7⟩ := h
      rw [List.length_map, List.take_length] at h7
      have k7 := k6.trans (g7.to nD2)
      have hD7 := GrL.lst (g7.to nD2) hD
      refine ⟨szN (by show 0 ≤ 1000000; decide), fun pe ne => ?_⟩
      have re := (Gr.refl H').new ne (.lst [])
      refine ⟨.list ((mq.1.filter fun z => decide (z ≠ 0)).map PyData.int), .list [], .lst (SqL.of (GrL.lst re h7)) (dp_ints _), .lst (SqL.of upd_same) .nil, shp_ints _, by decide, _, rfl, ?_⟩
      rw [eqv_nilL, isEmpty_mapI]
      have hD8 := GrL.lst re hD7
      have k8 := (g5.trans k7).trans re
      generalize upd H' pe (.lst []) = H8 at hD8 k8 ⊢
      clear re ne hD7 k7 h7 g7 nD2 hD k6
      have hF8 := k8.seqT hFi
      have hfs8 : Paired (QuV K H8) fs (mergedU L b (os.take i)) := Paired.mapP hfs fun _ _ z => z.gr k8
      have g8 := g.trans k8
      clear hfs hFi k8 g5 q5 b5
      obtain ⟨ms, mv⟩ := mq
      have e2 : ((atR b.1 L).natAbs : Int) * q.2 - shareU L b q * b.2 = mv := congrArg Prod.snd hmq
      subst e2
      by_cases nz : NonZ ms
      · have he : (ms.filter fun z => decide (z ≠ 0)).isEmpty = false := by
          cases e : (ms.filter fun z => decide (z ≠ 0)).isEmpty with
          | true => exact absurd nz (filt_nz.mp e)
          | false => rfl
        rw [he]
        rw [if_pos nz] at step
        obtain ⟨gg0, gg8⟩ := gcdL_w ww nz
        have mqo : QOk (ms, ((atR b.1 L).natAbs : Int) * q.2 - shareU L b q * b.2) := ww.ok (by omega) nz
        refine iteT ?_
        refine ⟨_, rfl, _, rfl, _, rfl, _, _, rfl, rfl, mw _ _ hA qw.2, _, rfl, _, rfl, _, _, rfl, rfl, mw _ _ hT bw.2, _, _, rfl, rfl, szN (by show 1 ≤ 1000000; decide), fun p1 n1' => ?_⟩
        have r1 := (Gr.refl H8).new n1' (.lst [.int (((atR b.1 L).natAbs : Int) * q.2 - shareU L b q * b.2)])
        refine ⟨D, p1, _, _, rfl, rfl, GrL.lst r1 hD8, upd_same, by rw [List.length_map]; exact szN (by show ms.length + 1 ≤ 1000000; have : ms.length = n := hm1; omega), fun p2 n2 => ?_⟩
        have r2 := r1.new n2 (.lst (ms.map V.int ++ [.int (((atR b.1 L).natAbs : Int) * q.2 - shareU L b q * b.2)]))
        refine ⟨p2, ms ++ [((atR b.1 L).natAbs : Int) * q.2 - shareU L b q * b.2], rfl, SqL.of (by rw [upd_same, List.map_append]; rfl), gg0, Nat.lt_of_lt_of_le gg8 (two_le (by omega)), by rw [List.length_append]; show ms.length + 1 ≤ 20; have : ms.length = n := hm1; omega, fun t H9 g9 ht => ?_⟩
        have k9 := r2.trans g9
        have er : ((ms ++ [((atR b.1 L).natAbs : Int) * q.2 - shareU L b q * b.2]).map fun z => z / ((gcdL (ms ++ [((atR b.1 L).natAbs : Int) * q.2 - shareU L b q * b.2]) : Nat) : Int)).map V.int = (divU (ms, ((atR b.1 L).natAbs : Int) * q.2 - shareU L b q * b.2)).1.map V.int ++ [.int (divU (ms, ((atR b.1 L).natAbs : Int) * q.2 - shareU L b q * b.2)).2] := by
          rw [List.map_append, List.map_append]
          rfl
        rw [er] at ht
        have dok := mqo.div
        have dl : (divU (ms, ((atR b.1 L).natAbs : Int) * q.2 - shareU L b q * b.2)).1.length = n := by
          show (List.map _ ms).length = n
          rw [List.length_map]
          exact hm1
        generalize divU (ms, ((atR b.1 L).natAbs : Int) * q.2 - shareU L b q * b.2) = dq at ht dok dl step
        refine ⟨_, rfl, _, rfl, _, rfl, _, rfl, rsl ht fun p3 HA gA h3 => ?_⟩
        rw [vcut_last] at h3
        refine ⟨_, rfl, _, rfl, t, _, _, _, rfl, rfl, gA.seqT ht, vat_neg1, szN (by show 2 ≤ 1000000; decide), fun p4 n4 => ?_⟩
        have r4 := (Gr.refl HA).new n4 (.tup [.ref p3, .int dq.2])
        have hdq : QuV K (upd HA p4 (.tup [.ref p3, .int dq.2])) (.ref p4) dq := ⟨p4, _, rfl, SqT.of upd_same, p3, rfl, r4.seqT h3⟩
        have kB := (k9.trans gA).trans r4
        have htB := (gA.trans r4).seqT ht
        generalize upd HA p4 (.tup [.ref p3, .int dq.2]) = HB at hdq kB htB ⊢
        have e : ((n + 1 : Nat) : Int) - 1 = ((n : Nat) : Int) := by omega
        refine ⟨_, rfl, _, _, rfl, rfl, Fi, .ref p4, n, fs, _, dq, by show [V.ref Fi, V.ref p4, V.int (((n + 1 : Nat) : Int) - 1)] = _; rw [e], kB.seqT hF8, Paired.mapP hfs8 fun _ _ z => z.gr kB, hdq, mok i, dok, dl, by omega, fun HC gC => ⟨_, rfl, ?_⟩⟩
        have kC := kB.trans gC
        by_cases en : nfU dq ∉ (mergedU L b (os.take i)).map nfU
        · rw [if_neg en] at step
          refine iteP en ?_
          refine ⟨_, rfl, _, rfl, _, rfl, _, rfl, rsl (gC.seqT htB) fun p5 HD gD h5 => ?_⟩
          rw [vcut_last] at h5
          refine ⟨_, rfl, _, rfl, t, _, _, _, rfl, rfl, gD.seqT (gC.seqT htB), vat_neg1, szN (by show 2 ≤ 1000000; decide), fun p6 n6 => ⟨szN (by show 1 ≤ 1000000; decide), fun p7 n7 => ?_⟩⟩
          have r6 := (Gr.refl HD).new n6 (.tup [.ref p5, .int dq.2])
          have hd6 : QuV K (upd HD p6 (.tup [.ref p5, .int dq.2])) (.ref p6) dq := ⟨p6, _, rfl, SqT.of upd_same, p5, rfl, r6.seqT h5⟩
          generalize upd HD p6 (.tup [.ref p5, .int dq.2]) = HE at r6 hd6 n7 ⊢
          have r7 := (Gr.refl HE).new n7 (.tup [.ref p6])
          have kE := ((kC.trans gD).trans r6).trans r7
          have lf := paired_len hfs8
          have l8' := mlen i
          refine rcat (K := K) (kE.seqT hF8) (SqT.of upd_same) (by show _ + 1 ≤ 1000; omega) fun cc HF gF hF => ?_
          have kF := kE.trans gF
          refine ⟨cc, fs ++ [.ref p6], _, _, _, _, _, _, _, rfl, g8.trans kF, hF, ?_⟩
          rw [step]
          exact paired_app (Paired.mapP hfs8 fun _ _ z => z.gr kF) (.cons (hd6.gr (r7.trans gF)) .nil)
        · rw [if_pos (Classical.not_not.mp en)] at step
          refine iteN en ⟨Fi, fs, _, _, _, _, _, _, _, rfl, g8.trans kC, kC.seqT hF8, ?_⟩
          rw [step]
          exact Paired.mapP hfs8 fun _ _ z => z.gr kC
      · have he : (ms.filter fun z => decide (z ≠ 0)).isEmpty = true := filt_nz.mpr nz
        rw [he]
        rw [if_neg nz] at step
        refine iteF ⟨Fi, fs, _, _, _, _, _, _, _, rfl, g8, hF8, ?_⟩
        rw [step]
        exact hfs8
    · have aL : atI (b.1.map V.int) ((L : Nat) : Int) = some (.int (atR b.1 L)) := by
        have := at0_int (l := b.1) (k := L) hL.1
        rwa [Int.zero_add] at this
      have qL : atI (q.1.map V.int) ((L : Nat) : Int) = some (.int (atR q.1 L)) := by
        have := at0_int (l := q.1) (k := L) (by omega)
        rwa [Int.zero_add] at this
      refine ⟨_, rfl, _, rfl, sa, _, _, _, rfl, rfl, t2', aL, _, rfl, _, rfl, _, rfl, oo, _, _, _, rfl, rfl, d2, qL, _, rfl, _, rfl, sa, _, _, _, rfl, rfl, t2', aL, _, _, rfl, rfl, _, rfl, ?_⟩
      rw [abs_nat]
      by_cases c : 0 < atR b.1 L
      · refine iteP c ⟨_, _, rfl, rfl, .inr ⟨by decide, by decide⟩, szN (by show 2 ≤ 1000000; decide), fun p2 n2 => ⟨p2, _, rfl, SqT.of upd_same, rfl, _, _, rfl, _, _, rfl, rfl, hK _ _ ⟨c6, c13, c14, ?_, (Gr.refl H').new n2 _⟩⟩⟩
        have : shareU L b q = atR q.1 L * 1 := by unfold shareU; rw [if_pos c, Int.mul_one]
        rw [this]
        rfl
      · refine iteN c ⟨_, rfl, _, _, rfl, rfl, .inr ⟨by decide, by decide⟩, szN (by show 2 ≤ 1000000; decide), fun p2 n2 => ⟨p2, _, rfl, SqT.of upd_same, rfl, _, _, rfl, _, _, rfl, rfl, hK _ _ ⟨c6, c13, c14, ?_, (Gr.refl H').new n2 _⟩⟩⟩
        have : shareU L b q = atR q.1 L * (-1) := by unfold shareU; rw [if_neg c]; omega
        rw [this]
        rfl
  · obtain ⟨Fi, fs, c6, c9, c10, c11, c12, c13, c14, rfl, g, hFi, hfs⟩ := h
    rw [ly, List.take_length] at hfs
    refine ⟨_, rfl, _, _, rfl, rfl, _, rfl, szN (by show 2 ≤ 1000000; decide), fun pz nz => ?_⟩
    have e : ((n + 1 : Nat) : Int) - 1 = ((n : Nat) : Int) := by omega
    show Q (.ref pz) (upd H' pz (.tup [.int (((n + 1 : Nat) : Int) - 1), .ref Fi]))
    rw [e]
    have rz := (Gr.refl H').new nz (.tup [.int ((n : Nat) : Int), .ref Fi])
    exact hQ _ L _ ((k4.trans g).trans rz) hL ⟨pz, Fi, fs, rfl, SqT.of upd_same, rz.seqT hFi, Paired.mapP hfs fun _ _ z => z.gr rz⟩
end
end SB
namespace SB
open PySem PySem.Spec PyProof.Rows L2
/-! ### enumerate(tuple) -/
theorem meets_enumT {v : Value} {o : Obj} {Hp' : Heap → Prop} (B : Begins v o Hp') :
    Meets (Builtin.«enumerate.__new__» ⟨[.type "enumerate", v], []⟩) (fun _ R s => Hp' s.heap ∧
      R (.ok (.ret (.ref (s.heap.push o).objs.size))) { s with heap := (s.heap.push o).push { cls := .type "enumerate", data := .fields #[.none, .bool false, .ref s.heap.objs.size, rawInt 0, .none, .none] } }) :=
  .of_wp fun prog w A R s h => by
    obtain ⟨hp, g, d, tk, os⟩ := s; obtain ⟨h1, h⟩ := h
    have hsub := sub_enumerate
    have q1 : ∀ {A' : Around} {E : Value → Shared → Prop} {Q : Value → Shared → Prop}, Q (.ref hp.objs.size) ⟨hp.push o, g, d, tk, os⟩ → wpAny (model prog w) A' (pyIter v) Q E ⟨hp, g, d, tk, os⟩ :=
      fun q => B.iter prog w _ _ ⟨hp, g, d, tk, os⟩ _ h1 q
    wp_walk using q1
    refine wpAny_stack_any fun st => wpAny_pure ?_
    split
    · rename_i c _ _ _ _ _
      cases (c == Value.type "enumerate")
      · wp_walk using q1
        exact ⟨_, rfl, h⟩
      · wp_walk using q1
        exact ⟨_, rfl, h⟩
    · wp_walk using q1
      exact ⟨_, rfl, h⟩
theorem call_enumT {prog : Program} {w : World} {A : Around} {E : Value → Shared → Prop} {s : Shared} {l : Addr} {items : Array Value} {Q : Value → Shared → Prop} (hL : s.heap.IsTuple l items)
    (h : ∀ h', IsEnum h' (s.heap.objs.size + 1) s.heap.objs.size 0 .none → h'.IsTupleIter s.heap.objs.size l 0 → h'.objs.size = s.heap.objs.size + 2 →
      (∀ b o, s.heap.get? b = some o → h'.get? b = some o) → Q (.ref (s.heap.objs.size + 1)) { s with heap := h' }) :
    wpAny (model prog w) A (call (.type "enumerate") [.ref l]) Q E s := by
  refine callType_new F.called_enumerate (by decide) (F.typeCall_enumerate_1 _) (F.newCall_enumerate_1 _) (fun obj => F.args_object_init_2 obj _) F.entry_enumerate_new
    (meets_enumT (begins_tuple l items)) ⟨hL, ?_⟩
  have hz : (s.heap.push { cls := .type "tuple_iterator", data := .fields #[.ref l, .int 0 0] }).objs.size = s.heap.objs.size + 1 := Heap.size_push ..
  show _ ∧ _
  rw [hz]
  have he : IsEnum ((s.heap.push { cls := .type "tuple_iterator", data := .fields #[.ref l, .int 0 0] }).push
      { cls := .type "enumerate", data := .fields #[.none, .bool false, .ref s.heap.objs.size, rawInt 0, .none, .none] }) (s.heap.objs.size + 1) s.heap.objs.size 0 .none := by
    have := Heap.get?_push_size (s.heap.push { cls := .type "tuple_iterator", data := .fields #[.ref l, .int 0 0] })
      (o := { cls := .type "enumerate", data := .fields #[.none, .bool false, .ref s.heap.objs.size, rawInt 0, .none, .none] }) rfl
    rw [hz] at this; exact this
  refine ⟨⟨_, he, rfl⟩, h _ he ⟨_, Heap.get?_push_of_some _ (Heap.get?_push_size _ rfl), rfl, rfl⟩ (by rw [Heap.size_push, hz]) fun b o x => Heap.get?_push_of_some _ (Heap.get?_push_of_some _ x)⟩
/-- the tuple at a, each item in a new pair -/
def IteT (K : PySem.W.Frag) (a : Addr) : It :=
  ⟨fun i H => ∃ (xs : List V) (x : V), SqT K H a xs ∧ xs[i]? = some x, fun i H v H' => ∃ T x, v = .ref T ∧ H T = none ∧ H' = upd H T (.tup [.int (i : Nat), x]) ∧ ∀ xs, SqT K H a xs → xs[i]? = some x, fun i H => ∃ xs : List V, SqT K H a xs ∧ xs.length = i⟩
theorem turn_enumT {P : Program} {w : World} {K : PySem.W.Frag} {elts : List Expr} {kk : Nat} {tpos : Pos} (a e it : Addr) :
    Turn P w K (.Tuple elts kk tpos) (IteT K a) [e, it] e (fun i h => (∃ old, IsEnum h e it ((i : Nat) : Int) old) ∧ h.IsTupleIter it a i ∧ e ≠ it ∧ a ≠ it ∧ e ≠ a) where
  mem := by simp
  obj := fun i h st b hb => by
    obtain ⟨⟨old, he⟩, ⟨o, ho, hc, hd⟩, _⟩ := st
    have e' : b = e ∨ b = it := by simpa using hb
    rcases e' with z | z
    · rw [z]; exact ⟨_, he, fun v q => nomatch q⟩
    · rw [z]; exact ⟨o, ho, fun v q => by rw [hd] at q; cases q⟩
  keep := fun i h h' st k => let ⟨⟨old, he⟩, hi, hne⟩ := st; ⟨⟨old, k e (by simp) _ he⟩, hi.at fun o q => k it (by simp) o q, hne⟩
  item := by
    intro X hP hw hK hc i pins s σ H E I hf st hg
    subst hP hw hK
    obtain ⟨⟨old, he⟩, hit, hne, hai, hea⟩ := st
    obtain ⟨xs, x, hq, hx⟩ := hg
    obtain ⟨its, rv, p, hz⟩ := I.tuple hq
    have tp : s.heap.IsTuple a its.toArray := p
    obtain ⟨u, hu, ru⟩ := rv.get hx
    have hel : e < s.heap.objs.size := Heap.lt_size he
    have hil : it < s.heap.objs.size := by obtain ⟨_, q, _⟩ := hit; exact Heap.lt_size q
    have hsz : i < its.toArray.size := by
      have := (List.getElem?_eq_some_iff.mp hu).1
      simpa using this
    refine wpAny_pyNext_enum_itemC (Draws.tuple (A := X.A.in1) (show X.A.in1.handled = none from I.ok.hd hc) it a hai its.toArray) he ⟨hit, tp⟩ hsz hne (by simp [hne, hea]) fun x' h' tk hx' ho hst' hT hsz' hk => ?_
    have ex' : x' = u := by
      have h1 : its[i]? = some x' := by simpa using hx'
      rw [hu] at h1
      exact (Option.some.inj h1).symm
    subst ex'
    refine ⟨_, rfl, wpAny_letOwnedTupleGo_enum (s := { s with heap := h', toks := tk + 1 }) ho fun h'' he' sb => ?_⟩
    have hT2 : h''.get? s.heap.objs.size = some { cls := .type "tuple", data := .seq #[.int i tk, x'] } := (sb.2 _ (Nat.ne_of_gt hel)).trans hT
    have new : ObjOk X.prog X.w (upd H s.heap.objs.size (.tup [.int (i : Nat), x])) h'' s.heap.objs.size (.tup [.int (i : Nat), x]) :=
      ⟨by show 2 ≤ sizeLine; decide, [.int i tk, x'], .cons ⟨_, rfl⟩ (.cons ru .nil), ⟨_, hT2, rfl, _, rfl⟩⟩
    have I1 : Inv X pins σ (upd H s.heap.objs.size (.tup [.int (i : Nat), x])) { s with heap := h'', toks := tk + 1 } :=
      I.turnedNew (ch := [e, it]) (fun b ob hb q => (sb.2 b (fun z => hb (by simp [z]))).trans (hk b ob (fun z => hb (by simp [z])) (fun z => hb (by simp [z])) q)) hf (Nat.le_refl _) new
    refine ⟨.ref s.heap.objs.size, _, I1, rfl, ⟨_, x, rfl, I.hok.fresh (Nat.le_refl _), rfl, fun ys hy => by rw [I.tuple_inj hy hq]; exact hx⟩, ⟨⟨x', ?_⟩, hst'.1.at fun o q => (sb.2 it (Ne.symm hne)).trans q, hne, hai, hea⟩, fun b hb => ?_⟩
    · have e1 : ((i + 1 : Nat) : Int) = (i : Int) + 1 := by omega
      rw [e1]; exact he'
    · have hb' : b < s.heap.objs.size := by
        have e' : b = e ∨ b = it := by simpa using hb
        rcases e' with z | z
        · rw [z]; exact hel
        · rw [z]; exact hil
      rw [upd_ne (Nat.ne_of_lt hb')]
      exact (hf b hb).1
  done := by
    intro X hP hw hK hc i pins s σ H E I hf st hg
    subst hP hw hK
    obtain ⟨⟨old, he⟩, hit, hne, hai, hea⟩ := st
    obtain ⟨xs, hq, hx⟩ := hg
    obtain ⟨its, rv, p, hz⟩ := I.tuple hq
    have tp : s.heap.IsTuple a its.toArray := p
    obtain ⟨f0, f1, f2, f3, f4, f5⟩ := hf it (by simp)
    have hl := rv.length
    have ei : i = its.toArray.size := by simp; omega
    refine wpAny_pyNext_enum_endD (Draws.tuple (A := X.A.in1) (show X.A.in1.handled = none from I.ok.hd hc) it a hai its.toArray) he ⟨by rw [← ei]; exact hit, tp⟩ fun h' eb => ⟨rfl, I.turned (t' := s.toks) (fun b o hb q => eb b o hb q) f0 f1 f3 f4 f5⟩
  self := fun A i s Q E st h => let ⟨⟨_, he⟩, _⟩ := st; wpAny_pyIter_enum he h
def iEnumT (K : PySem.W.Frag) (ta : TA) : TI := fun σ H R => ta σ H fun vs H1 => ∃ a xs, vs = [.ref a] ∧ SqT K H1 a xs ∧ R (IteT K a) H1
theorem pi_enumT {X : Cx} {e : Expr} {ta : TA} {p pos tpos : Pos} {elts : List Expr} {kk : Nat} (hg : Gl X "enumerate") (hm : X.mg "enumerate" = none) (ha : PA X [e] ta) (hs : starEach [e] X.env = [(false, eval e X.env)] := by rfl) :
    PI X (.Tuple elts kk tpos) (.Call (.Name "enumerate" p) [e] [] pos) (iEnumT X.K ta) := by
  refine ⟨fun pins s σ H R I h => ?_⟩
  refine Call_ (ld_blt I hg hm boot_enumerate (PyProof.Rows.callWith_type1 (thn (ha.run pos pins s σ H _ I h) fun us s1 ⟨vs, H1, I1, r1, q1⟩ => ?_) hs rfl))
  obtain ⟨a, xs, ex, hq, q⟩ := q1
  subst ex
  cases r1 with
  | cons r rr =>
    cases rr
    cases r
    obtain ⟨its, rv, p', hz⟩ := I1.tuple hq
    have tp : s1.heap.IsTuple a its.toArray := p'
    have la : a < s1.heap.objs.size := by obtain ⟨_, e, _⟩ := tp; exact Heap.lt_size e
    refine call_enumT tp fun h' he hit hsz hk => wpAny_pyIter_enum he ?_
    have I2 : Inv X pins σ H1 { s1 with heap := h' } := I1.kept (t' := s1.toks) hk
    refine ⟨s1.heap.objs.size + 1, [s1.heap.objs.size + 1, s1.heap.objs.size], _, _, H1, rfl, I2, turn_enumT a (s1.heap.objs.size + 1) s1.heap.objs.size, ⟨⟨.none, he⟩, hit, Nat.succ_ne_self _, Nat.ne_of_lt la, Nat.ne_of_gt (Nat.lt_succ_of_lt la)⟩, fun b hb => ?_, q⟩
    have e' : b = s1.heap.objs.size + 1 ∨ b = s1.heap.objs.size := by simpa using hb
    have hle : s1.heap.objs.size ≤ b := by
      rcases e' with z | z
      · rw [z]; exact Nat.le_add_right _ _
      · rw [z]; exact Nat.le_refl _
    exact I1.fpOk hle (I1.hok.fresh hle)
theorem walk_enumT {K : PySem.W.Frag} {a : Addr} {xs : List V} : Walk (IteT K a) xs.length (fun H => SqT K H a xs) (YPair (fun i => some (.int (i : Nat))) (fun i => xs[i]?)) := by
  refine ⟨fun i _ hi q => ⟨xs, xs[i], q, by simp [hi]⟩, fun _ q => ⟨xs, q, rfl⟩, fun i H v H' _ q y => ?_⟩
  obtain ⟨T, x, h1, h2, h3, h4⟩ := y
  exact ⟨T, .int (i : Nat), x, h1, h2, h3, rfl, h4 xs q⟩
end SB
namespace SB
open PySem L2 GxR GA RZ
theorem cut_fromL (xs : List V) (i : Nat) (h : i ≤ xs.length) : cutV xs (some (((i : Nat) : Int) + 1)) none = xs.drop (i + 1) := by
  by_cases c : i + 1 ≤ xs.length
  · exact cut_from xs (i + 1) c
  · unfold cutV
    rw [show (((i : Nat) : Int) + 1) = ((i + 1 : Nat) : Int) from rfl, HT.sIx_none, HT.sIx_nat, List.drop_eq_nil_of_le (by omega), List.drop_eq_nil_of_le (by omega)]
    simp
section
variable {P : Program} {w : World} {K : PySem.W.Frag} {mg : Str → Option Value} {base : Heap}
def spMQ (K : PySem.W.Frag) : Sp := fun vs H Q _ => ∃ c y n wd ys os b, vs = [.ref c, y] ∧ SqT K H c ys ∧ Paired (QuV K H) ys os ∧ QuV K H y b ∧ b.1.length = n + 1 ∧ n ≤ 8 ∧ NonZ b.1 ∧ WQ wd b ∧ 2 * wd + 1 ≤ 7000 ∧ (∀ q, q ∈ os → WQ wd q ∧ q.1.length = n + 1) ∧ os.length ≤ 8 ∧
  ∀ D vs L H', Gr H H' → IsLast b.1 L → H' D = some (.lst vs) → Paired (QuV K H') vs (os.map (mergeU L b)) → Q (.ref D) H'
theorem sc_mq : FnScope ["questions", "by", "sides", "wall", "at", "side", "last", "size", "found", "others", "other_wall", "share", "other", "left"] ["questions", "by"] (defScope s__merged_questions) := ⟨rfl, rfl, rfl, by decide +kernel, rfl, by decide +kernel, by decide +kernel⟩
theorem cl_mq (D : Df K mg "_merged_questions" s__merged_questions) (B : Blt mg) (ben : mg "enumerate" = none) : Cl P w K mg base 1 "_merged_questions" ["questions", "by"] (spMQ K) := by
  refine D.cl (fun _ _ _ _ _ _ us hl => match us, hl with | [_, _], _ => rfl) fun f fd F => F.ok sc_mq (fun vs H Q E h => ?_) (fun cdv A outer s H vs Q E hr h => ?_)
  · obtain ⟨c, y, n, wd, ys, os, b, rfl, _⟩ := h
    rfl
  obtain ⟨c, y, n, wd, ys, os, b, rfl, hc, hp, hy, bl, n8, bnz, bw, w9, hos, lo8, hQ⟩ := h
  refine ⟨_, (pss_cons (ps_asg (pv 1) (pg_tup rfl (pgs_cons (pg_name (i := 2) sc_mq.nd rfl (Or.inl rfl)) (pgs_cons (pg_name (i := 3) sc_mq.nd rfl (Or.inl rfl)) pgs_nil))))
    (pss_cons (ps_set (i := 6) sc_mq.nd rfl (.inl rfl) (pe_callB (cr_max rfl) rfl B.max PyProof.Rows.boot_max (pa_cons (pe_lc (own := [("at", 4), ("side", 5)]) (g := gTup K 2 (gCons (gName 4) (gCons (gName 5) gNil))) rfl sc_mq.nd (pi_enumT rfl ben (pa_cons (pv 2) pa_nil)) (blkOk_by (N := ["questions", "by", "sides", "wall", "at", "side", "last", "size", "found", "others", "other_wall", "share", "other", "left"]) (sc := defScope s__merged_questions) (by decide +kernel)) (fun _ _ _ _ _ => (pg_tup rfl (pgs_cons (pg_name (i := 4) sc_mq.nd rfl (Or.inl rfl)) (pgs_cons (pg_name (i := 5) sc_mq.nd rfl (Or.inl rfl)) pgs_nil)))) (fun _ _ _ _ _ => pts_one (pt_cmpR op_ne (pv 5) pe_int (nomark _))) (fun _ _ _ _ _ => (pv 4))) pa_nil)))
    (pss_cons (ps_set (i := 7) sc_mq.nd rfl (.inr rfl) (pe_callB call_abs rfl B.abs PyProof.Rows.boot_abs (pa_cons (pe_ix ix_tup (pv 2) (pv 6) (fun _ _ => rfl)) pa_nil)))
    (pss_cons (ps_set (i := 8) sc_mq.nd rfl (.inl rfl) (pe_lst pa_nil))
    (pss_cons (ps_for PassesOwn.never rfl (pi_tup (pv 0)) (pg_tup rfl (pgs_cons (pg_name (i := 9) sc_mq.nd rfl (Or.inl rfl)) (pgs_cons (pg_name (i := 10) sc_mq.nd rfl (Or.inl rfl)) pgs_nil)))
      (pss_cons (ps_set (i := 11) sc_mq.nd rfl (.inr rfl) (pe_ifExp (pt_cmpR op_gt (pe_ix ix_tup (pv 2) (pv 6) (fun _ _ => rfl)) pe_int (nomark _)) (pe_ix ix_tup (pv 9) (pv 6) (fun _ _ => rfl)) (pe_un un_neg (pe_ix ix_tup (pv 9) (pv 6) (fun _ _ => rfl)))))
      (pss_cons (ps_setLc (i := 13) (own := [("other", 12), ("side", 5)]) (g := gTup K 2 (gCons (gName 12) (gCons (gName 5) gNil))) rfl sc_mq.nd rfl rfl rfl (pi_zipA rfl B.zip (pa_cons (pv 9) (pa_cons (pv 2) pa_nil))) (blkOk_by (N := ["questions", "by", "sides", "wall", "at", "side", "last", "size", "found", "others", "other_wall", "share", "other", "left"]) (sc := defScope s__merged_questions) (by decide +kernel)) (fun _ _ _ _ _ => (pg_tup rfl (pgs_cons (pg_name (i := 12) sc_mq.nd rfl (Or.inl rfl)) (pgs_cons (pg_name (i := 5) sc_mq.nd rfl (Or.inl rfl)) pgs_nil)))) (fun _ _ _ _ _ => pts_nil) (fun _ _ _ _ _ => (pe_op op_sub (pe_op op_mulW (pv 7) (pv 12)) (pe_op op_mulW (pv 11) (pv 5)))))
      (pss_one (ps_expr (pe_bm PySem.F.plainAttrs_list PySem.F.slot_list_append PySem.F.type_list_append mt_append (pv 8) (pa_cons (pe_tup (pa_cons (pe_callTy call_tuple_of rfl B.tup bootTup (pa_cons (pe_op op_cat (pe_slice sl_list (pv 13) po_none (po_some (pv 6))) (pe_slice sl_list (pv 13) (po_some (pe_op op_add (pv 6) pe_int)) po_none)) pa_nil)) (pa_cons (pe_op op_sub (pe_op op_mulW (pv 7) (pv 10)) (pe_op op_mulW (pv 11) (pv 3))) pa_nil))) pa_nil)))))))
    (pss_one (ps_ret (pv 8)))))))), ?_⟩
  obtain ⟨ba, bv, rfl, t1, sa, rfl, t2⟩ := id hy
  have ly : ys.length = os.length := paired_len hp
  have lb : (b.1.map V.int).length = b.1.length := List.length_map _
  refine ⟨_, rfl, ba, _, rfl, t1, rfl, _, _, rfl, _, _, rfl, rfl, ?_⟩
  refine ⟨_, rfl, sa, _, rfl, t2, fun D nD => lc_it (walk_enumT (xs := b.1.map V.int)) (fun j H' => GrD D H H' ∧ H' D = some (.lst ((((List.range j).filter fun k => decide (atR b.1 k ≠ 0)).map fun k => ((k : Nat) : Int)).map V.int))) ⟨(GrD.refl D H).set _, upd_same⟩ (fun j H' _ h => (h.1.to nD).seqT t2) (fun j x H' H'' hj h y => ?_) (fun H' h => ?_)⟩
  · obtain ⟨g, hD⟩ := h
    obtain ⟨T, x1, x2, rfl, nT, rfl, ex1, ex2⟩ := y
    cases ex1
    rw [lb] at hj
    have ex2 : (b.1.map V.int)[j]? = some x2 := ex2
    rw [List.getElem?_map] at ex2
    obtain ⟨z, hz, rfl⟩ := Option.map_eq_some_iff.mp ex2
    have ez := atR_get hz
    have nTD : T ≠ D := fun e => by rw [e, hD] at nT; cases nT
    have hD' : (upd H' T (.tup [.int ((j : Nat) : Int), .int z])) D = some (.lst ((((List.range j).filter fun k => decide (atR b.1 k ≠ 0)).map fun k => ((k : Nat) : Int)).map V.int)) := by rw [upd_ne (Ne.symm nTD)]; exact hD
    have gD := g.gr ((Gr.refl H').new nT (.tup [.int ((j : Nat) : Int), .int z]))
    refine ⟨T, _, rfl, SqT.of upd_same, rfl, _, _, rfl, _, _, rfl, rfl, rfl, ?_⟩
    generalize upd H' T (.tup [.int ((j : Nat) : Int), .int z]) = H3 at hD' gD ⊢
    refine ⟨_, rfl, rfl, _, rfl, ?_⟩
    rw [neq_dec]
    by_cases cz : z = 0
    · refine iteN (fun y => y cz) ⟨gD, ?_⟩
      rw [filt_snoc, if_neg (by rw [ez, decide_eq_false (fun y => y cz)]; exact Bool.false_ne_true), List.append_nil]
      exact hD'
    · refine iteP cz ⟨_, rfl, _, hD', ?_, gD.set _, ?_⟩
      · rw [List.length_map, List.length_map]
        exact small1000 (by have := List.length_filter_le (fun k => decide (atR b.1 k ≠ 0)) (List.range j); rw [List.length_range] at this; omega)
      · rw [filt_snoc, if_pos (by rw [ez]; exact decide_eq_true cz), upd_same, List.map_append, List.map_append]
        rfl
  obtain ⟨g, hD⟩ := h
  rw [lb] at hD
  have kD := g.to nD
  refine ⟨D, _, rfl, SqL.of hD, last_ne bnz, fun mx hm hge => ?_⟩
  obtain ⟨L, rfl, hL⟩ := last_of hm hge
  have hL1 : L < n + 1 := by rw [← bl]; exact hL.1
  clear hm hge hD g nD
  have aL : atI (b.1.map V.int) ((L : Nat) : Int) = some (.int (atR b.1 L)) := by
    have := at0_int (l := b.1) (k := L) hL.1
    rwa [Int.zero_add] at this
  refine ⟨_, rfl, _, rfl, sa, _, _, _, rfl, rfl, kD.seqT t2, aL, _, rfl, ?_⟩
  rw [abs_nat]
  refine ⟨szN (by show 0 ≤ 1000000; decide), fun F nF => ?_⟩
  have rF := (Gr.refl H').new nF (.lst [])
  have eF : (upd H' F (.lst [])) F = some (.lst []) := upd_same
  have gF := rF.d F
  generalize upd H' F (.lst []) = H1 at rF eF gF ⊢
  refine ⟨_, rfl, c, rfl, ⟨_, (kD.trans rF).seqT hc⟩, for_tup (xs := ys) (fun i σ H2 => ∃ (c4 c5 c9 c10 c11 c12 c13 : Option V) (fs : List V), σ = [some (.ref c), some (.ref ba), some (.ref sa), some (.int b.2), c4, c5, some (.int ((L : Nat) : Int)), some (.int ((atR b.1 L).natAbs : Int)), some (.ref F), c9, c10, c11, c12, c13] ∧ GrD F H' H2 ∧ H2 F = some (.lst fs) ∧ Paired (QuV K H2) fs ((os.take i).map (mergeU L b)))
    ⟨_, _, _, _, _, _, _, [], rfl, gF, eF, .nil⟩ (fun i σ H2 _ h => ?_) (fun i x σ H2 hx h => ?_) (fun σ H2 h => ?_)⟩
  · obtain ⟨c4, c5, c9, c10, c11, c12, c13, fs, rfl, g, _⟩ := h
    exact (kD.trans (g.to nF)).seqT hc
  · obtain ⟨c4, c5, c9, c10, c11, c12, c13, fs, rfl, g, hF, hfs⟩ := h
    have kg := kD.trans (g.to nF)
    obtain ⟨q, eq, hq⟩ := paired_get hp hx
    obtain ⟨qw, ql⟩ := hos q (List.mem_of_getElem? eq)
    obtain ⟨oa, ov, rfl, d1, oo, rfl, d2⟩ := hq.gr kg
    have b2 := kg.seqT t2
    have qL : atI (q.1.map V.int) ((L : Nat) : Int) = some (.int (atR q.1 L)) := by
      have := at0_int (l := q.1) (k := L) (by omega)
      rwa [Int.zero_add] at this
    refine ⟨oa, _, rfl, d1, rfl, _, _, rfl, _, _, rfl, rfl, ?_⟩
    refine seq_join (fun σ' H3 => ∃ (c4 c5 c12 c13 : Option V), σ' = [some (.ref c), some (.ref ba), some (.ref sa), some (.int b.2), c4, c5, some (.int ((L : Nat) : Int)), some (.int ((atR b.1 L).natAbs : Int)), some (.ref F), some (.ref oo), some (.int q.2), some (.int (shareU L b q)), c12, c13] ∧ H3 = H2) (fun σ' H3 h => ?_) (fun Kn hK => ?_)
    · obtain ⟨c4, c5, c12, c13, rfl, rfl⟩ := h
      have hA : ((atR b.1 L).natAbs : Int).natAbs < 2 ^ wd := by rw [Int.natAbs_natCast]; exact bw.at L
      have hT : (shareU L b q).natAbs < 2 ^ wd := share_w qw
      have mw : ∀ x y : Int, x.natAbs < 2 ^ wd → y.natAbs < 2 ^ wd → CMulW x y := fun x y hx hy => wide_mul (a := wd + 1) (b := wd + 1) (Nat.lt_of_lt_of_le hx (two_le (by omega))) (Nat.lt_of_lt_of_le hy (two_le (by omega))) (by omega) (by omega) (by omega)
      refine ⟨_, rfl, _, rfl, oo, sa, _, _, rfl, .inr ⟨d2, b2, fun D nD => lc_zipT (K := K) (fun i y => y = .int (((atR b.1 L).natAbs : Int) * atR q.1 i - shareU L b q * atR b.1 i)) nD (by rw [List.length_map, List.length_map, ql, bl]) d2 b2 (by rw [List.length_map]; exact szN (by omega)) (fun i x y T' H5 Kc hx hy g5 nT kc => ?_) (fun us H5 hD hl5 g5 hR => ?_)⟩⟩
      · rw [List.getElem?_map] at hx hy
        obtain ⟨z, hz, rfl⟩ := Option.map_eq_some_iff.mp hx
        obtain ⟨z', hz', rfl⟩ := Option.map_eq_some_iff.mp hy
        have ez := atR_get hz
        have ez' := atR_get hz'
        refine ⟨T', _, rfl, SqT.of upd_same, rfl, _, _, rfl, _, _, rfl, rfl, rfl, _, rfl, _, rfl, _, _, rfl, rfl, mw _ _ hA (qw.1 z (List.mem_of_getElem? hz)), _, rfl, _, rfl, _, _, rfl, rfl, mw _ _ hT (bw.1 z' (List.mem_of_getElem? hz')), _, _, rfl, rfl, kc _ _ (Gr.refl _) ?_⟩
        rw [ez, ez']
      have eu : us = (leftU L b q).map V.int := by
        refine ints_at (by rw [hl5, List.length_map, leftU_len]) fun i y hy => ?_
        have hi : i < q.1.length := by
          have := (List.getElem?_eq_some_iff.mp hy).1
          rw [hl5, List.length_map] at this
          exact this
        refine ⟨_, ?_, hR i y hy⟩
        unfold leftU
        rw [List.getElem?_map, List.getElem?_range hi]
        rfl
      subst eu
      have ll : (leftU L b q).length = n + 1 := by rw [leftU_len, ql]
      have hF5 := GrL.lst g5 hF
      refine ⟨_, rfl, .inl ⟨rfl, _, SqL.of hF5⟩, _, rfl, _, rfl, _, rfl, D, _, rfl, SqL.of hD, fun p1 n1 => ?_⟩
      rw [cut_upto]
      have s1 := (Gr.refl H5).new n1 (.lst (((leftU L b q).map V.int).take L))
      have e1 : (upd H5 p1 (.lst (((leftU L b q).map V.int).take L))) p1 = some (.lst (((leftU L b q).map V.int).take L)) := upd_same
      generalize upd H5 p1 (.lst (((leftU L b q).map V.int).take L)) = H6 at s1 e1 ⊢
      refine ⟨_, rfl, _, rfl, _, _, rfl, rfl, _, rfl, D, _, rfl, SqL.of (GrL.lst s1 hD), fun p2 n2 => ?_⟩
      rw [cut_fromL _ _ (by rw [List.length_map, ll]; omega)]
      have s2 := (Gr.refl H6).new n2 (.lst (((leftU L b q).map V.int).drop (L + 1)))
      have e2 : (upd H6 p2 (.lst (((leftU L b q).map V.int).drop (L + 1)))) p2 = some (.lst (((leftU L b q).map V.int).drop (L + 1))) := upd_same
      have e12 := GrL.lst s2 e1
      have k6 := (g5.trans s1).trans s2
      generalize upd H6 p2 (.lst (((leftU L b q).map V.int).drop (L + 1))) = H7 at s2 e2 e12 k6 ⊢
      have em : ((leftU L b q).map V.int).take L ++ ((leftU L b q).map V.int).drop (L + 1) = (mergeU L b q).1.map V.int := by
        show _ = ((leftU L b q).eraseIdx L).map V.int
        rw [List.eraseIdx_eq_take_drop_succ, List.map_append, List.map_take, List.map_drop]
      refine ⟨p1, p2, _, _, rfl, rfl, e12, e2, by rw [List.length_take, List.length_drop, List.length_map]; exact szN (by show _ + _ ≤ 1000000; omega), fun p3 n3 => ?_⟩
      rw [em]
      have s3 := (Gr.refl H7).new n3 (.lst ((mergeU L b q).1.map V.int))
      have e3 : (upd H7 p3 (.lst ((mergeU L b q).1.map V.int))) p3 = some (.lst ((mergeU L b q).1.map V.int)) := upd_same
      have k7 := k6.trans s3
      generalize upd H7 p3 (.lst ((mergeU L b q).1.map V.int)) = H8 at e3 k7 ⊢
      refine ⟨p3, _, rfl, .inl ⟨SqL.of e3, fun p4 n4 => ?_⟩⟩
      refine ⟨_, rfl, _, rfl, _, _, rfl, rfl, mw _ _ hA qw.2, _, rfl, _, rfl, _, _, rfl, rfl, mw _ _ hT bw.2, _, _, rfl, rfl, szN (by show 2 ≤ 1000000; decide), fun p5 n5 => ?_⟩
      have s4 := (Gr.refl H8).new n4 (.tup ((mergeU L b q).1.map V.int))
      have t4 : SqT K (upd H8 p4 (.tup ((mergeU L b q).1.map V.int))) p4 ((mergeU L b q).1.map V.int) := SqT.of upd_same
      have s5 := (Gr.refl _).new n5 (.tup [.ref p4, .int (mergeU L b q).2])
      have hq5 : QuV K (upd (upd H8 p4 (.tup ((mergeU L b q).1.map V.int))) p5 (.tup [.ref p4, .int (mergeU L b q).2])) (.ref p5) (mergeU L b q) := ⟨p5, _, rfl, SqT.of upd_same, p4, rfl, s5.seqT t4⟩
      have kz := (k7.trans s4).trans s5
      have hFz := GrL.lst kz hF
      have ts : Tst K _ (upd (upd (upd H8 p4 (.tup ((mergeU L b q).1.map V.int))) p5 (.tup [.ref p4, .int (mergeU L b q).2])) F (.lst (fs ++ [.ref p5]))) := Tst.put hFz
      have lf := paired_len hfs
      rw [List.length_map, List.length_take] at lf
      refine ⟨F, _, _, rfl, rfl, hFz, small1000 (by omega), _, _, _, _, _, _, _, fs ++ [.ref p5], rfl, (g.gr kz).trans ((GrD.refl F _).set _), upd_same, ?_⟩
      rw [List.take_add_one, eq, Option.toList_some, List.map_append]
      exact paired_app (Paired.mapP hfs fun _ _ z => (z.gr kz).st ts) (.cons (hq5.st ts) .nil)
    · refine ⟨_, rfl, _, rfl, sa, _, _, _, rfl, rfl, b2, aL, _, _, rfl, rfl, _, rfl, ?_⟩
      by_cases cc : 0 < atR b.1 L
      · refine iteP cc ⟨_, rfl, _, rfl, oo, _, _, _, rfl, rfl, d2, qL, hK _ _ ⟨c4, c5, c12, c13, ?_, rfl⟩⟩
        have : shareU L b q = atR q.1 L := by unfold shareU; rw [if_pos cc]
        rw [this]
        rfl
      · refine iteN cc ⟨_, rfl, _, rfl, oo, _, _, _, rfl, rfl, d2, qL, _, rfl, hK _ _ ⟨c4, c5, c12, c13, ?_, rfl⟩⟩
        have : shareU L b q = -atR q.1 L := by unfold shareU; rw [if_neg cc]
        rw [this]
        rfl
  · obtain ⟨c4, c5, c9, c10, c11, c12, c13, fs, rfl, g, hF, hfs⟩ := h
    rw [ly, List.take_length] at hfs
    exact ⟨_, rfl, hQ F fs L H2 (kD.trans (g.to nF)) hL hF hfs⟩
end
end SB
namespace SB
open PySem L2 GxR GA RZ
theorem nzf_take {ms : List (List Int × Int)} {u : Nat} {q : List Int × Int} (h : ms[u]? = some q) : (ms.take (u + 1)).filter (fun q => q.1.any fun z => decide (z ≠ 0)) = (ms.take u).filter (fun q => q.1.any fun z => decide (z ≠ 0)) ++ (if (q.1.any fun z => decide (z ≠ 0)) = true then [q] else []) := by
  rw [List.take_add_one, h, Option.toList_some, List.filter_append]
  cases e : (q.1.any fun z => decide (z ≠ 0)) with
  | true => simp only [List.filter_cons, e, if_true, List.filter_nil]
  | false =>
    simp only [List.filter_cons, e, List.filter_nil]
section
variable {P : Program} {w : World} {K : PySem.W.Frag} {mg : Str → Option Value} {base : Heap}
theorem sc_mgd : FnScope ["book", "index", "d", "questions", "others", "left", "question"] ["book", "index"] (defScope s_merged) := ⟨rfl, rfl, rfl, by decide +kernel, rfl, by decide +kernel, by decide +kernel⟩
theorem cl_mgd (D : Df K mg "merged" s_merged) (B : Blt mg) (CCB : Cl P w K mg base 38 "check_book" ["book"] (spChkBk K (fun _ => 0))) (CCI : Cl P w K mg base 3 "check_index" ["index", "many"] spChkIx) (CMQ : Cl P w K mg base 1 "_merged_questions" ["questions", "by"] (spMQ K))
    (CMB : Cl P w K mg base 36 "made_book" ["d", "questions"] (spMade K)) : Cl P w K mg base 39 "merged" ["book", "index"] (spLMg K) := by
  refine D.cl (fun _ _ _ _ _ _ us hl => match us, hl with | [_, _], _ => rfl) fun f fd F => F.ok sc_mgd (fun vs H Q E h => ?_) (fun cdv A outer s H vs Q E hr h => ?_)
  · obtain ⟨x, kk, n, wd, qs, b, rfl, _⟩ := h
    rfl
  obtain ⟨x, kk, n, wd, qs, b, rfl, hbk, ok, n1, eb, hw, w9, hQ⟩ := h
  refine ⟨_, (pss_cons (ps_expr (pe_cl CCB (hr.mono (by decide)) (pa_cons (pv 0) pa_nil)))
    (pss_cons (ps_asg (pv 0) (pg_tup rfl (pgs_cons (pg_name (i := 2) sc_mgd.nd rfl (Or.inl rfl)) (pgs_cons (pg_name (i := 3) sc_mgd.nd rfl (Or.inl rfl)) pgs_nil))))
    (pss_cons (ps_if (pt_cmpR op_eq (pv 2) pe_int (nomark _)) pss_no pss_nil)
    (pss_cons (ps_expr (pe_cl CCI (hr.mono (by decide)) (pa_cons (pv 1) (pa_cons (pe_len (pv 3) B.len) pa_nil))))
    (pss_cons (ps_set (i := 4) sc_mgd.nd rfl (.inl rfl) (pe_op op_catA (pe_slice sl_tupA (pv 3) po_none (po_some (pv 1))) (pe_slice sl_tupA (pv 3) (po_some (pe_op op_add (pv 1) pe_int)) po_none)))
    (pss_cons (ps_set (i := 5) sc_mgd.nd rfl (.inl rfl) (pe_cl CMQ (hr.mono (by decide)) (pa_cons (pv 4) (pa_cons (pe_ix ix_tup (pv 3) (pv 1) (fun _ _ => rfl)) pa_nil))))
    (pss_one (ps_ret (pe_cl CMB (hr.mono (by decide)) (pa_cons (pe_op op_sub (pv 2) pe_int) (pa_cons (pe_lc (own := [("question", 6)]) (g := gName 6) rfl sc_mgd.nd (pi_list (pv 5)) (blkOk_by (N := ["book", "index", "d", "questions", "others", "left", "question"]) (sc := defScope s_merged) (by decide +kernel)) (fun _ _ _ _ _ => (pg_name (i := 6) sc_mgd.nd rfl (Or.inl rfl))) (fun _ _ _ _ _ => pts_one (pt_val (pe_callB (r := rAnyT K) (cr_anyT rfl) rfl B.any bootAny (pa_cons (pe_ix (r := rIxT K) ix_tup (pv 6) pe_int (fun _ _ => rfl)) pa_nil)))) (fun _ _ _ _ _ => (pv 6))) pa_nil))))))))))), ?_⟩
  refine ⟨_, rfl, x, n + 1, qs, rfl, ⟨fun i hi => absurd hi (Nat.not_lt_zero _)⟩, hbk, ok, fun H1 g1 => ?_⟩
  obtain ⟨a, b2, xs, rfl, ha, hb, hp⟩ := hbk.gr g1
  have lx : xs.length = qs.length := paired_len hp
  have n8 := ok.d8
  have l8 := ok.l8
  obtain ⟨bo, bl⟩ := ok.ok b (List.mem_of_getElem? eb)
  have bw := hw b (List.mem_of_getElem? eb)
  have hkk : kk < qs.length := (List.getElem?_eq_some_iff.mp eb).1
  obtain ⟨xv, ex⟩ : ∃ v, xs[kk]? = some v := ⟨_, List.getElem?_eq_getElem (by omega)⟩
  obtain ⟨b', eb', hv⟩ := paired_get hp ex
  rw [eb] at eb'
  cases eb'
  refine ⟨_, rfl, a, _, rfl, ha, rfl, _, _, rfl, _, _, rfl, rfl, ?_⟩
  refine ⟨_, rfl, rfl, _, rfl, iteN (fun z => by injection z with z; omega) ?_⟩
  refine ⟨_, rfl, _, rfl, b2, xs, rfl, .inr hb, _, _, rfl, by omega, by rw [lx]; omega, ?_⟩
  refine ⟨_, rfl, _, rfl, _, rfl, rsl hb fun c1 H2 g2 hc1 => ?_⟩
  rw [cut_upto] at hc1
  refine ⟨_, rfl, _, rfl, _, _, rfl, rfl, _, rfl, rslF (g2.seqT hb) fun c2 H3 g3 hc2 => ?_⟩
  rw [show cutV xs (some (((kk : Nat) : Int) + 1)) none = xs.drop (kk + 1) from cut_from xs (kk + 1) (by omega)] at hc2
  refine rcat (K := K) (g3.seqT hc1) hc2 (by rw [List.length_take, List.length_drop]; omega) fun c3 H4 g4 hc3 => ?_
  have k4 := (g2.trans g3).trans g4
  have hp4 : Paired (QuV K H4) (xs.take kk ++ xs.drop (kk + 1)) (qs.take kk ++ qs.drop (kk + 1)) := Paired.mapP (paired_app (paired_take kk hp) (paired_drop (kk + 1) hp)) fun _ _ z => QuV.gr z k4
  have hin : ∀ q, q ∈ qs.take kk ++ qs.drop (kk + 1) → q ∈ qs := fun q hq => by
    rcases List.mem_append.mp hq with h | h
    · exact List.mem_of_mem_take h
    · exact List.mem_of_mem_drop h
  have lo8 : (qs.take kk ++ qs.drop (kk + 1)).length ≤ 8 := by
    rw [List.length_append, List.length_take, List.length_drop]
    omega
  generalize qs.take kk ++ qs.drop (kk + 1) = os at hp4 hin lo8 hQ
  generalize xs.take kk ++ xs.drop (kk + 1) = ys at hp4 hc3
  have wdos : ∀ q, q ∈ os → WQ wd q ∧ q.1.length = n + 1 := fun q hq => ⟨hw q (hin q hq), (ok.ok q (hin q hq)).2⟩
  refine ⟨_, rfl, _, rfl, _, rfl, b2, xs, _, _, rfl, rfl, k4.seqT hb, atI_nat ex, c3, xv, n, wd, ys, os, b, rfl, hc3, hp4, hv.gr k4, bl, by omega, bo.nz, bw, w9, wdos, lo8, fun D ms L H5 g5 hL hD hms => ?_⟩
  have hL1 : L < n + 1 := by rw [← bl]; exact hL.1
  have lm : ms.length = os.length := by rw [paired_len hms, List.length_map]
  refine ⟨_, rfl, _, _, rfl, rfl, _, rfl, D, rfl, ⟨_, SqL.of hD⟩, fun D2 nD2 => lc_list (xs := ms) (fun u H' => GrD D2 H5 H' ∧ ∃ ws, H' D2 = some (.lst ws) ∧ Paired (QuV K H') ws (((os.map (mergeU L b)).take u).filter fun q => q.1.any fun z => decide (z ≠ 0))) ⟨(GrD.refl D2 H5).set _, [], upd_same, .nil⟩ (fun u H' _ h => SqL.of (GrL.lst (h.1.to nD2) hD)) (fun u x H' hx h => ?_) (fun H' h => ?_)⟩
  · obtain ⟨g6, ws, h6, hws⟩ := h
    obtain ⟨m, em, hm⟩ := paired_get hms hx
    have hu : u < ms.length := (List.getElem?_eq_some_iff.mp hx).1
    have lw := paired_len hws
    have lf := List.length_filter_le (fun q : List Int × Int => q.1.any fun z => decide (z ≠ 0)) ((os.map (mergeU L b)).take u)
    rw [List.length_take, List.length_map] at lf
    obtain ⟨qa, sv, rfl, s1, sa, rfl, s2⟩ := hm.gr (g6.to nD2)
    refine ⟨rfl, ?_⟩
    refine ⟨_, rfl, qa, _, _, _, rfl, rfl, s1, rfl, sa, m.1, rfl, s2, _, rfl, ?_⟩
    cases e : (m.1.any fun z => decide (z ≠ 0)) with
    | true =>
      have ts : Tst K H' (upd H' D2 (.lst (ws ++ [.ref qa]))) := Tst.put h6
      have hq' : QuV K H' (.ref qa) m := ⟨qa, _, rfl, s1, sa, rfl, s2⟩
      refine iteT ⟨_, rfl, ws, h6, small1000 (by omega), g6.set _, ws ++ [.ref qa], upd_same, ?_⟩
      rw [nzf_take em, if_pos e]
      exact paired_app (Paired.mapP hws fun _ _ z => z.st ts) (.cons (hq'.st ts) .nil)
    | false =>
      refine iteF ⟨g6, ws, h6, ?_⟩
      rw [nzf_take em, if_neg (by rw [e]; exact Bool.false_ne_true), List.append_nil]
      exact hws
  obtain ⟨g6, ws, h6, hws⟩ := h
  rw [lm, List.take_of_length_le (by rw [List.length_map]; exact Nat.le_refl _)] at hws
  have k6 := g6.to nD2
  have e : ((n + 1 : Nat) : Int) - 1 = ((n : Nat) : Int) := by omega
  have lo := lefts_ok (w := wd) (L := L) (l := os) (by omega) bw hL1 wdos
  refine ⟨n, D2, ws, leftsU L b os, by show [V.int (((n + 1 : Nat) : Int) - 1), V.ref D2] = _; rw [e], .inl (SqL.of h6), hws, fun q hq => ⟨(lo q hq).1, by have := (lo q hq).2; omega⟩, ?_, fun v H7 g7 hv7 => ?_⟩
  · unfold leftsU
    refine Nat.le_trans (List.length_filter_le _ _) ?_
    rw [List.length_map]
    omega
  · exact hQ v L H7 ((((g1.trans k4).trans g5).trans k6).trans g7) hL hv7
end
end SB
namespace SB
open PySem L2 GxR GA RZ
section
variable {K : PySem.W.Frag} {H : Hp}
theorem al_ln {n : Nat} {p q : Addr} {xs ys : List V} (hp : SqL K H p xs) (hq : SqL K H q ys) (hl : ys.length ≤ 1000) (h : Paired (Alike K H n) xs ys) : Alike K H (n + 1) (.ref p) (.ref q) :=
  .inr ⟨p, q, _, _, rfl, rfl, szN (by omega), .inr ⟨hp, hq⟩, h⟩
theorem al_qu (n : Nat) {x y : V} {q : List Int × Int} (hx : QuV K H x q) (hy : QuV K H y q) (hl : q.1.length ≤ 1000) : Alike K H (n + 3) x y := by
  obtain ⟨a, s, rfl, ha, hs⟩ := hx
  obtain ⟨b, t, rfl, hb, ht⟩ := hy
  exact .inr ⟨a, b, _, _, rfl, rfl, szN (by show 2 ≤ 1000000; decide), .inl ⟨ha, hb⟩, .cons (al_si n hs ht hl) (.cons (al_int (n + 1) _) .nil)⟩
theorem al_qus (n : Nat) : ∀ {xs ys : List V} {qs : List (List Int × Int)}, (∀ q, q ∈ qs → q.1.length ≤ 1000) → Paired (QuV K H) xs qs → Paired (QuV K H) ys qs → Paired (Alike K H (n + 3)) xs ys
  | _, _, _, _, .nil, .nil => .nil
  | _, _, _, hl, .cons h1 t1, .cons h2 t2 => .cons (al_qu n h1 h2 (hl _ List.mem_cons_self)) (al_qus n (fun q h => hl q (List.mem_cons_of_mem _ h)) t1 t2)
theorem al_bk (n : Nat) {x y : V} {d : Nat} {qs : List (List Int × Int)} (hx : BkV K H x d qs) (hy : BkV K H y d qs) (h8 : qs.length ≤ 1000) (hl : ∀ q, q ∈ qs → q.1.length ≤ 1000) : Alike K H (n + 5) x y := by
  obtain ⟨a, b, xs, rfl, ha, hb, hp⟩ := hx
  obtain ⟨a', b', ys, rfl, ha', hb', hq⟩ := hy
  have ly := paired_len hq
  exact .inr ⟨a, a', _, _, rfl, rfl, szN (by show 2 ≤ 1000000; decide), .inl ⟨ha, ha'⟩, .cons (al_int (n + 3) _) (.cons (.inr ⟨b, b', _, _, rfl, rfl, szN (by omega), .inl ⟨hb, hb'⟩, al_qus n hl hp hq⟩) .nil)⟩
end
theorem BOk.al {d : Nat} {qs : List (List Int × Int)} (ok : BOk d qs) : qs.length ≤ 1000 ∧ ∀ q, q ∈ qs → q.1.length ≤ 1000 := ⟨by have := ok.l8; omega, fun q h => by have := (ok.ok q h).2; have := ok.d8; omega⟩
theorem seqL_deck {K : PySem.W.Frag} {H H3 : Hp} {p l : Addr} {o : HO} {xs : List V} (np : H p = none) (g : GrD p (upd H p o) H3) (h : SqL K H l xs) : SqL K H3 l xs := by
  rcases h with (h | ⟨u, h⟩) | h
  · have ne : l ≠ p := ne_of_none h np
    exact .inl (.inl (g.keep l _ ne (fun _ z => nomatch z) (by rw [upd_ne ne]; exact h)))
  · have ne : l ≠ p := ne_of_none h np
    exact .inl (.inr ⟨u, g.keep l _ ne (fun _ z => nomatch z) (by rw [upd_ne ne]; exact h)⟩)
  · exact .inr h

theorem WQ.div {b : Nat} {q : List Int × Int} (h : WQ b q) (nz : NonZ q.1) : WQ b (divU q) := by
  have g0 := nonZ_g nz
  refine ⟨fun z hz => ?_, Nat.lt_of_le_of_lt (div_le g0 (gcdL_dvd (List.mem_append_right _ List.mem_cons_self))).1 h.2⟩
  obtain ⟨y, hy, rfl⟩ := List.mem_map.mp hz
  exact Nat.lt_of_le_of_lt (div_le g0 (gcdL_dvd (List.mem_append_left _ hy))).1 (h.1 y hy)
theorem QSm.wq {n : Nat} {q : List Int × Int} (h : QSm n q) (w : q.2.natAbs ≤ 20) : WQ 5 q := ⟨fun z hz => Nat.lt_of_le_of_lt (h.ns z hz) (by decide), Nat.lt_of_le_of_lt w (by decide)⟩
theorem merged_book {wd L n : Nat} {b : List Int × Int} {os : List (List Int × Int)} (hw : 2 * wd + 1 ≤ 10000) (hb : WQ wd b) (hL : L < n + 1) (n1 : 1 ≤ n) (n8 : n ≤ 8) (l8 : os.length ≤ 8) (h : ∀ q, q ∈ os → WQ wd q ∧ q.1.length = n + 1) : BOk n (mergedU L b os) ∧ ∀ q, q ∈ mergedU L b os → WQ (2 * wd + 1) q := by
  have lo := lefts_ok (L := L) hw hb hL h
  refine ⟨made_ok n1 n8 lo ?_, fun q hq => ?_⟩
  · unfold leftsU
    refine Nat.le_trans (List.length_filter_le _ _) ?_
    rw [List.length_map]
    exact l8
  · obtain ⟨p, hp, rfl⟩ := List.mem_map.mp hq
    obtain ⟨r, hr, rfl, nz⟩ := lefts_mem (kept_sub _ p hp)
    exact (mergeU_w hb (h r hr).1).div nz
def fixQ : List (List Int × Int) := [([2, -1], 1), ([-4, 2], 3), ([0, 3], 6), ([1, 1], 0)]
theorem fix_new {K : PySem.W.Frag} {H : Hp} {q1 q2 q3 q4 q5 q6 q7 q8 q9 q10 : Addr} (t1 : SqT K H q1 [.int 2, .int (-1)]) (t2 : SqT K H q2 [.ref q1, .int 1]) (t3 : SqT K H q3 [.int (-4), .int 2]) (t4 : SqT K H q4 [.ref q3, .int 3]) (t5 : SqT K H q5 [.int 0, .int 3]) (t6 : SqT K H q6 [.ref q5, .int 6]) (t7 : SqT K H q7 [.int 1, .int 1]) (t8 : SqT K H q8 [.ref q7, .int 0]) (t9 : SqT K H q9 [.ref q2, .ref q4, .ref q6, .ref q8]) (t10 : SqT K H q10 [.int 2, .ref q9]) : BkV K H (.ref q10) 2 fixQ :=
  ⟨q10, q9, _, rfl, t10, t9, .cons ⟨q2, _, rfl, t2, q1, rfl, t1⟩ (.cons ⟨q4, _, rfl, t4, q3, rfl, t3⟩ (.cons ⟨q6, _, rfl, t6, q5, rfl, t5⟩ (.cons ⟨q8, _, rfl, t8, q7, rfl, t7⟩ .nil)))⟩
theorem fix_ok : BOk 2 fixQ ∧ ∀ q, q ∈ fixQ → QSm 2 q ∧ q.2.natAbs ≤ 20 := by
  have s : ∀ q ∈ fixQ, (q.1.any fun z => decide (z ≠ 0)) = true ∧ (∀ z ∈ q.1, z.natAbs ≤ 10) ∧ q.1.length = 2 ∧ q.2.natAbs ≤ 20 := by decide +kernel
  have sm : ∀ q, q ∈ fixQ → QSm 2 q ∧ q.2.natAbs ≤ 20 := fun q hq => ⟨⟨(s q hq).1, (s q hq).2.1, (s q hq).2.2.1⟩, (s q hq).2.2.2⟩
  exact ⟨⟨by decide, by decide, by decide, fun q hq => ⟨(sm q hq).1.ok (sm q hq).2, (sm q hq).1.len⟩, by decide +kernel⟩, sm⟩
section
variable {P : Program} {w : World} {K : PySem.W.Frag} {mg : Str → Option Value} {base : Heap}
def spLaw (K : PySem.W.Frag) : Sp := fun vs H Q _ => ∃ (a : Addr) (ns : List Int), vs = [.ref a] ∧ SqL K H a (ns.map V.int) ∧ ns.length ≤ 63 ∧ ∀ H', Q (.bl true) H'
theorem sc_law : FnScope ["_law_script", "_law_spot", "_law_stock_here", "_law_d", "_law_questions", "_law_book_here", "_law_at", "_law_due", "_law_told", "_law_again"] ["_law_script"] (defScope s_law) := ⟨rfl, rfl, rfl, by decide +kernel, rfl, by decide +kernel, by decide +kernel⟩
theorem ok_law {f : Addr} {fd : FuncData} (F : Fun K "law" "law" s_law f fd) (B : Blt mg) (CS : Cl P w K mg base 1 "_law_stock" ["_law_script", "_law_spot"] (spStock K)) (CP : Cl P w K mg base 1 "_law_pick" ["_law_stock_here", "_law_many"] spPick) (CB : Cl P w K mg base 4 "_law_book" ["_law_stock_here", "_law_many", "_law_most"] (spLBook K))
    (CL : Cl P w K mg base 4 "_law_merged" ["_law_book_here", "_law_at"] (spLMg K)) (CM : Cl P w K mg base 39 "merged" ["book", "index"] (spLMg K)) (KM : ClK P w K mg base 39 "merged" ["book", "index"] ["index", "book"] gR2 gR2 (spLMg K)) (CA : Cl P w K mg base 6 "_law_alike" ["_law_thing", "_law_due"] (spSame K 6)) :
    FnG P w K mg base 40 f fd ["_law_script"] (spLaw K) := by
  refine okG F sc_law (fun vs H Q E h => ?_) (fun cdv A outer s H vs Q E gd hr h => ?_)
  · obtain ⟨a, ns, rfl, _⟩ := h
    rfl
  obtain ⟨l, ns, rfl, hS, h63, q⟩ := h
  refine ⟨_, (pss_cons (ps_for PassesOwn.never rfl (pi_range1 rfl B.rng (pa_cons (pe_callB (call_max2 rfl) rfl B.max PyProof.Rows.boot_max (pa_cons pe_int (pa_cons (pe_callB (call_min2 rfl) rfl B.min PyProof.Rows.boot_min (pa_cons pe_int (pa_cons (pe_len (pv 0) B.len) pa_nil))) pa_nil))) pa_nil)) (pg_name (i := 1) sc_law.nd rfl (Or.inl rfl))
      (pss_cons (ps_set (i := 2) sc_law.nd rfl (.inl rfl) (pe_cl CS (hr.mono (by decide)) (pa_cons (pv 0) (pa_cons (pv 1) pa_nil))))
      (pss_cons (ps_asg (pe_cl CB (hr.mono (by decide)) (pa_cons (pv 2) (pa_cons pe_int (pa_cons (pe_ix ix_list (pe_lst (pa_cons pe_int (pa_cons pe_int (pa_cons pe_int pa_nil)))) (pe_cl CP (hr.mono (by decide)) (pa_cons (pv 2) (pa_cons pe_int pa_nil))) (fun _ _ => rfl)) pa_nil)))) (pg_tup rfl (pgs_cons (pg_name (i := 3) sc_law.nd rfl (Or.inl rfl)) (pgs_cons (pg_name (i := 4) sc_law.nd rfl (Or.inl rfl)) pgs_nil))))
      (pss_cons (ps_set (i := 5) sc_law.nd rfl (.inl rfl) (pe_tup (pa_cons (pv 3) (pa_cons (pv 4) pa_nil))))
      (pss_cons (ps_if (PW.pt (by exact (pw_or (pt_cmpR op_lt (pv 3) pe_int (nomark _)) (pw_or1 (pt_cmpR (op_eqD hr.units) (pv 4) (pe_tup pa_nil) (nomark _)))))) (pss_one (ps_set (i := 5) sc_law.nd rfl (.inl rfl) (pe_tup (pa_cons pe_int (pa_cons (pe_tup (pa_cons (pe_tup (pa_cons (pe_tup (pa_cons pe_int (pa_cons (pe_un un_neg pe_int) pa_nil))) (pa_cons pe_int pa_nil))) (pa_cons (pe_tup (pa_cons (pe_tup (pa_cons (pe_un un_neg pe_int) (pa_cons pe_int pa_nil))) (pa_cons pe_int pa_nil))) (pa_cons (pe_tup (pa_cons (pe_tup (pa_cons pe_int (pa_cons pe_int pa_nil))) (pa_cons pe_int pa_nil))) (pa_cons (pe_tup (pa_cons (pe_tup (pa_cons pe_int (pa_cons pe_int pa_nil))) (pa_cons pe_int pa_nil))) pa_nil))))) pa_nil))))) pss_nil)
      (pss_one (ps_for PassesOwn.never rfl (pi_range1 rfl B.rng (pa_cons (pe_len (pe_ix ix_tup (pv 5) pe_int (fun _ _ => rfl)) B.len) pa_nil)) (pg_name (i := 6) sc_law.nd rfl (Or.inl rfl))
        (pss_cons (ps_set (i := 7) sc_law.nd rfl (.inl rfl) (pe_cl CL (hr.mono (by decide)) (pa_cons (pv 5) (pa_cons (pv 6) pa_nil))))
        (pss_cons (ps_set (i := 8) sc_law.nd rfl (.inl rfl) (pe_cl CM (hr.mono (by decide)) (pa_cons (pv 5) (pa_cons (pv 6) pa_nil))))
        (pss_cons (ps_if (pt_not (pt_val (pe_cl CA (hr.mono (by decide)) (pa_cons (pe_lst (pa_cons (pv 8) (pa_cons (pe_clK KM (hr.mono (by decide)) (pk_cons (pv 6) (pk_cons (pv 5) pk_nil))) pa_nil))) (pa_cons (pe_lst (pa_cons (pv 7) (pa_cons (pv 7) pa_nil))) pa_nil))))) pss_no pss_nil)
        (pss_one (ps_if (PW.pt (by exact (pw_and (pt_cmpR op_gt (pe_ix ix_tup (pv 7) pe_int (fun _ _ => rfl)) pe_int (nomark _)) (pw_and1 (pt_cmpR (op_neD hr.units) (pe_ix ix_tup (pv 7) pe_int (fun _ _ => rfl)) (pe_tup pa_nil) (nomark _)))))) (pss_cons (ps_set (i := 9) sc_law.nd rfl (.inl rfl) (pe_cl CP (hr.mono (by decide)) (pa_cons (pv 2) (pa_cons (pe_len (pe_ix ix_tup (pv 7) pe_int (fun _ _ => rfl)) B.len) pa_nil))))
          (pss_one (ps_if (pt_not (pt_val (pe_cl CA (hr.mono (by decide)) (pa_cons (pe_cl CM (hr.mono (by decide)) (pa_cons (pv 8) (pa_cons (pv 9) pa_nil))) (pa_cons (pe_cl CL (hr.mono (by decide)) (pa_cons (pv 7) (pa_cons (pv 9) pa_nil))) pa_nil))))) pss_no pss_nil))) pss_nil))))))))))))
    (pss_one (ps_ret pe_bl))), ?_⟩
  refine ⟨_, rfl, l, _, rfl, .inl hS, _, _, rfl, _, _, rfl, _, rfl, ?_, ?_, ?_⟩
  · split <;> (try split) <;> omega
  · split <;> (try split) <;> omega
  refine for_range (lo := 0) (Pv := fun _ σ H' => ∃ a1 a2 a3 a4 a5 a6 a7 a8 a9 : Option V, σ = [some (.ref l), a1, a2, a3, a4, a5, a6, a7, a8, a9] ∧ SqL K H' l (ns.map V.int)) ⟨_, _, _, _, _, _, _, _, _, rfl, hS⟩ (fun k σ H' hk hP => ?_) (fun σ H' hP => q H')
  obtain ⟨a1, a2, a3, a4, a5, a6, a7, a8, a9, rfl, hSk⟩ := hP
  have hk' : k < 64 := by
    split at hk <;> (try split at hk) <;> omega
  refine ⟨_, rfl, _, rfl, l, ns, (0 : Int) + k, rfl, hSk, h63, by omega, by omega, fun dk a b ndk b0 b1 => ?_⟩
  have s0 : Stk dk 0 (upd H' dk (.lst [.int a, .int b, .int 0])) := ⟨a, b, 0, upd_same, b0, b1, by decide, by decide⟩
  have back : ∀ {H3 : Hp}, GrD dk (upd H' dk (.lst [.int a, .int b, .int 0])) H3 → SqL K H3 l (ns.map V.int) := fun g => seqL_deck ndk g hSk
  generalize upd H' dk (.lst [.int a, .int b, .int 0]) = H0 at s0 back ⊢
  clear hSk ndk b0 b1
  refine ⟨_, rfl, szN (by show 3 ≤ 1000000; decide), fun L nL => ?_⟩
  have rL := (Gr.refl H0).new nL (.lst [.int 3, .int 3, .int 9])
  have eL : (upd H0 L (.lst [.int 3, .int 3, .int 9])) L = some (.lst [.int 3, .int 3, .int 9]) := upd_same
  have nLd := s0.ne nL
  have s1 := s0.gr rL
  have g1 := rL.d dk
  generalize upd H0 L (.lst [.int 3, .int 3, .int 9]) = H1 at eL s1 g1 ⊢
  refine ⟨_, rfl, dk, 3, _, rfl, s1, by decide, by decide, by decide +kernel, fun t H2 t0 t1 g2 s2 => ?_⟩
  have hm : ∃ m : Nat, atI ([.int 3, .int 3, .int 9] : List V) t = some (.int ((m : Nat) : Int)) ∧ 1 ≤ m ∧ m ≤ 9 := by
    have : t = 0 ∨ t = 1 ∨ t = 2 := by omega
    rcases this with rfl | rfl | rfl
    · exact ⟨3, rfl, by decide, by decide⟩
    · exact ⟨3, rfl, by decide, by decide⟩
    · exact ⟨9, rfl, by decide, by decide⟩
  obtain ⟨m, am, m1, m9⟩ := hm
  refine ⟨L, _, _, _, rfl, rfl, SqL.of (GrDL.lst g2 nLd eL), am, dk, 6, m, _, rfl, s2, by decide, by decide, m1, m9, fun v n qs H3 g3 s3 hv ok n4 sm => ?_⟩
  have g03 := (g1.trans g2).trans g3
  obtain ⟨va, vb, xs, rfl, ha, hb, hp⟩ := id hv
  refine ⟨va, _, rfl, ha, rfl, _, _, rfl, _, _, rfl, rfl, ?_⟩
  let Pst : Prop → L2.St → Hp → Prop := fun C σ' H' => ∃ (p : Addr) (N : Nat) (qs : List (List Int × Int)) (a1 a6 a7 a8 a9 : Option V), σ' = [some (.ref l), a1, some (.ref dk), some (.int ((n : Nat) : Int)), some (.ref vb), some (.ref p), a6, a7, a8, a9] ∧ BkV K H' (.ref p) N qs ∧ BOk N qs ∧ (∀ q, q ∈ qs → QSm N q ∧ q.2.natAbs ≤ 20) ∧ (C → 2 ≤ N) ∧ N ≤ 4 ∧ GrD dk H0 H' ∧ Stk dk 300 H'
  refine seq_join (fun σ' H' => ∃ (a1 a5 a6 a7 a8 a9 : Option V), σ' = [some (.ref l), a1, some (.ref dk), some (.int ((n : Nat) : Int)), some (.ref vb), a5, a6, a7, a8, a9] ∧ SqT K H' vb xs ∧ Paired (QuV K H') xs qs ∧ GrD dk H0 H' ∧ Stk dk 300 H') (fun σ' H4 h => ?_) (fun Kn hK => hK _ _ ⟨_, _, _, _, _, _, rfl, hb, hp, g03, s3.more (by omega)⟩)
  clear hb hp ha hv g03 s3 g3 s2 g2 eL am s1 g1 rL
  obtain ⟨a1, a5, a6, a7, a8, a9, rfl, hb, hp, g03, s3⟩ := h
  refine seq_join (fun σ' H' => ∃ (p : Addr) (a1 a6 a7 a8 a9 : Option V), σ' = [some (.ref l), a1, some (.ref dk), some (.int ((n : Nat) : Int)), some (.ref vb), some (.ref p), a6, a7, a8, a9] ∧ BkV K H' (.ref p) n qs ∧ SqT K H' vb xs ∧ Paired (QuV K H') xs qs ∧ GrD dk H0 H' ∧ Stk dk 300 H') (fun σ' H4 h => ?_) (fun Kn hK => ?_)
  rotate_left
  · refine ⟨_, rfl, _, rfl, szN (by show 2 ≤ 1000000; decide), fun p np => ?_⟩
    have rp := (Gr.refl H4).new np (.tup [.int ((n : Nat) : Int), .ref vb])
    exact hK _ _ ⟨p, _, _, _, _, _, rfl, ⟨p, vb, xs, rfl, SqT.of upd_same, rp.seqT hb, Paired.mapP hp fun _ _ z => QuV.gr z rp⟩, rp.seqT hb, Paired.mapP hp fun _ _ z => QuV.gr z rp, g03.gr rp, s3.gr rp⟩
  clear hb hp g03 s3
  obtain ⟨p, a1, a6, a7, a8, a9, rfl, hbk, hvb, hpx, g4, s4⟩ := h
  refine seq_join (Pst True) (fun σ' H5 h => ?_) (fun Kn hK => ?_)
  rotate_left
  · refine ⟨_, rfl, _, _, rfl, rfl, _, rfl, ?_⟩
    by_cases c : ((n : Nat) : Int) < 2
    · refine iteP c (iteT ?_)
      refine ⟨_, rfl, szN (by show 2 ≤ 1000000; decide), fun q1 m1 => ?_⟩
      have r1 := (Gr.refl H4).new m1 (.tup [.int 2, .int (-1)])
      have t1 : SqT K (upd H4 q1 (.tup [.int 2, .int (-1)])) q1 [.int 2, .int (-1)] := SqT.of upd_same
      have k1 := r1
      generalize upd H4 q1 (.tup [.int 2, .int (-1)]) = W1 at r1 t1 k1 ⊢
      refine ⟨szN (by show 2 ≤ 1000000; decide), fun q2 m2 => ?_⟩
      have r2 := (Gr.refl W1).new m2 (.tup [.ref q1, .int 1])
      have t2 : SqT K (upd W1 q2 (.tup [.ref q1, .int 1])) q2 [.ref q1, .int 1] := SqT.of upd_same
      have t1 := r2.seqT t1
      have k2 := k1.trans r2
      generalize upd W1 q2 (.tup [.ref q1, .int 1]) = W2 at r2 t1 t2 k2 ⊢
      refine ⟨_, rfl, szN (by show 2 ≤ 1000000; decide), fun q3 m3 => ?_⟩
      have r3 := (Gr.refl W2).new m3 (.tup [.int (-4), .int 2])
      have t3 : SqT K (upd W2 q3 (.tup [.int (-4), .int 2])) q3 [.int (-4), .int 2] := SqT.of upd_same
      have t1 := r3.seqT t1
      have t2 := r3.seqT t2
      have k3 := k2.trans r3
      generalize upd W2 q3 (.tup [.int (-4), .int 2]) = W3 at r3 t1 t2 t3 k3 ⊢
      refine ⟨szN (by show 2 ≤ 1000000; decide), fun q4 m4 => ?_⟩
      have r4 := (Gr.refl W3).new m4 (.tup [.ref q3, .int 3])
      have t4 : SqT K (upd W3 q4 (.tup [.ref q3, .int 3])) q4 [.ref q3, .int 3] := SqT.of upd_same
      have t1 := r4.seqT t1
      have t2 := r4.seqT t2
      have t3 := r4.seqT t3
      have k4 := k3.trans r4
      generalize upd W3 q4 (.tup [.ref q3, .int 3]) = W4 at r4 t1 t2 t3 t4 k4 ⊢
      refine ⟨szN (by show 2 ≤ 1000000; decide), fun q5 m5 => ?_⟩
      have r5 := (Gr.refl W4).new m5 (.tup [.int 0, .int 3])
      have t5 : SqT K (upd W4 q5 (.tup [.int 0, .int 3])) q5 [.int 0, .int 3] := SqT.of upd_same
      have t1 := r5.seqT t1
      have t2 := r5.seqT t2
      have t3 := r5.seqT t3
      have t4 := r5.seqT t4
      have k5 := k4.trans r5
      generalize upd W4 q5 (.tup [.int 0, .int 3]) = W5 at r5 t1 t2 t3 t4 t5 k5 ⊢
      refine ⟨szN (by show 2 ≤ 1000000; decide), fun q6 m6 => ?_⟩
      have r6 := (Gr.refl W5).new m6 (.tup [.ref q5, .int 6])
      have t6 : SqT K (upd W5 q6 (.tup [.ref q5, .int 6])) q6 [.ref q5, .int 6] := SqT.of upd_same
      have t1 := r6.seqT t1
      have t2 := r6.seqT t2
      have t3 := r6.seqT t3
      have t4 := r6.seqT t4
      have t5 := r6.seqT t5
      have k6 := k5.trans r6
      generalize upd W5 q6 (.tup [.ref q5, .int 6]) = W6 at r6 t1 t2 t3 t4 t5 t6 k6 ⊢
      refine ⟨szN (by show 2 ≤ 1000000; decide), fun q7 m7 => ?_⟩
      have r7 := (Gr.refl W6).new m7 (.tup [.int 1, .int 1])
      have t7 : SqT K (upd W6 q7 (.tup [.int 1, .int 1])) q7 [.int 1, .int 1] := SqT.of upd_same
      have t1 := r7.seqT t1
      have t2 := r7.seqT t2
      have t3 := r7.seqT t3
      have t4 := r7.seqT t4
      have t5 := r7.seqT t5
      have t6 := r7.seqT t6
      have k7 := k6.trans r7
      generalize upd W6 q7 (.tup [.int 1, .int 1]) = W7 at r7 t1 t2 t3 t4 t5 t6 t7 k7 ⊢
      refine ⟨szN (by show 2 ≤ 1000000; decide), fun q8 m8 => ?_⟩
      have r8 := (Gr.refl W7).new m8 (.tup [.ref q7, .int 0])
      have t8 : SqT K (upd W7 q8 (.tup [.ref q7, .int 0])) q8 [.ref q7, .int 0] := SqT.of upd_same
      have t1 := r8.seqT t1
      have t2 := r8.seqT t2
      have t3 := r8.seqT t3
      have t4 := r8.seqT t4
      have t5 := r8.seqT t5
      have t6 := r8.seqT t6
      have t7 := r8.seqT t7
      have k8 := k7.trans r8
      generalize upd W7 q8 (.tup [.ref q7, .int 0]) = W8 at r8 t1 t2 t3 t4 t5 t6 t7 t8 k8 ⊢
      refine ⟨szN (by show 4 ≤ 1000000; decide), fun q9 m9 => ?_⟩
      have r9 := (Gr.refl W8).new m9 (.tup [.ref q2, .ref q4, .ref q6, .ref q8])
      have t9 : SqT K (upd W8 q9 (.tup [.ref q2, .ref q4, .ref q6, .ref q8])) q9 [.ref q2, .ref q4, .ref q6, .ref q8] := SqT.of upd_same
      have t1 := r9.seqT t1
      have t2 := r9.seqT t2
      have t3 := r9.seqT t3
      have t4 := r9.seqT t4
      have t5 := r9.seqT t5
      have t6 := r9.seqT t6
      have t7 := r9.seqT t7
      have t8 := r9.seqT t8
      have k9 := k8.trans r9
      generalize upd W8 q9 (.tup [.ref q2, .ref q4, .ref q6, .ref q8]) = W9 at r9 t1 t2 t3 t4 t5 t6 t7 t8 t9 k9 ⊢
      refine ⟨szN (by show 2 ≤ 1000000; decide), fun q10 m10 => ?_⟩
      have r10 := (Gr.refl W9).new m10 (.tup [.int 2, .ref q9])
      have t10 : SqT K (upd W9 q10 (.tup [.int 2, .ref q9])) q10 [.int 2, .ref q9] := SqT.of upd_same
      have t1 := r10.seqT t1
      have t2 := r10.seqT t2
      have t3 := r10.seqT t3
      have t4 := r10.seqT t4
      have t5 := r10.seqT t5
      have t6 := r10.seqT t6
      have t7 := r10.seqT t7
      have t8 := r10.seqT t8
      have t9 := r10.seqT t9
      have k10 := k9.trans r10
      generalize upd W9 q10 (.tup [.int 2, .ref q9]) = W10 at r10 t1 t2 t3 t4 t5 t6 t7 t8 t9 t10 k10 ⊢
      exact hK _ _ ⟨q10, 2, fixQ, _, _, _, _, _, rfl, fix_new t1 t2 t3 t4 t5 t6 t7 t8 t9 t10, fix_ok.1, fix_ok.2, fun _ => by decide, by decide, g4.gr k10, s4.gr k10⟩
    refine iteN c ?_
    refine ⟨_, rfl, szN (by show 0 ≤ 1000000; decide), fun pe ne => ?_⟩
    have re := (Gr.refl H4).new ne (.tup [])
    refine ⟨.tuple (qs.map quP), .tuple [], .tup (re.seqT hvb) (dp_qus (Paired.mapP hpx fun _ _ z => QuV.gr z re)), .tup (SqT.of upd_same) .nil, shp_qus qs, by decide, _, rfl, ?_⟩
    rw [eqv_nilT]
    have g5 := g4.gr re
    have s5 := s4.gr re
    have hbk5 := hbk.gr re
    generalize upd H4 pe (.tup []) = H5 at g5 s5 hbk5 ⊢
    clear re ne
    cases hem : (qs.map quP).isEmpty with
    | true =>
      refine iteT ?_
      refine ⟨_, rfl, szN (by show 2 ≤ 1000000; decide), fun q1 m1 => ?_⟩
      have r1 := (Gr.refl H5).new m1 (.tup [.int 2, .int (-1)])
      have t1 : SqT K (upd H5 q1 (.tup [.int 2, .int (-1)])) q1 [.int 2, .int (-1)] := SqT.of upd_same
      have k1 := r1
      generalize upd H5 q1 (.tup [.int 2, .int (-1)]) = W1 at r1 t1 k1 ⊢
      refine ⟨szN (by show 2 ≤ 1000000; decide), fun q2 m2 => ?_⟩
      have r2 := (Gr.refl W1).new m2 (.tup [.ref q1, .int 1])
      have t2 : SqT K (upd W1 q2 (.tup [.ref q1, .int 1])) q2 [.ref q1, .int 1] := SqT.of upd_same
      have t1 := r2.seqT t1
      have k2 := k1.trans r2
      generalize upd W1 q2 (.tup [.ref q1, .int 1]) = W2 at r2 t1 t2 k2 ⊢
      refine ⟨_, rfl, szN (by show 2 ≤ 1000000; decide), fun q3 m3 => ?_⟩
      have r3 := (Gr.refl W2).new m3 (.tup [.int (-4), .int 2])
      have t3 : SqT K (upd W2 q3 (.tup [.int (-4), .int 2])) q3 [.int (-4), .int 2] := SqT.of upd_same
      have t1 := r3.seqT t1
      have t2 := r3.seqT t2
      have k3 := k2.trans r3
      generalize upd W2 q3 (.tup [.int (-4), .int 2]) = W3 at r3 t1 t2 t3 k3 ⊢
      refine ⟨szN (by show 2 ≤ 1000000; decide), fun q4 m4 => ?_⟩
      have r4 := (Gr.refl W3).new m4 (.tup [.ref q3, .int 3])
      have t4 : SqT K (upd W3 q4 (.tup [.ref q3, .int 3])) q4 [.ref q3, .int 3] := SqT.of upd_same
      have t1 := r4.seqT t1
      have t2 := r4.seqT t2
      have t3 := r4.seqT t3
      have k4 := k3.trans r4
      generalize upd W3 q4 (.tup [.ref q3, .int 3]) = W4 at r4 t1 t2 t3 t4 k4 ⊢
      refine ⟨szN (by show 2 ≤ 1000000; decide), fun q5 m5 => ?_⟩
      have r5 := (Gr.refl W4).new m5 (.tup [.int 0, .int 3])
      have t5 : SqT K (upd W4 q5 (.tup [.int 0, .int 3])) q5 [.int 0, .int 3] := SqT.of upd_same
      have t1 := r5.seqT t1
      have t2 := r5.seqT t2
      have t3 := r5.seqT t3
      have t4 := r5.seqT t4
      have k5 := k4.trans r5
      generalize upd W4 q5 (.tup [.int 0, .int 3]) = W5 at r5 t1 t2 t3 t4 t5 k5 ⊢
      refine ⟨szN (by show 2 ≤ 1000000; decide), fun q6 m6 => ?_⟩
      have r6 := (Gr.refl W5).new m6 (.tup [.ref q5, .int 6])
      have t6 : SqT K (upd W5 q6 (.tup [.ref q5, .int 6])) q6 [.ref q5, .int 6] := SqT.of upd_same
      have t1 := r6.seqT t1
      have t2 := r6.seqT t2
      have t3 := r6.seqT t3
      have t4 := r6.seqT t4
      have t5 := r6.seqT t5
      have k6 := k5.trans r6
      generalize upd W5 q6 (.tup [.ref q5, .int 6]) = W6 at r6 t1 t2 t3 t4 t5 t6 k6 ⊢
      refine ⟨szN (by show 2 ≤ 1000000; decide), fun q7 m7 => ?_⟩
      have r7 := (Gr.refl W6).new m7 (.tup [.int 1, .int 1])
      have t7 : SqT K (upd W6 q7 (.tup [.int 1, .int 1])) q7 [.int 1, .int 1] := SqT.of upd_same
      have t1 := r7.seqT t1
      have t2 := r7.seqT t2
      have t3 := r7.seqT t3
      have t4 := r7.seqT t4
      have t5 := r7.seqT t5
      have t6 := r7.seqT t6
      have k7 := k6.trans r7
      generalize upd W6 q7 (.tup [.int 1, .int 1]) = W7 at r7 t1 t2 t3 t4 t5 t6 t7 k7 ⊢
      refine ⟨szN (by show 2 ≤ 1000000; decide), fun q8 m8 => ?_⟩
      have r8 := (Gr.refl W7).new m8 (.tup [.ref q7, .int 0])
      have t8 : SqT K (upd W7 q8 (.tup [.ref q7, .int 0])) q8 [.ref q7, .int 0] := SqT.of upd_same
      have t1 := r8.seqT t1
      have t2 := r8.seqT t2
      have t3 := r8.seqT t3
      have t4 := r8.seqT t4
      have t5 := r8.seqT t5
      have t6 := r8.seqT t6
      have t7 := r8.seqT t7
      have k8 := k7.trans r8
      generalize upd W7 q8 (.tup [.ref q7, .int 0]) = W8 at r8 t1 t2 t3 t4 t5 t6 t7 t8 k8 ⊢
      refine ⟨szN (by show 4 ≤ 1000000; decide), fun q9 m9 => ?_⟩
      have r9 := (Gr.refl W8).new m9 (.tup [.ref q2, .ref q4, .ref q6, .ref q8])
      have t9 : SqT K (upd W8 q9 (.tup [.ref q2, .ref q4, .ref q6, .ref q8])) q9 [.ref q2, .ref q4, .ref q6, .ref q8] := SqT.of upd_same
      have t1 := r9.seqT t1
      have t2 := r9.seqT t2
      have t3 := r9.seqT t3
      have t4 := r9.seqT t4
      have t5 := r9.seqT t5
      have t6 := r9.seqT t6
      have t7 := r9.seqT t7
      have t8 := r9.seqT t8
      have k9 := k8.trans r9
      generalize upd W8 q9 (.tup [.ref q2, .ref q4, .ref q6, .ref q8]) = W9 at r9 t1 t2 t3 t4 t5 t6 t7 t8 t9 k9 ⊢
      refine ⟨szN (by show 2 ≤ 1000000; decide), fun q10 m10 => ?_⟩
      have r10 := (Gr.refl W9).new m10 (.tup [.int 2, .ref q9])
      have t10 : SqT K (upd W9 q10 (.tup [.int 2, .ref q9])) q10 [.int 2, .ref q9] := SqT.of upd_same
      have t1 := r10.seqT t1
      have t2 := r10.seqT t2
      have t3 := r10.seqT t3
      have t4 := r10.seqT t4
      have t5 := r10.seqT t5
      have t6 := r10.seqT t6
      have t7 := r10.seqT t7
      have t8 := r10.seqT t8
      have t9 := r10.seqT t9
      have k10 := k9.trans r10
      generalize upd W9 q10 (.tup [.int 2, .ref q9]) = W10 at r10 t1 t2 t3 t4 t5 t6 t7 t8 t9 t10 k10 ⊢
      exact hK _ _ ⟨q10, 2, fixQ, _, _, _, _, _, rfl, fix_new t1 t2 t3 t4 t5 t6 t7 t8 t9 t10, fix_ok.1, fix_ok.2, fun _ => by decide, by decide, g5.gr k10, s5.gr k10⟩
    | false => exact iteF (hK _ _ ⟨p, n, qs, _, _, _, _, _, rfl, hbk5, ok, sm, fun _ => by omega, n4, g5, s5⟩)
  clear hbk hvb hpx g4 s4
  obtain ⟨p, N, qs, a1, a6, a7, a8, a9, rfl, hbk, ok, sm, n2, N4, g5, s5⟩ := h
  have n2 := n2 trivial
  obtain ⟨M, rfl⟩ : ∃ M, N = M + 1 := ⟨N - 1, by omega⟩
  have lq8 := ok.l8
  have wq : ∀ q, q ∈ qs → WQ 5 q := fun q hq => (sm q hq).1.wq (sm q hq).2
  obtain ⟨pa, pb, ys, epa, hpa, hpb, hpp⟩ := id hbk
  cases epa
  have ly : ys.length = qs.length := paired_len hpp
  refine ⟨_, rfl, p, _, _, _, rfl, rfl, hpa, rfl, pb, ys, rfl, .inr hpb, _, rfl, by omega, by omega, for_range (lo := 0) (fun i σ H' => ∃ a1 a6 a7 a8 a9 : Option V, σ = [some (.ref l), a1, some (.ref dk), some (.int ((n : Nat) : Int)), some (.ref vb), some (.ref p), a6, a7, a8, a9] ∧ BkV K H' (.ref p) (M + 1) qs ∧ GrD dk H0 H' ∧ Stk dk (300 + i) H') ⟨_, _, _, _, _, rfl, hbk, g5, s5⟩ (fun i σ H6 hi h => ?_) (fun σ H6 h => ?_)⟩
  rotate_left
  · obtain ⟨a1, a6, a7, a8, a9, rfl, _, g6, _⟩ := h
    exact ⟨_, _, _, _, _, _, _, _, _, rfl, back g6⟩
  clear hpa hpb hpp hbk g5 s5
  obtain ⟨a1, a6, a7, a8, a9, rfl, hbk, g6, s6⟩ := h
  have hi' : i < qs.length := by
    rw [Int.toNat_natCast] at hi
    omega
  obtain ⟨b, eb⟩ : ∃ b, qs[i]? = some b := ⟨_, List.getElem?_eq_getElem hi'⟩
  have z0 : (0 : Int) + (i : Int) = ((i : Nat) : Int) := Int.zero_add _
  have e0 : [V.ref p, V.int (0 + (i : Int))] = [V.ref p, V.int ((i : Nat) : Int)] := by rw [z0]
  refine ⟨_, rfl, _, rfl, .ref p, i, M, 5, qs, b, e0, hbk, ok, by omega, eb, wq, by decide, fun v1 L1 H7 g7 hL1 hv1 => ?_⟩
  refine ⟨_, rfl, _, rfl, .ref p, i, M, 5, qs, b, e0, hbk.gr g7, ok, by omega, eb, wq, by decide, fun v2 L2 H8 g8 hL2 hv2 => ?_⟩
  refine ⟨_, rfl, _, rfl, _, rfl, .ref p, i, M, 5, qs, b, e0, (hbk.gr g7).gr g8, ok, by omega, eb, wq, by decide, fun v3 L3 H9 g9 hL3 hv3 => ?_⟩
  cases hL2.one hL1
  cases hL3.one hL1
  obtain ⟨bo, bl⟩ := ok.ok b (List.mem_of_getElem? eb)
  have hin : ∀ q, q ∈ qs.take i ++ qs.drop (i + 1) → q ∈ qs := fun q hq => by
    rcases List.mem_append.mp hq with h | h
    · exact List.mem_of_mem_take h
    · exact List.mem_of_mem_drop h
  obtain ⟨mok, mw⟩ := merged_book (wd := 5) (L := L1) (n := M) (os := qs.take i ++ qs.drop (i + 1)) (by decide) (wq b (List.mem_of_getElem? eb)) (by rw [← bl]; exact hL1.1) (by omega) (by omega) (by rw [List.length_append, List.length_take, List.length_drop]; omega) fun q hq => ⟨wq q (hin q hq), (ok.ok q (hin q hq)).2⟩
  generalize mergedU L1 b (qs.take i ++ qs.drop (i + 1)) = mq at hv1 hv2 hv3 mok mw
  have al := mok.al
  refine ⟨szN (by show 2 ≤ 1000000; decide), fun pf nf => ?_⟩
  have r1 := (Gr.refl H9).new nf (.lst [v2, v3])
  have eF : (upd H9 pf (.lst [v2, v3])) pf = some (.lst [v2, v3]) := upd_same
  generalize upd H9 pf (.lst [v2, v3]) = HA at r1 eF ⊢
  refine ⟨_, rfl, _, rfl, szN (by show 2 ≤ 1000000; decide), fun pw nw => ?_⟩
  have r2 := (Gr.refl HA).new nw (.lst [v1, v1])
  have eW : (upd HA pw (.lst [v1, v1])) pw = some (.lst [v1, v1]) := upd_same
  have eF' := GrL.lst r2 eF
  generalize upd HA pw (.lst [v1, v1]) = HB at r2 eW eF' ⊢
  have kB := r1.trans r2
  have d1 := ((hv1.gr g8).gr g9).gr kB
  have d2 := (hv2.gr g9).gr kB
  refine ⟨_, _, rfl, al_ln (SqL.of eF') (SqL.of eW) (by show 2 ≤ 1000; decide) (.cons (al_bk 0 d2 d1 al.1 al.2) (.cons (al_bk 0 (hv3.gr kB) d1 al.1 al.2) .nil)), fun HC gC => ⟨_, rfl, iteF ?_⟩⟩
  have k7C := ((g7.trans g8).trans (g9.trans kB)).trans gC
  have d1 := d1.gr gC
  have d2 := d2.gr gC
  have hbk := hbk.gr k7C
  have g6 := g6.gr k7C
  have s6 := s6.gr k7C
  clear eF' eW eF r1 r2 kB hv1 hv2 hv3 k7C
  obtain ⟨da, db, zs, rfl, hda, hdb, hdz⟩ := id d1
  have lz : zs.length = mq.length := paired_len hdz
  have m8 := mok.l8
  refine ⟨_, rfl, da, _, _, _, rfl, rfl, hda, rfl, _, _, rfl, rfl, _, rfl, ?_⟩
  by_cases c : 1 < ((M : Nat) : Int)
  · refine iteP c ?_
    refine ⟨_, rfl, da, _, _, _, rfl, rfl, hda, rfl, szN (by show 0 ≤ 1000000; decide), fun pe ne => ?_⟩
    have re := (Gr.refl HC).new ne (.tup [])
    refine ⟨.tuple (mq.map quP), .tuple [], .tup (re.seqT hdb) (dp_qus (Paired.mapP hdz fun _ _ z => QuV.gr z re)), .tup (SqT.of upd_same) .nil, shp_qus mq, by decide, _, rfl, ?_⟩
    rw [eqv_nilT]
    have d1 := d1.gr re
    have d2 := d2.gr re
    have hbk := hbk.gr re
    have g6 := g6.gr re
    have s6 := s6.gr re
    have hda := re.seqT hda
    have hdb := re.seqT hdb
    generalize upd HC pe (.tup []) = HD at d1 d2 hbk g6 s6 hda hdb ⊢
    cases hem : (mq.map quP).isEmpty with
    | true => exact iteF ⟨_, _, _, _, _, rfl, hbk, g6, s6.more (by omega)⟩
    | false =>
      have lp : 0 < mq.length := by
        cases mq with
        | nil => cases hem
        | cons _ _ => exact Nat.succ_pos _
      refine iteT ?_
      refine ⟨_, rfl, _, rfl, da, _, _, _, rfl, rfl, hda, rfl, db, zs, rfl, .inr hdb, dk, _, _, rfl, s6, by omega, by omega, big_take (by omega), fun t HE t0 t1 gE sE => ?_⟩
      obtain ⟨kt, rfl⟩ : ∃ j : Nat, t = (j : Int) := ⟨t.toNat, by omega⟩
      have stE : Tst K HD HE := gE.sk s6
      have d1 := d1.st stE
      have d2 := d2.st stE
      have hbk := hbk.st stE
      obtain ⟨M', rfl⟩ : ∃ M', M = M' + 1 := ⟨M - 1, by omega⟩
      obtain ⟨b', eb'⟩ : ∃ b, mq[kt]? = some b := ⟨_, List.getElem?_eq_getElem (by omega)⟩
      refine ⟨_, rfl, _, rfl, _, kt, M', 11, mq, b', rfl, d2, mok, by omega, eb', mw, by decide, fun v4 L4 HF gF hL4 hv4 => ?_⟩
      refine ⟨_, rfl, _, rfl, _, kt, M', 11, mq, b', rfl, d1.gr gF, mok, by omega, eb', mw, by decide, fun v5 L5 HG gG hL5 hv5 => ?_⟩
      cases hL5.one hL4
      obtain ⟨bo', bl'⟩ := mok.ok b' (List.mem_of_getElem? eb')
      have hin' : ∀ q, q ∈ mq.take kt ++ mq.drop (kt + 1) → q ∈ mq := fun q hq => by
        rcases List.mem_append.mp hq with h | h
        · exact List.mem_of_mem_take h
        · exact List.mem_of_mem_drop h
      obtain ⟨mok2, _⟩ := merged_book (wd := 11) (L := L4) (n := M') (os := mq.take kt ++ mq.drop (kt + 1)) (by decide) (mw b' (List.mem_of_getElem? eb')) (by rw [← bl']; exact hL4.1) (by omega) (by omega) (by rw [List.length_append, List.length_take, List.length_drop]; omega) fun q hq => ⟨mw q (hin' q hq), (mok.ok q (hin' q hq)).2⟩
      have al2 := mok2.al
      refine ⟨_, _, rfl, al_bk 1 (hv4.gr gG) hv5 al2.1 al2.2, fun HH gH => ⟨_, rfl, iteF ?_⟩⟩
      have kz := (gF.trans gG).trans gH
      exact ⟨_, _, _, _, _, rfl, hbk.gr kz, (g6.trans gE).gr kz, (sE.gr kz).more (by omega)⟩
  · exact iteN c ⟨_, _, _, _, _, rfl, hbk, g6, s6.more (by omega)⟩
end
end SB
namespace SB
open PySem PySem.Spec PyProof.Rows L2
/-- the table of the code of the def of this name is empty -/
def TabE (K : PySem.W.Frag) (x : Str) (mg : Str → Option Value) (h : Heap) : Prop := ∀ (fa c Q : Addr) (o : Obj) (fd : FuncData) (e : Value) (dd : Option Addr) (vs : Array Value) (sl : Array (Option Value)),
  mg x = some (.ref fa) → K.lookup fa = some o → o.data = .func fd → fd.code = .ref c → K.lookup c = some ⟨e, dd, .fields vs, sl⟩ → vs[11]? = some (.ref Q) → h.get? Q = some { cls := .none, data := .fields #[] }
theorem lk_mem {β : Type} : ∀ {l : List (Addr × β)} {b : Addr} {o : β}, l.lookup b = some o → (b, o) ∈ l
  | [], _, _, e => by cases e
  | (k, v) :: r, b, o, e => by
    rw [List.lookup_cons] at e
    cases h : (b == k) with
    | true =>
      rw [h] at e
      cases e
      rw [beq_iff_eq.mp h]
      exact List.mem_cons_self
    | false =>
      rw [h] at e
      exact List.mem_cons_of_mem _ (lk_mem e)
theorem lk_has {β : Type} : ∀ {l : List (Addr × β)} {p : Addr × β}, p ∈ l → ∃ o, l.lookup p.1 = some o
  | (k, v) :: r, p, h => by
    rw [List.lookup_cons]
    cases e : (p.1 == k) with
    | true => exact ⟨v, rfl⟩
    | false =>
      rcases List.mem_cons.mp h with h | h
      · rw [h] at e
        simp at e
      · exact lk_has h
/-- K with the few objects besides that tell that nobody looks on -/
theorem seer_ext {K : PySem.W.Frag} {h : Heap} (X : K.In h) (N : h.NoSeer) : ∃ K2 : PySem.W.Frag, K2.In h ∧ (∀ b o, K.lookup b = some o → K2.lookup b = some o) ∧ (∀ h2 : Heap, K2.In h2 → h2.NoSeer) ∧
    ∀ b, h.get? b = some { cls := .none, data := .fields #[] } → K.lookup b = none → K2.lookup b = none := by
  obtain ⟨⟨mc, ⟨o1, es1, ep1, g1, d1, r1⟩, c1, c2⟩, ⟨mm, ⟨o2, es2, ep2, g2, d2, r2⟩, m1⟩, ⟨mb, ⟨o3, es3, ep3, g3, d3, r3⟩, b0⟩, ⟨mg, bm, ob, ⟨o4, es4, ep4, g4, d4, r4⟩, q1, g5, q3, q4⟩⟩ := N
  let ex : List (Addr × Obj) := [(cStatics, o1), (sysModules, o2), (builtinsNs, o3), (mainGlobals, o4), (bm, ob)]
  have hex : ∀ p, p ∈ ex → h.get? p.1 = some p.2 := fun p hp => by
    simp only [ex, List.mem_cons, List.not_mem_nil, or_false] at hp
    rcases hp with rfl | rfl | rfl | rfl | rfl <;> assumption
  have mem_of : ∀ {l : List (Addr × Obj)} {b : Addr} {o : Obj}, l.lookup b = some o → (b, o) ∈ l := fun {l b o} e => lk_mem e
  have In2 : (K ++ ex).In h := fun b o e => by
    rw [List.lookup_append] at e
    cases hk : K.lookup b with
    | some o' =>
      rw [hk] at e
      cases e
      exact X _ _ hk
    | none =>
      rw [hk] at e
      exact hex _ (mem_of e)
  have has : ∀ p, p ∈ ex → (K ++ ex).lookup p.1 = some p.2 := fun p hp => by
    have hm : ∀ {l : List (Addr × Obj)} {p : Addr × Obj}, p ∈ l → ∃ o, l.lookup p.1 = some o := fun {l p} h => lk_has h
    obtain ⟨o, ho⟩ := hm (List.mem_append_right K hp)
    have e1 := In2 _ _ ho
    rw [hex p hp] at e1
    rw [ho, ← e1]
  refine ⟨K ++ ex, In2, fun b o e => by rw [List.lookup_append, e]; rfl, fun h2 X2 => ?_, fun b hb hk => ?_⟩
  · have a1 := X2 _ _ (has (cStatics, o1) (by simp [ex]))
    have a2 := X2 _ _ (has (sysModules, o2) (by simp [ex]))
    have a3 := X2 _ _ (has (builtinsNs, o3) (by simp [ex]))
    have a4 := X2 _ _ (has (mainGlobals, o4) (by simp [ex]))
    have a5 := X2 _ _ (has (bm, ob) (by simp [ex]))
    exact ⟨⟨mc, ⟨o1, es1, ep1, a1, d1, r1⟩, c1, c2⟩, ⟨mm, ⟨o2, es2, ep2, a2, d2, r2⟩, m1⟩, ⟨mb, ⟨o3, es3, ep3, a3, d3, r3⟩, b0⟩, ⟨mg, bm, ob, ⟨o4, es4, ep4, a4, d4, r4⟩, q1, a5, q3, q4⟩⟩
  · rw [List.lookup_append, hk]
    cases e : ex.lookup b with
    | none => rfl
    | some o =>
      have hm := mem_of e
      have ho := hex _ hm
      have ho : h.get? b = some o := ho
      rw [hb] at ho
      have eo : o = { cls := .none, data := .fields #[] } := (Option.some.inj ho).symm
      simp only [ex, List.mem_cons, List.not_mem_nil, or_false, Prod.mk.injEq] at hm
      rcases hm with ⟨_, z⟩ | ⟨_, z⟩ | ⟨_, z⟩ | ⟨_, z⟩ | ⟨_, z⟩
      · rw [← z, eo] at d1; cases d1
      · rw [← z, eo] at d2; cases d2
      · rw [← z, eo] at d3; cases d3
      · rw [← z, eo] at d4; cases d4
      · rw [← z, eo] at q3; cases q3
theorem walk_names {l : PySem.W.OpenLaw} {n k : Nat} {q : Program} {loose : List Str} {XP : (Str → Option Value) → Heap → Prop} {YP : World → Heap → Prop} {d : DefRec} {K : Params → PySem.W.Frag} {CX : World → CXT} {x : Str} (names : List Str)
    (hn : l.most = some n) (hn2 : n ≤ sizeLine) (hdf : d.params.defaults = []) (hr : Room k callerA) (hrec : (names.all fun y => (recsOf q).any fun e => e.name == y) = true) (hi : importsNone q = true) (hY : ∀ (w : World) (h : Heap), YP w h → (K w.params).In h)
    (F : ∀ (w : World) (mg : Str → Option Value) (fa : Addr) (h : Heap) (K2 : PySem.W.Frag), (K w.params).In h → h.Ns mainGlobals mg → mg d.name = some (.ref fa) → (∀ y, names.contains y = true → TabE (K w.params) y mg h) → K2.In h → (∀ b o, (K w.params).lookup b = some o → K2.lookup b = some o) → (∀ h2 : Heap, K2.In h2 → h2.NoSeer) →
      (∀ b, h.get? b = some { cls := .none, data := .fields #[] } → (K w.params).lookup b = none → K2.lookup b = none) → LamX.LawAtS l w K2 (CX w) k n x mg fa h)
    (hCX : ∀ (w : World) (H : Hp) (s : Shared) (e : Value) (s' : Shared), CX w [] H s (fun _ _ _ => False) e s' → False) :
    PySem.W.WalkO q loose XP YP l.row.toRowW d [] (fun f vs => PySem.call f vs) := by
  refine Att.attach_callB hn hdf fun w s₀ s₁ mg mb fa o pm cd doc a vs ns G Y ho hd hcd hmg hobj hints hlen hbits hg => ?_
  have KX := hY w _ Y
  have own : ∀ y, names.contains y = true → TabE (K w.params) y mg s₁.heap := fun y hy fa2 c Q o1 fd1 e dd vs1 sl k0 k1 k2 k3 k4 k5 => by
    have hy2 := List.all_eq_true.mp hrec y (by simpa using hy)
    obtain ⟨dL, hm, hn1⟩ := List.any_eq_true.mp hy2
    have e2 : dL.name = y := beq_iff_eq.mp hn1
    obtain ⟨a', o', fd', c', P', h1, h2, h3, h4, h5, h6⟩ := G.T.tab dL hm
    rw [e2, k0] at h1
    cases h1
    have g1 := KX _ _ k1
    rw [g1] at h2
    cases h2
    rw [k2] at h3
    cases h3
    rw [k3] at h4
    cases h4
    obtain ⟨⟨oc, vc, e1, _, e3, e4⟩, hP⟩ := h6
    have g2 := KX _ _ k4
    rw [g2] at e1
    cases e1
    cases e3
    rw [k5] at e4
    cases e4
    exact hP
  obtain ⟨K2, X2, ext, seer, nT2⟩ := seer_ext KX (PyProof.Rows.Top.seer G.T hi)
  obtain ⟨fd, cs, sp, hT, nT, C, hb, hsp, hF⟩ := F w mg fa _ K2 KX G.T.g hmg own X2 ext seer nT2
  exact LamX.law_callTs X2 G.T.g G.T.b G.T.builtins G.T.nolimit hg hT nT C G.T.bmain hobj hints (Nat.le_trans hlen hn2) hr hF hb (fun H hH hS => hsp H a ns hlen hbits hH hS) fun H e s' => hCX w H s₁ e s'
theorem tabB {base : Heap} {mg : Str → Option Value} {c Q : Addr} (b : LamX.TabB base mg c Q) : GxR.TabB base mg c Q := ⟨b.code, b.bm, b.gP⟩
section
variable {K : PySem.W.Frag} {mg : Str → Option Value} {h : Heap} {x : Str} {st : Stmt}
theorem df_mk {f : Addr} {od an : Option Addr} {sl : Array (Option Value)} {oc kV dc pm cd ct : Value} (X : K.In h) (G : h.Ns mainGlobals mg) (a : PySem.W.nsIn K mainGlobals x = some (some (.ref f)))
    (l : K.lookup f = some ⟨oc, od, .func (PySem.W.fnOf x x (defArgs st) (defBody st) (defScope st) .none kV dc pm an cd ct), sl⟩) (c : PySem.W.codeIn K cd x = true) (k : PySem.W.keepIn K (.ref f) = true) : Df K mg x st :=
  ⟨⟨f, _, fun_mk l c k, PySem.W.mg_of X G a⟩⟩
/-- a def whose code object's table is empty yet -/
structure DtE (K : PySem.W.Frag) (mg : Str → Option Value) (h : Heap) (x : Str) (st : Stmt) : Prop where
  ex : ∃ c Q : Addr, DfT K mg x st c ∧ K.lookup Q = none ∧ PySem.W.CodeHd h c Q ∧ h.get? Q = some { cls := .none, data := .fields #[] }
theorem dt_mk {f c Q : Addr} {od an dd : Option Addr} {sl sl2 : Array (Option Value)} {oc kV dc pm ct e : Value} {vs : Array Value} (X : K.In h) (G : h.Ns mainGlobals mg) (T : TabE K x mg h) (a : PySem.W.nsIn K mainGlobals x = some (some (.ref f)))
    (l : K.lookup f = some ⟨oc, od, .func (PySem.W.fnOf x x (defArgs st) (defBody st) (defScope st) .none kV dc pm an (.ref c) ct), sl⟩) (c1 : PySem.W.codeIn K (.ref c) x = true) (k : PySem.W.keepIn K (.ref f) = true)
    (tl : K.lookup c = some ⟨e, dd, .fields vs, sl2⟩) (tv : vs[11]? = some (.ref Q)) (ch : PySem.W.codeHdIn K c Q = true) (tn : K.lookup Q = none) : DtE K mg h x st :=
  ⟨⟨c, Q, ⟨⟨f, _, ⟨⟨oc, od, kV, dc, pm, an, ct, sl, rfl, l, c1⟩, k⟩, PySem.W.mg_of X G a⟩⟩, tn, PySem.W.codeHd_of_K X ch, T f c Q _ _ e dd vs sl2 (PySem.W.mg_of X G a) l rfl rfl tl tv⟩⟩
/-- from K to what holds more -/
structure Ext (K K2 : PySem.W.Frag) (h : Heap) : Prop where
  up : ∀ b o, K.lookup b = some o → K2.lookup b = some o
  no : ∀ b, h.get? b = some { cls := .none, data := .fields #[] } → K.lookup b = none → K2.lookup b = none
theorem Ext.code {K2 : PySem.W.Frag} (e : Ext K K2 h) {cd : Value} {q : Str} (c : PySem.W.codeIn K cd q = true) : PySem.W.codeIn K2 cd q = true := by
  unfold PySem.W.codeIn at c ⊢
  split at c
  · rename_i a
    cases ho : K.lookup a with
    | none =>
      rw [ho] at c
      cases c
    | some o =>
      rw [ho] at c
      simp only [e.up _ _ ho]
      exact c
  · cases c
theorem keep_fn {K2 : PySem.W.Frag} {f : Addr} {oc : Value} {od : Option Addr} {fd : FuncData} {sl : Array (Option Value)} (l : K2.lookup f = some ⟨oc, od, .func fd, sl⟩) : PySem.W.keepIn K2 (.ref f) = true := by
  unfold PySem.W.keepIn
  simp only [l]
theorem Df.ext {K2 : PySem.W.Frag} (e : Ext K K2 h) (D : Df K mg x st) : Df K2 mg x st := by
  obtain ⟨f, fd, F, m⟩ := D.ex
  obtain ⟨oc, od, kV, doc, pm, an, cdv, ct, osl, rfl, lk, hcd⟩ := F.ex
  exact ⟨f, _, ⟨⟨oc, od, kV, doc, pm, an, cdv, ct, osl, rfl, e.up _ _ lk, e.code hcd⟩, keep_fn (e.up _ _ lk)⟩, m⟩
theorem DtE.ext {K2 : PySem.W.Frag} (e : Ext K K2 h) (D : DtE K mg h x st) : DtE K2 mg h x st := by
  obtain ⟨c, Q, ⟨f, fd, F, m⟩, n, ch, emp⟩ := D.ex
  obtain ⟨oc, od, kV, doc, pm, an, ct, osl, rfl, lk, hcd⟩ := F.ex
  exact ⟨c, Q, ⟨f, _, ⟨⟨oc, od, kV, doc, pm, an, ct, osl, rfl, e.up _ _ lk, e.code hcd⟩, keep_fn (e.up _ _ lk)⟩, m⟩, e.no _ emp n, ch, emp⟩
end
end SB
namespace SB
open PySem PySem.Spec PyProof.Rows L2
/-- the law's call, its promise good where nothing is being shown yet -/
theorem law_G {P : Program} {w : World} {K : PySem.W.Frag} {mg mb : Str → Option Value} {k : Nat} {fa a : Addr} {fd : FuncData} {x : Str} {sp : Sp} {s1 : Shared} {vs : List Value} {ns : List Int}
    (kin : K.In s1.heap) (nmg : s1.heap.Ns mainGlobals mg) (nmb : s1.heap.Ns builtinsNs mb) (bbo : ∀ y : Str, y ≠ "__name__" → mb y = bootBuiltins y) (lim : s1.heap.NoLimit) (gens : s1.gens = #[])
    (isa : s1.heap.get? a = some { cls := .type "list", data := .seq vs.toArray }) (iv : IntsAre vs ns) (few : ns.length ≤ sizeLine) (room : Room k callerA)
    (F : ∀ base : Heap, K.In base → base.Ns mainGlobals mg → FnG P w K mg base k fa fd [x] sp) (bind : ∀ (s : Shared) (u : Value), BindsTo s fd ⟨[u], []⟩ [(x, u)])
    (hsp : ∀ H : Hp, SqL K H a (ns.map V.int) → sp [.ref a] H (fun v _ => v = .bl true) fun _ _ _ => False) :
    codeAny (model P w) callerA (.call (.ref fa) ⟨[.ref a], []⟩) (fun r s' => r = .ok (.ret (.bool true)) ∧ OldK s1.heap s'.heap ∧ s'.os = s1.os ∧ AllBare s'.gens) s1 := by
  have rel := vals_ints iv
  have go : ∀ H : Hp, (∀ b, H b = none ∨ (b = a ∧ K.lookup a = none ∧ H b = some (.frz { cls := .type "list", data := .seq vs.toArray } (.lst (ns.map V.int))))) → SqL K H a (ns.map V.int) →
      codeAny (model P w) callerA (.call (.ref fa) ⟨[.ref a], []⟩) (fun r s' => r = .ok (.ret (.bool true)) ∧ OldK s1.heap s'.heap ∧ s'.os = s1.os ∧ AllBare s'.gens) s1 := by
    intro H tr sq
    have off : ∀ {b : Addr} {o : Obj} {es : Array DictEntry} {ep : Nat}, s1.heap.get? b = some o → o.data = .dict es ep → H b = none := fun {b o es ep} e d => by
      rcases tr b with z | ⟨rfl, _⟩
      · exact z
      · rw [isa] at e
        cases e
        cases d
    have nss : ∀ {b : Addr} {m : Str → Option Value}, s1.heap.Ns b m → (hidT s1.heap H).Ns b m := fun {b m} n => by
      obtain ⟨o, es, ep, e, d, r⟩ := n
      exact ⟨o, es, ep, hidT_get e (off e d), d, r⟩
    have kb : K.In (hidT s1.heap H) := fun b o e => by
      refine hidT_get (kin b o e) ?_
      rcases tr b with z | ⟨rfl, z, _⟩
      · exact z
      · rw [z] at e
        cases e
    have ok1 : HOk P w H s1.heap := fun b u z => by
      rcases tr b with y | ⟨rfl, _, y⟩
      · rw [y] at z
        cases z
      · rw [y] at z
        cases z
        exact ⟨isa, by rw [List.length_map]; exact few, vs, _, rel, isa⟩
    obtain ⟨mc, l1, l2⟩ := id lim
    have env : Env0 P w K mg (hidT s1.heap H) callerA [] s1 H :=
      ⟨rfl, ⟨kb, nss nmg, ⟨mb, nss nmb, bbo⟩, ⟨mc, nss l1, l2⟩⟩, fun b o e => of_hidT e, Nat.le_of_eq (hidT_size _ _), trivial, fun b z => absurd (show b ∈ ([] : List Addr) from z) List.not_mem_nil, ok1, .of_eq gens⟩
    refine codeAny_mono ((F _ kb (nss nmg)).run callerA [] s1 H ⟨[.ref a], []⟩ [.ref a] [.ref a] _ _ rfl room env (bind s1 (.ref a)) (.cons rfl .nil) (hsp H sq)) fun r s' z => ?_
    match r, z with
    | .error _, z => exact (show False from z).elim
    | .ok .next, z => exact (show False from z).elim
    | .ok .brk, z => exact (show False from z).elim
    | .ok .cont, z => exact (show False from z).elim
    | .ok (.ret u), ⟨v, H2, os, bare, un, ok2, rv, q⟩ =>
      have q : v = .bl true := q
      rw [q] at rv
      have rv : u = Value.bool true := rv
      refine ⟨by rw [rv], OldK.of_keep fun b o e => ?_, os, bare⟩
      rcases tr b with y | ⟨rfl, _, y⟩
      · exact un.keep b o e y (fun z => absurd (show b ∈ ([] : List Addr) from z) List.not_mem_nil) List.not_mem_nil
      · have e2 := (ok2 _ _ (un.frzs _ _ _ y)).1
        rw [isa] at e
        cases e
        exact e2
  cases hk : K.lookup a with
  | some o =>
    have e := kin a o hk
    rw [isa] at e
    cases e
    exact go (fun _ => none) (fun _ => .inl rfl) (.inr ⟨_, vs.toArray, _, hk, rfl, rfl, rfl, by rw [List.size_toArray, iv.length]; exact few, by simpa using rel⟩)
  | none =>
    refine go (fun b => if b = a then some (.frz { cls := .type "list", data := .seq vs.toArray } (.lst (ns.map V.int))) else none) (fun b => ?_) (.inl (.inr ⟨{ cls := .type "list", data := .seq vs.toArray }, if_pos rfl⟩))
    by_cases c : b = a
    · exact .inr ⟨c, hk, if_pos c⟩
    · exact .inl (if_neg c)
/-- as LawAtS, without tables -/
def LawAtG (l : PySem.W.OpenLaw) (w : World) (K : PySem.W.Frag) (k n : Nat) (x : Str) (mg : Str → Option Value) (fa : Addr) : Prop :=
  ∃ (fd : FuncData) (sp : Sp), (∀ (s : Shared) (u : Value), BindsTo s fd ⟨[u], []⟩ [(x, u)]) ∧ (∀ (H : Hp) (a : Addr) (ns : List Int), ns.length ≤ n → SqL K H a (ns.map V.int) → sp [.ref a] H (fun v _ => v = .bl true) fun _ _ _ => False) ∧
    ∀ base : Heap, K.In base → base.Ns mainGlobals mg → FnG l.prog w K mg base k fa fd [x] sp
theorem walk_G {l : PySem.W.OpenLaw} {n k : Nat} {q : Program} {loose : List Str} {XP : (Str → Option Value) → Heap → Prop} {YP : World → Heap → Prop} {d : DefRec} {K : Params → PySem.W.Frag} {x : Str}
    (hn : l.most = some n) (hn2 : n ≤ sizeLine) (hdf : d.params.defaults = []) (hr : Room k callerA) (hi : importsNone q = true) (hY : ∀ (w : World) (h : Heap), YP w h → (K w.params).In h)
    (F : ∀ (w : World) (mg : Str → Option Value) (fa : Addr) (h : Heap) (K2 : PySem.W.Frag), (K w.params).In h → h.Ns mainGlobals mg → mg d.name = some (.ref fa) → K2.In h → (∀ b o, (K w.params).lookup b = some o → K2.lookup b = some o) → (∀ h2 : Heap, K2.In h2 → h2.NoSeer) →
      (∀ b, h.get? b = some { cls := .none, data := .fields #[] } → (K w.params).lookup b = none → K2.lookup b = none) → LawAtG l w K2 k n x mg fa) :
    PySem.W.WalkO q loose XP YP l.row.toRowW d [] (fun f vs => PySem.call f vs) := by
  refine Att.attach_callB hn hdf fun w s0 s1 mg mb fa o pm cd doc a vs ns G Y ho hd hcd hmg hobj hints hlen hbits hg => ?_
  have kx := hY w _ Y
  obtain ⟨K2, X2, ext, seer, nT⟩ := seer_ext kx (PyProof.Rows.Top.seer G.T hi)
  obtain ⟨fd, sp, hb, hsp, hF⟩ := F w mg fa _ K2 kx G.T.g hmg X2 ext seer nT
  exact law_G X2 G.T.g G.T.b G.T.builtins G.T.nolimit hg hobj hints (Nat.le_trans hlen hn2) hr hF hb fun H hS => hsp H a ns hlen hS
end SB
namespace SB
open PySem PySem.Spec PyProof.Rows L2
theorem law_at {l : PySem.W.OpenLaw} {w : World} {K : PySem.W.Frag} {mg : Str → Option Value} {fa : Addr} (hmg : mg "law" = some (.ref fa)) (NS : NSK l.prog K) (B : Blt mg) (bset : mg "set" = none) (benumerate : mg "enumerate" = none)
    (D_is_whole : Df K mg "is_whole" s_is_whole)
    (D_are_wholes : Df K mg "are_wholes" s_are_wholes)
    (D_are_sides : Df K mg "are_sides" s_are_sides)
    (D_is_question : Df K mg "is_question" s_is_question)
    (D_is_question_of : Df K mg "is_question_of" s_is_question_of)
    (D_is_index : Df K mg "is_index" s_is_index)
    (D_check_index : Df K mg "check_index" s_check_index)
    (D_common_of : Df K mg "common_of" s_common_of)
    (D_begins_at : Df K mg "begins_at" s_begins_at)
    (D_normal_form : Df K mg "normal_form" s_normal_form)
    (D_is_book : Df K mg "is_book" s_is_book)
    (D_check_book : Df K mg "check_book" s_check_book)
    (D_made_book : Df K mg "made_book" s_made_book)
    (D__is_many : Df K mg "_is_many" s__is_many)
    (D_divided : Df K mg "divided" s_divided)
    (D_nought_form : Df K mg "nought_form" s_nought_form)
    (D_merged : Df K mg "merged" s_merged)
    (D__merged_questions : Df K mg "_merged_questions" s__merged_questions)
    (D__law_stock : Df K mg "_law_stock" s__law_stock)
    (D__law_pick : Df K mg "_law_pick" s__law_pick)
    (D__law_alike : Df K mg "_law_alike" s__law_alike)
    (D__law_clear : Df K mg "_law_clear" s__law_clear)
    (D__law_rank : Df K mg "_law_rank" s__law_rank)
    (D__law_question : Df K mg "_law_question" s__law_question)
    (D__law_is_new : Df K mg "_law_is_new" s__law_is_new)
    (D__law_web : Df K mg "_law_web" s__law_web)
    (D__law_book : Df K mg "_law_book" s__law_book)
    (D__law_divided : Df K mg "_law_divided" s__law_divided)
    (D__law_merged : Df K mg "_law_merged" s__law_merged)
    (D_law : Df K mg "law" s_law) :
    LawAtG l w K 40 63 "_law_script" mg fa := by
  obtain ⟨f, fd, F, m⟩ := D_law.ex
  rw [m] at hmg
  cases hmg
  refine ⟨fd, spLaw K, fun s u => ?_, fun H a ns hl hS => ⟨a, ns, rfl, hS, hl, fun _ => rfl⟩, fun base _ _ => ?_⟩
  · obtain ⟨oc, od, kV, doc, pm, an, cdv, ct, osl, rfl, lk, hcd⟩ := F.ex
    exact .of_eq rfl
  have Cwhole := cl_whole (P := l.prog) (w := w) (base := base) D_is_whole B
  have Cwholes := cl_wholes D_are_wholes Cwhole
  have Csides := cl_sides D_are_sides B Cwholes
  have Cquest := cl_quest D_is_question B Cwhole Csides
  have CquestOf := cl_questOf D_is_question_of B Cquest
  have Cindex := cl_index D_is_index Cwhole
  have CchkIx := cl_chkIx D_check_index Cindex
  have Ccommon := cl_common (P := l.prog) (w := w) (base := base) D_common_of B
  have Cbegins := cl_begins (P := l.prog) (w := w) (base := base) D_begins_at
  have Cmany := cl_many D__is_many Cwhole
  have Cdiv := cl_div D_divided B NS Ccommon
  have Cnorm := cl_norm D_normal_form B NS Ccommon Cbegins
  have Cnought := cl_nought D_nought_form Cnorm
  have Cbook := cl_book D_is_book B Cmany CquestOf Cnought
  have CchkB0 := cl_chkBk (T := fun _ => 0) D_check_book Cbook
  have Cmade := cl_made D_made_book B bset Cnought Cdiv
  have Cstock := cl_stock (P := l.prog) (w := w) (base := base) D__law_stock B
  have Cpick := cl_pick (P := l.prog) (w := w) (base := base) D__law_pick B
  have Calike := cl_alike (P := l.prog) (w := w) (base := base) D__law_alike B 6
  have Cclear := cl_clear (P := l.prog) (w := w) (base := base) D__law_clear B benumerate
  have Crank := cl_rank D__law_rank B Cclear
  have Cisnew := cl_isnew D__law_is_new Crank
  have Cqn := cl_qn D__law_question B Cpick
  have Cweb := cl_web D__law_web B Cpick
  have Clbook := cl_lbook D__law_book B Cpick Cweb Cqn Cisnew
  have Cldvd := cl_ldvd (P := l.prog) (w := w) (base := base) D__law_divided B
  have Clmg := cl_lmg D__law_merged B Cldvd Cisnew
  have Cmq := cl_mq (P := l.prog) (w := w) (base := base) D__merged_questions B benumerate
  have Cmgd := cl_mgd D_merged B CchkB0 CchkIx Cmq Cmade
  have Kmgd := clK2 Cmgd D_merged fun _ _ _ _ _ _ _ _ => rfl
  exact ok_law F B Cstock Cpick Clbook Clmg Cmgd Kmgd Calike
end SB
open PySem PySem.W PyProof.Rows
set_option maxRecDepth 100000 in
set_option maxHeartbeats 0 in
theorem PySem.Challenge.cw_sidebooks_k28_whole_merged_books_holds : PySem.Challenge.rw_sidebooks_k28_whole_merged_books.Holds := by
  w_on; o_law; k_head; (case hw => w_witness2)
  k_fill
  refine SB.walk_G (l := PySem.Challenge.rw_sidebooks_k28_whole_merged_books) (n := 63) (k := 40) (x := "_law_script") rfl (by decide) rfl ⟨rfl, by decide, by decide⟩ ?I (fun w h Y => PySem.W.kIn_of Y) ?F
  case I => decide +kernel
  case F =>
    intro w mg fa h K2 KX G hmg X2 up seer no
    refine' SB.law_at (K := K2) hmg ⟨seer, rfl⟩ ?B ?xset ?xenumerate  (SB.Df.ext ⟨up, no⟩ ?D_is_whole) (SB.Df.ext ⟨up, no⟩ ?D_are_wholes) (SB.Df.ext ⟨up, no⟩ ?D_are_sides) (SB.Df.ext ⟨up, no⟩ ?D_is_question) (SB.Df.ext ⟨up, no⟩ ?D_is_question_of) (SB.Df.ext ⟨up, no⟩ ?D_is_index) (SB.Df.ext ⟨up, no⟩ ?D_check_index) (SB.Df.ext ⟨up, no⟩ ?D_common_of) (SB.Df.ext ⟨up, no⟩ ?D_begins_at) (SB.Df.ext ⟨up, no⟩ ?D_normal_form) (SB.Df.ext ⟨up, no⟩ ?D_is_book) (SB.Df.ext ⟨up, no⟩ ?D_check_book) (SB.Df.ext ⟨up, no⟩ ?D_made_book) (SB.Df.ext ⟨up, no⟩ ?D__is_many) (SB.Df.ext ⟨up, no⟩ ?D_divided) (SB.Df.ext ⟨up, no⟩ ?D_nought_form) (SB.Df.ext ⟨up, no⟩ ?D_merged) (SB.Df.ext ⟨up, no⟩ ?D__merged_questions) (SB.Df.ext ⟨up, no⟩ ?D__law_stock) (SB.Df.ext ⟨up, no⟩ ?D__law_pick) (SB.Df.ext ⟨up, no⟩ ?D__law_alike) (SB.Df.ext ⟨up, no⟩ ?D__law_clear) (SB.Df.ext ⟨up, no⟩ ?D__law_rank) (SB.Df.ext ⟨up, no⟩ ?D__law_question) (SB.Df.ext ⟨up, no⟩ ?D__law_is_new) (SB.Df.ext ⟨up, no⟩ ?D__law_web) (SB.Df.ext ⟨up, no⟩ ?D__law_book) (SB.Df.ext ⟨up, no⟩ ?D__law_divided) (SB.Df.ext ⟨up, no⟩ ?D__law_merged) (SB.Df.ext ⟨up, no⟩ ?D_law)
    case D_is_whole =>
      refine' SB.df_mk KX G ?a ?l ?c ?k
      (case a => k_is)
      (case l => k_is)
      (case c => k_is)
      (case k => k_is)
    case D_are_wholes =>
      refine' SB.df_mk KX G ?a ?l ?c ?k
      (case a => k_is)
      (case l => k_is)
      (case c => k_is)
      (case k => k_is)
    case D_are_sides =>
      refine' SB.df_mk KX G ?a ?l ?c ?k
      (case a => k_is)
      (case l => k_is)
      (case c => k_is)
      (case k => k_is)
    case D_is_question =>
      refine' SB.df_mk KX G ?a ?l ?c ?k
      (case a => k_is)
      (case l => k_is)
      (case c => k_is)
      (case k => k_is)
    case D_is_question_of =>
      refine' SB.df_mk KX G ?a ?l ?c ?k
      (case a => k_is)
      (case l => k_is)
      (case c => k_is)
      (case k => k_is)
    case D_is_index =>
      refine' SB.df_mk KX G ?a ?l ?c ?k
      (case a => k_is)
      (case l => k_is)
      (case c => k_is)
      (case k => k_is)
    case D_check_index =>
      refine' SB.df_mk KX G ?a ?l ?c ?k
      (case a => k_is)
      (case l => k_is)
      (case c => k_is)
      (case k => k_is)
    case D_common_of =>
      refine' SB.df_mk KX G ?a ?l ?c ?k
      (case a => k_is)
      (case l => k_is)
      (case c => k_is)
      (case k => k_is)
    case D_begins_at =>
      refine' SB.df_mk KX G ?a ?l ?c ?k
      (case a => k_is)
      (case l => k_is)
      (case c => k_is)
      (case k => k_is)
    case D_normal_form =>
      refine' SB.df_mk KX G ?a ?l ?c ?k
      (case a => k_is)
      (case l => k_is)
      (case c => k_is)
      (case k => k_is)
    case D_is_book =>
      refine' SB.df_mk KX G ?a ?l ?c ?k
      (case a => k_is)
      (case l => k_is)
      (case c => k_is)
      (case k => k_is)
    case D_check_book =>
      refine' SB.df_mk KX G ?a ?l ?c ?k
      (case a => k_is)
      (case l => k_is)
      (case c => k_is)
      (case k => k_is)
    case D_made_book =>
      refine' SB.df_mk KX G ?a ?l ?c ?k
      (case a => k_is)
      (case l => k_is)
      (case c => k_is)
      (case k => k_is)
    case D__is_many =>
      refine' SB.df_mk KX G ?a ?l ?c ?k
      (case a => k_is)
      (case l => k_is)
      (case c => k_is)
      (case k => k_is)
    case D_divided =>
      refine' SB.df_mk KX G ?a ?l ?c ?k
      (case a => k_is)
      (case l => k_is)
      (case c => k_is)
      (case k => k_is)
    case D_nought_form =>
      refine' SB.df_mk KX G ?a ?l ?c ?k
      (case a => k_is)
      (case l => k_is)
      (case c => k_is)
      (case k => k_is)
    case D_merged =>
      refine' SB.df_mk KX G ?a ?l ?c ?k
      (case a => k_is)
      (case l => k_is)
      (case c => k_is)
      (case k => k_is)
    case D__merged_questions =>
      refine' SB.df_mk KX G ?a ?l ?c ?k
      (case a => k_is)
      (case l => k_is)
      (case c => k_is)
      (case k => k_is)
    case D__law_stock =>
      refine' SB.df_mk KX G ?a ?l ?c ?k
      (case a => k_is)
      (case l => k_is)
      (case c => k_is)
      (case k => k_is)
    case D__law_pick =>
      refine' SB.df_mk KX G ?a ?l ?c ?k
      (case a => k_is)
      (case l => k_is)
      (case c => k_is)
      (case k => k_is)
    case D__law_alike =>
      refine' SB.df_mk KX G ?a ?l ?c ?k
      (case a => k_is)
      (case l => k_is)
      (case c => k_is)
      (case k => k_is)
    case D__law_clear =>
      refine' SB.df_mk KX G ?a ?l ?c ?k
      (case a => k_is)
      (case l => k_is)
      (case c => k_is)
      (case k => k_is)
    case D__law_rank =>
      refine' SB.df_mk KX G ?a ?l ?c ?k
      (case a => k_is)
      (case l => k_is)
      (case c => k_is)
      (case k => k_is)
    case D__law_question =>
      refine' SB.df_mk KX G ?a ?l ?c ?k
      (case a => k_is)
      (case l => k_is)
      (case c => k_is)
      (case k => k_is)
    case D__law_is_new =>
      refine' SB.df_mk KX G ?a ?l ?c ?k
      (case a => k_is)
      (case l => k_is)
      (case c => k_is)
      (case k => k_is)
    case D__law_web =>
      refine' SB.df_mk KX G ?a ?l ?c ?k
      (case a => k_is)
      (case l => k_is)
      (case c => k_is)
      (case k => k_is)
    case D__law_book =>
      refine' SB.df_mk KX G ?a ?l ?c ?k
      (case a => k_is)
      (case l => k_is)
      (case c => k_is)
      (case k => k_is)
    case D__law_divided =>
      refine' SB.df_mk KX G ?a ?l ?c ?k
      (case a => k_is)
      (case l => k_is)
      (case c => k_is)
      (case k => k_is)
    case D__law_merged =>
      refine' SB.df_mk KX G ?a ?l ?c ?k
      (case a => k_is)
      (case l => k_is)
      (case c => k_is)
      (case k => k_is)
    case D_law =>
      refine' SB.df_mk KX G ?a ?l ?c ?k
      (case a => k_is)
      (case l => k_is)
      (case c => k_is)
      (case k => k_is)
    case B =>
      refine' ⟨PySem.W.mg_none_of KX G ?z_len, PySem.W.mg_none_of KX G ?z_int, PySem.W.mg_none_of KX G ?z_isinstance, PySem.W.mg_none_of KX G ?z_tuple, PySem.W.mg_none_of KX G ?z_list, PySem.W.mg_none_of KX G ?z_str, PySem.W.mg_none_of KX G ?z_bool, PySem.W.mg_none_of KX G ?z_range, PySem.W.mg_none_of KX G ?z_abs, PySem.W.mg_none_of KX G ?z_max, PySem.W.mg_none_of KX G ?z_min, PySem.W.mg_none_of KX G ?z_any, PySem.W.mg_none_of KX G ?z_all, PySem.W.mg_none_of KX G ?z_zip, PySem.W.mg_of KX G ?z_gcd⟩
      (case z_len => k_is)
      (case z_int => k_is)
      (case z_isinstance => k_is)
      (case z_tuple => k_is)
      (case z_list => k_is)
      (case z_str => k_is)
      (case z_bool => k_is)
      (case z_range => k_is)
      (case z_abs => k_is)
      (case z_max => k_is)
      (case z_min => k_is)
      (case z_any => k_is)
      (case z_all => k_is)
      (case z_zip => k_is)
      (case z_gcd => k_is)
    case xset => exact PySem.W.mg_none_of KX G (by k_is)
    case xenumerate => exact PySem.W.mg_none_of KX G (by k_is)
