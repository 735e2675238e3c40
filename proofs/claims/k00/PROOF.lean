import PyProof.Rows.All
import Wide.All
import OpenK.AllK
import Wide.FinOn
import PySem.Challenge.RW_sidebooks_k00_errors
import HandS.ForMost
import HandS.Wide
import HandS.IsInst
import HandS.Flow
import HandS.ForExc
import HandS.ExcField
import HandS.ExcIs
import KE.KExcIs
import HandS.ExcValue
set_option Elab.async false
set_option linter.all false
set_option maxRecDepth 100000
set_option maxHeartbeats 8000000
namespace SB
open PySem L2
def topI (i : Nat) : Stmt := PySem.Challenge.pw_sidebooks_k00_errors.main.body.getD i (.Pass ⟨0, 0, 0, 0⟩)
abbrev sDeck : Stmt := topI 25
abbrev sTake : Stmt := topI 26
/-- a deck: a new list of two ints -/
def spDeck (K : PySem.W.Frag) : Sp := fun vs H Q _ => ∃ (l : Addr) (ns : List Int) (k : Int), vs = [.ref l, .int k] ∧ SqL K H l (ns.map V.int) ∧ ns.length ≤ 63 ∧ 0 ≤ k ∧ k < 1000 ∧
  ∀ (p : Addr) (a b : Int), H p = none → 0 ≤ b → b < 2305843009213693951 → Q (.ref p) (upd H p (.lst [.int a, .int b]))
def spTake : Sp := fun vs H Q _ => ∃ (d : Addr) (a b many : Int), vs = [.ref d, .int many] ∧ H d = some (.lst [.int a, .int b]) ∧ 0 ≤ b ∧ b < 2 ^ 64 ∧ 1 ≤ many ∧ many.natAbs < 2 ^ 8000 ∧
  ∀ t a' b' : Int, 0 ≤ t → t < many → 0 ≤ b' → b' < 2 ^ 64 → Q (.int t) (upd H d (.lst [.int a', .int b']))
section
variable {P : Program} {w : World} {K : PySem.W.Frag} {mg : Str → Option Value} {base : Heap}
theorem scDeck : FnScope ["script", "k", "cell", "stir"] ["script", "k"] (defScope sDeck) := ⟨rfl, rfl, rfl, by decide +kernel, rfl, by decide +kernel, by decide +kernel⟩
theorem modB (x : Int) {m : Int} (h : 0 < m) : 0 ≤ x % m ∧ x % m < m := ⟨Int.emod_nonneg _ (by omega), Int.emod_lt_of_pos _ h⟩
theorem atL {ns : List Int} {k : Int} (h0 : 0 ≤ k) (h : k < (ns.length : Int)) : ∃ z : Int, atI (ns.map V.int) k = some (.int z) := by
  have hk : k.toNat < ns.length := by omega
  have ek : ((k.toNat : Nat) : Int) = k := Int.toNat_of_nonneg h0
  refine ⟨ns[k.toNat], ?_⟩
  have q : atI (ns.map V.int) ((k.toNat : Nat) : Int) = some (.int ns[k.toNat]) := atI_nat (by rw [List.getElem?_map, List.getElem?_eq_getElem hk] <;> rfl)
  rwa [ek] at q
theorem ok_deck {f : Addr} {fd : FuncData} (F : Fun K "_law_deck" "_law_deck" sDeck f fd) (ml : mg "len" = none) (mi : mg "int" = none) : FnOk P w K mg base CX0 1 f fd ["script", "k"] (spDeck K) := by
  refine F.ok scDeck (fun vs H Q E h => ?_) (fun cdv A outer s H vs Q E hr h => ?_)
  · obtain ⟨l, ns, k, rfl, _⟩ := h
    rfl
  obtain ⟨l, ns, k, rfl, hS, h63, h0, h1, q⟩ := h
  refine ⟨_, pss_cons (ps_set (i := 2) scDeck.nd rfl (.inl rfl) pe_int)
    (pss_cons (ps_if (pt_cmpR op_lt (pv 1) (pe_callB call_len_seq rfl ml PySem.boot_len (pa_cons (pv 0) pa_nil)) (nomark _)) (pss_one (ps_set (i := 2) scDeck.nd rfl (.inl rfl) (pe_ix ix_list (pv 0) (pv 1) (fun _ _ => rfl)))) pss_nil)
    (pss_cons (ps_set (i := 3) scDeck.nd rfl (.inl rfl) (pe_op op_mod (pe_callTy call_int1 rfl mi PyProof.Rows.boot_int (pa_cons (pe_op op_add (pe_op op_add (pv 2) (pe_op op_mul pe_int (pv 1))) pe_int) pa_nil)) pe_int))
    (pss_cons (ps_set (i := 3) scDeck.nd rfl (.inl rfl) (pe_op op_mod (pe_callTy call_int1 rfl mi PyProof.Rows.boot_int (pa_cons (pe_op op_add (pe_op op_add (pe_op op_mul (pe_op op_mul (pv 3) (pv 3)) (pv 3)) (pe_op op_mul pe_int (pv 1))) pe_int) pa_nil)) pe_int))
    (pss_cons (ps_if (pt_cmpR op_lt (pv 2) (pe_op op_pow pe_int pe_int) (nomark _)) (pss_one (ps_ret (pe_lst (pa_cons pe_int (pa_cons (pv 3) pa_nil))))) pss_nil)
    (pss_one (ps_ret (pe_lst (pa_cons (pe_op op_sub (pv 2) (pe_op op_pow pe_int pe_int)) (pa_cons (pv 3) pa_nil))))))))), ?_⟩
  have hl : (ns.map V.int).length = ns.length := List.length_map _
  refine ⟨_, rfl, _, rfl, l, _, rfl, .inl hS, _, _, rfl, rfl, _, rfl, ?_⟩
  refine ite2 (fun c => ?_) (fun c => ?_)
  · have c' : k < (((ns.map V.int).length : Nat) : Int) := of_decide_eq_true c
    rw [hl] at c'
    obtain ⟨z, hz⟩ := atL h0 c'
    refine ⟨_, rfl, _, rfl, l, _, _, _, rfl, rfl, hS, hz, ?_⟩
    refine ⟨_, rfl, _, rfl, _, _, rfl, rfl, .inl (by decide), _, _, rfl, rfl, _, _, rfl, rfl, .inl ⟨_, rfl, _, _, rfl, rfl, (by show (0 : Int) < 2305843009213693951; decide), ?_⟩⟩
    refine ⟨_, rfl, _, rfl, _, _, rfl, rfl, .inl ⟨by omega, by omega⟩, _, rfl, _, _, rfl, rfl, .inr ⟨by omega, by omega⟩, _, rfl, _, _, rfl, rfl, .inl (by decide), _, _, rfl, rfl, _, _, rfl, rfl, .inl ⟨_, rfl, _, _, rfl, rfl, (by show (0 : Int) < 2305843009213693951; decide), ?_⟩⟩
    refine ⟨_, rfl, _, _, rfl, rfl, ⟨by decide, by decide, by decide⟩, _, _, rfl, rfl, _, rfl, ?_⟩
    refine ite2 (fun c2 => ?_) (fun c2 => ?_)
    · exact ⟨_, rfl, (by show 2 ≤ sizeLine; decide), fun p hp => q p _ _ hp (modB _ (by decide)).1 (modB _ (by decide)).2⟩
    · exact ⟨_, rfl, _, _, rfl, rfl, ⟨by decide, by decide, by decide⟩, _, _, rfl, rfl, _, rfl, (by show 2 ≤ sizeLine; decide), fun p hp => q p _ _ hp (modB _ (by decide)).1 (modB _ (by decide)).2⟩
  · refine ⟨_, rfl, _, rfl, _, _, rfl, rfl, .inl (by decide), _, _, rfl, rfl, _, _, rfl, rfl, .inl ⟨_, rfl, _, _, rfl, rfl, (by show (0 : Int) < 2305843009213693951; decide), ?_⟩⟩
    refine ⟨_, rfl, _, rfl, _, _, rfl, rfl, .inl ⟨by omega, by omega⟩, _, rfl, _, _, rfl, rfl, .inr ⟨by omega, by omega⟩, _, rfl, _, _, rfl, rfl, .inl (by decide), _, _, rfl, rfl, _, _, rfl, rfl, .inl ⟨_, rfl, _, _, rfl, rfl, (by show (0 : Int) < 2305843009213693951; decide), ?_⟩⟩
    refine ⟨_, rfl, _, _, rfl, rfl, ⟨by decide, by decide, by decide⟩, _, _, rfl, rfl, _, rfl, ?_⟩
    refine ite2 (fun c2 => ?_) (fun c2 => ?_)
    · exact ⟨_, rfl, (by show 2 ≤ sizeLine; decide), fun p hp => q p _ _ hp (modB _ (by decide)).1 (modB _ (by decide)).2⟩
    · exact ⟨_, rfl, _, _, rfl, rfl, ⟨by decide, by decide, by decide⟩, _, _, rfl, rfl, _, rfl, (by show 2 ≤ sizeLine; decide), fun p hp => q p _ _ hp (modB _ (by decide)).1 (modB _ (by decide)).2⟩
theorem scTake : FnScope ["deck", "many", "taken"] ["deck", "many"] (defScope sTake) := ⟨rfl, rfl, rfl, by decide +kernel, rfl, by decide +kernel, by decide +kernel⟩
theorem ok_take {f : Addr} {fd : FuncData} (F : Fun K "_law_take" "_law_take" sTake f fd) (mi : mg "int" = none) : FnOk P w K mg base CX0 1 f fd ["deck", "many"] spTake := by
  refine F.ok scTake (fun vs H Q E h => ?_) (fun cdv A outer s H vs Q E hr h => ?_)
  · obtain ⟨d, a, b, m, rfl, _⟩ := h
    rfl
  obtain ⟨d, a, b, m, rfl, hd, hb0, hb1, m1, mb, q⟩ := h
  have hdL : SqL K H d [.int a, .int b] := SqL.of hd
  refine ⟨_, pss_cons (ps_if (pt_cmpR op_gt (pe_ix ix_list (pv 0) pe_int (fun _ _ => rfl)) pe_int (nomark _))
      (pss_cons (ps_set (i := 2) scTake.nd rfl (.inl rfl) (pe_op op_mod (pe_callTy call_int1 rfl mi PyProof.Rows.boot_int (pa_cons (pe_ix ix_list (pv 0) pe_int (fun _ _ => rfl)) pa_nil)) (pv 1)))
      (pss_cons (ps_asg (pe_op op_fdivW (pe_ix ix_list (pv 0) pe_int (fun _ _ => rfl)) (pv 1)) (pg_sub (pv 0) pe_int set_list))
      (pss_one (ps_ret (pv 2))))) pss_nil)
    (pss_cons (ps_asg (pe_op op_mod (pe_callTy call_int1 rfl mi PyProof.Rows.boot_int (pa_cons (pe_op op_add (pe_op op_mulW (pe_ix ix_list (pv 0) pe_int (fun _ _ => rfl)) pe_int) pe_int) pa_nil)) (pe_op op_pow pe_int pe_int)) (pg_sub (pv 0) pe_int set_list))
    (pss_one (ps_ret (pe_op op_mod (pe_op op_fdivW (pe_ix ix_list (pv 0) pe_int (fun _ _ => rfl)) (pe_op op_pow pe_int pe_int)) (pv 1))))), ?_⟩
  have mw : CDivW 0 m := wide_div (b := 8000) (by omega) mb (by decide) (by decide)
  refine ⟨_, rfl, d, _, _, _, rfl, rfl, hdL, rfl, _, _, rfl, rfl, _, rfl, ?_⟩
  refine ite2 (fun c => ?_) (fun c => ?_)
  · refine ⟨_, rfl, d, _, _, _, rfl, rfl, hdL, rfl, .inl ⟨_, rfl, _, rfl, _, _, rfl, rfl, (by show (0 : Int) < m; omega), ?_⟩⟩
    refine ⟨_, rfl, d, _, _, _, rfl, rfl, hdL, rfl, _, rfl, _, _, rfl, rfl, mw, ?_⟩
    refine ⟨_, rfl, d, _, _, _, rfl, rfl, hd, rfl, _, rfl, ?_⟩
    obtain ⟨t0, t1⟩ := modB a (m := m) (by omega)
    exact q _ _ _ t0 t1 hb0 hb1
  · refine ⟨_, rfl, d, _, _, _, rfl, rfl, hdL, rfl, _, _, rfl, rfl, wide_mul (a := 65) (b := 65) (by omega) (by decide) (by decide) (by decide) (by decide), _, _, rfl, rfl, .inl ⟨_, rfl, ?_⟩⟩
    refine ⟨_, _, rfl, rfl, ⟨by decide, by decide, by decide⟩, _, _, rfl, rfl, (by show (0 : Int) < 2 ^ 64; decide), ?_⟩
    refine ⟨_, rfl, d, _, _, _, rfl, rfl, hd, rfl, ?_⟩
    refine ⟨_, rfl, d, _, _, _, rfl, rfl, SqL.of upd_same, rfl, _, _, rfl, rfl, ⟨by decide, by decide, by decide⟩, _, _, rfl, rfl, wide_div (b := 30) (by decide) (by decide) (by decide) (by decide), _, rfl, _, _, rfl, rfl, (by show (0 : Int) < m; omega), ?_⟩
    exact q _ _ _ (modB _ (by omega)).1 (modB _ (by omega)).2 (modB _ (by decide)).1 (modB _ (by decide)).2
end
end SB
namespace SB
open PySem L2
abbrev sSame : Stmt := topI 27
/-- a value without parts -/
def scB : V → Bool
  | .non => true
  | .bl _ => true
  | .int _ => true
  | .str _ => true
  | _ => false
/-- the same data, of nesting n at most -/
def Alike (K : PySem.W.Frag) (H : Hp) : Nat → V → V → Prop
  | 0 => fun _ _ => False
  | n + 1 => fun x y => (x = y ∧ scB x = true) ∨ ∃ (a b : Addr) (xs ys : List V), x = .ref a ∧ y = .ref b ∧ ys.length ≤ sizeLine ∧ ((SqT K H a xs ∧ SqT K H b ys) ∨ (SqL K H a xs ∧ SqL K H b ys)) ∧ Paired (Alike K H n) xs ys
theorem Same.seqT {K : PySem.W.Frag} {H H' : Hp} {a : Addr} {xs : List V} (e : Same H H') (h : SqT K H a xs) : SqT K H' a xs := by
  rcases h with (h | ⟨o, h⟩) | h
  · exact .inl (.inl (e _ _ h))
  · exact .inl (.inr ⟨o, e _ _ h⟩)
  · exact .inr h
theorem Alike.same {K : PySem.W.Frag} {H H' : Hp} (e : Same H H') : ∀ {n : Nat} {x y : V}, Alike K H n x y → Alike K H' n x y
  | 0, _, _, h => h.elim
  | n + 1, x, y, h => by
    rcases h with h | ⟨a, b, xs, ys, rfl, rfl, hz, h, p⟩
    · exact .inl h
    · refine .inr ⟨a, b, xs, ys, rfl, rfl, hz, ?_, Paired.mapP p fun _ _ q => Alike.same e q⟩
      rcases h with ⟨h1, h2⟩ | ⟨h1, h2⟩
      · exact .inl ⟨Same.seqT e h1, Same.seqT e h2⟩
      · exact .inr ⟨e.seq h1, e.seq h2⟩
theorem Alike.more {K : PySem.W.Frag} {H : Hp} : ∀ {n : Nat} {x y : V}, Alike K H n x y → Alike K H (n + 1) x y
  | 0, _, _, h => h.elim
  | n + 1, x, y, h => by
    rcases h with h | ⟨a, b, xs, ys, rfl, rfl, hz, h, p⟩
    · exact .inl h
    · exact .inr ⟨a, b, xs, ys, rfl, rfl, hz, h, Paired.mapP p fun _ _ q => Alike.more q⟩
theorem paired_at {α β : Type} {F : α → β → Prop} : ∀ {xs : List α} {ys : List β}, Paired F xs ys → ∀ i, i < ys.length → ∃ x y, xs[i]? = some x ∧ ys[i]? = some y ∧ F x y
  | _, _, .nil, i, h => absurd h (Nat.not_lt_zero i)
  | _, _, .cons r t, 0, _ => ⟨_, _, rfl, rfl, r⟩
  | _, _, .cons r t, i + 1, h => by
    obtain ⟨x, y, e1, e2, q⟩ := paired_at t i (Nat.lt_of_succ_lt_succ h)
    exact ⟨x, y, by simpa using e1, by simpa using e2, q⟩
theorem tyL {K : PySem.W.Frag} {H : Hp} {a : Addr} {xs : List V} (h : SqL K H a xs) : TyX K H (.ref a) (.type "list") := by
  rcases h with (h | ⟨o, h⟩) | ⟨o, its, n, h, c, _⟩
  · exact .base (.lst h)
  · exact .base (.frz h)
  · exact .kList h c
theorem tyT {K : PySem.W.Frag} {H : Hp} {a : Addr} {xs : List V} (h : SqT K H a xs) : TyX K H (.ref a) (.type "tuple") := by
  rcases h with (h | ⟨o, h⟩) | ⟨o, its, n, h, c, _⟩
  · exact .base (.tup h)
  · exact .fTuple h
  · exact .kTuple h c
theorem new_same {H : Hp} {p : Addr} (h : H p = none) (o : HO) : Same H (upd H p o) := fun b u q => by rw [upd_ne (ne_of_none q h)]; exact q
/-- the two are the same data: the answer is True -/
def spSame (K : PySem.W.Frag) (n : Nat) : Sp := fun vs H Q _ => ∃ x y : V, vs = [x, y] ∧ Alike K H n x y ∧ ∀ H', Same H H' → Q (.bl true) H'
section
variable {P : Program} {w : World} {K : PySem.W.Frag} {mg : Str → Option Value} {base : Heap}
theorem scSame : FnScope ["found", "due", "k"] ["found", "due"] (defScope sSame) := ⟨rfl, rfl, rfl, by decide +kernel, rfl, by decide +kernel, by decide +kernel⟩
/-- what the built-in names are -/
structure Blt (mg : Str → Option Value) : Prop where
  len : mg "len" = none
  int : mg "int" = none
  isi : mg "isinstance" = none
  tup : mg "tuple" = none
  lst : mg "list" = none
  str : mg "str" = none
  bool : mg "bool" = none
  rng : mg "range" = none
theorem bootTup : bootBuiltins "tuple" = some (.type "tuple") := by decide +kernel
theorem bootLst : bootBuiltins "list" = some (.type "list") := by decide +kernel
theorem bootStr : bootBuiltins "str" = some (.type "str") := by decide +kernel
theorem bootBool : bootBuiltins "bool" = some (.type "bool") := by decide +kernel
theorem kTL {T : String} {b1 b2 : Bool} (h1 : kitB T "tuple" = some b1) (h2 : kitB T "list" = some b2) : PySem.W.kitAny K (.type T) [.type "tuple", .type "list"] = some (b1 || b2) := by
  cases b1 with
  | true => exact kitAny_cons (kit_ty h1) (fun z => nomatch z) (fun _ => rfl)
  | false =>
    cases b2 with
    | true => exact kitAny_cons (kit_ty h1) (fun _ => kitAny_cons (kit_ty h2) (fun z => nomatch z) (fun _ => rfl)) (fun z => nomatch z)
    | false => exact kitAny_cons (kit_ty h1) (fun _ => kitAny_cons (kit_ty h2) (fun _ => kitAny_nil) (fun z => nomatch z)) (fun z => nomatch z)
theorem clsTL : Paired ClsV [.ty "tuple", .ty "list"] [.type "tuple", .type "list"] := .cons (.ty _) (.cons (.ty _) .nil)
theorem szL2 : (2 : Nat) ≤ sizeLine := by decide
theorem iteP {p A B : Prop} [Decidable p] (h : p) (a : A) : if decide p = true then A else B := by
  rw [decide_eq_true h]
  exact iteT a
theorem iteN {p A B : Prop} [Decidable p] (h : ¬ p) (b : B) : if decide p = true then A else B := by
  rw [decide_eq_false h]
  exact iteF b
theorem qd {Q : VK} {H : Hp} {x y : V} (e : x = y) (q : Q (.bl true) H) : Q (.bl (decide (x = y))) H := by
  rw [decide_eq_true e]
  exact q
theorem qt {Q : VK} {H : Hp} {b : Bool} (e : b = true) (q : Q (.bl true) H) : Q (.bl b) H := by
  rw [e]
  exact q
theorem szL0 : (0 : Nat) ≤ sizeLine := by decide
theorem len_rng {n : Nat} (h : n ≤ sizeLine) : -(2 ^ 62) ≤ ((n : Nat) : Int) ∧ ((n : Nat) : Int) < 2 ^ 62 := by
  have e : sizeLine = 16777216 := sizeLine_eq
  omega
theorem ok_same {n : Nat} {f g : Addr} {fd gd : FuncData} (F : Fun K "_law_same" "_law_same" sSame f fd) (B : Blt mg) (G : FnOk P w K mg base CX0 n g gd ["found", "due"] (spSame K n)) (bG : Binds K gd ["found", "due"] []) (kG : PySem.W.keepIn K (.ref g) = true) (mG : mg "_law_same" = some (.ref g)) :
    FnOk P w K mg base CX0 (n + 1) f fd ["found", "due"] (spSame K (n + 1)) := by
  refine F.ok scSame (fun vs H Q E h => ?_) (fun cdv A outer s H vs Q E hr h => ?_)
  · obtain ⟨x, y, rfl, _⟩ := h
    rfl
  obtain ⟨x, y, rfl, ha, q⟩ := h
  refine ⟨_, pss_cons (ps_if (pt_val (pe_callB call_isiT rfl B.isi PyProof.Rows.boot_isinstance (pa_cons (pv 1) (pa_cons (pe_tup (pa_cons (pe_bltn (v := .ty "tuple") rfl B.tup bootTup rfl) (pa_cons (pe_bltn (v := .ty "list") rfl B.lst bootLst rfl) pa_nil))) pa_nil))))
      (pss_cons (ps_if (PW.pt (by exact (pw_or (pt_cmpR op_ne (pe_callB call_isi rfl B.isi PyProof.Rows.boot_isinstance (pa_cons (pv 0) (pa_cons (pe_bltn (v := .ty "tuple") rfl B.tup bootTup rfl) pa_nil))) (pe_callB call_isi rfl B.isi PyProof.Rows.boot_isinstance (pa_cons (pv 1) (pa_cons (pe_bltn (v := .ty "tuple") rfl B.tup bootTup rfl) pa_nil))) (nomark _))
          (pw_or1 (pt_cmpR op_ne (pe_callB call_isi rfl B.isi PyProof.Rows.boot_isinstance (pa_cons (pv 0) (pa_cons (pe_bltn (v := .ty "list") rfl B.lst bootLst rfl) pa_nil))) (pe_callB call_isi rfl B.isi PyProof.Rows.boot_isinstance (pa_cons (pv 1) (pa_cons (pe_bltn (v := .ty "list") rfl B.lst bootLst rfl) pa_nil))) (nomark _))))))
        (pss_one (ps_ret pe_bl)) pss_nil)
      (pss_cons (ps_if (pt_cmpR op_ne (pe_callB call_len_seq rfl B.len PySem.boot_len (pa_cons (pv 0) pa_nil)) (pe_callB call_len_seq rfl B.len PySem.boot_len (pa_cons (pv 1) pa_nil)) (nomark _)) (pss_one (ps_ret pe_bl)) pss_nil)
      (pss_one (ps_ret (pe_cmpR (op_eqD hr.units) (pe_lc (own := [("k", 2)]) (g := gName 2) rfl scSame.nd (pi_range1 rfl B.rng (pa_cons (pe_callB call_len_seq rfl B.len PySem.boot_len (pa_cons (pv 1) pa_nil)) pa_nil)) (blkOk_by (N := ["found", "due", "k"]) (sc := defScope sSame) (by decide +kernel)) (fun _ _ _ _ _ => pg_name (i := 2) scSame.nd rfl (Or.inl rfl))
          (fun _ _ _ _ _ => pts_one (pt_not (pt_val (pe_call G hr rfl mG kG bG .nil pass0 (pa_cons (pe_ix (r := rIx K) ix_seq (pv 0) (pv 2) (fun _ _ => rfl)) (pa_cons (pe_ix (r := rIx K) ix_seq (pv 1) (pv 2) (fun _ _ => rfl)) pa_nil))))))
          (fun _ _ _ _ _ => pv 2)) (pe_lst pa_nil) (nomark _)))))) pss_nil)
    (pss_cons (ps_if (pt_cmp (pc_isN (pv 1))) (pss_one (ps_ret (pe_cmp (pc_isN (pv 0))))) pss_nil)
    (pss_cons (ps_if (pt_val (pe_callB call_isi rfl B.isi PyProof.Rows.boot_isinstance (pa_cons (pv 1) (pa_cons (pe_bltn (v := .ty "str") rfl B.str bootStr rfl) pa_nil)))) (pss_one (ps_ret (pe_and (pe_callB call_isi rfl B.isi PyProof.Rows.boot_isinstance (pa_cons (pv 0) (pa_cons (pe_bltn (v := .ty "str") rfl B.str bootStr rfl) pa_nil))) (pe_one (pe_cmpR op_eq (pv 0) (pv 1) (nomark _)))))) pss_nil)
    (pss_cons (ps_if (PW.pt (by exact (pw_or (pt_val (pe_callB call_isi rfl B.isi PyProof.Rows.boot_isinstance (pa_cons (pv 1) (pa_cons (pe_bltn (v := .ty "bool") rfl B.bool bootBool rfl) pa_nil)))) (pw_or1 (pt_val (pe_callB call_isi rfl B.isi PyProof.Rows.boot_isinstance (pa_cons (pv 0) (pa_cons (pe_bltn (v := .ty "bool") rfl B.bool bootBool rfl) pa_nil))))))))
      (pss_one (ps_ret (pe_and (pe_callB call_isi rfl B.isi PyProof.Rows.boot_isinstance (pa_cons (pv 1) (pa_cons (pe_bltn (v := .ty "bool") rfl B.bool bootBool rfl) pa_nil))) (pe_and (pe_callB call_isi rfl B.isi PyProof.Rows.boot_isinstance (pa_cons (pv 0) (pa_cons (pe_bltn (v := .ty "bool") rfl B.bool bootBool rfl) pa_nil))) (pe_one (pe_cmpR op_eq (pv 0) (pv 1) (nomark _))))))) pss_nil)
    (pss_one (ps_ret (pe_and (pe_callB call_isi rfl B.isi PyProof.Rows.boot_isinstance (pa_cons (pv 0) (pa_cons (pe_bltn (v := .ty "int") rfl B.int PyProof.Rows.boot_int rfl) pa_nil))) (pe_one (pe_cmpR op_eq (pv 0) (pv 1) (nomark _))))))))), ?_⟩
  rcases ha with ⟨rfl, hs⟩ | ⟨a, b, xs, ys, rfl, rfl, hsz, hsq, hp⟩
  · -- a value without parts
    cases x with
    | non =>
      refine ⟨_, rfl, szL2, fun p hp => ⟨_, _, _, _, _, _, rfl, upd_same, clsTL, .base .non, kTL (b1 := false) (b2 := false) (by decide +kernel) (by decide +kernel), _, rfl, iteF ?_⟩⟩
      refine ⟨_, rfl, _, rfl, iteP rfl ?_⟩
      exact ⟨_, rfl, qd rfl (q _ (new_same hp _))⟩
    | bl c =>
      refine ⟨_, rfl, szL2, fun p hp => ⟨_, _, _, _, _, _, rfl, upd_same, clsTL, .base (.bl c), kTL (b1 := false) (b2 := false) (by decide +kernel) (by decide +kernel), _, rfl, iteF ?_⟩⟩
      refine ⟨_, rfl, _, rfl, iteN (fun z => nomatch z) ?_⟩
      refine ⟨_, rfl, _, _, _, _, _, rfl, .ty _, .base (.bl c), kit_ty (r := false) (by decide +kernel), _, rfl, iteF ?_⟩
      refine ⟨_, rfl, _, _, _, _, _, rfl, .ty _, .base (.bl c), kit_ty (r := true) (by decide +kernel), _, rfl, iteT (iteT ?_)⟩
      refine ⟨_, rfl, _, _, _, _, _, rfl, .ty _, .base (.bl c), kit_ty (r := true) (by decide +kernel), _, rfl, iteT ⟨_, rfl, _, _, _, _, _, rfl, .ty _, .base (.bl c), kit_ty (r := true) (by decide +kernel), _, rfl, iteT ?_⟩⟩
      exact ⟨_, rfl, _, rfl, rfl, qd rfl (q _ (new_same hp _))⟩
    | int i =>
      refine ⟨_, rfl, szL2, fun p hp => ⟨_, _, _, _, _, _, rfl, upd_same, clsTL, .base (.int i), kTL (b1 := false) (b2 := false) (by decide +kernel) (by decide +kernel), _, rfl, iteF ?_⟩⟩
      refine ⟨_, rfl, _, rfl, iteN (fun z => nomatch z) ?_⟩
      refine ⟨_, rfl, _, _, _, _, _, rfl, .ty _, .base (.int i), kit_ty (r := false) (by decide +kernel), _, rfl, iteF ?_⟩
      refine ⟨_, rfl, _, _, _, _, _, rfl, .ty _, .base (.int i), kit_ty (r := false) (by decide +kernel), _, rfl, iteF ⟨_, rfl, _, _, _, _, _, rfl, .ty _, .base (.int i), kit_ty (r := false) (by decide +kernel), _, rfl, iteF ?_⟩⟩
      refine ⟨_, rfl, _, _, _, _, _, rfl, .ty _, .base (.int i), kit_ty (r := true) (by decide +kernel), _, rfl, iteT ?_⟩
      exact ⟨_, rfl, _, rfl, rfl, qd rfl (q _ (new_same hp _))⟩
    | str z =>
      refine ⟨_, rfl, szL2, fun p hp => ⟨_, _, _, _, _, _, rfl, upd_same, clsTL, .base (.str z), kTL (b1 := false) (b2 := false) (by decide +kernel) (by decide +kernel), _, rfl, iteF ?_⟩⟩
      refine ⟨_, rfl, _, rfl, iteN (fun z => nomatch z) ?_⟩
      refine ⟨_, rfl, _, _, _, _, _, rfl, .ty _, .base (.str z), kit_ty (r := true) (by decide +kernel), _, rfl, iteT ?_⟩
      refine ⟨_, rfl, _, _, _, _, _, rfl, .ty _, .base (.str z), kit_ty (r := true) (by decide +kernel), _, rfl, iteT ?_⟩
      exact ⟨_, rfl, _, rfl, rfl, qd rfl (q _ (new_same hp _))⟩
    | byt _ => cases hs
    | flt _ => cases hs
    | ref _ => cases hs
    | ty _ => cases hs
  · rcases hsq with hsq | hsq
    · obtain ⟨h1, h2⟩ := hsq
      refine ⟨_, rfl, szL2, fun p hp0 => ?_⟩
      have g0 := new_same hp0 (HO.tup [.ty "tuple", .ty "list"])
      have k1 := Same.seqT g0 h1
      have k2 := Same.seqT g0 h2
      have hl : xs.length = ys.length := Paired.length hp
      refine ⟨_, _, _, _, _, _, rfl, upd_same, clsTL, tyT k2, kTL (b1 := true) (b2 := false) (by decide +kernel) (by decide +kernel), _, rfl, iteT ?_⟩
      refine ⟨_, rfl, _, _, _, _, _, rfl, .ty _, tyT k1, kit_ty (r := true) (by decide +kernel), _, rfl, _, _, _, _, _, rfl, .ty _, tyT k2, kit_ty (r := true) (by decide +kernel), rfl, _, rfl, iteNS rfl ?_⟩
      refine ⟨_, rfl, _, _, _, _, _, rfl, .ty _, tyT k1, kit_ty (r := false) (by decide +kernel), _, rfl, _, _, _, _, _, rfl, .ty _, tyT k2, kit_ty (r := false) (by decide +kernel), rfl, _, rfl, iteNS rfl ?_⟩
      refine ⟨_, rfl, _, _, rfl, .inr k1, _, rfl, _, _, rfl, .inr k2, rfl, _, rfl, iteNS (congrArg (fun n : Nat => V.int n) hl) ?_⟩
      refine ⟨_, rfl, _, _, rfl, .inr k2, _, rfl, (len_rng hsz).1, (len_rng hsz).2, fun D hD => ?_⟩
      have hnD := new_same hD (HO.lst [])
      refine lc_range (lo := 0) (Pv := fun _ H' => Same (upd H p (.tup [.ty "tuple", .ty "list"])) H' ∧ H' D = some (.lst [])) ⟨hnD, upd_same⟩ (fun i H' hi hP => ?_) (fun H' hP => ?_)
      · obtain ⟨s1, d1⟩ := hP
        have hi' : i < ys.length := by
          rw [Int.toNat_natCast] at hi
          exact hi
        obtain ⟨v, u, e1, e2, al⟩ := paired_at hp i hi'
        have e0 : (0 : Int) + (i : Int) = ((i : Nat) : Int) := Int.zero_add _
        refine ⟨rfl, _, rfl, _, rfl, .inr (.inl ⟨_, _, _, _, rfl, rfl, Same.seqT s1 k1, at_of e0 e1, ?_⟩)⟩
        refine ⟨_, rfl, _, rfl, .inr (.inl ⟨_, _, _, _, rfl, rfl, Same.seqT s1 k2, at_of e0 e2, ?_⟩)⟩
        exact ⟨_, _, rfl, Alike.same (g0.trans s1) al, fun H2 s2 => ⟨_, rfl, iteF ⟨s1.trans s2, s2 _ _ d1⟩⟩⟩
      · obtain ⟨s1, d1⟩ := hP
        refine ⟨szL0, fun p2 hp2 => ?_⟩
        have s2 := new_same hp2 (HO.lst [])
        exact ⟨.list [], .list [], .lst (SqL.of (s2 _ _ d1)) .nil, .lst (SqL.of upd_same) .nil, by decide, by decide, qt (by decide +kernel) (q _ ((g0.trans s1).trans s2))⟩
    · obtain ⟨h1, h2⟩ := hsq
      refine ⟨_, rfl, szL2, fun p hp0 => ?_⟩
      have g0 := new_same hp0 (HO.tup [.ty "tuple", .ty "list"])
      have k1 := g0.seq h1
      have k2 := g0.seq h2
      have hl : xs.length = ys.length := Paired.length hp
      refine ⟨_, _, _, _, _, _, rfl, upd_same, clsTL, tyL k2, kTL (b1 := false) (b2 := true) (by decide +kernel) (by decide +kernel), _, rfl, iteT ?_⟩
      refine ⟨_, rfl, _, _, _, _, _, rfl, .ty _, tyL k1, kit_ty (r := false) (by decide +kernel), _, rfl, _, _, _, _, _, rfl, .ty _, tyL k2, kit_ty (r := false) (by decide +kernel), rfl, _, rfl, iteNS rfl ?_⟩
      refine ⟨_, rfl, _, _, _, _, _, rfl, .ty _, tyL k1, kit_ty (r := true) (by decide +kernel), _, rfl, _, _, _, _, _, rfl, .ty _, tyL k2, kit_ty (r := true) (by decide +kernel), rfl, _, rfl, iteNS rfl ?_⟩
      refine ⟨_, rfl, _, _, rfl, .inl k1, _, rfl, _, _, rfl, .inl k2, rfl, _, rfl, iteNS (congrArg (fun n : Nat => V.int n) hl) ?_⟩
      refine ⟨_, rfl, _, _, rfl, .inl k2, _, rfl, (len_rng hsz).1, (len_rng hsz).2, fun D hD => ?_⟩
      have hnD := new_same hD (HO.lst [])
      refine lc_range (lo := 0) (Pv := fun _ H' => Same (upd H p (.tup [.ty "tuple", .ty "list"])) H' ∧ H' D = some (.lst [])) ⟨hnD, upd_same⟩ (fun i H' hi hP => ?_) (fun H' hP => ?_)
      · obtain ⟨s1, d1⟩ := hP
        have hi' : i < ys.length := by
          rw [Int.toNat_natCast] at hi
          exact hi
        obtain ⟨v, u, e1, e2, al⟩ := paired_at hp i hi'
        have e0 : (0 : Int) + (i : Int) = ((i : Nat) : Int) := Int.zero_add _
        refine ⟨rfl, _, rfl, _, rfl, .inl ⟨_, _, _, _, rfl, rfl, s1.seq k1, at_of e0 e1, ?_⟩⟩
        refine ⟨_, rfl, _, rfl, .inl ⟨_, _, _, _, rfl, rfl, s1.seq k2, at_of e0 e2, ?_⟩⟩
        exact ⟨_, _, rfl, Alike.same (g0.trans s1) al, fun H2 s2 => ⟨_, rfl, iteF ⟨s1.trans s2, s2 _ _ d1⟩⟩⟩
      · obtain ⟨s1, d1⟩ := hP
        refine ⟨szL0, fun p2 hp2 => ?_⟩
        have s2 := new_same hp2 (HO.lst [])
        exact ⟨.list [], .list [], .lst (SqL.of (s2 _ _ d1)) .nil, .lst (SqL.of upd_same) .nil, by decide, by decide, qt (by decide +kernel) (q _ ((g0.trans s1).trans s2))⟩
theorem same_all {f : Addr} {fd : FuncData} (F : Fun K "_law_same" "_law_same" sSame f fd) (B : Blt mg) (bF : Binds K fd ["found", "due"] []) (mF : mg "_law_same" = some (.ref f)) : ∀ n : Nat, FnOk P w K mg base CX0 n f fd ["found", "due"] (spSame K n)
  | 0 => by
    have no : ∀ vs H Q E, ¬ spSame K 0 vs H Q E := fun vs H Q E h => by
      obtain ⟨x, y, _, h, _⟩ := h
      exact h
    exact ⟨fun vs H Q E h => absurd h (no vs H Q E), fun A outer s H args us vs Q E _ _ _ _ h => absurd h (no vs H Q E)⟩
  | n + 1 => ok_same F B (same_all F B bF mF n) bF F.kp mF
end
end SB
namespace SB
open PySem PySem.W PySem.Calls PyProof.Rows PySem.HandSPX
section
variable {M : Model} {A : Around} {E : Value → Shared → Prop} {hp : Heap} {gs : Array GenState} {dr : Drawn} {tk : Nat} {os : OsState}
variable {cn qn : Str} {C N : Addr} {bs bm bB : List Value} {hd : Bool} {sn : List Str} {sb : List Value} {ab : Bool} {cl : Option Bool} {dd : Option Addr} {k0 k1 k2 k3 k5 : Option Value} {B nI iI : String} {kw : List (Str × Value)}
theorem kwCheckCall {rest : List Value} {v : Value} {Q : Unit → Shared → Prop} (hC : hp.get? C = some (excClassObj cn qn C N bs bm hd sn sb ab cl dd k0 k1 k2 k3 k5 nI)) (hq : Q () ⟨hp, gs, dr, tk, os⟩) :
    wpAny M A (checkBuiltinCall "type.__call__" ⟨.ref C :: rest, [("value", v)]⟩) Q E ⟨hp, gs, dr, tk, os⟩ := by
  have sub3 := tc_sub
  have isTy : (⟨hp, gs, dr, tk, os⟩ : Shared).TypeIs (.ref C) "type" := ⟨_, hC, rfl⟩
  simp only [tc_kind, tc_split, checkBuiltinCall]
  repeat (any_goals (first | assumption | with_reducible refine wpAny_onRaise ?_ | with_reducible refine wpAny_loadPart_at hC ?_ | with_reducible refine wpAny_map ?_ | wp_step))
theorem kwCheckNew (F : ExcBaseFacts B nI iI bB) (hT : ∀ X : String, bm.contains (.type X) = bB.contains (.type X)) {rest : List Value} {v : Value} {Q : Unit → Shared → Prop}
    (hC : hp.get? C = some (excClassObj cn qn C N bs bm hd sn sb ab cl dd k0 k1 k2 k3 k5 nI)) (hq : Q () ⟨hp, gs, dr, tk, os⟩) : wpAny M A (checkBuiltinCall nI ⟨.ref C :: rest, [("value", v)]⟩) Q E ⟨hp, gs, dr, tk, os⟩ := by
  have isB : (Value.ref C :: bm).contains (.type B) = true := by rw [List.contains_cons, hT, F.hasB, Bool.or_true]
  have ns := F.noStar
  simp only [F.newKind, F.newSplit, F.newRow, checkBuiltinCall]
  repeat (first | refine wpAny_loadPart_at hC ?_ | (refine wpAny_isSubtype_exc hC ?_; rw [isB]) | refine wpAny_madeBy_exc hC ?_ | refine wpAny_staticBase_exc hC ?_ | simp only [bne_self_eq_false, Bool.false_eq_true, if_false] | wp_step)
  exact hq
end
section
variable {prog : Program} {w : World} {A : Around} {E : Value → Shared → Prop} {R : Result → Shared → Prop} {hp : Heap} {gs : Array GenState} {dr : Drawn} {tk : Nat} {os : OsState}
variable {cn qn : Str} {C N : Addr} {bs bm bB : List Value} {hd : Bool} {sn : List Str} {sb : List Value} {ab : Bool} {cl : Option Bool} {dd : Option Addr} {k0 k1 k2 k3 k5 : Option Value} {B nI iI : String}
theorem kwNew (F : ExcBaseFacts B nI iI bB) (hT : ∀ X : String, bm.contains (.type X) = bB.contains (.type X)) {rest : List Value} {v : Value}
    (hC : hp.get? C = some (excClassObj cn qn C N bs bm hd sn sb ab cl dd k0 k1 k2 k3 k5 nI))
    (hq : R (.ok (.ret (.ref (hp.objs.size + 1)))) ⟨(hp.push (kdv_tup rest)).push (excO C hp.objs.size), gs, dr, tk, os⟩) (hz : rest.length ≤ sizeLine) :
    codeAny (model prog w) A (.builtin nI ⟨.ref C :: rest, [("value", v)]⟩) R ⟨hp, gs, dr, tk, os⟩ := by
  have e1 := F.ends
  have isB : (Value.ref C :: bm).contains (.type B) = true := by rw [List.contains_cons, hT, F.hasB, Bool.or_true]
  have isA : (Value.ref C :: bm).contains (.type "AttributeError") = false := by rw [List.contains_cons, hT, F.noAttr] <;> rfl
  have isN : (Value.ref C :: bm).contains (.type "NameError") = false := by rw [List.contains_cons, hT, F.noName] <;> rfl
  refine codeAny_builtinAt F.entry ?_
  unfold Builtin.«BaseException.__new__»
  refine PySem.wpAt_bind ?_
  show PySem.wpAt _ _ _ (stack >>= _) _ _ _
  refine PySem.wpAt_bind (PySem.wpAt_stack fun p below => PySem.wpAt_of_wpAny ?_)
  wp_walk
  refine PySem.wpAt_of_wpAny ?_
  rw [F.owner]
  repeat (first | with_reducible refine wpAny_madeHere_exc F.canon hC ?_ | with_reducible refine wpAny_loadPart_at hC ?_ | (with_reducible refine wpAny_isSubtype_exc hC ?_; first | rw [isB] | rw [isN] | rw [isA]) | wp_step)
  show R _ _
  rw [Heap.size_push]
  exact hq
theorem kwTypeCall (F : ExcBaseFacts B nI iI bB) (hT : ∀ X : String, bm.contains (.type X) = bB.contains (.type X)) {v : Value} {fI : Addr} {Q : PySem.Fin → Shared → Prop}
    (hC : hp.get? C = some (excClassObj cn qn C N bs bm hd sn sb ab cl dd k0 k1 k2 k3 k5 nI))
    (hi : W.Looks (model prog w) hp (typeLookup (.ref C) "__init__") (some (.ref fI))) (hb : ∀ self, W.Looks (model prog w) hp (bindSpecial (.ref fI) self) (.ref fI, [self]))
    (hq : codeAny (model prog w) A (.call (.ref fI) ⟨[.ref (hp.objs.size + 1)], [("value", v)]⟩)
      (fun r s' => match r with | .ok (.ret y) => y = .none ∧ Q (.done (.ret (.ref (hp.objs.size + 1)))) s' | .ok _ => False | .error e => E e s')
      ⟨(hp.push (kdv_tup [])).push (excO C hp.objs.size), gs, dr, tk, os⟩) :
    wpAny (model prog w) A (Builtin.«type.__call__» ⟨[.ref C], [("value", v)]⟩) Q E ⟨hp, gs, dr, tk, os⟩ := by
  repeat (first | with_reducible refine wpAny_madeBy_exc hC ?_ | with_reducible refine wpAny_loadPart_at hC ?_ | wp_step)
  refine codeAny_call_builtin_code (Code.quiet_builtin _ F.quiet) (kwCheckNew F hT hC ?_)
  refine kwNew F hT hC ?_ (Nat.zero_le _)
  show wpAny _ _ _ _ _ _
  have kp : ∀ b o, hp.get? b = some o → ((hp.push (kdv_tup [])).push (excO C hp.objs.size)).get? b = some o := fun b o e => Heap.get?_push_of_some _ (Heap.get?_push_of_some _ e)
  have hC1 := kp _ _ hC
  have hg1 : ((hp.push (kdv_tup [])).push (excO C hp.objs.size)).get? (hp.objs.size + 1) = some (excO C hp.objs.size) := by heap_get
  have isC : (Value.ref C :: bm).contains (.ref C) = true := by simp
  have i1 := hi.keeps kp
  have b1 := (hb (.ref (hp.objs.size + 1))).keeps kp
  unfold isInstance
  repeat (first | with_reducible refine wpAny_loadPart_at hg1 ?_ | (with_reducible refine wpAny_isSubtype_exc hC1 ?_; rw [isC]) | wp_step)
  show wpAny _ _ (typeLookup (.ref C) _) _ _ _
  refine i1.at ?_
  refine wpAny_holding (wpAny_bind (b1.at ?_))
  refine wpAny_bind (wpAny_call (codeAny_mono hq fun r s' z => ?_))
  rcases r with e | (y | _ | _ | _) <;> first | exact z | exact z.elim | skip
  obtain ⟨rfl, z⟩ := z
  first
    | exact wpAny_pure (wpAny_pure z)
    | (wp_walk; exact z)
theorem kwCall (F : ExcBaseFacts B nI iI bB) (hT : ∀ X : String, bm.contains (.type X) = bB.contains (.type X)) {v : Value} {fI : Addr}
    (hC : hp.get? C = some (excClassObj cn qn C N bs bm hd sn sb ab cl dd k0 k1 k2 k3 k5 nI))
    (hi : W.Looks (model prog w) hp (typeLookup (.ref C) "__init__") (some (.ref fI))) (hb : ∀ self, W.Looks (model prog w) hp (bindSpecial (.ref fI) self) (.ref fI, [self]))
    (hq : codeAny (model prog w) (A.under (.builtin "type.__call__" ⟨[.ref C], [("value", v)]⟩)) (.call (.ref fI) ⟨[.ref (hp.objs.size + 1)], [("value", v)]⟩) (W.InitBack (hp.objs.size + 1) R)
      ⟨(hp.push (kdv_tup [])).push (excO C hp.objs.size), gs, dr, tk, os⟩) :
    codeAny (model prog w) A (.call (.ref C) ⟨[], [("value", v)]⟩) R ⟨hp, gs, dr, tk, os⟩ := by
  have l1 := tc_lookup
  have l2 := tc_bind (.ref C)
  have isTy : (⟨hp, gs, dr, tk, os⟩ : Shared).TypeIs (.ref C) "type" := ⟨_, hC, rfl⟩
  refine codeAny_of_tree ?_
  show wpAny _ _ (callAny (.ref C) _) _ _ _
  repeat (any_goals (first | assumption | with_reducible refine wpAny_loadPart_at hC ?_ | wp_step))
  refine ⟨rfl, ?_⟩
  refine codeAny_call_builtin_at (Code.quiet_builtin _ (by decide +kernel)) entry_typeCall (kwCheckCall hC (kwTypeCall F hT hC hi hb ?_))
  refine codeAny_mono hq fun r s' z => ?_
  rcases r with e | (y | _ | _ | _) <;> exact z
end
end SB
namespace SB
open PySem PySem.W PySem.Calls PyProof.Rows PySem.HandSPX
/-! ### the text of BookError.__init__ -/
def iA (p1 p2 : Pos) : Arguments := { posonlyargs := [], args := [{ arg := "self", annotation := none, pos := p1 }, { arg := "value", annotation := none, pos := p2 }], vararg := none, kwonlyargs := [], kw_defaults := [], kwarg := none, defaults := [] }
def iB (q1 q2 q3 q4 : Pos) : List Stmt := [.Assign [.Attribute (.Name "self" q1) "value" q2] (.Name "value" q3) q4]
def iS : Scope := { kind := .function, names := [(PySem.Str.ofString "self", .local), (PySem.Str.ofString "value", .local)], isGenerator := false, isCoroutine := false, more := [] }
/-- what can be asked of an error class by reckoning -/
def errB (K : Frag) (C fI : Addr) : Bool :=
  decide (findIn K (.ref C) "__setattr__" = some (some (.builtin "object.__setattr__"))) && decide (findIn K (.ref C) "__getattribute__" = some (some (.builtin "BaseException.__getattribute__"))) &&
  decide (findIn K (.ref C) "__getattr__" = some none) && decide (findIn K (.ref C) "value" = some none) && decide (findIn K (.ref C) "__init__" = some (some (.ref fI))) && keepIn K (.ref C) &&
  decide (subIn K (.ref C) (.type "BaseException") = some true) && decide (typeIn K (.ref C) = some (.type "type")) && hasDictIn K C && decide (findIn K (.ref C) "__class__" = some (some (.builtin "object.__class__"))) &&
  decide (mroIn K C (.type "object") = some true)
structure ErrTxt (K : Frag) (C fI : Addr) : Prop where
  cls : ∃ nm q N bs bm sn sub ab col dd k0 k1 k2 k3 k5, K.lookup C = some (excClassObj nm q C N bs bm true sn sub ab col dd k0 k1 k2 k3 k5 "ValueError.__new__") ∧ refsVE bm = true
  sa : findIn K (.ref C) "__setattr__" = some (some (.builtin "object.__setattr__"))
  ga : findIn K (.ref C) "__getattribute__" = some (some (.builtin "BaseException.__getattribute__"))
  gg : findIn K (.ref C) "__getattr__" = some none
  noN : findIn K (.ref C) "value" = some none
  iC : findIn K (.ref C) "__init__" = some (some (.ref fI))
  kC : keepIn K (.ref C) = true
  exC : subIn K (.ref C) (.type "BaseException") = some true
  tyC : typeIn K (.ref C) = some (.type "type")
  hdC : hasDictIn K C = true
  ca : findIn K (.ref C) "__class__" = some (some (.builtin "object.__class__"))
  mo : mroIn K C (.type "object") = some true
theorem errTxt_of {K : Frag} {C fI : Addr} (h : errB K C fI = true) (c : ∃ nm q N bs bm sn sub ab col dd k0 k1 k2 k3 k5, K.lookup C = some (excClassObj nm q C N bs bm true sn sub ab col dd k0 k1 k2 k3 k5 "ValueError.__new__") ∧ refsVE bm = true) : ErrTxt K C fI := by
  unfold errB at h
  simp only [Bool.and_eq_true, decide_eq_true_eq] at h
  obtain ⟨⟨⟨⟨⟨⟨⟨⟨⟨⟨h1, h2⟩, h3⟩, h4⟩, h5⟩, h6⟩, h7⟩, h8⟩, h9⟩, h10⟩, h11⟩ := h
  exact ⟨c, h1, h2, h3, h4, h5, h6, h7, h8, h9, h10, h11⟩
/-- what all of them share -/
structure ErrAll (K : Frag) (fI : Addr) : Prop where
  tC : typeIn K (.ref fI) = some (.type "function")
  hn : specialIn K (.builtin "object.__class__") "__get__" = some (some (.builtin "getset_descriptor.__get__"))
  ht : takesIn K (.builtin "object.__class__") = some true
  fn : ∃ (oc : Value) (od : Option Addr) (doc pm : Value) (an : Option Addr) (cdv ct : Value) (osl : Array (Option Value)) (p1 p2 q1 q2 q3 q4 : Pos),
    K.lookup fI = some ⟨oc, od, .func (fnOf "__init__" "BookError.__init__" (iA p1 p2) (iB q1 q2 q3 q4) iS .none .none doc pm an cdv ct), osl⟩ ∧ codeIn K cdv "BookError.__init__" = true
theorem oneSize (v : Value) : [v].length ≤ sizeLine := by
  rw [sizeLine_eq]
  exact (by decide : 1 ≤ 16777216)
theorem ldV {M : Model} {s : Shared} {name : Str} {scope : Scope} {L a : Addr} {cd : Value} {m : Str → Option Value} {x : Str} {pos : Pos} {v : Value} {Q : Value → Shared → Prop} {A : Around} {E : Value → Shared → Prop} (hn : s.heap.Ns L m) (hv : m x = some v) (h : Q v s)
    (hk : scope.kind = .function := by rfl) (hl : (envOfC name scope L a cd).kindOf x = some .local := by rfl) (hd : (x == ("__debug__" : Str)) = false := by decide) :
    wpAny M A (eval (.Name x pos) (envOfC name scope L a cd)) Q E s := wpAny_Name (wpAny_loadName_local hk hl hn hv h) hd
/-- what __init__ leaves of a fresh exception at x -/
structure InitEnd (h h' : Heap) (x C dx t1 : Addr) (v : Value) : Prop where
  keep : ∀ b o, b ≠ x → h.get? b = some o → h'.get? b = some o
  obj : h'.get? x = some { cls := .ref C, dict := some dx, data := .fields #[.ref t1, .none, .none, .none, .bool false, .none] }
  dbig : h.objs.size ≤ dx
  dne : dx ≠ x
  ns : h'.Ns1 dx (fun y => if y = "value" then some v else none)
/-- a made error -/
structure OwnMade (h h' : Heap) (e C d : Addr) (v : Value) : Prop where
  keep : ∀ b o, h.get? b = some o → h'.get? b = some o
  new : h.objs.size ≤ e
  obj : ∃ oe vs, h'.get? e = some oe ∧ oe.cls = .ref C ∧ oe.dict = some d ∧ oe.data = .fields vs ∧ vs[1]? = some .none
  dbig : h.objs.size ≤ d
  dne : d ≠ e
  ns : h'.Ns1 d (fun y => if y = "value" then some v else none)
section
variable {prog : Program} {w : World} {A : Around} {E : Value → Shared → Prop} {R : Result → Shared → Prop} {s : Shared} {K : Frag} {C fI : Addr}
theorem err_init (T : ErrTxt K C fI) (U : ErrAll K fI) {x t0 : Addr} {v : Value} {args : Args} (ha : args = ⟨[.ref x, v], []⟩ ∨ args = ⟨[.ref x], [("value", v)]⟩) (X : K.In s.heap) (hlim : s.heap.NoLimit) (hx : s.heap.get? x = some (excO C t0)) (hnx : K.lookup x = none) (hroom : A.depth < recursionLimit)
    (hq : ∀ h' tk dx, InitEnd s.heap h' x C dx t0 v → R (.ok (.ret .none)) { s with heap := h', toks := tk }) :
    codeAny (model prog w) A (.call (.ref fI) args) R s := by
  obtain ⟨oc, od, doc, pm, an, cdv, ct, osl, p1, p2, q1, q2, q3, q4, ho, hcd⟩ := U.fn
  obtain ⟨nm, q, N, bs, bm, sn, sub, ab, col, dd, k0, k1, k2, k3, k5, hC, hbm⟩ := T.cls
  have hcl : clsIn K C = some { name := nm, bases := bs, mro := .ref C :: bm, ns := N, qualname := q, hasDict := true, slotNames := sn, subclasses := sub, abstract := ab, collection := col, hasDel := false } := by unfold clsIn; rw [hC] <;> rfl
  have hbt : BindsTo s (fnOf "__init__" "BookError.__init__" (iA p1 p2) (iB q1 q2 q3 q4) iS .none .none doc pm an cdv ct) args [("self", .ref x), ("value", v)] := by
    rcases ha with rfl | rfl
    · exact BindsTo.of_eq (by first | rfl | with_unfolding_all rfl)
    · exact BindsTo.of_eq (by first | rfl | with_unfolding_all rfl)
  refine Att.call_fn (binds := [("self", .ref x), ("value", v)]) X hlim ho hcd hroom hbt (by first | rfl | decide | with_unfolding_all rfl) (fun s₁ IC => ?_) rfl rfl rfl
  obtain ⟨h₁, tk₁, rfl⟩ := IC.toInCall.same
  have k : ∀ b o, s.heap.get? b = some o → h₁.get? b = some o := IC.toInCall.keep
  have hn := IC.toInCall.ns
  have hxL : s.heap.objs.size ≠ x := Nat.ne_of_gt (Heap.lt_size hx)
  have X₁ : K.In h₁ := X.keeps k
  have hx₁ := k _ _ hx
  show wpAny _ _ (execs _ _) _ _ _
  refine wpAny_execs_cons (plainObj_wpAny_Assign_Attribute ?_)
  refine ldV (v := v) hn (by first | rfl | with_unfolding_all rfl | kernel_rfl) (ldV (v := .ref x) hn (by first | rfl | with_unfolding_all rfl | kernel_rfl) ?_)
  refine set_plain X₁ (ox := excO C t0) (od := none) ⟨hx₁, rfl, rfl, trivial⟩ T.sa ?_
  refine exc_osa X₁ hx₁ hcl (show refsVE (.ref C :: bm) = true from hbm) rfl T.noN (fun h₃ tk₃ dx k₃ dn dne hx₃ hn₃ => ?_)
  show wpAny _ _ (execs _ _) _ _ _
  have z : s.heap.objs.size < h₁.objs.size := hn.lt
  exact wpAny_execs_nil (hq h₃ tk₃ dx ⟨fun b o hb e => k₃ b o hb (k b o e), hx₃, Nat.le_of_lt (Nat.lt_of_lt_of_le z dn), dne, hn₃⟩)
theorem err_made (T : ErrTxt K C fI) (U : ErrAll K fI) {v : Value} {args : Args} (ha : args = ⟨[v], []⟩ ∨ args = ⟨[], [("value", v)]⟩) (X : K.In s.heap) (hlim : s.heap.NoLimit) (hroom : A.depth + 1 < recursionLimit)
    (hq : ∀ h' tk e d, OwnMade s.heap h' e C d v → R (.ok (.ret (.ref e))) { s with heap := h', toks := tk }) :
    codeAny (model prog w) A (.call (.ref C) args) R s := by
  obtain ⟨nm, q, N, bs, bm, sn, sub, ab, col, dd, k0, k1, k2, k3, k5, hC, hbm⟩ := T.cls
  obtain ⟨hp, g, dr, tk, os⟩ := s
  have core : ∀ (rest : List Value) (A' : Around) (ar : Args), A'.depth = A.depth + 1 → (ar = ⟨[.ref (hp.objs.size + 1), v], []⟩ ∨ ar = ⟨[.ref (hp.objs.size + 1)], [("value", v)]⟩) →
      codeAny (model prog w) A' (.call (.ref fI) ar) (W.InitBack (hp.objs.size + 1) R) ⟨(hp.push (kdv_tup rest)).push (excO C hp.objs.size), g, dr, tk, os⟩ := by
    intro rest A' ar hA har
    have k : ∀ b o, hp.get? b = some o → ((hp.push (kdv_tup rest)).push (excO C hp.objs.size)).get? b = some o := fun b o e => Heap.get?_push_of_some _ (Heap.get?_push_of_some _ e)
    have hget : ((hp.push (kdv_tup rest)).push (excO C hp.objs.size)).get? (hp.objs.size + 1) = some (excO C hp.objs.size) := by heap_get
    have hnx : K.lookup (hp.objs.size + 1) = none := by
      cases e : K.lookup (hp.objs.size + 1) with
      | none => rfl
      | some o =>
        have z : hp.get? (hp.objs.size + 1) = some o := X _ _ e
        exact absurd (Nat.lt_of_succ_lt (Heap.lt_size z)) (Nat.lt_irrefl _)
    refine err_init (s := ⟨(hp.push (kdv_tup rest)).push (excO C hp.objs.size), g, dr, tk, os⟩) T U har (X.keeps k) (hlim.keeps k) hget hnx (by rw [hA]; exact hroom) fun h' tk' dx ⟨k', hx, dn, dne, hns⟩ => ?_
    have old : ∀ b o, hp.get? b = some o → h'.get? b = some o := fun b o e => k' b o (Nat.ne_of_lt (Nat.lt_succ_of_lt (Heap.lt_size e))) (k b o e)
    have z : hp.objs.size + 1 + 1 ≤ dx := by
      first
        | (simpa only [Heap.size_push] using dn)
        | exact dn
        | (have q := dn; rw [Heap.size_push, Heap.size_push] at q; exact q)
    exact ⟨rfl, hq h' tk' (hp.objs.size + 1) dx ⟨old, Nat.le_succ _, ⟨_, _, hx, rfl, rfl, rfl, rfl⟩, Nat.le_trans (Nat.le_trans (Nat.le_succ _) (Nat.le_succ _)) z, dne, hns⟩⟩
  rcases ha with rfl | rfl
  · exact call_own F.excBase_ValueError (fun X => refsVE_contains X bm hbm) (X _ _ hC) (looks_findIn X T.iC) (fun self => bind_fn X self U.tC) (oneSize v) (core _ _ _ rfl (.inl rfl))
  · exact kwCall F.excBase_ValueError (fun X => refsVE_contains X bm hbm) (X _ _ hC) (looks_findIn X T.iC) (fun self => bind_fn X self U.tC) (core _ _ _ rfl (.inr rfl))
end
end SB
namespace SB
open PySem PySem.Spec PyProof.Rows L2
theorem relO_val {v : V} {v' : Value} (r : RelV v v') (f : Str) : RelO (List.lookup f [(("value" : Str), v)]) (if f = "value" then some v' else none) := by
  by_cases hw : f = "value"
  · subst hw
    rw [if_pos rfl]
    have q : List.lookup ("value" : Str) [(("value" : Str), v)] = some v := by simp [List.lookup]
    rw [q]
    exact r
  · rw [if_neg hw]
    have qw : (f == ("value" : Str)) = false := by simpa using hw
    have q2 : List.lookup f [(("value" : Str), v)] = none := by simp [List.lookup, qw]
    rw [q2]
    trivial
/-- an error's dict -/
abbrev valD (v : V) : HO := .xd [(("value" : Str), v)]
/-- an error object that was caught, or made and not raised -/
def exk (cls : Value) (d : Option Addr) (a : Addr) : HO := .ext fun h => ∃ (oe : Obj) (vs : Array Value), h.get? a = some oe ∧ Zc cls d oe ∧ oe.data = .fields vs
theorem exk_ok {P : Program} {w : World} {H : Hp} {h : Heap} {a : Addr} {cls : Value} {d : Option Addr} {oe : Obj} {vs : Array Value} (e : h.get? a = some oe) (z : Zc cls d oe) (f : oe.data = .fields vs) : ObjOk P w H h a (exk cls d a) :=
  ⟨⟨oe, vs, e, z, f⟩, ⟨oe, e⟩, fun _ _ ⟨o, v, q, r⟩ k => ⟨o, v, k o q, r⟩⟩
section
variable {X : Cx} {pins : List (Addr × Obj)} {σ : L2.St} {H : Hp} {s : Shared} {C fI : Addr}
theorem inv_re {s s' : Shared} (I : Inv X pins σ H s) (hh : s'.heap = s.heap) (ho : s'.os = s.os) (hg : AllBare s'.gens) : Inv X pins σ H s' := by
  obtain ⟨h', g', d', t', o'⟩ := s'
  have e1 : h' = s.heap := hh
  have e2 : o' = s.os := ho
  subst e1
  subst e2
  exact ⟨I.ok, I.os, hg, I.base, I.loc, I.cell, I.free, I.freeC, I.pin, I.hok, I.len⟩
/-- C(e), C(value=e) -/
def tMkErr (C : Addr) (te : TE) : L2.St → Hp → XK → Prop := fun σ H Q => te σ H fun v H1 => ∀ d, H1 d = none → Q (.ref C) (some d) (upd H1 d (valD v))
theorem mk_err {k : Nat} (T : ErrTxt X.K C fI) (U : ErrAll X.K fI) (hr : Room k X.A) {v : V} {v' : Value} {args : Args} (ha : args = ⟨[v'], []⟩ ∨ args = ⟨[], [("value", v')]⟩) (I1 : Inv X pins σ H s) (rv : RelV v v') {Q : XK}
    (q1 : ∀ d, H d = none → Q (.ref C) (some d) (upd H d (valD v))) : wpAny (model X.prog X.w) X.A (call (.ref C) args.pos args.kw) (MkP X pins σ Q) X.xe s := by
  have hlim := I1.nolimit
  obtain ⟨hp, g, dr, tk, os⟩ := s
  refine wpAny_call (err_made T U (by rcases ha with rfl | rfl; exact .inl rfl; exact .inr rfl) I1.kIn hlim (by have := hr.dp; omega) fun h' tk' e d M => ?_)
  show MkP X pins σ Q (.ref e) ⟨h', g, dr, tk', os⟩
  obtain ⟨oe, fv, hoe, hc, hd, hdat, h1⟩ := M.obj
  have hns := M.ns
  obtain ⟨G', g1, g2⟩ := restrict h' fun b => decide (b ≠ e)
  have gk : ∀ b, b ≠ e → G'.get? b = h'.get? b := fun b hb => g1 b (decide_eq_true hb)
  have ge : G'.get? e = none := g2 e (by simp)
  have old : ∀ b o, hp.get? b = some o → G'.get? b = some o := fun b o q => (gk b (Nat.ne_of_lt (Nat.lt_of_lt_of_le (Heap.lt_size q) M.new))).trans (M.keep b o q)
  have ob : ObjOk X.prog X.w (upd H d (valD v)) G' d (valD v) :=
    ⟨_, hns.at (fun o q => (gk d M.dne).trans q), fun f => relO_val rv f⟩
  have J : Inv X pins σ (upd H d (valD v)) ⟨G', g, dr, tk', os⟩ := I1.laid (t' := tk') old M.dbig ob
  refine ⟨e, oe, fv, ⟨G', g, dr, tk', os⟩, _, .ref C, some d, rfl, J, fun b o q => ?_, ge, hoe, ⟨hc, hd⟩, hdat, h1, ?_, rfl, I1.bare, raises_own T.exC T.tyC, q1 d (I1.hok.fresh M.dbig)⟩
  · by_cases hb : b = e
    · have q' : G'.get? b = some o := q
      rw [hb, ge] at q'; cases q'
    · exact (gk b hb).symm.trans q
  · rw [upd_ne (Ne.symm M.dne)]
    exact I1.hok.fresh M.new
theorem pmk_err {a : Expr} {te : TE} {x : Str} {p pos : Pos} {k : Nat} (T : ErrTxt X.K C fI) (U : ErrAll X.K fI) (gC : X.mg x = some (.ref C)) (hr : Room k X.A) (ha : PE X a te) (hg : Gl X x := by rfl) (hdb : (x == ("__debug__" : Str)) = false := by decide)
    (he : starEach (a :: []) X.env = (false, eval a X.env) :: starEach [] X.env := by rfl) (hpl : (backTo pos (starEach [] X.env)).any (·.1) = false := by rfl) :
    PMk X (.Call (.Name x p) [a] [] pos) (tMkErr C te) := by
  intro pins s σ H Q I h
  refine wpAny_Call_Name_kw (ld_glob I hg gC ?_ hdb)
  refine PySem.W.callWith_K (h₀ := X.base) I.ok.mod.kin T.kC (thn ((pa_cons ha pa_nil he).run pos pins s σ H (fun vs H1 => ∃ v, vs = [v] ∧ ∀ d, H1 d = none → Q (.ref C) (some d) (upd H1 d (valD v))) I ?_) fun us s1 hh => ?_) he hpl
  · show te σ H _
    exact (show te σ H fun v H1 => ∃ w, [v] = [w] ∧ ∀ d, H1 d = none → Q (.ref C) (some d) (upd H1 d (valD w)) from by
      have e : (fun (v : V) (H1 : Hp) => ∃ w, [v] = [w] ∧ ∀ d, H1 d = none → Q (.ref C) (some d) (upd H1 d (valD w))) = fun v H1 => ∀ d, H1 d = none → Q (.ref C) (some d) (upd H1 d (valD v)) := by
        funext v H1
        apply propext
        constructor
        · rintro ⟨w, e, h⟩
          cases e
          exact h
        · intro h
          exact ⟨v, rfl, h⟩
      rw [e]
      exact h)
  obtain ⟨vs, H1, I1, r1, v, ev, q1⟩ := hh
  subst ev
  refine ⟨I1.kIn, ?_⟩
  cases r1 with
  | cons rv rn =>
    rename_i v' us'
    cases rn
    exact mk_err (args := ⟨[v'], []⟩) T U hr (.inl rfl) I1 rv q1
theorem pmk_errK {a : Expr} {te : TE} {x : Str} {p pos kpos : Pos} {k : Nat} (T : ErrTxt X.K C fI) (U : ErrAll X.K fI) (gC : X.mg x = some (.ref C)) (hr : Room k X.A) (ha : PE X a te) (hg : Gl X x := by rfl) (hdb : (x == ("__debug__" : Str)) = false := by decide)
    (hall : (backToKw pos (keywordEach [⟨some "value", a, kpos⟩] X.env)).all (·.1.isSome) = true := by rfl) (hks : (backToKw pos (keywordEach [⟨some "value", a, kpos⟩] X.env)).filterMap (·.1) = (["value"] : List Str) := by rfl)
    (hpl : ((backTo pos (starEach [] X.env)).any (·.1) || (backToKw pos (keywordEach [⟨some "value", a, kpos⟩] X.env)).any (·.1.isNone)) = false := by rfl) :
    PMk X (.Call (.Name x p) [] [⟨some "value", a, kpos⟩] pos) (tMkErr C te) := by
  intro pins s σ H Q I h
  refine wpAny_Call_Name_kw (ld_glob I hg gC ?_ hdb)
  refine PySem.W.callWith_KW0 (h₀ := X.base) I.ok.mod.kin T.kC hall (thn ((pk_cons ha pk_nil).run pos pins s σ H (fun vs H1 => ∃ v, vs = [v] ∧ ∀ d, H1 d = none → Q (.ref C) (some d) (upd H1 d (valD v))) I ?_) fun us s1 hh => ?_) hpl
  · show te σ H _
    exact (show te σ H fun v H1 => ∃ w, [v] = [w] ∧ ∀ d, H1 d = none → Q (.ref C) (some d) (upd H1 d (valD w)) from by
      have e : (fun (v : V) (H1 : Hp) => ∃ w, [v] = [w] ∧ ∀ d, H1 d = none → Q (.ref C) (some d) (upd H1 d (valD w))) = fun v H1 => ∀ d, H1 d = none → Q (.ref C) (some d) (upd H1 d (valD v)) := by
        funext v H1
        apply propext
        constructor
        · rintro ⟨w, e, h⟩
          cases e
          exact h
        · intro h
          exact ⟨v, rfl, h⟩
      rw [e]
      exact h)
  obtain ⟨vs, H1, I1, r1, v, ev, q1⟩ := hh
  subst ev
  refine ⟨I1.kIn, ?_⟩
  rw [hks]
  cases r1 with
  | cons rv rn =>
    rename_i v' us'
    cases rn
    exact mk_err (args := ⟨[], [("value", v')]⟩) T U hr (.inr rfl) I1 rv q1
/-- made, not raised: a tracked error -/
def tErrV (t : L2.St → Hp → XK → Prop) : TE := fun σ H Q => t σ H fun cls d H1 => ∀ a, H1 a = none → Q (.ref a) (upd H1 a (exk cls d a))
theorem pe_errV {e : Expr} {t : L2.St → Hp → XK → Prop} (h : PMk X e t) : PE X e (tErrV t) := by
  refine ⟨fun pins s σ H Q I hw => thn (h pins s σ H _ I hw) fun u s' hm => ?_⟩
  obtain ⟨a, oe, vs, sI, H', cls, d, rfl, J, k, hne, ha, hz, hd, h1, na, os, ag, r, q⟩ := hm
  have J2 : Inv X pins σ (upd H' a (exk cls d a)) { sI with heap := s'.heap, toks := s'.toks } := Inv.laidN J k hne na (exk_ok ha hz hd)
  exact ⟨.ref a, _, inv_re J2 rfl os ag, rfl, q a na⟩
/-- e.value of a tracked error -/
def tErrA (K : PySem.W.Frag) (fI : Addr) (te : TE) : TE := fun σ H Q => te σ H fun x H1 => ∃ (a D dd : Addr) (v : V), x = .ref a ∧ H1 a = some (exk (.ref D) (some dd) a) ∧ H1 dd = some (valD v) ∧ ErrTxt K D fI ∧ Q v H1
theorem pe_errA {e : Expr} {te : TE} {pos : Pos} (he : PE X e te) (hb : attributeBase e "value" X.env (eval e X.env) = eval e X.env := by rfl) : PE X (.Attribute e "value" pos) (tErrA X.K fI te) := by
  refine ⟨fun pins s σ H Q I h => ?_⟩
  refine attr_of hb (thn (he.run pins s σ H _ I h) fun u s1 hh => ?_)
  obtain ⟨x, H1, I1, rx, a, D, dd, v, rfl, ea, ed, T, q⟩ := hh
  obtain rfl : u = Value.ref a := rx
  obtain ⟨⟨oe, vs, ho, hz, hf⟩, _⟩ := (show ObjOk X.prog X.w H1 s1.heap a (exk (.ref D) (some dd) a) from I1.hok a _ ea)
  have hx : ObjOk X.prog X.w H1 s1.heap dd (valD v) := I1.hok dd _ ed
  obtain ⟨mA, hns, hr⟩ := hx
  obtain ⟨od, hod, hl⟩ := lookIn_ns hns
  have l : List.lookup ("value" : Str) [(("value" : Str), v)] = some v := by simp [List.lookup]
  obtain ⟨u, hu, ru⟩ := RelO.some_of (v := v) (o := mA "value") (by rw [← l]; exact hr "value")
  have J : PySem.W.InstAt s1.heap a oe D (some od) := ⟨ho, hz.1, by unfold PySem.W.notCls; rw [hf] <;> rfl, by rw [hz.2]; exact hod⟩
  exact HandSPX.exc_get I1.kIn J T.ga T.gg T.exC (PySem.W.findObj_own T.hdC T.noN rfl (by rw [hl, hu])) (handed_of ru) ⟨v, H1, I1.tok _, ru, q⟩
/-- isinstance(e, c) of a tracked error -/
def rIsX (K : PySem.W.Frag) (fI : Addr) : List V → Hp → VK → Prop := fun xs H Q => ∃ (a D dd : Addr) (v c : V) (cv : Value) (b : Bool), xs = [.ref a, c] ∧ ClsV c cv ∧ H a = some (exk (.ref D) (some dd) a) ∧ H dd = some (valD v) ∧ ErrTxt K D fI ∧ ErrAll K fI ∧ PySem.W.kitOne K (.ref D) cv = some b ∧ Q (.bl b) H
theorem call_isX : CallR X (.builtin "isinstance") (rIsX X.K fI) := by
  intro pins s σ H xs us Q I r h
  obtain ⟨a, D, dd, v, c, cv, b, rfl, kc, ea, ed, T, U, e, q⟩ := h
  obtain ⟨u1, u2, rfl, r1, r2⟩ := vals2 r
  cases (show u1 = Value.ref a from r1)
  have e2 := kc.eq r2
  subst e2
  obtain ⟨⟨oe, vs, ho, hz, hf⟩, _⟩ := (show ObjOk X.prog X.w H s.heap a (exk (.ref D) (some dd) a) from I.hok a _ ea)
  obtain ⟨mA, hns, hr⟩ := (show ObjOk X.prog X.w H s.heap dd (valD v) from I.hok dd _ ed)
  obtain ⟨od, hod, hl⟩ := lookIn_ns hns
  have J : PySem.W.InstAt s.heap a oe D (some od) := ⟨ho, hz.1, by unfold PySem.W.notCls; rw [hf] <;> rfl, by rw [hz.2]; exact hod⟩
  obtain ⟨cd, hcd, _⟩ := PySem.W.any_some T.hdC
  exact PySem.W.kia_one (PySem.W.kitx_exc (by rw [hcd]; rfl) T.ga T.gg T.exC T.ca U.hn U.ht T.mo) I.kIn J e (fun z => nomatch z) fun tk => ⟨.bl b, H, I.tok tk, rfl, q⟩
end
end SB
namespace SB
open PySem PySem.Spec PyProof.Rows L2
section
variable {X : Cx} {pins : List (Addr × Obj)} {σ : L2.St} {H : Hp} {s : Shared}
/-- a caught error is tracked from here on -/
theorem inv_track {a : Addr} {cls : Value} {d : Option Addr} {oe : Obj} {vs : Array Value} (I : Inv X pins σ H s) (ha : s.heap.get? a = some oe) (hz : Zc cls d oe) (hd : oe.data = .fields vs) (na : H a = none) (nL : a ≠ X.env.locals) (n0 : X.s_0.heap.get? a = none)
    (np : ∀ p ∈ X.pn ++ pins, p.1 ≠ a) : Inv X pins σ (upd H a (exk cls d a)) s := by
  refine ⟨I.ok, I.os, I.bare, ⟨I.base.keep, I.base.slot, fun b o e n hx => ?_, I.base.there, fun b xs e => ?_, fun b o u e => ?_, fun b ps e => ?_⟩, I.loc, I.cell, ?_, fun x c e => ?_, fun p hp => ?_, fun b u e => ?_, I.len⟩
  · have hb : b ≠ a := fun z => by
      rw [z, n0] at e
      cases e
    rw [upd_ne hb]
    exact I.base.free b o e n hx
  · have q := I.base.tups b xs e
    rw [upd_ne (ne_of_none q na)]
    exact q
  · have q := I.base.frzs b o u e
    rw [upd_ne (ne_of_none q na)]
    exact q
  · obtain ⟨m, q⟩ := I.base.tbls b ps e
    exact ⟨m, by rw [upd_ne (ne_of_none q na)]; exact q⟩
  · rw [upd_ne (Ne.symm nL)]
    exact I.free
  · have hc : c ≠ a := fun z => by
      obtain ⟨v, o, ho, hv⟩ := I.cell x c e
      rw [z, ha] at ho
      cases ho
      rw [hd] at hv
      cases hv
    rw [upd_ne hc]
    exact I.freeC x c e
  · obtain ⟨e, n, ne, nf, dd⟩ := I.pin p hp
    exact ⟨e, by rw [upd_ne (np p hp)]; exact n, ne, nf, dd⟩
  · by_cases hb : b = a
    · subst hb
      rw [upd_same] at e
      cases e
      exact exk_ok ha hz hd
    · rw [upd_ne hb] at e
      exact (I.hok b u e).stay (fun c v _ q => q) (fun c q => by rw [upd_ne (ne_of_none q na)]; exact q) fun c xs q => by rw [upd_ne (ne_of_none q na)]; exact q
end
/-- what «except x as n: y = n» wishes of an error: slot i is n's, slot j is y's -/
def wKeep (K : PySem.W.Frag) (c : Value) (i j : Nat) (D : Ends) : WX := fun cls d σ H =>
  PySem.W.exmOne K cls c = some true ∧ ∀ a, H a = none → D.nx (((σ.set i (some (.ref a))).set j (some (.ref a))).set i none) (upd H a (exk cls d a))
section
variable {X : Cx} {x n y : Str} {c : Value} {i j : Nat} {body : List Stmt} {np p1 p2 p3 pos pos' : Pos} {tb : WX → TS}
theorem ps_try_keep (hs : X.stack = X.env :: X.outer) (hf : X.env.frame = some X.env.locals) (hex : X.ex = []) (hN : X.N.Nodup) (hi : X.N[i]? = some n) (hln : X.env.kindOf n = some .local) (hj : X.N[j]? = some y) (hly : X.env.kindOf y = some .local) (hc : Names X x c)
    (hb : ∀ (W : WX) (pn : List (Addr × Obj)) (xe : Value → Shared → Prop), Takes (X.tr pn xe) W → PassesOwn (model X.prog X.w) X.A X.env xe → PSs (X.tr pn xe) body (tb W))
    (hdn : (n == ("__debug__" : Str)) = false := by decide) (hdc : (n == ("__classdict__" : Str)) = false := by decide)
    (hsw : ∀ (Y : Cx), Y.env = X.env → swapsWith (.Name n p2) (some (.Name y p1)) p3.line Y.env = pure false := by intro Y e; rw [e]; rfl) :
    PS X (.Try body [.ExceptHandler (some (.Name x np)) (some n) [.Assign [.Name y p1] (.Name n p2) p3] pos'] [] [] pos) (fun D σ H => tb (wKeep X.K c i j D) D σ H) := by
  refine ⟨fun pins s σ H D I h => ?_⟩
  have ok := I.ok
  have hfr : X.A.frames = some (X.env :: X.outer) := by rw [ok.frames, hs]
  refine wpAny_Try_except ?_
  refine wpAny_mono ((hb (wKeep X.K c i j D) (X.pn ++ pins) (fun e s₁ => wpAny (model X.prog X.w) X.A (noteFrame e X.env) (fun _ s₂ => wpAny (model X.prog X.w) X.A (setFlight e none) (fun _ s₃ =>
    wpAny (model X.prog X.w) X.A (handleBy e X.env [.ExceptHandler (some (.Name x np)) (some n) [.Assign [.Name y p1] (.Name n p2) p3] pos']) (SP X pins D) X.xe s₃) X.xe s₂) X.xe s₁) (fun u s' xx => ?_) PassesOwn.looking).run [] s σ H D (I.toTry _) h) (fun f s1 hsp => ?_) (fun e s1 he => he)
  · obtain ⟨a, B, sI, pins', σ', H', cls, d, rfl, J', nb, up, sky, na, os, ag, hb1, hyes⟩ := xx
    have J : Inv X pins σ' H' sI := J'.ofTry ok
    have sky' : Sky B (X.env :: X.outer) a (Zc cls d) X.env.locals s'.heap := by rw [← hs]; exact sky
    show wpAny (model X.prog X.w) X.A (noteFrame (.ref a) X.env) _ _ _
    refine Sky.land Zc.steady hfr hf sky' fun h3 fl3 up3 => ?_
    have J3 : Inv X pins σ' H' { s' with heap := h3 } := J.landed nb fl3.1 (up.trans up3) os ag
    obtain ⟨oe3, vs3, he3, hz3, hd3⟩ := fl3.there
    have Ba : B.get? a = none := fl3.2.1
    have nfr : a ∉ frs (X.env :: X.outer) := fun hm => by
      obtain ⟨_, o', e', hnf⟩ := fl3.2.2.1.mem hm
      rw [he3] at e'; cases e'
      exact hnf _ hd3
    have nL : a ≠ X.env.locals := fun z => nfr (List.mem_filterMap.mpr ⟨X.env, List.mem_cons_self, by rw [hf, z]⟩)
    have nF : a ∉ X.fs := fun hm => by
      obtain ⟨e, he, q⟩ := List.mem_filterMap.mp hm
      exact nfr (List.mem_filterMap.mpr ⟨e, List.mem_cons_of_mem _ he, q⟩)
    have nst : a ∉ frs X.stack := by rw [hs]; exact nfr
    have nI : sI.heap.get? a = none := by
      cases q : sI.heap.get? a with
      | none => rfl
      | some o =>
        have z := nb a o q nst
        rw [Ba] at z
        cases z
    have n0 : X.s_0.heap.get? a = none := by
      cases q : X.s_0.heap.get? a with
      | none => rfl
      | some o =>
        obtain ⟨o', z⟩ := J.base.there a o q (by rw [hex]; exact fun z => nomatch z)
        rw [nI] at z
        cases z
    have npn : ∀ p ∈ X.pn ++ pins, p.1 ≠ a := fun p hp z => by
      have e := (J.pin p hp).1
      rw [z, nI] at e
      cases e
    have S3 := J3.suite he3 hd3 na nL nF
    refine wpAny_handleBy_cons (codeAny_handlers_test ?_) (by intro q; cases q)
    have LT : PySem.W.Looks (model X.prog X.w) h3 (typeOf (.ref a)) cls := fun A Q E s k q => wpAny_typeOf_ref (k _ _ he3) (by rw [hz3.1]; exact q)
    have LM := PySem.W.exm_one (M := model X.prog X.w) (J3.kIn) LT hb1
    have test : ∀ {Q : Value → Shared → Prop} {E : Value → Shared → Prop}, Q c { s' with heap := h3 } → wpAny (model X.prog X.w) (X.A.mark (some (.ref a))) (eval (.Name x np) X.env) Q E { s' with heap := h3 } := fun {Q E} q => by
      obtain ⟨hg, hdbg, hm | ⟨hm, hv, hnn⟩⟩ := hc
      · exact ld_glob (X := X.suite a ((a, oe3) :: (X.pn ++ pins))) S3 hg hm q hdbg
      · exact ld_blt (X := X.suite a ((a, oe3) :: (X.pn ++ pins))) S3 hg hm hv q hnn hdbg
    refine test (LM.here ?_)
    refine codeAny_handlers_suite_as ?_
    refine HandSPX.lands_againZ fl3 fun h4 fl4 up4 => ?_
    have J4 : Inv X pins σ' H' { s' with heap := h4 } := J.landed nb fl4.1 ((up.trans up3).trans up4) os ag
    obtain ⟨oe4, vs4, he4, hz4, hd4⟩ := fl4.there
    have S4 := J4.suite he4 hd4 na nL nF
    refine store_ok (X := X.suite a ((a, oe4) :: (X.pn ++ pins))) (v := .ref a) S4 hN hi (.inl hln) rfl (fun s5 S5 => ?_) (.inr hln)
    have hli : i < σ'.length := by
      rw [J.len]
      exact (List.getElem?_eq_some_iff.mp hi).1
    have suite : PSs (X.suite a ((a, oe4) :: (X.pn ++ pins))) [.Assign [.Name y p1] (.Name n p2) p3] (tAsg (tVar i) (gName j)) :=
      pss_one (ps_set (X := X.suite a ((a, oe4) :: (X.pn ++ pins))) (i := j) hN hj (.inl hly) (pe_var hi (.inl hln) hdn hdc) (hsw _ rfl) (.inr hly))
    refine wpAny_mono (suite.run [] s5 _ H' { nx := fun σ6 H6 => σ6 = (σ'.set i (some (.ref a))).set j (some (.ref a)) ∧ H6 = H', rt := fun _ _ => False } S5 ⟨.ref a, List.getElem?_set_self hli, rfl, rfl⟩) (fun f s6 hsp => ?_) (fun _ _ z => False.elim z)
    cases f with
    | next =>
      obtain ⟨σ6, H6, S6, e6, e7⟩ := hsp
      subst e6
      subst e7
      refine gone_ok (X := X.suite a ((a, oe4) :: (X.pn ++ pins))) S6 hN hi hln fun s7 S7 => ?_
      have he7 : s7.heap.get? a = some oe4 := (S7.pin (a, oe4) (List.mem_append_left _ List.mem_cons_self)).1
      have J7 : Inv X pins _ _ s7 := S7.unsuite ok
      exact ⟨_, _, inv_track J7 he7 hz4 hd4 na nL n0 npn, hyes a na⟩
    | brk =>
      obtain ⟨σ6, H6, S6, q6⟩ := hsp
      exact q6.elim
    | cont =>
      obtain ⟨σ6, H6, S6, q6⟩ := hsp
      exact q6.elim
    | ret u =>
      obtain ⟨v6, σ6, H6, S6, r6, q6⟩ := hsp
      exact q6.elim
  · cases f with
    | next =>
      obtain ⟨σ', H', J', q⟩ := hsp
      exact wpAny_execs_nil ⟨σ', H', J'.ofTry ok, q⟩
    | brk =>
      obtain ⟨σ', H', J', q⟩ := hsp
      exact ⟨σ', H', J'.ofTry ok, q⟩
    | cont =>
      obtain ⟨σ', H', J', q⟩ := hsp
      exact ⟨σ', H', J'.ofTry ok, q⟩
    | ret u =>
      obtain ⟨v, σ', H', J', r, q⟩ := hsp
      exact ⟨v, σ', H', J'.ofTry ok, r, q⟩
end
end SB
namespace SB
open PySem L2
abbrev sRf : Stmt := topI 28
abbrev sRs : Stmt := topI 29
abbrev sNf : Stmt := topI 30
abbrev sNs : Stmt := topI 31
abbrev sRaised : Stmt := topI 32
abbrev sKinds : Stmt := topI 33
def errNm (i : Nat) : Str := (["InvalidNumber", "InvalidPoint", "InvalidQuestion", "InvalidBook", "InvalidRow", "InvalidWish", "InvalidPaper", "InvalidIndex", "InvalidPair", "NeverComes", "NotFull", "InvalidLot", "InvalidTape", "InvalidWeb", "InvalidSaying", "InvalidName", "NoLongRun", "HasRound", "UnknownName", "NothingToUndo", "Unreadable", "Unorderly"] : List Str).getD i ""
/-- what the top has made: the base class at B, the others at c 0 .. c 21 -/
structure Txt (K : PySem.W.Frag) (mg : Str → Option Value) (c : Nat → Addr) (B fI : Addr) : Prop where
  U : ErrAll K fI
  tB : ErrTxt K B fI
  tC : ∀ i, i < 22 → ErrTxt K (c i) fI
  exB : PySem.W.exmOne K (.ref B) (.ref B) = some true
  exC : ∀ i, i < 22 → PySem.W.exmOne K (.ref (c i)) (.ref B) = some true
  vB : PySem.W.kitOne K (.ref B) (.type "ValueError") = some true
  vC : ∀ i, i < 22 → PySem.W.kitOne K (.ref (c i)) (.type "ValueError") = some true
  kk : ∀ i j, i < 22 → j < 22 → PySem.W.kitOne K (.ref (c i)) (.ref (c j)) = some (decide (j = i))
  kB : ∀ j, j < 22 → PySem.W.kitOne K (.ref B) (.ref (c j)) = some false
  gB : mg "BookError" = some (.ref B)
  gC : ∀ i, i < 22 → mg (errNm i) = some (.ref (c i))
  gV : mg "ValueError" = none
  b : Blt mg
/-- raises the class with the number i, which is from lo on and below hi -/
def spRaise (c : Nat → Addr) (lo hi : Nat) : Sp := fun vs H Q E => ∃ (i : Nat) (x : V), vs = [.int (i : Int), x] ∧ lo ≤ i ∧ i < hi ∧ ∀ d, H d = none → E (.ref (c i)) (some d) (upd H d (valD x))
def spRaised (c : Nat → Addr) : Sp := fun vs H Q E => ∃ (i : Nat) (x : V) (nm : Bool), vs = [.int (i : Int), x, .bl nm] ∧ i < 22 ∧ ∀ d, H d = none → E (.ref (c i)) (some d) (upd H d (valD x))
section
variable {P : Program} {w : World} {K : PySem.W.Frag} {mg : Str → Option Value} {base : Heap} {c : Nat → Addr} {B fI : Addr}
theorem sc_rf : FnScope ["which", "given"] ["which", "given"] (defScope sRf) := ⟨rfl, rfl, rfl, by decide +kernel, rfl, by decide +kernel, by decide +kernel⟩
theorem ok_rf {f : Addr} {fd : FuncData} (F : Fun K "_law_raise_first" "_law_raise_first" sRf f fd) (T : Txt K mg c B fI) : FnOk P w K mg base (L2.CX P w) 3 f fd ["which", "given"] (spRaise c 0 11) := by
  refine F.okX sc_rf (fun vs H Q E h => ?_) (fun cdv A outer s H vs Q E hr h => ?_)
  · obtain ⟨i, x, rfl, _⟩ := h
    rfl
  obtain ⟨i, x, rfl, h0, h1, k⟩ := h
  refine ⟨_, (pss_cons (ps_if (pt_cmpR op_eq (pv 0) pe_int (nomark _)) (pss_one (ps_raise rfl (takes_of rfl rfl rfl rfl) (pmk_err (T.tC 0 (by decide)) T.U (T.gC 0 (by decide)) hr (pv 1)))) pss_nil)
    (pss_cons (ps_if (pt_cmpR op_eq (pv 0) pe_int (nomark _)) (pss_one (ps_raise rfl (takes_of rfl rfl rfl rfl) (pmk_err (T.tC 1 (by decide)) T.U (T.gC 1 (by decide)) hr (pv 1)))) pss_nil)
    (pss_cons (ps_if (pt_cmpR op_eq (pv 0) pe_int (nomark _)) (pss_one (ps_raise rfl (takes_of rfl rfl rfl rfl) (pmk_err (T.tC 2 (by decide)) T.U (T.gC 2 (by decide)) hr (pv 1)))) pss_nil)
    (pss_cons (ps_if (pt_cmpR op_eq (pv 0) pe_int (nomark _)) (pss_one (ps_raise rfl (takes_of rfl rfl rfl rfl) (pmk_err (T.tC 3 (by decide)) T.U (T.gC 3 (by decide)) hr (pv 1)))) pss_nil)
    (pss_cons (ps_if (pt_cmpR op_eq (pv 0) pe_int (nomark _)) (pss_one (ps_raise rfl (takes_of rfl rfl rfl rfl) (pmk_err (T.tC 4 (by decide)) T.U (T.gC 4 (by decide)) hr (pv 1)))) pss_nil)
    (pss_cons (ps_if (pt_cmpR op_eq (pv 0) pe_int (nomark _)) (pss_one (ps_raise rfl (takes_of rfl rfl rfl rfl) (pmk_err (T.tC 5 (by decide)) T.U (T.gC 5 (by decide)) hr (pv 1)))) pss_nil)
    (pss_cons (ps_if (pt_cmpR op_eq (pv 0) pe_int (nomark _)) (pss_one (ps_raise rfl (takes_of rfl rfl rfl rfl) (pmk_err (T.tC 6 (by decide)) T.U (T.gC 6 (by decide)) hr (pv 1)))) pss_nil)
    (pss_cons (ps_if (pt_cmpR op_eq (pv 0) pe_int (nomark _)) (pss_one (ps_raise rfl (takes_of rfl rfl rfl rfl) (pmk_err (T.tC 7 (by decide)) T.U (T.gC 7 (by decide)) hr (pv 1)))) pss_nil)
    (pss_cons (ps_if (pt_cmpR op_eq (pv 0) pe_int (nomark _)) (pss_one (ps_raise rfl (takes_of rfl rfl rfl rfl) (pmk_err (T.tC 8 (by decide)) T.U (T.gC 8 (by decide)) hr (pv 1)))) pss_nil)
    (pss_cons (ps_if (pt_cmpR op_eq (pv 0) pe_int (nomark _)) (pss_one (ps_raise rfl (takes_of rfl rfl rfl rfl) (pmk_err (T.tC 9 (by decide)) T.U (T.gC 9 (by decide)) hr (pv 1)))) pss_nil)
    (pss_one (ps_raise rfl (takes_of rfl rfl rfl rfl) (pmk_err (T.tC 10 (by decide)) T.U (T.gC 10 (by decide)) hr (pv 1)))))))))))))), ?_⟩
  rcases (by omega : i = 0 ∨ i = 1 ∨ i = 2 ∨ i = 3 ∨ i = 4 ∨ i = 5 ∨ i = 6 ∨ i = 7 ∨ i = 8 ∨ i = 9 ∨ i = 10) with rfl | rfl | rfl | rfl | rfl | rfl | rfl | rfl | rfl | rfl | rfl
  · exact ⟨_, rfl, rfl, _, rfl, iteP rfl ⟨_, rfl, fun d hd => k d hd⟩⟩
  · exact ⟨_, rfl, rfl, _, rfl, iteN (by decide) ⟨_, rfl, rfl, _, rfl, iteP rfl ⟨_, rfl, fun d hd => k d hd⟩⟩⟩
  · exact ⟨_, rfl, rfl, _, rfl, iteN (by decide) ⟨_, rfl, rfl, _, rfl, iteN (by decide) ⟨_, rfl, rfl, _, rfl, iteP rfl ⟨_, rfl, fun d hd => k d hd⟩⟩⟩⟩
  · exact ⟨_, rfl, rfl, _, rfl, iteN (by decide) ⟨_, rfl, rfl, _, rfl, iteN (by decide) ⟨_, rfl, rfl, _, rfl, iteN (by decide) ⟨_, rfl, rfl, _, rfl, iteP rfl ⟨_, rfl, fun d hd => k d hd⟩⟩⟩⟩⟩
  · exact ⟨_, rfl, rfl, _, rfl, iteN (by decide) ⟨_, rfl, rfl, _, rfl, iteN (by decide) ⟨_, rfl, rfl, _, rfl, iteN (by decide) ⟨_, rfl, rfl, _, rfl, iteN (by decide) ⟨_, rfl, rfl, _, rfl, iteP rfl ⟨_, rfl, fun d hd => k d hd⟩⟩⟩⟩⟩⟩
  · exact ⟨_, rfl, rfl, _, rfl, iteN (by decide) ⟨_, rfl, rfl, _, rfl, iteN (by decide) ⟨_, rfl, rfl, _, rfl, iteN (by decide) ⟨_, rfl, rfl, _, rfl, iteN (by decide) ⟨_, rfl, rfl, _, rfl, iteN (by decide) ⟨_, rfl, rfl, _, rfl, iteP rfl ⟨_, rfl, fun d hd => k d hd⟩⟩⟩⟩⟩⟩⟩
  · exact ⟨_, rfl, rfl, _, rfl, iteN (by decide) ⟨_, rfl, rfl, _, rfl, iteN (by decide) ⟨_, rfl, rfl, _, rfl, iteN (by decide) ⟨_, rfl, rfl, _, rfl, iteN (by decide) ⟨_, rfl, rfl, _, rfl, iteN (by decide) ⟨_, rfl, rfl, _, rfl, iteN (by decide) ⟨_, rfl, rfl, _, rfl, iteP rfl ⟨_, rfl, fun d hd => k d hd⟩⟩⟩⟩⟩⟩⟩⟩
  · exact ⟨_, rfl, rfl, _, rfl, iteN (by decide) ⟨_, rfl, rfl, _, rfl, iteN (by decide) ⟨_, rfl, rfl, _, rfl, iteN (by decide) ⟨_, rfl, rfl, _, rfl, iteN (by decide) ⟨_, rfl, rfl, _, rfl, iteN (by decide) ⟨_, rfl, rfl, _, rfl, iteN (by decide) ⟨_, rfl, rfl, _, rfl, iteN (by decide) ⟨_, rfl, rfl, _, rfl, iteP rfl ⟨_, rfl, fun d hd => k d hd⟩⟩⟩⟩⟩⟩⟩⟩⟩
  · exact ⟨_, rfl, rfl, _, rfl, iteN (by decide) ⟨_, rfl, rfl, _, rfl, iteN (by decide) ⟨_, rfl, rfl, _, rfl, iteN (by decide) ⟨_, rfl, rfl, _, rfl, iteN (by decide) ⟨_, rfl, rfl, _, rfl, iteN (by decide) ⟨_, rfl, rfl, _, rfl, iteN (by decide) ⟨_, rfl, rfl, _, rfl, iteN (by decide) ⟨_, rfl, rfl, _, rfl, iteN (by decide) ⟨_, rfl, rfl, _, rfl, iteP rfl ⟨_, rfl, fun d hd => k d hd⟩⟩⟩⟩⟩⟩⟩⟩⟩⟩
  · exact ⟨_, rfl, rfl, _, rfl, iteN (by decide) ⟨_, rfl, rfl, _, rfl, iteN (by decide) ⟨_, rfl, rfl, _, rfl, iteN (by decide) ⟨_, rfl, rfl, _, rfl, iteN (by decide) ⟨_, rfl, rfl, _, rfl, iteN (by decide) ⟨_, rfl, rfl, _, rfl, iteN (by decide) ⟨_, rfl, rfl, _, rfl, iteN (by decide) ⟨_, rfl, rfl, _, rfl, iteN (by decide) ⟨_, rfl, rfl, _, rfl, iteN (by decide) ⟨_, rfl, rfl, _, rfl, iteP rfl ⟨_, rfl, fun d hd => k d hd⟩⟩⟩⟩⟩⟩⟩⟩⟩⟩⟩
  · exact ⟨_, rfl, rfl, _, rfl, iteN (by decide) ⟨_, rfl, rfl, _, rfl, iteN (by decide) ⟨_, rfl, rfl, _, rfl, iteN (by decide) ⟨_, rfl, rfl, _, rfl, iteN (by decide) ⟨_, rfl, rfl, _, rfl, iteN (by decide) ⟨_, rfl, rfl, _, rfl, iteN (by decide) ⟨_, rfl, rfl, _, rfl, iteN (by decide) ⟨_, rfl, rfl, _, rfl, iteN (by decide) ⟨_, rfl, rfl, _, rfl, iteN (by decide) ⟨_, rfl, rfl, _, rfl, iteN (by decide) ⟨_, rfl, fun d hd => k d hd⟩⟩⟩⟩⟩⟩⟩⟩⟩⟩⟩
theorem sc_rs : FnScope ["which", "given"] ["which", "given"] (defScope sRs) := ⟨rfl, rfl, rfl, by decide +kernel, rfl, by decide +kernel, by decide +kernel⟩
theorem ok_rs {f : Addr} {fd : FuncData} (F : Fun K "_law_raise_second" "_law_raise_second" sRs f fd) (T : Txt K mg c B fI) : FnOk P w K mg base (L2.CX P w) 3 f fd ["which", "given"] (spRaise c 11 22) := by
  refine F.okX sc_rs (fun vs H Q E h => ?_) (fun cdv A outer s H vs Q E hr h => ?_)
  · obtain ⟨i, x, rfl, _⟩ := h
    rfl
  obtain ⟨i, x, rfl, h0, h1, k⟩ := h
  refine ⟨_, (pss_cons (ps_if (pt_cmpR op_eq (pv 0) pe_int (nomark _)) (pss_one (ps_raise rfl (takes_of rfl rfl rfl rfl) (pmk_err (T.tC 11 (by decide)) T.U (T.gC 11 (by decide)) hr (pv 1)))) pss_nil)
    (pss_cons (ps_if (pt_cmpR op_eq (pv 0) pe_int (nomark _)) (pss_one (ps_raise rfl (takes_of rfl rfl rfl rfl) (pmk_err (T.tC 12 (by decide)) T.U (T.gC 12 (by decide)) hr (pv 1)))) pss_nil)
    (pss_cons (ps_if (pt_cmpR op_eq (pv 0) pe_int (nomark _)) (pss_one (ps_raise rfl (takes_of rfl rfl rfl rfl) (pmk_err (T.tC 13 (by decide)) T.U (T.gC 13 (by decide)) hr (pv 1)))) pss_nil)
    (pss_cons (ps_if (pt_cmpR op_eq (pv 0) pe_int (nomark _)) (pss_one (ps_raise rfl (takes_of rfl rfl rfl rfl) (pmk_err (T.tC 14 (by decide)) T.U (T.gC 14 (by decide)) hr (pv 1)))) pss_nil)
    (pss_cons (ps_if (pt_cmpR op_eq (pv 0) pe_int (nomark _)) (pss_one (ps_raise rfl (takes_of rfl rfl rfl rfl) (pmk_err (T.tC 15 (by decide)) T.U (T.gC 15 (by decide)) hr (pv 1)))) pss_nil)
    (pss_cons (ps_if (pt_cmpR op_eq (pv 0) pe_int (nomark _)) (pss_one (ps_raise rfl (takes_of rfl rfl rfl rfl) (pmk_err (T.tC 16 (by decide)) T.U (T.gC 16 (by decide)) hr (pv 1)))) pss_nil)
    (pss_cons (ps_if (pt_cmpR op_eq (pv 0) pe_int (nomark _)) (pss_one (ps_raise rfl (takes_of rfl rfl rfl rfl) (pmk_err (T.tC 17 (by decide)) T.U (T.gC 17 (by decide)) hr (pv 1)))) pss_nil)
    (pss_cons (ps_if (pt_cmpR op_eq (pv 0) pe_int (nomark _)) (pss_one (ps_raise rfl (takes_of rfl rfl rfl rfl) (pmk_err (T.tC 18 (by decide)) T.U (T.gC 18 (by decide)) hr (pv 1)))) pss_nil)
    (pss_cons (ps_if (pt_cmpR op_eq (pv 0) pe_int (nomark _)) (pss_one (ps_raise rfl (takes_of rfl rfl rfl rfl) (pmk_err (T.tC 19 (by decide)) T.U (T.gC 19 (by decide)) hr (pv 1)))) pss_nil)
    (pss_cons (ps_if (pt_cmpR op_eq (pv 0) pe_int (nomark _)) (pss_one (ps_raise rfl (takes_of rfl rfl rfl rfl) (pmk_err (T.tC 20 (by decide)) T.U (T.gC 20 (by decide)) hr (pv 1)))) pss_nil)
    (pss_one (ps_raise rfl (takes_of rfl rfl rfl rfl) (pmk_err (T.tC 21 (by decide)) T.U (T.gC 21 (by decide)) hr (pv 1)))))))))))))), ?_⟩
  rcases (by omega : i = 11 ∨ i = 12 ∨ i = 13 ∨ i = 14 ∨ i = 15 ∨ i = 16 ∨ i = 17 ∨ i = 18 ∨ i = 19 ∨ i = 20 ∨ i = 21) with rfl | rfl | rfl | rfl | rfl | rfl | rfl | rfl | rfl | rfl | rfl
  · exact ⟨_, rfl, rfl, _, rfl, iteP rfl ⟨_, rfl, fun d hd => k d hd⟩⟩
  · exact ⟨_, rfl, rfl, _, rfl, iteN (by decide) ⟨_, rfl, rfl, _, rfl, iteP rfl ⟨_, rfl, fun d hd => k d hd⟩⟩⟩
  · exact ⟨_, rfl, rfl, _, rfl, iteN (by decide) ⟨_, rfl, rfl, _, rfl, iteN (by decide) ⟨_, rfl, rfl, _, rfl, iteP rfl ⟨_, rfl, fun d hd => k d hd⟩⟩⟩⟩
  · exact ⟨_, rfl, rfl, _, rfl, iteN (by decide) ⟨_, rfl, rfl, _, rfl, iteN (by decide) ⟨_, rfl, rfl, _, rfl, iteN (by decide) ⟨_, rfl, rfl, _, rfl, iteP rfl ⟨_, rfl, fun d hd => k d hd⟩⟩⟩⟩⟩
  · exact ⟨_, rfl, rfl, _, rfl, iteN (by decide) ⟨_, rfl, rfl, _, rfl, iteN (by decide) ⟨_, rfl, rfl, _, rfl, iteN (by decide) ⟨_, rfl, rfl, _, rfl, iteN (by decide) ⟨_, rfl, rfl, _, rfl, iteP rfl ⟨_, rfl, fun d hd => k d hd⟩⟩⟩⟩⟩⟩
  · exact ⟨_, rfl, rfl, _, rfl, iteN (by decide) ⟨_, rfl, rfl, _, rfl, iteN (by decide) ⟨_, rfl, rfl, _, rfl, iteN (by decide) ⟨_, rfl, rfl, _, rfl, iteN (by decide) ⟨_, rfl, rfl, _, rfl, iteN (by decide) ⟨_, rfl, rfl, _, rfl, iteP rfl ⟨_, rfl, fun d hd => k d hd⟩⟩⟩⟩⟩⟩⟩
  · exact ⟨_, rfl, rfl, _, rfl, iteN (by decide) ⟨_, rfl, rfl, _, rfl, iteN (by decide) ⟨_, rfl, rfl, _, rfl, iteN (by decide) ⟨_, rfl, rfl, _, rfl, iteN (by decide) ⟨_, rfl, rfl, _, rfl, iteN (by decide) ⟨_, rfl, rfl, _, rfl, iteN (by decide) ⟨_, rfl, rfl, _, rfl, iteP rfl ⟨_, rfl, fun d hd => k d hd⟩⟩⟩⟩⟩⟩⟩⟩
  · exact ⟨_, rfl, rfl, _, rfl, iteN (by decide) ⟨_, rfl, rfl, _, rfl, iteN (by decide) ⟨_, rfl, rfl, _, rfl, iteN (by decide) ⟨_, rfl, rfl, _, rfl, iteN (by decide) ⟨_, rfl, rfl, _, rfl, iteN (by decide) ⟨_, rfl, rfl, _, rfl, iteN (by decide) ⟨_, rfl, rfl, _, rfl, iteN (by decide) ⟨_, rfl, rfl, _, rfl, iteP rfl ⟨_, rfl, fun d hd => k d hd⟩⟩⟩⟩⟩⟩⟩⟩⟩
  · exact ⟨_, rfl, rfl, _, rfl, iteN (by decide) ⟨_, rfl, rfl, _, rfl, iteN (by decide) ⟨_, rfl, rfl, _, rfl, iteN (by decide) ⟨_, rfl, rfl, _, rfl, iteN (by decide) ⟨_, rfl, rfl, _, rfl, iteN (by decide) ⟨_, rfl, rfl, _, rfl, iteN (by decide) ⟨_, rfl, rfl, _, rfl, iteN (by decide) ⟨_, rfl, rfl, _, rfl, iteN (by decide) ⟨_, rfl, rfl, _, rfl, iteP rfl ⟨_, rfl, fun d hd => k d hd⟩⟩⟩⟩⟩⟩⟩⟩⟩⟩
  · exact ⟨_, rfl, rfl, _, rfl, iteN (by decide) ⟨_, rfl, rfl, _, rfl, iteN (by decide) ⟨_, rfl, rfl, _, rfl, iteN (by decide) ⟨_, rfl, rfl, _, rfl, iteN (by decide) ⟨_, rfl, rfl, _, rfl, iteN (by decide) ⟨_, rfl, rfl, _, rfl, iteN (by decide) ⟨_, rfl, rfl, _, rfl, iteN (by decide) ⟨_, rfl, rfl, _, rfl, iteN (by decide) ⟨_, rfl, rfl, _, rfl, iteN (by decide) ⟨_, rfl, rfl, _, rfl, iteP rfl ⟨_, rfl, fun d hd => k d hd⟩⟩⟩⟩⟩⟩⟩⟩⟩⟩⟩
  · exact ⟨_, rfl, rfl, _, rfl, iteN (by decide) ⟨_, rfl, rfl, _, rfl, iteN (by decide) ⟨_, rfl, rfl, _, rfl, iteN (by decide) ⟨_, rfl, rfl, _, rfl, iteN (by decide) ⟨_, rfl, rfl, _, rfl, iteN (by decide) ⟨_, rfl, rfl, _, rfl, iteN (by decide) ⟨_, rfl, rfl, _, rfl, iteN (by decide) ⟨_, rfl, rfl, _, rfl, iteN (by decide) ⟨_, rfl, rfl, _, rfl, iteN (by decide) ⟨_, rfl, rfl, _, rfl, iteN (by decide) ⟨_, rfl, fun d hd => k d hd⟩⟩⟩⟩⟩⟩⟩⟩⟩⟩⟩
theorem sc_nf : FnScope ["which", "given"] ["which", "given"] (defScope sNf) := ⟨rfl, rfl, rfl, by decide +kernel, rfl, by decide +kernel, by decide +kernel⟩
theorem ok_nf {f : Addr} {fd : FuncData} (F : Fun K "_law_raise_named_first" "_law_raise_named_first" sNf f fd) (T : Txt K mg c B fI) : FnOk P w K mg base (L2.CX P w) 3 f fd ["which", "given"] (spRaise c 0 11) := by
  refine F.okX sc_nf (fun vs H Q E h => ?_) (fun cdv A outer s H vs Q E hr h => ?_)
  · obtain ⟨i, x, rfl, _⟩ := h
    rfl
  obtain ⟨i, x, rfl, h0, h1, k⟩ := h
  refine ⟨_, (pss_cons (ps_if (pt_cmpR op_eq (pv 0) pe_int (nomark _)) (pss_one (ps_raise rfl (takes_of rfl rfl rfl rfl) (pmk_errK (T.tC 0 (by decide)) T.U (T.gC 0 (by decide)) hr (pv 1)))) pss_nil)
    (pss_cons (ps_if (pt_cmpR op_eq (pv 0) pe_int (nomark _)) (pss_one (ps_raise rfl (takes_of rfl rfl rfl rfl) (pmk_errK (T.tC 1 (by decide)) T.U (T.gC 1 (by decide)) hr (pv 1)))) pss_nil)
    (pss_cons (ps_if (pt_cmpR op_eq (pv 0) pe_int (nomark _)) (pss_one (ps_raise rfl (takes_of rfl rfl rfl rfl) (pmk_errK (T.tC 2 (by decide)) T.U (T.gC 2 (by decide)) hr (pv 1)))) pss_nil)
    (pss_cons (ps_if (pt_cmpR op_eq (pv 0) pe_int (nomark _)) (pss_one (ps_raise rfl (takes_of rfl rfl rfl rfl) (pmk_errK (T.tC 3 (by decide)) T.U (T.gC 3 (by decide)) hr (pv 1)))) pss_nil)
    (pss_cons (ps_if (pt_cmpR op_eq (pv 0) pe_int (nomark _)) (pss_one (ps_raise rfl (takes_of rfl rfl rfl rfl) (pmk_errK (T.tC 4 (by decide)) T.U (T.gC 4 (by decide)) hr (pv 1)))) pss_nil)
    (pss_cons (ps_if (pt_cmpR op_eq (pv 0) pe_int (nomark _)) (pss_one (ps_raise rfl (takes_of rfl rfl rfl rfl) (pmk_errK (T.tC 5 (by decide)) T.U (T.gC 5 (by decide)) hr (pv 1)))) pss_nil)
    (pss_cons (ps_if (pt_cmpR op_eq (pv 0) pe_int (nomark _)) (pss_one (ps_raise rfl (takes_of rfl rfl rfl rfl) (pmk_errK (T.tC 6 (by decide)) T.U (T.gC 6 (by decide)) hr (pv 1)))) pss_nil)
    (pss_cons (ps_if (pt_cmpR op_eq (pv 0) pe_int (nomark _)) (pss_one (ps_raise rfl (takes_of rfl rfl rfl rfl) (pmk_errK (T.tC 7 (by decide)) T.U (T.gC 7 (by decide)) hr (pv 1)))) pss_nil)
    (pss_cons (ps_if (pt_cmpR op_eq (pv 0) pe_int (nomark _)) (pss_one (ps_raise rfl (takes_of rfl rfl rfl rfl) (pmk_errK (T.tC 8 (by decide)) T.U (T.gC 8 (by decide)) hr (pv 1)))) pss_nil)
    (pss_cons (ps_if (pt_cmpR op_eq (pv 0) pe_int (nomark _)) (pss_one (ps_raise rfl (takes_of rfl rfl rfl rfl) (pmk_errK (T.tC 9 (by decide)) T.U (T.gC 9 (by decide)) hr (pv 1)))) pss_nil)
    (pss_one (ps_raise rfl (takes_of rfl rfl rfl rfl) (pmk_errK (T.tC 10 (by decide)) T.U (T.gC 10 (by decide)) hr (pv 1)))))))))))))), ?_⟩
  rcases (by omega : i = 0 ∨ i = 1 ∨ i = 2 ∨ i = 3 ∨ i = 4 ∨ i = 5 ∨ i = 6 ∨ i = 7 ∨ i = 8 ∨ i = 9 ∨ i = 10) with rfl | rfl | rfl | rfl | rfl | rfl | rfl | rfl | rfl | rfl | rfl
  · exact ⟨_, rfl, rfl, _, rfl, iteP rfl ⟨_, rfl, fun d hd => k d hd⟩⟩
  · exact ⟨_, rfl, rfl, _, rfl, iteN (by decide) ⟨_, rfl, rfl, _, rfl, iteP rfl ⟨_, rfl, fun d hd => k d hd⟩⟩⟩
  · exact ⟨_, rfl, rfl, _, rfl, iteN (by decide) ⟨_, rfl, rfl, _, rfl, iteN (by decide) ⟨_, rfl, rfl, _, rfl, iteP rfl ⟨_, rfl, fun d hd => k d hd⟩⟩⟩⟩
  · exact ⟨_, rfl, rfl, _, rfl, iteN (by decide) ⟨_, rfl, rfl, _, rfl, iteN (by decide) ⟨_, rfl, rfl, _, rfl, iteN (by decide) ⟨_, rfl, rfl, _, rfl, iteP rfl ⟨_, rfl, fun d hd => k d hd⟩⟩⟩⟩⟩
  · exact ⟨_, rfl, rfl, _, rfl, iteN (by decide) ⟨_, rfl, rfl, _, rfl, iteN (by decide) ⟨_, rfl, rfl, _, rfl, iteN (by decide) ⟨_, rfl, rfl, _, rfl, iteN (by decide) ⟨_, rfl, rfl, _, rfl, iteP rfl ⟨_, rfl, fun d hd => k d hd⟩⟩⟩⟩⟩⟩
  · exact ⟨_, rfl, rfl, _, rfl, iteN (by decide) ⟨_, rfl, rfl, _, rfl, iteN (by decide) ⟨_, rfl, rfl, _, rfl, iteN (by decide) ⟨_, rfl, rfl, _, rfl, iteN (by decide) ⟨_, rfl, rfl, _, rfl, iteN (by decide) ⟨_, rfl, rfl, _, rfl, iteP rfl ⟨_, rfl, fun d hd => k d hd⟩⟩⟩⟩⟩⟩⟩
  · exact ⟨_, rfl, rfl, _, rfl, iteN (by decide) ⟨_, rfl, rfl, _, rfl, iteN (by decide) ⟨_, rfl, rfl, _, rfl, iteN (by decide) ⟨_, rfl, rfl, _, rfl, iteN (by decide) ⟨_, rfl, rfl, _, rfl, iteN (by decide) ⟨_, rfl, rfl, _, rfl, iteN (by decide) ⟨_, rfl, rfl, _, rfl, iteP rfl ⟨_, rfl, fun d hd => k d hd⟩⟩⟩⟩⟩⟩⟩⟩
  · exact ⟨_, rfl, rfl, _, rfl, iteN (by decide) ⟨_, rfl, rfl, _, rfl, iteN (by decide) ⟨_, rfl, rfl, _, rfl, iteN (by decide) ⟨_, rfl, rfl, _, rfl, iteN (by decide) ⟨_, rfl, rfl, _, rfl, iteN (by decide) ⟨_, rfl, rfl, _, rfl, iteN (by decide) ⟨_, rfl, rfl, _, rfl, iteN (by decide) ⟨_, rfl, rfl, _, rfl, iteP rfl ⟨_, rfl, fun d hd => k d hd⟩⟩⟩⟩⟩⟩⟩⟩⟩
  · exact ⟨_, rfl, rfl, _, rfl, iteN (by decide) ⟨_, rfl, rfl, _, rfl, iteN (by decide) ⟨_, rfl, rfl, _, rfl, iteN (by decide) ⟨_, rfl, rfl, _, rfl, iteN (by decide) ⟨_, rfl, rfl, _, rfl, iteN (by decide) ⟨_, rfl, rfl, _, rfl, iteN (by decide) ⟨_, rfl, rfl, _, rfl, iteN (by decide) ⟨_, rfl, rfl, _, rfl, iteN (by decide) ⟨_, rfl, rfl, _, rfl, iteP rfl ⟨_, rfl, fun d hd => k d hd⟩⟩⟩⟩⟩⟩⟩⟩⟩⟩
  · exact ⟨_, rfl, rfl, _, rfl, iteN (by decide) ⟨_, rfl, rfl, _, rfl, iteN (by decide) ⟨_, rfl, rfl, _, rfl, iteN (by decide) ⟨_, rfl, rfl, _, rfl, iteN (by decide) ⟨_, rfl, rfl, _, rfl, iteN (by decide) ⟨_, rfl, rfl, _, rfl, iteN (by decide) ⟨_, rfl, rfl, _, rfl, iteN (by decide) ⟨_, rfl, rfl, _, rfl, iteN (by decide) ⟨_, rfl, rfl, _, rfl, iteN (by decide) ⟨_, rfl, rfl, _, rfl, iteP rfl ⟨_, rfl, fun d hd => k d hd⟩⟩⟩⟩⟩⟩⟩⟩⟩⟩⟩
  · exact ⟨_, rfl, rfl, _, rfl, iteN (by decide) ⟨_, rfl, rfl, _, rfl, iteN (by decide) ⟨_, rfl, rfl, _, rfl, iteN (by decide) ⟨_, rfl, rfl, _, rfl, iteN (by decide) ⟨_, rfl, rfl, _, rfl, iteN (by decide) ⟨_, rfl, rfl, _, rfl, iteN (by decide) ⟨_, rfl, rfl, _, rfl, iteN (by decide) ⟨_, rfl, rfl, _, rfl, iteN (by decide) ⟨_, rfl, rfl, _, rfl, iteN (by decide) ⟨_, rfl, rfl, _, rfl, iteN (by decide) ⟨_, rfl, fun d hd => k d hd⟩⟩⟩⟩⟩⟩⟩⟩⟩⟩⟩
theorem sc_ns : FnScope ["which", "given"] ["which", "given"] (defScope sNs) := ⟨rfl, rfl, rfl, by decide +kernel, rfl, by decide +kernel, by decide +kernel⟩
theorem ok_ns {f : Addr} {fd : FuncData} (F : Fun K "_law_raise_named_second" "_law_raise_named_second" sNs f fd) (T : Txt K mg c B fI) : FnOk P w K mg base (L2.CX P w) 3 f fd ["which", "given"] (spRaise c 11 22) := by
  refine F.okX sc_ns (fun vs H Q E h => ?_) (fun cdv A outer s H vs Q E hr h => ?_)
  · obtain ⟨i, x, rfl, _⟩ := h
    rfl
  obtain ⟨i, x, rfl, h0, h1, k⟩ := h
  refine ⟨_, (pss_cons (ps_if (pt_cmpR op_eq (pv 0) pe_int (nomark _)) (pss_one (ps_raise rfl (takes_of rfl rfl rfl rfl) (pmk_errK (T.tC 11 (by decide)) T.U (T.gC 11 (by decide)) hr (pv 1)))) pss_nil)
    (pss_cons (ps_if (pt_cmpR op_eq (pv 0) pe_int (nomark _)) (pss_one (ps_raise rfl (takes_of rfl rfl rfl rfl) (pmk_errK (T.tC 12 (by decide)) T.U (T.gC 12 (by decide)) hr (pv 1)))) pss_nil)
    (pss_cons (ps_if (pt_cmpR op_eq (pv 0) pe_int (nomark _)) (pss_one (ps_raise rfl (takes_of rfl rfl rfl rfl) (pmk_errK (T.tC 13 (by decide)) T.U (T.gC 13 (by decide)) hr (pv 1)))) pss_nil)
    (pss_cons (ps_if (pt_cmpR op_eq (pv 0) pe_int (nomark _)) (pss_one (ps_raise rfl (takes_of rfl rfl rfl rfl) (pmk_errK (T.tC 14 (by decide)) T.U (T.gC 14 (by decide)) hr (pv 1)))) pss_nil)
    (pss_cons (ps_if (pt_cmpR op_eq (pv 0) pe_int (nomark _)) (pss_one (ps_raise rfl (takes_of rfl rfl rfl rfl) (pmk_errK (T.tC 15 (by decide)) T.U (T.gC 15 (by decide)) hr (pv 1)))) pss_nil)
    (pss_cons (ps_if (pt_cmpR op_eq (pv 0) pe_int (nomark _)) (pss_one (ps_raise rfl (takes_of rfl rfl rfl rfl) (pmk_errK (T.tC 16 (by decide)) T.U (T.gC 16 (by decide)) hr (pv 1)))) pss_nil)
    (pss_cons (ps_if (pt_cmpR op_eq (pv 0) pe_int (nomark _)) (pss_one (ps_raise rfl (takes_of rfl rfl rfl rfl) (pmk_errK (T.tC 17 (by decide)) T.U (T.gC 17 (by decide)) hr (pv 1)))) pss_nil)
    (pss_cons (ps_if (pt_cmpR op_eq (pv 0) pe_int (nomark _)) (pss_one (ps_raise rfl (takes_of rfl rfl rfl rfl) (pmk_errK (T.tC 18 (by decide)) T.U (T.gC 18 (by decide)) hr (pv 1)))) pss_nil)
    (pss_cons (ps_if (pt_cmpR op_eq (pv 0) pe_int (nomark _)) (pss_one (ps_raise rfl (takes_of rfl rfl rfl rfl) (pmk_errK (T.tC 19 (by decide)) T.U (T.gC 19 (by decide)) hr (pv 1)))) pss_nil)
    (pss_cons (ps_if (pt_cmpR op_eq (pv 0) pe_int (nomark _)) (pss_one (ps_raise rfl (takes_of rfl rfl rfl rfl) (pmk_errK (T.tC 20 (by decide)) T.U (T.gC 20 (by decide)) hr (pv 1)))) pss_nil)
    (pss_one (ps_raise rfl (takes_of rfl rfl rfl rfl) (pmk_errK (T.tC 21 (by decide)) T.U (T.gC 21 (by decide)) hr (pv 1)))))))))))))), ?_⟩
  rcases (by omega : i = 11 ∨ i = 12 ∨ i = 13 ∨ i = 14 ∨ i = 15 ∨ i = 16 ∨ i = 17 ∨ i = 18 ∨ i = 19 ∨ i = 20 ∨ i = 21) with rfl | rfl | rfl | rfl | rfl | rfl | rfl | rfl | rfl | rfl | rfl
  · exact ⟨_, rfl, rfl, _, rfl, iteP rfl ⟨_, rfl, fun d hd => k d hd⟩⟩
  · exact ⟨_, rfl, rfl, _, rfl, iteN (by decide) ⟨_, rfl, rfl, _, rfl, iteP rfl ⟨_, rfl, fun d hd => k d hd⟩⟩⟩
  · exact ⟨_, rfl, rfl, _, rfl, iteN (by decide) ⟨_, rfl, rfl, _, rfl, iteN (by decide) ⟨_, rfl, rfl, _, rfl, iteP rfl ⟨_, rfl, fun d hd => k d hd⟩⟩⟩⟩
  · exact ⟨_, rfl, rfl, _, rfl, iteN (by decide) ⟨_, rfl, rfl, _, rfl, iteN (by decide) ⟨_, rfl, rfl, _, rfl, iteN (by decide) ⟨_, rfl, rfl, _, rfl, iteP rfl ⟨_, rfl, fun d hd => k d hd⟩⟩⟩⟩⟩
  · exact ⟨_, rfl, rfl, _, rfl, iteN (by decide) ⟨_, rfl, rfl, _, rfl, iteN (by decide) ⟨_, rfl, rfl, _, rfl, iteN (by decide) ⟨_, rfl, rfl, _, rfl, iteN (by decide) ⟨_, rfl, rfl, _, rfl, iteP rfl ⟨_, rfl, fun d hd => k d hd⟩⟩⟩⟩⟩⟩
  · exact ⟨_, rfl, rfl, _, rfl, iteN (by decide) ⟨_, rfl, rfl, _, rfl, iteN (by decide) ⟨_, rfl, rfl, _, rfl, iteN (by decide) ⟨_, rfl, rfl, _, rfl, iteN (by decide) ⟨_, rfl, rfl, _, rfl, iteN (by decide) ⟨_, rfl, rfl, _, rfl, iteP rfl ⟨_, rfl, fun d hd => k d hd⟩⟩⟩⟩⟩⟩⟩
  · exact ⟨_, rfl, rfl, _, rfl, iteN (by decide) ⟨_, rfl, rfl, _, rfl, iteN (by decide) ⟨_, rfl, rfl, _, rfl, iteN (by decide) ⟨_, rfl, rfl, _, rfl, iteN (by decide) ⟨_, rfl, rfl, _, rfl, iteN (by decide) ⟨_, rfl, rfl, _, rfl, iteN (by decide) ⟨_, rfl, rfl, _, rfl, iteP rfl ⟨_, rfl, fun d hd => k d hd⟩⟩⟩⟩⟩⟩⟩⟩
  · exact ⟨_, rfl, rfl, _, rfl, iteN (by decide) ⟨_, rfl, rfl, _, rfl, iteN (by decide) ⟨_, rfl, rfl, _, rfl, iteN (by decide) ⟨_, rfl, rfl, _, rfl, iteN (by decide) ⟨_, rfl, rfl, _, rfl, iteN (by decide) ⟨_, rfl, rfl, _, rfl, iteN (by decide) ⟨_, rfl, rfl, _, rfl, iteN (by decide) ⟨_, rfl, rfl, _, rfl, iteP rfl ⟨_, rfl, fun d hd => k d hd⟩⟩⟩⟩⟩⟩⟩⟩⟩
  · exact ⟨_, rfl, rfl, _, rfl, iteN (by decide) ⟨_, rfl, rfl, _, rfl, iteN (by decide) ⟨_, rfl, rfl, _, rfl, iteN (by decide) ⟨_, rfl, rfl, _, rfl, iteN (by decide) ⟨_, rfl, rfl, _, rfl, iteN (by decide) ⟨_, rfl, rfl, _, rfl, iteN (by decide) ⟨_, rfl, rfl, _, rfl, iteN (by decide) ⟨_, rfl, rfl, _, rfl, iteN (by decide) ⟨_, rfl, rfl, _, rfl, iteP rfl ⟨_, rfl, fun d hd => k d hd⟩⟩⟩⟩⟩⟩⟩⟩⟩⟩
  · exact ⟨_, rfl, rfl, _, rfl, iteN (by decide) ⟨_, rfl, rfl, _, rfl, iteN (by decide) ⟨_, rfl, rfl, _, rfl, iteN (by decide) ⟨_, rfl, rfl, _, rfl, iteN (by decide) ⟨_, rfl, rfl, _, rfl, iteN (by decide) ⟨_, rfl, rfl, _, rfl, iteN (by decide) ⟨_, rfl, rfl, _, rfl, iteN (by decide) ⟨_, rfl, rfl, _, rfl, iteN (by decide) ⟨_, rfl, rfl, _, rfl, iteN (by decide) ⟨_, rfl, rfl, _, rfl, iteP rfl ⟨_, rfl, fun d hd => k d hd⟩⟩⟩⟩⟩⟩⟩⟩⟩⟩⟩
  · exact ⟨_, rfl, rfl, _, rfl, iteN (by decide) ⟨_, rfl, rfl, _, rfl, iteN (by decide) ⟨_, rfl, rfl, _, rfl, iteN (by decide) ⟨_, rfl, rfl, _, rfl, iteN (by decide) ⟨_, rfl, rfl, _, rfl, iteN (by decide) ⟨_, rfl, rfl, _, rfl, iteN (by decide) ⟨_, rfl, rfl, _, rfl, iteN (by decide) ⟨_, rfl, rfl, _, rfl, iteN (by decide) ⟨_, rfl, rfl, _, rfl, iteN (by decide) ⟨_, rfl, rfl, _, rfl, iteN (by decide) ⟨_, rfl, fun d hd => k d hd⟩⟩⟩⟩⟩⟩⟩⟩⟩⟩⟩
theorem sc_raised : FnScope ["which", "given", "named"] ["which", "given", "named"] (defScope sRaised) := ⟨rfl, rfl, rfl, by decide +kernel, rfl, by decide +kernel, by decide +kernel⟩
/-- a def that stands in the text, as it is called -/
structure Dn (P : Program) (w : World) (K : PySem.W.Frag) (mg : Str → Option Value) (base : Heap) (CX : CXT) (k : Nat) (x : Str) (ps : List Str) (sp : Sp) : Prop where
  ex : ∃ (f : Addr) (fd : FuncData), FnOk P w K mg base CX k f fd ps sp ∧ mg x = some (.ref f) ∧ PySem.W.keepIn K (.ref f) = true ∧ Binds K fd ps []
theorem ok_raised {f : Addr} {fd : FuncData} (F : Fun K "_law_raised" "_law_raised" sRaised f fd) (T : Txt K mg c B fI) (D1 : Dn P w K mg base (L2.CX P w) 3 "_law_raise_first" ["which", "given"] (spRaise c 0 11)) (D2 : Dn P w K mg base (L2.CX P w) 3 "_law_raise_second" ["which", "given"] (spRaise c 11 22))
    (D3 : Dn P w K mg base (L2.CX P w) 3 "_law_raise_named_first" ["which", "given"] (spRaise c 0 11)) (D4 : Dn P w K mg base (L2.CX P w) 3 "_law_raise_named_second" ["which", "given"] (spRaise c 11 22)) : FnOk P w K mg base (L2.CX P w) 4 f fd ["which", "given", "named"] (spRaised c) := by
  obtain ⟨f1, fd1, G1, m1, k1, b1⟩ := D1.ex
  obtain ⟨f2, fd2, G2, m2, k2, b2⟩ := D2.ex
  obtain ⟨f3, fd3, G3, m3, k3, b3⟩ := D3.ex
  obtain ⟨f4, fd4, G4, m4, k4, b4⟩ := D4.ex
  refine F.okX sc_raised (fun vs H Q E h => ?_) (fun cdv A outer s H vs Q E hr h => ?_)
  · obtain ⟨i, x, nm, rfl, _⟩ := h
    rfl
  obtain ⟨i, x, nm, rfl, h1, k⟩ := h
  refine ⟨_, pss_one (ps_if (PW.pt (by exact (pw_and (pt_cmpR op_lt (pv 0) pe_int (nomark _)) (pw_and1 (pt_val (pv 2))))))
    (pss_one (ps_expr (pe_callS (E := WE fun cls d _ H => E cls d H) G3 hr rfl m3 k3 b3 (fun σ => passAt (takes_of rfl rfl rfl rfl) σ) (pa_cons (pv 0) (pa_cons (pv 1) pa_nil)))))
    (pss_one (ps_if (pt_cmpR op_lt (pv 0) pe_int (nomark _)) (pss_one (ps_expr (pe_callS (E := WE fun cls d _ H => E cls d H) G1 hr rfl m1 k1 b1 (fun σ => passAt (takes_of rfl rfl rfl rfl) σ) (pa_cons (pv 0) (pa_cons (pv 1) pa_nil)))))
      (pss_one (ps_if (pt_val (pv 2)) (pss_one (ps_expr (pe_callS (E := WE fun cls d _ H => E cls d H) G4 hr rfl m4 k4 b4 (fun σ => passAt (takes_of rfl rfl rfl rfl) σ) (pa_cons (pv 0) (pa_cons (pv 1) pa_nil)))))
        (pss_one (ps_expr (pe_callS (E := WE fun cls d _ H => E cls d H) G2 hr rfl m2 k2 b2 (fun σ => passAt (takes_of rfl rfl rfl rfl) σ) (pa_cons (pv 0) (pa_cons (pv 1) pa_nil)))))))))), ?_⟩
  by_cases c1 : (i : Int) < 11
  · cases nm with
    | true => exact ⟨_, rfl, _, _, rfl, rfl, _, rfl, iteP c1 ⟨_, rfl, _, rfl, iteT ⟨_, rfl, _, rfl, i, x, rfl, Nat.zero_le _, by omega, fun d hd => k d hd⟩⟩⟩
    | false => exact ⟨_, rfl, _, _, rfl, rfl, _, rfl, iteP c1 ⟨_, rfl, _, rfl, iteF ⟨_, rfl, _, _, rfl, rfl, _, rfl, iteP c1 ⟨_, rfl, _, rfl, i, x, rfl, Nat.zero_le _, by omega, fun d hd => k d hd⟩⟩⟩⟩
  · cases nm with
    | true => exact ⟨_, rfl, _, _, rfl, rfl, _, rfl, iteN c1 (iteF ⟨_, rfl, _, _, rfl, rfl, _, rfl, iteN c1 ⟨_, rfl, _, rfl, iteT ⟨_, rfl, _, rfl, i, x, rfl, by omega, h1, fun d hd => k d hd⟩⟩⟩)⟩
    | false => exact ⟨_, rfl, _, _, rfl, rfl, _, rfl, iteN c1 (iteF ⟨_, rfl, _, _, rfl, rfl, _, rfl, iteN c1 ⟨_, rfl, _, rfl, iteF ⟨_, rfl, _, rfl, i, x, rfl, by omega, h1, fun d hd => k d hd⟩⟩⟩)⟩
end
end SB
namespace SB
open PySem L2
abbrev sGiven : Stmt := topI 34
/-- of which classes a tracked error is -/
def spKinds (K : PySem.W.Frag) (c : Nat → Addr) (fI : Addr) : Sp := fun vs H Q _ => ∃ (a D dd : Addr) (v : V) (bs : Nat → Bool), vs = [.ref a] ∧ H a = some (exk (.ref D) (some dd) a) ∧ H dd = some (valD v) ∧ ErrTxt K D fI ∧ (∀ j, j < 22 → PySem.W.kitOne K (.ref D) (.ref (c j)) = some (bs j)) ∧
  ∀ p H', Same H H' → H' p = some (.lst ((List.range 22).map fun j => V.bl (bs j))) → Q (.ref p) H'
section
variable {P : Program} {w : World} {K : PySem.W.Frag} {mg : Str → Option Value} {base : Heap} {c : Nat → Addr} {B fI : Addr}
theorem sc_kinds : FnScope ["e", "found"] ["e"] (defScope sKinds) := ⟨rfl, rfl, rfl, by decide +kernel, rfl, by decide +kernel, by decide +kernel⟩
theorem szL (n : Nat) (h : n ≤ 64) : n ≤ sizeLine := Nat.le_trans h (by decide)
theorem ok_kinds {f : Addr} {fd : FuncData} (F : Fun K "_law_kinds" "_law_kinds" sKinds f fd) (T : Txt K mg c B fI) : FnOk P w K mg base CX0 1 f fd ["e"] (spKinds K c fI) := by
  refine F.ok sc_kinds (fun vs H Q E h => ?_) (fun cdv A outer s H vs Q E hr h => ?_)
  · obtain ⟨a, D, dd, v, bs, rfl, _⟩ := h
    rfl
  obtain ⟨a, D, dd, v, bs, rfl, ea, ed, TD, hb, q⟩ := h
  refine ⟨_, pss_cons (ps_set (i := 1) sc_kinds.nd rfl (.inl rfl) (pe_lst (pa_cons (pe_callB (call_isX (fI := fI)) rfl T.b.isi PyProof.Rows.boot_isinstance (pa_cons (pv 0) (pa_cons (pe_glob (v := .ref (c 0)) rfl (T.gC 0 (by decide)) rfl) pa_nil))) (pa_cons (pe_callB (call_isX (fI := fI)) rfl T.b.isi PyProof.Rows.boot_isinstance (pa_cons (pv 0) (pa_cons (pe_glob (v := .ref (c 1)) rfl (T.gC 1 (by decide)) rfl) pa_nil))) (pa_cons (pe_callB (call_isX (fI := fI)) rfl T.b.isi PyProof.Rows.boot_isinstance (pa_cons (pv 0) (pa_cons (pe_glob (v := .ref (c 2)) rfl (T.gC 2 (by decide)) rfl) pa_nil))) pa_nil)))))
    (pss_cons (ps_set (i := 1) sc_kinds.nd rfl (.inl rfl) (pe_op op_cat (pv 1) (pe_lst (pa_cons (pe_callB (call_isX (fI := fI)) rfl T.b.isi PyProof.Rows.boot_isinstance (pa_cons (pv 0) (pa_cons (pe_glob (v := .ref (c 3)) rfl (T.gC 3 (by decide)) rfl) pa_nil))) (pa_cons (pe_callB (call_isX (fI := fI)) rfl T.b.isi PyProof.Rows.boot_isinstance (pa_cons (pv 0) (pa_cons (pe_glob (v := .ref (c 4)) rfl (T.gC 4 (by decide)) rfl) pa_nil))) (pa_cons (pe_callB (call_isX (fI := fI)) rfl T.b.isi PyProof.Rows.boot_isinstance (pa_cons (pv 0) (pa_cons (pe_glob (v := .ref (c 5)) rfl (T.gC 5 (by decide)) rfl) pa_nil))) pa_nil))))))
    (pss_cons (ps_set (i := 1) sc_kinds.nd rfl (.inl rfl) (pe_op op_cat (pv 1) (pe_lst (pa_cons (pe_callB (call_isX (fI := fI)) rfl T.b.isi PyProof.Rows.boot_isinstance (pa_cons (pv 0) (pa_cons (pe_glob (v := .ref (c 6)) rfl (T.gC 6 (by decide)) rfl) pa_nil))) (pa_cons (pe_callB (call_isX (fI := fI)) rfl T.b.isi PyProof.Rows.boot_isinstance (pa_cons (pv 0) (pa_cons (pe_glob (v := .ref (c 7)) rfl (T.gC 7 (by decide)) rfl) pa_nil))) (pa_cons (pe_callB (call_isX (fI := fI)) rfl T.b.isi PyProof.Rows.boot_isinstance (pa_cons (pv 0) (pa_cons (pe_glob (v := .ref (c 8)) rfl (T.gC 8 (by decide)) rfl) pa_nil))) pa_nil))))))
    (pss_cons (ps_set (i := 1) sc_kinds.nd rfl (.inl rfl) (pe_op op_cat (pv 1) (pe_lst (pa_cons (pe_callB (call_isX (fI := fI)) rfl T.b.isi PyProof.Rows.boot_isinstance (pa_cons (pv 0) (pa_cons (pe_glob (v := .ref (c 9)) rfl (T.gC 9 (by decide)) rfl) pa_nil))) (pa_cons (pe_callB (call_isX (fI := fI)) rfl T.b.isi PyProof.Rows.boot_isinstance (pa_cons (pv 0) (pa_cons (pe_glob (v := .ref (c 10)) rfl (T.gC 10 (by decide)) rfl) pa_nil))) (pa_cons (pe_callB (call_isX (fI := fI)) rfl T.b.isi PyProof.Rows.boot_isinstance (pa_cons (pv 0) (pa_cons (pe_glob (v := .ref (c 11)) rfl (T.gC 11 (by decide)) rfl) pa_nil))) pa_nil))))))
    (pss_cons (ps_set (i := 1) sc_kinds.nd rfl (.inl rfl) (pe_op op_cat (pv 1) (pe_lst (pa_cons (pe_callB (call_isX (fI := fI)) rfl T.b.isi PyProof.Rows.boot_isinstance (pa_cons (pv 0) (pa_cons (pe_glob (v := .ref (c 12)) rfl (T.gC 12 (by decide)) rfl) pa_nil))) (pa_cons (pe_callB (call_isX (fI := fI)) rfl T.b.isi PyProof.Rows.boot_isinstance (pa_cons (pv 0) (pa_cons (pe_glob (v := .ref (c 13)) rfl (T.gC 13 (by decide)) rfl) pa_nil))) (pa_cons (pe_callB (call_isX (fI := fI)) rfl T.b.isi PyProof.Rows.boot_isinstance (pa_cons (pv 0) (pa_cons (pe_glob (v := .ref (c 14)) rfl (T.gC 14 (by decide)) rfl) pa_nil))) pa_nil))))))
    (pss_cons (ps_set (i := 1) sc_kinds.nd rfl (.inl rfl) (pe_op op_cat (pv 1) (pe_lst (pa_cons (pe_callB (call_isX (fI := fI)) rfl T.b.isi PyProof.Rows.boot_isinstance (pa_cons (pv 0) (pa_cons (pe_glob (v := .ref (c 15)) rfl (T.gC 15 (by decide)) rfl) pa_nil))) (pa_cons (pe_callB (call_isX (fI := fI)) rfl T.b.isi PyProof.Rows.boot_isinstance (pa_cons (pv 0) (pa_cons (pe_glob (v := .ref (c 16)) rfl (T.gC 16 (by decide)) rfl) pa_nil))) (pa_cons (pe_callB (call_isX (fI := fI)) rfl T.b.isi PyProof.Rows.boot_isinstance (pa_cons (pv 0) (pa_cons (pe_glob (v := .ref (c 17)) rfl (T.gC 17 (by decide)) rfl) pa_nil))) pa_nil))))))
    (pss_cons (ps_set (i := 1) sc_kinds.nd rfl (.inl rfl) (pe_op op_cat (pv 1) (pe_lst (pa_cons (pe_callB (call_isX (fI := fI)) rfl T.b.isi PyProof.Rows.boot_isinstance (pa_cons (pv 0) (pa_cons (pe_glob (v := .ref (c 18)) rfl (T.gC 18 (by decide)) rfl) pa_nil))) (pa_cons (pe_callB (call_isX (fI := fI)) rfl T.b.isi PyProof.Rows.boot_isinstance (pa_cons (pv 0) (pa_cons (pe_glob (v := .ref (c 19)) rfl (T.gC 19 (by decide)) rfl) pa_nil))) (pa_cons (pe_callB (call_isX (fI := fI)) rfl T.b.isi PyProof.Rows.boot_isinstance (pa_cons (pv 0) (pa_cons (pe_glob (v := .ref (c 20)) rfl (T.gC 20 (by decide)) rfl) pa_nil))) pa_nil))))))
    (pss_one (ps_ret (pe_op op_cat (pv 1) (pe_lst (pa_cons (pe_callB (call_isX (fI := fI)) rfl T.b.isi PyProof.Rows.boot_isinstance (pa_cons (pv 0) (pa_cons (pe_glob (v := .ref (c 21)) rfl (T.gC 21 (by decide)) rfl) pa_nil))) pa_nil))))))))))), ?_⟩
  refine ⟨_, rfl, _, _, _, _, _, _, _, rfl, .own _, ea, ed, TD, T.U, hb 0 (by decide), _, rfl, _, _, _, _, _, _, _, rfl, .own _, ea, ed, TD, T.U, hb 1 (by decide), _, rfl, _, _, _, _, _, _, _, rfl, .own _, ea, ed, TD, T.U, hb 2 (by decide), szL 3 (by decide), fun p0 n0 => ?_⟩
  have s0 : Same H (upd H p0 (.lst [.bl (bs 0), .bl (bs 1), .bl (bs 2)])) := new_same n0 _
  refine ⟨_, rfl, _, rfl, _, _, _, _, _, _, _, rfl, .own _, (s0 _ _ ea), (s0 _ _ ed), TD, T.U, hb 3 (by decide), _, rfl, _, _, _, _, _, _, _, rfl, .own _, (s0 _ _ ea), (s0 _ _ ed), TD, T.U, hb 4 (by decide), _, rfl, _, _, _, _, _, _, _, rfl, .own _, (s0 _ _ ea), (s0 _ _ ed), TD, T.U, hb 5 (by decide), szL 3 (by decide), fun t1 m1 => ?_⟩
  have r1 := new_same m1 (HO.lst [.bl (bs 3), .bl (bs 4), .bl (bs 5)])
  refine ⟨_, _, _, _, rfl, rfl, r1 _ _ upd_same, upd_same, szL 6 (by decide), fun p1 n1 => ?_⟩
  have s1 := (s0.trans r1).trans (new_same n1 (HO.lst [.bl (bs 0), .bl (bs 1), .bl (bs 2), .bl (bs 3), .bl (bs 4), .bl (bs 5)]))
  refine ⟨_, rfl, _, rfl, _, _, _, _, _, _, _, rfl, .own _, (s1 _ _ ea), (s1 _ _ ed), TD, T.U, hb 6 (by decide), _, rfl, _, _, _, _, _, _, _, rfl, .own _, (s1 _ _ ea), (s1 _ _ ed), TD, T.U, hb 7 (by decide), _, rfl, _, _, _, _, _, _, _, rfl, .own _, (s1 _ _ ea), (s1 _ _ ed), TD, T.U, hb 8 (by decide), szL 3 (by decide), fun t2 m2 => ?_⟩
  have r2 := new_same m2 (HO.lst [.bl (bs 6), .bl (bs 7), .bl (bs 8)])
  refine ⟨_, _, _, _, rfl, rfl, r2 _ _ upd_same, upd_same, szL 9 (by decide), fun p2 n2 => ?_⟩
  have s2 := (s1.trans r2).trans (new_same n2 (HO.lst [.bl (bs 0), .bl (bs 1), .bl (bs 2), .bl (bs 3), .bl (bs 4), .bl (bs 5), .bl (bs 6), .bl (bs 7), .bl (bs 8)]))
  refine ⟨_, rfl, _, rfl, _, _, _, _, _, _, _, rfl, .own _, (s2 _ _ ea), (s2 _ _ ed), TD, T.U, hb 9 (by decide), _, rfl, _, _, _, _, _, _, _, rfl, .own _, (s2 _ _ ea), (s2 _ _ ed), TD, T.U, hb 10 (by decide), _, rfl, _, _, _, _, _, _, _, rfl, .own _, (s2 _ _ ea), (s2 _ _ ed), TD, T.U, hb 11 (by decide), szL 3 (by decide), fun t3 m3 => ?_⟩
  have r3 := new_same m3 (HO.lst [.bl (bs 9), .bl (bs 10), .bl (bs 11)])
  refine ⟨_, _, _, _, rfl, rfl, r3 _ _ upd_same, upd_same, szL 12 (by decide), fun p3 n3 => ?_⟩
  have s3 := (s2.trans r3).trans (new_same n3 (HO.lst [.bl (bs 0), .bl (bs 1), .bl (bs 2), .bl (bs 3), .bl (bs 4), .bl (bs 5), .bl (bs 6), .bl (bs 7), .bl (bs 8), .bl (bs 9), .bl (bs 10), .bl (bs 11)]))
  refine ⟨_, rfl, _, rfl, _, _, _, _, _, _, _, rfl, .own _, (s3 _ _ ea), (s3 _ _ ed), TD, T.U, hb 12 (by decide), _, rfl, _, _, _, _, _, _, _, rfl, .own _, (s3 _ _ ea), (s3 _ _ ed), TD, T.U, hb 13 (by decide), _, rfl, _, _, _, _, _, _, _, rfl, .own _, (s3 _ _ ea), (s3 _ _ ed), TD, T.U, hb 14 (by decide), szL 3 (by decide), fun t4 m4 => ?_⟩
  have r4 := new_same m4 (HO.lst [.bl (bs 12), .bl (bs 13), .bl (bs 14)])
  refine ⟨_, _, _, _, rfl, rfl, r4 _ _ upd_same, upd_same, szL 15 (by decide), fun p4 n4 => ?_⟩
  have s4 := (s3.trans r4).trans (new_same n4 (HO.lst [.bl (bs 0), .bl (bs 1), .bl (bs 2), .bl (bs 3), .bl (bs 4), .bl (bs 5), .bl (bs 6), .bl (bs 7), .bl (bs 8), .bl (bs 9), .bl (bs 10), .bl (bs 11), .bl (bs 12), .bl (bs 13), .bl (bs 14)]))
  refine ⟨_, rfl, _, rfl, _, _, _, _, _, _, _, rfl, .own _, (s4 _ _ ea), (s4 _ _ ed), TD, T.U, hb 15 (by decide), _, rfl, _, _, _, _, _, _, _, rfl, .own _, (s4 _ _ ea), (s4 _ _ ed), TD, T.U, hb 16 (by decide), _, rfl, _, _, _, _, _, _, _, rfl, .own _, (s4 _ _ ea), (s4 _ _ ed), TD, T.U, hb 17 (by decide), szL 3 (by decide), fun t5 m5 => ?_⟩
  have r5 := new_same m5 (HO.lst [.bl (bs 15), .bl (bs 16), .bl (bs 17)])
  refine ⟨_, _, _, _, rfl, rfl, r5 _ _ upd_same, upd_same, szL 18 (by decide), fun p5 n5 => ?_⟩
  have s5 := (s4.trans r5).trans (new_same n5 (HO.lst [.bl (bs 0), .bl (bs 1), .bl (bs 2), .bl (bs 3), .bl (bs 4), .bl (bs 5), .bl (bs 6), .bl (bs 7), .bl (bs 8), .bl (bs 9), .bl (bs 10), .bl (bs 11), .bl (bs 12), .bl (bs 13), .bl (bs 14), .bl (bs 15), .bl (bs 16), .bl (bs 17)]))
  refine ⟨_, rfl, _, rfl, _, _, _, _, _, _, _, rfl, .own _, (s5 _ _ ea), (s5 _ _ ed), TD, T.U, hb 18 (by decide), _, rfl, _, _, _, _, _, _, _, rfl, .own _, (s5 _ _ ea), (s5 _ _ ed), TD, T.U, hb 19 (by decide), _, rfl, _, _, _, _, _, _, _, rfl, .own _, (s5 _ _ ea), (s5 _ _ ed), TD, T.U, hb 20 (by decide), szL 3 (by decide), fun t6 m6 => ?_⟩
  have r6 := new_same m6 (HO.lst [.bl (bs 18), .bl (bs 19), .bl (bs 20)])
  refine ⟨_, _, _, _, rfl, rfl, r6 _ _ upd_same, upd_same, szL 21 (by decide), fun p6 n6 => ?_⟩
  have s6 := (s5.trans r6).trans (new_same n6 (HO.lst [.bl (bs 0), .bl (bs 1), .bl (bs 2), .bl (bs 3), .bl (bs 4), .bl (bs 5), .bl (bs 6), .bl (bs 7), .bl (bs 8), .bl (bs 9), .bl (bs 10), .bl (bs 11), .bl (bs 12), .bl (bs 13), .bl (bs 14), .bl (bs 15), .bl (bs 16), .bl (bs 17), .bl (bs 18), .bl (bs 19), .bl (bs 20)]))
  refine ⟨_, rfl, _, rfl, _, _, _, _, _, _, _, rfl, .own _, (s6 _ _ ea), (s6 _ _ ed), TD, T.U, hb 21 (by decide), szL 1 (by decide), fun t7 m7 => ?_⟩
  have r7 := new_same m7 (HO.lst [.bl (bs 21)])
  refine ⟨_, _, _, _, rfl, rfl, r7 _ _ upd_same, upd_same, szL 22 (by decide), fun p7 n7 => ?_⟩
  have s7 := (s6.trans r7).trans (new_same n7 (HO.lst [.bl (bs 0), .bl (bs 1), .bl (bs 2), .bl (bs 3), .bl (bs 4), .bl (bs 5), .bl (bs 6), .bl (bs 7), .bl (bs 8), .bl (bs 9), .bl (bs 10), .bl (bs 11), .bl (bs 12), .bl (bs 13), .bl (bs 14), .bl (bs 15), .bl (bs 16), .bl (bs 17), .bl (bs 18), .bl (bs 19), .bl (bs 20), .bl (bs 21)]))
  exact q _ _ s7 (by rw [upd_same]; rfl)
/-- a deck as it may stand at d -/
def DeckAt (H : Hp) (d : Addr) : Prop := ∃ a b : Int, H d = some (.lst [.int a, .int b]) ∧ 0 ≤ b ∧ b < 2 ^ 64
/-- all that was tracked but d is as it was -/
def But (d : Addr) (H H' : Hp) : Prop := ∀ b o, b ≠ d → H b = some o → H' b = some o
/-- some value, its data in H' -/
def spGiven (K : PySem.W.Frag) : Sp := fun vs H Q _ => ∃ d : Addr, vs = [.ref d] ∧ DeckAt H d ∧ ∀ x H', But d H H' → DeckAt H' d → (∀ H'', But d H' H'' → Alike K H'' 4 x x) → Q x H'
theorem But.refl (d : Addr) (H : Hp) : But d H H := fun _ _ _ e => e
theorem But.trans {d : Addr} {H H1 H2 : Hp} (a : But d H H1) (b : But d H1 H2) : But d H H2 := fun x o n e => b x o n (a x o n e)
theorem But.new {d : Addr} {H H1 : Hp} {p : Addr} (a : But d H H1) (h : H1 p = none) (o : HO) : But d H (upd H1 p o) := fun x u n e => new_same h o _ _ (a x u n e)
theorem But.deck {d : Addr} {H H1 : Hp} (a : But d H H1) (o : HO) : But d H (upd H1 d o) := fun x u n e => by rw [upd_ne n]; exact a x u n e
theorem sc_given : FnScope ["deck", "far", "some"] ["deck"] (defScope sGiven) := ⟨rfl, rfl, rfl, by decide +kernel, rfl, by decide +kernel, by decide +kernel⟩
theorem al_sc {H : Hp} {n : Nat} {x : V} (h : scB x = true) : Alike K H (n + 1) x x := .inl ⟨rfl, h⟩
theorem paired_self {F : V → V → Prop} : ∀ {xs : List V}, (∀ y ∈ xs, F y y) → Paired F xs xs
  | [], _ => .nil
  | x :: r, h => .cons (h x List.mem_cons_self) (paired_self fun y hy => h y (List.mem_cons_of_mem _ hy))
theorem al_tup {H : Hp} {n : Nat} {e : Addr} {xs : List V} (h : H e = some (.tup xs)) (hz : xs.length ≤ 64) (ha : ∀ y ∈ xs, Alike K H n y y) : Alike K H (n + 1) (.ref e) (.ref e) :=
  .inr ⟨e, e, xs, xs, rfl, rfl, szL _ hz, .inl ⟨.inl (.inl h), .inl (.inl h)⟩, paired_self ha⟩
theorem al_lst {H : Hp} {n : Nat} {e : Addr} {xs : List V} (h : H e = some (.lst xs)) (hz : xs.length ≤ 64) (ha : ∀ y ∈ xs, Alike K H n y y) : Alike K H (n + 1) (.ref e) (.ref e) :=
  .inr ⟨e, e, xs, xs, rfl, rfl, szL _ hz, .inr ⟨SqL.of h, SqL.of h⟩, paired_self ha⟩
theorem ok_given {f : Addr} {fd : FuncData} (F : Fun K "_law_given" "_law_given" sGiven f fd) (DT : Dn P w K mg base CX0 1 "_law_take" ["deck", "many"] spTake) : FnOk P w K mg base CX0 2 f fd ["deck"] (spGiven K) := by
  obtain ⟨f1, fd1, G1, m1, k1, b1⟩ := DT.ex
  refine F.ok sc_given (fun vs H Q E h => ?_) (fun cdv A outer s H vs Q E hr h => ?_)
  · obtain ⟨d, rfl, _⟩ := h
    rfl
  obtain ⟨d, rfl, ⟨a0, b0, hd, hb0, hb1⟩, q⟩ := h
  refine ⟨_, pss_cons (ps_set (i := 1) sc_given.nd rfl (.inl rfl) (pe_op op_sub (pe_call G1 hr rfl m1 k1 b1 .nil pass0 (pa_cons (pv 0) (pa_cons (pe_op op_pow pe_int pe_int) pa_nil))) (pe_op op_pow pe_int pe_int)))
    (pss_cons (ps_set (i := 2) sc_given.nd rfl (.inl rfl) (pe_lst (pa_cons (pv 1) (pa_cons (pe_call G1 hr rfl m1 k1 b1 .nil pass0 (pa_cons (pv 0) (pa_cons pe_int pa_nil))) (pa_cons pe_str (pa_cons pe_str (pa_cons pe_non (pa_cons pe_bl (pa_cons pe_bl (pa_cons (pe_tup pa_nil) (pa_cons (pe_tup (pa_cons (pv 1) (pa_cons pe_int pa_nil))) (pa_cons (pe_lst (pa_cons (pv 1) (pa_cons pe_str pa_nil))) (pa_cons (pe_tup (pa_cons (pe_tup (pa_cons pe_int (pa_cons pe_int pa_nil))) (pa_cons (pe_tup (pa_cons pe_str (pa_cons (pe_tup pa_nil) pa_nil))) pa_nil))) (pa_cons (pe_lst pa_nil) pa_nil))))))))))))))
    (pss_cons (ps_set (i := 2) sc_given.nd rfl (.inl rfl) (pe_op op_cat (pv 2) (pe_lst (pa_cons (pe_un un_neg pe_int) (pa_cons pe_int pa_nil)))))
    (pss_one (ps_ret (pe_ix ix_list (pv 2) (pe_call G1 hr rfl m1 k1 b1 .nil pass0 (pa_cons (pv 0) (pa_cons pe_int pa_nil))) (fun _ _ => rfl)))))), ?_⟩
  refine ⟨_, rfl, _, _, rfl, rfl, ⟨by decide, by decide, by decide⟩, d, a0, b0, _, rfl, hd, hb0, hb1, by decide +kernel, by decide +kernel, fun t1 a1 b1' _ _ h10 h11 => ?_⟩
  refine ⟨_, _, rfl, rfl, ⟨by decide, by decide, by decide⟩, _, _, rfl, rfl, ?_⟩
  obtain ⟨far, hfar⟩ : ∃ far : Int, far = t1 - 10 ^ (29 : Int).toNat := ⟨_, rfl⟩
  change gName 1 (V.int (t1 - 10 ^ (29 : Int).toNat)) _ _ _
  rw [← hfar]
  refine ⟨_, rfl, _, rfl, d, a1, b1', 9, rfl, upd_same, h10, h11, by decide, by decide +kernel, fun t2 a2 b2 _ _ h20 h21 => ?_⟩
  have c0 : But d H (upd (upd H d (.lst [.int a1, .int b1'])) d (.lst [.int a2, .int b2])) := ((But.refl d H).deck _).deck _
  have k0 : (upd (upd H d (.lst [.int a1, .int b1'])) d (.lst [.int a2, .int b2])) d = some (.lst [.int a2, .int b2]) := upd_same
  generalize upd (upd H d (.lst [.int a1, .int b1'])) d (.lst [.int a2, .int b2]) = H0 at c0 k0 ⊢
  refine ⟨szL 0 (by decide), fun e1 n1 => ?_⟩
  have g1 := new_same n1 (HO.tup [])
  have k1 := g1 _ _ k0
  have u1 : (upd H0 e1 (.tup [])) e1 = some (.tup []) := upd_same
  have x1 : e1 ≠ d := (ne_of_none k0 n1).symm
  have c1 := c0.new n1 (HO.tup [])
  generalize upd H0 e1 (.tup []) = H1 at g1 k1 u1 c1 ⊢
  refine ⟨_, rfl, szL 2 (by decide), fun e2 n2 => ?_⟩
  have g2 := new_same n2 (HO.tup [.int far, .int 1])
  have k2 := g2 _ _ k1
  have u2 : (upd H1 e2 (.tup [.int far, .int 1])) e2 = some (.tup [.int far, .int 1]) := upd_same
  have x2 : e2 ≠ d := (ne_of_none k1 n2).symm
  have c2 := c1.new n2 (HO.tup [.int far, .int 1])
  generalize upd H1 e2 (.tup [.int far, .int 1]) = H2 at g2 k2 u2 c2 ⊢
  refine ⟨_, rfl, szL 2 (by decide), fun e3 n3 => ?_⟩
  have g3 := new_same n3 (HO.lst [.int far, .str "x"])
  have k3 := g3 _ _ k2
  have u3 : (upd H2 e3 (.lst [.int far, .str "x"])) e3 = some (.lst [.int far, .str "x"]) := upd_same
  have x3 : e3 ≠ d := (ne_of_none k2 n3).symm
  have c3 := c2.new n3 (HO.lst [.int far, .str "x"])
  generalize upd H2 e3 (.lst [.int far, .str "x"]) = H3 at g3 k3 u3 c3 ⊢
  refine ⟨szL 2 (by decide), fun e4 n4 => ?_⟩
  have g4 := new_same n4 (HO.tup [.int 1, .int 2])
  have k4 := g4 _ _ k3
  have u4 : (upd H3 e4 (.tup [.int 1, .int 2])) e4 = some (.tup [.int 1, .int 2]) := upd_same
  have x4 : e4 ≠ d := (ne_of_none k3 n4).symm
  have c4 := c3.new n4 (HO.tup [.int 1, .int 2])
  generalize upd H3 e4 (.tup [.int 1, .int 2]) = H4 at g4 k4 u4 c4 ⊢
  refine ⟨szL 0 (by decide), fun e5 n5 => ?_⟩
  have g5 := new_same n5 (HO.tup [])
  have k5 := g5 _ _ k4
  have u5 : (upd H4 e5 (.tup [])) e5 = some (.tup []) := upd_same
  have x5 : e5 ≠ d := (ne_of_none k4 n5).symm
  have c5 := c4.new n5 (HO.tup [])
  generalize upd H4 e5 (.tup []) = H5 at g5 k5 u5 c5 ⊢
  refine ⟨szL 2 (by decide), fun e6 n6 => ?_⟩
  have g6 := new_same n6 (HO.tup [.str "a", .ref e5])
  have k6 := g6 _ _ k5
  have u6 : (upd H5 e6 (.tup [.str "a", .ref e5])) e6 = some (.tup [.str "a", .ref e5]) := upd_same
  have x6 : e6 ≠ d := (ne_of_none k5 n6).symm
  have c6 := c5.new n6 (HO.tup [.str "a", .ref e5])
  generalize upd H5 e6 (.tup [.str "a", .ref e5]) = H6 at g6 k6 u6 c6 ⊢
  refine ⟨szL 2 (by decide), fun e7 n7 => ?_⟩
  have g7 := new_same n7 (HO.tup [.ref e4, .ref e6])
  have k7 := g7 _ _ k6
  have u7 : (upd H6 e7 (.tup [.ref e4, .ref e6])) e7 = some (.tup [.ref e4, .ref e6]) := upd_same
  have x7 : e7 ≠ d := (ne_of_none k6 n7).symm
  have c7 := c6.new n7 (HO.tup [.ref e4, .ref e6])
  generalize upd H6 e7 (.tup [.ref e4, .ref e6]) = H7 at g7 k7 u7 c7 ⊢
  refine ⟨szL 0 (by decide), fun e8 n8 => ?_⟩
  have g8 := new_same n8 (HO.lst [])
  have k8 := g8 _ _ k7
  have u8 : (upd H7 e8 (.lst [])) e8 = some (.lst []) := upd_same
  have x8 : e8 ≠ d := (ne_of_none k7 n8).symm
  have c8 := c7.new n8 (HO.lst [])
  generalize upd H7 e8 (.lst []) = H8 at g8 k8 u8 c8 ⊢
  refine ⟨szL 12 (by decide), fun e9 n9 => ?_⟩
  have g9 := new_same n9 (HO.lst [.int far, .int t2, .str "", .str "a b", .non, .bl true, .bl false, .ref e1, .ref e2, .ref e3, .ref e7, .ref e8])
  have k9 := g9 _ _ k8
  have u9 : (upd H8 e9 (.lst [.int far, .int t2, .str "", .str "a b", .non, .bl true, .bl false, .ref e1, .ref e2, .ref e3, .ref e7, .ref e8])) e9 = some (.lst [.int far, .int t2, .str "", .str "a b", .non, .bl true, .bl false, .ref e1, .ref e2, .ref e3, .ref e7, .ref e8]) := upd_same
  have x9 : e9 ≠ d := (ne_of_none k8 n9).symm
  have c9 := c8.new n9 (HO.lst [.int far, .int t2, .str "", .str "a b", .non, .bl true, .bl false, .ref e1, .ref e2, .ref e3, .ref e7, .ref e8])
  generalize upd H8 e9 (.lst [.int far, .int t2, .str "", .str "a b", .non, .bl true, .bl false, .ref e1, .ref e2, .ref e3, .ref e7, .ref e8]) = H9 at g9 k9 u9 c9 ⊢
  refine ⟨_, rfl, _, rfl, szL 2 (by decide), fun e10 n10 => ?_⟩
  have g10 := new_same n10 (HO.lst [.int (-1), .int 0])
  have k10 := g10 _ _ k9
  have u10 : (upd H9 e10 (.lst [.int (-1), .int 0])) e10 = some (.lst [.int (-1), .int 0]) := upd_same
  have x10 : e10 ≠ d := (ne_of_none k9 n10).symm
  have c10 := c9.new n10 (HO.lst [.int (-1), .int 0])
  generalize upd H9 e10 (.lst [.int (-1), .int 0]) = H10 at g10 k10 u10 c10 ⊢
  refine ⟨_, _, _, _, rfl, rfl, g10 _ _ u9, u10, szL 14 (by decide), fun e11 n11 => ?_⟩
  change _ = _ at n11
  have g11 := new_same n11 (HO.lst ([.int far, .int t2, .str "", .str "a b", .non, .bl true, .bl false, .ref e1, .ref e2, .ref e3, .ref e7, .ref e8] ++ [.int (-1), .int 0]))
  have k11 := g11 _ _ k10
  have u11 : (upd H10 e11 (.lst ([.int far, .int t2, .str "", .str "a b", .non, .bl true, .bl false, .ref e1, .ref e2, .ref e3, .ref e7, .ref e8] ++ [.int (-1), .int 0]))) e11 = some (.lst ([.int far, .int t2, .str "", .str "a b", .non, .bl true, .bl false, .ref e1, .ref e2, .ref e3, .ref e7, .ref e8] ++ [.int (-1), .int 0])) := upd_same
  have x11 : e11 ≠ d := (ne_of_none k10 n11).symm
  have c11 := c10.new n11 (HO.lst ([.int far, .int t2, .str "", .str "a b", .non, .bl true, .bl false, .ref e1, .ref e2, .ref e3, .ref e7, .ref e8] ++ [.int (-1), .int 0]))
  generalize upd H10 e11 (.lst ([.int far, .int t2, .str "", .str "a b", .non, .bl true, .bl false, .ref e1, .ref e2, .ref e3, .ref e7, .ref e8] ++ [.int (-1), .int 0])) = H11 at g11 k11 u11 c11 ⊢
  refine ⟨_, rfl, _, rfl, d, a2, b2, 14, rfl, k11, h20, h21, by decide, by decide +kernel, fun t a3 b3 t0 t14 h30 h31 => ?_⟩
  have cf := c11.deck (.lst [.int a3, .int b3])
  have kf : DeckAt (upd H11 d (.lst [.int a3, .int b3])) d := ⟨a3, b3, upd_same, h30, h31⟩
  have l1 : (upd H11 d (.lst [.int a3, .int b3])) e1 = _ := (upd_ne x1).trans (g11 _ _ (g10 _ _ (g9 _ _ (g8 _ _ (g7 _ _ (g6 _ _ (g5 _ _ (g4 _ _ (g3 _ _ (g2 _ _ u1))))))))))
  have l2 : (upd H11 d (.lst [.int a3, .int b3])) e2 = _ := (upd_ne x2).trans (g11 _ _ (g10 _ _ (g9 _ _ (g8 _ _ (g7 _ _ (g6 _ _ (g5 _ _ (g4 _ _ (g3 _ _ u2)))))))))
  have l3 : (upd H11 d (.lst [.int a3, .int b3])) e3 = _ := (upd_ne x3).trans (g11 _ _ (g10 _ _ (g9 _ _ (g8 _ _ (g7 _ _ (g6 _ _ (g5 _ _ (g4 _ _ u3))))))))
  have l4 : (upd H11 d (.lst [.int a3, .int b3])) e4 = _ := (upd_ne x4).trans (g11 _ _ (g10 _ _ (g9 _ _ (g8 _ _ (g7 _ _ (g6 _ _ (g5 _ _ u4)))))))
  have l5 : (upd H11 d (.lst [.int a3, .int b3])) e5 = _ := (upd_ne x5).trans (g11 _ _ (g10 _ _ (g9 _ _ (g8 _ _ (g7 _ _ (g6 _ _ u5))))))
  have l6 : (upd H11 d (.lst [.int a3, .int b3])) e6 = _ := (upd_ne x6).trans (g11 _ _ (g10 _ _ (g9 _ _ (g8 _ _ (g7 _ _ u6)))))
  have l7 : (upd H11 d (.lst [.int a3, .int b3])) e7 = _ := (upd_ne x7).trans (g11 _ _ (g10 _ _ (g9 _ _ (g8 _ _ u7))))
  have l8 : (upd H11 d (.lst [.int a3, .int b3])) e8 = _ := (upd_ne x8).trans (g11 _ _ (g10 _ _ (g9 _ _ u8)))
  have l9 : (upd H11 d (.lst [.int a3, .int b3])) e9 = _ := (upd_ne x9).trans (g11 _ _ (g10 _ _ u9))
  have l10 : (upd H11 d (.lst [.int a3, .int b3])) e10 = _ := (upd_ne x10).trans (g11 _ _ u10)
  have l11 : (upd H11 d (.lst [.int a3, .int b3])) e11 = _ := (upd_ne x11).trans u11
  generalize upd H11 d (.lst [.int a3, .int b3]) = Hf at cf kf l1 l2 l3 l4 l5 l6 l7 l8 l9 l10 l11 ⊢
  have w6 : ∀ Hg, But d Hf Hg → Alike K Hg 3 (.ref e6) (.ref e6) := fun Hg bg => al_tup (bg _ _ x6 l6) (Nat.le_of_ble_eq_true rfl) (fun y hy => by
    rcases List.mem_cons.mp hy with rfl | hy
    · exact al_sc rfl
    · rcases List.mem_cons.mp hy with rfl | hy
      · exact al_tup (bg _ _ x5 l5) (Nat.le_of_ble_eq_true rfl) (fun y hy => by cases hy)
      · cases hy)
  have w4 : ∀ Hg, But d Hf Hg → Alike K Hg 3 (.ref e4) (.ref e4) := fun Hg bg => al_tup (bg _ _ x4 l4) (Nat.le_of_ble_eq_true rfl) (fun y hy => by
    rcases List.mem_cons.mp hy with rfl | hy
    · exact al_sc rfl
    · rcases List.mem_cons.mp hy with rfl | hy
      · exact al_sc rfl
      · cases hy)
  rcases (by omega : t = 0 ∨ t = 1 ∨ t = 2 ∨ t = 3 ∨ t = 4 ∨ t = 5 ∨ t = 6 ∨ t = 7 ∨ t = 8 ∨ t = 9 ∨ t = 10 ∨ t = 11 ∨ t = 12 ∨ t = 13) with rfl | rfl | rfl | rfl | rfl | rfl | rfl | rfl | rfl | rfl | rfl | rfl | rfl | rfl
  · exact ⟨e11, _, _, _, rfl, rfl, SqL.of l11, rfl, q _ _ cf kf (fun Hg bg => al_sc rfl)⟩
  · exact ⟨e11, _, _, _, rfl, rfl, SqL.of l11, rfl, q _ _ cf kf (fun Hg bg => al_sc rfl)⟩
  · exact ⟨e11, _, _, _, rfl, rfl, SqL.of l11, rfl, q _ _ cf kf (fun Hg bg => al_sc rfl)⟩
  · exact ⟨e11, _, _, _, rfl, rfl, SqL.of l11, rfl, q _ _ cf kf (fun Hg bg => al_sc rfl)⟩
  · exact ⟨e11, _, _, _, rfl, rfl, SqL.of l11, rfl, q _ _ cf kf (fun Hg bg => al_sc rfl)⟩
  · exact ⟨e11, _, _, _, rfl, rfl, SqL.of l11, rfl, q _ _ cf kf (fun Hg bg => al_sc rfl)⟩
  · exact ⟨e11, _, _, _, rfl, rfl, SqL.of l11, rfl, q _ _ cf kf (fun Hg bg => al_sc rfl)⟩
  · exact ⟨e11, _, _, _, rfl, rfl, SqL.of l11, rfl, q _ _ cf kf (fun Hg bg => al_tup (bg _ _ x1 l1) (Nat.le_of_ble_eq_true rfl) (fun y hy => by cases hy))⟩
  · exact ⟨e11, _, _, _, rfl, rfl, SqL.of l11, rfl, q _ _ cf kf (fun Hg bg => al_tup (bg _ _ x2 l2) (Nat.le_of_ble_eq_true rfl) (fun y hy => by
      rcases List.mem_cons.mp hy with rfl | hy
      · exact al_sc rfl
      · rcases List.mem_cons.mp hy with rfl | hy
        · exact al_sc rfl
        · cases hy))⟩
  · exact ⟨e11, _, _, _, rfl, rfl, SqL.of l11, rfl, q _ _ cf kf (fun Hg bg => al_lst (bg _ _ x3 l3) (Nat.le_of_ble_eq_true rfl) (fun y hy => by
      rcases List.mem_cons.mp hy with rfl | hy
      · exact al_sc rfl
      · rcases List.mem_cons.mp hy with rfl | hy
        · exact al_sc rfl
        · cases hy))⟩
  · exact ⟨e11, _, _, _, rfl, rfl, SqL.of l11, rfl, q _ _ cf kf (fun Hg bg => al_tup (bg _ _ x7 l7) (Nat.le_of_ble_eq_true rfl) (fun y hy => by
      rcases List.mem_cons.mp hy with rfl | hy
      · exact w4 Hg bg
      · rcases List.mem_cons.mp hy with rfl | hy
        · exact w6 Hg bg
        · cases hy))⟩
  · exact ⟨e11, _, _, _, rfl, rfl, SqL.of l11, rfl, q _ _ cf kf (fun Hg bg => al_lst (bg _ _ x8 l8) (Nat.le_of_ble_eq_true rfl) (fun y hy => by cases hy))⟩
  · exact ⟨e11, _, _, _, rfl, rfl, SqL.of l11, rfl, q _ _ cf kf (fun Hg bg => al_sc rfl)⟩
  · exact ⟨e11, _, _, _, rfl, rfl, SqL.of l11, rfl, q _ _ cf kf (fun Hg bg => al_sc rfl)⟩
end
end SB
namespace SB
open PySem L2
abbrev sRight : Stmt := topI 35
abbrev sBase : Stmt := topI 36
theorem bootVE : bootBuiltins "ValueError" = some (.type "ValueError") := by decide +kernel
theorem iteB {b : Bool} {A B : Prop} (h : b = true) (a : A) : if b = true then A else B := by
  rw [if_pos h]
  exact a
theorem iteBn {b : Bool} {A B : Prop} (h : b = false) (a : B) : if b = true then A else B := by
  rw [h]
  exact iteF a
def spRight (K : PySem.W.Frag) : Sp := fun vs H Q _ => ∃ (i : Nat) (x : V) (nm : Bool), vs = [.int (i : Int), x, .bl nm] ∧ i < 22 ∧ Alike K H 4 x x ∧ ∀ H', Same H H' → Q (.bl true) H'
def spBase (K : PySem.W.Frag) : Sp := fun vs H Q _ => ∃ x : V, vs = [x] ∧ Alike K H 4 x x ∧ ∀ H', Same H H' → Q (.bl true) H'
theorem dpB {K : PySem.W.Frag} {H : Hp} (f : Nat → Bool) : ∀ l : List Nat, DpAll K H (l.map fun j => V.bl (f j)) (l.map fun j => .bool (f j))
  | [] => .nil
  | _ :: r => .cons (.bl _) (dpB f r)
theorem kindsShaped : ∀ i : _root_.Fin 22, SeqAt.shaped (.list ((List.range 22).map fun j => .bool (decide (j = i.val)))) = true := by decide +kernel
theorem kindsEqv : ∀ i : _root_.Fin 22, PyData.eqv (.list ((List.range 22).map fun j => .bool (decide (j = i.val)))) (.list ((List.range 22).map fun j => .bool (decide (j = i.val)))) = true := by decide +kernel
theorem intEq (j i : Nat) : decide (V.int ((0 : Int) + (j : Int)) = V.int (i : Int)) = decide (j = i) := by
  by_cases h : j = i
  · subst h
    rw [decide_eq_true rfl, decide_eq_true (by rw [Int.zero_add])]
  · rw [decide_eq_false h, decide_eq_false (fun z => h (by injection z with z; omega))]
section
variable {P : Program} {w : World} {K : PySem.W.Frag} {mg : Str → Option Value} {base : Heap} {c : Nat → Addr} {B fI : Addr}
theorem sc_right : FnScope ["which", "given", "named", "caught", "e", "k"] ["which", "given", "named"] (defScope sRight) := ⟨rfl, rfl, rfl, by decide +kernel, rfl, by decide +kernel, by decide +kernel⟩
theorem ok_right {f : Addr} {fd : FuncData} (F : Fun K "_law_right" "_law_right" sRight f fd) (T : Txt K mg c B fI) (DR : Dn P w K mg base (L2.CX P w) 4 "_law_raised" ["which", "given", "named"] (spRaised c)) (DK : Dn P w K mg base CX0 1 "_law_kinds" ["e"] (spKinds K c fI))
    (DS : Dn P w K mg base CX0 4 "_law_same" ["found", "due"] (spSame K 4)) : FnOk P w K mg base CX0 5 f fd ["which", "given", "named"] (spRight K) := by
  obtain ⟨fR, fdR, GR, mR, kR, bR⟩ := DR.ex
  obtain ⟨fK, fdK, GK, mK, kK, bK⟩ := DK.ex
  obtain ⟨fS, fdS, GS, mS, kS, bS⟩ := DS.ex
  refine F.ok sc_right (fun vs H Q E h => ?_) (fun cdv A outer s H vs Q E hr h => ?_)
  · obtain ⟨i, x, nm, rfl, _⟩ := h
    rfl
  obtain ⟨i, x, nm, rfl, hi, al, q⟩ := h
  have hr1 : Room 1 _ := hr.mono (by decide)
  refine ⟨_, pss_cons (ps_set (i := 3) sc_right.nd rfl (.inl rfl) pe_non)
    (pss_cons (ps_try_keep (i := 4) (j := 3) (tb := fun W => tDrop (tCallS (spRaised c) (WE W) (tCons (tVar 0) (tCons (tVar 1) (tCons (tVar 2) tNil))))) rfl rfl rfl sc_right.nd rfl rfl rfl rfl ⟨rfl, by decide, Or.inl T.gB⟩
      (fun W pn xe tk _ => pss_one (ps_expr (by exact (pe_callS GR hr rfl mR kR bR (fun σ => passAt tk σ) (by exact (pa_cons (pv 0) (pa_cons (pv 1) (pa_cons (pv 2) pa_nil)))))))))
    (pss_cons (ps_if (PW.pt (by exact (pw_or (pt_cmp (pc_isN (pv 3))) (pw_or1 (pt_not (pt_val (pe_callB (call_isX (fI := fI)) rfl T.b.isi PyProof.Rows.boot_isinstance (pa_cons (pv 3) (pa_cons (pe_bltn (v := .ty "ValueError") rfl T.gV bootVE rfl) pa_nil))))))))) (pss_one (ps_ret pe_bl)) pss_nil)
    (pss_one (ps_ret (pe_and (pe_cmpR (op_eqD hr.units) (pe_call GK hr1 rfl mK kK bK .nil pass0 (pa_cons (pv 3) pa_nil)) (pe_lc (own := [("k", 5)]) (g := gName 5) (tt := tYes) rfl sc_right.nd (pi_range1 rfl T.b.rng (pa_cons pe_int pa_nil)) (blkOk_by (N := ["which", "given", "named", "caught", "e", "k"]) (sc := defScope sRight) (by decide +kernel)) (fun _ _ _ _ _ => pg_name (i := 5) sc_right.nd rfl (Or.inl rfl)) (fun _ _ _ _ _ => pts_nil) (fun _ _ _ _ _ => pe_cmpR op_eq (pv 5) (pv 0) (nomark _))) (nomark _))
      (pe_one (pe_call GS hr rfl mS kS bS .nil pass0 (pa_cons (pe_errA (fI := fI) (pv 3)) (pa_cons (pv 1) pa_nil))))))))), ?_⟩
  refine ⟨_, rfl, _, rfl, _, rfl, i, x, nm, rfl, hi, fun d hd => ⟨T.exC i hi, fun a ha => ?_⟩⟩
  have g1 := new_same hd (valD x)
  have g2 := new_same ha (exk (.ref (c i)) (some d) a)
  have ed : (upd (upd H d (valD x)) a (exk (.ref (c i)) (some d) a)) d = some (valD x) := g2 _ _ upd_same
  have ea : (upd (upd H d (valD x)) a (exk (.ref (c i)) (some d) a)) a = some (exk (.ref (c i)) (some d) a) := upd_same
  have g3 := g1.trans g2
  refine ⟨_, rfl, _, rfl, iteN (fun z => nomatch z) ⟨_, rfl, _, _, _, _, _, _, _, rfl, .ty _, ea, ed, T.tC i hi, T.U, T.vC i hi, _, rfl, iteF ?_⟩⟩
  refine ⟨_, rfl, a, c i, d, x, fun j => decide (j = i), rfl, ea, ed, T.tC i hi, fun j hj => T.kk i j hi hj, fun p H3 s3 e3 => ?_⟩
  refine ⟨_, rfl, by decide, by decide, fun D hD => ?_⟩
  have g4 := new_same hD (HO.lst [])
  refine lc_range (lo := 0) (n := 22) (Pv := fun j H' => Same H3 H' ∧ H' D = some (.lst ((List.range j).map fun m => V.bl (decide (m = i))))) ⟨g4, upd_same⟩ (fun j H' hj hP => ?_) (fun H' hP => ?_)
  · obtain ⟨s5, e5⟩ := hP
    have nD : ∀ b o, H3 b = some o → b ≠ D := fun b o e => ne_of_none e hD
    refine ⟨rfl, ?_⟩
    unfold tYes
    dsimp only
    rw [if_pos rfl]
    refine ⟨_, rfl, _, rfl, rfl, _, e5, ?_, ?_, ?_⟩
    · rw [List.length_map, List.length_range]
      exact Nat.lt_of_lt_of_le hj (szL 22 (by decide))
    · intro b o e
      rw [upd_ne (nD b o e)]
      exact s5 b o e
    · rw [upd_same, intEq, List.range_succ, List.map_append]
      rfl
  · obtain ⟨s5, e5⟩ := hP
    refine ⟨_, _, .lst (SqL.of (s5 _ _ e3)) (dpB _ _), .lst (SqL.of e5) (dpB _ _), kindsShaped ⟨i, hi⟩, kindsShaped ⟨i, hi⟩, _, rfl, iteB (kindsEqv ⟨i, hi⟩) ?_⟩
    have g6 := s3.trans s5
    exact ⟨_, rfl, a, c i, d, x, rfl, g6 _ _ ea, g6 _ _ ed, T.tC i hi, _, rfl, x, x, rfl, Alike.same (g3.trans g6) al, fun H4 s6 => q H4 ((g3.trans g6).trans s6)⟩
theorem sc_base : FnScope ["given", "caught", "e"] ["given"] (defScope sBase) := ⟨rfl, rfl, rfl, by decide +kernel, rfl, by decide +kernel, by decide +kernel⟩
theorem ok_base {f : Addr} {fd : FuncData} (F : Fun K "_law_base_right" "_law_base_right" sBase f fd) (T : Txt K mg c B fI) (DK : Dn P w K mg base CX0 1 "_law_kinds" ["e"] (spKinds K c fI))
    (DS : Dn P w K mg base CX0 4 "_law_same" ["found", "due"] (spSame K 4)) : FnOk P w K mg base CX0 5 f fd ["given"] (spBase K) := by
  obtain ⟨fK, fdK, GK, mK, kK, bK⟩ := DK.ex
  obtain ⟨fS, fdS, GS, mS, kS, bS⟩ := DS.ex
  refine F.ok sc_base (fun vs H Q E h => ?_) (fun cdv A outer s H vs Q E hr h => ?_)
  · obtain ⟨x, rfl, _⟩ := h
    rfl
  obtain ⟨x, rfl, al, q⟩ := h
  have hr1 : Room 1 _ := hr.mono (by decide)
  refine ⟨_, pss_cons (ps_set (i := 1) sc_base.nd rfl (.inl rfl) pe_non)
    (pss_cons (ps_try_keep (i := 2) (j := 1) (tb := fun W _ σ H => tMkErr B (tVar 0) σ H fun cls d H' => W cls d σ H') rfl rfl rfl sc_base.nd rfl rfl rfl rfl ⟨rfl, by decide, Or.inl T.gB⟩
      (fun W pn xe tk _ => pss_one (ps_raise rfl tk (pmk_errK T.tB T.U T.gB hr (by exact (pv 0))))))
    (pss_cons (ps_if (PW.pt (by exact (pw_or (pt_not (pt_val (pe_callB (call_isX (fI := fI)) rfl T.b.isi PyProof.Rows.boot_isinstance (pa_cons (pv 1) (pa_cons (pe_bltn (v := .ty "ValueError") rfl T.gV bootVE rfl) pa_nil))))) (pw_or1 (pt_cmpR op_in_seq pe_bl (pe_call GK hr1 rfl mK kK bK .nil pass0 (pa_cons (pv 1) pa_nil)) rfl))))) (pss_one (ps_ret pe_bl)) pss_nil)
    (pss_one (ps_ret (pe_and (pe_call GS hr rfl mS kS bS .nil pass0 (pa_cons (pe_errA (fI := fI) (pv 1)) (pa_cons (pv 0) pa_nil)))
      (pe_one (pe_call GS hr rfl mS kS bS .nil pass0 (pa_cons (pe_errA (fI := fI) (pe_errV (pmk_err T.tB T.U T.gB hr (pv 0)))) (pa_cons (pv 0) pa_nil))))))))), ?_⟩
  refine ⟨_, rfl, fun d hd => ⟨T.exB, fun a ha => ?_⟩⟩
  have g1 := new_same hd (valD x)
  have g2 := new_same ha (exk (.ref B) (some d) a)
  have ed : (upd (upd H d (valD x)) a (exk (.ref B) (some d) a)) d = some (valD x) := g2 _ _ upd_same
  have ea : (upd (upd H d (valD x)) a (exk (.ref B) (some d) a)) a = some (exk (.ref B) (some d) a) := upd_same
  have g3 := g1.trans g2
  refine ⟨_, rfl, _, _, _, _, _, _, _, rfl, .ty _, ea, ed, T.tB, T.U, T.vB, _, rfl, iteF ?_⟩
  refine ⟨_, rfl, a, B, d, x, fun _ => false, rfl, ea, ed, T.tB, T.kB, fun p H3 s3 e3 => ?_⟩
  refine ⟨p, _, rfl, .inl (SqL.of e3), rfl, by decide, _, rfl, iteBn (by decide) ?_⟩
  refine ⟨_, rfl, a, B, d, x, rfl, s3 _ _ ea, s3 _ _ ed, T.tB, _, rfl, x, x, rfl, Alike.same (g3.trans s3) al, fun H4 s4 => ⟨_, rfl, iteT ?_⟩⟩
  refine ⟨_, rfl, fun d2 hd2 a2 ha2 => ⟨a2, B, d2, x, rfl, upd_same, new_same ha2 _ _ _ upd_same, T.tB, _, rfl, x, x, rfl, ?_, fun H5 s5 => ?_⟩⟩
  · exact Alike.same (((g3.trans s3).trans s4).trans ((new_same hd2 _).trans (new_same ha2 _))) al
  · exact q H5 ((((g3.trans s3).trans s4).trans ((new_same hd2 _).trans (new_same ha2 _))).trans s5)
end
end SB
namespace SB
open PySem L2
abbrev sLaw : Stmt := topI 37
def spLaw (K : PySem.W.Frag) : Sp := fun vs H Q _ => ∃ (a : Addr) (ns : List Int), vs = [.ref a] ∧ SqL K H a (ns.map V.int) ∧ ns.length ≤ 63 ∧ ∀ H', Q (.bl true) H'
section
variable {P : Program} {w : World} {K : PySem.W.Frag} {mg : Str → Option Value} {base : Heap} {c : Nat → Addr} {B fI : Addr}
theorem sc_law : FnScope ["script", "first", "second", "k", "deck", "which", "named", "given", "other", "e"] ["script"] (defScope sLaw) := ⟨rfl, rfl, rfl, by decide +kernel, rfl, by decide +kernel, by decide +kernel⟩
theorem But.same {d : Addr} {H0 H1 H2 : Hp} (s : Same H0 H1) (n : H0 d = none) (b : But d H1 H2) : Same H0 H2 := fun x o e => b x o (ne_of_none e n) (s x o e)
theorem Same.but {d : Addr} {H H' : Hp} (s : Same H H') : But d H H' := fun x o _ e => s x o e
theorem ok_law {f : Addr} {fd : FuncData} (F : Fun K "law" "law" sLaw f fd) (T : Txt K mg c B fI) (mx : mg "max" = none) (mn : mg "min" = none)
    (DD : Dn P w K mg base CX0 1 "_law_deck" ["script", "k"] (spDeck K)) (DT : Dn P w K mg base CX0 1 "_law_take" ["deck", "many"] spTake) (DG : Dn P w K mg base CX0 2 "_law_given" ["deck"] (spGiven K))
    (DR : Dn P w K mg base (L2.CX P w) 4 "_law_raised" ["which", "given", "named"] (spRaised c)) (DO : Dn P w K mg base CX0 5 "_law_right" ["which", "given", "named"] (spRight K))
    (DB : Dn P w K mg base CX0 5 "_law_base_right" ["given"] (spBase K)) (DS : Dn P w K mg base CX0 4 "_law_same" ["found", "due"] (spSame K 4)) : FnOk P w K mg base CX0 6 f fd ["script"] (spLaw K) := by
  obtain ⟨fD, fdD, GD, mD, kD, bD⟩ := DD.ex
  obtain ⟨fT, fdT, GT, mT, kT, bT⟩ := DT.ex
  obtain ⟨fG, fdG, GG, mG, kG, bG⟩ := DG.ex
  obtain ⟨fR, fdR, GR, mR, kR, bR⟩ := DR.ex
  obtain ⟨fO, fdO, GO, mO, kO, bO⟩ := DO.ex
  obtain ⟨fB, fdB, GB, mB, kB, bB⟩ := DB.ex
  obtain ⟨fS, fdS, GS, mS, kS, bS⟩ := DS.ex
  refine F.ok sc_law (fun vs H Q E h => ?_) (fun cdv A outer s H vs Q E hr h => ?_)
  · obtain ⟨a, ns, rfl, _⟩ := h
    rfl
  obtain ⟨l, ns, rfl, hS, h63, q⟩ := h
  have hr1 : Room 1 _ := hr.mono (by decide)
  have hr2 : Room 2 _ := hr.mono (by decide)
  have hr4 : Room 4 _ := hr.mono (by decide)
  refine ⟨_, (pss_cons (ps_asg (pe_tup (pa_cons pe_non (pa_cons pe_non pa_nil))) (pg_tup rfl (pgs_cons (pg_name (i := 1) sc_law.nd rfl (Or.inl rfl)) (pgs_cons (pg_name (i := 2) sc_law.nd rfl (Or.inl rfl)) pgs_nil)))) (pss_cons (ps_for PassesOwn.never rfl (pi_range1 rfl T.b.rng (pa_cons (pe_callB (call_max2 rfl) rfl mx PyProof.Rows.boot_max (pa_cons pe_int (pa_cons (pe_callB (call_min2 rfl) rfl mn PyProof.Rows.boot_min (pa_cons (pe_callB call_len_seq rfl T.b.len PySem.boot_len (pa_cons (pv 0) pa_nil)) (pa_cons pe_int pa_nil))) pa_nil))) pa_nil)) (pg_name (i := 3) sc_law.nd rfl (Or.inl rfl)) (pss_cons (ps_set (i := 4) sc_law.nd rfl (.inl rfl) (pe_call GD hr1 rfl mD kD bD .nil pass0 (pa_cons (pv 0) (pa_cons (pv 3) pa_nil)))) (pss_cons (ps_par (i := 5) (j := 6) rfl sc_law.nd rfl rfl (by decide) rfl rfl (pa_cons (pe_call GT hr1 rfl mT kT bT .nil pass0 (pa_cons (pv 4) (pa_cons pe_int pa_nil))) (pa_cons (pe_cmpR op_eq (pe_call GT hr1 rfl mT kT bT .nil pass0 (pa_cons (pv 4) (pa_cons pe_int pa_nil))) pe_int (nomark _)) pa_nil)) rfl) (pss_cons (ps_par (i := 7) (j := 8) rfl sc_law.nd rfl rfl (by decide) rfl rfl (pa_cons (pe_call GG hr2 rfl mG kG bG .nil pass0 (pa_cons (pv 4) pa_nil)) (pa_cons (pe_call GG hr2 rfl mG kG bG .nil pass0 (pa_cons (pv 4) pa_nil)) pa_nil)) rfl) (pss_cons (ps_if (PW.pt (by exact (pw_or (pt_not (pt_val (pe_call GO hr rfl mO kO bO .nil pass0 (pa_cons (pv 5) (pa_cons (pv 7) (pa_cons (pv 6) pa_nil)))))) (pw_or (pt_not (pt_val (pe_call GO hr rfl mO kO bO .nil pass0 (pa_cons (pv 5) (pa_cons (pv 8) (pa_cons (pe_not (pv 6)) pa_nil)))))) (pw_or1 (pt_not (pt_val (pe_call GB hr rfl mB kB bB .nil pass0 (pa_cons (pv 8) pa_nil))))))))) (pss_one (ps_ret pe_bl)) pss_nil) (pss_cons (ps_try_keep (i := 9) (j := 1) (tb := fun W => tDrop (tCallS (spRaised c) (WE W) (tCons (tVar 5) (tCons (tVar 7) (tCons (tVar 6) tNil))))) rfl rfl rfl sc_law.nd rfl rfl rfl rfl ⟨rfl, by decide, Or.inl T.gB⟩ (fun W pn xe tk _ => (pss_one (ps_expr (by exact (pe_callS GR hr4 rfl mR kR bR (fun σ => passAt tk σ) (by exact (pa_cons (pv 5) (pa_cons (pv 7) (pa_cons (pv 6) pa_nil)))))))))) (pss_cons (ps_try_keep (i := 9) (j := 2) (tb := fun W => tDrop (tCallS (spRaised c) (WE W) (tCons (tVar 5) (tCons (tVar 8) (tCons (tVar 6) tNil))))) rfl rfl rfl sc_law.nd rfl rfl rfl rfl ⟨rfl, by decide, Or.inl T.gB⟩ (fun W pn xe tk _ => (pss_one (ps_expr (by exact (pe_callS GR hr4 rfl mR kR bR (fun σ => passAt tk σ) (by exact (pa_cons (pv 5) (pa_cons (pv 8) (pa_cons (pv 6) pa_nil)))))))))) (pss_one (ps_if (PW.pt (by exact (pw_or (pt_not (pt_val (pe_call GS hr4 rfl mS kS bS .nil pass0 (pa_cons (pe_errA (fI := fI) (pv 1)) (pa_cons (pv 7) pa_nil))))) (pw_or1 (pt_not (pt_val (pe_call GS hr4 rfl mS kS bS .nil pass0 (pa_cons (pe_errA (fI := fI) (pv 2)) (pa_cons (pv 8) pa_nil))))))))) (pss_one (ps_ret pe_bl)) pss_nil))))))))) (pss_cons (ps_for PassesOwn.never rfl (pi_range1 rfl T.b.rng (pa_cons pe_int pa_nil)) (pg_name (i := 5) sc_law.nd rfl (Or.inl rfl)) (pss_one (ps_if (PW.pt (by exact (pw_or (pt_not (pt_val (pe_call GO hr rfl mO kO bO .nil pass0 (pa_cons (pv 5) (pa_cons (pv 5) (pa_cons pe_bl pa_nil)))))) (pw_or1 (pt_not (pt_val (pe_call GO hr rfl mO kO bO .nil pass0 (pa_cons (pv 5) (pa_cons pe_str (pa_cons pe_bl pa_nil)))))))))) (pss_one (ps_ret pe_bl)) pss_nil))) (pss_one (ps_ret pe_bl))))), ?_⟩
  refine ⟨szL 2 (by decide), fun tp ntp => ⟨tp, _, rfl, .inl (.inl upd_same), rfl, _, _, rfl, _, _, rfl, rfl, ?_⟩⟩
  have hS1 := (new_same ntp (HO.tup [V.non, V.non])).seq hS
  generalize upd H tp (.tup [.non, .non]) = H1 at hS1 ⊢
  refine ⟨_, rfl, l, _, rfl, .inl hS1, _, _, rfl, _, _, rfl, _, rfl, ?_, ?_, ?_⟩
  · split <;> (try split) <;> omega
  · split <;> (try split) <;> omega
  refine for_range (lo := 0) (Pv := fun _ σ H' => ∃ a1 a2 a3 a4 a5 a6 a7 a8 a9 : Option V, σ = [some (.ref l), a1, a2, a3, a4, a5, a6, a7, a8, a9] ∧ SqL K H' l (ns.map V.int)) ⟨_, _, _, _, _, _, _, _, _, rfl, hS1⟩ (fun k σ H' hk hP => ?_) (fun σ H' hP => ?_)
  · obtain ⟨a1, a2, a3, a4, a5, a6, a7, a8, a9, rfl, hSk⟩ := hP
    have hk' : k < 64 := by
      split at hk <;> (try split at hk) <;> omega
    refine ⟨_, rfl, _, rfl, l, ns, (0 : Int) + k, rfl, hSk, h63, by omega, by omega, fun dk a b ndk hb0 hb1 => ?_⟩
    have s0 := new_same ndk (HO.lst [V.int a, V.int b])
    have kd : (upd H' dk (.lst [.int a, .int b])) dk = some (.lst [.int a, .int b]) := upd_same
    generalize upd H' dk (.lst [.int a, .int b]) = Hd at s0 kd ⊢
    refine ⟨_, rfl, dk, a, b, 22, rfl, kd, hb0, by omega, by decide, by decide +kernel, fun wh a' b' w0 w1 h0' h1' => ?_⟩
    obtain ⟨i, rfl⟩ : ∃ i : Nat, wh = (i : Int) := ⟨wh.toNat, (Int.toNat_of_nonneg w0).symm⟩
    have hi : i < 22 := by omega
    refine ⟨_, rfl, dk, a', b', 2, rfl, upd_same, h0', h1', by decide, by decide +kernel, fun t2 a2 b2 _ _ h20 h21 => ⟨rfl, _, _, rfl, ?_⟩⟩
    have c1 : But dk Hd (upd (upd Hd dk (.lst [.int a', .int b'])) dk (.lst [.int a2, .int b2])) := ((But.refl dk Hd).deck _).deck _
    have ke : DeckAt (upd (upd Hd dk (.lst [.int a', .int b'])) dk (.lst [.int a2, .int b2])) dk := ⟨a2, b2, upd_same, h20, h21⟩
    generalize upd (upd Hd dk (.lst [.int a', .int b'])) dk (.lst [.int a2, .int b2]) = He at c1 ke ⊢
    refine ⟨_, rfl, dk, rfl, ke, fun x1 Hf c2 kf A1 => ?_⟩
    refine ⟨_, rfl, dk, rfl, kf, fun x2 Hg c3 kg A2 => ⟨_, _, rfl, ?_⟩⟩
    have sg : Same H' Hg := But.same s0 ndk (c1.trans (c2.trans c3))
    refine ⟨_, rfl, _, rfl, _, rfl, i, x1, _, rfl, hi, A1 _ c3, fun Hh sh => ⟨_, rfl, iteF ?_⟩⟩
    refine ⟨_, rfl, _, rfl, _, rfl, _, rfl, i, x2, _, rfl, hi, A2 _ (SB.Same.but sh), fun Hi si => ⟨_, rfl, iteF ?_⟩⟩
    refine ⟨_, rfl, x2, rfl, A2 _ (SB.Same.but (sh.trans si)), fun Hj sj => ⟨_, rfl, iteF ?_⟩⟩
    have t1 := (sh.trans si).trans sj
    refine ⟨_, rfl, _, rfl, _, rfl, i, x1, _, rfl, hi, fun d1 nd1 => ⟨T.exC i hi, fun e1 ne1 => ?_⟩⟩
    have g1 := (new_same nd1 (valD x1)).trans (new_same ne1 (exk (.ref (c i)) (some d1) e1))
    have u1 : (upd (upd Hj d1 (valD x1)) e1 (exk (.ref (c i)) (some d1) e1)) d1 = some (valD x1) := new_same ne1 _ _ _ upd_same
    have v1 : (upd (upd Hj d1 (valD x1)) e1 (exk (.ref (c i)) (some d1) e1)) e1 = some (exk (.ref (c i)) (some d1) e1) := upd_same
    generalize upd (upd Hj d1 (valD x1)) e1 (exk (.ref (c i)) (some d1) e1) = Hk at g1 u1 v1 ⊢
    refine ⟨_, rfl, _, rfl, _, rfl, i, x2, _, rfl, hi, fun d2 nd2 => ⟨T.exC i hi, fun e2 ne2 => ?_⟩⟩
    have g2 := (new_same nd2 (valD x2)).trans (new_same ne2 (exk (.ref (c i)) (some d2) e2))
    have u2 : (upd (upd Hk d2 (valD x2)) e2 (exk (.ref (c i)) (some d2) e2)) d2 = some (valD x2) := new_same ne2 _ _ _ upd_same
    have v2 : (upd (upd Hk d2 (valD x2)) e2 (exk (.ref (c i)) (some d2) e2)) e2 = some (exk (.ref (c i)) (some d2) e2) := upd_same
    generalize upd (upd Hk d2 (valD x2)) e2 (exk (.ref (c i)) (some d2) e2) = Hl at g2 u2 v2 ⊢
    have t2' := (t1.trans g1).trans g2
    refine ⟨_, rfl, e1, c i, d1, x1, rfl, g2 _ _ v1, g2 _ _ u1, T.tC i hi, _, rfl, x1, x1, rfl, A1 _ (c3.trans (SB.Same.but t2')), fun Hm sm => ⟨_, rfl, iteF ?_⟩⟩
    refine ⟨_, rfl, e2, c i, d2, x2, rfl, sm _ _ v2, sm _ _ u2, T.tC i hi, _, rfl, x2, x2, rfl, A2 _ (SB.Same.but (t2'.trans sm)), fun Hn sn => ⟨_, rfl, iteF ?_⟩⟩
    exact ⟨_, _, _, _, _, _, _, _, _, rfl, (((sg.trans t2').trans sm).trans sn).seq hSk⟩
  · obtain ⟨a1, a2, a3, a4, a5, a6, a7, a8, a9, rfl, hSk⟩ := hP
    refine ⟨_, rfl, by decide, by decide, ?_⟩
    refine for_range (lo := 0) (n := 22) (Pv := fun _ σ _ => ∃ a1 a2 a3 a4 a5 a6 a7 a8 a9 : Option V, σ = [some (.ref l), a1, a2, a3, a4, a5, a6, a7, a8, a9]) ⟨_, _, _, _, _, _, _, _, _, rfl⟩ (fun j σ H2 hj hP => ?_) (fun σ H2 hP => ?_)
    · obtain ⟨a1, a2, a3, a4, a5, a6, a7, a8, a9, rfl⟩ := hP
      rw [Int.zero_add]
      refine ⟨_, rfl, _, rfl, j, .int j, false, rfl, hj, al_sc rfl, fun H3 s3 => ⟨_, rfl, iteF ?_⟩⟩
      refine ⟨_, rfl, j, .str "a", true, rfl, hj, al_sc rfl, fun H4 s4 => ⟨_, rfl, iteF ?_⟩⟩
      exact ⟨_, _, _, _, _, _, _, _, _, rfl⟩
    · exact q _
end
end SB
namespace SB
open PySem L2
abbrev veT : List Value := [.type "ValueError", .type "Exception", .type "BaseException", .type "object"]
def pairB (K : PySem.W.Frag) (B : Addr) (c : Nat → Addr) : Bool :=
  decide (PySem.W.exmOne K (.ref B) (.ref B) = some true) && (List.range 22).all (fun i => decide (PySem.W.exmOne K (.ref (c i)) (.ref B) = some true)) && decide (PySem.W.kitOne K (.ref B) (.type "ValueError") = some true) &&
  (List.range 22).all (fun i => decide (PySem.W.kitOne K (.ref (c i)) (.type "ValueError") = some true)) && (List.range 22).all (fun i => (List.range 22).all fun j => decide (PySem.W.kitOne K (.ref (c i)) (.ref (c j)) = some (decide (j = i)))) &&
  (List.range 22).all (fun j => decide (PySem.W.kitOne K (.ref B) (.ref (c j)) = some false))
theorem all22 {p : Nat → Bool} (h : (List.range 22).all p = true) {i : Nat} (hi : i < 22) : p i = true := List.all_eq_true.mp h i (List.mem_range.mpr hi)
def cls22 (c0 c1 c2 c3 c4 c5 c6 c7 c8 c9 c10 c11 c12 c13 c14 c15 c16 c17 c18 c19 c20 c21 : Addr) (i : Nat) : Addr := [c0, c1, c2, c3, c4, c5, c6, c7, c8, c9, c10, c11, c12, c13, c14, c15, c16, c17, c18, c19, c20, c21].getD i 0
/-- a class as the top has made it -/
def ClsAt (K : PySem.W.Frag) (C : Addr) (bm : List Value) : Prop := ∃ nm q N bs sn sub ab col dd k0 k1 k2 k3 k5, K.lookup C = some (excClassObj nm q C N bs bm true sn sub ab col dd k0 k1 k2 k3 k5 "ValueError.__new__")
theorem err_at {K : PySem.W.Frag} {C fI : Addr} {bm : List Value} (h : errB K C fI = true) (c : ClsAt K C bm) (r : HandSPX.refsVE bm = true) : ErrTxt K C fI := by
  obtain ⟨nm, q, N, bs, sn, sub, ab, col, dd, k0, k1, k2, k3, k5, l⟩ := c
  exact errTxt_of h ⟨nm, q, N, bs, bm, sn, sub, ab, col, dd, k0, k1, k2, k3, k5, l, r⟩
theorem cls_mk {K : PySem.W.Frag} {C : Addr} {bm : List Value} {nm q : Str} {N : Addr} {bs : List Value} {sn : List Str} {sub : List Value} {ab : Bool} {col : Option Bool} {dd : Option Addr} {m0 m1 m2 m3 m5 : Option Value}
    (l : K.lookup C = some (excClassObj nm q C N bs bm true sn sub ab col dd m0 m1 m2 m3 m5 "ValueError.__new__")) : ClsAt K C bm := ⟨nm, q, N, bs, sn, sub, ab, col, dd, m0, m1, m2, m3, m5, l⟩
theorem all_mk {l : PySem.W.OpenLaw} {w : World} {K : PySem.W.Frag} {h : Heap} {mg : Str → Option Value} {fa : Addr} {f0 f1 f2 f3 f4 f5 f6 f7 f8 f9 f10 f11 f12 B fI c0 c1 c2 c3 c4 c5 c6 c7 c8 c9 c10 c11 c12 c13 c14 c15 c16 c17 c18 c19 c20 c21 : Addr} (X : K.In h) (G : h.Ns mainGlobals mg) (hfa : mg "law" = some (.ref fa))
    {od0 an0 : Option Addr} {sl0 : Array (Option Value)} {oc0 kV0 dc0 pm0 cd0 ct0 : Value}
    (a0 : PySem.W.nsIn K mainGlobals "_law_deck" = some (some (.ref f0))) (l0 : K.lookup f0 = some ⟨oc0, od0, .func (PySem.W.fnOf "_law_deck" "_law_deck" (defArgs sDeck) (defBody sDeck) (defScope sDeck) .none kV0 dc0 pm0 an0 cd0 ct0), sl0⟩) (d0 : PySem.W.codeIn K cd0 "_law_deck" = true) (k0 : PySem.W.keepIn K (.ref f0) = true)
    {od1 an1 : Option Addr} {sl1 : Array (Option Value)} {oc1 kV1 dc1 pm1 cd1 ct1 : Value}
    (a1 : PySem.W.nsIn K mainGlobals "_law_take" = some (some (.ref f1))) (l1 : K.lookup f1 = some ⟨oc1, od1, .func (PySem.W.fnOf "_law_take" "_law_take" (defArgs sTake) (defBody sTake) (defScope sTake) .none kV1 dc1 pm1 an1 cd1 ct1), sl1⟩) (d1 : PySem.W.codeIn K cd1 "_law_take" = true) (k1 : PySem.W.keepIn K (.ref f1) = true)
    {od2 an2 : Option Addr} {sl2 : Array (Option Value)} {oc2 kV2 dc2 pm2 cd2 ct2 : Value}
    (a2 : PySem.W.nsIn K mainGlobals "_law_same" = some (some (.ref f2))) (l2 : K.lookup f2 = some ⟨oc2, od2, .func (PySem.W.fnOf "_law_same" "_law_same" (defArgs sSame) (defBody sSame) (defScope sSame) .none kV2 dc2 pm2 an2 cd2 ct2), sl2⟩) (d2 : PySem.W.codeIn K cd2 "_law_same" = true) (k2 : PySem.W.keepIn K (.ref f2) = true)
    {od3 an3 : Option Addr} {sl3 : Array (Option Value)} {oc3 kV3 dc3 pm3 cd3 ct3 : Value}
    (a3 : PySem.W.nsIn K mainGlobals "_law_raise_first" = some (some (.ref f3))) (l3 : K.lookup f3 = some ⟨oc3, od3, .func (PySem.W.fnOf "_law_raise_first" "_law_raise_first" (defArgs sRf) (defBody sRf) (defScope sRf) .none kV3 dc3 pm3 an3 cd3 ct3), sl3⟩) (d3 : PySem.W.codeIn K cd3 "_law_raise_first" = true) (k3 : PySem.W.keepIn K (.ref f3) = true)
    {od4 an4 : Option Addr} {sl4 : Array (Option Value)} {oc4 kV4 dc4 pm4 cd4 ct4 : Value}
    (a4 : PySem.W.nsIn K mainGlobals "_law_raise_second" = some (some (.ref f4))) (l4 : K.lookup f4 = some ⟨oc4, od4, .func (PySem.W.fnOf "_law_raise_second" "_law_raise_second" (defArgs sRs) (defBody sRs) (defScope sRs) .none kV4 dc4 pm4 an4 cd4 ct4), sl4⟩) (d4 : PySem.W.codeIn K cd4 "_law_raise_second" = true) (k4 : PySem.W.keepIn K (.ref f4) = true)
    {od5 an5 : Option Addr} {sl5 : Array (Option Value)} {oc5 kV5 dc5 pm5 cd5 ct5 : Value}
    (a5 : PySem.W.nsIn K mainGlobals "_law_raise_named_first" = some (some (.ref f5))) (l5 : K.lookup f5 = some ⟨oc5, od5, .func (PySem.W.fnOf "_law_raise_named_first" "_law_raise_named_first" (defArgs sNf) (defBody sNf) (defScope sNf) .none kV5 dc5 pm5 an5 cd5 ct5), sl5⟩) (d5 : PySem.W.codeIn K cd5 "_law_raise_named_first" = true) (k5 : PySem.W.keepIn K (.ref f5) = true)
    {od6 an6 : Option Addr} {sl6 : Array (Option Value)} {oc6 kV6 dc6 pm6 cd6 ct6 : Value}
    (a6 : PySem.W.nsIn K mainGlobals "_law_raise_named_second" = some (some (.ref f6))) (l6 : K.lookup f6 = some ⟨oc6, od6, .func (PySem.W.fnOf "_law_raise_named_second" "_law_raise_named_second" (defArgs sNs) (defBody sNs) (defScope sNs) .none kV6 dc6 pm6 an6 cd6 ct6), sl6⟩) (d6 : PySem.W.codeIn K cd6 "_law_raise_named_second" = true) (k6 : PySem.W.keepIn K (.ref f6) = true)
    {od7 an7 : Option Addr} {sl7 : Array (Option Value)} {oc7 kV7 dc7 pm7 cd7 ct7 : Value}
    (a7 : PySem.W.nsIn K mainGlobals "_law_raised" = some (some (.ref f7))) (l7 : K.lookup f7 = some ⟨oc7, od7, .func (PySem.W.fnOf "_law_raised" "_law_raised" (defArgs sRaised) (defBody sRaised) (defScope sRaised) .none kV7 dc7 pm7 an7 cd7 ct7), sl7⟩) (d7 : PySem.W.codeIn K cd7 "_law_raised" = true) (k7 : PySem.W.keepIn K (.ref f7) = true)
    {od8 an8 : Option Addr} {sl8 : Array (Option Value)} {oc8 kV8 dc8 pm8 cd8 ct8 : Value}
    (a8 : PySem.W.nsIn K mainGlobals "_law_kinds" = some (some (.ref f8))) (l8 : K.lookup f8 = some ⟨oc8, od8, .func (PySem.W.fnOf "_law_kinds" "_law_kinds" (defArgs sKinds) (defBody sKinds) (defScope sKinds) .none kV8 dc8 pm8 an8 cd8 ct8), sl8⟩) (d8 : PySem.W.codeIn K cd8 "_law_kinds" = true) (k8 : PySem.W.keepIn K (.ref f8) = true)
    {od9 an9 : Option Addr} {sl9 : Array (Option Value)} {oc9 kV9 dc9 pm9 cd9 ct9 : Value}
    (a9 : PySem.W.nsIn K mainGlobals "_law_given" = some (some (.ref f9))) (l9 : K.lookup f9 = some ⟨oc9, od9, .func (PySem.W.fnOf "_law_given" "_law_given" (defArgs sGiven) (defBody sGiven) (defScope sGiven) .none kV9 dc9 pm9 an9 cd9 ct9), sl9⟩) (d9 : PySem.W.codeIn K cd9 "_law_given" = true) (k9 : PySem.W.keepIn K (.ref f9) = true)
    {od10 an10 : Option Addr} {sl10 : Array (Option Value)} {oc10 kV10 dc10 pm10 cd10 ct10 : Value}
    (a10 : PySem.W.nsIn K mainGlobals "_law_right" = some (some (.ref f10))) (l10 : K.lookup f10 = some ⟨oc10, od10, .func (PySem.W.fnOf "_law_right" "_law_right" (defArgs sRight) (defBody sRight) (defScope sRight) .none kV10 dc10 pm10 an10 cd10 ct10), sl10⟩) (d10 : PySem.W.codeIn K cd10 "_law_right" = true) (k10 : PySem.W.keepIn K (.ref f10) = true)
    {od11 an11 : Option Addr} {sl11 : Array (Option Value)} {oc11 kV11 dc11 pm11 cd11 ct11 : Value}
    (a11 : PySem.W.nsIn K mainGlobals "_law_base_right" = some (some (.ref f11))) (l11 : K.lookup f11 = some ⟨oc11, od11, .func (PySem.W.fnOf "_law_base_right" "_law_base_right" (defArgs sBase) (defBody sBase) (defScope sBase) .none kV11 dc11 pm11 an11 cd11 ct11), sl11⟩) (d11 : PySem.W.codeIn K cd11 "_law_base_right" = true) (k11 : PySem.W.keepIn K (.ref f11) = true)
    {od12 an12 : Option Addr} {sl12 : Array (Option Value)} {oc12 kV12 dc12 pm12 cd12 ct12 : Value}
    (a12 : PySem.W.nsIn K mainGlobals "law" = some (some (.ref f12))) (l12 : K.lookup f12 = some ⟨oc12, od12, .func (PySem.W.fnOf "law" "law" (defArgs sLaw) (defBody sLaw) (defScope sLaw) .none kV12 dc12 pm12 an12 cd12 ct12), sl12⟩) (d12 : PySem.W.codeIn K cd12 "law" = true) (k12 : PySem.W.keepIn K (.ref f12) = true)
    (aB : PySem.W.nsIn K mainGlobals "BookError" = some (some (.ref B))) (jB : PySem.W.findIn K (.ref B) "__init__" = some (some (.ref fI))) (lB : ClsAt K B veT) (eB : errB K B fI = true)
    (aC0 : PySem.W.nsIn K mainGlobals "InvalidNumber" = some (some (.ref c0))) (lC0 : ClsAt K c0 (.ref B :: veT)) (eC0 : errB K c0 fI = true)
    (aC1 : PySem.W.nsIn K mainGlobals "InvalidPoint" = some (some (.ref c1))) (lC1 : ClsAt K c1 (.ref B :: veT)) (eC1 : errB K c1 fI = true)
    (aC2 : PySem.W.nsIn K mainGlobals "InvalidQuestion" = some (some (.ref c2))) (lC2 : ClsAt K c2 (.ref B :: veT)) (eC2 : errB K c2 fI = true)
    (aC3 : PySem.W.nsIn K mainGlobals "InvalidBook" = some (some (.ref c3))) (lC3 : ClsAt K c3 (.ref B :: veT)) (eC3 : errB K c3 fI = true)
    (aC4 : PySem.W.nsIn K mainGlobals "InvalidRow" = some (some (.ref c4))) (lC4 : ClsAt K c4 (.ref B :: veT)) (eC4 : errB K c4 fI = true)
    (aC5 : PySem.W.nsIn K mainGlobals "InvalidWish" = some (some (.ref c5))) (lC5 : ClsAt K c5 (.ref B :: veT)) (eC5 : errB K c5 fI = true)
    (aC6 : PySem.W.nsIn K mainGlobals "InvalidPaper" = some (some (.ref c6))) (lC6 : ClsAt K c6 (.ref B :: veT)) (eC6 : errB K c6 fI = true)
    (aC7 : PySem.W.nsIn K mainGlobals "InvalidIndex" = some (some (.ref c7))) (lC7 : ClsAt K c7 (.ref B :: veT)) (eC7 : errB K c7 fI = true)
    (aC8 : PySem.W.nsIn K mainGlobals "InvalidPair" = some (some (.ref c8))) (lC8 : ClsAt K c8 (.ref B :: veT)) (eC8 : errB K c8 fI = true)
    (aC9 : PySem.W.nsIn K mainGlobals "NeverComes" = some (some (.ref c9))) (lC9 : ClsAt K c9 (.ref B :: veT)) (eC9 : errB K c9 fI = true)
    (aC10 : PySem.W.nsIn K mainGlobals "NotFull" = some (some (.ref c10))) (lC10 : ClsAt K c10 (.ref B :: veT)) (eC10 : errB K c10 fI = true)
    (aC11 : PySem.W.nsIn K mainGlobals "InvalidLot" = some (some (.ref c11))) (lC11 : ClsAt K c11 (.ref B :: veT)) (eC11 : errB K c11 fI = true)
    (aC12 : PySem.W.nsIn K mainGlobals "InvalidTape" = some (some (.ref c12))) (lC12 : ClsAt K c12 (.ref B :: veT)) (eC12 : errB K c12 fI = true)
    (aC13 : PySem.W.nsIn K mainGlobals "InvalidWeb" = some (some (.ref c13))) (lC13 : ClsAt K c13 (.ref B :: veT)) (eC13 : errB K c13 fI = true)
    (aC14 : PySem.W.nsIn K mainGlobals "InvalidSaying" = some (some (.ref c14))) (lC14 : ClsAt K c14 (.ref B :: veT)) (eC14 : errB K c14 fI = true)
    (aC15 : PySem.W.nsIn K mainGlobals "InvalidName" = some (some (.ref c15))) (lC15 : ClsAt K c15 (.ref B :: veT)) (eC15 : errB K c15 fI = true)
    (aC16 : PySem.W.nsIn K mainGlobals "NoLongRun" = some (some (.ref c16))) (lC16 : ClsAt K c16 (.ref B :: veT)) (eC16 : errB K c16 fI = true)
    (aC17 : PySem.W.nsIn K mainGlobals "HasRound" = some (some (.ref c17))) (lC17 : ClsAt K c17 (.ref B :: veT)) (eC17 : errB K c17 fI = true)
    (aC18 : PySem.W.nsIn K mainGlobals "UnknownName" = some (some (.ref c18))) (lC18 : ClsAt K c18 (.ref B :: veT)) (eC18 : errB K c18 fI = true)
    (aC19 : PySem.W.nsIn K mainGlobals "NothingToUndo" = some (some (.ref c19))) (lC19 : ClsAt K c19 (.ref B :: veT)) (eC19 : errB K c19 fI = true)
    (aC20 : PySem.W.nsIn K mainGlobals "Unreadable" = some (some (.ref c20))) (lC20 : ClsAt K c20 (.ref B :: veT)) (eC20 : errB K c20 fI = true)
    (aC21 : PySem.W.nsIn K mainGlobals "Unorderly" = some (some (.ref c21))) (lC21 : ClsAt K c21 (.ref B :: veT)) (eC21 : errB K c21 fI = true)
    {odI anI : Option Addr} {slI : Array (Option Value)} {ocI dcI pmI cdI ctI : Value}
    (tI : PySem.W.typeIn K (.ref fI) = some (.type "function")) (hn : PySem.W.specialIn K (.builtin "object.__class__") "__get__" = some (some (.builtin "getset_descriptor.__get__"))) (ht : PySem.W.takesIn K (.builtin "object.__class__") = some true)
    (lI : K.lookup fI = some ⟨ocI, odI, .func (PySem.W.fnOf "__init__" "BookError.__init__" (iA ⟨4, 17, 4, 21⟩ ⟨4, 23, 4, 28⟩) (iB ⟨5, 8, 5, 12⟩ ⟨5, 8, 5, 18⟩ ⟨5, 21, 5, 26⟩ ⟨5, 8, 5, 26⟩) iS .none .none dcI pmI anI cdI ctI), slI⟩) (dI : PySem.W.codeIn K cdI "BookError.__init__" = true)
    (pB : pairB K B (cls22 c0 c1 c2 c3 c4 c5 c6 c7 c8 c9 c10 c11 c12 c13 c14 c15 c16 c17 c18 c19 c20 c21) = true)
    (z_len : PySem.W.nsIn K mainGlobals "len" = some none)
    (z_int : PySem.W.nsIn K mainGlobals "int" = some none)
    (z_isinstance : PySem.W.nsIn K mainGlobals "isinstance" = some none)
    (z_tuple : PySem.W.nsIn K mainGlobals "tuple" = some none)
    (z_list : PySem.W.nsIn K mainGlobals "list" = some none)
    (z_str : PySem.W.nsIn K mainGlobals "str" = some none)
    (z_bool : PySem.W.nsIn K mainGlobals "bool" = some none)
    (z_range : PySem.W.nsIn K mainGlobals "range" = some none)
    (z_max : PySem.W.nsIn K mainGlobals "max" = some none)
    (z_min : PySem.W.nsIn K mainGlobals "min" = some none)
    (z_ValueError : PySem.W.nsIn K mainGlobals "ValueError" = some none)
    : ∃ fd : FuncData, (∀ (s : Shared) (v : Value), BindsTo s fd ⟨[v], []⟩ [("script", v)]) ∧ ∀ base : Heap, K.In base → base.Ns mainGlobals mg → FnOk l.prog w K mg base CX0 6 fa fd ["script"] (spLaw K) := by
  have e := hfa.symm.trans (PySem.W.mg_of X G a12)
  cases e
  have F0 := fun_mk (st := sDeck) l0 d0 k0
  have b0 := F0.binds (ps := ["script", "k"]) fun _ _ _ _ _ _ us hl => match us, hl with | [_, _], _ => rfl
  have F1 := fun_mk (st := sTake) l1 d1 k1
  have b1 := F1.binds (ps := ["deck", "many"]) fun _ _ _ _ _ _ us hl => match us, hl with | [_, _], _ => rfl
  have F2 := fun_mk (st := sSame) l2 d2 k2
  have b2 := F2.binds (ps := ["found", "due"]) fun _ _ _ _ _ _ us hl => match us, hl with | [_, _], _ => rfl
  have F3 := fun_mk (st := sRf) l3 d3 k3
  have b3 := F3.binds (ps := ["which", "given"]) fun _ _ _ _ _ _ us hl => match us, hl with | [_, _], _ => rfl
  have F4 := fun_mk (st := sRs) l4 d4 k4
  have b4 := F4.binds (ps := ["which", "given"]) fun _ _ _ _ _ _ us hl => match us, hl with | [_, _], _ => rfl
  have F5 := fun_mk (st := sNf) l5 d5 k5
  have b5 := F5.binds (ps := ["which", "given"]) fun _ _ _ _ _ _ us hl => match us, hl with | [_, _], _ => rfl
  have F6 := fun_mk (st := sNs) l6 d6 k6
  have b6 := F6.binds (ps := ["which", "given"]) fun _ _ _ _ _ _ us hl => match us, hl with | [_, _], _ => rfl
  have F7 := fun_mk (st := sRaised) l7 d7 k7
  have b7 := F7.binds (ps := ["which", "given", "named"]) fun _ _ _ _ _ _ us hl => match us, hl with | [_, _, _], _ => rfl
  have F8 := fun_mk (st := sKinds) l8 d8 k8
  have b8 := F8.binds (ps := ["e"]) fun _ _ _ _ _ _ us hl => match us, hl with | [_], _ => rfl
  have F9 := fun_mk (st := sGiven) l9 d9 k9
  have b9 := F9.binds (ps := ["deck"]) fun _ _ _ _ _ _ us hl => match us, hl with | [_], _ => rfl
  have F10 := fun_mk (st := sRight) l10 d10 k10
  have b10 := F10.binds (ps := ["which", "given", "named"]) fun _ _ _ _ _ _ us hl => match us, hl with | [_, _, _], _ => rfl
  have F11 := fun_mk (st := sBase) l11 d11 k11
  have b11 := F11.binds (ps := ["given"]) fun _ _ _ _ _ _ us hl => match us, hl with | [_], _ => rfl
  have F12 := fun_mk (st := sLaw) l12 d12 k12
  have p0 := pB
  unfold pairB at p0
  simp only [Bool.and_eq_true, decide_eq_true_eq] at p0
  obtain ⟨⟨⟨⟨⟨q1, q2⟩, q3⟩, q4⟩, q5⟩, q6⟩ := p0
  have T : Txt K mg (cls22 c0 c1 c2 c3 c4 c5 c6 c7 c8 c9 c10 c11 c12 c13 c14 c15 c16 c17 c18 c19 c20 c21) B fI :=
    { U := ⟨tI, hn, ht, ⟨_, _, _, _, _, _, _, _, _, _, _, _, _, _, lI, dI⟩⟩
      tB := err_at eB lB (by decide +kernel)
      tC := fun i hi => match i, hi with | 0, _ => err_at eC0 lC0 rfl | 1, _ => err_at eC1 lC1 rfl | 2, _ => err_at eC2 lC2 rfl | 3, _ => err_at eC3 lC3 rfl | 4, _ => err_at eC4 lC4 rfl | 5, _ => err_at eC5 lC5 rfl | 6, _ => err_at eC6 lC6 rfl | 7, _ => err_at eC7 lC7 rfl | 8, _ => err_at eC8 lC8 rfl | 9, _ => err_at eC9 lC9 rfl | 10, _ => err_at eC10 lC10 rfl | 11, _ => err_at eC11 lC11 rfl | 12, _ => err_at eC12 lC12 rfl | 13, _ => err_at eC13 lC13 rfl | 14, _ => err_at eC14 lC14 rfl | 15, _ => err_at eC15 lC15 rfl | 16, _ => err_at eC16 lC16 rfl | 17, _ => err_at eC17 lC17 rfl | 18, _ => err_at eC18 lC18 rfl | 19, _ => err_at eC19 lC19 rfl | 20, _ => err_at eC20 lC20 rfl | 21, _ => err_at eC21 lC21 rfl | n + 22, h => absurd h (by omega)
      exB := q1
      exC := fun i hi => of_decide_eq_true (all22 q2 hi)
      vB := q3
      vC := fun i hi => of_decide_eq_true (all22 q4 hi)
      kk := fun i j hi hj => of_decide_eq_true (all22 (all22 q5 hi) hj)
      kB := fun j hj => of_decide_eq_true (all22 q6 hj)
      gB := PySem.W.mg_of X G aB
      gC := fun i hi => match i, hi with | 0, _ => PySem.W.mg_of X G aC0 | 1, _ => PySem.W.mg_of X G aC1 | 2, _ => PySem.W.mg_of X G aC2 | 3, _ => PySem.W.mg_of X G aC3 | 4, _ => PySem.W.mg_of X G aC4 | 5, _ => PySem.W.mg_of X G aC5 | 6, _ => PySem.W.mg_of X G aC6 | 7, _ => PySem.W.mg_of X G aC7 | 8, _ => PySem.W.mg_of X G aC8 | 9, _ => PySem.W.mg_of X G aC9 | 10, _ => PySem.W.mg_of X G aC10 | 11, _ => PySem.W.mg_of X G aC11 | 12, _ => PySem.W.mg_of X G aC12 | 13, _ => PySem.W.mg_of X G aC13 | 14, _ => PySem.W.mg_of X G aC14 | 15, _ => PySem.W.mg_of X G aC15 | 16, _ => PySem.W.mg_of X G aC16 | 17, _ => PySem.W.mg_of X G aC17 | 18, _ => PySem.W.mg_of X G aC18 | 19, _ => PySem.W.mg_of X G aC19 | 20, _ => PySem.W.mg_of X G aC20 | 21, _ => PySem.W.mg_of X G aC21 | n + 22, h => absurd h (by omega)
      gV := PySem.W.mg_none_of X G z_ValueError
      b := ⟨PySem.W.mg_none_of X G z_len, PySem.W.mg_none_of X G z_int, PySem.W.mg_none_of X G z_isinstance, PySem.W.mg_none_of X G z_tuple, PySem.W.mg_none_of X G z_list, PySem.W.mg_none_of X G z_str, PySem.W.mg_none_of X G z_bool, PySem.W.mg_none_of X G z_range⟩ }
  refine ⟨PySem.W.fnOf "law" "law" (defArgs sLaw) (defBody sLaw) (defScope sLaw) .none kV12 dc12 pm12 an12 cd12 ct12, fun s v => .of_eq rfl, fun base _ _ => ?_⟩
  have D0 := Dn.mk (P := l.prog) (w := w) (mg := mg) (base := base) ⟨_, _, ok_deck F0 T.b.len T.b.int, PySem.W.mg_of X G a0, k0, b0⟩
  have D1 := Dn.mk (P := l.prog) (w := w) (mg := mg) (base := base) ⟨_, _, ok_take F1 T.b.int, PySem.W.mg_of X G a1, k1, b1⟩
  have D2 := Dn.mk (P := l.prog) (w := w) (mg := mg) (base := base) ⟨_, _, same_all F2 T.b b2 (PySem.W.mg_of X G a2) 4, PySem.W.mg_of X G a2, k2, b2⟩
  have D3 := Dn.mk (P := l.prog) (w := w) (mg := mg) (base := base) ⟨_, _, ok_rf F3 T, PySem.W.mg_of X G a3, k3, b3⟩
  have D4 := Dn.mk (P := l.prog) (w := w) (mg := mg) (base := base) ⟨_, _, ok_rs F4 T, PySem.W.mg_of X G a4, k4, b4⟩
  have D5 := Dn.mk (P := l.prog) (w := w) (mg := mg) (base := base) ⟨_, _, ok_nf F5 T, PySem.W.mg_of X G a5, k5, b5⟩
  have D6 := Dn.mk (P := l.prog) (w := w) (mg := mg) (base := base) ⟨_, _, ok_ns F6 T, PySem.W.mg_of X G a6, k6, b6⟩
  have D7 := Dn.mk (P := l.prog) (w := w) (mg := mg) (base := base) ⟨_, _, ok_raised F7 T D3 D4 D5 D6, PySem.W.mg_of X G a7, k7, b7⟩
  have D8 := Dn.mk (P := l.prog) (w := w) (mg := mg) (base := base) ⟨_, _, ok_kinds F8 T, PySem.W.mg_of X G a8, k8, b8⟩
  have D9 := Dn.mk (P := l.prog) (w := w) (mg := mg) (base := base) ⟨_, _, ok_given F9 D1, PySem.W.mg_of X G a9, k9, b9⟩
  have D10 := Dn.mk (P := l.prog) (w := w) (mg := mg) (base := base) ⟨_, _, ok_right F10 T D7 D8 D2, PySem.W.mg_of X G a10, k10, b10⟩
  have D11 := Dn.mk (P := l.prog) (w := w) (mg := mg) (base := base) ⟨_, _, ok_base F11 T D8 D2, PySem.W.mg_of X G a11, k11, b11⟩
  exact ok_law F12 T (PySem.W.mg_none_of X G z_max) (PySem.W.mg_none_of X G z_min) D0 D1 D9 D7 D10 D11 D2
theorem walk {l : PySem.W.OpenLaw} {q : Program} {loose : List Str} {XP : (Str → Option Value) → Heap → Prop} {YP : World → Heap → Prop} {d : DefRec} {K : Params → PySem.W.Frag} (hn : l.most = some 63) (hdf : d.params.defaults = [])
    (hY : ∀ (w : World) (h : Heap), YP w h → (K w.params).In h)
    (F : ∀ (w : World) (mg : Str → Option Value) (fa : Addr) (h : Heap), (K w.params).In h → h.Ns mainGlobals mg → mg d.name = some (.ref fa) →
      ∃ fd : FuncData, (∀ (s : Shared) (u : Value), BindsTo s fd ⟨[u], []⟩ [("script", u)]) ∧ ∀ base : Heap, (K w.params).In base → base.Ns mainGlobals mg → FnOk l.prog w (K w.params) mg base CX0 6 fa fd ["script"] (spLaw (K w.params))) :
    PySem.W.WalkO q loose XP YP l.row.toRowW d [] (fun f vs => PySem.call f vs) :=
  L2.walk_of (n := 63) (k := 6) (x := "script") (CX := fun _ => CX0) (sp := fun w => spLaw (K w.params)) hn (by decide) hdf ⟨rfl, by decide, by decide⟩ hY F (fun _ _ a ns hl _ hS => ⟨a, ns, rfl, hS, hl, fun _ => rfl⟩) fun _ _ _ _ _ z => z
end SB
open PySem PySem.W PyProof.Rows
set_option maxRecDepth 100000 in
set_option maxHeartbeats 0 in
theorem PySem.Challenge.cw_sidebooks_k00_errors_holds : PySem.Challenge.rw_sidebooks_k00_errors.Holds := by
  w_on; o_law; k_head; (case hw => w_witness2)
  k_fill
  refine SB.walk (l := PySem.Challenge.rw_sidebooks_k00_errors) rfl rfl (fun w h Y => PySem.W.kIn_of Y) ?F
  case F =>
    intro w mg fa h KX G hmg
    refine' SB.all_mk KX G hmg ?a0 ?l0 ?d0 ?k0 ?a1 ?l1 ?d1 ?k1 ?a2 ?l2 ?d2 ?k2 ?a3 ?l3 ?d3 ?k3 ?a4 ?l4 ?d4 ?k4 ?a5 ?l5 ?d5 ?k5 ?a6 ?l6 ?d6 ?k6 ?a7 ?l7 ?d7 ?k7 ?a8 ?l8 ?d8 ?k8 ?a9 ?l9 ?d9 ?k9 ?a10 ?l10 ?d10 ?k10 ?a11 ?l11 ?d11 ?k11 ?a12 ?l12 ?d12 ?k12 ?aB ?jB ?lB ?eB ?aC0 ?lC0 ?eC0 ?aC1 ?lC1 ?eC1 ?aC2 ?lC2 ?eC2 ?aC3 ?lC3 ?eC3 ?aC4 ?lC4 ?eC4 ?aC5 ?lC5 ?eC5 ?aC6 ?lC6 ?eC6 ?aC7 ?lC7 ?eC7 ?aC8 ?lC8 ?eC8 ?aC9 ?lC9 ?eC9 ?aC10 ?lC10 ?eC10 ?aC11 ?lC11 ?eC11 ?aC12 ?lC12 ?eC12 ?aC13 ?lC13 ?eC13 ?aC14 ?lC14 ?eC14 ?aC15 ?lC15 ?eC15 ?aC16 ?lC16 ?eC16 ?aC17 ?lC17 ?eC17 ?aC18 ?lC18 ?eC18 ?aC19 ?lC19 ?eC19 ?aC20 ?lC20 ?eC20 ?aC21 ?lC21 ?eC21 ?tI ?hn ?ht ?lI ?dI ?pB ?z_len ?z_int ?z_isinstance ?z_tuple ?z_list ?z_str ?z_bool ?z_range ?z_max ?z_min ?z_ValueError
    (case a0 => k_is)
    (case l0 => k_is)
    (case d0 => k_is)
    (case k0 => k_is)
    (case a1 => k_is)
    (case l1 => k_is)
    (case d1 => k_is)
    (case k1 => k_is)
    (case a2 => k_is)
    (case l2 => k_is)
    (case d2 => k_is)
    (case k2 => k_is)
    (case a3 => k_is)
    (case l3 => k_is)
    (case d3 => k_is)
    (case k3 => k_is)
    (case a4 => k_is)
    (case l4 => k_is)
    (case d4 => k_is)
    (case k4 => k_is)
    (case a5 => k_is)
    (case l5 => k_is)
    (case d5 => k_is)
    (case k5 => k_is)
    (case a6 => k_is)
    (case l6 => k_is)
    (case d6 => k_is)
    (case k6 => k_is)
    (case a7 => k_is)
    (case l7 => k_is)
    (case d7 => k_is)
    (case k7 => k_is)
    (case a8 => k_is)
    (case l8 => k_is)
    (case d8 => k_is)
    (case k8 => k_is)
    (case a9 => k_is)
    (case l9 => k_is)
    (case d9 => k_is)
    (case k9 => k_is)
    (case a10 => k_is)
    (case l10 => k_is)
    (case d10 => k_is)
    (case k10 => k_is)
    (case a11 => k_is)
    (case l11 => k_is)
    (case d11 => k_is)
    (case k11 => k_is)
    (case a12 => k_is)
    (case l12 => k_is)
    (case d12 => k_is)
    (case k12 => k_is)
    (case aB => k_is)
    (case jB => k_is)
    (case aC0 => k_is)
    (case aC1 => k_is)
    (case aC2 => k_is)
    (case aC3 => k_is)
    (case aC4 => k_is)
    (case aC5 => k_is)
    (case aC6 => k_is)
    (case aC7 => k_is)
    (case aC8 => k_is)
    (case aC9 => k_is)
    (case aC10 => k_is)
    (case aC11 => k_is)
    (case aC12 => k_is)
    (case aC13 => k_is)
    (case aC14 => k_is)
    (case aC15 => k_is)
    (case aC16 => k_is)
    (case aC17 => k_is)
    (case aC18 => k_is)
    (case aC19 => k_is)
    (case aC20 => k_is)
    (case aC21 => k_is)
    (case lB => exact SB.cls_mk (by k_is))
    (case lC0 => exact SB.cls_mk (by k_is))
    (case lC1 => exact SB.cls_mk (by k_is))
    (case lC2 => exact SB.cls_mk (by k_is))
    (case lC3 => exact SB.cls_mk (by k_is))
    (case lC4 => exact SB.cls_mk (by k_is))
    (case lC5 => exact SB.cls_mk (by k_is))
    (case lC6 => exact SB.cls_mk (by k_is))
    (case lC7 => exact SB.cls_mk (by k_is))
    (case lC8 => exact SB.cls_mk (by k_is))
    (case lC9 => exact SB.cls_mk (by k_is))
    (case lC10 => exact SB.cls_mk (by k_is))
    (case lC11 => exact SB.cls_mk (by k_is))
    (case lC12 => exact SB.cls_mk (by k_is))
    (case lC13 => exact SB.cls_mk (by k_is))
    (case lC14 => exact SB.cls_mk (by k_is))
    (case lC15 => exact SB.cls_mk (by k_is))
    (case lC16 => exact SB.cls_mk (by k_is))
    (case lC17 => exact SB.cls_mk (by k_is))
    (case lC18 => exact SB.cls_mk (by k_is))
    (case lC19 => exact SB.cls_mk (by k_is))
    (case lC20 => exact SB.cls_mk (by k_is))
    (case lC21 => exact SB.cls_mk (by k_is))
    (case tI => k_is); (case hn => k_is); (case ht => k_is); (case lI => k_is); (case dI => k_is)
    (case z_len => k_is)
    (case z_int => k_is)
    (case z_isinstance => k_is)
    (case z_tuple => k_is)
    (case z_list => k_is)
    (case z_str => k_is)
    (case z_bool => k_is)
    (case z_range => k_is)
    (case z_max => k_is)
    (case z_min => k_is)
    (case z_ValueError => k_is)
    (case eB => first | kernel_rfl | exact (by with_unfolding_all rfl))
    (case eC0 => first | kernel_rfl | exact (by with_unfolding_all rfl))
    (case eC1 => first | kernel_rfl | exact (by with_unfolding_all rfl))
    (case eC2 => first | kernel_rfl | exact (by with_unfolding_all rfl))
    (case eC3 => first | kernel_rfl | exact (by with_unfolding_all rfl))
    (case eC4 => first | kernel_rfl | exact (by with_unfolding_all rfl))
    (case eC5 => first | kernel_rfl | exact (by with_unfolding_all rfl))
    (case eC6 => first | kernel_rfl | exact (by with_unfolding_all rfl))
    (case eC7 => first | kernel_rfl | exact (by with_unfolding_all rfl))
    (case eC8 => first | kernel_rfl | exact (by with_unfolding_all rfl))
    (case eC9 => first | kernel_rfl | exact (by with_unfolding_all rfl))
    (case eC10 => first | kernel_rfl | exact (by with_unfolding_all rfl))
    (case eC11 => first | kernel_rfl | exact (by with_unfolding_all rfl))
    (case eC12 => first | kernel_rfl | exact (by with_unfolding_all rfl))
    (case eC13 => first | kernel_rfl | exact (by with_unfolding_all rfl))
    (case eC14 => first | kernel_rfl | exact (by with_unfolding_all rfl))
    (case eC15 => first | kernel_rfl | exact (by with_unfolding_all rfl))
    (case eC16 => first | kernel_rfl | exact (by with_unfolding_all rfl))
    (case eC17 => first | kernel_rfl | exact (by with_unfolding_all rfl))
    (case eC18 => first | kernel_rfl | exact (by with_unfolding_all rfl))
    (case eC19 => first | kernel_rfl | exact (by with_unfolding_all rfl))
    (case eC20 => first | kernel_rfl | exact (by with_unfolding_all rfl))
    (case eC21 => first | kernel_rfl | exact (by with_unfolding_all rfl))
    (case pB => first | kernel_rfl | exact (by with_unfolding_all rfl))
