import PyProof.Rows.All
import Wide.All
import OpenK.AllK
import Wide.FinOn
import HandS.ForMost
import HandS.TupAny
import HandS.Zip
import HandS.Flow
import HandS.Wide
import HandS.IsInst
import HandS.FStr
import HandS.OwnEq
import HandS.MakeKwOnly
import HandS.Codes
import HandS.Walk
import HandS.DictComp
import HandS.Style
import HandS.More
import PySem.Challenge.RW_facehouse_k39_outcomes
import HandS.HeadHook1
import HandS.HeadHook2
import HandS.HeadHook3
import HandS.HeadHook4
import HandS.Head0
import HandS.Head1
import HandS.Head2
import HandS.HeadEnd
import HandS.TupSets
import PyProof.Rows.SetFrom
import PyProof.DictKinds
import PyProof.Walks
import KE.SortData
import KE.OsSortAny
import HandS.List
import HandS.Dict
import KE.KEqNest
import KE.KRevSl
import HandS.TupLe
import HandS.HotCalls
import PyProof.ReprRoads
import PyProof.RowDictHeap
import HandS.Words
import KE.GoesMore
import HandS.DeepEq
import HandS.SetFor
import HandS.Strs
import KE.KDictZip
import HandS.Rev
import PyProof.ListNew
import KE.GoesZip
import KE.GoesRev
import HandS.RepeatKit
set_option Elab.async false
set_option linter.all false
set_option maxRecDepth 100000
set_option maxHeartbeats 4000000
namespace Fh
open PySem L2 PyProof.Rows

/-! ### rules of our own -/
theorem bits_le {i : Int} {n : Nat} (h : i.natAbs < 2 ^ n) : Builtin.Int.intBits i ≤ n := by
  unfold Builtin.Int.intBits
  split
  · exact Nat.zero_le _
  · rename_i hz
    have h0 : i.natAbs ≠ 0 := fun e => hz (by simp [Int.natAbs_eq_zero.mp e])
    exact (Nat.log2_lt h0).mpr h
def CPowW (i j : Int) : Prop := 0 ≤ j ∧ j ≤ 1000 ∧ i.natAbs < 2 ^ 100
theorem CPowW.ok {i j : Int} (h : CPowW i j) : (Builtin.Int.intBits i : Int) * j ≤ 2 ^ 27 := by
  obtain ⟨h0, h1, h2⟩ := h
  have hb : (Builtin.Int.intBits i : Int) ≤ 100 := by exact_mod_cast bits_le h2
  calc (Builtin.Int.intBits i : Int) * j ≤ 100 * 1000 := Int.mul_le_mul hb h1 h0 (by decide)
    _ ≤ 2 ^ 27 := by decide
theorem op_powW {X : Cx} : OpR X (binaryOp .Pow) (rI CPowW fun i j => .int (i ^ j.toNat)) := opI fun _ _ _ _ _ _ _ hc q => pow_int hc.1 hc.ok q

/-- what an expression gives, by a word between it and what follows -/
def tMid (t : TE) : TE := fun σ H Q => ∃ Mid : V → Hp → Prop, t σ H Mid ∧ ∀ v H', Mid v H' → Q v H'
theorem pe_mid {X : Cx} {e : Expr} {t : TE} (h : PE X e t) : PE X e (tMid t) := by
  refine ⟨fun pins s σ H Q I hq => ?_⟩
  obtain ⟨Mid, hm, hu⟩ := hq
  exact thn (h.run pins s σ H Mid I hm) fun v s1 ⟨x, H1, I1, r1, q1⟩ => ⟨x, H1, I1, r1, hu x H1 q1⟩
theorem atI_in {α : Type} {xs : List α} {i : Int} (h0 : 0 ≤ i) (h1 : i < (xs.length : Int)) : ∃ v, atI xs i = some v ∧ xs[i.toNat]? = some v ∧ v ∈ xs := by
  have hj : i.toNat < xs.length := by omega
  have e : ixN xs.length i = some i.toNat := by
    unfold ixN
    rw [if_pos h0, if_pos h1]
  refine ⟨xs[i.toNat], ?_, List.getElem?_eq_getElem hj, List.getElem_mem hj⟩
  unfold atI
  rw [e]
  exact List.getElem?_eq_getElem hj

/-! ### the bag -/
/-- a bag at b, drawn from at most n times -/
def Bag (H : Hp) (b : Addr) (n : Nat) : Prop := ∃ x y z : Int, H b = some (.lst [.int x, .int y, .int z]) ∧ 0 ≤ y ∧ y < 2 ^ 61 ∧ 0 ≤ z ∧ z ≤ (n : Int)
theorem Bag.mono {H : Hp} {b : Addr} {n m : Nat} (h : Bag H b n) (hm : n ≤ m) : Bag H b m := by
  obtain ⟨x, y, z, e, a1, a2, a3, a4⟩ := h
  exact ⟨x, y, z, e, a1, a2, a3, by omega⟩
/-- all but what stands at b is kept -/
def Kp (b : Addr) (H H' : Hp) : Prop := ∀ a o, a ≠ b → H a = some o → H' a = some o
theorem Kp.refl {b : Addr} {H : Hp} : Kp b H H := fun _ _ _ h => h
theorem Kp.trans {b : Addr} {H H1 H2 : Hp} (x : Kp b H H1) (y : Kp b H1 H2) : Kp b H H2 := fun a o n h => y a o n (x a o n h)
theorem Kp.same {b : Addr} {H H1 H2 : Hp} (x : Kp b H H1) (y : Same H1 H2) : Kp b H H2 := fun a o n h => y a o (x a o n h)
theorem Kp.upd {b : Addr} {H : Hp} {o : HO} : Kp b H (upd H b o) := fun a u n h => by rw [upd_ne n]; exact h
theorem Kp.new {b p : Addr} {H H1 : Hp} {o : HO} (x : Kp b H H1) (h : H1 p = none) : Kp b H (L2.upd H1 p o) := fun a u n e => by
  rw [upd_ne (ne_of_none (x a u n e) h)]
  exact x a u n e
theorem Kp.wr {b p : Addr} {H H1 : Hp} {o : HO} (x : Kp b H H1) (h : H p = none) : Kp b H (L2.upd H1 p o) := fun a u n e => by
  rw [upd_ne (ne_of_none e h)]
  exact x a u n e
theorem Bag.same {H H' : Hp} {b : Addr} {n : Nat} (h : Bag H b n) (s : Same H H') : Bag H' b n := by
  obtain ⟨x, y, z, e, a⟩ := h
  exact ⟨x, y, z, s _ _ e, a⟩
theorem Bag.new {H : Hp} {b p : Addr} {n : Nat} {o : HO} (h : Bag H b n) (hp : H p = none) : Bag (L2.upd H p o) b n := by
  obtain ⟨x, y, z, e, a⟩ := h
  exact ⟨x, y, z, by rw [upd_ne (ne_of_none e hp)]; exact e, a⟩
theorem Bag.ne {H : Hp} {b p : Addr} {n : Nat} {o : HO} (h : Bag H b n) (hp : p ≠ b) : Bag (L2.upd H p o) b n := by
  obtain ⟨x, y, z, e, a⟩ := h
  exact ⟨x, y, z, by rw [upd_ne (Ne.symm hp)]; exact e, a⟩
theorem Kp.free {b p : Addr} {H H' : Hp} (x : Kp b H H') (hb : ∃ o, H' b = some o) (h : H' p = none) : H p = none := by
  cases q : H p with
  | none => rfl
  | some o =>
    by_cases e : p = b
    · subst e
      obtain ⟨u, hu⟩ := hb
      rw [h] at hu
      cases hu
    · rw [x p o e q] at h
      cases h
theorem Bag.at {H : Hp} {b : Addr} {n : Nat} (h : Bag H b n) : ∃ o, H b = some o := let ⟨_, _, _, e, _⟩ := h; ⟨_, e⟩

/-! ### promises: the bag and a draw -/
def most : Nat := 1000000
def spTake : Sp := fun vs H Q _ => ∃ (b : Addr) (size : Int) (n : Nat), vs = [.ref b, .int size] ∧ 0 < size ∧ size < 1073741824 ∧ Bag H b n ∧ n ≤ most ∧
  ∀ (d : Int) (H' : Hp), 0 ≤ d → d < size → Kp b H H' → Bag H' b (n + 1) → Q (.int d) H'
def spBag (K : PySem.W.Frag) : Sp := fun vs H Q _ => ∃ (a : Addr) (ns : List Int) (i : Int), vs = [.ref a, .int i] ∧ SqL K H a (ns.map V.int) ∧ 0 ≤ i ∧ i ≤ 100 ∧
  ∀ (p : Addr) (H' : Hp), Same H H' → H p = none → Bag H' p 0 → Q (.ref p) H'
theorem basis_le {y z : Int} (hy : 0 ≤ y) (hy2 : y < 2 ^ 61) (hz : 0 ≤ z) (hz2 : z ≤ 1000001) : (y * (2 * z + 1) + 6007 * z * z + 31).natAbs < 2 ^ 100 := by
  have h1 : y * (2 * z + 1) ≤ 2 ^ 61 * 2000003 := Int.mul_le_mul (by omega) (by omega) (by omega) (by decide)
  have h2 : (6007 * z) * z ≤ (6007 * 1000001) * 1000001 := Int.mul_le_mul (by omega) hz2 hz (by decide)
  have h3 : 0 ≤ y * (2 * z + 1) := Int.mul_nonneg hy (by omega)
  have h4 : 0 ≤ (6007 * z) * z := Int.mul_nonneg (by omega) hz
  omega
end Fh

set_option Elab.async false
set_option linter.all false
set_option maxRecDepth 100000
set_option maxHeartbeats 4000000
namespace Fh
open PySem L2 PyProof.Rows
def top (i : Nat) : Stmt := PySem.Challenge.pw_facehouse_k39_outcomes.main.body.getD i (.Pass ⟨0, 0, 0, 0⟩)
abbrev sBag : Stmt := top 24
abbrev sTake : Stmt := top 25
/-- built-in names that no module's name hides -/
structure Glb (mg : Str → Option Value) : Prop where
  len : mg "len" = none
  abs : mg "abs" = none
  int : mg "int" = none
  range : mg "range" = none
  list : mg "list" = none
  min : mg "min" = none
  max : mg "max" = none
  tuple : mg "tuple" = none
  dict : mg "dict" = none
  enumerate : mg "enumerate" = none
  isi : mg "isinstance" = none
  str : mg "str" = none
  sorted : mg "sorted" = none
  set : mg "set" = none
  sum : mg "sum" = none
  zip : mg "zip" = none
  divmod : mg "divmod" = none
section
variable {P : Program} {w : World} {K : PySem.W.Frag} {mg : Str → Option Value} {base : Heap}
theorem scBag : FnScope ["_law_script", "_law_at", "_law_cell", "_law_far"] ["_law_script", "_law_at"] (defScope sBag) := ⟨rfl, rfl, rfl, by decide +kernel, rfl, by decide +kernel, by decide +kernel⟩
theorem scTake : FnScope ["_law_bag_here", "_law_size", "_law_digit", "_law_primes", "_law_stage", "_law_basis", "_law_found"] ["_law_bag_here", "_law_size"] (defScope sTake) := ⟨rfl, rfl, rfl, by decide +kernel, rfl, by decide +kernel, by decide +kernel⟩
theorem ok_take {f : Addr} {fd : FuncData} (F : Fun K "_law_take" "_law_take" sTake f fd) : FnOk P w K mg base CX0 1 f fd ["_law_bag_here", "_law_size"] spTake := by
  refine F.ok scTake (fun vs H Q E h => ?_) (fun cdv A outer s H vs Q E hr h => ?_)
  · obtain ⟨b, size, n, rfl, _⟩ := h
    rfl
  · obtain ⟨b, size, n, rfl, hs0, hs1, ⟨x, y, z, hb, y0, y1, z0, z1⟩, hn, k⟩ := h
    have hn' : n ≤ 1000000 := hn
    refine ⟨_, pss_cons (ps_if (pt_cmpR op_gt (pe_ix ix_list (pv 0) pe_int (fun _ _ => rfl)) pe_int (nomark _))
        (pss_cons (ps_set (i := 2) scTake.nd rfl (Or.inl rfl) (pe_op op_mod (pe_ix ix_list (pv 0) pe_int (fun _ _ => rfl)) (pv 1)))
        (pss_cons (ps_asg (pe_op op_fdiv (pe_ix ix_list (pv 0) pe_int (fun _ _ => rfl)) (pv 1)) (pg_sub (pv 0) pe_int set_list))
        (pss_one (ps_ret (pv 2))))) pss_nil)
      (pss_cons (ps_set (i := 3) scTake.nd rfl (Or.inl rfl) (pe_tup (pa_cons pe_int (pa_cons pe_int (pa_cons pe_int (pa_cons pe_int (pa_cons pe_int (pa_cons pe_int (pa_cons pe_int (pa_cons pe_int pa_nil))))))))))
      (pss_cons (ps_asg (pe_op op_add (pe_ix ix_list (pv 0) pe_int (fun _ _ => rfl)) pe_int) (pg_sub (pv 0) pe_int set_list))
      (pss_cons (ps_set (i := 4) scTake.nd rfl (Or.inl rfl) (pe_ix ix_list (pv 0) pe_int (fun _ _ => rfl)))
      (pss_cons (ps_set (i := 5) scTake.nd rfl (Or.inl rfl) (pe_op op_add (pe_op op_add (pe_op op_mul (pe_ix ix_list (pv 0) pe_int (fun _ _ => rfl)) (pe_op op_add (pe_op op_mul pe_int (pv 4)) pe_int)) (pe_op op_mul (pe_op op_mul pe_int (pv 4)) (pv 4))) pe_int))
      (pss_cons (ps_set (i := 6) scTake.nd rfl (Or.inl rfl) (pe_op op_mod (pe_op op_powW (pv 5) pe_int) (pe_ix ix_tup (pv 3) (pe_op op_mod (pv 4) pe_int) (fun _ _ => rfl))))
      (pss_one (ps_ret (pe_op op_mod (pe_op op_fdiv (pe_op op_mod (pe_op op_mul (pv 6) (pe_op op_add (pe_op op_fdiv (pv 6) pe_int) pe_int)) (pe_ix ix_tup (pv 3) (pe_op op_mod (pe_op op_add (pv 4) pe_int) pe_int) (fun _ _ => rfl))) pe_int) (pv 1))))))))), ?_⟩
    refine ⟨_, rfl, b, _, _, _, rfl, rfl, SqL.of hb, rfl, _, _, rfl, rfl, _, rfl, ?_⟩
    refine ite2 (fun _ => ?_) (fun _ => ?_)
    · refine ⟨_, rfl, b, _, _, _, rfl, rfl, SqL.of hb, rfl, _, rfl, _, _, rfl, rfl, hs0, ?_⟩
      refine ⟨_, rfl, b, _, _, _, rfl, rfl, SqL.of hb, rfl, _, rfl, _, _, rfl, rfl, ⟨hs0, hs1⟩, ?_⟩
      refine ⟨_, rfl, b, _, _, 0, rfl, rfl, hb, rfl, _, rfl, ?_⟩
      exact k _ _ (Int.emod_nonneg _ (by omega)) (Int.emod_lt_of_pos _ hs0) Kp.upd ⟨_, y, z, upd_same, y0, y1, z0, by omega⟩
    · refine ⟨by decide, fun t ht => ?_⟩
      have nbt : b ≠ t := ne_of_none hb ht
      have hb1 : (upd H t (.tup [.int 2147483647, .int 2147483629, .int 2147483587, .int 2147483579, .int 2147483563, .int 2147483549, .int 2147483543, .int 2147483497])) b = some (.lst [.int x, .int y, .int z]) := by rw [upd_ne nbt]; exact hb
      refine ⟨_, rfl, b, _, _, _, rfl, rfl, SqL.of hb1, rfl, _, _, rfl, rfl, ?_⟩
      refine ⟨_, rfl, b, _, _, 2, rfl, rfl, hb1, rfl, ?_⟩
      refine ⟨_, rfl, b, _, _, _, rfl, rfl, SqL.of upd_same, rfl, ?_⟩
      have c1 : CMul y (2 * (z + 1) + 1) := .inl ⟨by omega, by omega⟩
      refine ⟨_, rfl, b, _, _, _, rfl, rfl, SqL.of upd_same, rfl, _, rfl, _, _, rfl, rfl, .inl ⟨by decide, by decide⟩, _, _, rfl, rfl, _, _, rfl, rfl, c1, _, rfl, _, _, rfl, rfl, .inl ⟨by decide, by decide⟩, _, rfl, _, _, rfl, rfl, .inr ⟨by omega, by omega⟩, _, _, rfl, rfl, _, _, rfl, rfl, ?_⟩
      have ht1 : (upd (upd H t (.tup [.int 2147483647, .int 2147483629, .int 2147483587, .int 2147483579, .int 2147483563, .int 2147483549, .int 2147483543, .int 2147483497])) b (.lst [.int x, .int y, .int (z + 1)])) t = some (.tup [.int 2147483647, .int 2147483629, .int 2147483587, .int 2147483579, .int 2147483563, .int 2147483549, .int 2147483543, .int 2147483497]) := by rw [upd_ne nbt.symm, upd_same]
      have prim : ∀ i : Int, ∃ p, atI [V.int 2147483647, .int 2147483629, .int 2147483587, .int 2147483579, .int 2147483563, .int 2147483549, .int 2147483543, .int 2147483497] (i % 8) = some (.int p) ∧ 0 < p ∧ p ≤ 2147483647 := fun i => by
        obtain ⟨v, e, _, hm⟩ := atI_in (xs := [V.int 2147483647, .int 2147483629, .int 2147483587, .int 2147483579, .int 2147483563, .int 2147483549, .int 2147483543, .int 2147483497]) (i := i % 8) (by omega) (by show i % 8 < 8; omega)
        simp only [List.mem_cons, List.not_mem_nil, or_false] at hm
        rcases hm with rfl | rfl | rfl | rfl | rfl | rfl | rfl | rfl <;> exact ⟨_, e, by decide, by decide⟩
      obtain ⟨p1, e1, l1, u1⟩ := prim (z + 1)
      obtain ⟨p2, e2, l2, u2⟩ := prim (z + 1 + 5)
      have hB : CPowW (y * (2 * (z + 1) + 1) + 6007 * (z + 1) * (z + 1) + 31) 3 := ⟨by decide, by decide, basis_le y0 y1 (by omega) (by omega)⟩
      refine ⟨_, rfl, _, _, rfl, rfl, hB, _, rfl, _, rfl, _, _, rfl, rfl, (by show (0 : Int) < 8; decide), t, _, _, _, rfl, rfl, SqT.of ht1, e1, _, _, rfl, rfl, l1, ?_⟩
      generalize hfd : (y * (2 * (z + 1) + 1) + 6007 * (z + 1) * (z + 1) + 31) ^ (3 : Int).toNat % p1 = fd
      have f0 : 0 ≤ fd := by rw [← hfd]; exact Int.emod_nonneg _ (by omega)
      have f1 : fd < p1 := by rw [← hfd]; exact Int.emod_lt_of_pos _ l1
      refine ⟨_, rfl, _, rfl, _, _, rfl, rfl, ⟨by decide, by decide⟩, _, _, rfl, rfl, _, _, rfl, rfl, .inl ⟨by omega, by omega⟩, _, rfl, _, rfl, _, _, rfl, rfl, _, _, rfl, rfl, (by show (0 : Int) < 8; decide), t, _, _, _, rfl, rfl, SqT.of ht1, e2, _, _, rfl, rfl, l2, _, _, rfl, rfl, ⟨by decide, by decide⟩, _, rfl, _, _, rfl, rfl, hs0, ?_⟩
      refine k _ _ (Int.emod_nonneg _ (by omega)) (Int.emod_lt_of_pos _ hs0) ?_ ⟨_, y, z + 1, upd_same, y0, y1, by omega, by omega⟩
      exact (Kp.refl.new ht).trans Kp.upd
end
end Fh

set_option Elab.async false
set_option linter.all false
set_option maxRecDepth 100000
set_option maxHeartbeats 0
namespace Fh
open PySem PySem.Spec PyProof.Rows L2
/-- where a keyword-only default stands -/
def kwOf (p : Str × Option Str) (x : Str) (K : PySem.W.Frag) : Addr := match K.lookup (He.fAd K p) with
  | some ⟨_, _, .func fd, _⟩ => (match fd.kwdefaults with
    | .ref D => (match PySem.W.nsIn K D x with
      | some (some (.ref a)) => a
      | _ => 0)
    | _ => 0)
  | _ => 0
def mdef (m q : Str) (s : Stmt) : He.DefD := ⟨("Face", some m), m, q, defArgs s, defBody s, defScope s, [], []⟩
def dInit : He.DefD := ⟨("Face", some "__init__"), "__init__", "Face.__init__", defArgs (inClass (top 22) 0), defBody (inClass (top 22) 0), defScope (inClass (top 22) 0), [], [("choices", .adr (kwOf ("Face", some "__init__") "choices")), ("records", .adr (kwOf ("Face", some "__init__") "records")), ("calls", .adr (kwOf ("Face", some "__init__") "calls"))]⟩
def fdef (x : Str) (s : Stmt) : He.DefD := ⟨(x, none), x, x, defArgs s, defBody s, defScope s, [], []⟩
def dInitO : He.DefD := ⟨("outcome", none), "outcome", "outcome", defArgs (top 15), defBody (top 15), defScope (top 15), [], [("answers", .adr (kwOf ("outcome", none) "answers"))]⟩
def fn0 : List He.DefD := [dInit, mdef "call_of" "Face.call_of" (inClass (top 22) 5), fdef "is_whole" (top 5), fdef "copied" (top 8), dInitO, fdef "do_at_home" (top 16), fdef "moved" (top 17), fdef "_law_bag" (top 24), fdef "_law_take" (top 25), fdef "_law_name" (top 26), fdef "_law_names" (top 27), fdef "_law_face" (top 28)]
def fn1 : List He.DefD := [fdef "_law_numbers" (top 29), fdef "_law_of" (top 30), fdef "_law_plain_kind" (top 31), fdef "_law_drawn_kind" (top 32), fdef "_law_picks" (top 33), fdef "_law_call_deeds" (top 34), fdef "_law_served" (top 35), fdef "_law_value" (top 37), fdef "_law_call_of" (top 38), fdef "_law_run" (top 42), fdef "_law_named_few" (top 43), fdef "_law_right" (top 44)]
def fn2 : List He.DefD := [fdef "law" (top 45)]
def fn : List He.DefD := fn0 ++ fn1 ++ fn2
def fa0 : List He.Fa := [.glo "Face", .glo "is_whole", .glo "copied", .glo "outcome", .glo "do_at_home", .glo "moved", .glo "_law_bag", .glo "_law_take", .glo "_law_name", .glo "_law_names", .glo "_law_face", .glo "_law_numbers", .glo "_law_of", .glo "_law_plain_kind", .glo "_law_drawn_kind", .glo "_law_picks", .glo "_law_call_deeds", .glo "_law_served", .glo "_law_value", .glo "_law_call_of", .glo "_law_run", .glo "_law_named_few", .glo "_law_right", .glo "law", .free "len", .free "abs", .free "int", .free "range", .free "list", .free "min"]
def fa1 : List He.Fa := [.free "max", .free "tuple", .free "dict", .free "enumerate", .free "isinstance", .free "str", .free "sorted", .free "set", .free "sum", .free "zip", .free "divmod", .free "bool", .free "repr", .cls "Face", .noat "Face" "name", .noat "Face" "edition", .noat "Face" "choices", .noat "Face" "records", .noat "Face" "calls", .mkr "Face", .meth "Face" "call_of", .meth "Face" "__init__", .int "GREATEST_WHOLE" 1000000000, .str "TOO_GREAT" "great"]
def fa : List He.Fa := fa0 ++ fa1
abbrev fC (K : PySem.W.Frag) : Addr := He.ga K "Face"
def ex (K : PySem.W.Frag) : Bool := true
abbrev R : PySem.W.OpenRow := PySem.W.OpenLaw.row PySem.Challenge.rw_facehouse_k39_outcomes
abbrev hk : PySem.W.Hook := He.hookX 6 fa fn [] [] ex
def ob (s : PySem.W.SharedT) : He.AlX := He.obsX 6 fa fn [] [] ex (HandSHeadRun.getT s)
theorem ob_eq (s : PySem.W.SharedT) : ob s = hk.obs s.abs := He.obsX_eq (HandSHeadRun.getT_eq s)
def loose0 : List Str := ["_wall", "__name__", "PLAIN_KINDS", "is_plain", "is_whole", "GREATEST_WHOLE", "copied", "fields_by_name", "TOO_GREAT", "face_asked", "asked", "outcome"]
def loose1 : List Str := ["do_at_home", "moved", "NoName", "NoCall", "Face", "_law_bag", "_law_take", "_law_name", "_law_names", "_law_face", "_law_numbers", "_law_of"]
def loose2 : List Str := ["_law_plain_kind", "_law_drawn_kind", "_law_picks", "_law_call_deeds", "_law_served", "_law_least", "_law_value", "_law_call_of", "_law_called", "_law_is_plain", "_law_nested", "_law_run"]
def loose3 : List Str := ["_law_named_few", "_law_right"]
def loose : List Str := loose0 ++ loose1 ++ loose2 ++ loose3
theorem run (w : World) : HandSHeadRun.RunEq R (PySem.W.view R.prog [45]) hk ob 20000 loose w := by
  intro os
  kernel_rfl
end Fh

set_option Elab.async false
set_option linter.all false
set_option maxRecDepth 100000
set_option maxHeartbeats 4000000
namespace Fh
open PySem L2 PyProof.Rows
/-! ### a def that is called by its name -/
structure Has (P : Program) (w : World) (K : PySem.W.Frag) (mg : Str → Option Value) (base : Heap) (x : Str) (k : Nat) (ps : List Str) (sp : Sp) : Prop where
  ex : ∃ (f : Addr) (fd : FuncData), mg x = some (.ref f) ∧ PySem.W.keepIn K (.ref f) = true ∧ Binds K fd ps [] ∧ FnOk P w K mg base CX0 k f fd ps sp
theorem pe_has {X : Cx} {k : Nat} {x : Str} {ps : List Str} {sp : Sp} {e : Expr} {es : List Expr} {t : TA} {p pos : Pos} (D : Has X.prog X.w X.K X.mg X.base x k ps sp) (hr : Room k X.A) (hg : Gl X x)
    (ha : PA X (e :: es) t) (hdb : (x == ("__debug__" : Str)) = false := by decide) (he : starEach (e :: es) X.env = (false, eval e X.env) :: starEach es X.env := by rfl) (hpl : (backTo pos (starEach es X.env)).any (·.1) = false := by rfl) :
    PE X (.Call (.Name x p) (e :: es) [] pos) (tCall sp [] E0 t) := by
  obtain ⟨f, fd, hm, hk, hb, F⟩ := D.ex
  exact pe_call F hr hg hm hk hb .nil pass0 ha hdb he hpl
theorem iteT_elim {A B : Prop} (h : if true = true then A else B) : A := by rw [if_pos rfl] at h; exact h
theorem iteF_elim {A B : Prop} (h : if false = true then A else B) : B := by rw [if_neg Bool.false_ne_true] at h; exact h
theorem yes {σ : L2.St} {H : Hp} {Q : Bool → Hp → Prop} (h : Q true H) : tYes σ H Q := h
theorem b01 {i : Int} {k : Bool} : CMul i (if k = true then 1 else 0) := by cases k <;> exact .inr ⟨by decide, by decide⟩
/-! ### names -/
def Lt (c : Nat) : Prop := 97 ≤ c ∧ c ≤ 122
structure Nm (z : Str) : Prop where
  lo : 1 ≤ z.length
  hi : z.length ≤ 8
  sg : ∀ c ∈ z.cps.toList, Lt c
def one (c : Nat) : Str := ⟨#[c]⟩
theorem tl_ones : ∀ cs : List Nat, ∀ a : Str, a.cps.toList = [] → (Str.join a (cs.map one)).cps.toList = cs
  | [], _, _ => rfl
  | [c], _, _ => rfl
  | c :: d :: r, a, ha => by
    show (one c ++ a ++ Str.join a ((d :: r).map one)).cps.toList = _
    have e := tl_ones (d :: r) a ha
    show ((one c).cps ++ a.cps ++ (Str.join a ((d :: r).map one)).cps).toList = _
    rw [Array.toList_append, Array.toList_append, e, ha]
    rfl
theorem join_nm {cs : List Nat} (h1 : 1 ≤ cs.length) (h2 : cs.length ≤ 8) (h3 : ∀ c ∈ cs, Lt c) : Nm (Txt.join "" (cs.map one)) := by
  have e : (Txt.join "" (cs.map one)).cps.toList = cs := by
    show (Builtin.Str.glued "" (cs.map one)).cps.toList = cs
    rw [StrLaws.glued_eq_join]
    exact tl_ones cs _ rfl
  have l : (Txt.join "" (cs.map one)).length = cs.length := by
    show (Txt.join "" (cs.map one)).cps.size = _
    rw [← Array.length_toList, e]
  exact ⟨by rw [l]; exact h1, by rw [l]; exact h2, by rw [e]; exact h3⟩
theorem len_ones : ∀ cs : List Nat, ((cs.map one).map (·.length)).sum = cs.length
  | [] => rfl
  | c :: r => by
    show (one c).length + ((r.map one).map (·.length)).sum = r.length + 1
    rw [len_ones r]
    show 1 + _ = _
    omega
abbrev abc : Str := "abcdefghijklmnopqrstuvwxyz"
theorem abc_codes : abc.cps.toList = [97, 98, 99, 100, 101, 102, 103, 104, 105, 106, 107, 108, 109, 110, 111, 112, 113, 114, 115, 116, 117, 118, 119, 120, 121, 122] := by decide +kernel
theorem abc_at {i : Int} (h0 : 0 ≤ i) (h1 : i < 26) : ∃ c, atI abc.cps.toList i = some c ∧ Lt c := by
  have hl : abc.cps.toList.length = 26 := by rw [abc_codes]; rfl
  obtain ⟨v, e, _, hm⟩ := atI_in (xs := abc.cps.toList) h0 (by rw [hl]; exact h1)
  refine ⟨v, e, ?_⟩
  rw [abc_codes] at hm
  revert hm
  unfold Lt
  simp only [List.mem_cons, List.not_mem_nil, or_false]
  omega
def spName : Sp := fun vs H Q _ => ∃ (b : Addr) (n : Nat), vs = [.ref b] ∧ Bag H b n ∧ n + 10 ≤ most ∧
  ∀ (z : Str) (H' : Hp), Nm z → Kp b H H' → Bag H' b (n + 10) → Q (.str z) H'
abbrev sName : Stmt := top 26
section
variable {P : Program} {w : World} {K : PySem.W.Frag} {mg : Str → Option Value} {base : Heap}
theorem ok_bag {f : Addr} {fd : FuncData} (F : Fun K "_law_bag" "_law_bag" sBag f fd) (G : Glb mg) : FnOk P w K mg base CX0 1 f fd ["_law_script", "_law_at"] (spBag K) := by
  refine F.ok scBag (fun vs H Q E h => ?_) (fun cdv A outer s H vs Q E hr h => ?_)
  · obtain ⟨a, ns, i, rfl, _⟩ := h
    rfl
  · obtain ⟨a, ns, i, rfl, hS, i0, i1, k⟩ := h
    refine ⟨_, pss_cons (ps_set (i := 2) scBag.nd rfl (Or.inl rfl) (pe_op op_add (pe_op op_add (pe_op op_mul (pe_op op_mul pe_int (pv 1)) (pv 1)) (pe_op op_mul pe_int (pv 1))) pe_int))
      (C8.pss_cut (ps_if (pt_cmpR op_lt (pv 1) (pe_callB call_len_seq (by rfl) G.len PySem.boot_len (pa_cons (pv 0) pa_nil)) (nomark _)) (pss_one (ps_set (i := 2) scBag.nd rfl (Or.inl rfl) (pe_ix ix_list (pv 0) (pv 1) (fun _ _ => rfl)))) pss_nil)
      (pss_cons (ps_set (i := 3) scBag.nd rfl (Or.inl rfl) (pe_callB call_abs (by rfl) G.abs (by decide +kernel) (pa_cons (pv 2) pa_nil)))
      (pss_one (ps_ret (pe_lst (pa_cons (pe_op op_mul (pv 3) (pe_callTy call_int1 (by rfl) G.int (by decide +kernel) (pa_cons (pe_cmpR op_ge (pv 3) (pe_op op_pow pe_int pe_int) (nomark _)) pa_nil)))
        (pa_cons (pe_op op_add (pe_op op_mod (pv 2) (pe_op op_add (pe_op op_pow pe_int pe_int) pe_int)) (pe_op op_mul pe_int (pv 1))) (pa_cons pe_int pa_nil)))))))), ?_⟩
    refine ⟨_, rfl, _, _, rfl, rfl, .inl ⟨by decide, by decide⟩, _, rfl, _, _, rfl, rfl, .inr ⟨by omega, by omega⟩, _, rfl, _, _, rfl, rfl, .inl ⟨by decide, by decide⟩, _, _, rfl, rfl, _, _, rfl, rfl, ?_⟩
    refine ⟨fun σ H' => H' = H ∧ ∃ c : Int, σ = [some (.ref a), some (.int i), some (.int c), none], ?_, ?_⟩
    · refine ⟨_, rfl, _, rfl, a, _, rfl, .inl hS, _, _, rfl, rfl, _, rfl, ?_⟩
      refine ite2 (fun h => ?_) (fun _ => ?_)
      · have hlt : i < ((ns.map V.int).length : Int) := of_decide_eq_true h
        obtain ⟨v, e1, _, hm⟩ := atI_in (xs := ns.map V.int) i0 hlt
        obtain ⟨c, _, rfl⟩ := List.mem_map.mp hm
        exact ⟨_, rfl, _, rfl, a, _, _, _, rfl, rfl, hS, e1, rfl, c, rfl⟩
      · exact ⟨rfl, _, rfl⟩
    · rintro σ H' ⟨rfl, c, rfl⟩
      refine ⟨_, rfl, _, rfl, ?_⟩
      have e18 : (10 : Int) ^ (18 : Int).toNat = 1000000000000000000 := by decide
      have p18 : CPow 10 18 := ⟨by decide, by decide, by decide⟩
      refine ⟨_, rfl, _, rfl, _, _, rfl, rfl, p18, _, _, rfl, rfl, .inr ⟨_, rfl, _, _, rfl, rfl, b01, ?_⟩⟩
      refine ⟨_, rfl, _, _, rfl, rfl, p18, _, _, rfl, rfl, _, _, rfl, rfl, (by show (0 : Int) < 10 ^ (18 : Int).toNat + 9; rw [e18]; decide), _, rfl, _, _, rfl, rfl, .inl ⟨by decide, by decide⟩, _, _, rfl, rfl, ?_⟩
      refine ⟨(by show 3 ≤ sizeLine; decide), fun p hp => ?_⟩
      have m0 : 0 ≤ c % (10 ^ (18 : Int).toNat + 9) := Int.emod_nonneg _ (by rw [e18]; decide)
      have m1 : c % (10 ^ (18 : Int).toNat + 9) < 10 ^ (18 : Int).toNat + 9 := Int.emod_lt_of_pos _ (by rw [e18]; decide)
      rw [e18] at m0 m1
      refine k p _ (fun b o eb => by rw [upd_ne (ne_of_none eb hp)]; exact eb) hp ⟨_, _, 0, upd_same, ?_, ?_, by omega, by omega⟩
      · rw [e18]; omega
      · rw [e18]; omega
theorem scName : FnScope ["_law_bag_here", "_law_letters", "_law_size", "_law_spot"] ["_law_bag_here"] (defScope sName) := ⟨rfl, rfl, rfl, by decide +kernel, rfl, by decide +kernel, by decide +kernel⟩
theorem ok_name {f : Addr} {fd : FuncData} (F : Fun K "_law_name" "_law_name" sName f fd) (G : Glb mg) (DT : Has P w K mg base "_law_take" 1 ["_law_bag_here", "_law_size"] spTake) : FnOk P w K mg base CX0 2 f fd ["_law_bag_here"] spName := by
  refine F.ok scName (fun vs H Q E h => ?_) (fun cdv A outer s H vs Q E hr h => ?_)
  · obtain ⟨b, n, rfl, _⟩ := h
    rfl
  · obtain ⟨b, n, rfl, hB, hn, k⟩ := h
    have hn' : n + 10 ≤ 1000000 := hn
    refine ⟨_, pss_cons (ps_set (i := 1) scName.nd rfl (Or.inr rfl) pe_str)
      (pss_cons (ps_set (i := 2) scName.nd rfl (Or.inl rfl) (pe_op op_add pe_int (pe_has DT hr rfl (pa_cons (pv 0) (pa_cons (pe_mid (pe_ix ix_list (pe_lst (pa_cons pe_int (pa_cons pe_int pa_nil)))
          (pe_callTy call_int1 (by rfl) G.int (by decide +kernel) (pa_cons (pe_cmpR op_eq (pe_has DT hr rfl (pa_cons (pv 0) (pa_cons pe_int pa_nil))) pe_int (nomark _)) pa_nil)) (fun _ _ => rfl))) pa_nil)))))
      (pss_one (ps_ret (pe_join pe_str (pe_lc (own := [("_law_spot", 3)]) (g := gName 3) (tt := tYes) rfl scName.nd (pi_range1 rfl G.range (pa_cons (pv 2) pa_nil)) (blkOk_by (N := ["_law_bag_here", "_law_letters", "_law_size", "_law_spot"]) (sc := defScope sName) (by decide +kernel))
        (fun _ _ _ _ _ => pg_name (i := 3) scName.nd rfl (Or.inl rfl)) (fun _ _ _ _ _ => pts_nil)
        (fun _ _ _ _ _ => pe_ix ix_str (pv 1) (pe_has DT hr rfl (pa_cons (pv 0) (pa_cons pe_int pa_nil))) (fun _ _ => rfl))))))), ?_⟩
    refine ⟨_, rfl, fun v H1 => ∃ m : Int, v = .int m ∧ (m = 2 ∨ m = 8) ∧ Kp b H H1 ∧ Bag H1 b (n + 1), ?_, ?_⟩
    · refine ⟨by decide, fun p hp => ?_⟩
      refine ⟨_, rfl, b, 4, n, rfl, by decide, by decide, hB.new hp, by show n ≤ 1000000; omega, fun d H1 d0 d1 K1 B1 => ?_⟩
      have npb : p ≠ b := fun e => by
        obtain ⟨o, ho⟩ := hB.at
        rw [e, ho] at hp
        cases hp
      have hp1 : H1 p = some (.lst [.int 2, .int 8]) := K1 p _ npb upd_same
      refine ⟨rfl, .inr ⟨_, rfl, ?_⟩⟩
      have kp0 : Kp b H H1 := (Kp.refl.new hp).trans K1
      cases decide (V.int d = V.int 0) with
      | true => exact ⟨p, _, _, _, rfl, rfl, SqL.of hp1, rfl, 8, rfl, .inr rfl, kp0, B1⟩
      | false => exact ⟨p, _, _, _, rfl, rfl, SqL.of hp1, rfl, 2, rfl, .inl rfl, kp0, B1⟩
    · rintro v H1 ⟨m, rfl, hm, K1, B1⟩
      refine ⟨b, m, n + 1, rfl, by omega, by omega, B1, by show n + 1 ≤ 1000000; omega, fun d H2 d0 d1 K2 B2 => ?_⟩
      refine ⟨_, _, rfl, rfl, ?_⟩
      have hd9 : 1 + d ≤ 8 := by omega
      have hd0 : (1 + d).toNat = (1 + d) := by omega
      refine ⟨⟨_, rfl⟩, _, rfl, 1 + d, rfl, by omega, by omega, fun D hD => ?_⟩
      refine lc_range (lo := 0) (n := (1 + d).toNat) (fun i H3 => Kp b H H3 ∧ Bag H3 b (n + 2 + i) ∧ D ≠ b ∧ ∃ cs : List Nat, H3 D = some (.lst ((cs.map one).map V.str)) ∧ cs.length = i ∧ ∀ c ∈ cs, Lt c) ?_ ?_ ?_
      · have nDb : D ≠ b := fun e => by
          obtain ⟨o, ho⟩ := B2.at
          rw [e, ho] at hD
          cases hD
        exact ⟨(K1.trans K2).new hD, B2.new hD, nDb, [], upd_same, rfl, fun c h => nomatch h⟩
      · rintro i H3 hi ⟨K3, B3, nDb, cs, hD3, hl, hc⟩
        refine ⟨rfl, ?_⟩
        refine yes (iteT ?_)
        refine ⟨_, rfl, _, rfl, b, 26, n + 2 + i, rfl, by decide, by decide, B3, by show n + 2 + i ≤ 1000000; omega, fun e H4 e0 e1 K4 B4 => ?_⟩
        obtain ⟨c, hce, hcl⟩ := abc_at e0 e1
        refine ⟨_, _, c, rfl, rfl, by decide +kernel, hce, ?_⟩
        have hD4 := K4 D _ nDb hD3
        have h8 : (1 + d).toNat ≤ 8 := by omega
        have hsz : ((cs.map one).map V.str).length < sizeLine := by
          rw [List.length_map, List.length_map, hl]
          exact Nat.lt_of_lt_of_le hi (Nat.le_trans h8 (by decide))
        refine ⟨_, hD4, hsz, ?_⟩
        refine ⟨(K3.trans K4).wr ?_, B4.ne nDb, nDb, cs ++ [c], ?_, by rw [List.length_append, hl]; rfl, ?_⟩
        · exact (K1.trans K2).free B2.at hD
        · rw [upd_same, List.map_append, List.map_append]; rfl
        · intro c' hc'
          rcases List.mem_append.mp hc' with h | h
          · exact hc c' h
          · rw [List.mem_singleton.mp h]; exact hcl
      · rintro H3 ⟨K3, B3, nDb, cs, hD3, hl, hc⟩
        refine ⟨_, _, _, rfl, rfl, .inl (SqL.of hD3), ?_, ?_⟩
        · rw [len_ones, List.length_map, hl]
          have : (1 + d).toNat ≤ 8 := by omega
          show _ + _ * 0 ≤ _
          omega
        · exact k _ _ (join_nm (by omega) (by omega) hc) K3 (B3.mono (by omega))
end
end Fh

set_option Elab.async false
set_option linter.all false
set_option maxRecDepth 100000
set_option maxHeartbeats 4000000
namespace Fh
open PySem L2 PyProof.Rows
/-! ### lists of texts -/
theorem flat_strs (zs : List Str) : (zs.map V.str).all flatV = true := by
  rw [List.all_eq_true]
  intro x hx
  obtain ⟨z, _, rfl⟩ := List.mem_map.mp hx
  rfl
theorem in_strs (z : Str) (zs : List Str) : inV (.str z) (zs.map V.str) = decide (z ∈ zs) := by
  unfold inV
  induction zs with
  | nil => rfl
  | cons a r ih =>
    rw [List.map_cons, List.any_cons, ih]
    show ((a == z) || decide (z ∈ r)) = decide (z ∈ a :: r)
    by_cases h : a = z
    · subst h; simp
    · have h' : ¬ z = a := fun e => h e.symm
      simp [h, h']
theorem strs_ne_bag {H : Hp} {l b : Addr} {n : Nat} {zs : List Str} (hl : H l = some (.lst (zs.map V.str))) (hb : Bag H b n) : l ≠ b := by
  rintro rfl
  obtain ⟨x, y, z, e, _⟩ := hb
  rw [hl] at e
  cases zs with
  | nil => cases e
  | cons a r => cases e
theorem new_ne {H : Hp} {p b : Addr} {n : Nat} (hp : H p = none) (hb : Bag H b n) : p ≠ b := by
  rintro rfl
  obtain ⟨x, y, z, e, _⟩ := hb
  rw [hp] at e
  cases e
theorem sub_len {α : Type} [DecidableEq α] : ∀ (l u : List α), l.Nodup → (∀ x ∈ l, x ∈ u) → l.length ≤ u.length
  | [], _, _, _ => Nat.zero_le _
  | x :: r, u, hn, hs => by
    have hx : x ∈ u := hs x List.mem_cons_self
    obtain ⟨h1, h2⟩ := List.nodup_cons.mp hn
    have q := sub_len r (u.erase x) h2 fun y hy => (List.mem_erase_of_ne (fun (e : y = x) => h1 (e ▸ hy))).mpr (hs y (List.mem_cons_of_mem _ hy))
    rw [List.length_erase_of_mem hx] at q
    have := List.length_pos_of_mem hx
    simp only [List.length_cons]
    omega
theorem one_app_inj {c d : Nat} {t : Str} (h : one c ++ t = one d ++ t) : c = d := by
  have e : (one c ++ t).cps = (one d ++ t).cps := by rw [h]
  have e2 : ((one c).cps ++ t.cps).toList = ((one d).cps ++ t.cps).toList := by
    show (one c ++ t).cps.toList = _
    rw [e]
    rfl
  rw [Array.toList_append, Array.toList_append] at e2
  exact (List.cons.inj e2).1
def abcL : List Nat := [97, 98, 99, 100, 101, 102, 103, 104, 105, 106, 107, 108, 109, 110, 111, 112, 113, 114, 115, 116, 117, 118, 119, 120, 121, 122]
theorem abc_sz : abc.cps.size = 26 := by decide +kernel
theorem abcL_nodup : abcL.Nodup := by decide
theorem abcL_lt : ∀ c ∈ abcL, Lt c := by unfold Lt; decide
theorem fresh_tail (t : Str) (u : List Str) (hu : u.length < 26) : ∃ z ∈ abcL.map (fun c => one c ++ t), z ∉ u := by
  apply Classical.byContradiction
  intro h
  have hs : ∀ z ∈ abcL.map (fun c => one c ++ t), z ∈ u := fun z hz => Classical.byContradiction fun hn => h ⟨z, hz, hn⟩
  have hn : (abcL.map (fun c => one c ++ t)).Nodup := by
    refine List.Pairwise.map _ (fun c d hcd e => ?_) abcL_nodup
    exact hcd (one_app_inj e)
  have q := sub_len _ u hn hs
  rw [List.length_map] at q
  have : abcL.length = 26 := rfl
  omega
def tail7 (z : Str) : Str := cutS z (some 1) (some 7)
theorem tail7_nm {z : Str} (h : Nm z) : (tail7 z).length ≤ 6 ∧ ∀ c ∈ (tail7 z).cps.toList, Lt c := by
  have e : (tail7 z).cps.toList = (z.cps.toList.drop (HT.sIx z.length 0 (some 1))).take (HT.sIx z.length z.length (some 7) - HT.sIx z.length 0 (some 1)) := rfl
  have e1 : HT.sIx z.length 0 (some 1) = 1 := by
    have := HT.sIx_nat z.length 0 1
    rw [show ((1 : Nat) : Int) = 1 from rfl] at this
    rw [this]
    have := h.lo
    omega
  have e7 : HT.sIx z.length z.length (some 7) ≤ 7 := by
    have := HT.sIx_nat z.length z.length 7
    rw [show ((7 : Nat) : Int) = 7 from rfl] at this
    rw [this]
    omega
  refine ⟨?_, fun c hc => ?_⟩
  · show (tail7 z).cps.size ≤ 6
    rw [← Array.length_toList, e, List.length_take, e1]
    omega
  · rw [e] at hc
    exact h.sg c (List.mem_of_mem_drop (List.mem_of_mem_take hc))
theorem app_codes (a b : Str) : (a ++ b).cps.toList = a.cps.toList ++ b.cps.toList := by
  show (a.cps ++ b.cps).toList = _
  rw [Array.toList_append]
theorem app_len (a b : Str) : (a ++ b).length = a.length + b.length := by
  show (a.cps ++ b.cps).size = _
  rw [Array.size_append]
  rfl
theorem tails_nm {z t : Str} (h : Nm z) (ht : t ∈ abcL.map (fun c => one c ++ tail7 z) ++ abcL.map (fun c => (one c ++ "x") ++ tail7 z)) : Nm t := by
  obtain ⟨hl, hs⟩ := tail7_nm h
  have hone : ∀ c, (one c).length = 1 := fun _ => rfl
  have hx : ("x" : Str).length = 1 := by decide +kernel
  have hxc : ("x" : Str).cps.toList = [120] := by decide +kernel
  rcases List.mem_append.mp ht with h' | h'
  · obtain ⟨c, hc, rfl⟩ := List.mem_map.mp h'
    refine ⟨by rw [app_len, hone]; omega, by rw [app_len, hone]; omega, fun d hd => ?_⟩
    rw [app_codes] at hd
    rcases List.mem_append.mp hd with hd | hd
    · rw [List.mem_singleton.mp hd]; exact abcL_lt c hc
    · exact hs d hd
  · obtain ⟨c, hc, rfl⟩ := List.mem_map.mp h'
    refine ⟨by rw [app_len, app_len, hone]; omega, by rw [app_len, app_len, hone, hx]; omega, fun d hd => ?_⟩
    rw [app_codes, app_codes, hxc] at hd
    rcases List.mem_append.mp hd with hd | hd
    · rcases List.mem_append.mp hd with hd | hd
      · rw [List.mem_singleton.mp hd]; exact abcL_lt c hc
      · rw [List.mem_singleton.mp hd]; exact ⟨by decide, by decide⟩
    · exact hs d hd
/-! ### comprehensions that only read -/
theorem put_next {H1 : Hp} {D : Addr} {ys : List V} {i : Nat} {y : V} (h : ys[i]? = some y) : upd (upd H1 D (.lst (ys.take i))) D (.lst (ys.take i ++ [y])) = upd H1 D (.lst (ys.take (i + 1))) := by
  rw [upd_upd, List.take_succ, h]
  rfl
theorem take_sz {ys : List V} {i n : Nat} (hn : ys.length ≤ n) (hl : n < sizeLine) : (ys.take i).length < sizeLine := by
  rw [List.length_take]
  omega
theorem abcL_at {i : Nat} {c : Nat} (h : abc.cps[i]? = some c) : abcL[i]? = some c := by
  have e : abc.cps = abcL.toArray := by decide +kernel
  rw [e] at h
  simpa using h
def spUnlikeN : Sp := fun vs H Q _ => ∃ (b t : Addr) (size : Int) (tk : List Str) (n : Nat), vs = [.ref b, .int size, .ref t] ∧ Bag H b n ∧ 0 ≤ size ∧ size ≤ 12 ∧ H t = some (.lst (tk.map V.str)) ∧ tk.length ≤ 12 ∧ n + 200 ≤ most ∧
  ∀ (p : Addr) (zs : List Str) (H' : Hp), H p = none → H' p = some (.lst (zs.map V.str)) → (zs.length : Int) = size → zs.Nodup → (∀ z ∈ zs, Nm z ∧ z ∉ tk) → Kp b H H' → Bag H' b (n + 120) → Q (.ref p) H'
abbrev sUnlikeN : Stmt := top 27
abbrev nUnlikeN : List Str := ["_law_bag_here", "_law_size", "_law_taken", "_law_found", "_law_spot", "_law_word", "_law_used", "_law_tails", "_law_one"]
section
variable {P : Program} {w : World} {K : PySem.W.Frag} {mg : Str → Option Value} {base : Heap}
theorem scUnlikeN : FnScope nUnlikeN ["_law_bag_here", "_law_size", "_law_taken"] (defScope sUnlikeN) := ⟨rfl, rfl, rfl, by decide +kernel, rfl, by decide +kernel, by decide +kernel⟩
theorem ok_unlikeN {f : Addr} {fd : FuncData} (F : Fun K "_law_names" "_law_names" sUnlikeN f fd) (G : Glb mg) (DN : Has P w K mg base "_law_name" 2 ["_law_bag_here"] spName) : FnOk P w K mg base CX0 3 f fd ["_law_bag_here", "_law_size", "_law_taken"] spUnlikeN := by
  refine F.ok scUnlikeN (fun vs H Q E h => ?_) (fun cdv A outer s H vs Q E hr h => ?_)
  · obtain ⟨b, t, size, tk, n, rfl, _⟩ := h
    rfl
  · obtain ⟨b, t, size, tk, n, rfl, hB, s0, s1, ht, htl, hn, k⟩ := h
    have hn' : n + 200 ≤ 1000000 := hn
    have ntb : t ≠ b := strs_ne_bag ht hB
    refine ⟨_, pss_cons (ps_set (i := 3) scUnlikeN.nd rfl (Or.inl rfl) (pe_lst pa_nil))
      (pss_cons (ps_for PassesOwn.never rfl (pi_range1 rfl G.range (pa_cons (pv 1) pa_nil)) (pg_name (i := 4) scUnlikeN.nd rfl (Or.inl rfl))
        (pss_cons (ps_set (i := 5) scUnlikeN.nd rfl (Or.inr rfl) (pe_has DN hr rfl (pa_cons (pv 0) pa_nil)))
        (pss_cons (ps_set (i := 6) scUnlikeN.nd rfl (Or.inr rfl) (pe_op op_cat (pv 3) (pe_callTy call_list_of (by rfl) G.list (by decide +kernel) (pa_cons (pv 2) pa_nil))))
        (C8.pss_cut (ps_if (pt_cmpR op_in_seq (pv 5) (pv 6) rfl)
          (pss_cons (ps_setLc (i := 7) (own := [("_law_one", 8)]) (g := gName 8) (tt := tYes) rfl scUnlikeN.nd rfl rfl (sw_true rfl rfl rfl (by decide +kernel)) (pi_str pe_str) (blkOk_by (N := nUnlikeN) (sc := defScope sUnlikeN) (by decide +kernel))
            (fun _ _ _ _ _ => pg_name (i := 8) scUnlikeN.nd rfl (Or.inl rfl)) (fun _ _ _ _ _ => pts_nil)
            (fun _ _ _ _ _ => pe_op op_add_str (pv 8) (pe_slice sl_str (pv 5) (po_some pe_int) (po_some pe_int))))
          (pss_cons (ps_set (i := 7) scUnlikeN.nd rfl (Or.inl rfl) (pe_op op_cat (pv 7) (pe_lc (own := [("_law_one", 8)]) (g := gName 8) (tt := tYes) rfl scUnlikeN.nd (pi_str pe_str) (blkOk_by (N := nUnlikeN) (sc := defScope sUnlikeN) (by decide +kernel))
            (fun _ _ _ _ _ => pg_name (i := 8) scUnlikeN.nd rfl (Or.inl rfl)) (fun _ _ _ _ _ => pts_nil)
            (fun _ _ _ _ _ => pe_op op_add_str (pe_op op_add_str (pv 8) pe_str) (pe_slice sl_str (pv 5) (po_some pe_int) (po_some pe_int))))))
          (pss_one (ps_set (i := 5) scUnlikeN.nd rfl (Or.inr rfl) (pe_ix ix_list (pe_lc (own := [("_law_one", 8)]) (g := gName 8) (tt := tTest (tOp (rIn K true) (tVar 8) (tVar 6))) rfl scUnlikeN.nd (pi_list (pv 7)) (blkOk_by (N := nUnlikeN) (sc := defScope sUnlikeN) (by decide +kernel))
            (fun _ _ _ _ _ => pg_name (i := 8) scUnlikeN.nd rfl (Or.inl rfl)) (fun _ _ _ _ _ => pts_one (pt_cmpR op_notIn_seq (pv 8) (pv 6) rfl))
            (fun _ _ _ _ _ => pv 8)) pe_int (fun _ _ => rfl))))))
          pss_nil)
        (pss_one (ps_expr (pe_bm PySem.F.plainAttrs_list PySem.F.slot_list_append PySem.F.type_list_append mt_append (pv 3) (pa_cons (pv 5) pa_nil))))))))
      (pss_one (ps_ret (pv 3)))), ?_⟩
    refine ⟨by decide, fun p hp => ?_⟩
    have npb : p ≠ b := new_ne hp hB
    refine ⟨_, rfl, size, rfl, by omega, by omega, ?_⟩
    refine for_range (lo := 0) (n := size.toNat) (fun i σ H3 => (∃ a4 a5 a6 a7 a8, σ = [some (.ref b), some (.int size), some (.ref t), some (.ref p), a4, a5, a6, a7, a8]) ∧ Kp b H H3 ∧ Bag H3 b (n + 10 * i) ∧ ∃ zs : List Str, H3 p = some (.lst (zs.map V.str)) ∧ zs.length = i ∧ zs.Nodup ∧ ∀ z ∈ zs, Nm z ∧ z ∉ tk) ?_ ?_ ?_
    · exact ⟨⟨_, _, _, _, _, rfl⟩, Kp.refl.new hp, hB.new hp, [], upd_same, rfl, List.nodup_nil, fun z h => nomatch h⟩
    · rintro i σ H3 hi ⟨⟨a4, a5, a6, a7, a8, rfl⟩, K3, B3, zs, hp3, hl, hnd, hz⟩
      have hB3 : n + 10 * i + 10 ≤ 1000000 := by omega
      have hi12 : i < 12 := by omega
      refine ⟨_, rfl, b, n + 10 * i, rfl, B3, hB3, fun z H4 z4 K4 B4 => ?_⟩
      have K4' : Kp b H H4 := K3.trans K4
      have ht4 : H4 t = some (.lst (tk.map V.str)) := K4' t _ ntb ht
      have hp4 : H4 p = some (.lst (zs.map V.str)) := K4 p _ npb hp3
      refine ⟨_, rfl, _, rfl, t, _, rfl, .inl (SqL.of ht4), fun l hl4 => ?_⟩
      have npl : p ≠ l := ne_of_none hp4 hl4
      refine ⟨p, l, _, _, rfl, rfl, (by rw [upd_ne npl]; exact hp4), upd_same, ?_, fun u hu => ?_⟩
      · rw [List.length_map, List.length_map]
        exact Nat.le_trans (show zs.length + tk.length ≤ 24 by omega) (by decide)
      rw [← List.map_append]
      have K6 : Kp b H (upd (upd H4 l (.lst (tk.map V.str))) u (.lst ((zs ++ tk).map V.str))) := (K4'.new hl4).new hu
      have B6 : Bag (upd (upd H4 l (.lst (tk.map V.str))) u (.lst ((zs ++ tk).map V.str))) b (n + 10 * (i + 1)) := ((B4.new hl4).new hu).mono (by omega)
      have hu6 : (upd (upd H4 l (.lst (tk.map V.str))) u (.lst ((zs ++ tk).map V.str))) u = some (.lst ((zs ++ tk).map V.str)) := upd_same
      have hp6 : (upd (upd H4 l (.lst (tk.map V.str))) u (.lst ((zs ++ tk).map V.str))) p = some (.lst (zs.map V.str)) := by
        have hpl : (upd H4 l (.lst (tk.map V.str))) p = some (.lst (zs.map V.str)) := by rw [upd_ne npl]; exact hp4
        rw [upd_ne (ne_of_none hpl hu)]
        exact hpl
      generalize (upd (upd H4 l (.lst (tk.map V.str))) u (.lst ((zs ++ tk).map V.str))) = H6 at K6 B6 hu6 hp6
      refine ⟨fun σ H' => (∃ v a7 a8, σ = [some (.ref b), some (.int size), some (.ref t), some (.ref p), some (.int (0 + i)), some (.str v), some (.ref u), a7, a8] ∧ Nm v ∧ v ∉ zs ++ tk) ∧ Kp b H H' ∧ Bag H' b (n + 10 * (i + 1)) ∧ H' p = some (.lst (zs.map V.str)), ?_, ?_⟩
      · refine ⟨_, rfl, _, rfl, u, _, rfl, .inl (SqL.of hu6), rfl, flat_strs _, _, rfl, ?_⟩
        rw [in_strs]
        refine ite2 (fun _ => ?_) (fun hno => ?_)
        · refine ⟨_, rfl, fun D hD => ?_⟩
          have l1 : ∀ c, (one c).length + (tail7 z).length ≤ sizeLine := fun c => Nat.le_trans (show (one c).length + (tail7 z).length ≤ 8 by have := (tail7_nm z4).1; show 1 + _ ≤ 8; omega) (by decide)
          have l2 : ∀ c, (one c ++ "x").length + (tail7 z).length ≤ sizeLine := fun c => Nat.le_trans (show (one c ++ "x").length + (tail7 z).length ≤ 8 by have := (tail7_nm z4).1; rw [app_len]; show (1 + 1) + _ ≤ 8; omega) (by decide)
          have zL : z.length ≤ sizeLine := Nat.le_trans z4.hi (by decide)
          refine lc_it walk_str (fun j H7 => H7 = upd H6 D (.lst (((abcL.map fun c => one c ++ tail7 z).map V.str).take j))) rfl (fun _ _ _ _ => trivial) ?_ ?_
          · rintro j x H7 H8 hj rfl ⟨rfl, c, hc, rfl⟩
            have hj' := abcL_at hc
            refine ⟨rfl, yes (iteT ?_)⟩
            refine ⟨_, rfl, _, rfl, 1, rfl, 7, rfl, z, rfl, zL, _, _, rfl, rfl, l1 c, _, upd_same, take_sz (n := 26) (by simp [abcL]) (by decide), put_next ?_⟩
            rw [List.getElem?_map, List.getElem?_map, hj']
            rfl
          · rintro H7 rfl
            rw [abc_sz, List.take_of_length_le (show ((abcL.map fun c => one c ++ tail7 z).map V.str).length ≤ 26 by simp [abcL])]
            have hD7 : (upd H6 D (.lst ((abcL.map fun c => one c ++ tail7 z).map V.str))) D = some (.lst ((abcL.map fun c => one c ++ tail7 z).map V.str)) := upd_same
            have K7 : Kp b H (upd H6 D (.lst ((abcL.map fun c => one c ++ tail7 z).map V.str))) := K6.new hD
            have B7 := B6.new (o := (.lst ((abcL.map fun c => one c ++ tail7 z).map V.str))) hD
            have hu7 : (upd H6 D (.lst ((abcL.map fun c => one c ++ tail7 z).map V.str))) u = some (.lst ((zs ++ tk).map V.str)) := by rw [upd_ne (ne_of_none hu6 hD)]; exact hu6
            have hp7 : (upd H6 D (.lst ((abcL.map fun c => one c ++ tail7 z).map V.str))) p = some (.lst (zs.map V.str)) := by rw [upd_ne (ne_of_none hp6 hD)]; exact hp6
            generalize (upd H6 D (.lst ((abcL.map fun c => one c ++ tail7 z).map V.str))) = H7 at hD7 K7 B7 hu7 hp7
            refine ⟨_, rfl, _, rfl, fun D2 hD2 => ?_⟩
            refine lc_it walk_str (fun j H8 => H8 = upd H7 D2 (.lst (((abcL.map fun c => (one c ++ "x") ++ tail7 z).map V.str).take j))) rfl (fun _ _ _ _ => trivial) ?_ ?_
            · rintro j x H8 H9 hj rfl ⟨rfl, c, hc, rfl⟩
              have hj' := abcL_at hc
              refine ⟨rfl, yes (iteT ?_)⟩
              refine ⟨_, rfl, _, _, rfl, rfl, (by show 1 + 1 ≤ sizeLine; decide), _, rfl, 1, rfl, 7, rfl, z, rfl, zL, _, _, rfl, rfl, l2 c, _, upd_same, take_sz (n := 26) (by simp [abcL]) (by decide), put_next ?_⟩
              rw [List.getElem?_map, List.getElem?_map, hj']
              rfl
            · rintro H8 rfl
              rw [abc_sz, List.take_of_length_le (show ((abcL.map fun c => (one c ++ "x") ++ tail7 z).map V.str).length ≤ 26 by simp [abcL])]
              refine ⟨D, D2, _, _, rfl, rfl, (by rw [upd_ne (ne_of_none hD7 hD2)]; exact hD7), upd_same, (by simp [abcL]; decide), fun T hT => ?_⟩
              rw [← List.map_append]
              have nuT : u ≠ T := fun e => by
                rw [← e, upd_ne (ne_of_none hu7 hD2), hu7] at hT
                cases hT
              have npT : p ≠ T := fun e => by
                rw [← e, upd_ne (ne_of_none hp7 hD2), hp7] at hT
                cases hT
              generalize hts : (abcL.map fun c => one c ++ tail7 z) ++ (abcL.map fun c => (one c ++ "x") ++ tail7 z) = ts
              have hT9 : (upd (upd H7 D2 (.lst ((abcL.map fun c => (one c ++ "x") ++ tail7 z).map V.str))) T (.lst (ts.map V.str))) T = some (.lst (ts.map V.str)) := upd_same
              have K9 : Kp b H (upd (upd H7 D2 (.lst ((abcL.map fun c => (one c ++ "x") ++ tail7 z).map V.str))) T (.lst (ts.map V.str))) := (K7.new hD2).new hT
              have B9 : Bag (upd (upd H7 D2 (.lst ((abcL.map fun c => (one c ++ "x") ++ tail7 z).map V.str))) T (.lst (ts.map V.str))) b (n + 10 * (i + 1)) := (B7.new hD2).new hT
              have hu9 : (upd (upd H7 D2 (.lst ((abcL.map fun c => (one c ++ "x") ++ tail7 z).map V.str))) T (.lst (ts.map V.str))) u = some (.lst ((zs ++ tk).map V.str)) := by rw [upd_ne nuT, upd_ne (ne_of_none hu7 hD2)]; exact hu7
              have hp9 : (upd (upd H7 D2 (.lst ((abcL.map fun c => (one c ++ "x") ++ tail7 z).map V.str))) T (.lst (ts.map V.str))) p = some (.lst (zs.map V.str)) := by rw [upd_ne npT, upd_ne (ne_of_none hp7 hD2)]; exact hp7
              generalize (upd (upd H7 D2 (.lst ((abcL.map fun c => (one c ++ "x") ++ tail7 z).map V.str))) T (.lst (ts.map V.str))) = H9 at hT9 K9 B9 hu9 hp9
              have lts : ts.length = 52 := by rw [← hts]; simp [abcL]
              refine ⟨_, rfl, T, rfl, ⟨_, SqL.of hT9⟩, fun D3 hD3 => ?_⟩
              refine lc_it (walk_list (K := K) (a := T) (xs := ts.map V.str)) (fun j H10 => H10 = upd H9 D3 (.lst (((ts.take j).filter fun t => decide (t ∉ zs ++ tk)).map V.str))) rfl ?_ ?_ ?_
              · rintro j H10 _ rfl
                exact SqL.of (by rw [upd_ne (ne_of_none hT9 hD3)]; exact hT9)
              · rintro j x H10 H11 hj rfl ⟨rfl, hx⟩
                obtain ⟨y, hy, rfl⟩ : ∃ y, ts[j]? = some y ∧ x = V.str y := by
                  rw [List.getElem?_map] at hx
                  cases e : ts[j]? with
                  | none => rw [e] at hx; cases hx
                  | some y => rw [e] at hx; exact ⟨y, rfl, (Option.some.inj hx).symm⟩
                refine ⟨rfl, _, rfl, _, rfl, u, _, rfl, .inl (SqL.of (by rw [upd_ne (ne_of_none hu9 hD3)]; exact hu9)), rfl, flat_strs _, _, rfl, ?_⟩
                rw [in_strs]
                have tk1 : ts.take (j + 1) = ts.take j ++ [y] := by rw [List.take_succ, hy]; rfl
                refine ite2 (fun hin => ?_) (fun hin => ?_)
                · refine ⟨_, rfl, _, upd_same, ?_, ?_⟩
                  · refine Nat.lt_of_le_of_lt (show _ ≤ 52 from ?_) (by decide)
                    rw [List.length_map]
                    exact Nat.le_trans (List.length_filter_le _ _) (by rw [List.length_take]; omega)
                  · have hny : y ∉ zs ++ tk := fun e => by
                      rw [decide_eq_true e] at hin
                      cases hin
                    rw [upd_upd, tk1, List.filter_append, List.map_append]
                    have : ([y].filter fun t => decide (t ∉ zs ++ tk)) = [y] := List.filter_cons_of_pos (decide_eq_true hny)
                    rw [this]
                    rfl
                · have hyy : y ∈ zs ++ tk := Classical.byContradiction fun e => hin (by rw [decide_eq_false e]; rfl)
                  rw [tk1, List.filter_append]
                  have : ([y].filter fun t => decide (t ∉ zs ++ tk)) = [] := by
                    rw [List.filter_eq_nil_iff]
                    intro a ha
                    rw [List.mem_singleton.mp ha, decide_eq_true_eq]
                    exact fun h => h hyy
                  rw [this, List.append_nil]
              · rintro H10 rfl
                rw [show (ts.map V.str).length = ts.length from List.length_map _, List.take_length]
                obtain ⟨z', hz', hn'⟩ := fresh_tail (tail7 z) (zs ++ tk) (by rw [List.length_append]; omega)
                have hmem : z' ∈ ts.filter fun t => decide (t ∉ zs ++ tk) := List.mem_filter.mpr ⟨by rw [← hts]; exact List.mem_append_left _ hz', decide_eq_true hn'⟩
                cases hq : (ts.filter fun t => decide (t ∉ zs ++ tk)) with
                | nil => rw [hq] at hmem; cases hmem
                | cons v r =>
                  have hv : v ∈ ts.filter fun t => decide (t ∉ zs ++ tk) := by rw [hq]; exact List.mem_cons_self
                  obtain ⟨hv1, hv2⟩ := List.mem_filter.mp hv
                  refine ⟨D3, _, _, .str v, rfl, rfl, SqL.of upd_same, atI_nat (j := 0) rfl, ?_⟩
                  refine ⟨⟨v, _, _, rfl, tails_nm z4 (by rw [hts]; exact hv1), of_decide_eq_true hv2⟩, K9.new hD3, B9.new hD3, ?_⟩
                  rw [upd_ne (ne_of_none hp9 hD3)]
                  exact hp9
        · have hno' : z ∉ zs ++ tk := fun e => hno (decide_eq_true e)
          exact ⟨⟨z, _, _, rfl, z4, hno'⟩, K6, B6, hp6⟩
      · rintro σ H7 ⟨⟨v, a7, a8, rfl, nv, hv⟩, K7, B7, hp7⟩
        have hvz : v ∉ zs := fun e => hv (List.mem_append_left _ e)
        have hvt : v ∉ tk := fun e => hv (List.mem_append_right _ e)
        refine ⟨_, rfl, .inl ⟨rfl, _, SqL.of hp7⟩, _, rfl, p, _, _, rfl, rfl, hp7, ?_, ?_⟩
        · rw [List.length_map, hl]
          exact Nat.lt_trans hi12 (by decide)
        · refine ⟨⟨_, _, _, _, _, rfl⟩, K7.wr hp, B7.ne npb, zs ++ [v], ?_, by rw [List.length_append, hl]; rfl, ?_, ?_⟩
          · rw [upd_same, List.map_append]; rfl
          · rw [List.nodup_append]
            refine ⟨hnd, List.nodup_cons.mpr ⟨fun h => (nomatch h), List.nodup_nil⟩, fun a ha c hc e => ?_⟩
            rw [List.mem_singleton.mp hc] at e
            exact hvz (e ▸ ha)
          · intro z' hz'
            rcases List.mem_append.mp hz' with h | h
            · exact hz z' h
            · rw [List.mem_singleton.mp h]
              exact ⟨nv, hvt⟩
    · rintro σ H3 ⟨⟨a4, a5, a6, a7, a8, rfl⟩, K3, B3, zs, hp3, hl, hnd, hz⟩
      exact ⟨_, rfl, k p zs H3 hp hp3 (by omega) hnd hz K3 (B3.mono (by omega))⟩
end
end Fh

set_option Elab.async false
set_option linter.all false
set_option maxRecDepth 100000
set_option maxHeartbeats 4000000
namespace Fh
open PySem L2 PyProof.Rows
/-! ### data in tuples -/
mutual
inductive Tp (H : Hp) : V → PyData → Prop
  | int (i : Int) : Tp H (.int i) (.int i)
  | str (x : Str) : Tp H (.str x) (.str x)
  | tup {a : Addr} {xs : List V} {ds : List PyData} : H a = some (.tup xs) → TpAll H xs ds → Tp H (.ref a) (.tuple ds)
inductive TpAll (H : Hp) : List V → List PyData → Prop
  | nil : TpAll H [] []
  | cons {v : V} {vs : List V} {d : PyData} {ds : List PyData} : Tp H v d → TpAll H vs ds → TpAll H (v :: vs) (d :: ds)
end
/-- tuples stay -/
def Tk (H H' : Hp) : Prop := ∀ a xs, H a = some (.tup xs) → H' a = some (.tup xs)
mutual
theorem Tp.keep {H H' : Hp} (t : Tk H H') : ∀ (d : PyData) (v : V), Tp H v d → Tp H' v d
  | .none, _, h => by cases h
  | .bool _, _, h => by cases h
  | .int i, _, h => by cases h; exact .int i
  | .str x, _, h => by cases h; exact .str x
  | .list _, _, h => by cases h
  | .dict _, _, h => by cases h
  | .tuple ds, _, h => by
    cases h with
    | tup e q => exact .tup (t _ _ e) (TpAll.keep t ds _ q)
theorem TpAll.keep {H H' : Hp} (t : Tk H H') : ∀ (ds : List PyData) (vs : List V), TpAll H vs ds → TpAll H' vs ds
  | [], _, h => by cases h; exact .nil
  | d :: ds, _, h => by
    cases h with
    | cons a q => exact .cons (Tp.keep t d _ a) (TpAll.keep t ds _ q)
end
mutual
theorem Tp.dp {K : PySem.W.Frag} {H : Hp} : ∀ (d : PyData) (v : V), Tp H v d → Dp K H v d
  | .none, _, h => by cases h
  | .bool _, _, h => by cases h
  | .int i, _, h => by cases h; exact .int i
  | .str x, _, h => by cases h; exact .str x
  | .list _, _, h => by cases h
  | .dict _, _, h => by cases h
  | .tuple ds, _, h => by
    cases h with
    | tup e q => exact .tup (SqT.of e) (TpAll.dp ds _ q)
theorem TpAll.dp {K : PySem.W.Frag} {H : Hp} : ∀ (ds : List PyData) (vs : List V), TpAll H vs ds → DpAll K H vs ds
  | [], _, h => by cases h; exact .nil
  | d :: ds, _, h => by
    cases h with
    | cons a q => exact .cons (Tp.dp d _ a) (TpAll.dp ds _ q)
end
theorem Kp.tk {b : Addr} {H H' : Hp} {n : Nat} (k : Kp b H H') (hb : Bag H b n) : Tk H H' := fun a xs h => k a _ (fun e => by
  obtain ⟨x, y, z, e2, _⟩ := hb
  rw [← e, h] at e2
  cases e2) h
theorem Tk.refl {H : Hp} : Tk H H := fun _ _ h => h
theorem Tk.trans {H H1 H2 : Hp} (a : Tk H H1) (b : Tk H1 H2) : Tk H H2 := fun c xs h => b c xs (a c xs h)
theorem Same.tk {H H' : Hp} (s : Same H H') : Tk H H' := fun a xs h => s a _ h
theorem Tk.new {H : Hp} {p : Addr} {o : HO} (h : H p = none) : Tk H (upd H p o) := fun a xs e => by rw [upd_ne (ne_of_none e h)]; exact e
theorem Tk.wr {H : Hp} {p : Addr} {ys : List V} {o : HO} (h : H p = some (.lst ys)) : Tk H (upd H p o) := fun a xs e => by
  rw [upd_ne (fun q => by rw [q, h] at e; cases e)]
  exact e
theorem TpAll.length {H : Hp} : ∀ {vs : List V} {ds : List PyData}, TpAll H vs ds → vs.length = ds.length
  | _, _, .nil => rfl
  | _, _, .cons _ q => by simp [TpAll.length q]
theorem TpAll.get {H : Hp} : ∀ {vs : List V} {ds : List PyData} {i : Nat} {d : PyData}, TpAll H vs ds → ds[i]? = some d → ∃ v, vs[i]? = some v ∧ Tp H v d
  | _, _, _, _, .nil, e => by simp at e
  | _, _, 0, _, .cons a _, e => by simp at e; subst e; exact ⟨_, rfl, a⟩
  | _, _, i + 1, d, .cons _ q, e => by
    obtain ⟨v, h1, h2⟩ := TpAll.get (i := i) (d := d) q (by simpa using e)
    exact ⟨v, by simpa using h1, h2⟩
theorem TpAll.get' {H : Hp} : ∀ {vs : List V} {ds : List PyData} {i : Nat} {v : V}, TpAll H vs ds → vs[i]? = some v → ∃ d, ds[i]? = some d ∧ Tp H v d
  | _, _, _, _, .nil, e => by simp at e
  | _, _, 0, _, .cons a _, e => by simp at e; subst e; exact ⟨_, rfl, a⟩
  | _, _, i + 1, v, .cons _ q, e => by
    obtain ⟨d, h1, h2⟩ := TpAll.get' (i := i) (v := v) q (by simpa using e)
    exact ⟨d, by simpa using h1, h2⟩
theorem TpAll.app {H : Hp} : ∀ {vs ws : List V} {ds es : List PyData}, TpAll H vs ds → TpAll H ws es → TpAll H (vs ++ ws) (ds ++ es)
  | _, _, _, _, .nil, s => s
  | _, _, _, _, .cons a q, s => .cons a (TpAll.app q s)
theorem TpAll.one {H : Hp} {v : V} {d : PyData} (h : Tp H v d) : TpAll H [v] [d] := .cons h .nil
theorem TpAll.strs {H : Hp} : ∀ zs : List Str, TpAll H (zs.map V.str) (zs.map PyData.str)
  | [] => .nil
  | z :: r => .cons (.str z) (TpAll.strs r)
theorem Tp.inv {H : Hp} {v : V} {ds : List PyData} (h : Tp H v (.tuple ds)) : ∃ a xs, v = .ref a ∧ H a = some (.tup xs) ∧ TpAll H xs ds := by
  cases h with
  | tup e q => exact ⟨_, _, rfl, e, q⟩
theorem Tp.istr {H : Hp} {v : V} {z : Str} (h : Tp H v (.str z)) : v = .str z := by cases h; rfl
theorem Tp.iint {H : Hp} {v : V} {i : Int} (h : Tp H v (.int i)) : v = .int i := by cases h; rfl
theorem TpAll.icons {H : Hp} {vs : List V} {d : PyData} {ds : List PyData} (h : TpAll H vs (d :: ds)) : ∃ v r, vs = v :: r ∧ Tp H v d ∧ TpAll H r ds := by
  cases h with
  | cons a q => exact ⟨_, _, rfl, a, q⟩
theorem TpAll.inil {H : Hp} {vs : List V} (h : TpAll H vs []) : vs = [] := by cases h; rfl
/-! ### shaped data -/
def Sh (n : Nat) (d : PyData) : Prop := d.canLay0 = true ∧ d.depth ≤ n
theorem strOk_of {z : Str} (h : ∀ c ∈ z.cps.toList, c < 0x110000) : PyData.canLay0 (.str z) = true := by
  show PyData.strOk z = true
  unfold PyData.strOk
  rw [Array.all_eq_true_iff_forall_mem]
  intro c hc
  exact decide_eq_true (h c (by simpa using hc))
theorem Sh.int {n : Nat} (i : Int) : Sh n (.int i) := ⟨rfl, Nat.zero_le _⟩
theorem Sh.mono {n m : Nat} {d : PyData} (h : Sh n d) (hm : n ≤ m) : Sh m d := ⟨h.1, Nat.le_trans h.2 hm⟩
theorem lay_all : ∀ ds : List PyData, (∀ d ∈ ds, d.canLay0 = true) → PyData.canLayAll0 ds = true
  | [], _ => rfl
  | d :: r, h => by
    show (PyData.canLay0 d && PyData.canLayAll0 r) = true
    rw [h d List.mem_cons_self, lay_all r fun e he => h e (List.mem_cons_of_mem _ he)]
    rfl
theorem depth_all {n : Nat} : ∀ ds : List PyData, (∀ d ∈ ds, d.depth ≤ n) → PyData.depthAll ds ≤ n
  | [], _ => Nat.zero_le _
  | d :: r, h => by
    show max (PyData.depth d) (PyData.depthAll r) ≤ n
    exact Nat.max_le.mpr ⟨h d List.mem_cons_self, depth_all r fun e he => h e (List.mem_cons_of_mem _ he)⟩
theorem Sh.tup {n : Nat} {ds : List PyData} (h : ∀ d ∈ ds, Sh n d) : Sh (n + 1) (.tuple ds) :=
  ⟨lay_all ds fun d hd => (h d hd).1, Nat.succ_le_succ (depth_all ds fun d hd => (h d hd).2)⟩
theorem Sh.lst {n : Nat} {ds : List PyData} (h : ∀ d ∈ ds, Sh n d) : Sh (n + 1) (.list ds) :=
  ⟨lay_all ds fun d hd => (h d hd).1, Nat.succ_le_succ (depth_all ds fun d hd => (h d hd).2)⟩
theorem Sh.shaped {n : Nat} {d : PyData} (h : Sh n d) (hn : n ≤ 64) : SeqAt.shaped d = true := by
  unfold SeqAt.shaped
  rw [h.1, decide_eq_true (Nat.le_trans h.2 hn)]
  rfl
/-! ### lists of data as python sees them -/
theorem Dp.strs {K : PySem.W.Frag} {H : Hp} : ∀ zs : List Str, DpAll K H (zs.map V.str) (zs.map PyData.str)
  | [] => .nil
  | z :: r => .cons (.str z) (Dp.strs r)
theorem putF_len (f : Str) (v : V) : ∀ fs : List (Str × V), (putF f v fs).length ≤ fs.length + 1
  | [] => Nat.le_refl _
  | (g, x) :: r => by
    show (if g = f then (g, v) :: r else (g, x) :: putF f v r).length ≤ _
    split
    · exact Nat.le_succ _
    · exact Nat.succ_le_succ (putF_len f v r)
end Fh

set_option Elab.async false
set_option linter.all false
set_option maxRecDepth 100000
set_option maxHeartbeats 4000000
namespace Fh
open PySem L2 PyProof.Rows
def ff (nm ed ch rc cl : V) : List (Str × V) := putF "calls" cl (putF "records" rc (putF "choices" ch (putF "edition" ed (putF "name" nm []))))
section
variable {nm ed ch rc cl : V}
theorem ff_name : (ff nm ed ch rc cl).lookup ("name" : Str) = some nm := by
  unfold ff
  rw [lookup_putF, if_neg (by decide +kernel), lookup_putF, if_neg (by decide +kernel), lookup_putF, if_neg (by decide +kernel), lookup_putF, if_neg (by decide +kernel), lookup_putF, if_pos rfl]
theorem ff_edition : (ff nm ed ch rc cl).lookup ("edition" : Str) = some ed := by
  unfold ff
  rw [lookup_putF, if_neg (by decide +kernel), lookup_putF, if_neg (by decide +kernel), lookup_putF, if_neg (by decide +kernel), lookup_putF, if_pos rfl]
theorem ff_choices : (ff nm ed ch rc cl).lookup ("choices" : Str) = some ch := by
  unfold ff
  rw [lookup_putF, if_neg (by decide +kernel), lookup_putF, if_neg (by decide +kernel), lookup_putF, if_pos rfl]
theorem ff_records : (ff nm ed ch rc cl).lookup ("records" : Str) = some rc := by
  unfold ff
  rw [lookup_putF, if_neg (by decide +kernel), lookup_putF, if_pos rfl]
theorem ff_calls : (ff nm ed ch rc cl).lookup ("calls" : Str) = some cl := by
  unfold ff
  rw [lookup_putF, if_pos rfl]
end
/-! ### a method called -/
structure HasM (P : Program) (w : World) (K : PySem.W.Frag) (mg : Str → Option Value) (base : Heap) (C : Addr) (m : Str) (k : Nat) (ps : List Str) (sp : Sp) : Prop where
  cl : Cls K C
  ex : ∃ (f : Addr) (fd : FuncData), Meth K C m f ∧ Binds K fd ps [] ∧ FnOk P w K mg base CX0 k f fd ps sp
theorem pe_hasM {X : Cx} {C : Addr} {k : Nat} {m : Str} {ps : List Str} {sp : Sp} {o e : Expr} {es : List Expr} {ta : TE} {t : TA} {apos pos : Pos} {pl : Sem Bool} (D : HasM X.prog X.w X.K X.mg X.base C m k ps sp) (hr : Room k X.A) (ho : PE X o ta) (ha : PA X (e :: es) t)
    (hst : starEach (e :: es) X.env = (false, eval e X.env) :: starEach es X.env := by rfl) (hpl : (backTo pos (starEach es X.env)).any (·.1) = false := by rfl)
    (ht : eval (.Call (.Attribute o m apos) (e :: es) [] pos) X.env = (do
      let ov ← eval o X.env
      standAt apos.atName
      let (f, first) ← holding [ov] (getMethod ov m pl)
      callWith pos f first (backTo pos (starEach (e :: es) X.env)) (backToKw pos (keywordEach [] X.env))) := by rfl) :
    PE X (.Call (.Attribute o m apos) (e :: es) [] pos) (tMeth C m sp [] E0 ta t) := by
  obtain ⟨f, fd, hm, hb, F⟩ := D.ex
  exact pe_meth (pl := pl) ho D.cl hm F hr hb .nil pass0 ha hst hpl ht
/-- a promise of nothing -/
def spNone : Sp := fun _ _ _ _ => False
/-! ### rows of a face -/
def rowsD (rows : List (Str × PyData)) : PyData := .tuple (rows.map fun r => .tuple [.str r.1, r.2])
/-- data in a tuple that may be held as the very object -/
def TpR (H : Hp) (v : V) (d : PyData) : Prop := ∃ (a : Addr) (xs : List V) (ds : List PyData), v = .ref a ∧ d = .tuple ds ∧ Rd H a (.tup xs) ∧ TpAll H xs ds
theorem Rd.same {H H' : Hp} {a : Addr} {u : HO} (r : Rd H a u) (s : Same H H') : Rd H' a u := by
  rcases r with h | ⟨o, h⟩
  · exact .inl (s _ _ h)
  · exact .inr ⟨o, s _ _ h⟩
theorem TpR.inv {H : Hp} {v : V} {ds : List PyData} (h : TpR H v (.tuple ds)) : ∃ a xs, v = .ref a ∧ Rd H a (.tup xs) ∧ TpAll H xs ds := by
  obtain ⟨a, xs, ds', rfl, e, r, q⟩ := h
  cases e
  exact ⟨a, xs, rfl, r, q⟩
theorem TpR.same {H H' : Hp} {v : V} {d : PyData} (h : TpR H v d) (s : Same H H') : TpR H' v d := by
  obtain ⟨a, xs, ds, e1, e2, r, q⟩ := h
  exact ⟨a, xs, ds, e1, e2, Rd.same r s, TpAll.keep (Same.tk s) _ _ q⟩
def FaceR (C : Addr) (H : Hp) (a : Addr) (cs rs : List (Str × PyData)) : Prop := ∃ (dx : Addr) (v1 v2 v3 v4 v5 : V), H a = some (.ins C dx (ff v1 v2 v3 v4 v5)) ∧ TpR H v3 (rowsD cs) ∧ TpR H v4 (rowsD rs)
theorem FaceR.same {C : Addr} {H H' : Hp} {a : Addr} {cs rs : List (Str × PyData)} (h : FaceR C H a cs rs) (s : Same H H') : FaceR C H' a cs rs := by
  obtain ⟨dx, v1, v2, v3, v4, v5, e, t3, t4⟩ := h
  exact ⟨dx, v1, v2, v3, v4, v5, s _ _ e, t3.same s, t4.same s⟩
theorem Tp.pair {H : Hp} {v : V} {d e : PyData} (h : Tp H v (.tuple [d, e])) : ∃ a x y, v = .ref a ∧ H a = some (.tup [x, y]) ∧ Tp H x d ∧ Tp H y e := by
  obtain ⟨a, xs, rfl, ha, q⟩ := h.inv
  obtain ⟨x, r, rfl, hx, q⟩ := q.icons
  obtain ⟨y, r, rfl, hy, q⟩ := q.icons
  rw [q.inil] at ha
  exact ⟨a, x, y, rfl, ha, hx, hy⟩
theorem Tp.four {H : Hp} {v : V} {d1 d2 d3 d4 : PyData} (h : Tp H v (.tuple [d1, d2, d3, d4])) : ∃ a x1 x2 x3 x4, v = .ref a ∧ H a = some (.tup [x1, x2, x3, x4]) ∧ Tp H x1 d1 ∧ Tp H x2 d2 ∧ Tp H x3 d3 ∧ Tp H x4 d4 := by
  obtain ⟨a, xs, rfl, ha, q⟩ := h.inv
  obtain ⟨x1, r, rfl, h1, q⟩ := q.icons
  obtain ⟨x2, r, rfl, h2, q⟩ := q.icons
  obtain ⟨x3, r, rfl, h3, q⟩ := q.icons
  obtain ⟨x4, r, rfl, h4, q⟩ := q.icons
  rw [q.inil] at ha
  exact ⟨a, x1, x2, x3, x4, rfl, ha, h1, h2, h3, h4⟩
theorem rows_at {H : Hp} {xs : List V} {rows : List (Str × PyData)} {i : Nat} {x : V} (q : TpAll H xs (rows.map fun r => .tuple [.str r.1, r.2])) (e : xs[i]? = some x) :
    ∃ r t u, rows[i]? = some r ∧ x = .ref t ∧ H t = some (.tup [.str r.1, u]) ∧ Tp H u r.2 := by
  obtain ⟨d, e2, tx⟩ := q.get' e
  rw [List.getElem?_map] at e2
  cases hr : rows[i]? with
  | none => rw [hr] at e2; cases e2
  | some r =>
    rw [hr] at e2
    cases e2
    obtain ⟨t, y, u, rfl, ht, ty, tu⟩ := tx.pair
    rw [ty.istr] at ht
    exact ⟨r, t, u, rfl, rfl, ht, tu⟩
theorem look_at {rows : List (Str × PyData)} {z : Str} {d : PyData} (h : rows.lookup z = some d) : ∃ (i : Nat) (hi : i < rows.length), rows[i].1 = z := by
  induction rows with
  | nil => cases h
  | cons r rs ih =>
    by_cases e : r.1 = z
    · exact ⟨0, Nat.succ_pos _, e⟩
    · have h2 : (z == r.1) = false := by
        rw [beq_eq_false_iff_ne]
        exact fun q => e q.symm
      obtain ⟨k, y⟩ := r
      rw [List.lookup_cons, h2] at h
      obtain ⟨i, hi, e2⟩ := ih h
      exact ⟨i + 1, Nat.succ_lt_succ hi, e2⟩
theorem look_first {rows : List (Str × PyData)} {z : Str} {d : PyData} {i : Nat} {r : Str × PyData} (h : rows.lookup z = some d) (e : rows[i]? = some r) (hz : r.1 = z) (hb : ∀ (j : Nat) (q : Str × PyData), j < i → rows[j]? = some q → q.1 ≠ z) : r.2 = d := by
  induction rows generalizing i with
  | nil => cases h
  | cons s rs ih =>
    cases i with
    | zero =>
      cases e
      obtain ⟨k, y⟩ := r
      rw [List.lookup_cons] at h
      have h2 : (z == k) = true := by rw [beq_iff_eq]; exact hz.symm
      rw [h2] at h
      cases h
      rfl
    | succ i =>
      have h0 := hb 0 s (Nat.succ_pos _) rfl
      have h2 : (z == s.1) = false := by
        rw [beq_eq_false_iff_ne]
        exact fun q => h0 q.symm
      obtain ⟨k, y⟩ := s
      rw [List.lookup_cons, h2] at h
      exact ih h e fun j q hj hq => hb (j + 1) q (Nat.succ_lt_succ hj) hq
/-! ### kinds -/
inductive Kb where
  | whole
  | truth
  | text
  | rc (z : Str)
  | ch (z : Str)
inductive Kn where
  | one (b : Kb)
  | lst (b : Kb)
def Kb.d : Kb → PyData
  | .whole => .str "whole"
  | .truth => .str "truth"
  | .text => .str "text"
  | .rc z => .tuple [.str "record", .str z]
  | .ch z => .tuple [.str "choice", .str z]
def Kn.d : Kn → PyData
  | .one b => b.d
  | .lst b => .tuple [.str "list", b.d]
def Kb.word : Kb → Str
  | .whole => "whole"
  | .truth => "truth"
  | .text => "text"
  | .rc _ => "record"
  | .ch _ => "choice"
def Kn.word : Kn → Str
  | .one b => b.word
  | .lst _ => "list"
def Kb.mark : Kb → Int
  | .text => 2
  | .rc _ => 4
  | _ => 1
def Kn.mark : Kn → Int
  | .one b => b.mark
  | .lst _ => 3
/-- what stands in a kind that is a tuple -/
def Kn.inner : Kn → PyData
  | .one (.rc z) => .str z
  | .one (.ch z) => .str z
  | .lst b => b.d
  | _ => .none
theorem kn_inv {H : Hp} {v : V} {k : Kn} (h : Tp H v k.d) : (v = .str k.word ∧ (k = .one .whole ∨ k = .one .truth ∨ k = .one .text)) ∨ ∃ a u, v = .ref a ∧ H a = some (.tup [.str k.word, u]) ∧ Tp H u k.inner := by
  cases k with
  | lst b =>
    obtain ⟨a, x, y, rfl, ha, hx, hy⟩ := Tp.pair h
    rw [hx.istr] at ha
    exact .inr ⟨a, y, rfl, ha, hy⟩
  | one b =>
    cases b with
    | whole => exact .inl ⟨Tp.istr h, .inl rfl⟩
    | truth => exact .inl ⟨Tp.istr h, .inr (.inl rfl)⟩
    | text => exact .inl ⟨Tp.istr h, .inr (.inr rfl)⟩
    | rc z =>
      obtain ⟨a, x, y, rfl, ha, hx, hy⟩ := Tp.pair h
      rw [hx.istr] at ha
      exact .inr ⟨a, y, rfl, ha, hy⟩
    | ch z =>
      obtain ⟨a, x, y, rfl, ha, hx, hy⟩ := Tp.pair h
      rw [hx.istr] at ha
      exact .inr ⟨a, y, rfl, ha, hy⟩
theorem Same.new {H : Hp} {p : Addr} {o : HO} (h : H p = none) : Same H (upd H p o) := fun a u e => by
  rw [upd_ne (ne_of_none e h)]
  exact e
theorem Same.wr {H H1 : Hp} {p : Addr} {o : HO} (s : Same H H1) (h : H p = none) : Same H (upd H1 p o) := fun a u e => by
  rw [upd_ne (ne_of_none e h)]
  exact s a u e
/-- [x for x, y in rows] -/
theorem lc_names {K : PySem.W.Frag} {ti : TE} {x y : Nat} {σ : L2.St} {H : Hp} {rows : List (Str × PyData)} {v : V} {Q : V → Hp → Prop} (hi : ∀ R : V → Hp → Prop, R v H → ti σ H R) (t : TpR H v (rowsD rows)) (hl : rows.length ≤ 100)
    (hw : ∀ a b, wipe (((wipe σ [x, y]).set x (some a)).set y (some b)) [x, y] = wipe σ [x, y]) (hv : ∀ a b, (((wipe σ [x, y]).set x (some a)).set y (some b))[x]? = some (some a))
    (k : ∀ D H', Same H H' → H' D = some (.lst ((rows.map (·.1)).map V.str)) → Q (.ref D) H') : tLc (iTup K ti) (gTup K 2 (gCons (gName x) (gCons (gName y) gNil))) tYes (tVar x) [x, y] σ H Q := by
  obtain ⟨a, xs, rfl, ha, q⟩ := TpR.inv t
  refine hi _ ⟨a, rfl, ⟨_, (.inl ha)⟩, fun D hD => ?_⟩
  refine lc_tup (xs := xs) (fun i H3 => Same H H3 ∧ H3 D = some (.lst (((rows.take i).map (·.1)).map V.str))) ?_ ?_ ?_ ?_
  · exact ⟨Same.new hD, upd_same⟩
  · rintro i H3 _ ⟨S3, _⟩
    exact .inl (Rd.same ha S3)
  · rintro i z H3 hz ⟨S3, h3⟩
    obtain ⟨r, t, u, hr, rfl, ht, tu⟩ := rows_at q hz
    refine ⟨t, _, rfl, SqT.of (S3 _ _ ht), rfl, _, _, rfl, _, _, rfl, rfl, hw _ _, yes (iteT ?_)⟩
    refine ⟨_, hv _ _, _, h3, ?_, Same.wr S3 hD, ?_⟩
    · rw [List.length_map, List.length_map, List.length_take]
      exact Nat.lt_of_le_of_lt (Nat.min_le_right _ _) (Nat.lt_of_le_of_lt hl (by decide))
    · have hlt : i < rows.length := by
        rw [List.getElem?_eq_some_iff] at hr
        exact hr.1
      rw [upd_same, List.take_add_one, hr]
      simp
  · rintro H3 ⟨S3, h3⟩
    have e : xs.length = rows.length := by rw [q.length, List.length_map]
    rw [e, List.take_length] at h3
    exact k D H3 S3 h3
theorem sne {a b : Str} (h : a ≠ b) : ¬ V.str a = V.str b := fun e => h (by cases e; rfl)
/-! ### small defs -/
def spWord : Sp := fun vs H Q _ => ∃ (v : V) (k : Kn), vs = [v] ∧ Tp H v k.d ∧ Q (.str k.word) H
abbrev nNob : List Str := ["face", "kind", "word", "inner", "rows", "name", "parts"]
def nameIn (z : Str) (rows : List (Str × PyData)) : Bool := decide (z ∈ rows.map (·.1))
def nobB (cs rs : List (Str × PyData)) : Kb → Bool
  | .rc z => !nameIn z rs
  | .ch z => !nameIn z cs
  | _ => false
def nobK (cs rs : List (Str × PyData)) : Kn → Bool
  | .one b => nobB cs rs b
  | .lst b => nobB cs rs b
def spNob (C : Addr) (ok : Kn → Prop) : Sp := fun vs H Q _ => ∃ (a : Addr) (v : V) (k : Kn) (cs rs : List (Str × PyData)), vs = [.ref a, v] ∧ FaceR C H a cs rs ∧ cs.length ≤ 100 ∧ rs.length ≤ 100 ∧ Tp H v k.d ∧ ok k ∧ ∀ H', Same H H' → Q (.bl (nobK cs rs k)) H'
def isOne (k : Kn) : Prop := ∃ b, k = .one b
section
variable {P : Program} {w : World} {K : PySem.W.Frag} {mg : Str → Option Value} {base : Heap}
end
end Fh

set_option Elab.async false
set_option linter.all false
set_option maxRecDepth 100000
set_option maxHeartbeats 4000000
namespace Fh
open PySem L2 PyProof.Rows
def spOptions (C : Addr) : Sp := fun vs H Q _ => ∃ (a : Addr) (z : Str) (cs rs : List (Str × PyData)) (d : PyData), vs = [.ref a, .str z] ∧ FaceR C H a cs rs ∧ cs.lookup z = some d ∧ ∀ v, Tp H v d → Q v H
def optsD (os : List (Int × Str)) : PyData := .tuple (os.map fun o => .tuple [.int o.1, .str o.2])
structure OptsOk (os : List (Int × Str)) : Prop where
  ne : os ≠ []
  len : os.length ≤ 100
  nd : (os.map (·.2)).Nodup
  rg : ∀ o ∈ os, 1 ≤ o.1 ∧ o.1 ≤ 200
def spNum (C : Addr) : Sp := fun vs H Q _ => ∃ (a : Addr) (v x : V) (k : Kn) (cs rs : List (Str × PyData)), vs = [.ref a, v, x] ∧ FaceR C H a cs rs ∧ Tp H v k.d ∧
  ((k = .one .whole ∧ ∃ i, x = .int i ∧ Q (.int i) H) ∨ (k = .one .truth ∧ ∃ b, x = .bl b ∧ Q (.int (if b = true then 1 else 0)) H) ∨
    ∃ z os n u, k = .one (.ch z) ∧ cs.lookup z = some (optsD os) ∧ OptsOk os ∧ (n, u) ∈ os ∧ x = .str u ∧ ∀ H', Same H H' → Q (.int n) H')
/-- one digit -/
def spDigits : Sp := fun vs H Q _ => ∃ (n : Int), vs = [.int n] ∧ 1 ≤ n ∧ n ≤ 255 ∧ ∀ (p : Addr) (H' : Hp) (x : V), Same H H' → H p = none → H' p = some (.lst [x]) → Q (.ref p) H'
/-- how many numbers tell a size -/
def toldN (n : Int) : Int := if n < 200 then 1 else 2
def spTold : Sp := fun vs H Q _ => ∃ (n : Int), vs = [.int n] ∧ 0 ≤ n ∧ ∀ (p : Addr) (H' : Hp) (xs : List V), Same H H' → H p = none → H' p = some (.lst xs) → (xs.length : Int) = toldN n → Q (.ref p) H'
def spPart : Sp := fun vs H Q _ => ∃ (n : Int), vs = [.int n] ∧ 0 ≤ n ∧ ∀ (H' : Hp), Same H H' → Q (.int (toldN n + n)) H'
def fsz (n : Int) : Int := 2 + (toldN n + n)
def spFSize : Sp := fun vs H Q _ => ∃ (n : Int), vs = [.int n] ∧ 0 ≤ n ∧ ∀ (H' : Hp), Same H H' → Q (.int (fsz n)) H'
/-- the modules' numbers -/
structure Nums (mg : Str → Option Value) : Prop where
  base : ∃ t, mg "BASE" = some (.int 256 t)
  long : ∃ t, mg "FIRST_LONG_SIZE" = some (.int 200 t)
theorem opts_one {os : List (Int × Str)} {n : Int} {u : Str} (nd : (os.map (·.2)).Nodup) (h : (n, u) ∈ os) : os.filter (fun o => decide (o.2 = u)) = [(n, u)] := by
  induction os with
  | nil => cases h
  | cons o r ih =>
    rw [List.map_cons, List.nodup_cons] at nd
    rcases List.mem_cons.mp h with rfl | h2
    · have e : r.filter (fun o => decide (o.2 = u)) = [] := by
        rw [List.filter_eq_nil_iff]
        intro x hx
        rw [decide_eq_true_eq]
        exact fun q => nd.1 (List.mem_map.mpr ⟨x, hx, q⟩)
      rw [List.filter_cons, if_pos (decide_eq_true rfl), e]
    · have ne : ¬ o.2 = u := fun q => nd.1 (List.mem_map.mpr ⟨(n, u), h2, q.symm⟩)
      rw [List.filter_cons, if_neg (by rw [decide_eq_true_eq]; exact ne)]
      exact ih nd.2 h2
theorem opts_at {H : Hp} {xs : List V} {os : List (Int × Str)} {i : Nat} {x : V} (q : TpAll H xs (os.map fun o => .tuple [.int o.1, .str o.2])) (e : xs[i]? = some x) :
    ∃ o t, os[i]? = some o ∧ x = .ref t ∧ H t = some (.tup [.int o.1, .str o.2]) := by
  obtain ⟨d, e2, tx⟩ := q.get' e
  rw [List.getElem?_map] at e2
  cases hr : os[i]? with
  | none => rw [hr] at e2; cases e2
  | some o =>
    rw [hr] at e2
    cases e2
    obtain ⟨t, y, u, rfl, ht, ty, tu⟩ := tx.pair
    rw [ty.iint, tu.istr] at ht
    exact ⟨o, t, rfl, rfl, ht⟩
section
variable {P : Program} {w : World} {K : PySem.W.Frag} {mg : Str → Option Value} {base : Heap}
abbrev nOptions : List Str := ["self", "choice", "name", "options"]
abbrev nNum : List Str := ["face", "kind", "value", "word", "number", "option"]
end
end Fh

set_option Elab.async false
set_option linter.all false
set_option maxRecDepth 100000
set_option maxHeartbeats 4000000
namespace Fh
open PySem L2 PyProof.Rows
section
variable {P : Program} {w : World} {K : PySem.W.Frag} {mg : Str → Option Value} {base : Heap}
abbrev nDigits : List Str := ["number", "digits", "digit"]
end
end Fh

set_option Elab.async false
set_option linter.all false
set_option maxRecDepth 100000
set_option maxHeartbeats 4000000
namespace Fh
open PySem L2 PyProof.Rows
/-- the name in a kind -/
def Kb.nm : Kb → Option Str
  | .rc z => some z
  | .ch z => some z
  | _ => none
def Kn.nm : Kn → Option Str
  | .one b => b.nm
  | .lst b => b.nm
def spNin (ok : Kn → Prop) : Sp := fun vs H Q _ => ∃ (v : V) (k : Kn) (z : Str), vs = [v] ∧ Tp H v k.d ∧ k.nm = some z ∧ ok k ∧ Q (.str z) H
abbrev nNin : List Str := ["kind", "word", "inner"]
abbrev nLeastOf : List Str := ["face", "kind", "word", "fields", "number", "name", "inner", "need"]
/-- of a choice -/
def spLeastOf (C : Addr) : Sp := fun vs H Q _ => ∃ (a : Addr) (v : V) (z : Str) (cs rs : List (Str × PyData)) (n : Int) (u : Str), vs = [.ref a, v] ∧ FaceR C H a cs rs ∧ Tp H v (Kn.one (.ch z)).d ∧ cs.lookup z = some (optsD [(n, u)]) ∧ Q (.str u) H
/-! ### the sizes of records, reckoned -/
abbrev Szs := Str → Option Int
def kSz (cs rs : List (Str × PyData)) (D : Szs) (k : Kn) : Option Int := if nobK cs rs k = true then none else match k with
  | .lst _ => some 1
  | .one (.rc z) => D z
  | .one (.ch _) => some 1
  | .one _ => some 0
def optV : Option Int → V
  | none => .non
  | some v => .int v
/-- a dict has these sizes -/
def DOf (kvs : List (Key × V)) (D : Szs) : Prop := ∀ z, valV kvs (.inr z) = (D z).map V.int
/-- every choice has one option with a small number -/
def Cs1 (cs : List (Str × PyData)) : Prop := ∀ z, nameIn z cs = true → ∃ (n : Int) (u : Str), cs.lookup z = some (optsD [(n, u)]) ∧ 1 ≤ n ∧ n ≤ 200
abbrev nLSize : List Str := ["face", "kind", "sizes", "word"]
def spLSize (C : Addr) : Sp := fun vs H Q _ => ∃ (a d : Addr) (v : V) (k : Kn) (cs rs : List (Str × PyData)) (kvs : List (Key × V)) (D : Szs), vs = [.ref a, v, .ref d] ∧ FaceR C H a cs rs ∧ cs.length ≤ 100 ∧ rs.length ≤ 100 ∧ Tp H v k.d ∧ Cs1 cs ∧
  H d = some (.dK kvs) ∧ DOf kvs D ∧ ∀ (H' : Hp), Same H H' → Q (optV (kSz cs rs D k)) H'
theorem ff_meth {m : Str} {v1 v2 v3 v4 v5 : V} (h1 : m ≠ "name") (h2 : m ≠ "edition") (h3 : m ≠ "choices") (h4 : m ≠ "records") (h5 : m ≠ "calls") : (ff v1 v2 v3 v4 v5).lookup m = none := by
  unfold ff
  rw [lookup_putF, if_neg h5, lookup_putF, if_neg h4, lookup_putF, if_neg h3, lookup_putF, if_neg h2, lookup_putF, if_neg h1]
  rfl
theorem ff_options {v1 v2 v3 v4 v5 : V} : (ff v1 v2 v3 v4 v5).lookup ("options_of" : Str) = none := ff_meth (by decide +kernel) (by decide +kernel) (by decide +kernel) (by decide +kernel) (by decide +kernel)
section
variable {P : Program} {w : World} {K : PySem.W.Frag} {mg : Str → Option Value} {base : Heap}
end
end Fh

set_option Elab.async false
set_option linter.all false
set_option maxRecDepth 100000
set_option maxHeartbeats 4000000
namespace Fh
open PySem L2 PyProof.Rows
section
variable {P : Program} {w : World} {K : PySem.W.Frag} {mg : Str → Option Value} {base : Heap}
end
end Fh

set_option Elab.async false
set_option linter.all false
set_option maxRecDepth 100000
set_option maxHeartbeats 4000000
namespace Fh
open PySem L2 PyProof.Rows
structure Fl where
  num : Int
  nam : Str
  kd : Kn
  must : Bool
def needS (b : Bool) : Str := if b = true then "must" else "may"
def Fl.d (f : Fl) : PyData := .tuple [.int f.num, .str f.nam, f.kd.d, .str (needS f.must)]
def fieldsD (fs : List Fl) : PyData := .tuple (fs.map Fl.d)
theorem need_must (b : Bool) : decide (V.str (needS b) = V.str "must") = b := by
  cases b with
  | true => exact decide_eq_true rfl
  | false => exact decide_eq_false (sne (by decide +kernel : ("may" : Str) ≠ "must"))
theorem need_may (b : Bool) : decide (V.str (needS b) = V.str "may") = !b := by
  cases b with
  | true => exact decide_eq_false (sne (by decide +kernel : ("must" : Str) ≠ "may"))
  | false => exact decide_eq_true rfl
theorem flds_at {H : Hp} {xs : List V} {fs : List Fl} {i : Nat} {x : V} (q : TpAll H xs (fs.map Fl.d)) (e : xs[i]? = some x) :
    ∃ f t u, fs[i]? = some f ∧ x = .ref t ∧ H t = some (.tup [.int f.num, .str f.nam, u, .str (needS f.must)]) ∧ Tp H u f.kd.d := by
  obtain ⟨d, e2, tx⟩ := q.get' e
  rw [List.getElem?_map] at e2
  cases hr : fs[i]? with
  | none => rw [hr] at e2; cases e2
  | some f =>
    rw [hr] at e2
    cases e2
    obtain ⟨t, x1, x2, x3, x4, rfl, ht, t1, t2, t3, t4⟩ := Tp.four tx
    rw [t1.iint, t2.istr, t4.istr] at ht
    exact ⟨f, t, x3, rfl, rfl, ht, t3⟩
/-! ### the reckoning, turn by turn -/
abbrev Rec := Str × List Fl
def rD (r : Rec) : Str × PyData := (r.1, fieldsD r.2)
def mustKs (fs : List Fl) : List Kn := (fs.filter (·.must)).map (·.kd)
theorem mustKs_add (fs gs : List Fl) : mustKs (fs ++ gs) = mustKs fs ++ mustKs gs := by unfold mustKs; rw [List.filter_append, List.map_append]
theorem mustKs_len (fs : List Fl) : (mustKs fs).length ≤ fs.length := by unfold mustKs; rw [List.length_map]; exact List.length_filter_le _ _
def total (ps : List (Option Int)) : Option Int := if none ∈ ps then none else some ((ps.map fun o => fsz (o.getD 0)).sum)
def recSz (cs rs : List (Str × PyData)) (D : Szs) (fs : List Fl) : Option Int := total ((mustKs fs).map (kSz cs rs D))
def putS (D : Szs) (x : Str) : Option Int → Szs
  | none => D
  | some v => fun z => if z = x then some v else D z
def step (cs rs : List (Str × PyData)) (D : Szs) (r : Rec) : Szs := putS D r.1 (recSz cs rs D r.2)
def turn (cs rs : List (Str × PyData)) (recs : List Rec) (D : Szs) : Szs := recs.foldl (step cs rs) D
def turns (cs rs : List (Str × PyData)) (recs : List Rec) : Nat → Szs
  | 0 => fun _ => none
  | n + 1 => turn cs rs recs (turns cs rs recs n)
structure RecsOk (recs : List Rec) : Prop where
  len : recs.length ≤ 6
  fl : ∀ r ∈ recs, r.2.length ≤ 5
def NN (D : Szs) : Prop := ∀ z v, D z = some v → 0 ≤ v
theorem told_nn (n : Int) : 0 ≤ toldN n := by unfold toldN; split <;> decide
theorem fsz_nn {n : Int} (h : 0 ≤ n) : 0 ≤ fsz n := by have := told_nn n; unfold fsz; omega
theorem sum_nn : ∀ {l : List Int}, (∀ x ∈ l, 0 ≤ x) → 0 ≤ l.sum
  | [], _ => Int.le_refl _
  | x :: l, h => by
    rw [List.sum_cons]
    have h1 := h x List.mem_cons_self
    have h2 := sum_nn (l := l) fun y hy => h y (List.mem_cons_of_mem _ hy)
    omega
theorem kSz_nn {cs rs : List (Str × PyData)} {D : Szs} (h : NN D) {k : Kn} {v : Int} (e : kSz cs rs D k = some v) : 0 ≤ v := by
  unfold kSz at e
  split at e
  · cases e
  · split at e
    · cases e; decide
    · exact h _ _ e
    · cases e; decide
    · cases e; decide
theorem step_nn {cs rs : List (Str × PyData)} {D : Szs} (h : NN D) (r : Rec) : NN (step cs rs D r) := by
  unfold step recSz total
  split
  · exact h
  · intro z v e
    unfold putS at e
    dsimp only at e
    split at e
    · cases e
      refine sum_nn fun x hx => ?_
      obtain ⟨o, ho, rfl⟩ := List.mem_map.mp hx
      obtain ⟨k, _, ek⟩ := List.mem_map.mp ho
      cases o with
      | none => exact fsz_nn (Int.le_refl _)
      | some u => exact fsz_nn (kSz_nn h ek)
    · exact h z v e
theorem turn_nn {cs rs : List (Str × PyData)} : ∀ {recs : List Rec} {D : Szs}, NN D → NN (turn cs rs recs D)
  | [], _, h => h
  | r :: recs, D, h => turn_nn (recs := recs) (step_nn h r)
theorem turns_nn {cs rs : List (Str × PyData)} {recs : List Rec} : ∀ n, NN (turns cs rs recs n)
  | 0 => fun z v e => by cases e
  | n + 1 => turn_nn (turns_nn n)
theorem turn_next {cs rs : List (Str × PyData)} {recs : List Rec} {D : Szs} {i : Nat} {r : Rec} (h : recs[i]? = some r) : turn cs rs (recs.take (i + 1)) D = step cs rs (turn cs rs (recs.take i) D) r := by
  unfold turn
  rw [List.take_add_one, h, List.foldl_append]
  rfl
theorem non_in (ps : List (Option Int)) : inV V.non (ps.map optV) = decide (none ∈ ps) := by
  unfold inV
  induction ps with
  | nil => rfl
  | cons p r ih =>
    rw [List.map_cons, List.any_cons, ih]
    cases p with
    | none =>
      show (true || _) = _
      simp
    | some v =>
      show (false || _) = _
      simp
theorem flat_opts (ps : List (Option Int)) : (ps.map optV).all flatV = true := by
  rw [List.all_map, List.all_eq_true]
  intro o _
  cases o <;> rfl
theorem all_some {ps : List (Option Int)} (h : none ∉ ps) : ∃ ms : List Int, ps = ms.map some := by
  induction ps with
  | nil => exact ⟨[], rfl⟩
  | cons p r ih =>
    obtain ⟨ms, e⟩ := ih fun q => h (List.mem_cons_of_mem _ q)
    cases p with
    | none => exact absurd List.mem_cons_self h
    | some v => exact ⟨v :: ms, by rw [e]; rfl⟩
theorem dof_put {kvs : List (Key × V)} {D : Szs} (h : DOf kvs D) (x : Str) (v : Int) : DOf (putK kvs (.inr x) (.int v)) (putS D x (some v)) := by
  intro z
  unfold putS
  dsimp only
  rw [valV_put]
  by_cases e : z = x
  · subst e
    rw [if_pos rfl, if_pos rfl]
    rfl
  · rw [if_neg e, if_neg (fun q => e (by first | exact (Sum.inr.inj q) | exact (Sum.inr.inj q).symm))]
    exact h z
end Fh

set_option Elab.async false
set_option linter.all false
set_option maxRecDepth 100000
set_option maxHeartbeats 4000000
namespace Fh
open PySem L2 PyProof.Rows
abbrev nLSizes : List Str := ["face", "sizes", "turn", "record", "fields", "parts", "number", "name", "kind", "need", "part"]
def spLSizes (C : Addr) : Sp := fun vs H Q _ => ∃ (a : Addr) (cs : List (Str × PyData)) (recs : List Rec), vs = [.ref a] ∧ FaceR C H a cs (recs.map rD) ∧ cs.length ≤ 100 ∧ Cs1 cs ∧ RecsOk recs ∧
  ∀ (d : Addr) (kvs : List (Key × V)) (H' : Hp), Same H H' → H d = none → H' d = some (.dK kvs) → DOf kvs (turns cs (recs.map rD) recs recs.length) → Q (.ref d) H'
section
variable {P : Program} {w : World} {K : PySem.W.Frag} {mg : Str → Option Value} {base : Heap}
theorem recs_at {H : Hp} {xs : List V} {recs : List Rec} {i : Nat} {x : V} (q : TpAll H xs ((recs.map rD).map fun r => .tuple [.str r.1, r.2])) (e : xs[i]? = some x) :
    ∃ r t u, recs[i]? = some r ∧ x = .ref t ∧ H t = some (.tup [.str r.1, u]) ∧ Tp H u (fieldsD r.2) := by
  obtain ⟨r, t, u, hr, h1, h2, h3⟩ := rows_at q e
  rw [List.getElem?_map] at hr
  cases hr' : recs[i]? with
  | none => rw [hr'] at hr; cases hr
  | some r' =>
    rw [hr'] at hr
    cases hr
    exact ⟨r', t, u, rfl, h1, h2, h3⟩
end
end Fh

set_option Elab.async false
set_option linter.all false
set_option maxRecDepth 100000
set_option maxHeartbeats 4000000
namespace Fh
open PySem PySem.Spec PyProof.Rows L2
/-! ### sets whose elements are tuples of ints and texts -/
section
variable {P : Program} {w : World} {A : Around} {E : Value → Shared → Prop} {s : Shared}
/-- the tuple at x has these parts -/
abbrev TK (P : Program) (w : World) (h : Heap) (k : List Key) (x : Addr) : Prop := IsTupleKey (mixKind P w) h k x
abbrev kh (P : Program) (w : World) (k : List Key) : Int := tupleKeyHash (mixKind P w) k
theorem parts_shape {k : List Key} {vs : List Value} (h : PySem.ItemsAre (mixKind P w) k vs) : ∀ v ∈ vs, (∃ i t, v = Value.int i t) ∨ ∃ x t, v = Value.str x t := by
  induction h with
  | nil => intro v hv; cases hv
  | cons h1 _ ih =>
    intro v hv
    rcases List.mem_cons.mp hv with e | hv
    · rcases keyIs_shape h1 with ⟨i, t, _, e2⟩ | ⟨x, t, _, e2⟩
      · exact .inl ⟨i, t, e.trans e2⟩
      · exact .inr ⟨x, t, e.trans e2⟩
    · exact ih v hv
theorem noClass {v : Value} (h : (∃ i t, v = Value.int i t) ∨ ∃ x t, v = Value.str x t) (n : Nat) : ofAClassStatement n v = pure false := by
  rcases h with ⟨i, t, rfl⟩ | ⟨x, t, rfl⟩ <;> cases n <;> rfl
theorem byVal {v : Value} (h : (∃ i t, v = Value.int i t) ∨ ∃ x t, v = Value.str x t) (n : Nat) : ∃ b, hashByValue n v = pure b := by
  rcases h with ⟨i, t, rfl⟩ | ⟨x, t, rfl⟩
  · exact ⟨true, by cases n <;> rfl⟩
  · exact ⟨false, by cases n <;> rfl⟩
/-- whether a tuple's hash is by value: some answer -/
theorem byVal_tup {k : List Key} {b : Addr} {Q : Bool → Shared → Prop} (hk : TK P w s.heap k b) (h : ∀ r, Q r s) : wpAny (model P w) A (hashByValue 8 (.ref b)) Q E s := by
  have ty := hk.typeIs
  obtain ⟨o, its, n, ho, _, hd, hi⟩ := hk
  have sh := parts_shape hi
  unfold hashByValue
  refine wpAny_bind (wpAny_specialOf ty F.slot_tuple_hash.lookup ?_)
  refine wpAny_bind (m := seqItems? (.ref b)) (wpAny_seqItems ho hd ?_)
  refine wpAny_bind ?_
  show wpAny _ _ (forIn its _ _) _ _ s
  rw [← Array.forIn_toList]
  refine wpAny_forIn_list _ (fun rest r s' => s' = s ∧ ∀ v ∈ rest, (∃ i t, v = Value.int i t) ∨ ∃ x t, v = Value.str x t) _ ?_ ?_ _ _ ⟨rfl, sh⟩
  · rintro v rest r s' ⟨rfl, all⟩
    obtain ⟨q, hq⟩ := byVal (all v List.mem_cons_self) 7
    rw [hq]
    refine wpAny_bind (wpAny_pure ?_)
    cases q with
    | false =>
      simp only [Bool.not_false, if_true]
      exact wpAny_pure (wpAny_pure (h false))
    | true =>
      simp only [Bool.not_true, Bool.false_eq_true, if_false]
      exact wpAny_pure ⟨rfl, fun u hu => all u (List.mem_cons_of_mem _ hu)⟩
  · rintro ⟨r1, r2⟩ s' ⟨rfl, _⟩
    cases r1 with
    | none => exact wpAny_pure (h _)
    | some q => exact wpAny_pure (h _)
/-- a tuple has no part of a class statement -/
theorem class_tup {k : List Key} {b : Addr} {Q : Bool → Shared → Prop} (hk : TK P w s.heap k b) (h : Q false s) : wpAny (model P w) A (ofAClassStatement 8 (.ref b)) Q E s := by
  have ty := hk.typeIs
  obtain ⟨o, its, n, ho, _, hd, hi⟩ := hk
  have sh := parts_shape hi
  have e : (("tuple" : String) == "tuple") = true := by decide
  unfold ofAClassStatement
  refine wpAny_bind (wpAny_typeOf ty ?_)
  simp only [e, if_true]
  try refine wpAny_bind (wpAny_pure ?_)
  simp only [Bool.not_true, Bool.false_eq_true, if_false]
  refine wpAny_bind (m := seqItems? (.ref b)) (wpAny_seqItems ho hd ?_)
  dsimp only
  refine wpAny_bind ?_
  show wpAny _ _ (forIn its _ _) _ _ s
  rw [← Array.forIn_toList]
  refine wpAny_forIn_list _ (fun rest r s' => r.1 = none ∧ s' = s ∧ ∀ v ∈ rest, (∃ i t, v = Value.int i t) ∨ ∃ x t, v = Value.str x t) _ ?_ ?_ _ _ ⟨rfl, rfl, sh⟩
  · rintro v rest r s' ⟨_, rfl, all⟩
    rw [noClass (all v List.mem_cons_self)]
    refine wpAny_bind (wpAny_pure ?_)
    simp only [Bool.false_eq_true, if_false]
    exact wpAny_pure ⟨rfl, rfl, fun u hu => all u (List.mem_cons_of_mem _ hu)⟩
  · rintro ⟨r1, r2⟩ s' ⟨hr, rfl, _⟩
    cases r1 with
    | none => exact wpAny_pure h
    | some q => cases hr
/-- nobody sees a search among tuples -/
theorem unseen {k : List Key} {b : Addr} {Q : Bool → Shared → Prop} (hk : TK P w s.heap k b) (h : Q false s) : ∀ {ys : List Value}, (∀ y ∈ ys, ∃ k' c, y = Value.ref c ∧ TK P w s.heap k' c) →
    wpAny (model P w) A (searchCouldBeSeen (.ref b) ys) Q E s := by
  intro ys hy
  unfold searchCouldBeSeen
  refine wpAny_bind (wpAny_forIn_list _ (fun rest r s' => r.1 = none ∧ s' = s ∧ ∀ y ∈ rest, ∃ k' c, y = Value.ref c ∧ TK P w s.heap k' c) _ ?_ ?_ _ _ ⟨rfl, rfl, hy⟩)
  · rintro v rest r s' ⟨_, rfl, all⟩
    obtain ⟨k', c, rfl, hc⟩ := all v List.mem_cons_self
    have go : wpAny (model P w) A (pure (ForInStep.yield (none, ()))) (fun r s1 => match r with
        | ForInStep.yield b' => b'.1 = none ∧ s1 = s' ∧ ∀ y ∈ rest, ∃ k' c, y = Value.ref c ∧ TK P w s'.heap k' c
        | ForInStep.done b' => wpAny (model P w) A (match b'.1 with | some r => pure r | none => pure false) Q E s1) E s' := wpAny_pure ⟨rfl, rfl, fun u hu => all u (List.mem_cons_of_mem _ hu)⟩
    dsimp only
    split
    · exact go
    · refine wpAny_bind (wpAny_eqIsQuiet_tuple hk ?_)
      simp only [Bool.not_true, Bool.false_eq_true, if_false]
      refine wpAny_bind (wpAny_eqIsQuiet_tuple hc ?_)
      simp only [Bool.not_true, Bool.false_eq_true, if_false]
      refine wpAny_bind (class_tup hk ?_)
      simp only [Bool.false_eq_true, if_false]
      refine wpAny_bind (class_tup hc ?_)
      simp only [Bool.false_eq_true, if_false]
      exact go
  · rintro ⟨r1, r2⟩ s' ⟨hr, rfl, _⟩
    cases r1 with
    | none => exact wpAny_pure h
    | some q => cases hr
end
end Fh

set_option Elab.async false
set_option linter.all false
set_option maxRecDepth 100000
set_option maxHeartbeats 4000000
namespace Fh
open PySem PySem.Spec PyProof.Rows L2
/-! ### the steps of a search, counted from its beginning -/
abbrev stp (m : Nat) (h : Int) (c : Nat) : SetTable.Probe := nth m (runAt m (SetTable.bits h % (m + 1)) (SetTable.bits h)) c
theorem stp_more (m : Nat) (h : Int) (c q : Nat) : nth m (stp m h c) q = stp m h (c + q) := (nth_add m c _ q).symm
theorem stp_clean (m : Nat) (h : Int) : ∀ c, (stp m h c).dummy = none
  | 0 => rfl
  | c + 1 => by
    have e : stp m h (c + 1) = adv m (stp m h c) := nth_succ m _ c
    rw [e]
    unfold adv
    split <;> exact stp_clean m h c
def hashAt (es : Array (Int × Value)) (i : Nat) : Int := (es[i]?.map (·.1)).getD 0
/-- what the probe meets from a step on: the first entry with this hash, or the empty slot -/
theorem meets {t : SetTable} {hs : List Int} {es : Array (Int × Value)} {h : Int} {c K : Nat} (T : TabOk t hs) (he : es.toList.map (·.1) = hs) (hc : c ≤ K) (hf : K < 10 * SetTable.turns t.mask)
    (hK : way t.mask h K ∉ t.place.toList) (hb : ∀ k, k < K → way t.mask h k ∈ t.place.toList) :
    (∃ (c' i : Nat), c ≤ c' ∧ c' < K ∧ t.place.toList[i]? = some (way t.mask h c') ∧ (∀ (d j : Nat), c ≤ d → d < c' → t.place.toList[j]? = some (way t.mask h d) → hs[j]? ≠ some h) ∧
      t.probe (hashAt es) h (stp t.mask h c) = some (.candidate (way t.mask h c') i (stp t.mask h (c' + 1)))) ∨
    ((∀ (d j : Nat), c ≤ d → d < K → t.place.toList[j]? = some (way t.mask h d) → hs[j]? ≠ some h) ∧ t.probe (hashAt es) h (stp t.mask h c) = some (.empty (way t.mask h K) none)) := by
  have at_ : ∀ q, (nth t.mask (stp t.mask h c) q).j = way t.mask h (c + q) := fun q => congrArg SetTable.Probe.j (stp_more ..)
  have eK : c + (K - c) = K := by omega
  have val : ∀ j, hs[j]? = some h → hashAt es j = h := fun j hj => by
    rw [← he, List.getElem?_map] at hj
    unfold hashAt
    rw [← Array.getElem?_toList, hj]
    rfl
  rcases go_spec t T.ris T.dm (hashAt es) h (10 * SetTable.turns t.mask) (K - c) (stp t.mask h c) (stp_clean ..) (by omega) (fun q hq => by rw [at_]; exact hb _ (by omega)) (by rw [at_, eK]; exact hK) with ⟨q, i, h1, h2, _, h4, h5⟩ | ⟨h4, h5⟩
  · refine .inl ⟨c + q, i, by omega, by omega, by rw [← at_]; exact h2, fun d j h6 h7 h8 h9 => h4 (d - c) j (by omega) (by rw [at_, show c + (d - c) = d by omega]; exact h8) (val j h9), ?_⟩
    rw [← at_, show c + q + 1 = c + (q + 1) by omega, ← stp_more]
    exact h5
  · refine .inr ⟨fun d j h6 h7 h8 h9 => h4 (d - c) j (by omega) (by rw [at_, show c + (d - c) = d by omega]; exact h8) (val j h9), ?_⟩
    rw [at_, eK] at h5
    exact h5
section
variable {P : Program} {w : World} {A : Around} {E : Value → Shared → Prop} {s : Shared}
abbrev Row := Addr × List Key
def row (P : Program) (w : World) (p : Row) : Int × Value := (kh P w p.2, .ref p.1)
/-- a set's entries and table hold these tuples -/
structure Fit (P : Program) (w : World) (L : List Row) (es : Array (Int × Value)) (t : SetTable) : Prop where
  rows : es.toList = L.map (row P w)
  tab : TabOk t (L.map fun p => kh P w p.2)
  led : w.params.followText "set-order" = true ∨ t.led = true
  room : L.length ≤ t.mask
variable {L : List Row} {es : Array (Int × Value)} {ep : Nat} {t : SetTable} {a x : Addr} {k : List Key}
theorem Fit.size (F : Fit P w L es t) : es.size = L.length := by
  have q := congrArg List.length F.rows
  rwa [Array.length_toList, List.length_map] at q
theorem Fit.places (F : Fit P w L es t) : t.place.size = L.length := by
  have q := F.tab.sz
  rwa [List.length_map] at q
theorem Fit.fits (F : Fit P w L es t) : t.fits es.size = true := by
  have h1 := F.size
  have h2 := F.places
  have h3 := F.room
  simp only [SetTable.fits, SetTable.fill, F.tab.dm, Bool.and_eq_true, beq_iff_eq, decide_eq_true_eq]
  exact ⟨by omega, by simp; omega⟩
theorem Fit.entry (F : Fit P w L es t) {i : Nat} {p : Row} (h : L[i]? = some p) : es[i]? = some (row P w p) := by
  rw [← Array.getElem?_toList, F.rows, List.getElem?_map, h]
  rfl
theorem Fit.hashes (F : Fit P w L es t) : es.toList.map (·.1) = L.map fun p => kh P w p.2 := by
  rw [F.rows, List.map_map]
  rfl
theorem Fit.kept (F : Fit P w L es t) : ¬ t.gaveWay = true := by
  simp [SetTable.gaveWay, mask_odd F.tab.mok]
/-- the search for a tuple, from a step on behind which every equal one lies -/
theorem seek {o : Obj} (ho : s.heap.get? a = some o) (hd : o.data = .set es ep t) (F : Fit P w L es t) (tup : ∀ p ∈ L, TK P w s.heap p.2 p.1) (hx : TK P w s.heap k x) (hu : A.units < cLine) {K : Nat} (hf : K < 10 * SetTable.turns t.mask)
    (hK : way t.mask (kh P w k) K ∉ t.place.toList) (hb : ∀ c, c < K → way t.mask (kh P w k) c ∈ t.place.toList) {Q : SetFound → Shared → Prop}
    (hin : k ∈ L.map (·.2) → Q (.there none) s) (hout : k ∉ L.map (·.2) → Q (.free (way t.mask (kh P w k) K) false) s) :
    ∀ (d fuel c : Nat) (stand : Option SetTable.Probe), c + d = K → d < fuel → stand.getD (t.probeStart (kh P w k)) = stp t.mask (kh P w k) c →
      (∀ (i : Nat) p, L[i]? = some p → p.2 = k → ∃ c', c ≤ c' ∧ c' < K ∧ t.place.toList[i]? = some (way t.mask (kh P w k) c')) →
      wpAny (model P w) A (setSearchFrom a (.ref x) (kh P w k) true fuel stand) Q E s := by
  intro d
  induction d using Nat.strongRecOn with
  | _ d ih =>
    intro fuel c stand hc hfu hst later
    obtain ⟨fuel, rfl⟩ : ∃ f, fuel = f + 1 := ⟨fuel - 1, by omega⟩
    rw [setSearchFrom_succ]
    refine wpAny_bind (wpAny_setState_of ho hd F.fits ?_)
    refine wp_if_neg F.kept ?_
    try refine wpAny_bind (wpAny_pure ?_)
    rw [hst]
    have never : ∀ {lim : Nat}, (∀ (e j : Nat), c ≤ e → e < lim → t.place.toList[j]? = some (way t.mask (kh P w k) e) → (L.map fun p => kh P w p.2)[j]? ≠ some (kh P w k)) → ∀ (i : Nat) p, L[i]? = some p → p.2 = k → ∃ c', lim ≤ c' ∧ c' < K ∧ t.place.toList[i]? = some (way t.mask (kh P w k) c') := fun no i p hp hk => by
      obtain ⟨c', h1, h2, h3⟩ := later i p hp hk
      refine ⟨c', ?_, h2, h3⟩
      refine Nat.le_of_not_lt fun lt => no c' i h1 lt h3 ?_
      rw [List.getElem?_map, hp, ← hk]
      rfl
    rcases meets F.tab F.hashes (show c ≤ K by omega) hf hK hb with ⟨c', i, m1, m2, m3, m4, m5⟩ | ⟨m4, m5⟩
    · have m5' : t.probe (fun i => (es[i]?.map (·.1)).getD 0) (kh P w k) (stp t.mask (kh P w k) c) = _ := m5
      rw [m5']
      dsimp only
      have il : i < L.length := by
        have q := (List.getElem?_eq_some_iff.mp m3).1
        rw [Array.length_toList, F.places] at q
        exact q
      obtain ⟨p, hp⟩ : ∃ p, L[i]? = some p := ⟨_, List.getElem?_eq_getElem il⟩
      have pm : p ∈ L := List.mem_of_getElem? hp
      have cmp : wpAny (model P w) A (searchRest a (.ref x) (kh P w k) true fuel es t (way t.mask (kh P w k) c') i (stp t.mask (kh P w k) (c' + 1))) Q E s := by
        unfold searchRest
        rw [F.entry hp]
        refine wpAny_bind (wpAny_holding (wpAny_eqBool_tuple hu (tup p pm) hx ?_))
        refine wpAny_bind (wpAny_setState_of ho hd F.fits ?_)
        by_cases e : p.2 = k
        · refine wp_if_pos (by simp [e]) (wpAny_pure (hin ?_))
          exact List.mem_map.mpr ⟨p, pm, e⟩
        · refine wp_if_neg (by simp [e]) ?_
          try refine wpAny_bind (wpAny_pure ?_)
          rw [sameMem]
          have live : t.slot (way t.mask (kh P w k) c') = .live i := slot_live F.tab.ris m3
          simp only [if_true, live, F.entry hp]
          refine wpAny_bind (wpAny_isSame_ref_self (wpAny_bind (wpAny_pure ?_)))
          simp only [if_true]
          refine wp_if_neg (by simp [e]) ?_
          refine ih (K - (c' + 1)) (by omega) fuel (c' + 1) _ (by omega) (by omega) rfl fun j q hq hk => ?_
          obtain ⟨c2, h1, h2, h3⟩ := never m4 j q hq hk
          refine ⟨c2, Nat.lt_of_le_of_ne h1 fun e2 => ?_, h2, h3⟩
          rw [← e2] at h3
          have live2 := slot_live F.tab.ris h3
          rw [live] at live2
          injection live2 with e3
          rw [← e3, hp] at hq
          exact e (by rw [Option.some.inj hq]; exact hk)
      by_cases l : t.led = true
      · refine wp_if_neg (by simp [l]) ?_
        try refine wpAny_bind (wpAny_pure ?_)
        exact cmp
      · refine wp_if_pos (by simp [l]) (wpAny_bind (unseen hx ?_ fun y hy => ?_))
        · refine wp_if_neg (by decide) ?_
          try refine wpAny_bind (wpAny_pure ?_)
          exact cmp
        · obtain ⟨e, he, rfl⟩ := List.mem_map.mp hy
          have he2 : e ∈ es.toList := by
            have z : e ∈ es ∧ e.1 = kh P w k := by simpa using he
            exact Array.mem_toList_iff.mpr z.1
          rw [F.rows] at he2
          obtain ⟨q, hq, rfl⟩ := List.mem_map.mp he2
          exact ⟨q.2, q.1, rfl, tup q hq⟩
    · have m5' : t.probe (fun i => (es[i]?.map (·.1)).getD 0) (kh P w k) (stp t.mask (kh P w k) c) = _ := m5
      rw [m5']
      refine wpAny_pure (hout fun hm => ?_)
      obtain ⟨p, pm, hk⟩ := List.mem_map.mp hm
      obtain ⟨i, hi, e⟩ := List.getElem_of_mem pm
      obtain ⟨c', h1, h2, _⟩ := never m4 i p (by rw [List.getElem?_eq_getElem hi, e]) hk
      omega
/-- the search for a tuple -/
theorem seek_all {o : Obj} (ho : s.heap.get? a = some o) (hd : o.data = .set es ep t) (F : Fit P w L es t) (tup : ∀ p ∈ L, TK P w s.heap p.2 p.1) (hx : TK P w s.heap k x) (hu : A.units < cLine) {Q : SetFound → Shared → Prop}
    (hin : k ∈ L.map (·.2) → Q (.there none) s) (hout : ∀ K, k ∉ L.map (·.2) → way t.mask (kh P w k) K ∉ t.place.toList → (∀ c, c < K → way t.mask (kh P w k) c ∈ t.place.toList) → Q (.free (way t.mask (kh P w k) K) false) s) :
    wpAny (model P w) A (setSearch a (.ref x) (kh P w k) true) Q E s := by
  obtain ⟨K, hf, hK, hb⟩ := F.tab.first (by rw [List.length_map]; exact F.room) (kh P w k)
  have small : 10 * SetTable.turns t.mask ≤ 100000 := by
    unfold SetTable.turns
    rcases F.tab.mok with e | e | e <;> omega
  unfold setSearch
  refine seek ho hd F tup hx hu hf hK hb hin (fun n => hout K n hK hb) K 100000 0 none (by omega) (by omega) rfl fun i p hp hk => ?_
  have hi : (L.map fun p => kh P w p.2)[i]? = some (kh P w k) := by
    rw [List.getElem?_map, hp, ← hk]
    rfl
  obtain ⟨j, hj⟩ : ∃ j, t.place.toList[i]? = some j := by
    have il := (List.getElem?_eq_some_iff.mp hp).1
    exact ⟨_, List.getElem?_eq_getElem (by rw [Array.length_toList, F.places]; exact il)⟩
  obtain ⟨c, hc, e⟩ := F.tab.before hK hi hj
  exact ⟨c, Nat.zero_le _, hc, by rw [hj, e]⟩
end
end Fh

set_option Elab.async false
set_option linter.all false
set_option maxRecDepth 100000
set_option maxHeartbeats 4000000
namespace Fh
open PySem PySem.Spec PyProof.Rows L2
/-! ### picking entries by an order -/
theorem pick_all {α : Type} : ∀ L : List α, (List.range L.length).filterMap (fun i => L[i]?) = L
  | [] => rfl
  | x :: L => by
    rw [List.length_cons, List.range_succ_eq_map, List.filterMap_cons_some (by rfl), List.filterMap_map]
    exact congrArg (x :: ·) (pick_all L)
theorem pick_val {α : Type} {L : List α} {g : α → Int} {hs : Array Int} (e : hs.toList = L.map g) : ∀ ord : List Nat, (∀ i ∈ ord, i < L.length) → (ord.filterMap fun i => L[i]?).map g = ord.map fun i => hs.getD i 0
  | [], _ => rfl
  | i :: ord, h => by
    have hi := h i List.mem_cons_self
    have q : hs.getD i 0 = g L[i] := by
      have z : hs[i]? = some (g L[i]) := by
        rw [← Array.getElem?_toList, e, List.getElem?_map, List.getElem?_eq_getElem hi]
        rfl
      rw [Array.getD_eq_getD_getElem?, z]
      rfl
    rw [List.filterMap_cons_some (List.getElem?_eq_getElem hi), List.map_cons, List.map_cons, q, pick_val e ord fun j hj => h j (List.mem_cons_of_mem _ hj)]
section
variable {P : Program} {w : World} {A : Around} {E : Value → Shared → Prop} {s : Shared}
variable {L : List Row} {es : Array (Int × Value)} {ep : Nat} {t : SetTable} {a x : Addr} {k : List Key}
/-- the set at a holds these tuples -/
def InS (P : Program) (w : World) (h : Heap) (a : Addr) (L : List Row) : Prop :=
  ∃ o es ep t, h.get? a = some o ∧ o.ExactSet ∧ o.data = .set es ep t ∧ Fit P w L es t ∧ L.length * 5 < t.mask * 3
/-- no tuple is a set -/
theorem TK.apart {h h' : Heap} {o : Obj} (hk : TK P w h k x) (ho : h.get? a = some o) (hd : o.data = .set es ep t) (sb : Heap.SameBut a h h') : TK P w h' k x := by
  obtain ⟨o', its, n, ho', hc, hd', hi⟩ := hk
  refine ⟨o', its, n, ?_, hc, hd', hi⟩
  rw [sb.2 x fun e => by
    rw [e, ho] at ho'
    rw [← Option.some.inj ho', hd] at hd'
    cases hd']
  exact ho'
theorem tab_like {t t' : SetTable} {hs : List Int} (T : TabOk t hs) (h1 : t'.place = t.place) (h2 : t'.dummies = t.dummies) (h3 : t'.mask = t.mask) : TabOk t' hs := by
  refine ⟨?_, ?_, ?_, ?_, ?_, ?_⟩
  · rw [h1]; exact T.ris
  · rw [h2]; exact T.dm
  · rw [h1]; exact T.sz
  · rw [h3]; exact T.mok
  · rw [h1, h3]; exact T.bd
  · rw [h1, h3]; exact T.reach
/-- the table laid anew -/
theorem relay {o : Obj} (ho : s.heap.get? a = some o) (hex : o.ExactSet) (hd : o.data = .set es ep t) (F : Fit P w L es t) {n M : Nat} (hM : MaskOk M) (hn : SetTable.sizeAbove n = M + 1) (hr : L.length * 5 < M * 3) {Q : Unit → Shared → Prop}
    (hQ : ∀ h' L', Heap.SameBut a s.heap h' → InS P w h' a L' → L'.Perm L → Q () { s with heap := h' }) : wpAny (model P w) A (setRelay a n) Q E s := by
  have Mb : M ≤ 127 := by rcases hM with e | e | e <;> omega
  have sz := F.size
  obtain ⟨t', ord, e, pm, T, em, el, _, _⟩ := relaid_ok t (hs := es.map (·.1)) (wanted := n) (M := M) (by omega) hM (by rw [Array.size_map]; omega)
  rw [Array.size_map, sz] at pm
  have inb : ∀ i ∈ ord.toList, i < L.length := fun i hi => List.mem_range.mp (pm.mem_iff.mp hi)
  have rows : (ord.filterMap (es[·]?)).toList = (ord.toList.filterMap fun i => L[i]?).map (row P w) := by
    rw [Array.toList_filterMap, List.map_filterMap]
    congr 1
    funext i
    rw [← Array.getElem?_toList, F.rows, List.getElem?_map]
  have pL : (ord.toList.filterMap fun i => L[i]?).Perm L := by
    have z := pm.filterMap fun i => L[i]?
    rwa [pick_all] at z
  have hs : (ord.toList.filterMap fun i => L[i]?).map (fun p => kh P w p.2) = ord.toList.map fun i => (es.map (·.1)).getD i 0 := by
    refine pick_val ?_ _ inb
    rw [Array.toList_map]
    exact F.hashes
  rw [← hs] at T
  generalize (ord.toList.filterMap fun i => L[i]?) = L' at rows pL T
  have sz' : (ord.filterMap (es[·]?)).size = L.length := by
    have z := congrArg List.length rows
    rw [Array.length_toList, List.length_map] at z
    rw [z, pL.length_eq]
  rw [setRelay_eq]
  refine wpAny_bind (wpAny_setState_of ho hd F.fits ?_)
  refine wp_if_neg (by rw [sizeLine_eq]; omega) ?_
  try refine wpAny_bind (wpAny_pure ?_)
  rw [e]
  refine wpAny_bind (wp_if_neg (by rw [sz', sz]; simp) ?_)
  try refine wpAny_bind (wpAny_pure ?_)
  refine wpAny_pure (wpAny_storeSet_of ho hd ?_ (by rw [sz', sizeLine_eq]; omega))
  refine hQ _ L' (Heap.SameBut.update ..) ⟨_, _, _, _, store_at ho hd, ⟨hex.1, hex.2.1, hex.2.2⟩, rfl, ⟨rows, T, by rw [el]; exact F.led, by rw [em, pL.length_eq]; omega⟩, by rw [em, pL.length_eq]; exact hr⟩ pL
/-- a tuple added -/
theorem add_tup (hs : InS P w s.heap a L) (tup : ∀ p ∈ L, TK P w s.heap p.2 p.1) (hx : TK P w s.heap k x) (hu : A.units < cLine) (few : L.length < 63) {Q : Bool → Shared → Prop}
    (hQ : ∀ b h' L', Heap.SameBut a s.heap h' → InS P w h' a L' → (k ∈ L.map (·.2) → L' = L) → (k ∉ L.map (·.2) → L'.Perm ((x, k) :: L)) → Q b { s with heap := h' }) :
    wpAny (model P w) A (setAddHashed a (.ref x) (kh P w k)) Q E s := by
  obtain ⟨o, es, ep, t, ho, hex, hd, F, room⟩ := id hs
  have sz := F.size
  unfold setAddHashed
  refine wpAny_holding ?_
  rw [show (100000 : Nat) = 99999 + 1 from rfl, setAddHashedIn_succ]
  refine wpAny_bind (wpAny_setState_of ho hd F.fits ?_)
  refine wp_if_neg (by simp [byScan, Value.scannable]) ?_
  try refine wpAny_bind (wpAny_pure ?_)
  refine wpAny_bind (seek_all ho hd F tup hx hu (fun m => wpAny_pure (hQ _ s.heap L (Heap.SameBut.refl a s.heap) hs (fun _ => rfl) fun z => absurd m z)) fun K nm hK hb => ?_)
  refine wpAny_bind (wpAny_setState_of ho hd F.fits ?_)
  dsimp only
  obtain ⟨q1, q2, q3, q4, q5, q6, q7, q8, q9⟩ := F.tab.put hK hb
  generalize hpt : t.put (way t.mask (kh P w k) K) = pt at q1 q3 q4 q5 q6 q7 q8 q9 ⊢
  obtain ⟨t1, p⟩ := pt
  dsimp only at q1 q3 q4 q5 q6 q7 q8 q9 ⊢
  rw [← q1] at q2 q3
  rw [List.length_map] at q2 q9
  have rows : (SetTable.insertAt es p (kh P w k, Value.ref x)).toList = (L.take p ++ (x, k) :: L.drop p).map (row P w) := by
    rw [SetTable.toList_insertAt, F.rows, List.map_append, List.map_cons, List.map_take, List.map_drop]
    rfl
  have pm := put_perm L p (x, k)
  have hh : (L.take p ++ (x, k) :: L.drop p).map (fun p => kh P w p.2) = (L.map fun p => kh P w p.2).take p ++ kh P w k :: (L.map fun p => kh P w p.2).drop p := by
    rw [List.map_append, List.map_cons, List.map_take, List.map_drop]
  rw [← hh] at q3
  generalize L.take p ++ (x, k) :: L.drop p = L1 at rows pm q3
  generalize SetTable.insertAt es p (kh P w k, Value.ref x) = es1 at rows ⊢
  have len : L1.length = L.length + 1 := pm.length_eq
  have sz1 : es1.size = L.length + 1 := by
    have z := congrArg List.length rows
    rw [Array.length_toList, List.length_map] at z
    rw [z, len]
  have rm1 : L1.length ≤ t1.mask := by
    rw [len, q4]
    omega
  -- the rest, with whatever mark the table gets
  have rest : ∀ t2 : SetTable, t2.place = t1.place → t2.dummies = t1.dummies → t2.mask = t1.mask → t2.led = t1.led → wpAny (model P w) A (storeSet a es1 t2) (fun _ s' => wpAny (model P w) A (do
      if !false && t2.tooFull then setRelay a (SetTable.grown (es.size + 1))
      return true) Q E s') E s := fun t2 e1 e2 e3 e4 => by
    have F1 : Fit P w L1 es1 t2 := ⟨rows, tab_like q3 e1 e2 e3, by rw [e4, q5]; exact F.led, by rw [e3]; exact rm1⟩
    have full : t2.tooFull = decide ((L.length + 1) * 5 ≥ t.mask * 3) := by
      unfold SetTable.tooFull
      unfold SetTable.fill at q9 ⊢
      rw [e1, e2, q9, e3, q4]
    refine wpAny_storeSet_of ho hd ?_ (by rw [sz1, sizeLine_eq]; omega)
    have sb : Heap.SameBut a s.heap (s.heap.update a (Obj.putSet es1 t2)) := Heap.SameBut.update ..
    have ho1 := store_at (es' := es1) (t' := t2) ho hd
    generalize s.heap.update a (Obj.putSet es1 t2) = h1 at sb ho1 ⊢
    have ex1 : ({ o with data := .set es1 (ep + 1) t2 } : Obj).ExactSet := ⟨hex.1, hex.2.1, hex.2.2⟩
    by_cases f : (L.length + 1) * 5 ≥ t.mask * 3
    · rw [full, decide_eq_true f]
      first
        | (refine wp_if_pos (by simp) ?_; refine wpAny_bind ?_)
        | (refine wpAny_bind ?_; refine wp_if_pos (by simp) ?_)
      have go : ∀ M, MaskOk M → SetTable.sizeAbove (SetTable.grown (es.size + 1)) = M + 1 → (L.length + 1) * 5 < M * 3 → wpAny (model P w) A (setRelay a (SetTable.grown (es.size + 1))) (fun _ s' => wpAny (model P w) A (pure true) Q E s') E { s with heap := h1 } := fun M h1' h2' h3' =>
        relay (s := { s with heap := h1 }) ho1 ex1 rfl F1 h1' h2' (by rw [len]; exact h3') fun h2 L2 sb2 i2 p2 => wpAny_pure (hQ true h2 L2 (sb.trans sb2) i2 (fun z => absurd z nm) fun _ => p2.trans pm)
      rcases F.tab.mok with e | e | e
      · have l4 : es.size = 4 := by omega
        exact go 31 (.inr (.inl rfl)) (by rw [l4, size_20]) (by omega)
      · have l18 : es.size = 18 := by omega
        exact go 127 (.inr (.inr rfl)) (by rw [l18, size_76]) (by omega)
      · omega
    · rw [full, decide_eq_false f]
      have rm2 : L1.length * 5 < t2.mask * 3 := by
        rw [len, e3, q4]
        omega
      have fin : wpAny (model P w) A (pure true) Q E { s with heap := h1 } := wpAny_pure (hQ true h1 L1 sb ⟨_, _, _, _, ho1, ex1, rfl, F1, rm2⟩ (fun z => absurd z nm) fun _ => pm)
      first
        | exact wp_if_neg (by simp) fin
        | exact wpAny_bind (wp_if_neg (by simp) (wpAny_pure fin))
  by_cases pl : t1.plain = true
  · first
      | (refine wp_if_pos pl ?_; refine wpAny_bind (byVal_tup hx fun r => ?_))
      | refine wpAny_bind (wp_if_pos pl (byVal_tup hx fun r => ?_))
    cases r with
    | true => exact wpAny_bind (rest t1 rfl rfl rfl rfl)
    | false => exact wpAny_bind (rest { t1 with plain := false } rfl rfl rfl rfl)
  · first
      | (refine wp_if_neg pl ?_; refine wpAny_bind (wpAny_pure ?_))
      | refine wpAny_bind (wp_if_neg pl (wpAny_pure ?_))
    exact wpAny_bind (rest t1 rfl rfl rfl rfl)
end
end Fh

set_option Elab.async false
set_option linter.all false
set_option maxRecDepth 100000
set_option maxHeartbeats 4000000
namespace Fh
open PySem PySem.Spec PyProof.Rows L2
/-! ### set(a list of tuples), alike ones among them -/
/-- L are those met first among the first i -/
structure Met (ks : List Row) (i : Nat) (L : List Row) : Prop where
  sub : ∀ p ∈ L, p ∈ ks.take i
  all : ∀ p ∈ ks.take i, p.2 ∈ L.map (·.2)
  nd : (L.map (·.2)).Nodup
  len : L.length ≤ i
theorem Met.zero (ks : List Row) : Met ks 0 [] := ⟨fun p h => (by cases h), fun p h => (by simp at h), List.nodup_nil, Nat.le_refl _⟩
theorem Met.next {ks L L' : List Row} {i : Nat} {p : Row} (m : Met ks i L) (h : ks[i]? = some p) (h1 : p.2 ∈ L.map (·.2) → L' = L) (h2 : p.2 ∉ L.map (·.2) → L'.Perm (p :: L)) : Met ks (i + 1) L' := by
  have e : ks.take (i + 1) = ks.take i ++ [p] := by rw [List.take_succ, h]; rfl
  have wid : ∀ q, q ∈ ks.take i → q ∈ ks.take (i + 1) := fun q hq => by rw [e]; exact List.mem_append_left _ hq
  by_cases c : p.2 ∈ L.map (·.2)
  · rw [h1 c]
    refine ⟨fun q hq => wid q (m.sub q hq), fun q hq => ?_, m.nd, Nat.le_succ_of_le m.len⟩
    rw [e] at hq
    rcases List.mem_append.mp hq with z | z
    · exact m.all q z
    · rw [List.mem_singleton.mp z]; exact c
  · have pm := h2 c
    have pm2 : (L'.map (·.2)).Perm (p.2 :: L.map (·.2)) := pm.map (·.2)
    refine ⟨fun q hq => ?_, fun q hq => ?_, pm2.nodup_iff.mpr (List.nodup_cons.mpr ⟨c, m.nd⟩), ?_⟩
    · rcases List.mem_cons.mp (pm.mem_iff.mp hq) with z | z
      · rw [e, z]; exact List.mem_append_right _ (List.mem_singleton.mpr rfl)
      · exact wid q (m.sub q z)
    · rw [e] at hq
      refine pm2.mem_iff.mpr ?_
      rcases List.mem_append.mp hq with z | z
      · exact List.mem_cons_of_mem _ (m.all q z)
      · rw [List.mem_singleton.mp z]; exact List.mem_cons_self
    · have := pm.length_eq
      have := m.len
      simp only [List.length_cons] at *
      omega
section
variable {P : Program} {w : World} {A : Around} {ks : List Row}
theorem TK.at {h h' : Heap} {k : List Key} {x : Addr} (hk : TK P w h k x) (e : ∀ o, h.get? x = some o → h'.get? x = some o) : TK P w h' k x := by
  obtain ⟨o, its, n, ho, r⟩ := hk
  exact ⟨o, its, n, e o ho, r⟩
theorem InS.at {h h' : Heap} {L : List Row} {a : Addr} (hs : InS P w h a L) (e : ∀ o, h.get? a = some o → h'.get? a = some o) : InS P w h' a L := by
  obtain ⟨o, es, ep, t, ho, r⟩ := hs
  exact ⟨o, es, ep, t, e o ho, r⟩
theorem fillT {R : Result → Shared → Prop} {I S : Addr} {fp wr : List Addr} {G : Array GenState → Array GenState → Prop} {Pv : Nat → Value → Prop} {St : Nat → Shared → Prop} {s0 : Shared}
    (W : WalksS P w A.in1 I fp wr G ks.length Pv St) (hS : S ∉ fp) (hb : ks.length < 64) (hk : ∀ i v, Pv i v → ∃ p, ks[i]? = some p ∧ v = .ref p.1) (tu : ∀ p ∈ ks, TK P w s0.heap p.2 p.1) (ap : ∀ p ∈ ks, p.1 ∉ S :: wr) (hu : A.in1.units < cLine)
    (fin : ∀ s' L, Moved (S :: wr) G s0 s' → InS P w s'.heap S L → Met ks ks.length L → R (.ok (.ret .none)) s') :
    ∀ (d i : Nat) (s : Shared) (L : List Row), i + d = ks.length → St i s → Moved (S :: wr) G s0 s → InS P w s.heap S L → Met ks i L →
      codeAny (model P w) A (.builtin "set.update.loop" ⟨[.ref S, .ref I], []⟩) R s := by
  have out : S ∉ wr := fun h => hS (W.sub _ h)
  have more : ∀ {s1 s2 : Shared}, Moved wr G s1 s2 → Moved (S :: wr) G s1 s2 := fun m => m.mono fun b hb => List.mem_cons_of_mem _ hb
  have now : ∀ {s1 : Shared}, Moved (S :: wr) G s0 s1 → ∀ p ∈ ks, TK P w s1.heap p.2 p.1 := fun m p hp => (tu p hp).at fun o e => m.heap _ o (ap p hp) e
  intro d
  induction d with
  | zero =>
    intro i s L e st mv so me
    have ei : i = ks.length := by omega
    rw [ei] at st me
    refine codeAny_builtin PyProof.Rows.F.entry_set_update_loop ?_
    rw [Around.under_plainId PyProof.Rows.F.plain_set_update_loop _]
    exact wpAny_bind (m := pyNext (.ref I)) (W.done s _ _ st fun s1 m1 => wpAny_pure (fin s1 L (Moved.trans W.gtrans mv (more m1)) (so.at fun o e => m1.heap _ o out e) me))
  | succ d ih =>
    intro i s L e st mv so me
    refine codeAny_builtin PyProof.Rows.F.entry_set_update_loop ?_
    rw [Around.under_plainId PyProof.Rows.F.plain_set_update_loop _]
    refine wpAny_bind (m := pyNext (.ref I)) (W.item i s _ _ (by omega) st fun v s1 pv st1 m1 => ?_)
    obtain ⟨p, hp, rfl⟩ := hk i v pv
    have mv1 := Moved.trans W.gtrans mv (more m1)
    have tu1 := now mv1
    have so1 := so.at (h' := s1.heap) fun o e => m1.heap _ o out e
    have pk := tu1 p (List.mem_of_getElem? hp)
    have sub : ∀ q ∈ L, q ∈ ks := fun q hq => List.mem_of_mem_take (me.sub q hq)
    have hl := me.len
    refine wpAny_bind (m := holding [Value.ref p.1] (setAdd S (.ref p.1))) (wpAny_holding (wpAny_holding (wpAny_bind (wpAny_pyHash_tuple hu pk (add_tup (s := { s1 with toks := s1.toks + (p.2.length + 1) }) so1 (fun q hq => tu1 q (sub q hq)) pk hu (by omega) fun b h2 L2 sb so2 c1 c2 => ?_)))))
    have other : ∀ b o, b ≠ S → s1.heap.get? b = some o → h2.get? b = some o := fun b o n g => by rw [sb.2 b n]; exact g
    exact wpAny_pure ⟨plainId_quiet PyProof.Rows.F.plain_set_update_loop _, ih (i + 1) _ L2 (by omega) (W.frame _ s1 _ _ st1 (Nat.le_add_right _ _) fun b hb o g => other b o (fun h => hS (h ▸ hb)) g) (Moved.trans W.gtrans mv ((more m1).then_heap (Nat.le_add_right _ _) fun b o hb g => other b o (fun h => hb (h ▸ List.mem_cons_self)) g)) so2 (me.next hp c1 c2)⟩
end
end Fh

set_option Elab.async false
set_option linter.all false
set_option maxRecDepth 100000
set_option maxHeartbeats 4000000
namespace Fh
open PySem PySem.Spec PyProof.Rows L2
section
variable {P : Program} {w : World} {A : Around} {ks : List Row}
abbrev noSet (w : World) : Obj := { cls := .type "set", dict := none, data := .set #[] 0 (.fresh 0 0 (!w.params.followText "set-order")) }
theorem InS.new {h : Heap} {a : Addr} (ho : h.get? a = some (noSet w)) : InS P w h a [] := by
  refine ⟨_, _, _, _, ho, ⟨rfl, rfl, rfl⟩, rfl, ⟨rfl, ⟨List.Pairwise.nil, rfl, rfl, .inl rfl, fun x hx => (by cases hx), fun i h j hi => (by simp at hi)⟩, ?_, Nat.zero_le _⟩, ?_⟩
  · show _ ∨ (!w.params.followText "set-order") = true
    cases w.params.followText "set-order"
    · exact .inr rfl
    · exact .inl rfl
  · show 0 * 5 < 7 * 3
    decide
theorem initT {R : Value → Shared → Prop} {E : Value → Shared → Prop} {s : Shared} {S l : Addr} {items : Array Value} (hh : A.handled = none) (hl : s.heap.IsList l items) (hS : s.heap.get? S = some (noSet w))
    (hn : items.size = ks.length) (hb : ks.length < 64) (hk : ∀ (i : Nat) (v : Value), items[i]? = some v → ∃ p, ks[i]? = some p ∧ v = Value.ref p.1) (tu : ∀ p ∈ ks, TK P w s.heap p.2 p.1) (hu : A.units + 3 < cLine)
    (fin : ∀ (h' : Heap) (tk : Nat) L, InS P w h' S L → Met ks ks.length L → (∀ b o, b ≠ S → s.heap.get? b = some o → h'.get? b = some o) → R .none { s with heap := h', toks := tk }) :
    codeAny (model P w) A (.call (.builtin "set.__init__") ⟨[.ref S, .ref l], []⟩) (wants R E) s := by
  refine codeAny_call_builtin F.called_set.init.plain F.entry_set_init (check_set_init_1 ⟨_, hS, rfl⟩ ?_)
  have hl0 := hl
  obtain ⟨⟨oc, od, odt, osl⟩, hol, hcl, nl, hdl⟩ := hl
  dsimp only at hcl hdl
  subst hcl
  subst hdl
  have q1 := F.sub_list_set
  have q2 := F.sub_list_frozenset
  have q3 : (Value.type "list" == Value.type "dict") = false := by decide
  have lS : l ≠ S := fun e => by
    rw [e, hS] at hol
    have c := congrArg Obj.cls (Option.some.inj hol)
    exact absurd (show Value.type "set" = Value.type "list" from c) (by decide)
  unfold Builtin.«set.__init__» noKeywords Builtin.Frozenset.updateFrom
  generalize hit : pyIter = it
  wp_walk
  subst hit
  refine wpAny_pyIter_list hl0 (wpAny_bind (wpAny_runValue ?_))
  have n1 : l ≠ s.heap.objs.size := Nat.ne_of_lt (Heap.lt_size hol)
  have n2 : S ≠ s.heap.objs.size := Nat.ne_of_lt (Heap.lt_size hS)
  have h3 : A.in1.in1.handled = none := by simp [hh]
  have keep : ∀ {b : Addr} {o : Obj}, s.heap.get? b = some o → (s.heap.push { cls := .type "list_iterator", data := .fields #[.ref l, .int 0 0] }).get? b = some o := fun e => Heap.get?_push_of_some _ e
  have W := (Walks.list (prog := P) (w := w) h3 s.heap.objs.size l n1 items).toS
  rw [hn] at W
  refine fillT (s0 := { s with heap := s.heap.push { cls := .type "list_iterator", data := .fields #[.ref l, .int 0 0] } }) W (S := S) (by simp [n2, lS.symm]) hb hk (fun p hp => (tu p hp).at fun o e => keep e) (fun p hp => ?_) (show A.units + 1 + 1 < cLine by omega) (fun s' L mv so me => ?_) ks.length 0 _ [] (Nat.zero_add _) ⟨⟨_, Heap.get?_push_size _ rfl, rfl, rfl⟩, hl0.push _⟩ ⟨fun _ _ _ e => e, W.grefl _, rfl, rfl, Nat.le_refl _⟩ (InS.new (keep hS)) (Met.zero ks)
  · obtain ⟨o, its, n, ho, hc, _⟩ := tu p hp
    have a1 : p.1 ≠ s.heap.objs.size := Nat.ne_of_lt (Heap.lt_size ho)
    have a2 : p.1 ≠ S := fun e => by
      rw [e, hS] at ho
      rw [← Option.some.inj ho] at hc
      exact absurd (show Value.type "set" = Value.type "tuple" from hc) (by decide)
    simp [a1, a2]
  · obtain ⟨h', g', d', tk', os'⟩ := s'
    have eg : g' = s.gens := mv.gens
    have ed : d' = s.drawn := mv.drawn
    have eo : os' = s.os := mv.os
    subst eg
    subst ed
    subst eo
    exact wpAny_pure (wpAny_pure (fin h' tk' L so me fun b o nb e => mv.heap b o (by simp only [List.mem_cons, List.not_mem_nil, or_false, not_or]; exact ⟨nb, Nat.ne_of_lt (Heap.lt_size e)⟩) (keep e)))
/-- set(a list of tuples) -/
theorem call_setT {E : Value → Shared → Prop} {s : Shared} {l : Addr} {items : Array Value} {Q : Value → Shared → Prop} (hh : A.handled = none) (hl : s.heap.IsList l items) (hn : items.size = ks.length) (hb : ks.length < 64) (hk : ∀ (i : Nat) (v : Value), items[i]? = some v → ∃ p, ks[i]? = some p ∧ v = Value.ref p.1)
    (tu : ∀ p ∈ ks, TK P w s.heap p.2 p.1) (hu : A.units + 9 < cLine)
    (h : ∀ (h' : Heap) (tk : Nat) L, InS P w h' s.heap.objs.size L → Met ks ks.length L → (∀ b o, s.heap.get? b = some o → h'.get? b = some o) → Q (.ref s.heap.objs.size) { s with heap := h', toks := tk }) : wpAny (model P w) A (call (.type "set") [.ref l]) Q E s := by
  obtain ⟨c, tl, m1⟩ := F.called_set.mro
  have m2 := F.called_set.made
  have m3 := F.called_set.sub
  have m4 := F.called_set.notType
  have m5 := F.called_set.canCreate
  have m6 := F.typeCall_set_1 (.ref l)
  refine wpAny_call (codeAny_of_tree (wpAny_pure ⟨Code.quiet_builtin _ (by decide +kernel), codeAny_builtin F.entry_type_call ?_⟩))
  rw [Around.under_plain (weight_type_call_type "set" [.ref l] []) rfl]
  repeat (any_goals (first | assumption | wp_step))
  refine codeAny_mono (code_set_led1 (.ref l) (E := E) (Q₁ := fun v s1 => v = .ref s.heap.objs.size ∧ s1 = { s with heap := s.heap.push (noSet w) }) ⟨rfl, rfl⟩) fun r s1 hr => ?_
  rcases r with e | fl
  · exact hr
  · cases fl with
    | ret obj =>
      obtain ⟨rfl, rfl⟩ := hr
      have at0 : (s.heap.push (noSet w)).get? s.heap.objs.size = some (noSet w) := Heap.get?_push_size _ rfl
      have ty0 : Shared.TypeIs { s with heap := s.heap.push (noSet w) } (.ref s.heap.objs.size) "set" := ⟨_, at0, rfl⟩
      have i1 := F.called_set.init.lookup
      have i2 := F.called_set.init.bind (.ref s.heap.objs.size)
      repeat (any_goals (first | assumption | wp_step))
      refine codeAny_mono (initT (ks := ks) (E := E) (R := fun v s2 => v = .none ∧ ∃ h' tk L, s2 = { s with heap := h', toks := tk } ∧ InS P w h' s.heap.objs.size L ∧ Met ks ks.length L ∧ ∀ b o, s.heap.get? b = some o → h'.get? b = some o) (by simp [hh]) (hl.push _) at0 hn hb hk (fun p hp => (tu p hp).at fun o e => Heap.get?_push_of_some _ e) (show A.units + 1 + 3 < cLine by omega) fun h' tk L so me keep => ⟨rfl, h', tk, L, rfl, so, me, fun b o e => keep b o (Nat.ne_of_lt (Heap.lt_size e)) (Heap.get?_push_of_some _ e)⟩) fun r2 s2 hr2 => ?_
      rcases r2 with e | fl2
      · exact hr2
      · cases fl2 with
        | ret v =>
          obtain ⟨rfl, h', tk, L, rfl, so, me, keep⟩ := hr2
          repeat (any_goals (first | assumption | wp_step))
          exact h h' tk L so me keep
        | _ => exact hr2.elim
    | _ => exact hr.elim
end
end Fh

set_option Elab.async false
set_option linter.all false
set_option maxRecDepth 100000
set_option maxHeartbeats 4000000
namespace Fh
open PySem PySem.Spec PyProof.Rows L2
/-! ### sorted, of tuples of texts -/
/-- an address, and the texts of the tuple there -/
abbrev TxR := Addr × List Str
def tr (p : TxR) : Row := (p.1, p.2.map Sum.inr)
def txD (p : TxR) : PyData := .tuple (p.2.map .str)
/-- Python's order of tuples of texts -/
def slLe (x y : List Str) : Bool := !(PyProof.Rows.listOrd PyProof.Rows.itemOrd).blt (PySem.W.keyToks (.tuple (y.map .str))) (PySem.W.keyToks (.tuple (x.map .str)))
theorem txLe_eq : PySem.W.dataLe false txD = fun p q => slLe p.2 q.2 := rfl
theorem toks_inj : ∀ {x y : List Str}, PySem.W.keyToksAll (x.map .str) = PySem.W.keyToksAll (y.map .str) → x = y
  | [], [], _ => rfl
  | [], _ :: _, h => by simp [PySem.W.keyToksAll] at h
  | _ :: _, [], h => by simp [PySem.W.keyToksAll] at h
  | a :: x, b :: y, h => by
    simp only [List.map_cons, PySem.W.keyToksAll, PySem.W.keyToks, List.cons_append, List.nil_append, List.cons.injEq, true_and, Sum.inr.injEq] at h
    have e : a = b := by
      cases a; cases b
      exact congrArg Str.mk (Array.toList_inj.mp h.1)
    rw [e, toks_inj h.2]
theorem sl_total : PySem.W.TotalLe (fun p q : TxR => slLe p.2 q.2) := PySem.W.sortLe_total (PyProof.Rows.listOrd PyProof.Rows.itemOrd) false fun b : TxR => PySem.W.keyToks (txD b)
theorem not_t {b : Bool} (h : (!b) = true) : b = false := by cases b <;> first | rfl | cases h
theorem sl_anti {x y : List Str} (h1 : slLe x y = true) (h2 : slLe y x = true) : x = y := by
  have e := (PyProof.Rows.listOrd PyProof.Rows.itemOrd).total _ _ (not_t h1) (not_t h2)
  exact (toks_inj e).symm
theorem perm_unmap {α β : Type} {f : α → β} : ∀ {l : List β} {T : List α}, l.Perm (T.map f) → ∃ T' : List α, T'.Perm T ∧ l = T'.map f
  | [], T, h => by
    have e : T = [] := List.map_eq_nil_iff.mp h.symm.eq_nil
    subst e
    exact ⟨[], .nil, rfl⟩
  | v :: r, T, h => by
    obtain ⟨t, ht, rfl⟩ := List.mem_map.mp (h.mem_iff.mp List.mem_cons_self)
    obtain ⟨T1, T2, rfl⟩ := List.append_of_mem ht
    have h2 : (f t :: r).Perm (f t :: (T1 ++ T2).map f) := by
      refine h.trans ?_
      rw [List.map_append, List.map_cons, List.map_append]
      exact List.perm_middle
    obtain ⟨T', p, e⟩ := perm_unmap h2.cons_inv
    exact ⟨t :: T', (p.cons t).trans List.perm_middle.symm, by rw [e]; rfl⟩
/-- texts sorted as tuples stand in one way -/
theorem sl_one {l m : List (List Str)} (h : l.Perm m) (h1 : l.Pairwise fun x y => slLe x y = true) (h2 : m.Pairwise fun x y => slLe x y = true) : l = m := by
  have tot := sl_total
  have tt : ∀ x y : List Str, (slLe x y || slLe y x) = true := fun x y => by
    rcases tot.total (0, x) (0, y) with e | e
    · exact Bool.or_eq_true _ _ ▸ .inl e
    · exact Bool.or_eq_true _ _ ▸ .inr e
  have tn : ∀ x y z : List Str, slLe x y = true → slLe y z = true → slLe x z = true := fun x y z => tot.trans (0, x) (0, y) (0, z)
  have an : ∀ x y : List Str, slLe x y = true → slLe y x = true → x = y := fun x y => sl_anti
  exact (PySem.W.Srt.the_of_perm slLe tn tt an h h1).trans (PySem.W.Srt.the_of_perm slLe tn tt an (List.Perm.refl m) h2).symm
theorem alike_strs : ∀ x y : List Str, PySem.W.alikeAll (x.map .str) (y.map .str) = true
  | [], _ => by simp [PySem.W.alikeAll]
  | _ :: _, [] => by simp [PySem.W.alikeAll]
  | a :: x, b :: y => by simp [PySem.W.alikeAll, PySem.W.alike, alike_strs x y]
theorem depth_strs : ∀ x : List Str, PyData.depthAll (x.map .str) = 0
  | [] => rfl
  | a :: x => by simp [PyData.depthAll, PyData.depth, depth_strs x]
section
variable {P : Program} {w : World} {A : Around} {E : Value → Shared → Prop} {s : Shared}
theorem reads_strs {h : Heap} : ∀ {x : List Str} {vs : List Value}, PySem.ItemsAre (mixKind P w) (x.map Sum.inr) vs → ReadsAll h vs (x.map .str) []
  | [], _, .nil => .nil
  | a :: x, _, .cons h1 r => by
    rcases keyIs_shape (show keyIs (Sum.inr a) _ = true from h1) with ⟨i, t, e, _⟩ | ⟨y, t, e, rfl⟩
    · cases e
    · cases e
      exact .cons (.str a t) (reads_strs r)
theorem reads_tx {h : Heap} {p : TxR} (k : TK P w h (tr p).2 (tr p).1) : Reads h (.ref p.1) (txD p) [] := by
  obtain ⟨o, its, n, ho, hc, hd, hi⟩ := k
  exact .tuple ho hc hd (reads_strs hi)
theorem each_refs (R : Value → TxR → Prop) : ∀ T : List TxR, (∀ p ∈ T, R (.ref p.1) p) → PySem.W.EachIs R (T.map fun p => Value.ref p.1) T
  | [], _ => .nil
  | p :: T, h => .cons (h p List.mem_cons_self) (each_refs R T fun q hq => h q (List.mem_cons_of_mem _ hq))
theorem refs_each : ∀ {vs : List Value} {T : List TxR}, PySem.W.EachIs (fun v (p : TxR) => v = .ref p.1) vs T → vs = T.map fun p => Value.ref p.1
  | _, _, .nil => rfl
  | _, _, .cons e r => by rw [e, refs_each r]; rfl
theorem sorted_pw (T : List TxR) : ((T.mergeSort (PySem.W.dataLe false txD)).map (·.2)).Pairwise fun x y => slLe x y = true := by
  rw [txLe_eq]
  exact List.pairwise_map.mpr (PySem.W.sort_pairwise sl_total T)
/-- sorted(a set of tuples of texts) -/
theorem call_sortedT {a : Addr} {T : List TxR} {Q : Value → Shared → Prop} (hs : InS P w s.heap a (T.map tr)) (tup : ∀ p ∈ T, TK P w s.heap (tr p).2 (tr p).1) (ne : ∀ p ∈ T, p.2 ≠ []) (few : T.length < 64) (hh : A.handled = none) (hu : A.units + 9 < cLine)
    (hQ : ∀ s' q (out : Array Value) (c : Nat) (T' : List TxR), (∀ b o, s.heap.get? b = some o → s'.heap.get? b = some o) → s'.gens = s.gens → s'.os = s.os → s.heap.objs.size ≤ q → s'.heap.get? q = some (seqObj "list" out c) →
      out.toList = T'.map (fun p => Value.ref p.1) → T'.Perm T → (T'.map (·.2)).Pairwise (fun x y => slLe x y = true) → Q (.ref q) s') : wpAny (model P w) A (call (.builtin "sorted") [.ref a]) Q E s := by
  obtain ⟨o, es, ep, t, ho, hex, hd, F, room⟩ := hs
  have sz := F.size
  rw [List.length_map] at sz
  refine Calls.call_function_entry kind_sorted plain_sorted entry_sorted (args_sorted1 _) ?_
  unfold Builtin.«sorted»
  refine wpAny_bind (m := checkCount "sorted" 1 1 _) (wpAny_pure ?_)
  refine wpAny_bind (collect_set (A := A.in1) hh ⟨o, ho, hex.1, hd⟩ F.fits (by unfold scanBound; omega) F.tab.ris F.led fun s1 vs k1 hz g1 o1 pm => ?_)
  have ev : es.toList.map (·.2) = T.map fun p => Value.ref p.1 := by
    rw [F.rows, List.map_map, List.map_map]
    rfl
  rw [ev] at pm
  obtain ⟨T1, pT, rfl⟩ := perm_unmap pm
  have l1 : T1.length < 64 := by rw [pT.length_eq]; exact few
  refine wpAny_bind (wpAny_newList ?_ (by rw [List.length_map, sizeLine_eq]; omega))
  have at1 : (s1.heap.push (seqObj "list" (T1.map fun p => Value.ref p.1).toArray 0)).get? s1.heap.objs.size = some (seqObj "list" (T1.map fun p => Value.ref p.1).toArray 0) := Heap.get?_push_size _ rfl
  refine wpAny_bind (wpAny_holding (PySem.W.list_sort_data (s := { s1 with heap := s1.heap.push (seqObj "list" (T1.map fun p => Value.ref p.1).toArray 0) }) (R := fun v (p : TxR) => v = .ref p.1) (enc := txD) (bs := T1) at1 (each_refs _ T1 fun _ _ => rfl) (each_refs _ T1 fun p hp => ⟨[], reads_tx ((tup p (pT.mem_iff.mp hp)).at fun o e => Heap.get?_push_of_some _ (k1 _ o e)), fun h => nomatch h⟩) (PySem.W.AllAlike.of fun b b' => by unfold txD PySem.W.alike; exact alike_strs _ _) (.inl fun d hd => ?_) (by rw [sizeLine_eq]; omega) (fun b hb => ?_) fun out ol eo => ?_))
  · obtain ⟨p, hp, rfl⟩ := List.mem_map.mp hd
    have n0 := ne p (pT.mem_iff.mp hp)
    unfold txD
    cases e : p.2 with
    | nil => exact absurd e n0
    | cons y r => exact ⟨.str y, r.map .str, rfl⟩
  · unfold txD PyData.depth
    rw [depth_strs]
    show A.units + 1 + 1 + _ < cLine
    omega
  · obtain ⟨c, hc⟩ := sortedHeap_at (vs := T1.map fun p => Value.ref p.1) (out := out.toArray) at1
    refine wpAny_pure ⟨_, rfl, hQ _ s1.heap.objs.size out.toArray c (T1.mergeSort (PySem.W.dataLe false txD)) (fun b u e => ?_) g1 o1 hz hc (by simpa using refs_each eo) ((List.mergeSort_perm T1 _).trans pT) (sorted_pw T1)⟩
    have q := k1 b u e
    have lt := Heap.lt_size q
    show (sortedHeap _ s1.heap.objs.size _ _).get? b = some u
    rw [sortedHeap_old (Nat.ne_of_lt lt) (by rw [size_push']; exact Nat.lt_succ_of_lt lt)]
    exact Heap.get?_push_of_some _ q
end
end Fh

set_option Elab.async false
set_option linter.all false
set_option maxRecDepth 100000
set_option maxHeartbeats 4000000
namespace Fh
open PySem PySem.Spec PyProof.Rows L2
/-! ### set(xs), sorted(set), sorted(xs): tuples of texts -/
def SetTx (P : Program) (w : World) (a : Addr) (T : List TxR) : HO := .ext fun h => InS P w h a (T.map tr)
theorem setTx_new {P : Program} {w : World} {H : Hp} {h : Heap} {a : Addr} {T : List TxR} (R : InS P w h a (T.map tr)) : ObjOk P w H h a (SetTx P w a T) := by
  have ⟨o, es, ep, t, ho, r⟩ := R
  exact ⟨R, ⟨o, ho⟩, fun h1 h2 p k => InS.at p fun o e => k o e⟩
theorem items_strs {P : Program} {w : World} : ∀ {x : List Str} {us : List Value}, Vals (x.map V.str) us → PySem.ItemsAre (mixKind P w) (x.map Sum.inr) us
  | [], _, .nil => .nil
  | y :: x, _, .cons r t => by
    obtain ⟨tk, rfl⟩ := r
    exact .cons (mixKind_str P w y tk) (items_strs t)
theorem refs_vals : ∀ {T : List TxR} {us : List Value}, Vals (T.map fun p => V.ref p.1) us → us = T.map fun p => Value.ref p.1
  | [], _, .nil => rfl
  | p :: T, _, .cons r t => by
    cases r
    rw [refs_vals t]
    rfl
theorem vals_refs : ∀ (T : List TxR), Vals (T.map fun p => V.ref p.1) (T.map fun p => Value.ref p.1)
  | [] => .nil
  | p :: T => .cons rfl (vals_refs T)
/-- those of some rows that are rows of texts -/
theorem tr_back : ∀ {L : List Row} {T : List TxR}, (∀ p ∈ L, p ∈ T.map tr) → ∃ T' : List TxR, L = T'.map tr ∧ ∀ p ∈ T', p ∈ T
  | [], _, _ => ⟨[], rfl, fun p h => (by cases h)⟩
  | p :: L, T, h => by
    obtain ⟨t, ht, e⟩ := List.mem_map.mp (h p List.mem_cons_self)
    obtain ⟨T', e2, s2⟩ := tr_back (L := L) fun q hq => h q (List.mem_cons_of_mem _ hq)
    refine ⟨t :: T', by rw [e2, ← e]; rfl, fun q hq => ?_⟩
    rcases List.mem_cons.mp hq with z | z
    · rw [z]; exact ht
    · exact s2 q z
theorem inr_inj {x y : List Str} (h : x.map (Sum.inr : Str → Key) = y.map Sum.inr) : x = y := List.map_inj_right (fun a b e => Sum.inr.inj e) |>.mp h
section
variable {X : Cx}
theorem Inv.tx {pins : List (Addr × Obj)} {σ : L2.St} {H : Hp} {s : Shared} {p : TxR} (I : Inv X pins σ H s) (h : SqT X.K H p.1 (p.2.map V.str)) : TK X.prog X.w s.heap (tr p).2 (tr p).1 := by
  obtain ⟨its, r, ⟨o, ho, hc, n, hd⟩, _⟩ := I.tuple h
  exact ⟨o, its.toArray, n, ho, hc, hd, by show PySem.ItemsAre _ _ its.toArray.toList; simpa [tr] using items_strs r⟩
def rSetTx (K : PySem.W.Frag) (P : Program) (w : World) : List V → Hp → VK → Prop := fun xs H Q => ∃ (l : Addr) (T : List TxR), xs = [V.ref l] ∧ SqL K H l (T.map fun p => V.ref p.1) ∧ (∀ p ∈ T, SqT K H p.1 (p.2.map V.str)) ∧ T.length < 64 ∧
  ∀ (a : Addr) (T' : List TxR), H a = none → (∀ p ∈ T', p ∈ T) → (∀ p ∈ T, p.2 ∈ T'.map (·.2)) → (T'.map (·.2)).Nodup → T'.length < 64 → Q (.ref a) (upd H a (SetTx P w a T'))
theorem cr_setTx (hc : X.calm = true) (hu : X.A.units + 64 < cLine) : CallR X (.type "set") (rSetTx X.K X.prog X.w) := by
  intro pins s σ H xs us Q I r h
  obtain ⟨l, T, rfl, hl, hk, few, q⟩ := h
  rw [Vals.ref1 r]
  obtain ⟨its, rv, pl, hz⟩ := I.list hl
  have hn : H s.heap.objs.size = none := I.hok.fresh (Nat.le_refl _)
  have ei : its = T.map fun p => Value.ref p.1 := refs_vals rv
  have tu : ∀ p ∈ T.map tr, TK X.prog X.w s.heap p.2 p.1 := fun p hp => by
    obtain ⟨t, ht, rfl⟩ := List.mem_map.mp hp
    exact Inv.tx I (hk t ht)
  refine call_setT (P := X.prog) (w := X.w) (ks := T.map tr) (I.ok.hd hc) pl.isList (by simp [ei]) (by rw [List.length_map]; exact few) (fun i v hv => ?_) tu (by omega) fun h' tk L so me k => ?_
  · rw [ei] at hv
    have hv2 : (T.map fun p => Value.ref p.1)[i]? = some v := by simpa using hv
    rw [List.getElem?_map] at hv2 ⊢
    cases e : T[i]? with
    | none => rw [e] at hv2; cases hv2
    | some t =>
      rw [e] at hv2
      exact ⟨tr t, rfl, (Option.some.inj hv2).symm⟩
  · have sub : ∀ p ∈ L, p ∈ T.map tr := fun p hp => List.mem_of_mem_take (me.sub p hp)
    obtain ⟨T', rfl, s2⟩ := tr_back sub
    have kk : (T'.map tr).map (·.2) = (T'.map (·.2)).map fun x => x.map (Sum.inr : Str → Key) := by
      rw [List.map_map, List.map_map]
      rfl
    refine ⟨.ref s.heap.objs.size, upd H s.heap.objs.size (SetTx X.prog X.w s.heap.objs.size T'), I.laid (t' := tk) k (Nat.le_refl _) (setTx_new so), rfl, q _ T' hn s2 (fun p hp => ?_) ?_ ?_⟩
    · have z := me.all (tr p) (by rw [List.take_length]; exact List.mem_map.mpr ⟨p, hp, rfl⟩)
      rw [kk] at z
      obtain ⟨x, hx, e⟩ := List.mem_map.mp z
      rw [← inr_inj e]
      exact hx
    · have z := me.nd
      rw [kk] at z
      exact L2.nodup_of_map z
    · have z := me.len
      rw [List.length_map, List.length_map] at z
      omega
def rSortedSTx (K : PySem.W.Frag) (P : Program) (w : World) : List V → Hp → VK → Prop := fun vs H Q => ∃ (a : Addr) (T : List TxR), vs = [V.ref a] ∧ H a = some (SetTx P w a T) ∧ (∀ p ∈ T, SqT K H p.1 (p.2.map V.str)) ∧ (∀ p ∈ T, p.2 ≠ []) ∧ T.length < 64 ∧
  ∀ (T' : List TxR) (q : Addr), T'.Perm T → (T'.map (·.2)).Pairwise (fun x y => slLe x y = true) → H q = none → Q (.ref q) (upd H q (.lst (T'.map fun p => V.ref p.1)))
theorem cr_sortedSTx (hc : X.calm = true) (hu : X.A.units + 64 < cLine) : CallR X (.builtin "sorted") (rSortedSTx X.K X.prog X.w) := by
  intro pins s σ H vs us Q I r h
  obtain ⟨a, T, rfl, ha, hk, ne, few, q⟩ := h
  have R0 : InS X.prog X.w s.heap a (T.map tr) := (I.hok a _ ha).1
  rw [Vals.ref1 r]
  refine call_sortedT R0 (fun p hp => Inv.tx I (hk p hp)) ne few (I.ok.hd hc) (by omega) fun s' p out c T' k g o hp hg hout pm pw => ?_
  have few' : T'.length < 64 := by rw [pm.length_eq]; exact few
  have hlen : (T'.map fun q => V.ref q.1).length ≤ sizeLine := by rw [List.length_map, sizeLine_eq]; omega
  have hn : H p = none := I.hok.fresh hp
  have hv : Vals (T'.map fun q => V.ref q.1) out.toList := by rw [hout]; exact vals_refs T'
  have J : Inv X pins σ (upd H p (.lst (T'.map fun q => V.ref q.1))) { s with heap := s'.heap, gens := s'.gens, drawn := s'.drawn, toks := s'.toks } :=
    I.call (ch := []) (Un.laid k hp hn) (I.hok.laid k hp ⟨hlen, out.toList, c, hv, hg⟩) (by rw [g]; exact I.bare) (fun _ z => nomatch z)
  have e : s' = { s with heap := s'.heap, gens := s'.gens, drawn := s'.drawn, toks := s'.toks } := by
    cases s'
    cases s
    cases o
    rfl
  rw [e]
  exact ⟨.ref p, _, J, rfl, q T' p pm pw hn⟩
def rSortedTx (K : PySem.W.Frag) : List V → Hp → VK → Prop := fun vs H Q => ∃ (l : Addr) (T : List TxR), vs = [V.ref l] ∧ SqL K H l (T.map fun p => V.ref p.1) ∧ (∀ p ∈ T, SqT K H p.1 (p.2.map V.str)) ∧ (∀ p ∈ T, p.2 ≠ []) ∧ T.length < 64 ∧
  ∀ (T' : List TxR) (q : Addr), T'.Perm T → (T'.map (·.2)).Pairwise (fun x y => slLe x y = true) → H q = none → Q (.ref q) (upd H q (.lst (T'.map fun p => V.ref p.1)))
theorem cr_sortedTx (hu : X.A.units + 64 < cLine) : CallR X (.builtin "sorted") (rSortedTx X.K) := by
  intro pins s σ H vs us Q I r h
  obtain ⟨l, T, rfl, hl, hk, ne, few, q⟩ := h
  obtain ⟨its, rv, pl, _⟩ := I.list hl
  rw [Vals.ref1 r]
  have ei : its = T.map fun p => Value.ref p.1 := refs_vals rv
  subst ei
  refine PySem.W.sorted_data (R := fun v (p : TxR) => v = .ref p.1) (enc := txD) (bs := T) pl.isList (each_refs _ T fun _ _ => rfl) (each_refs _ T fun p hp => ⟨[], reads_tx (Inv.tx I (hk p hp))⟩) (PySem.W.AllAlike.of fun b b' => by unfold txD PySem.W.alike; exact alike_strs _ _) (.inl fun d hd => ?_) (by rw [sizeLine_eq]; omega) (fun b hb => ?_) fun out ol eo => ?_
  · obtain ⟨p, hp, rfl⟩ := List.mem_map.mp hd
    have n0 := ne p hp
    unfold txD
    cases e : p.2 with
    | nil => exact absurd e n0
    | cons y r => exact ⟨.str y, r.map .str, rfl⟩
  · unfold txD PyData.depth
    rw [depth_strs]
    omega
  · obtain ⟨ep, he⟩ := PyProof.Rows.sortedAll_at s.heap (T.map fun p => Value.ref p.1) out.toArray
    have pm : (T.mergeSort (PySem.W.dataLe false txD)).Perm T := List.mergeSort_perm T _
    have hlen : ((T.mergeSort (PySem.W.dataLe false txD)).map fun q => V.ref q.1).length ≤ sizeLine := by rw [List.length_map, pm.length_eq, sizeLine_eq]; omega
    have hv : Vals ((T.mergeSort (PySem.W.dataLe false txD)).map fun q => V.ref q.1) out.toArray.toList := by
      have z := refs_each eo
      rw [List.toList_toArray, z]
      exact vals_refs _
    exact ⟨.ref _, upd H (s.heap.objs.size + 1) (.lst ((T.mergeSort (PySem.W.dataLe false txD)).map fun q => V.ref q.1)), I.laid (t' := s.toks) (fun _ _ => PyProof.Rows.sortedAll_old) (Nat.le_succ _) ⟨hlen, out.toArray.toList, ep, hv, he⟩, rfl, q _ _ pm (sorted_pw T) (I.hok.fresh (Nat.le_succ _))⟩
end
end Fh

set_option Elab.async false
set_option linter.all false
set_option maxRecDepth 100000
set_option maxHeartbeats 4000000
namespace Fh
open PySem L2 PyProof.Rows
abbrev nStr : List Str := ["face", "found", "record", "fields", "kinds", "number", "name", "kind", "need"]
abbrev nEnd : List Str := ["face", "sizes", "names", "record", "fields", "name"]
/-- a list of tuples of texts -/
structure TxL (H : Hp) (p : Addr) (T : List TxR) : Prop where
  l : H p = some (.lst (T.map fun q => V.ref q.1))
  t : ∀ q ∈ T, H q.1 = some (.tup (q.2.map V.str))
def Nob (x : List Str) : Prop := ∃ y z : Str, x = [("nobody" : Str), y, z]
def bad : Option Int → Bool
  | none => true
  | some v => decide (60 < v)
def endL (D : Szs) (recs : List Rec) : List (List Str) := (recs.filter fun r => bad (D r.1)).map fun r => [("endless" : Str), r.1]
def spStr (C : Addr) : Sp := fun vs H Q _ => ∃ (a : Addr) (cs : List (Str × PyData)) (recs : List Rec), vs = [.ref a] ∧ FaceR C H a cs (recs.map rD) ∧ cs.length ≤ 100 ∧ RecsOk recs ∧
  ∀ (p : Addr) (T : List TxR) (H' : Hp), Same H H' → H p = none → TxL H' p T → (∀ q ∈ T, Nob q.2) → T.length ≤ 30 → Q (.ref p) H'
def spEnd (C : Addr) : Sp := fun vs H Q _ => ∃ (a : Addr) (cs : List (Str × PyData)) (recs : List Rec), vs = [.ref a] ∧ FaceR C H a cs (recs.map rD) ∧ cs.length ≤ 100 ∧ Cs1 cs ∧ RecsOk recs ∧
  ∀ (p : Addr) (T : List TxR) (H' : Hp), Same H H' → H p = none → TxL H' p T → T.map (·.2) = endL (turns cs (recs.map rD) recs recs.length) recs → Q (.ref p) H'
theorem nob_name {cs rs : List (Str × PyData)} {k : Kn} (h : nobK cs rs k = true) : ∃ z, k.nm = some z := by
  cases k with
  | one b => cases b with
    | whole => cases h
    | truth => cases h
    | text => cases h
    | rc z => exact ⟨z, rfl⟩
    | ch z => exact ⟨z, rfl⟩
  | lst b => cases b with
    | whole => cases h
    | truth => cases h
    | text => cases h
    | rc z => exact ⟨z, rfl⟩
    | ch z => exact ⟨z, rfl⟩
section
variable {P : Program} {w : World} {K : PySem.W.Frag} {mg : Str → Option Value} {base : Heap}
end
end Fh

set_option Elab.async false
set_option linter.all false
set_option maxRecDepth 100000
set_option maxHeartbeats 4000000
namespace Fh
open PySem L2 PyProof.Rows
theorem endL_add (D : Szs) (a b : List Rec) : endL D (a ++ b) = endL D a ++ endL D b := by unfold endL; rw [List.filter_append, List.map_append]
theorem TxL.same {H H' : Hp} {p : Addr} {T : List TxR} (x : TxL H p T) (s : Same H H') : TxL H' p T := ⟨s _ _ x.l, fun q h => s _ _ (x.t q h)⟩
/-- one more tuple -/
theorem TxL.more {H : Hp} {p t : Addr} {T : List TxR} {y : List Str} (x : TxL H p T) (ht : H t = none) : TxL (upd (upd H t (.tup (y.map V.str))) p (.lst (T.map (fun q => V.ref q.1) ++ [.ref t]))) p (T ++ [(t, y)]) := by
  have nD : t ≠ p := fun e => by rw [e, x.l] at ht; cases ht
  refine ⟨by rw [upd_same, List.map_append]; rfl, fun q hq => ?_⟩
  rcases List.mem_append.mp hq with h | h
  · have e := x.t q h
    have nb : q.1 ≠ p := fun z => by rw [z, x.l] at e; cases e
    rw [upd_ne nb, upd_ne (ne_of_none e ht)]
    exact e
  · rw [List.mem_singleton.mp h]
    show (upd _ p _) t = _
    rw [upd_ne nD, upd_same]
theorem Same.two {H H1 : Hp} {p t : Addr} {o o' : HO} (s : Same H H1) (hp : H p = none) (ht : H1 t = none) : Same H (upd (upd H1 t o) p o') := fun b u e => by
  rw [upd_ne (ne_of_none e hp), upd_ne (ne_of_none (s b u e) ht)]
  exact s b u e
section
variable {P : Program} {w : World} {K : PySem.W.Frag} {mg : Str → Option Value} {base : Heap}
end
end Fh

set_option Elab.async false
set_option linter.all false
set_option maxRecDepth 100000
set_option maxHeartbeats 4000000
namespace Fh
open PySem L2 PyProof.Rows
abbrev nWrong : List Str := ["face", "found", "call", "strangers"]
/-- a face without calls -/
def FaceW (C : Addr) (H : Hp) (a : Addr) (cs rs : List (Str × PyData)) : Prop := ∃ (dx e : Addr) (v1 v2 v3 v4 : V), H a = some (.ins C dx (ff v1 v2 v3 v4 (.ref e))) ∧ TpR H v3 (rowsD cs) ∧ TpR H v4 (rowsD rs) ∧ H e = some (.tup [])
theorem FaceW.r {C : Addr} {H : Hp} {a : Addr} {cs rs : List (Str × PyData)} (h : FaceW C H a cs rs) : FaceR C H a cs rs := by
  obtain ⟨dx, e, v1, v2, v3, v4, hA, t3, t4, _⟩ := h
  exact ⟨dx, v1, v2, v3, v4, _, hA, t3, t4⟩
/-- what is told as wrong -/
structure Told (D : Szs) (recs : List Rec) (xs : List (List Str)) : Prop where
  pw : xs.Pairwise fun x y => slLe x y = true
  nd : xs.Nodup
  of : ∀ x ∈ xs, Nob x ∨ x ∈ endL D recs
  all : ∀ x ∈ endL D recs, x ∈ xs
def spWrong (C : Addr) : Sp := fun vs H Q _ => ∃ (a : Addr) (cs : List (Str × PyData)) (recs : List Rec), vs = [.ref a] ∧ FaceW C H a cs (recs.map rD) ∧ cs.length ≤ 100 ∧ Cs1 cs ∧ RecsOk recs ∧
  ∀ (p : Addr) (T : List TxR) (H' : Hp), Same H H' → H p = none → TxL H' p T → T.length < 64 → Told (turns cs (recs.map rD) recs recs.length) recs (T.map (·.2)) → Q (.ref p) H'
section
variable {P : Program} {w : World} {K : PySem.W.Frag} {mg : Str → Option Value} {base : Heap}
end
end Fh

set_option Elab.async false
set_option linter.all false
set_option maxRecDepth 100000
set_option maxHeartbeats 4000000
namespace Fh
open PySem L2 PyProof.Rows
abbrev nRis : List Str := ["_law_bag_here", "_law_size", "_law_most", "_law_found", "_law_last", "_law_spot", "_law_wide"]
def spRis : Sp := fun vs H Q _ => ∃ (b : Addr) (size : Nat) (n : Nat), vs = [.ref b, .int size, .int 30] ∧ size ≤ 20 ∧ Bag H b n ∧ n + 50 ≤ most ∧
  ∀ (p : Addr) (ns : List Int) (H' : Hp), H p = none → H' p = some (.lst (ns.map V.int)) → ns.length = size → Kp b H H' → Bag H' b (n + 40) → Q (.ref p) H'
section
variable {P : Program} {w : World} {K : PySem.W.Frag} {mg : Str → Option Value} {base : Heap}
end
end Fh

set_option Elab.async false
set_option linter.all false
set_option maxRecDepth 100000
set_option maxHeartbeats 4000000
namespace Fh
open PySem L2 PyProof.Rows
abbrev sInit : Stmt := inClass (top 22) 0
structure ClsF (K : PySem.W.Frag) (mg : Str → Option Value) (C : Addr) : Prop where
  cl : Cls K C
  n1 : NoAttr K C "name"
  n2 : NoAttr K C "edition"
  n3 : NoAttr K C "choices"
  n4 : NoAttr K C "records"
  n5 : NoAttr K C "calls"
  mgC : mg "Face" = some (.ref C)
def spInitF (C : Addr) : Sp := fun vs H Q _ => ∃ (x dx : Addr) (v1 v2 v3 v4 v5 : V), vs = [.ref x, v1, v2, v3, v4, v5] ∧ H x = some (.ins C dx []) ∧ Q .non (upd H x (.ins C dx (ff v1 v2 v3 v4 v5)))
section
variable {P : Program} {w : World} {K : PySem.W.Frag} {mg : Str → Option Value} {base : Heap}
abbrev pInit : List Str := ["self", "name", "edition", "choices", "records", "calls"]
theorem scInit : FnScope pInit pInit (defScope sInit) := ⟨rfl, rfl, rfl, by decide +kernel, rfl, by decide +kernel, by decide +kernel⟩
theorem ok_init {f C : Addr} {fd : FuncData} {kws : List (Str × V)} (F : FunD K "__init__" "Face.__init__" (defArgs sInit) (defBody sInit) (defScope sInit) [] kws f fd) (T : ClsF K mg C) : FnOk P w K mg base CX0 1 f fd pInit (spInitF C) := by
  refine F.ok scInit (fun vs H Q E h => ?_) (fun cdv A outer s H vs Q E hr h => ?_)
  · obtain ⟨x, dx, v1, v2, v3, v4, v5, rfl, _⟩ := h
    rfl
  · obtain ⟨x, dx, v1, v2, v3, v4, v5, rfl, hx, k⟩ := h
    refine ⟨_, PSs.nox (pss_cons (ps_fld (pv 0) (pv 1) rfl) (pss_cons (ps_fld (pv 0) (pv 2) rfl) (pss_cons (ps_fld (pv 0) (pv 3) rfl) (pss_cons (ps_fld (pv 0) (pv 4) rfl) (pss_one (ps_fld (pv 0) (pv 5) rfl)))))), ?_⟩
    refine ⟨_, rfl, _, rfl, x, C, dx, _, rfl, hx, T.cl, T.n1, (by show 0 < 1000; decide), ?_⟩
    refine ⟨_, rfl, _, rfl, x, C, dx, _, rfl, upd_same, T.cl, T.n2, ?_, ?_⟩
    · exact Nat.lt_of_le_of_lt (putF_len _ _ _) (by show 0 + 1 < 1000; decide)
    refine ⟨_, rfl, _, rfl, x, C, dx, _, rfl, upd_same, T.cl, T.n3, ?_, ?_⟩
    · exact Nat.lt_of_le_of_lt (Nat.le_trans (putF_len _ _ _) (Nat.succ_le_succ (putF_len _ _ _))) (by show 0 + 1 + 1 < 1000; decide)
    refine ⟨_, rfl, _, rfl, x, C, dx, _, rfl, upd_same, T.cl, T.n4, ?_, ?_⟩
    · exact Nat.lt_of_le_of_lt (Nat.le_trans (putF_len _ _ _) (Nat.succ_le_succ (Nat.le_trans (putF_len _ _ _) (Nat.succ_le_succ (putF_len _ _ _))))) (by show 0 + 1 + 1 + 1 < 1000; decide)
    refine ⟨_, rfl, _, rfl, x, C, dx, _, rfl, upd_same, T.cl, T.n5, ?_, ?_⟩
    · exact Nat.lt_of_le_of_lt (Nat.le_trans (putF_len _ _ _) (Nat.succ_le_succ (Nat.le_trans (putF_len _ _ _) (Nat.succ_le_succ (Nat.le_trans (putF_len _ _ _) (Nat.succ_le_succ (putF_len _ _ _))))))) (by show 0 + 1 + 1 + 1 + 1 < 1000; decide)
    have e : upd (upd (upd (upd (upd H x (.ins C dx (putF "name" v1 []))) x (.ins C dx (putF "edition" v2 (putF "name" v1 [])))) x (.ins C dx (putF "choices" v3 (putF "edition" v2 (putF "name" v1 []))))) x (.ins C dx (putF "records" v4 (putF "choices" v3 (putF "edition" v2 (putF "name" v1 [])))))) x (.ins C dx (ff v1 v2 v3 v4 v5)) = upd H x (.ins C dx (ff v1 v2 v3 v4 v5)) := by
      rw [upd_upd, upd_upd, upd_upd, upd_upd]
    rw [← e] at k
    exact k
end
structure MkF (P : Program) (w : World) (K : PySem.W.Frag) (mg : Str → Option Value) (base : Heap) (C : Addr) : Prop where
  ex : ∃ (f : Addr) (fd : FuncData) (e1 e2 e3 : Addr), Mk K C f ∧ FnOk P w K mg base CX0 1 f fd pInit (spInitF C) ∧ FunD K "__init__" "Face.__init__" (defArgs sInit) (defBody sInit) (defScope sInit) [] [("choices", .ref e1), ("records", .ref e2), ("calls", .ref e3)] f fd
  mgC : mg "Face" = some (.ref C)
def g0 {α : Type} (us mv ws : List α) : List α := us ++ ws
section
variable {K : PySem.W.Frag} {f : Addr} {fd : FuncData} {e1 e2 e3 : Addr}
abbrev DInit (K : PySem.W.Frag) (e1 e2 e3 f : Addr) (fd : FuncData) : Prop := FunD K "__init__" "Face.__init__" (defArgs sInit) (defBody sInit) (defScope sInit) [] [("choices", .ref e1), ("records", .ref e2), ("calls", .ref e3)] f fd
theorem kb0 (F : DInit K e1 e2 e3 f fd) : ∃ mv : List Value, KBn K fd pInit 3 ["choices", "records", "calls"] (fun us ws => g0 us mv ws) (fun vs zs => g0 vs [] zs) :=
  FunD.kbinds0 F 3 ["choices", "records", "calls"] [] (fun {α} us mv ws => g0 us mv ws) (by simp) (fun q h => by cases h) (fun r1 _ r3 => r1.append r3) fun D doc pm an cdv ct us mv ws h1 h2 h3 => by
    match us, h1, ws, h3, mv, h2 with
    | [_, _, _], _, [_, _, _], _, [], _ => exact rfl
end
def spFace (C : Addr) : Sp := fun vs H Q _ => ∃ (p : Addr) (v1 v2 v3 v4 v5 : V), vs = [.ref p] ∧ H p = some (.tup [v1, v2, v3, v4, v5]) ∧
  ∀ (x dx : Addr) (H' : Hp), Same H H' → H x = none → H' x = some (.ins C dx (ff v1 v2 v3 v4 v5)) → Q (.ref x) H'
section
variable {P : Program} {w : World} {K : PySem.W.Frag} {mg : Str → Option Value} {base : Heap}
end

end Fh

set_option Elab.async false
set_option linter.all false
set_option maxRecDepth 100000
set_option maxHeartbeats 4000000
namespace Fh
open PySem PySem.Spec PyProof.Rows L2
/-! ### dict(a tuple of pairs) -/
theorem tup_no_keys : typeLookup (.type "tuple") "keys" = pure none := am_miss_of_fast (by first | decide +kernel | rfl)
section
variable {P : Program} {w : World} {A : Around} {E : Value → Shared → Prop}
theorem asks_keys {s : Shared} {a : Addr} {xs : Array Value} {k : Nat} {sl : Array (Option Value)} {Q : Option Value → Shared → Prop} (hx : s.heap.get? a = some { cls := .type "tuple", dict := none, data := .seq xs k, slots := sl }) (hA : A.handled = none)
    (h : ∀ h' tk, (∀ b ob, s.heap.get? b = some ob → h'.get? b = some ob) → Q none { s with heap := h', toks := tk }) : wpAny (model P w) A (getAttr? (.ref a) "keys") Q E s := by
  obtain ⟨hp, g, d, tk, os⟩ := s
  have ty : ∀ tk', (⟨hp, g, d, tk', os⟩ : Shared).TypeIs (.ref a) "tuple" := fun _ => ⟨_, hx, rfl⟩
  have f1 := sub_AttributeError
  have f2 := F.slot_tuple_getattribute.lookup
  have f3 := F.slot_tuple_getattribute.bind (.ref a)
  have f4 := am_tuple_getattr_none
  have nm : (["__module__", "__name__", "__qualname__", "__doc__", "__annotations__"] : List Str).contains "keys" = false := by decide +kernel
  have sz : ("keys" : Str).length + 100 ≤ sizeLine := by first | size_fits | decide +kernel
  unfold getAttr? getAttrBy? getAttrBy
  repeat (any_goals (first | assumption | exact ty _ | ((with_reducible show wpAny _ _ (call (Value.builtin "tuple.__getattribute__") _ _) _ _ _); refine call_meets F.slot_tuple_getattribute (ty _) am_entry_tuple_getattribute (F.args_tuple_getattribute_2 _ _) (meets_getattribute_miss_tuple a xs k sl "keys" _ tup_no_keys nm sz) ⟨hx, hA, fun h' tk' e ne => ?_⟩) | wp_step))
  obtain ⟨t', u', he⟩ := ne.there
  show wpAny _ _ (getattributeRaised _ _ _ _ _ _ _) _ _ _
  unfold getattributeRaised
  repeat (any_goals (first | assumption | wp_step))
  all_goals first | exact h _ _ ne.keeps | (dsimp only; repeat (any_goals (first | assumption | exact h _ _ ne.keeps | wp_step)))
end
end Fh

set_option Elab.async false
set_option linter.all false
set_option maxRecDepth 100000
set_option maxHeartbeats 4000000
namespace Fh
open PySem PySem.Spec PyProof.Rows L2
section
variable {P : Program} {w : World} {A : Around} {E : Value → Shared → Prop} {prs : List (Key × Value)}
/-- a pair with a key at b -/
def PairAt (h : Heap) (b : Addr) (q : Key × Value) : Prop := ∃ u, IsTup h b #[u, q.2] ∧ keyIs q.1 u = true
theorem PairAt.at {h h' : Heap} {b : Addr} {q : Key × Value} (p : PairAt h b q) (e : ∀ o, h.get? b = some o → h'.get? b = some o) : PairAt h' b q := by
  obtain ⟨u, ⟨o, ho, r⟩, k⟩ := p
  exact ⟨u, ⟨o, e o ho, r⟩, k⟩
theorem fillD {R : Result → Shared → Prop} {I S : Addr} {fp wr : List Addr} {G : Array GenState → Array GenState → Prop} {Pv : Nat → Value → Prop} {St : Nat → Shared → Prop} {s0 : Shared} {res : Value}
    (W : WalksS P w A.in1 I fp wr G prs.length Pv St) (hS : S ∉ fp) (hb : prs.length < 1000) (hk : ∀ i v, Pv i v → ∃ q b, prs[i]? = some q ∧ v = .ref b ∧ b ∉ S :: wr ∧ PairAt s0.heap b q)
    (fin : ∀ s', Moved (S :: wr) G s0 s' → s'.heap.DictOf (mixKind P w) S (merged [] prs) → R (.ok (.ret res)) s') :
    ∀ (d i : Nat) (s : Shared) (n : Int) (t : Tok), i + d = prs.length → St i s → Moved (S :: wr) G s0 s → s.heap.DictOf (mixKind P w) S (merged [] (prs.take i)) →
      codeAny (model P w) A (.builtin "dict.update.loop" ⟨[.ref S, .ref I, .int n t, res], []⟩) R s := by
  have out : S ∉ wr := fun h => hS (W.sub _ h)
  have more : ∀ {s1 s2 : Shared}, Moved wr G s1 s2 → Moved (S :: wr) G s1 s2 := fun m => m.mono fun b hb => List.mem_cons_of_mem _ hb
  intro d
  induction d with
  | zero =>
    intro i s n t e st mv so
    have ei : i = prs.length := by omega
    rw [ei] at st so
    rw [List.take_length] at so
    refine codeAny_builtin ud_entry ?_
    rw [Around.under_plainId ud_plain _]
    refine wpAny_bind (m := pyNext (.ref I)) (W.done s _ _ st fun s1 m1 => ?_)
    refine wpAny_bind (m := Builtin.Dict.addKeywords S []) (wpAny_pure (wpAny_pure ?_))
    exact fin s1 (Moved.trans W.gtrans mv (more m1)) (so.at fun o e => m1.heap _ o out e)
  | succ d ih =>
    intro i s n t e st mv so
    refine codeAny_builtin ud_entry ?_
    rw [Around.under_plainId ud_plain _]
    refine wpAny_bind (m := pyNext (.ref I)) (W.item i s _ _ (by omega) st fun v s1 pv st1 m1 => ?_)
    obtain ⟨q, b, hq, rfl, nb, pq⟩ := hk i v pv
    have mv1 := Moved.trans W.gtrans mv (more m1)
    obtain ⟨u, tup, ku⟩ := pq.at (h' := s1.heap) fun o e => mv1.heap _ o nb e
    have so1 : s1.heap.DictOf (mixKind P w) S (merged [] (prs.take i)) := so.at fun o e => m1.heap _ o out e
    obtain ⟨o, ho, hc, n', hd⟩ := id tup
    have ln : (merged [] (prs.take i)).length + 1 ≤ sizeLine := by
      have z : (merged [] (prs.take i)).length ≤ i := by
        have gen : ∀ l : List (Key × Value), ∀ acc, (merged acc l).length ≤ acc.length + l.length := by
          intro l
          induction l with
          | nil => intro acc; exact Nat.le_refl _
          | cons x l ih2 =>
            intro acc
            have z1 := ih2 (stored acc x.1 x.2)
            have z2 := stored_length_le acc x.1 x.2
            show (merged (stored acc x.1 x.2) l).length ≤ _
            rw [List.length_cons]
            omega
        have z1 := gen (prs.take i) []
        rw [List.length_take, List.length_nil] at z1
        omega
      rw [sizeLine_eq]
      omega
    refine wpAny_bind (m := holding [Value.ref b] _) (wpAny_holding ?_)
    refine wpAny_bind (wpAny_tryCatch ?_)
    unfold Builtin.Dict.pairItems
    refine wpAny_bind (wpAny_typeOf (T := "tuple") ⟨o, ho, hc⟩ ?_)
    rw [if_pos (by first | decide | rfl | simp)]
    refine wpAny_bind (wpAny_seqItems ho hd (wpAny_pure ?_))
    refine wpAny_holding (wpAny_dictSet_pairs (knd := mixKind P w) (k := q.1) ku so1 (fun h2 so2 sb => ?_) (by omega))
    rw [← merged_take_succ _ _ _ _ hq] at so2
    have other : ∀ b o, b ≠ S → s1.heap.get? b = some o → h2.get? b = some o := fun b o n g => sb.extBut b o n g
    exact wpAny_pure ⟨plainId_quiet ud_plain _, ih (i + 1) _ (n + 1) 0 (by omega) (W.frame _ s1 _ _ st1 (by first | exact Nat.le_succ _ | exact Nat.le_add_right _ _ | exact Nat.le_refl _) fun b hb o g => other b o (fun h => hS (h ▸ hb)) g) (Moved.trans W.gtrans mv ((more m1).then_heap (by first | exact Nat.le_succ _ | exact Nat.le_add_right _ _ | exact Nat.le_refl _) fun b o hb g => other b o (fun h => hb (h ▸ List.mem_cons_self)) g)) so2⟩
end
end Fh

set_option Elab.async false
set_option linter.all false
set_option maxRecDepth 100000
set_option maxHeartbeats 4000000
namespace Fh
open PySem PySem.Spec PyProof.Rows L2
section
variable {P : Program} {w : World} {A : Around} {E : Value → Shared → Prop} {prs : List (Key × Value)}
/-- dict(a tuple of pairs) -/
theorem call_dictTup {s : Shared} {l : Addr} {items : Array Value} {n : Nat} {sl : Array (Option Value)} {Q : Value → Shared → Prop} (hh : A.handled = none) (hl : s.heap.get? l = some { cls := .type "tuple", dict := none, data := .seq items n, slots := sl }) (hn : items.size = prs.length) (hb : prs.length < 1000)
    (hk : ∀ (i : Nat) (v : Value), items[i]? = some v → ∃ q b, prs[i]? = some q ∧ v = Value.ref b ∧ PairAt s.heap b q)
    (h : ∀ h' tk, h'.DictOf (mixKind P w) s.heap.objs.size (merged [] prs) → (∀ b o, s.heap.get? b = some o → h'.get? b = some o) → Q (.ref s.heap.objs.size) { s with heap := h', toks := tk }) :
    wpAny (model P w) A (call (.type "dict") [.ref l]) Q E s := by
  refine callType_codes (Q₁ := fun obj s₁ => obj = .ref s.heap.objs.size ∧ s₁ = { s with heap := s.heap.push { cls := .type "dict", data := .dict #[] } }) PySem.F.kt_called_dict (PySem.F.kt_typeCall_dict_1 _) PySem.F.entry_dict_init (kt_code_dict_new _ ⟨rfl, rfl⟩) ?_
  rintro obj s₁ ⟨rfl, rfl⟩
  have new : (s.heap.push { cls := .type "dict", data := .dict #[] }).DictOf (mixKind P w) s.heap.objs.size [] := Heap.DictOf.new s.heap
  have up : ∀ {b : Addr} {o : Obj}, s.heap.get? b = some o → (s.heap.push { cls := .type "dict", data := .dict #[] }).get? b = some o := fun e => Heap.get?_push_of_some _ e
  refine ⟨new.typeIs, PySem.F.args_dict_init_2 _ _, ?_⟩
  unfold Builtin.«dict.__init__»
  refine wpAny_bind ?_
  unfold Builtin.Dict.selfAndRest
  refine wpAny_bind (wpAny_notOrdered_dict new.typeIs ?_)
  show wpAny _ _ (pure (s.heap.objs.size, [Value.ref l])) _ _ _
  refine wpAny_pure ?_
  show wpAny _ _ (Builtin.Dict.updateFrom "dict.__init__" s.heap.objs.size (.ref l) [] .none) _ _ _
  unfold Builtin.Dict.updateFrom
  refine wpAny_bind (wpAny_typeOf (T := "tuple") ⟨_, up hl, rfl⟩ ?_)
  rw [if_pos (by first | decide | rfl | simp)]
  refine wpAny_bind (asks_keys (up hl) hh fun h1 tk1 k1 => ?_)
  rw [if_pos (show (none : Option Value).isNone = true from rfl)]
  refine wpAny_bind (wpAny_rule ?_)
  have at1 : h1.get? l = some { cls := .type "tuple", dict := none, data := .seq items n, slots := sl } := k1 _ _ (up hl)
  have tup1 : h1.IsTuple l items := ⟨_, at1, rfl, n, rfl⟩
  have S1 : s.heap.objs.size < h1.objs.size := by
    have e : (s.heap.push { cls := .type "dict", data := .dict #[] }).get? s.heap.objs.size = some { cls := .type "dict", data := .dict #[] } := Heap.get?_push_size _ rfl
    exact Heap.lt_size (k1 _ _ e)
  have lt : l < s.heap.objs.size := Heap.lt_size hl
  refine wpAny_bind (wpAny_pyIter_tuple (s := { s with heap := h1, toks := tk1 }) tup1 ?_)
  have k2 : ∀ {b : Addr} {o : Obj}, h1.get? b = some o → (h1.push { cls := .type "tuple_iterator", data := .fields #[.ref l, .int 0 0] }).get? b = some o := fun e => Heap.get?_push_of_some _ e
  have h3 : A.in1.in1.handled = none := by simp [hh]
  have W := (Walks.tuple (prog := P) (w := w) h3 h1.objs.size l (Nat.ne_of_lt (Nat.lt_trans lt S1)) items).toS
  rw [hn] at W
  have key := fillD (P := P) (w := w) (A := A.in1) (R := wants (fun r s₂ => r = .none ∧ Q (.ref s.heap.objs.size) s₂) E) (S := s.heap.objs.size) (res := Value.none) (s0 := { s with heap := h1.push { cls := .type "tuple_iterator", data := .fields #[.ref l, .int 0 0] }, toks := tk1 }) W (by simp [Nat.ne_of_lt S1, Nat.ne_of_gt lt]) hb
    (fun i v hv => by
      obtain ⟨q, b, e1, e2, e3⟩ := hk i v hv
      have e4 := e3
      obtain ⟨u, ⟨o, ho, _⟩, _⟩ := e4
      have lb := Heap.lt_size ho
      refine ⟨q, b, e1, e2, ?_, e3.at fun o e => k2 (k1 _ _ (up e))⟩
      simp only [List.mem_cons, List.not_mem_nil, or_false, not_or]
      exact ⟨Nat.ne_of_lt lb, Nat.ne_of_lt (Nat.lt_trans lb S1)⟩)
    (fun s' mv dd => by
      obtain ⟨h', g', d', tk', os'⟩ := s'
      have eg : g' = s.gens := mv.gens
      have ed : d' = s.drawn := mv.drawn
      have eo : os' = s.os := mv.os
      subst eg
      subst ed
      subst eo
      exact ⟨rfl, h h' tk' dd fun b o e => mv.heap b o (by
        simp only [List.mem_cons, List.not_mem_nil, or_false, not_or]
        exact ⟨Nat.ne_of_lt (Heap.lt_size e), Nat.ne_of_lt (Nat.lt_trans (Heap.lt_size e) S1)⟩) (k2 (k1 _ _ (up e)))⟩)
    prs.length 0 { s with heap := h1.push { cls := .type "tuple_iterator", data := .fields #[.ref l, .int 0 0] }, toks := tk1 } 0 0 (Nat.zero_add _) ⟨⟨_, Heap.get?_push_size _ rfl, rfl, rfl⟩, tup1.push _⟩ ⟨fun _ _ _ e => e, W.grefl _, rfl, rfl, Nat.le_refl _⟩ ((new.at fun o e => k1 _ _ e).at fun o e => k2 e)
  first
    | exact wpAny_pure ⟨plainId_quiet ud_plain _, key⟩
    | exact wpAny_bind (wpAny_pure (wpAny_pure ⟨plainId_quiet ud_plain _, key⟩))
end
/-- a tuple with no dict of its own -/
def PlainT (o : Obj) : Prop := ∃ (xs : Array Value) (n : Nat) (sl : Array (Option Value)), o = { cls := .type "tuple", dict := none, data := .seq xs n, slots := sl }
section
variable {X : Cx}
/-- dict(xs) of a frozen tuple of pairs -/
def rDictT (K : PySem.W.Frag) : List V → Hp → VK → Prop := fun xs H Q => ∃ (a : Addr) (o : Obj) (ps : List Addr) (kvs : List (Key × V)), xs = [.ref a] ∧ H a = some (.frz o (.tup (ps.map V.ref))) ∧ PlainT o ∧ Paired (fun p kv => SqT K H p [kV kv.1, kv.2]) ps kvs ∧ ps.length < 1000 ∧
    ∀ p, H p = none → Q (.ref p) (upd H p (.dK (mergeK [] kvs)))
theorem cr_dictT (hcalm : X.calm = true) : CallR X (.type "dict") (rDictT X.K) := by
  intro pins s σ H xs us Q I r q
  obtain ⟨a, o, ps, kvs, rfl, hq, pl, hp, few, q⟩ := q
  rw [Vals.ref1 r]
  obtain ⟨ho, _, its, rv, tp⟩ := I.hok a _ hq
  have ei := refs_at rv
  subst ei
  obtain ⟨prs, rel, hl, hpr⟩ := pairs_of I hp
  obtain ⟨ys, n, sl, rfl⟩ := pl
  obtain ⟨o2, ho2, _, n2, hd2⟩ := tp
  rw [ho] at ho2
  cases Option.some.inj ho2
  cases hd2
  refine call_dictTup (prs := prs) (I.ok.hd hcalm) ho (by simp [hl]) (by rw [hl]; exact few) (fun i v hv => ?_) fun h' tk hd' k => ?_
  · have lt : i < prs.length := by
      have z : i < (ps.map Value.ref).toArray.size := by
        rcases Nat.lt_or_ge i (ps.map Value.ref).toArray.size with h | h
        · exact h
        · rw [Array.getElem?_eq_none h] at hv; cases hv
      simp at z
      omega
    obtain ⟨b, u, e1, e2, e3⟩ := hpr i prs[i] (List.getElem?_eq_getElem lt)
    have ev : v = Value.ref b := by
      have z : (ps.map Value.ref)[i]? = some v := by simpa using hv
      rw [List.getElem?_map, e1] at z
      exact (Option.some.inj z).symm
    exact ⟨prs[i], b, List.getElem?_eq_getElem lt, ev, u, e2, e3⟩
  · have hm : (s.heap.objs.size == sysModules) = false := beq_eq_false_iff_ne.mpr (Nat.ne_of_gt I.big)
    have hlen : (mergeK [] kvs).length ≤ sizeLine := by
      refine Nat.le_trans (length_mergeK kvs []) ?_
      rw [List.length_nil, Nat.zero_add, rel.length, hl, sizeLine_eq]
      omega
    exact ⟨.ref s.heap.objs.size, upd H s.heap.objs.size (.dK (mergeK [] kvs)), I.laid (t' := tk) k (Nat.le_refl _) (show ObjOk X.prog X.w _ _ _ (.dK (mergeK [] kvs)) from ⟨hlen, hm, merged [] prs, KV.merge rel .nil, hd'⟩), rfl, q _ (I.hok.fresh (Nat.le_refl _))⟩
end
end Fh

set_option Elab.async false
set_option linter.all false
set_option maxRecDepth 100000
set_option maxHeartbeats 4000000
namespace Fh
open PySem PySem.Spec PyProof.Rows L2
/-! ### tuples held as the very objects they are -/
section
variable {X : Cx} {es : List Expr} {t : TA} {pos : Pos}
def tTupF (t : TA) : TE := fun σ H Q => t σ H fun xs H1 => xs.length ≤ sizeLine ∧ ∀ p o, H1 p = none → PlainT o → Q (.ref p) (upd H1 p (.frz o (.tup xs)))
theorem pe_tupF {x1} (h : PA X es t) : PE X (.Tuple es x1 pos) (tTupF t) := by
  refine ⟨fun pins s σ H Q I hq => ?_⟩
  refine wpAny_Tuple_spliced (thn (h.run pos pins s σ H _ I hq) fun us s1 ⟨xs, H1, I1, r, z, q⟩ => ⟨by rw [← r.length]; exact z, ?_⟩)
  have fresh : H1 s1.heap.objs.size = none := I1.hok.fresh (Nat.le_refl _)
  exact ⟨.ref s1.heap.objs.size, upd H1 s1.heap.objs.size (.frz _ (.tup xs)), I1.laid (t' := s1.toks) (fun b u e => Heap.get?_push_of_some _ e) (Nat.le_refl _) ⟨Heap.get?_push_size _ rfl, z, us, r, ⟨_, Heap.get?_push_size _ rfl, rfl, _, rfl⟩⟩, rfl, q _ _ fresh ⟨_, _, _, rfl⟩⟩
/-- tuple(a list) -/
def rTupF (K : PySem.W.Frag) : List V → Hp → VK → Prop := fun xs H Q => ∃ p ys, xs = [V.ref p] ∧ SqL K H p ys ∧ ∀ l o, H l = none → PlainT o → Q (.ref l) (upd H l (.frz o (.tup ys)))
theorem cr_tupleF : CallR X (.type "tuple") (rTupF X.K) := by
  intro pins s σ H xs us Q I r h
  obtain ⟨p, ys, rfl, hq, q⟩ := h
  rw [Vals.ref1 r]
  obtain ⟨its, r', pl, hz⟩ := I.list hq
  have hlen := r'.length
  refine call_tuple_list pl.isList (fun h' kp => ?_) (by simp only [List.size_toArray] <;> omega)
  have I1 : Inv X pins σ H { s with heap := h' } := I.kept (t' := s.toks) kp
  exact ⟨.ref h'.objs.size, upd H h'.objs.size (.frz { cls := .type "tuple", data := .seq its.toArray } (.tup ys)), I1.laid (t' := s.toks) (fun b o e => Heap.get?_push_of_some _ e) (Nat.le_refl _) ⟨Heap.get?_push_size _ rfl, hz, its, r', IsTup.new _ _⟩, rfl, q _ _ (I1.hok.fresh (Nat.le_refl _)) ⟨_, _, _, rfl⟩⟩
end
end Fh

set_option Elab.async false
set_option linter.all false
set_option maxRecDepth 100000
set_option maxHeartbeats 4000000
namespace Fh
open PySem L2 PyProof.Rows
abbrev nNbd : List Str := ["_law_parts", "_law_kind", "_law_inner"]
/-- a face's parts, choices and records held as the very objects -/
def PartsR (H : Hp) (p : Addr) (cs rs : List (Str × PyData)) : Prop := ∃ (c r e : Addr) (oc ow : Obj) (xc xr : List V) (v1 v2 : V), H p = some (.tup [v1, v2, .ref c, .ref r, .ref e]) ∧
  H c = some (.frz oc (.tup xc)) ∧ PlainT oc ∧ TpAll H xc (cs.map fun r => .tuple [.str r.1, r.2]) ∧ H r = some (.frz ow (.tup xr)) ∧ PlainT ow ∧ TpAll H xr (rs.map fun r => .tuple [.str r.1, r.2]) ∧ H e = some (.tup [])
theorem PartsR.same {H H' : Hp} {p : Addr} {cs rs : List (Str × PyData)} (h : PartsR H p cs rs) (s : Same H H') : PartsR H' p cs rs := by
  obtain ⟨c, r, e, oc, ow, xc, xr, v1, v2, h1, h2, h3, h4, h5, h6, h7, h8⟩ := h
  exact ⟨c, r, e, oc, ow, xc, xr, v1, v2, s _ _ h1, s _ _ h2, h3, TpAll.keep (Same.tk s) _ _ h4, s _ _ h5, h6, TpAll.keep (Same.tk s) _ _ h7, s _ _ h8⟩
/-- x[i] of a text or a tuple -/
theorem ix_both {X : Cx} {r1 r2 : R2} (h1 : IxR X r1) (h2 : IxR X r2) : IxR X (fun x y H Q => r1 x y H Q ∨ r2 x y H Q) := by
  intro value slice pins s σ H x y v u Q I rx ry h hs
  rcases h with h | h
  · exact h1 value slice pins s σ H x y v u Q I rx ry h hs
  · exact h2 value slice pins s σ H x y v u Q I rx ry h hs
theorem merge_has (k : Key) : ∀ (l acc : List (Key × V)), (valV (mergeK acc l) k).isSome = true ↔ (valV acc k).isSome = true ∨ k ∈ l.map Prod.fst
  | [], acc => by
    show (valV acc k).isSome = true ↔ _
    simp
  | p :: l, acc => by
    show (valV (mergeK (putK acc p.1 p.2) l) k).isSome = true ↔ _
    rw [merge_has k l, valV_put, List.map_cons, List.mem_cons]
    by_cases e : k = p.1
    · rw [if_pos e]
      exact ⟨fun _ => .inr (.inl e), fun _ => .inl rfl⟩
    · rw [if_neg e]
      exact ⟨fun h => h.elim .inl fun h => .inr (.inr h), fun h => h.elim .inl fun h => h.elim (fun h => absurd h e) .inr⟩
/-- pairs with texts, as dict() takes them -/
theorem pairs_in {K : PySem.W.Frag} {H : Hp} : ∀ {xs : List V} {rows : List (Str × PyData)}, TpAll H xs (rows.map fun r => .tuple [.str r.1, r.2]) → ∃ (ps : List Addr) (kvs : List (Key × V)), xs = ps.map V.ref ∧ ps.length = rows.length ∧ kvs.map Prod.fst = rows.map (fun r => Sum.inr r.1) ∧ Paired (fun p kv => SqT K H p [kV kv.1, kv.2]) ps kvs
  | xs, [], q => by
    rw [List.map_nil] at q
    cases q.inil
    exact ⟨[], [], rfl, rfl, rfl, .nil⟩
  | xs, r :: rows, q => by
    rw [List.map_cons] at q
    obtain ⟨x, rest, rfl, hx, q2⟩ := q.icons
    obtain ⟨a, y, u, rfl, ha, hy, hu⟩ := Tp.pair hx
    cases hy.istr
    obtain ⟨ps, kvs, rfl, l, e, pr⟩ := pairs_in (K := K) q2
    exact ⟨a :: ps, (Sum.inr r.1, u) :: kvs, rfl, by simp [l], by simp [e], .cons (SqT.of ha) pr⟩
def spNbd : Sp := fun vs H Q _ => ∃ (p : Addr) (v : V) (k : Kn) (cs rs : List (Str × PyData)), vs = [.ref p, v] ∧ PartsR H p cs rs ∧ Tp H v k.d ∧ cs.length ≤ 100 ∧ rs.length ≤ 100 ∧
  ∀ (x : V) (H' : Hp), Same H H' → (nobK cs rs k = true → ∃ z, x = .str z) → (nobK cs rs k = false → x = .non) → Q x H'
section
variable {P : Program} {w : World} {K : PySem.W.Frag} {mg : Str → Option Value} {base : Heap}
end
end Fh

set_option Elab.async false
set_option linter.all false
set_option maxRecDepth 100000
set_option maxHeartbeats 4000000
namespace Fh
open PySem PySem.Spec PyProof.Rows L2
abbrev TKd (P : Program) (w : World) (h : Heap) (k : List Key) (x : Addr) : Prop := IsTupleKey (mixKind P w) h k x
/-! ### a dict of ints and texts asked for a tuple: it has none -/
section
variable {P : Program} {w : World} {A : Around} {E : Value → Shared → Prop} {s : Shared}
def PlainK (v : Value) : Prop := (∃ i t, v = Value.int i t) ∨ ∃ x t, v = Value.str x t
theorem PlainK.quiet {v : Value} (h : PlainK v) : eqIsQuiet 8 v = pure true := by
  rcases h with ⟨i, t, rfl⟩ | ⟨x, t, rfl⟩ <;> rfl
theorem PlainK.noref {v : Value} {b : Addr} (h : PlainK v) : (v == Value.ref b) = false := by
  rcases h with ⟨i, t, rfl⟩ | ⟨x, t, rfl⟩ <;> rfl
theorem IsTupleKey.tup {k : List Key} {b : Addr} (h : TKd P w s.heap k b) : ∃ its, s.heap.IsTuple b its := by
  obtain ⟨o, its, n, ho, hc, hd, _⟩ := h
  exact ⟨its, o, ho, hc, n, hd⟩
theorem unlike_tup {k : List Key} {v : Value} {b : Addr} {Q : Bool → Shared → Prop} (hu : A.units < cLine) (hv : PlainK v) (hb : TKd P w s.heap k b) (h : Q false s) : wpAny (model P w) A (eqBool v (.ref b)) Q E s := by
  obtain ⟨its, ht⟩ := IsTupleKey.tup hb
  rcases hv with ⟨i, t, rfl⟩ | ⟨x, t, rfl⟩
  · exact SeqAt.EqAt.int_tuple i t ht hu P w E Q h
  · exact SeqAt.EqAt.str_tuple x t ht hu P w E Q h
theorem tells_not {k : List Key} {b : Addr} {ys : List Value} {Q : Bool → Shared → Prop} (hb : TKd P w s.heap k b) (hy : ∀ y ∈ ys, PlainK y) (h : Q false s) : wpAny (model P w) A (tableMayTell (.ref b) ys) Q E s := by
  unfold tableMayTell
  split
  · exact wpAny_pure h
  · refine wpAny_bind (wpAny_eqIsQuiet_tuple hb ?_)
    simp only [Bool.not_true, Bool.false_eq_true, if_false]
    refine wpAny_bind (wpAny_forIn_list _ (fun rest r s' => r.1 = none ∧ s' = s ∧ ∀ y ∈ rest, PlainK y) _ ?_ ?_ _ _ ⟨rfl, rfl, hy⟩)
    · rintro y rest r s' ⟨_, rfl, all⟩
      rw [(all y List.mem_cons_self).quiet]
      refine wpAny_bind (wpAny_pure ?_)
      simp only [Bool.not_true, Bool.false_eq_true, if_false]
      exact wpAny_pure ⟨rfl, rfl, fun z hz => all z (List.mem_cons_of_mem _ hz)⟩
    · rintro ⟨r1, r2⟩ s' ⟨hr, rfl, _⟩
      cases r1 with
      | none => exact wpAny_pure h
      | some q => cases hr
theorem find_tup {d b : Addr} {o : Obj} {es : Array DictEntry} {ep : Nat} {k : List Key} {n : Int} {Q : Option Nat → Shared → Prop} (hu : A.units < cLine) (ho : s.heap.get? d = some o) (hd : o.data = .dict es ep) (hk : ∀ e ∈ es, PlainK e.key)
    (hb : TKd P w s.heap k b) (h : Q none s) : wpAny (model P w) A (dictFind d (.ref b) n) Q E s := by
  have any0 : ¬ (es.any fun e => e.key == Value.ref b && e.hash != n) = true := fun z => by
    rw [← Array.any_toList, List.any_eq_true] at z
    obtain ⟨e, he, z⟩ := z
    replace he := Array.mem_toList_iff.mp he
    rw [(hk e he).noref] at z
    cases z
  unfold dictFind
  refine wpAny_holding ?_
  refine wpAny_bind (wpAny_dictEntries ho hd ?_)
  dsimp only
  generalize hp : placesWithHash es.size (fun i => es[i]?.map (·.hash)) n = places
  have st : ∀ y ∈ places.filterMap (fun i => es[i]?.map (·.key)), PlainK y := fun y hy => by
    obtain ⟨i, _, hi⟩ := List.mem_filterMap.mp hy
    cases he : es[i]? with
    | none => rw [he] at hi; cases hi
    | some e =>
      rw [he] at hi
      cases hi
      exact hk e (Array.mem_of_getElem? he)
  generalize places.filterMap (fun i => es[i]?.map (·.key)) = stored at *
  have ns : ¬ (stored == [Value.ref b]) = true := fun z => by
    cases stored with
    | nil => cases z
    | cons y r =>
      have z2 : (y == Value.ref b && r == []) = true := z
      rw [(st y List.mem_cons_self).noref] at z2
      cases z2
  have nc : ¬ ((Value.ref b :: stored).all carriedByValue) = true := fun z => by
    rw [List.all_cons] at z
    cases z
  rw [if_neg nc, if_neg any0, if_neg ns]
  refine wpAny_bind (tells_not hb st ?_)
  simp only [Bool.false_and, Bool.false_eq_true, if_false]
  refine wpAny_bind (wpAny_forIn_list _ (fun rest r s' => s' = s ∧ r = (none, none)) _ ?_ ?_ _ _ ⟨rfl, rfl⟩)
  · rintro i rest r s' ⟨rfl, rfl⟩
    cases he : es[i]? with
    | none => exact wpAny_pure ⟨rfl, rfl⟩
    | some e =>
      dsimp only
      split
      · refine wpAny_bind (wpAny_dictEpoch ho hd ?_)
        refine wpAny_bind (unlike_tup hu (hk e (Array.mem_of_getElem? he)) hb ?_)
        refine wpAny_bind (wpAny_dictEpoch ho hd ?_)
        simp only [bne_self_eq_false, Bool.false_eq_true, if_false]
        refine wpAny_bind (wpAny_rule ?_)
        exact wpAny_pure ⟨rfl, rfl⟩
      · exact wpAny_pure ⟨rfl, rfl⟩
  · rintro ⟨r1, r2⟩ s' ⟨rfl, e⟩
    cases e
    exact wpAny_pure h
theorem plainKeys {h : Heap} {a : Addr} {vs : List (Key × Value)} (d : h.DictOf (mixKind P w) a vs) : ∃ o es ep, h.get? a = some o ∧ o.ExactDict ∧ o.data = .dict es ep ∧ ∀ e ∈ es, PlainK e.key := by
  obtain ⟨o, es, ep, ho, hx, hdt, hk, _⟩ := d
  refine ⟨o, es, ep, ho, hx, hdt, fun e he => ?_⟩
  obtain ⟨k, h1, _⟩ := hk e he
  rcases keyIs_shape h1 with ⟨i, t, _, e2⟩ | ⟨x, t, _, e2⟩
  · exact .inl ⟨i, t, e2⟩
  · exact .inr ⟨x, t, e2⟩
theorem meets_getTup {d b : Addr} (hs : (d == sysModules) = false) :
    MeetsIn P w (Builtin.«dict.get» ⟨[.ref d, .ref b], []⟩) (fun A R s => A.units + 1 < cLine ∧ ∃ k vs, TKd P w s.heap k b ∧ s.heap.DictOf (mixKind P w) d vs ∧ R (.ok (.ret .none)) { s with toks := s.toks + (k.length + 1) }) := by
  refine .of_wp fun A R s ⟨hu, k, vs, hb, hm, h⟩ => ?_
  obtain ⟨o, es, ep, ho, _, hdt, hk⟩ := plainKeys hm
  have got : wpAny (model P w) A.in1 (dictGet d (.ref b)) (fun r s' => r = none ∧ s' = { s with toks := s.toks + (k.length + 1) }) (fun _ _ => False) s := by
    unfold dictGet
    refine wpAny_holding ?_
    refine wpAny_bind ((tupleKind (mixKind P w)).pyHash (tupleKind_room_in1 hu) hb ?_)
    refine wpAny_bind (find_tup (show A.in1.units < cLine from hu) ho hdt hk hb ?_)
    exact wpAny_pure ⟨rfl, rfl⟩
  show wpAny _ _ (dictGet d (.ref b) >>= _) _ _ s
  refine wpAny_bind (wpAny_mono got (fun r s' h' => ?_) fun _ _ z => z.elim)
  obtain ⟨rfl, rfl⟩ := h'
  exact wpAny_bind (wpAny_missed_other hs (wpAny_pure ⟨.none, rfl, h⟩))
end
section
variable {X : Cx}
/-- d.get(y): y a key, or a tuple, which a dict of ints and texts never has -/
def rGetT (K : PySem.W.Frag) : V → List V → Hp → VK → Prop := fun x ys H Q => ∃ (a : Addr) (y : V), x = .ref a ∧ ys = [y] ∧
  ((∃ o, DGet H a y o ∧ Q (o.getD .non) H) ∨ ∃ (b : Addr) (k : List Key) (kvs : List (Key × V)), y = .ref b ∧ H b = some (.tup (k.map kV)) ∧ Rd H a (.dK kvs) ∧ Q .non H)
theorem mt_getT (hu : X.A.units + 1 < cLine) : MtR X "dict.get" (rGetT X.K) := by
  intro pins s σ H x xs v us Q I rx rv h
  obtain ⟨a, y, rfl, rfl, h⟩ := h
  cases rx
  obtain ⟨u, rfl, ru⟩ := rv.one
  rcases h with ⟨o, g, q⟩ | ⟨b, k, kvs, rfl, hb, hd, q⟩
  · exact d_get1 hu I g ru fun w' s' I' r' => ⟨_, H, I', r', q⟩
  · cases ru
    obtain ⟨_, hs, vs, _, dd⟩ := dk_rd I.hok hd
    exact call_meetsIn PySem.F.slot_dict_get dd.typeIs PySem.F.entry_dict_get (PySem.F.args_dict_get_2 _ _) (meets_getTup hs) ⟨hu, k, vs, key_of I.hok hb, dd, ⟨.non, H, I.tok _, rfl, q⟩⟩
end
end Fh

set_option Elab.async false
set_option linter.all false
set_option maxRecDepth 100000
set_option maxHeartbeats 4000000
namespace Fh
open PySem L2 PyProof.Rows
abbrev nAll : List Str := ["_law_parts", "_law_one", "_law_fields", "_law_found", "_law_turn", "_law_sizes", "_law_field", "_law_size"]
/-- a dict has these sizes, None where there is none yet -/
def AOf (kvs : List (Key × V)) (D : Szs) : Prop := ∀ z : Str, (valV kvs (.inr z)).getD .non = optV (D z)
def nmK (recs : List Rec) : List Key := recs.map fun r => Sum.inr r.1
def rawV (D : Szs) : Kn → V
  | .lst _ => .int 1
  | .one (.rc z) => optV (D z)
  | .one (.ch _) => .int 1
  | .one _ => .int 0
theorem raw_kSz {cs rs : List (Str × PyData)} {D : Szs} {k : Kn} (h : nobK cs rs k = false) : optV (kSz cs rs D k) = rawV D k := by
  unfold kSz
  rw [if_neg (by rw [h]; exact Bool.false_ne_true)]
  cases k with
  | lst b => rfl
  | one b => cases b <;> rfl
theorem nob_kSz {cs rs : List (Str × PyData)} {D : Szs} {k : Kn} (h : nobK cs rs k = true) : kSz cs rs D k = none := if_pos h
def dispK (x : V) : List (Key × V) := [(Sum.inr "choice", .int 1), (Sum.inr "list", .int 1), (Sum.inr "record", x)]
theorem kne {a b : Str} (h : a ≠ b) : ¬ (Sum.inr a : Key) = Sum.inr b := fun e => h (Sum.inr.inj e)
theorem disp_eq (x : V) : mergeK [] (dispK x) = putK (putK (putK ([] : List (Key × V)) (Sum.inr "choice") (.int 1)) (Sum.inr "list") (.int 1)) (Sum.inr "record") x := rfl
theorem disp_rec (x : V) : valV (mergeK [] (dispK x)) (.inr "record") = some x := by
  rw [disp_eq]
  rw [valV_put, if_pos rfl]
theorem disp_list (x : V) : valV (mergeK [] (dispK x)) (.inr "list") = some (.int 1) := by
  rw [disp_eq]
  rw [valV_put, if_neg (kne (by decide +kernel)), valV_put, if_pos rfl]
theorem disp_choice (x : V) : valV (mergeK [] (dispK x)) (.inr "choice") = some (.int 1) := by
  rw [disp_eq]
  rw [valV_put, if_neg (kne (by decide +kernel)), valV_put, if_neg (kne (by decide +kernel)), valV_put, if_pos rfl]
theorem disp_other (x : V) {z : Str} (h1 : z ≠ "record") (h2 : z ≠ "list") (h3 : z ≠ "choice") : valV (mergeK [] (dispK x)) (.inr z) = none := by
  rw [disp_eq]
  rw [valV_put, if_neg (kne h1), valV_put, if_neg (kne h2), valV_put, if_neg (kne h3)]
  rfl
theorem putK_keys {κ : Type} [DecidableEq κ] {kvs : List (κ × V)} {k : κ} {v : V} (h : k ∈ kvs.map Prod.fst) : (putK kvs k v).map Prod.fst = kvs.map Prod.fst := by
  unfold putK
  have a : (kvs.any fun kv => decide (kv.1 = k)) = true := by
    rw [List.any_eq_true]
    obtain ⟨kv, m, e⟩ := List.mem_map.mp h
    exact ⟨kv, m, decide_eq_true e⟩
  rw [if_pos a, List.map_map]
  refine List.map_congr_left fun kv _ => ?_
  show (if kv.1 = k then (kv.1, v) else kv).1 = kv.1
  split <;> rfl
theorem putK_new {κ : Type} [DecidableEq κ] {kvs : List (κ × V)} {k : κ} {v : V} (h : k ∉ kvs.map Prod.fst) : putK kvs k v = kvs ++ [(k, v)] := by
  unfold putK
  rw [if_neg]
  intro a
  rw [List.any_eq_true] at a
  obtain ⟨kv, m, e⟩ := a
  exact h (List.mem_map.mpr ⟨kv, m, of_decide_eq_true e⟩)
theorem merge_nodup : ∀ (l acc : List (Key × V)), ((acc ++ l).map Prod.fst).Nodup → mergeK acc l = acc ++ l
  | [], acc, _ => (List.append_nil acc).symm
  | p :: l, acc, h => by
    show mergeK (putK acc p.1 p.2) l = _
    have hn : p.1 ∉ acc.map Prod.fst := by
      rw [List.map_append, List.nodup_append] at h
      exact fun m => h.2.2 _ m _ (by rw [List.map_cons]; exact List.mem_cons_self) rfl
    rw [putK_new hn, merge_nodup l (acc ++ [(p.1, p.2)]) (by rw [List.append_assoc]; exact h), List.append_assoc]
    rfl
theorem aof_put {kvs : List (Key × V)} {D : Szs} (h : AOf kvs D) (x : Str) (v : Int) : AOf (putK kvs (.inr x) (.int v)) (putS D x (some v)) := by
  intro z
  unfold putS
  dsimp only
  rw [valV_put]
  by_cases e : z = x
  · subst e
    rw [if_pos rfl, if_pos rfl]
    rfl
  · rw [if_neg e, if_neg (kne e)]
    exact h z
theorem aof_start {recs : List Rec} : AOf (recs.map fun r => (Sum.inr r.1, V.non)) (fun _ => none) := by
  intro z
  unfold valV
  cases e : (recs.map fun r => ((Sum.inr r.1, V.non) : Key × V)).find? (fun kv => decide (kv.1 = Sum.inr z)) with
  | none => rfl
  | some kv =>
    obtain ⟨r, _, rfl⟩ := List.mem_map.mp (List.mem_of_find?_eq_some e)
    rfl
theorem fsz_eq (n : Int) : n + 3 + (if decide (n ≥ 200) = true then 1 else 0) = fsz n := by
  unfold fsz toldN
  by_cases h : n < 200
  · rw [if_pos h, if_neg (fun z => by have := of_decide_eq_true z; omega)]
    omega
  · rw [if_neg h, if_pos (decide_eq_true (by omega))]
    omega
def spAll : Sp := fun vs H Q _ => ∃ (p : Addr) (cs : List (Str × PyData)) (recs : List Rec), vs = [.ref p] ∧ PartsR H p cs (recs.map rD) ∧ cs.length ≤ 100 ∧ RecsOk recs ∧ (recs.map (·.1)).Nodup ∧
  ∀ (d : Addr) (kvs : List (Key × V)) (H' : Hp), Same H H' → H d = none → H' d = some (.dK kvs) → kvs.map Prod.fst = nmK recs → AOf kvs (turns cs (recs.map rD) recs recs.length) → Q (.ref d) H'
end Fh

set_option Elab.async false
set_option linter.all false
set_option maxRecDepth 100000
set_option maxHeartbeats 4000000
namespace Fh
open PySem L2 PyProof.Rows
theorem rGetT.mono {K : PySem.W.Frag} {x : V} {ys : List V} {H : Hp} {Q Q' : VK} (h : rGetT K x ys H Q) (m : ∀ y H', Q y H' → Q' y H') : rGetT K x ys H Q' := by
  obtain ⟨a, y, e1, e2, h⟩ := h
  refine ⟨a, y, e1, e2, ?_⟩
  rcases h with ⟨o, g, q⟩ | ⟨b, k, kvs, e, h1, h2, q⟩
  · exact .inl ⟨o, g, m _ _ q⟩
  · exact .inr ⟨b, k, kvs, e, h1, h2, m _ _ q⟩
/-- what is got by a kind's parts -/
theorem kind_raw {K : PySem.W.Frag} {H : Hp} {v : V} {k : Kn} (t : Tp H v k.d) {kvs : List (Key × V)} {D : Szs} {d : Addr} (hd : H d = some (.dK kvs)) (ha : AOf kvs D) :
    (∃ (z : Str) (c0 c1 : Nat), v = .str z ∧ z.length ≤ sizeLine ∧ atI z.cps.toList 0 = some c0 ∧ atI z.cps.toList 1 = some c1 ∧ (one c0 : Str) ≠ "record" ∧ (one c0 : Str) ≠ "list" ∧ (one c0 : Str) ≠ "choice" ∧ rawV D k = .int 0) ∨
    ∃ (a : Addr) (w : Str) (u x : V), v = .ref a ∧ H a = some (.tup [.str w, u]) ∧ rGetT K (.ref d) [u] H (fun y H' => y = x ∧ H' = H) ∧ (valV (mergeK [] (dispK x)) (.inr w)).getD (.int 0) = rawV D k := by
  rcases kn_inv t with ⟨rfl, hk⟩ | ⟨a, u, rfl, hb, tu⟩
  · left
    rcases hk with rfl | rfl | rfl
    · exact ⟨_, _, _, rfl, by decide +kernel, rfl, rfl, by decide +kernel, by decide +kernel, by decide +kernel, rfl⟩
    · exact ⟨_, _, _, rfl, by decide +kernel, rfl, rfl, by decide +kernel, by decide +kernel, by decide +kernel, rfl⟩
    · exact ⟨_, _, _, rfl, by decide +kernel, rfl, rfl, by decide +kernel, by decide +kernel, by decide +kernel, rfl⟩
  · right
    cases k with
    | one b =>
      cases b with
      | whole => cases t
      | truth => cases t
      | text => cases t
      | rc z =>
        cases tu.istr
        refine ⟨a, _, _, optV (D z), rfl, hb, ⟨d, _, rfl, rfl, .inl ⟨_, DGet.k (k := Sum.inr z) hd, ha z, rfl⟩⟩, ?_⟩
        show (valV (mergeK [] (dispK _)) (.inr "record")).getD _ = _
        rw [disp_rec]
        rfl
      | ch z =>
        cases tu.istr
        refine ⟨a, _, _, _, rfl, hb, ⟨d, _, rfl, rfl, .inl ⟨_, DGet.k (k := Sum.inr z) hd, rfl, rfl⟩⟩, ?_⟩
        show (valV (mergeK [] (dispK _)) (.inr "choice")).getD _ = _
        rw [disp_choice]
        rfl
    | lst b =>
      have fin : ∀ x : V, (valV (mergeK [] (dispK x)) (.inr (Kn.lst b).word)).getD (.int 0) = rawV D (.lst b) := fun x => by
        show (valV (mergeK [] (dispK _)) (.inr "list")).getD _ = _
        rw [disp_list]
        rfl
      cases b with
      | whole => cases Tp.istr tu; exact ⟨a, _, _, _, rfl, hb, ⟨d, _, rfl, rfl, .inl ⟨_, DGet.k (k := Sum.inr "whole") hd, rfl, rfl⟩⟩, fin _⟩
      | truth => cases Tp.istr tu; exact ⟨a, _, _, _, rfl, hb, ⟨d, _, rfl, rfl, .inl ⟨_, DGet.k (k := Sum.inr "truth") hd, rfl, rfl⟩⟩, fin _⟩
      | text => cases Tp.istr tu; exact ⟨a, _, _, _, rfl, hb, ⟨d, _, rfl, rfl, .inl ⟨_, DGet.k (k := Sum.inr "text") hd, rfl, rfl⟩⟩, fin _⟩
      | rc z =>
        obtain ⟨b2, x, y, rfl, h2, hx, hy⟩ := Tp.pair tu
        cases hx.istr
        cases hy.istr
        exact ⟨a, _, _, .non, rfl, hb, ⟨d, _, rfl, rfl, .inr ⟨b2, [Sum.inr "record", Sum.inr z], kvs, rfl, h2, .inl hd, rfl, rfl⟩⟩, fin _⟩
      | ch z =>
        obtain ⟨b2, x, y, rfl, h2, hx, hy⟩ := Tp.pair tu
        cases hx.istr
        cases hy.istr
        exact ⟨a, _, _, .non, rfl, hb, ⟨d, _, rfl, rfl, .inr ⟨b2, [Sum.inr "choice", Sum.inr z], kvs, rfl, h2, .inl hd, rfl, rfl⟩⟩, fin _⟩
section
variable {P : Program} {w : World} {K : PySem.W.Frag} {mg : Str → Option Value} {base : Heap}
end
end Fh

set_option Elab.async false
set_option linter.all false
set_option maxRecDepth 100000
set_option maxHeartbeats 4000000
namespace Fh
open PySem L2 PyProof.Rows
/-! ### faces as data, values, and the numbers that tell them -/
structure Fc where
  cs : List (Str × List (Int × Str))
  rs : List Rec
def Fc.c (F : Fc) : List (Str × PyData) := F.cs.map fun c => (c.1, optsD c.2)
def Fc.r (F : Fc) : List (Str × PyData) := F.rs.map rD
def flds (F : Fc) (z : Str) : List Fl := (F.rs.lookup z).getD []
def opts (F : Fc) (z : Str) : List (Int × Str) := (F.cs.lookup z).getD []
inductive Vl where
  | num (i : Int)
  | tru (b : Bool)
  | txt (z : Str)
  | lst (xs : List Vl)
  | rcd (fs : List (Str × Vl))
mutual
inductive VD (H : Hp) : V → Vl → Prop
  | num (i : Int) : VD H (.int i) (.num i)
  | tru (b : Bool) : VD H (.bl b) (.tru b)
  | txt (z : Str) : VD H (.str z) (.txt z)
  | lst {a : Addr} {xs : List V} {vs : List Vl} : H a = some (.tup xs) → VDs H xs vs → VD H (.ref a) (.lst vs)
  | rcd {a : Addr} {kvs : List (Key × V)} {fs : List (Str × Vl)} : H a = some (.dK kvs) → kvs.map Prod.fst = fs.map (fun f => Sum.inr f.1) → VDs H (kvs.map Prod.snd) (fs.map Prod.snd) → VD H (.ref a) (.rcd fs)
inductive VDs (H : Hp) : List V → List Vl → Prop
  | nil : VDs H [] []
  | cons {x : V} {v : Vl} {xs : List V} {vs : List Vl} : VD H x v → VDs H xs vs → VDs H (x :: xs) (v :: vs)
end
mutual
theorem VD.same {H H' : Hp} (s : Same H H') {x : V} {v : Vl} : VD H x v → VD H' x v
  | .num i => .num i
  | .tru b => .tru b
  | .txt z => .txt z
  | .lst h q => .lst (s _ _ h) (VDs.same s q)
  | .rcd h e q => .rcd (s _ _ h) e (VDs.same s q)
theorem VDs.same {H H' : Hp} (s : Same H H') {xs : List V} {vs : List Vl} : VDs H xs vs → VDs H' xs vs
  | .nil => .nil
  | .cons h q => .cons (VD.same s h) (VDs.same s q)
end
theorem VDs.length {H : Hp} : ∀ {xs : List V} {vs : List Vl}, VDs H xs vs → xs.length = vs.length
  | _, _, .nil => rfl
  | _, _, .cons _ q => by simp [VDs.length q]
theorem VDs.get {H : Hp} : ∀ {xs : List V} {vs : List Vl} {i : Nat} {x : V}, VDs H xs vs → xs[i]? = some x → ∃ v, vs[i]? = some v ∧ VD H x v
  | _, _, _, _, .nil, e => by simp at e
  | _, _, 0, _, .cons h _, e => by simp at e; subst e; exact ⟨_, rfl, h⟩
  | _, _, i + 1, x, .cons _ q, e => by
    obtain ⟨v, h1, h2⟩ := VDs.get (i := i) (x := x) q (by simpa using e)
    exact ⟨v, by simpa using h1, h2⟩
theorem VDs.app {H : Hp} : ∀ {xs ys : List V} {vs ws : List Vl}, VDs H xs vs → VDs H ys ws → VDs H (xs ++ ys) (vs ++ ws)
  | _, _, _, _, .nil, s => s
  | _, _, _, _, .cons h q, s => .cons h (VDs.app q s)
/-- what a record's dict has at a name -/
theorem vd_at {H : Hp} : ∀ {kvs : List (Key × V)} {fs : List (Str × Vl)}, kvs.map Prod.fst = fs.map (fun f => Sum.inr f.1) → VDs H (kvs.map Prod.snd) (fs.map Prod.snd) → ∀ z : Str, (fs.lookup z = none → valV kvs (Sum.inr z) = none) ∧ (∀ v, fs.lookup z = some v → ∃ x, valV kvs (Sum.inr z) = some x ∧ VD H x v)
  | [], [], _, _, z => ⟨fun _ => rfl, fun v h => by cases h⟩
  | [], _ :: _, e, _, _ => by cases e
  | _ :: _, [], e, _, _ => by cases e
  | (k, x) :: kvs, (n, v) :: fs, e, q, z => by
    rw [List.map_cons, List.map_cons] at e
    injection e with e1 e2
    have e1' : k = Sum.inr n := e1
    subst e1'
    cases q with
    | cons h q =>
      have ih := vd_at e2 q z
      by_cases c : z = n
      · subst c
        have l : ((z, v) :: fs).lookup z = some v := by rw [List.lookup_cons, beq_self_eq_true]
        have w : valV ((Sum.inr z, x) :: kvs) (Sum.inr z : Key) = some x := by
          unfold valV
          rw [List.find?_cons, decide_eq_true rfl]
          rfl
        exact ⟨(fun h => by rw [l] at h; cases h), (fun u hu => ⟨x, w, by rw [l] at hu; cases hu; exact h⟩)⟩
      · have b : (z == n) = false := by rw [beq_eq_false_iff_ne]; exact c
        have l : ((n, v) :: fs).lookup z = fs.lookup z := by rw [List.lookup_cons, b]
        have w : valV ((Sum.inr n, x) :: kvs) (Sum.inr z : Key) = valV kvs (Sum.inr z) := by
          unfold valV
          rw [List.find?_cons, decide_eq_false (fun e => c (Sum.inr.inj e).symm)]
        rw [l, w]
        exact ih
/-! ### which values are of a kind -/
def sgn (c : Nat) : Prop := 32 ≤ c ∧ c ≤ 126 ∧ c ≠ 37
def OkS (F : Fc) (R : Kn → Vl → Prop) (v : Vl) : Kn → Prop
  | .one .whole => ∃ i, v = .num i ∧ 0 ≤ i ∧ i ≤ 1000000000
  | .one .truth => ∃ b, v = .tru b
  | .one .text => ∃ z, v = .txt z ∧ z.length ≤ 20 ∧ ∀ c ∈ z.cps.toList, sgn c
  | .one (.ch c) => ∃ u os n, v = .txt u ∧ F.cs.lookup c = some os ∧ (n, u) ∈ os
  | .one (.rc z) => ∃ fl fs, v = .rcd fs ∧ F.rs.lookup z = some fl ∧ (fs.map Prod.fst).Nodup ∧ (∀ f ∈ fs, ∃ g ∈ fl, g.nam = f.1) ∧ (∀ g ∈ fl, ∀ w, fs.lookup g.nam = some w → R g.kd w) ∧ ∀ g ∈ fl, g.must = true → ∃ w, fs.lookup g.nam = some w
  | .lst b => ∃ xs, v = .lst xs ∧ nobB F.c F.r b = false ∧ xs.length ≤ 6 ∧ ∀ x ∈ xs, R (.one b) x
def Ok (F : Fc) : Nat → Kn → Vl → Prop
  | 0 => fun _ _ => False
  | n + 1 => fun k v => OkS F (Ok F n) v k
/-! ### numbers -/
def told (n : Nat) : List Int := if n < 200 then [(n : Int)] else [200 + (n : Int) / 256, (n : Int) % 256]
def dg : Nat → Nat → List Int
  | 0, _ => []
  | f + 1, n => if n = 0 then [] else dg f (n / 256) ++ [((n % 256 : Nat) : Int)]
def digs (n : Nat) : List Int := dg 6 n
def piece (c : List Int) : List Int := told c.length ++ c
def optN (F : Fc) (c u : Str) : Nat := (((opts F c).find? fun o => decide (o.2 = u)).map fun o => o.1.toNat).getD 0
def fpiece (E : Kn → Vl → List Int) (fs : List (Str × Vl)) (g : Fl) : List Int := match fs.lookup g.nam with
  | some v => g.num :: g.kd.mark :: piece (E g.kd v)
  | none => []
def encS (F : Fc) (E : Kn → Vl → List Int) (v : Vl) : Kn → List Int
  | .one .whole => match v with | .num i => digs i.toNat | _ => []
  | .one .truth => match v with | .tru b => if b = true then [1] else [] | _ => []
  | .one .text => match v with | .txt z => z.cps.toList.map (fun c : Nat => (c : Int)) | _ => []
  | .one (.ch c) => match v with | .txt u => digs (optN F c u) | _ => []
  | .one (.rc z) => match v with | .rcd fs => ((flds F z).map (fpiece E fs)).flatten | _ => []
  | .lst b => match v with | .lst xs => b.mark :: (xs.map fun x => piece (E (.one b) x)).flatten | _ => []
def enc (F : Fc) : Nat → Kn → Vl → List Int
  | 0 => fun _ _ => []
  | n + 1 => fun k v => encS F (enc F n) v k
def nrmS (F : Fc) (N : Kn → Vl → Vl) (v : Vl) : Kn → Vl
  | .one (.rc z) => match v with | .rcd fs => .rcd ((flds F z).filterMap fun g => (fs.lookup g.nam).map fun w => (g.nam, N g.kd w)) | w => w
  | .lst b => match v with | .lst xs => .lst (xs.map (N (.one b))) | w => w
  | _ => v
def nrm (F : Fc) : Nat → Kn → Vl → Vl
  | 0 => fun _ v => v
  | n + 1 => fun k v => nrmS F (nrm F n) v k
structure FcOk (F : Fc) : Prop where
  lc : F.cs.length ≤ 100
  lr : F.rs.length ≤ 100
  lf : ∀ r ∈ F.rs, r.2.length ≤ 10
  nf : ∀ r ∈ F.rs, (r.2.map (·.nam)).Nodup
  rise : ∀ r ∈ F.rs, r.2.Pairwise fun f g => f.num < g.num
  nums : ∀ r ∈ F.rs, ∀ f ∈ r.2, 1 ≤ f.num ∧ f.num ≤ 30
  ops : ∀ c ∈ F.cs, OptsOk c.2
  on : ∀ c ∈ F.cs, (c.2.map Prod.fst).Nodup
  nmc : ∀ c ∈ F.cs, Sh 0 (.str c.1)
def FaceF (C : Addr) (H : Hp) (a : Addr) (F : Fc) : Prop := FaceR C H a F.c F.r ∧ FcOk F
theorem FaceF.same {C : Addr} {H H' : Hp} {a : Addr} {F : Fc} (h : FaceF C H a F) (s : Same H H') : FaceF C H' a F := ⟨h.1.same s, h.2⟩
theorem look_map {α β : Type} (f : α → β) : ∀ (l : List (Str × α)) (z : Str), (l.map fun c => (c.1, f c.2)).lookup z = (l.lookup z).map f
  | [], _ => rfl
  | (n, v) :: l, z => by
    rw [List.map_cons, List.lookup_cons, List.lookup_cons]
    cases (z == n) with
    | true => rfl
    | false => exact look_map f l z
theorem look_c (F : Fc) (z : Str) : F.c.lookup z = (F.cs.lookup z).map optsD := look_map optsD F.cs z
theorem look_r (F : Fc) (z : Str) : F.r.lookup z = (F.rs.lookup z).map fieldsD := look_map fieldsD F.rs z
theorem look_mem {α : Type} : ∀ {l : List (Str × α)} {z : Str} {v : α}, l.lookup z = some v → (z, v) ∈ l
  | [], _, _, h => by cases h
  | (n, w) :: l, z, v, h => by
    rw [List.lookup_cons] at h
    cases e : (z == n) with
    | true =>
      rw [e] at h
      cases h
      rw [eq_of_beq e]
      exact List.mem_cons_self
    | false =>
      rw [e] at h
      exact List.mem_cons_of_mem _ (look_mem h)
theorem mem_look {α : Type} : ∀ {l : List (Str × α)} {z : Str}, z ∈ l.map Prod.fst → ∃ v, l.lookup z = some v
  | [], _, h => by cases h
  | (n, w) :: l, z, h => by
    rw [List.lookup_cons]
    cases e : (z == n) with
    | true => exact ⟨w, rfl⟩
    | false =>
      rcases List.mem_cons.mp h with h | h
      · rw [h] at e
        simp at e
      · exact mem_look h
theorem nameIn_look {α : Type} {f : α → PyData} {l : List (Str × α)} {z : Str} {v : α} (h : l.lookup z = some v) : nameIn z (l.map fun c => (c.1, f c.2)) = true := by
  refine decide_eq_true ?_
  rw [List.map_map]
  exact List.mem_map.mpr ⟨(z, v), look_mem h, rfl⟩
theorem ok_nobF {F : Fc} {n : Nat} {k : Kn} {v : Vl} (h : Ok F n k v) : nobK F.c F.r k = false := by
  cases n with
  | zero => exact h.elim
  | succ n =>
    cases k with
    | lst b =>
      obtain ⟨xs, _, e, _⟩ := h
      exact e
    | one b =>
      cases b with
      | whole => rfl
      | truth => rfl
      | text => rfl
      | rc z =>
        obtain ⟨fl, fs, _, e, _⟩ := h
        show (!nameIn z F.r) = false
        have z1 : nameIn z F.r = true := nameIn_look (f := fieldsD) e
        rw [z1]
        rfl
      | ch c =>
        obtain ⟨u, os, m, _, e, _⟩ := h
        show (!nameIn c F.c) = false
        have z1 : nameIn c F.c = true := nameIn_look (f := optsD) e
        rw [z1]
        rfl
theorem optN_of {F : Fc} {c u : Str} {os : List (Int × Str)} {n : Int} (hl : F.cs.lookup c = some os) (ok : OptsOk os) (hm : (n, u) ∈ os) : ((optN F c u : Nat) : Int) = n := by
  have r := ok.rg _ hm
  have e : os.find? (fun o => decide (o.2 = u)) = some (n, u) := by
    have f := opts_one ok.nd hm
    have z : (os.filter fun o => decide (o.2 = u)).head? = os.find? fun o => decide (o.2 = u) := List.head?_filter
    rw [f] at z
    exact z.symm
  unfold optN opts
  rw [hl]
  show (((os.find? fun o => decide (o.2 = u)).map fun o => o.1.toNat).getD 0 : Nat) = n
  rw [e]
  show ((n.toNat : Nat) : Int) = n
  have r1 : 1 ≤ n := r.1
  omega
end Fh

set_option Elab.async false
set_option linter.all false
set_option maxRecDepth 100000
set_option maxHeartbeats 4000000
namespace Fh
open PySem L2 PyProof.Rows
abbrev sFields : Stmt := inClass (top 22) 3
def spDigE : Sp := fun vs H Q _ => ∃ (n : Nat), vs = [.int n] ∧ n < 256 ^ 6 ∧ ∀ (p : Addr) (H' : Hp), Same H H' → H p = none → H' p = some (.lst ((digs n).map V.int)) → Q (.ref p) H'
def spToldE : Sp := fun vs H Q _ => ∃ (n : Nat), vs = [.int n] ∧ ∀ (p : Addr) (H' : Hp), Same H H' → H p = none → H' p = some (.lst ((told n).map V.int)) → Q (.ref p) H'
def spMark : Sp := fun vs H Q _ => ∃ (v : V) (k : Kn), vs = [v] ∧ Tp H v k.d ∧ Q (.int k.mark) H
def spFields (C : Addr) : Sp := fun vs H Q _ => ∃ (a : Addr) (z : Str) (cs rs : List (Str × PyData)) (d : PyData), vs = [.ref a, .str z] ∧ FaceR C H a cs rs ∧ rs.lookup z = some d ∧ ∀ v, Tp H v d → Q v H
/-- the table of marks -/
structure Marks (K : PySem.W.Frag) (w : World) (mg : Str → Option Value) : Prop where
  ex : ∃ M : Addr, mg "MARKS" = some (.ref M) ∧ KDct K w M "whole" (.int 1) ∧ KDct K w M "truth" (.int 1) ∧ KDct K w M "choice" (.int 1) ∧ KDct K w M "text" (.int 2) ∧ KDct K w M "list" (.int 3) ∧ KDct K w M "record" (.int 4)
theorem dg_pos {f n : Nat} (h : 0 < n) : dg (f + 1) n = dg f (n / 256) ++ [((n % 256 : Nat) : Int)] := by
  show (if n = 0 then [] else _) = _
  rw [if_neg (by omega)]
theorem dg_zero : ∀ f, dg f 0 = []
  | 0 => rfl
  | f + 1 => if_pos rfl
section
variable {P : Program} {w : World} {K : PySem.W.Frag} {mg : Str → Option Value} {base : Heap}
abbrev nFields : List Str := ["self", "record", "name", "fields"]
theorem scFields : FnScope nFields ["self", "record"] (defScope sFields) := ⟨rfl, rfl, rfl, by decide +kernel, rfl, by decide +kernel, by decide +kernel⟩
theorem ok_fields {C f : Addr} {fd : FuncData} (F : Fun K "fields_of" "Face.fields_of" sFields f fd) (cl : Cls K C) (n4 : NoAttr K C "records") : FnOk P w K mg base CX0 1 f fd ["self", "record"] (spFields C) := by
  refine F.ok scFields (fun vs H Q E h => ?_) (fun cdv A outer s H vs Q E hr h => ?_)
  · obtain ⟨a, z, cs, rs, d, rfl, _⟩ := h
    rfl
  · obtain ⟨a, z, cs, rs, d, rfl, ⟨dx, v1, v2, v3, v4, v5, hA, t3, t4⟩, hl, k⟩ := h
    refine ⟨_, pss_cons (ps_for PassesOwn.never rfl (pi_tup (pe_fld (pv 0) rfl)) (pg_tup rfl (pgs_cons (pg_name (i := 2) scFields.nd rfl (.inl rfl)) (pgs_cons (pg_name (i := 3) scFields.nd rfl (.inl rfl)) pgs_nil)))
        (pss_one (ps_if (pt_cmpR op_eq (pv 2) (pv 1) (nomark _)) (pss_one (ps_ret (pv 3))) pss_nil))) (pss_one ps_never), ?_⟩
    obtain ⟨b, xs, rfl, hb, q⟩ := TpR.inv t4
    refine ⟨_, rfl, a, C, dx, _, _, rfl, hA, cl, n4, ff_records, b, rfl, ⟨_, .inl hb⟩, ?_⟩
    refine for_tup (xs := xs) (fun i σ H3 => H3 = H ∧ (∃ a2 a3, σ = [some (.ref a), some (.str z), a2, a3]) ∧ ∀ (j : Nat) (r : Str × PyData), j < i → rs[j]? = some r → r.1 ≠ z) ?_ ?_ ?_ ?_
    · exact ⟨rfl, ⟨_, _, rfl⟩, fun j r hj => absurd hj (Nat.not_lt_zero _)⟩
    · rintro i σ H3 _ ⟨rfl, _⟩
      exact .inl hb
    · rintro i x σ H3 hx ⟨rfl, ⟨a2, a3, rfl⟩, hB⟩
      obtain ⟨r, t, u, hr', rfl, ht, tu⟩ := rows_at q hx
      refine ⟨t, _, rfl, SqT.of ht, rfl, _, _, rfl, _, _, rfl, rfl, ?_⟩
      refine ⟨_, rfl, _, rfl, rfl, _, rfl, ?_⟩
      refine ite2 (fun h => ?_) (fun h => ?_)
      · have e : r.1 = z := by
          have := of_decide_eq_true h
          cases this
          rfl
        have e2 := look_first hl hr' e hB
        rw [e2] at tu
        exact ⟨_, rfl, k _ tu⟩
      · have e : r.1 ≠ z := fun q => h (decide_eq_true (by rw [q]))
        refine ⟨rfl, ⟨_, _, rfl⟩, fun j s hj hs => ?_⟩
        by_cases ej : j = i
        · rw [ej, hr'] at hs
          cases hs
          exact e
        · exact hB j s (by omega) hs
    · rintro σ H3 ⟨rfl, _, hB⟩
      obtain ⟨i, hi, e⟩ := look_at hl
      have el : xs.length = rs.length := by rw [q.length, List.length_map]
      exact hB i rs[i] (by omega) (List.getElem?_eq_getElem hi) e
end
end Fh

set_option Elab.async false
set_option linter.all false
set_option maxRecDepth 100000
set_option maxHeartbeats 4000000
namespace Fh
open PySem L2 PyProof.Rows
abbrev nCon : List Str := ["face", "kind", "value", "word", "sign"]
abbrev nRec : List Str := ["face", "record", "value", "numbers", "number", "name", "kind", "need", "content"]
abbrev nLst : List Str := ["face", "kind", "values", "numbers", "value", "content"]
def spCon (C : Addr) (n : Nat) : Sp := fun vs H Q _ => ∃ (a : Addr) (v x : V) (k : Kn) (u : Vl) (F : Fc), vs = [.ref a, v, x] ∧ FaceF C H a F ∧ Tp H v k.d ∧ VD H x u ∧ Ok F n k u ∧ (enc F n k u).length ≤ 10000 ∧
  ∀ (p : Addr) (H' : Hp), Same H H' → H p = none → H' p = some (.lst ((enc F n k u).map V.int)) → Q (.ref p) H'
def spRec (C : Addr) (n : Nat) : Sp := fun vs H Q _ => ∃ (a : Addr) (z : Str) (x : V) (u : Vl) (F : Fc), vs = [.ref a, .str z, x] ∧ FaceF C H a F ∧ VD H x u ∧ Ok F n (.one (.rc z)) u ∧ (enc F n (.one (.rc z)) u).length ≤ 10000 ∧
  ∀ (p : Addr) (H' : Hp), Same H H' → H p = none → H' p = some (.lst ((enc F n (.one (.rc z)) u).map V.int)) → Q (.ref p) H'
def spLst (C : Addr) (n : Nat) : Sp := fun vs H Q _ => ∃ (a : Addr) (v x : V) (b : Kb) (u : Vl) (F : Fc), vs = [.ref a, v, x] ∧ FaceF C H a F ∧ Tp H v b.d ∧ VD H x u ∧ Ok F n (.lst b) u ∧ (enc F n (.lst b) u).length ≤ 10000 ∧
  ∀ (p : Addr) (H' : Hp), Same H H' → H p = none → H' p = some (.lst ((enc F n (.lst b) u).map V.int)) → Q (.ref p) H'
/-- a walk of n turns -/
theorem for_it {J : It} {g : TG} {tb : TS} {D : Ends} {σ : L2.St} {H : Hp} (n : Nat) (Pv : Nat → L2.St → Hp → Prop) (h0 : Pv 0 σ H) (hgo : ∀ i σ H, i < n → Pv i σ H → J.go i H) (hst : ∀ σ H, Pv n σ H → J.stop n H)
    (hs : ∀ (i : Nat) (σ : L2.St) (H : Hp) (v : V) (H' : Hp), i < n → Pv i σ H → J.yld i H v H' → g v σ H' fun σ2 H2 => tb { D with nx := Pv (i + 1), ct := Pv (i + 1), bk := D.nx } σ2 H2) (hd : ∀ σ H, Pv n σ H → D.nx σ H) :
    ∃ W : Nat → Nat → L2.St → Hp → Prop, (∃ m, W 0 m σ H) ∧ ∀ i m σ H, W i m σ H →
      (J.stop i H ∧ D.nx σ H) ∨ (J.go i H ∧ ∃ N : L2.St → Hp → Prop, (∀ σ' H', N σ' H' → ∃ m', m' < m ∧ W (i + 1) m' σ' H') ∧ ∀ v H', J.yld i H v H' → g v σ H' fun σ2 H2 => tb { D with nx := N, ct := N, bk := D.nx } σ2 H2) := by
  refine ⟨fun i m σ H => i + m = n ∧ Pv i σ H, ⟨n, Nat.zero_add n, h0⟩, fun i m σ H hW => ?_⟩
  obtain ⟨e, p⟩ := hW
  rcases Nat.eq_zero_or_pos m with hm | hm
  · have ei : i = n := by omega
    subst ei
    exact .inl ⟨hst σ H p, hd σ H p⟩
  · exact .inr ⟨hgo i σ H (by omega) p, Pv (i + 1), fun σ' H' q => ⟨m - 1, by omega, by omega, q⟩, fun v H' y => hs i σ H v H' (by omega) p y⟩
theorem lc_it {J : It} {g : TG} {tt : TT} {te : TE} {vs : List Nat} {σ : L2.St} {H1 : Hp} {D : Addr} {Qd : Hp → Prop} (n : Nat) (Pv : Nat → Hp → Prop) (h0 : Pv 0 (upd H1 D (.lst []))) (hgo : ∀ i H, i < n → Pv i H → J.go i H) (hst : ∀ H, Pv n H → J.stop n H)
    (hs : ∀ (i : Nat) (H : Hp) (x : V) (H' : Hp), i < n → Pv i H → J.yld i H x H' → g x (wipe σ vs) H' fun σ2 H2 => wipe σ2 vs = wipe σ vs ∧ tt σ2 H2 fun b H3 =>
      if b = true then te σ2 H3 fun y H4 => ∃ acc, H4 D = some (.lst acc) ∧ acc.length < sizeLine ∧ Pv (i + 1) (upd H4 D (.lst (acc ++ [y]))) else Pv (i + 1) H3) (hd : ∀ H, Pv n H → Qd H) :
    ∃ W : Nat → Nat → Hp → Prop, (∃ m, W 0 m (upd H1 D (.lst []))) ∧ ∀ i m H, W i m H →
      (J.stop i H ∧ Qd H) ∨ (J.go i H ∧ ∃ Nx : Hp → Prop, (∀ H', Nx H' → ∃ m', m' < m ∧ W (i + 1) m' H') ∧ ∀ x H', J.yld i H x H' → g x (wipe σ vs) H' fun σ2 H2 => wipe σ2 vs = wipe σ vs ∧ tt σ2 H2 fun b H3 =>
        if b = true then te σ2 H3 fun y H4 => ∃ acc, H4 D = some (.lst acc) ∧ acc.length < sizeLine ∧ Nx (upd H4 D (.lst (acc ++ [y]))) else Nx H3) := by
  refine ⟨fun i m H => i + m = n ∧ Pv i H, ⟨n, Nat.zero_add n, h0⟩, fun i m H hW => ?_⟩
  obtain ⟨e, p⟩ := hW
  rcases Nat.eq_zero_or_pos m with hm | hm
  · have ei : i = n := by omega
    subst ei
    exact .inl ⟨hst H p, hd H p⟩
  · exact .inr ⟨hgo i H (by omega) p, Pv (i + 1), fun H' q => ⟨m - 1, by omega, by omega, q⟩, fun x H' y => hs i H x H' (by omega) p y⟩
theorem told_len (n : Nat) : (told n).length ≤ 2 := by
  unfold told
  split
  · exact Nat.le_succ 1
  · exact Nat.le_refl _
theorem flat_le {α : Type} : ∀ {l : List (List α)} {x : List α}, x ∈ l → x.length ≤ l.flatten.length
  | [], _, h => by cases h
  | y :: l, x, h => by
    rw [List.flatten_cons, List.length_append]
    rcases List.mem_cons.mp h with e | h
    · rw [e]; omega
    · have := flat_le h; omega
theorem flat_take {α : Type} : ∀ (l : List (List α)) (i : Nat), (l.take i).flatten.length ≤ l.flatten.length
  | [], _ => by simp
  | y :: l, 0 => by simp
  | y :: l, i + 1 => by
    rw [List.take_succ_cons, List.flatten_cons, List.flatten_cons, List.length_append, List.length_append]
    have := flat_take l i
    omega
theorem piece_le (c : List Int) : c.length ≤ (piece c).length := by
  unfold piece
  rw [List.length_append]
  omega
theorem Tk.back {H : Hp} {p : Addr} {xs : List V} : Tk (upd H p (.lst xs)) H := fun a ys e => by
  by_cases c : a = p
  · rw [c, upd_same] at e
    cases e
  · rw [upd_ne c] at e
    exact e
section
variable {P : Program} {w : World} {K : PySem.W.Frag} {mg : Str → Option Value} {base : Heap}
end
end Fh

set_option Elab.async false
set_option linter.all false
set_option maxRecDepth 100000
set_option maxHeartbeats 4000000
namespace Fh
open PySem L2 PyProof.Rows
abbrev sWho : Stmt := top 5
abbrev nDem : List Str := ["holds", "why"]
abbrev nWho : List Str := ["thing"]
abbrev nBod : List Str := ["thing", "number"]
abbrev nSig : List Str := ["code"]
abbrev nSpp : List Str := ["content", "at", "size", "begin"]
abbrev nSpf : List Str := ["content", "parts", "last", "at", "number", "mark", "inner"]
def tkOf (mg : Str → Option Value) (x : Str) : Tok := match mg x with
  | some (.int _ t) => t
  | some (.str _ t) => t
  | _ => 0
theorem tk_int {mg : Str → Option Value} {x : Str} {n : Int} (h : ∃ t, mg x = some (.int n t)) : mg x = some (.int n (tkOf mg x)) := by
  obtain ⟨t, e⟩ := h
  have z : tkOf mg x = t := by unfold tkOf; rw [e]
  rw [z]
  exact e
/-- the modules' names for numbers, and three built-in names -/
structure Wn (mg : Str → Option Value) : Prop where
  base : mg "BASE" = some (.int 256 (tkOf mg "BASE"))
  first_long_size : mg "FIRST_LONG_SIZE" = some (.int 200 (tkOf mg "FIRST_LONG_SIZE"))
  greatest_number : mg "GREATEST_NUMBER" = some (.int 30 (tkOf mg "GREATEST_NUMBER"))
  greatest_mark : mg "GREATEST_MARK" = some (.int 4 (tkOf mg "GREATEST_MARK"))
  deepest : mg "DEEPEST" = some (.int 80 (tkOf mg "DEEPEST"))
  longest_list : mg "LONGEST_LIST" = some (.int 6 (tkOf mg "LONGEST_LIST"))
  longest_text : mg "LONGEST_TEXT" = some (.int 20 (tkOf mg "LONGEST_TEXT"))
  greatest_whole : mg "GREATEST_WHOLE" = some (.int 1000000000 (tkOf mg "GREATEST_WHOLE"))
  greatest_body : mg "GREATEST_BODY" = some (.int 10000 (tkOf mg "GREATEST_BODY"))
  percent : mg "PERCENT" = some (.int 37 (tkOf mg "PERCENT"))
  first_code : mg "FIRST_CODE" = some (.int 32 (tkOf mg "FIRST_CODE"))
  ord : mg "ord" = none
  all : mg "all" = none
  bool : mg "bool" = none
def spDem : Sp := fun vs H Q _ => ∃ (b : Bool) (y : Str), vs = [.bl b, .str y] ∧ b = true ∧ Q .non H
def spWho : Sp := fun vs H Q _ => (∃ i : Int, vs = [.int i] ∧ Q (.bl true) H) ∨ (∃ b : Bool, vs = [.bl b] ∧ Q (.bl false) H)
def spBod : Sp := fun vs H Q _ => ∃ (c : Addr) (xs : List Int), vs = [.ref c] ∧ H c = some (.tup (xs.map V.int)) ∧ xs.length ≤ 10000 ∧ (∀ x ∈ xs, 0 ≤ x ∧ x < 256) ∧ ∀ H', Same H H' → Q (.bl true) H'
def spSig : Sp := fun vs H Q _ => ∃ (c : Nat), vs = [.int c] ∧ sgn c ∧ Q (.bl true) H
def spSpp : Sp := fun vs H Q _ => ∃ (c : Addr) (pre ce post : List Int) (i : Int), vs = [.ref c, .int i] ∧ i = pre.length ∧ H c = some (.tup ((pre ++ piece ce ++ post).map V.int)) ∧ (pre ++ piece ce ++ post).length ≤ 10000 ∧
  ∀ (t q : Addr) (H' : Hp), Same H H' → H' t = some (.tup [.ref q, .int ((pre.length + (piece ce).length : Nat) : Int)]) → H' q = some (.tup (ce.map V.int)) → Q (.ref t) H'
abbrev Pc := Int × Int × List Int
def pcs (p : Pc) : List Int := p.1 :: p.2.1 :: piece p.2.2
structure PcsOk (ps : List Pc) : Prop where
  rise : ps.Pairwise fun p q => p.1 < q.1
  rg : ∀ p ∈ ps, 1 ≤ p.1 ∧ p.1 ≤ 30
  mks : ∀ p ∈ ps, 1 ≤ p.2.1 ∧ p.2.1 ≤ 4
/-- a dict has these pieces -/
structure Pcd (H : Hp) (kvs : List (Key × V)) (ps : List Pc) : Prop where
  is : ∀ p ∈ ps, ∃ t q, valV kvs (Sum.inl p.1) = some (.ref t) ∧ H t = some (.tup [.int p.2.1, .ref q]) ∧ H q = some (.tup (p.2.2.map V.int))
  no : ∀ n : Int, n ∉ ps.map Prod.fst → valV kvs (Sum.inl n) = none
theorem Pcd.same {H H' : Hp} {kvs : List (Key × V)} {ps : List Pc} (h : Pcd H kvs ps) (s : Same H H') : Pcd H' kvs ps := ⟨fun p hp => by
  obtain ⟨t, q, h1, h2, h3⟩ := h.is p hp
  exact ⟨t, q, h1, s _ _ h2, s _ _ h3⟩, h.no⟩
def spSpf : Sp := fun vs H Q _ => ∃ (c : Addr) (ps : List Pc), vs = [.ref c] ∧ H c = some (.tup (((ps.map pcs).flatten).map V.int)) ∧ ((ps.map pcs).flatten).length ≤ 10000 ∧ PcsOk ps ∧
  ∀ (d : Addr) (kvs : List (Key × V)) (H' : Hp), Same H H' → H' d = some (.dK kvs) → Pcd H' kvs ps → Q (.ref d) H'
theorem hup {p a : Addr} {o u : HO} {H : Hp} (hp : H p = none) (e : H a = some u) : (upd H p o) a = some u := by rw [upd_ne (ne_of_none e hp)]; exact e
theorem ati {xs : List Int} {i : Nat} {x : Int} (h : xs[i]? = some x) : atI (xs.map V.int) (i : Int) = some (.int x) := by
  have hl := (List.getElem?_eq_some_iff.mp h).1
  obtain ⟨v, e, e2, _⟩ := atI_in (xs := xs.map V.int) (i := (i : Int)) (by omega) (by rw [List.length_map]; omega)
  rw [e]
  rw [List.getElem?_map] at e2
  have e3 : ((i : Int)).toNat = i := by omega
  rw [e3, h] at e2
  exact e2.symm
theorem cut_ints (xs : List Int) (lo hi : Nat) (h1 : lo ≤ hi) (h2 : hi ≤ xs.length) : cutV (xs.map V.int) (some (lo : Int)) (some (hi : Int)) = ((xs.drop lo).take (hi - lo)).map V.int := by
  have a := HT.sIx_nat (xs.map V.int).length 0 lo
  have b := HT.sIx_nat (xs.map V.int).length (xs.map V.int).length hi
  unfold cutV
  rw [a, b, List.length_map, Nat.min_eq_left h2, Nat.min_eq_left (Nat.le_trans h1 h2), List.map_take, List.map_drop]
section
variable {P : Program} {w : World} {K : PySem.W.Frag} {mg : Str → Option Value} {base : Heap}
theorem scWho : FnScope nWho ["thing"] (defScope sWho) := ⟨rfl, rfl, rfl, by decide +kernel, rfl, by decide +kernel, by decide +kernel⟩
theorem ok_who {f : Addr} {fd : FuncData} (F : Fun K "is_whole" "is_whole" sWho f fd) (G : Glb mg) (W : Wn mg) : FnOk P w K mg base CX0 1 f fd ["thing"] spWho := by
  refine F.ok scWho (fun vs H Q E h => ?_) (fun cdv A outer s H vs Q E hr h => ?_)
  · rcases h with ⟨i, rfl, _⟩ | ⟨b, rfl, _⟩ <;> rfl
  · refine ⟨_, (pss_one (ps_ret (pe_and (pe_callB call_isi (by rfl) G.isi (by decide +kernel) (pa_cons (pv 0) (pa_cons (pe_bltn (v := .ty "int") rfl G.int (by decide +kernel) rfl) pa_nil))) (pe_one (pe_not (pe_callB call_isi (by rfl) G.isi (by decide +kernel) (pa_cons (pv 0) (pa_cons (pe_bltn (v := .ty "bool") rfl W.bool (by decide +kernel) rfl) pa_nil)))))))), ?_⟩
    rcases h with ⟨i, rfl, q⟩ | ⟨b, rfl, q⟩
    · exact ⟨_, rfl, _, _, .type "int", .type "int", true, rfl, .ty _, .base (.int i), rfl, true, rfl, iteT ⟨_, rfl, _, _, .type "int", .type "bool", false, rfl, .ty _, .base (.int i), rfl, false, rfl, q⟩⟩
    · exact ⟨_, rfl, _, _, .type "bool", .type "int", true, rfl, .ty _, .base (.bl b), rfl, true, rfl, iteT ⟨_, rfl, _, _, .type "bool", .type "bool", true, rfl, .ty _, .base (.bl b), rfl, true, rfl, q⟩⟩
theorem rise_len : ∀ (l : List Pc) (lo : Int), lo ≤ 30 → l.Pairwise (fun p q => p.1 < q.1) → (∀ p ∈ l, lo < p.1 ∧ p.1 ≤ 30) → (l.length : Int) ≤ 30 - lo
  | [], lo, h, _, _ => by simp; omega
  | p :: r, lo, h, pw, rg => by
    obtain ⟨h1, h2⟩ := List.pairwise_cons.mp pw
    have hp := rg p List.mem_cons_self
    have ih := rise_len r p.1 hp.2 h2 fun q hq => ⟨h1 q hq, (rg q (List.mem_cons_of_mem _ hq)).2⟩
    rw [List.length_cons]
    omega
theorem pcs_len (p : Pc) : 3 ≤ (pcs p).length := by
  unfold pcs piece told
  rw [List.length_cons, List.length_cons, List.length_append]
  split
  · simp
  · simp
    omega
end
end Fh

set_option Elab.async false
set_option linter.all false
set_option maxRecDepth 100000
set_option maxHeartbeats 4000000
namespace Fh
open PySem PySem.Spec PyProof.Rows L2
/-! ### name = {k: v for ..}, the name a local -/
section
variable {X : Cx}
/-- what is left to do when a comprehension's thing at L is stored to a local name -/
theorem stored_behind {pins : List (Addr × Obj)} {σ : L2.St} {H' : Hp} {s' : Shared} {D : Ends} {L C : Addr} {m : Str → Option Value} {i : Nat} {y : Str} {py : Pos} (hN : X.N.Nodup) (hy : X.N[i]? = some y) (hyl : X.env.scope.names.lookup y = some .local)
    (J : Inv X pins σ H' s') (hn : s'.heap.Ns C m) (fp : FpOk X pins H' C) (hq : D.nx (σ.set i (some (.ref L))) H') :
    compPost (model X.prog X.w) X.A X.xe (some (assign (.Name y py) X.env)) (fun _ t => SP X pins D .next t) (.ref L) C (.ok .next) s' := by
  have ⟨g0, g1, g2, g3, g4, g5⟩ := fp
  have go : wpAny (model X.prog X.w) X.A (assign (.Name y py) X.env (.ref L)) (fun _ t => compPost (model X.prog X.w) X.A X.xe none (fun _ u => SP X pins D .next u) (.ref L) C (.ok .next) t) X.xe s' := by
    refine wpAny_assign_Name (store_ok2 (v := V.ref L) J hN hy (.inl hyl) rfl (fun t K2 hb => ?_) (.inr hyl))
    have ⟨b, sb, hb⟩ := hb
    have apart : C ≠ b := hb.elim (fun z => z ▸ g1) fun z e => g4 y b z e.symm
    exact ⟨m, hn.sameBut sb apart, fun h3 sb3 => ⟨_, H', K2.turned (t' := t.toks) (fun c o hc e => (sb3.2 c hc).trans e) g0 g1 g3 g4 g5, hq⟩⟩
  exact go
theorem ps_setDc {i : Nat} {y : Str} {py : Pos} {kx vx tg iter : Expr} {ifs : List Expr} {scope : Scope} {own : List (Str × Nat)} {pos spos : Pos} {wi : TI} {g : TG} {tt : TT} {tk tv : TE} (hc : X.calm = true) (hN : X.N.Nodup) (hy : X.N[i]? = some y) (hyl : X.env.scope.names.lookup y = some .local)
    (hsw : swapsWith (.DictComp kx vx [⟨tg, iter, ifs, 0⟩] scope pos) (some (.Name y py)) spos.line X.env = pure true) (hi : PI X tg iter wi) (ok : BlkOk X.N X.env.scope scope own)
    (hg : ∀ s H C cl fp, PG (X.blk s H scope (compEnvC scope cl C X.env) fp) tg g) (ht : ∀ s H C cl fp, PTs (X.blk s H scope (compEnvC scope cl C X.env) fp) ifs tt)
    (hk : ∀ s H C cl fp, PE (X.blk s H scope (compEnvC scope cl C X.env) fp) kx tk) (he : ∀ s H C cl fp, PE (X.blk s H scope (compEnvC scope cl C X.env) fp) vx tv) (hs : ∀ x, foldedSetIterable iter X.env x = pure x := by intro _; rfl) :
    PS X (.Assign [.Name y py] (.DictComp kx vx [⟨tg, iter, ifs, 0⟩] scope pos) spos) (tAsg (tDc wi g tt tk tv (own.map (·.2))) (gName i)) := by
  refine ⟨fun pins s σ H D I want => ?_⟩
  have want' : tDc wi g tt tk tv (own.map (·.2)) σ H (fun x H1 => gName i x σ H1 D.nx) := want
  rw [exec_Assign_Name_used _ _ _ _ hsw]
  refine wpAny_bind (wpAny_standAt (wpAny_bind ?_))
  have run := dc_core (pos := pos) (pos' := firstIterPos [⟨tg, iter, ifs, 0⟩] pos) (use := some (assign (.Name y py) X.env)) (Qf := fun _ t => SP X pins D .next t) hc hN I hi ok hg ht hk he hs want' fun L C s' m H' J q hn fp => stored_behind hN hy hyl J hn fp q
  exact wpAny_bind (thn run fun _ t hq => wpAny_pure (wpAny_pure hq))
theorem sw_dict {kx vx : Expr} {gs : List Comprehension} {scope : Scope} {pos py : Pos} {y : Str} {l : Nat} {env : Env} (hk : env.scope.kind = .function) (hy : env.scope.names.lookup y = some .local) (hl : (py.line == pos.line) = true)
    (ha : (scope.names.any fun (n, k) => n == y && (k == .local || k == .cell)) = false) : swapsWith (.DictComp kx vx gs scope pos) (some (.Name y py)) l env = pure true := by
  have e1 : env.blockKind = .function := by unfold Env.blockKind; rw [hk]; rfl
  have e2 : env.kindOf y = some .local := hy
  unfold swapsWith
  simp only [e1, e2, ha, Expr.pos, hl]
  rfl
end
end Fh

set_option Elab.async false
set_option linter.all false
set_option maxRecDepth 100000
set_option maxHeartbeats 4000000
namespace Fh
open PySem L2 PyProof.Rows
abbrev nRtx : List Str := ["content", "code"]
abbrev nRnu : List Str := ["content", "number", "digit"]
abbrev nRnd : List Str := ["face", "kind", "number", "words", "option", "word"]
def spRtx : Sp := fun vs H Q _ => ∃ (c : Addr) (z : Str), vs = [.ref c] ∧ H c = some (.tup ((z.cps.toList.map (fun c : Nat => (c : Int))).map V.int)) ∧ z.length ≤ 20 ∧ (∀ c ∈ z.cps.toList, sgn c) ∧ ∀ H', Same H H' → Q (.str z) H'
def spRnu : Sp := fun vs H Q _ => ∃ (c : Addr) (n : Nat), vs = [.ref c] ∧ H c = some (.tup ((digs n).map V.int)) ∧ n ≤ 1000000000 ∧ ∀ H', Same H H' → Q (.int n) H'
def spRnd (C : Addr) : Sp := fun vs H Q _ => ∃ (a : Addr) (v : V) (k : Kn) (m : Nat) (F : Fc), vs = [.ref a, v, .int m] ∧ FaceF C H a F ∧ Tp H v k.d ∧
  ((k = .one .whole ∧ Q (.int m) H) ∨ (k = .one .truth ∧ ∃ b : Bool, m = (if b = true then 1 else 0) ∧ Q (.bl b) H) ∨ ∃ z os u, k = .one (.ch z) ∧ F.cs.lookup z = some os ∧ ((m : Int), u) ∈ os ∧ Sh 0 (.str z) ∧ ∀ H', Same H H' → Q (.str u) H')
def SG : Str := " !\"#$ &'()*+,-./0123456789:;<=>?@ABCDEFGHIJKLMNOPQRSTUVWXYZ[\\]^_`abcdefghijklmnopqrstuvwxyz{|}~"
structure Wg (mg : Str → Option Value) : Prop where
  signs : mg "SIGNS" = some (.str SG (tkOf mg "SIGNS"))
theorem sg_all : ((List.range 95).all fun i => decide (i = 5) || (SG.cps.toList[i]? == some (i + 32))) = true := by decide +kernel
theorem sg_len : SG.length = 95 := by decide +kernel
theorem sg_at {c : Nat} (h : sgn c) : atI SG.cps.toList ((c : Int) - 32) = some c := by
  obtain ⟨h1, h2, h3⟩ := h
  have z := List.all_eq_true.mp sg_all (c - 32) (List.mem_range.mpr (by omega))
  rw [decide_eq_false (by omega), Bool.false_or, beq_iff_eq, Nat.sub_add_cancel h1] at z
  have hl := (List.getElem?_eq_some_iff.mp z).1
  obtain ⟨v, e, e2, _⟩ := atI_in (xs := SG.cps.toList) (i := (c : Int) - 32) (by omega) (by omega)
  have e3 : ((c : Int) - 32).toNat = c - 32 := by omega
  rw [e3, z] at e2
  rw [e]
  exact e2.symm
theorem join_back (z : Str) : Txt.join "" (z.cps.toList.map one) = z := by
  have e : (Txt.join "" (z.cps.toList.map one)).cps.toList = z.cps.toList := by
    show (Builtin.Str.glued "" (z.cps.toList.map one)).cps.toList = _
    rw [StrLaws.glued_eq_join]
    exact tl_ones z.cps.toList _ rfl
  have e2 := Array.toList_inj.mp e
  cases h : Txt.join "" (z.cps.toList.map one)
  cases z
  rw [h] at e2
  exact congrArg Str.mk e2
def val (ds : List Int) : Int := ds.foldl (fun a d => a * 256 + d) 0
theorem val_snoc (ds : List Int) (d : Int) : val (ds ++ [d]) = val ds * 256 + d := by unfold val; rw [List.foldl_append]; rfl
theorem val_dg : ∀ (f n : Nat), n < 256 ^ f → val (dg f n) = n
  | 0, n, h => by
    rw [Nat.pow_zero] at h
    have : n = 0 := by omega
    subst this
    rfl
  | f + 1, n, h => by
    by_cases h0 : n = 0
    · subst h0
      rw [dg_zero]
      rfl
    · rw [dg_pos (by omega), val_snoc, val_dg f (n / 256) (by rw [Nat.pow_succ] at h; exact Nat.div_lt_of_lt_mul (by rw [Nat.mul_comm]; exact h))]
      omega
theorem dg_first : ∀ (f n : Nat), n < 256 ^ f → ∀ x, (dg f n).head? = some x → x ≠ 0
  | 0, _, _, _, e => by cases e
  | f + 1, n, h, x, e => by
    by_cases h0 : n = 0
    · subst h0
      rw [dg_zero] at e
      cases e
    · rw [dg_pos (by omega)] at e
      have h' : n / 256 < 256 ^ f := by rw [Nat.pow_succ] at h; exact Nat.div_lt_of_lt_mul (by rw [Nat.mul_comm]; exact h)
      cases hd : dg f (n / 256) with
      | nil =>
        rw [hd] at e
        cases e
        by_cases h1 : n / 256 = 0
        · omega
        · exfalso
          have z := val_dg f (n / 256) h'
          rw [hd] at z
          have z2 : (0 : Int) = ((n / 256 : Nat) : Int) := z
          omega
      | cons y r =>
        rw [hd] at e
        exact dg_first f (n / 256) h' x (by rw [hd]; exact e)
theorem dp_ints {K : PySem.W.Frag} {H : Hp} : ∀ xs : List Int, DpAll K H (xs.map V.int) (xs.map .int)
  | [] => .nil
  | x :: xs => .cons (.int x) (dp_ints xs)
theorem Sh.kd {k : Kn} (h : ∀ z, k.nm = some z → Sh 0 (.str z)) : Sh 2 k.d := by
  have plain : ∀ z : Str, Sh 0 (.str z) → ∀ w : Str, Sh 0 (.str w) → Sh 1 (.tuple [.str w, .str z]) := fun z hz w hw => Sh.tup fun d hd => by
    rcases List.mem_cons.mp hd with e | hd
    · rw [e]; exact hw
    · rw [List.mem_singleton.mp hd]; exact hz
  have one : ∀ b : Kb, (∀ z, b.nm = some z → Sh 0 (.str z)) → Sh 1 b.d := fun b hb => by
    cases b with
    | whole => exact ⟨by decide +kernel, Nat.zero_le _⟩
    | truth => exact ⟨by decide +kernel, Nat.zero_le _⟩
    | text => exact ⟨by decide +kernel, Nat.zero_le _⟩
    | rc z => exact plain z (hb z rfl) "record" ⟨by decide +kernel, Nat.le_refl _⟩
    | ch z => exact plain z (hb z rfl) "choice" ⟨by decide +kernel, Nat.le_refl _⟩
  cases k with
  | one b => exact (one b h).mono (by decide)
  | lst b =>
    refine Sh.tup fun d hd => ?_
    rcases List.mem_cons.mp hd with e | hd
    · rw [e]; exact ⟨by decide +kernel, Nat.zero_le _⟩
    · rw [List.mem_singleton.mp hd]; exact one b h
theorem nodup_fst {α β : Type} : ∀ {l : List (α × β)}, (l.map Prod.fst).Nodup → ∀ {p q : α × β}, p ∈ l → q ∈ l → p.1 = q.1 → p = q
  | [], _, _, _, h, _, _ => by cases h
  | x :: l, nd, p, q, hp, hq, e => by
    rw [List.map_cons, List.nodup_cons] at nd
    rcases List.mem_cons.mp hp with e1 | hp2
    · rcases List.mem_cons.mp hq with e2 | hq2
      · rw [e1, e2]
      · exact absurd (List.mem_map.mpr ⟨q, hq2, by rw [← e, e1]⟩) nd.1
    · rcases List.mem_cons.mp hq with e2 | hq2
      · exact absurd (List.mem_map.mpr ⟨p, hp2, by rw [e, e2]⟩) nd.1
      · exact nodup_fst nd.2 hp2 hq2 e
theorem dg_len : ∀ f n, (dg f n).length ≤ f
  | 0, _ => Nat.le_refl _
  | f + 1, n => by
    show (if n = 0 then [] else dg f (n / 256) ++ [((n % 256 : Nat) : Int)]).length ≤ _
    split
    · exact Nat.zero_le _
    · rw [List.length_append]
      exact Nat.succ_le_succ (dg_len f _)
theorem cut1 (ds : List Int) : cutV (ds.map V.int) none (some 1) = (ds.take 1).map V.int := by
  have b := HT.sIx_nat (ds.map V.int).length (ds.map V.int).length 1
  unfold cutV
  rw [HT.sIx_none, show (some (1 : Int)) = some ((1 : Nat) : Int) from rfl, b, List.length_map, List.drop_zero, Nat.sub_zero, List.map_take]
  cases ds with
  | nil => rfl
  | cons x r => rw [List.length_cons, Nat.min_eq_left (by omega)]
theorem whole1 {ds : List Int} (h : HT.sIx (ds.map V.int).length (ds.map V.int).length (some 1) = (ds.map V.int).length) : ds.take 1 = ds := by
  have b := HT.sIx_nat (ds.map V.int).length (ds.map V.int).length 1
  rw [show (some (1 : Int)) = some ((1 : Nat) : Int) from rfl, b, List.length_map] at h
  exact List.take_of_length_le (by omega)
section
variable {P : Program} {w : World} {K : PySem.W.Frag} {mg : Str → Option Value} {base : Heap}
end
end Fh

set_option Elab.async false
set_option linter.all false
set_option maxRecDepth 100000
set_option maxHeartbeats 4000000
namespace Fh
open PySem L2 PyProof.Rows
abbrev nRcn : List Str := ["face", "kind", "content", "depth", "word"]
abbrev nRre : List Str := ["face", "record", "content", "depth", "parts", "value", "number", "name", "kind", "need", "mark", "inner"]
abbrev nRli : List Str := ["face", "kind", "content", "depth", "values", "at", "inner"]
abbrev nRea : List Str := ["face", "record", "body"]
/-- what is new in a heap -/
def Nw (H H' : Hp) : Hp := fun a => match H a with
  | some _ => none
  | none => H' a
def er (H : Hp) (d : Addr) : Hp := fun a => if a = d then none else H a
theorem nw_at {H H' : Hp} {a : Addr} {o : HO} (h : H a = none) (e : H' a = some o) : Nw H H' a = some o := by unfold Nw; rw [h]; exact e
theorem nw_inv {H H' : Hp} {a : Addr} {o : HO} (e : Nw H H' a = some o) : H a = none ∧ H' a = some o := by
  unfold Nw at e
  cases h : H a with
  | none => rw [h] at e; exact ⟨rfl, e⟩
  | some _ => rw [h] at e; cases e
theorem nw_same {H H' : Hp} : Same (Nw H H') H' := fun a o e => (nw_inv e).2
theorem er_in {H : Hp} {d a : Addr} {o : HO} (e : er H d a = some o) : H a = some o := by
  unfold er at e
  split at e
  · cases e
  · exact e
theorem er_ne {H : Hp} {d a : Addr} {o : HO} (e : er H d a = some o) : a ≠ d := fun z => by
  unfold er at e
  rw [if_pos z] at e
  cases e
theorem er_at {H : Hp} {d a : Addr} {o : HO} (n : a ≠ d) (e : H a = some o) : er H d a = some o := by unfold er; rw [if_neg n]; exact e
theorem er_step {H H3 H4 H5 : Hp} {d : Addr} (hd : H d = none) (S4 : Same H3 H4) (up5 : ∀ {b : Addr} {o : HO}, b ≠ d → H4 b = some o → H5 b = some o) : Same (er (Nw H H3) d) (er (Nw H H5) d) := fun a o e => by
  have n := er_ne e
  obtain ⟨h1, h2⟩ := nw_inv (er_in e)
  exact er_at n (nw_at h1 (up5 n (S4 _ _ h2)))
theorem er_new {H H3 H4 H5 : Hp} {d : Addr} {u : HO} (S03 : Same H H3) (hv : H3 d = some u) (up5 : ∀ {b : Addr} {o : HO}, b ≠ d → H4 b = some o → H5 b = some o) : Same (Nw H3 H4) (er (Nw H H5) d) := fun a o e => by
  obtain ⟨h1, h2⟩ := nw_inv e
  have n : a ≠ d := fun z => by rw [z, hv] at h1; cases h1
  exact er_at n (nw_at (Same.free S03 h1) (up5 n h2))
def spRre (C : Addr) (n : Nat) : Sp := fun vs H Q _ => ∃ (a c : Addr) (z : Str) (dp : Int) (u : Vl) (F : Fc), vs = [.ref a, .str z, .ref c, .int dp] ∧ FaceF C H a F ∧ H c = some (.tup ((enc F n (.one (.rc z)) u).map V.int)) ∧ Ok F n (.one (.rc z)) u ∧ (enc F n (.one (.rc z)) u).length ≤ 10000 ∧ dp + n ≤ 81 ∧
  ∀ (x : V) (H' : Hp), Same H H' → VD (Nw H H') x (nrm F n (.one (.rc z)) u) → Q x H'
def spRli (C : Addr) (n : Nat) : Sp := fun vs H Q _ => ∃ (a c : Addr) (v : V) (b : Kb) (dp : Int) (u : Vl) (F : Fc), vs = [.ref a, v, .ref c, .int dp] ∧ FaceF C H a F ∧ Tp H v b.d ∧ H c = some (.tup ((enc F n (.lst b) u).map V.int)) ∧ Ok F n (.lst b) u ∧ (enc F n (.lst b) u).length ≤ 10000 ∧ dp + n ≤ 81 ∧
  ∀ (x : V) (H' : Hp), Same H H' → VD (Nw H H') x (nrm F n (.lst b) u) → Q x H'
def spRcn (C : Addr) (n : Nat) : Sp := fun vs H Q _ => ∃ (a c : Addr) (v : V) (k : Kn) (dp : Int) (u : Vl) (F : Fc), vs = [.ref a, v, .ref c, .int dp] ∧ FaceF C H a F ∧ Tp H v k.d ∧ H c = some (.tup ((enc F n k u).map V.int)) ∧ Ok F n k u ∧ (enc F n k u).length ≤ 10000 ∧ dp + n ≤ 80 ∧
  ∀ (x : V) (H' : Hp), Same H H' → VD (Nw H H') x (nrm F n k u) → Q x H'
def spRea (C : Addr) (n : Nat) : Sp := fun vs H Q _ => ∃ (a c : Addr) (z : Str) (u : Vl) (F : Fc), vs = [.ref a, .str z, .ref c] ∧ FaceF C H a F ∧ H c = some (.tup ((enc F n (.one (.rc z)) u).map V.int)) ∧ Ok F n (.one (.rc z)) u ∧ (enc F n (.one (.rc z)) u).length ≤ 10000 ∧ (∀ x ∈ enc F n (.one (.rc z)) u, 0 ≤ x ∧ x < 256) ∧ n ≤ 80 ∧
  ∀ (x : V) (H' : Hp), Same H H' → VD (Nw H H') x (nrm F n (.one (.rc z)) u) → Q x H'
def psOf (F : Fc) (n : Nat) (fs : List (Str × Vl)) (fl : List Fl) : List Pc := fl.filterMap fun g => (fs.lookup g.nam).map fun v => (g.num, g.kd.mark, enc F n g.kd v)
theorem ps_flat (F : Fc) (n : Nat) (fs : List (Str × Vl)) : ∀ fl : List Fl, ((psOf F n fs fl).map pcs).flatten = (fl.map (fpiece (enc F n) fs)).flatten
  | [] => rfl
  | g :: fl => by
    unfold psOf
    rw [List.filterMap_cons]
    have ih := ps_flat F n fs fl
    unfold psOf at ih
    cases h : fs.lookup g.nam with
    | none =>
      show ((fl.filterMap _).map pcs).flatten = _
      rw [ih, List.map_cons, List.flatten_cons]
      have e : fpiece (enc F n) fs g = [] := by unfold fpiece; rw [h]
      rw [e, List.nil_append]
    | some v =>
      show (((g.num, g.kd.mark, enc F n g.kd v) :: fl.filterMap _).map pcs).flatten = _
      rw [List.map_cons, List.flatten_cons, ih, List.map_cons, List.flatten_cons]
      have e : fpiece (enc F n) fs g = pcs (g.num, g.kd.mark, enc F n g.kd v) := by unfold fpiece; rw [h]; rfl
      rw [e]
theorem mark_rg (k : Kn) : 1 ≤ k.mark ∧ k.mark ≤ 4 := by
  cases k with
  | lst b => exact ⟨(by show (1 : Int) ≤ 3; decide), (by show (3 : Int) ≤ 4; decide)⟩
  | one b =>
    cases b with
    | whole => exact ⟨by decide, by decide⟩
    | truth => exact ⟨by decide, by decide⟩
    | text => exact ⟨by decide, by decide⟩
    | rc z => exact ⟨(by show (1 : Int) ≤ 4; decide), (by show (4 : Int) ≤ 4; decide)⟩
    | ch z => exact ⟨(by show (1 : Int) ≤ 1; decide), (by show (1 : Int) ≤ 4; decide)⟩
theorem ps_ok {F : Fc} {n : Nat} {fs : List (Str × Vl)} {fl : List Fl} (h1 : fl.Pairwise fun f g => f.num < g.num) (h2 : ∀ f ∈ fl, 1 ≤ f.num ∧ f.num ≤ 30) : PcsOk (psOf F n fs fl) := by
  have of : ∀ p ∈ psOf F n fs fl, ∃ g ∈ fl, p.1 = g.num ∧ p.2.1 = g.kd.mark := fun p hp => by
    obtain ⟨g, hg, e⟩ := List.mem_filterMap.mp hp
    cases hl : fs.lookup g.nam with
    | none => rw [hl] at e; cases e
    | some v => rw [hl] at e; cases e; exact ⟨g, hg, rfl, rfl⟩
  refine ⟨?_, fun p hp => ?_, fun p hp => ?_⟩
  · unfold psOf
    refine List.Pairwise.filterMap _ (fun a b hab p hp q hq => ?_) h1
    cases ha : fs.lookup a.nam with
    | none => rw [ha] at hp; cases hp
    | some v =>
      rw [ha] at hp
      cases hb : fs.lookup b.nam with
      | none => rw [hb] at hq; cases hq
      | some w => rw [hb] at hq; cases hp; cases hq; exact hab
  · obtain ⟨g, hg, e, _⟩ := of p hp
    rw [e]
    exact h2 g hg
  · obtain ⟨g, hg, _, e⟩ := of p hp
    rw [e]
    exact mark_rg g.kd
theorem num_inj : ∀ {fl : List Fl}, fl.Pairwise (fun f g => f.num < g.num) → ∀ {f g : Fl}, f ∈ fl → g ∈ fl → f.num = g.num → f = g
  | [], _, _, _, h, _, _ => by cases h
  | x :: fl, pw, f, g, hf, hg, e => by
    obtain ⟨h1, h2⟩ := List.pairwise_cons.mp pw
    rcases List.mem_cons.mp hf with e1 | hf2
    · rcases List.mem_cons.mp hg with e2 | hg2
      · rw [e1, e2]
      · have := h1 g hg2
        rw [e1] at e
        omega
    · rcases List.mem_cons.mp hg with e2 | hg2
      · have := h1 f hf2
        rw [e2] at e
        omega
      · exact num_inj h2 hf2 hg2 e
def pres (F : Fc) (n : Nat) (fs : List (Str × Vl)) (fl : List Fl) : List (Str × Vl) := fl.filterMap fun g => (fs.lookup g.nam).map fun w => (g.nam, nrm F n g.kd w)
theorem pres_sub {F : Fc} {n : Nat} {fs : List (Str × Vl)} {fl : List Fl} {z : Str} (h : z ∈ (pres F n fs fl).map Prod.fst) : z ∈ fl.map (·.nam) := by
  obtain ⟨p, hp, rfl⟩ := List.mem_map.mp h
  obtain ⟨g, hg, e⟩ := List.mem_filterMap.mp hp
  cases hl : fs.lookup g.nam with
  | none => rw [hl] at e; cases e
  | some v => rw [hl] at e; cases e; exact List.mem_map.mpr ⟨g, hg, rfl⟩
theorem pres_len {F : Fc} {n : Nat} {fs : List (Str × Vl)} (fl : List Fl) : (pres F n fs fl).length ≤ fl.length := by unfold pres; exact List.length_filterMap_le _ _
section
variable {P : Program} {w : World} {K : PySem.W.Frag} {mg : Str → Option Value} {base : Heap}
end
end Fh

set_option Elab.async false
set_option linter.all false
set_option maxRecDepth 100000
set_option maxHeartbeats 4000000
namespace Fh
open PySem L2 PyProof.Rows
abbrev nItx : List Str := ["thing", "sign"]
abbrev nInu : List Str := ["face", "kind", "thing", "number", "word"]
abbrev nHas : List Str := ["fields", "thing", "number", "name", "kind", "need", "field"]
abbrev nRsz : List Str := ["face", "record", "thing", "depth", "room", "fields", "total", "number", "name", "kind", "need", "size"]
abbrev nLsz : List Str := ["face", "kind", "thing", "depth", "room", "total", "part", "size"]
abbrev nSin : List Str := ["face", "kind", "thing", "depth", "room", "word"]
abbrev nIva : List Str := ["face", "record", "thing"]
def spItx : Sp := fun vs H Q _ => ∃ (z : Str), vs = [.str z] ∧ z.length ≤ 20 ∧ (∀ c ∈ z.cps.toList, sgn c) ∧ ∀ H', Same H H' → Q (.bl true) H'
def spInu (C : Addr) : Sp := fun vs H Q _ => ∃ (a : Addr) (v x : V) (k : Kn) (F : Fc), vs = [.ref a, v, x] ∧ FaceF C H a F ∧ Tp H v k.d ∧
  ((k = .one .whole ∧ ∃ i, x = .int i ∧ 0 ≤ i ∧ i ≤ 1000000000) ∨ (k = .one .truth ∧ ∃ b, x = .bl b) ∨ ∃ z os n u, k = .one (.ch z) ∧ F.cs.lookup z = some os ∧ (n, u) ∈ os ∧ x = .str u) ∧ ∀ H', Same H H' → Q (.bl true) H'
def spHas : Sp := fun vs H Q _ => ∃ (v : V) (d : Addr) (fl : List Fl) (kvs : List (Key × V)) (fs : List (Str × Vl)), vs = [v, .ref d] ∧ Tp H v (fieldsD fl) ∧ fl.length ≤ 10 ∧ (fl.map (·.nam)).Nodup ∧ H d = some (.dK kvs) ∧ kvs.map Prod.fst = fs.map (fun f => Sum.inr f.1) ∧ VDs H (kvs.map Prod.snd) (fs.map Prod.snd) ∧
  (fs.map Prod.fst).Nodup ∧ (∀ f ∈ fs, ∃ g ∈ fl, g.nam = f.1) ∧ (∀ g ∈ fl, g.must = true → ∃ w, fs.lookup g.nam = some w) ∧ ∀ H', Same H H' → Q (.bl true) H'
def spSin (C : Addr) (n : Nat) : Sp := fun vs H Q _ => ∃ (a : Addr) (v x : V) (k : Kn) (u : Vl) (F : Fc) (dp room : Int), vs = [.ref a, v, x, .int dp, .int room] ∧ FaceF C H a F ∧ Tp H v k.d ∧ VD H x u ∧ Ok F n k u ∧ dp + n ≤ 80 ∧ (((enc F n k u).length : Nat) : Int) ≤ room ∧ room ≤ 10000 ∧ ∀ H', Same H H' → Q (.int (enc F n k u).length) H'
def spRsz (C : Addr) (n : Nat) : Sp := fun vs H Q _ => ∃ (a : Addr) (z : Str) (x : V) (u : Vl) (F : Fc) (dp room : Int), vs = [.ref a, .str z, x, .int dp, .int room] ∧ FaceF C H a F ∧ VD H x u ∧ Ok F n (.one (.rc z)) u ∧ dp + n ≤ 81 ∧ (((enc F n (.one (.rc z)) u).length : Nat) : Int) ≤ room ∧ room ≤ 10000 ∧ ∀ H', Same H H' → Q (.int (enc F n (.one (.rc z)) u).length) H'
def spLsz (C : Addr) (n : Nat) : Sp := fun vs H Q _ => ∃ (a : Addr) (v x : V) (b : Kb) (u : Vl) (F : Fc) (dp room : Int), vs = [.ref a, v, x, .int dp, .int room] ∧ FaceF C H a F ∧ Tp H v b.d ∧ VD H x u ∧ Ok F n (.lst b) u ∧ dp + n ≤ 81 ∧ (((enc F n (.lst b) u).length : Nat) : Int) ≤ room ∧ room ≤ 10000 ∧ ∀ H', Same H H' → Q (.int (enc F n (.lst b) u).length) H'
def spIva (C : Addr) (n : Nat) : Sp := fun vs H Q _ => ∃ (a : Addr) (z : Str) (x : V) (u : Vl) (F : Fc), vs = [.ref a, .str z, x] ∧ FaceF C H a F ∧ VD H x u ∧ Ok F n (.one (.rc z)) u ∧ n ≤ 80 ∧ (enc F n (.one (.rc z)) u).length ≤ 10000 ∧ ∀ H', Same H H' → Q (.bl true) H'
theorem told_n (n : Nat) : ((told n).length : Int) = toldN n := by
  unfold told toldN
  by_cases h : n < 200
  · rw [if_pos h, if_pos (by omega)]; rfl
  · rw [if_neg h, if_neg (by omega)]; rfl
theorem piece_n (c : List Int) : ((piece c).length : Int) = toldN c.length + c.length := by
  unfold piece
  rw [List.length_append]
  have := told_n c.length
  omega
theorem same_count {fl : List Fl} {fs : List (Str × Vl)} (nf : (fl.map (·.nam)).Nodup) (nd : (fs.map Prod.fst).Nodup) (inn : ∀ f ∈ fs, ∃ g ∈ fl, g.nam = f.1) : (fl.filter fun g => (fs.lookup g.nam).isSome).length = fs.length := by
  have p : ((fl.map (·.nam)).filter fun z => (fs.lookup z).isSome).Perm (fs.map Prod.fst) := by
    refine (List.perm_ext_iff_of_nodup (List.Pairwise.filter _ nf) nd).mpr fun z => ?_
    rw [List.mem_filter]
    constructor
    · rintro ⟨_, h⟩
      obtain ⟨v, hv⟩ := Option.isSome_iff_exists.mp h
      exact List.mem_map.mpr ⟨(z, v), look_mem hv, rfl⟩
    · intro h
      obtain ⟨v, hv⟩ := mem_look h
      obtain ⟨f, hf, rfl⟩ := List.mem_map.mp h
      obtain ⟨g, hg, e⟩ := inn f hf
      exact ⟨List.mem_map.mpr ⟨g, hg, e⟩, by rw [hv]; rfl⟩
  have l := p.length_eq
  rw [List.filter_map, List.length_map, List.length_map] at l
  exact l
section
variable {P : Program} {w : World} {K : PySem.W.Frag} {mg : Str → Option Value} {base : Heap}
end
end Fh

set_option Elab.async false
set_option linter.all false
set_option maxRecDepth 100000
set_option maxHeartbeats 4000000
namespace Fh
open PySem L2 PyProof.Rows
section
variable {P : Program} {w : World} {K : PySem.W.Frag} {mg : Str → Option Value} {base : Heap}
end
end Fh

set_option Elab.async false
set_option linter.all false
set_option maxRecDepth 100000
set_option maxHeartbeats 4000000
namespace Fh
open PySem L2 PyProof.Rows
/-! ### least values -/
def lvR (R : Kn → Vl) (fl : List Fl) : List (Str × Vl) := (fl.filter (·.must)).map fun g => (g.nam, R g.kd)
def lvS (F : Fc) (R : Kn → Vl) : Kn → Vl
  | .one .whole => .num 0
  | .one .truth => .tru false
  | .one .text => .txt ""
  | .one (.ch c) => .txt (((opts F c).head?.map Prod.snd).getD "")
  | .one (.rc z) => .rcd (lvR R (flds F z))
  | .lst _ => .lst []
def lv (F : Fc) : Nat → Kn → Vl
  | 0 => fun _ => .num 0
  | n + 1 => lvS F (lv F n)
def WfS (F : Fc) (R : Kn → Prop) : Kn → Prop
  | .one (.ch c) => ∃ o os, F.cs.lookup c = some (o :: os)
  | .one (.rc z) => ∃ fl, F.rs.lookup z = some fl ∧ ∀ g ∈ fl, g.must = true → R g.kd
  | .lst b => nobB F.c F.r b = false
  | _ => True
def Wfr (F : Fc) : Nat → Kn → Prop
  | 0 => fun _ => False
  | n + 1 => WfS F (Wfr F n)
theorem wfS_up {F : Fc} {R R' : Kn → Prop} (h : ∀ k, R k → R' k) {k : Kn} (q : WfS F R k) : WfS F R' k := by
  cases k with
  | lst b => exact q
  | one b =>
    cases b with
    | whole => exact True.intro
    | truth => exact True.intro
    | text => exact True.intro
    | ch c => exact q
    | rc z =>
      obtain ⟨fl, e, q⟩ := q
      exact ⟨fl, e, fun g hg m => h _ (q g hg m)⟩
theorem wf_up {F : Fc} : ∀ {n : Nat} {k : Kn}, Wfr F n k → Wfr F (n + 1) k
  | 0, _, h => h.elim
  | n + 1, _, h => wfS_up (fun _ q => wf_up q) h
theorem wf_le {F : Fc} {n m : Nat} {k : Kn} (h : Wfr F n k) (l : n ≤ m) : Wfr F m k := by
  induction l with
  | refl => exact h
  | step _ ih => exact wf_up ih
theorem lvR_congr {R R' : Kn → Vl} {fl : List Fl} (h : ∀ g ∈ fl, g.must = true → R g.kd = R' g.kd) : lvR R fl = lvR R' fl := by
  unfold lvR
  refine List.map_congr_left fun g hg => ?_
  obtain ⟨a, b⟩ := List.mem_filter.mp hg
  rw [h g a b]
theorem lv_up {F : Fc} : ∀ {n : Nat} {k : Kn}, Wfr F n k → lv F (n + 1) k = lv F n k
  | 0, _, h => h.elim
  | n + 1, k, h => by
    cases k with
    | lst b => rfl
    | one b =>
      cases b with
      | whole => rfl
      | truth => rfl
      | text => rfl
      | ch c => rfl
      | rc z =>
        obtain ⟨fl, e, q⟩ := h
        show Vl.rcd (lvR (lv F (n + 1)) (flds F z)) = Vl.rcd (lvR (lv F n) (flds F z))
        unfold flds
        rw [e]
        exact congrArg Vl.rcd (lvR_congr fun g hg m => lv_up (q g hg m))
theorem lv_le {F : Fc} {n m : Nat} {k : Kn} (h : Wfr F n k) (l : n ≤ m) : lv F m k = lv F n k := by
  induction l with
  | refl => rfl
  | step l ih => rw [lv_up (wf_le h l), ih]
theorem lk_out {R : Kn → Vl} : ∀ {fl : List Fl} {z : Str}, z ∉ fl.map (·.nam) → (lvR R fl).lookup z = none
  | [], _, _ => rfl
  | h :: fl, z, q => by
    have q1 : z ≠ h.nam := fun e => q (by rw [e]; exact List.mem_cons_self)
    have ih := lk_out (R := R) (fl := fl) (z := z) fun m => q (List.mem_cons_of_mem _ m)
    unfold lvR at ih ⊢
    rw [List.filter_cons]
    split
    · rw [List.map_cons, List.lookup_cons, beq_eq_false_iff_ne.mpr q1]
      exact ih
    · exact ih
theorem lk_in {R : Kn → Vl} : ∀ {fl : List Fl} {g : Fl}, (fl.map (·.nam)).Nodup → g ∈ fl → (lvR R fl).lookup g.nam = if g.must = true then some (R g.kd) else none
  | [], _, _, h => by cases h
  | h :: fl, g, nd, m => by
    rw [List.map_cons, List.nodup_cons] at nd
    rcases List.mem_cons.mp m with rfl | m
    · have o := lk_out (R := R) nd.1
      unfold lvR at o ⊢
      rw [List.filter_cons]
      by_cases c : g.must = true
      · rw [if_pos c, if_pos c, List.map_cons, List.lookup_cons, beq_self_eq_true]
      · rw [if_neg c, if_neg c]
        exact o
    · have ih := lk_in (R := R) nd.2 m
      have ne : g.nam ≠ h.nam := fun e => nd.1 (by rw [← e]; exact List.mem_map.mpr ⟨g, m, rfl⟩)
      unfold lvR at ih ⊢
      rw [List.filter_cons]
      split
      · rw [List.map_cons, List.lookup_cons, beq_eq_false_iff_ne.mpr ne]
        exact ih
      · exact ih
theorem lv_keys {R : Kn → Vl} (fl : List Fl) : (lvR R fl).map Prod.fst = (fl.filter (·.must)).map (·.nam) := by
  unfold lvR
  rw [List.map_map]
  rfl
theorem ok_lv {F : Fc} (fo : FcOk F) : ∀ {n : Nat} {k : Kn}, Wfr F n k → Ok F n k (lv F n k)
  | 0, _, h => h.elim
  | n + 1, k, h => by
    cases k with
    | lst b => exact ⟨[], rfl, h, by decide, fun x hx => by cases hx⟩
    | one b =>
      cases b with
      | whole => exact ⟨0, rfl, by decide, by decide⟩
      | truth => exact ⟨false, rfl⟩
      | text => exact ⟨"", rfl, by decide +kernel, fun c hc => absurd hc (by simp [show ("" : Str).cps.toList = [] from rfl])⟩
      | ch c =>
        obtain ⟨o, os, e⟩ := h
        refine ⟨o.2, o :: os, o.1, ?_, e, List.mem_cons_self⟩
        show Vl.txt (((opts F c).head?.map Prod.snd).getD "") = _
        unfold opts
        rw [e]
        rfl
      | rc z =>
        obtain ⟨fl, e, q⟩ := h
        have fz : flds F z = fl := by unfold flds; rw [e]; rfl
        have nf : (fl.map (·.nam)).Nodup := fo.nf _ (look_mem e)
        refine ⟨fl, lvR (lv F n) fl, ?_, e, ?_, ?_, ?_, ?_⟩
        · show Vl.rcd (lvR (lv F n) (flds F z)) = _
          rw [fz]
        · rw [lv_keys]
          exact nf.sublist (List.Sublist.map _ List.filter_sublist)
        · intro f hf
          obtain ⟨g, hg, rfl⟩ := List.mem_map.mp hf
          exact ⟨g, (List.mem_filter.mp hg).1, rfl⟩
        · intro g hg w hw
          rw [lk_in nf hg] at hw
          split at hw
          · rename_i m
            cases hw
            exact ok_lv fo (q g hg m)
          · cases hw
        · intro g hg m
          exact ⟨_, by rw [lk_in nf hg, if_pos m]⟩
theorem nrm_lv {F : Fc} (fo : FcOk F) : ∀ {n : Nat} {k : Kn}, Wfr F n k → nrm F n k (lv F n k) = lv F n k
  | 0, _, h => h.elim
  | n + 1, k, h => by
    cases k with
    | lst b => rfl
    | one b =>
      cases b with
      | whole => rfl
      | truth => rfl
      | text => rfl
      | ch c => rfl
      | rc z =>
        obtain ⟨fl, e, q⟩ := h
        have fz : flds F z = fl := by unfold flds; rw [e]; rfl
        have nf : (fl.map (·.nam)).Nodup := fo.nf _ (look_mem e)
        show Vl.rcd ((flds F z).filterMap fun g => ((lvR (lv F n) (flds F z)).lookup g.nam).map fun w => (g.nam, nrm F n g.kd w)) = Vl.rcd (lvR (lv F n) (flds F z))
        rw [fz]
        refine congrArg Vl.rcd ?_
        have a : ∀ gl : List Fl, (∀ g ∈ gl, g ∈ fl) → (gl.filterMap fun g => ((lvR (lv F n) fl).lookup g.nam).map fun w => (g.nam, nrm F n g.kd w)) = lvR (lv F n) gl := by
          intro gl
          induction gl with
          | nil => intro _; rfl
          | cons g gl ih =>
            intro hs
            have hg := hs g List.mem_cons_self
            have ih := ih fun x hx => hs x (List.mem_cons_of_mem _ hx)
            rw [List.filterMap_cons, lk_in nf hg, ih]
            unfold lvR
            rw [List.filter_cons]
            by_cases c : g.must = true
            · rw [if_pos c, if_pos c]
              show (g.nam, nrm F n g.kd (lv F n g.kd)) :: _ = _
              rw [nrm_lv fo (q g hg c)]
              rfl
            · rw [if_neg c, if_neg c]
              rfl
        exact a fl fun g hg => hg
/-! ### how many numbers tell a least value -/
def lsz (F : Fc) (n : Nat) (k : Kn) : Int := ((enc F n k (lv F n k)).length : Nat)
theorem enc_up {F : Fc} : ∀ {n : Nat} {k : Kn} {v : Vl}, Ok F n k v → enc F (n + 1) k v = enc F n k v
  | 0, _, _, h => h.elim
  | n + 1, k, v, h => by
    cases k with
    | lst b =>
      obtain ⟨xs, rfl, _, _, q⟩ := h
      show b.mark :: (xs.map fun x => piece (enc F (n + 1) (.one b) x)).flatten = b.mark :: (xs.map fun x => piece (enc F n (.one b) x)).flatten
      refine congrArg (fun l => b.mark :: List.flatten l) (List.map_congr_left fun x hx => ?_)
      rw [enc_up (q x hx)]
    | one b =>
      cases b with
      | whole => rfl
      | truth => rfl
      | text => rfl
      | ch c => rfl
      | rc z =>
        obtain ⟨fl, fs, rfl, e, _, _, q, _⟩ := h
        have fz : flds F z = fl := by unfold flds; rw [e]; rfl
        show ((flds F z).map (fpiece (enc F (n + 1)) fs)).flatten = ((flds F z).map (fpiece (enc F n) fs)).flatten
        rw [fz]
        refine congrArg List.flatten (List.map_congr_left fun g hg => ?_)
        unfold fpiece
        cases hw : fs.lookup g.nam with
        | none => rfl
        | some w =>
          show g.num :: g.kd.mark :: piece (enc F (n + 1) g.kd w) = _
          rw [enc_up (q g hg w hw)]
theorem lsz_up {F : Fc} (fo : FcOk F) {n : Nat} {k : Kn} (h : Wfr F n k) : lsz F (n + 1) k = lsz F n k := by
  unfold lsz
  rw [lv_up h, enc_up (ok_lv fo h)]
theorem lsz_le {F : Fc} (fo : FcOk F) {n m : Nat} {k : Kn} (h : Wfr F n k) (l : n ≤ m) : lsz F m k = lsz F n k := by
  induction l with
  | refl => rfl
  | step l ih => rw [lsz_up fo (wf_le h l), ih]
theorem lsz_rc {F : Fc} (fo : FcOk F) {n : Nat} {z : Str} {fl : List Fl} (e : F.rs.lookup z = some fl) : lsz F (n + 1) (.one (.rc z)) = ((mustKs fl).map fun k => fsz (lsz F n k)).sum := by
  have fz : flds F z = fl := by unfold flds; rw [e]; rfl
  have nf : (fl.map (·.nam)).Nodup := fo.nf _ (look_mem e)
  show (((((flds F z).map (fpiece (enc F n) (lvR (lv F n) (flds F z)))).flatten).length : Nat) : Int) = _
  rw [fz]
  have a : ∀ gl : List Fl, (∀ g ∈ gl, g ∈ fl) → ((((gl.map (fpiece (enc F n) (lvR (lv F n) fl))).flatten).length : Nat) : Int) = ((mustKs gl).map fun k => fsz (lsz F n k)).sum := by
    intro gl
    induction gl with
    | nil => intro _; rfl
    | cons g gl ih =>
      intro hs
      have hg := hs g List.mem_cons_self
      have ih := ih fun x hx => hs x (List.mem_cons_of_mem _ hx)
      rw [List.map_cons, List.flatten_cons, List.length_append, Int.natCast_add, ih]
      have m1 : mustKs (g :: gl) = (if g.must = true then [g.kd] else []) ++ mustKs gl := by
        unfold mustKs
        rw [List.filter_cons]
        split <;> rfl
      rw [m1, List.map_append, List.sum_append]
      congr 1
      unfold fpiece
      rw [lk_in nf hg]
      by_cases c : g.must = true
      · rw [if_pos c, if_pos c]
        show (((g.num :: g.kd.mark :: piece (enc F n g.kd (lv F n g.kd))).length : Nat) : Int) = [fsz (lsz F n g.kd)].sum
        have p := piece_n (enc F n g.kd (lv F n g.kd))
        rw [List.length_cons, List.length_cons, List.sum_cons, List.sum_nil]
        unfold fsz lsz
        omega
      · rw [if_neg c, if_neg c]
        rfl
  exact a fl fun g hg => hg
/-- the reckoned sizes are those of least values -/
def DV (F : Fc) (N : Nat) (D : Szs) : Prop := ∀ z v, D z = some v → Wfr F N (.one (.rc z)) ∧ lsz F N (.one (.rc z)) = v
theorem dv_k {F : Fc} (c1 : Cs1 F.c) {N : Nat} {D : Szs} (h : DV F (N + 1) D) {k : Kn} {v : Int} (e : kSz F.c F.r D k = some v) : Wfr F (N + 1) k ∧ lsz F (N + 1) k = v := by
  unfold kSz at e
  split at e
  · cases e
  · rename_i nb
    have nb : nobK F.c F.r k = false := by simpa using nb
    cases k with
    | lst b =>
      cases e
      exact ⟨nb, rfl⟩
    | one b =>
      cases b with
      | whole => cases e; exact ⟨True.intro, rfl⟩
      | truth => cases e; exact ⟨True.intro, rfl⟩
      | text => cases e; exact ⟨True.intro, rfl⟩
      | rc z => exact h z v e
      | ch c =>
        cases e
        have ni : nameIn c F.c = true := by
          have : (!nameIn c F.c) = false := nb
          simpa using this
        obtain ⟨n, u, lk, n1, n2⟩ := c1 c ni
        rw [look_c] at lk
        cases hc : F.cs.lookup c with
        | none => rw [hc] at lk; cases lk
        | some os =>
          rw [hc] at lk
          have lk : optsD os = optsD [(n, u)] := by injection lk
          have oe : os = [(n, u)] := by
            unfold optsD at lk
            injection lk with lk
            cases os with
            | nil => cases lk
            | cons o os =>
              cases os with
              | nil =>
                obtain ⟨o1, o2⟩ := o
                rw [List.map_cons, List.map_cons] at lk
                injection lk with lk _
                injection lk with lk
                injection lk with l1 l2
                injection l1 with l1
                injection l2 with l2 _
                injection l2 with l2
                have l1 : o1 = n := l1
                have l2 : o2 = u := l2
                rw [l1, l2]
              | cons => rw [List.map_cons, List.map_cons, List.map_cons] at lk; injection lk with _ lk; cases lk
          subst oe
          refine ⟨⟨(n, u), [], hc⟩, ?_⟩
          show (((digs (optN F c (((opts F c).head?.map Prod.snd).getD ""))).length : Nat) : Int) = 1
          have op : opts F c = [(n, u)] := by unfold opts; rw [hc]; rfl
          have on : optN F c u = n.toNat := by
            unfold optN
            rw [op]
            rw [List.find?_cons, decide_eq_true rfl]
            rfl
          rw [op]
          show (((digs (optN F c u)).length : Nat) : Int) = 1
          rw [on]
          unfold digs
          rw [dg_pos (by omega : 0 < n.toNat), show n.toNat / 256 = 0 by omega, dg_zero]
          rfl
theorem dv_step {F : Fc} (fo : FcOk F) (c1 : Cs1 F.c) {N : Nat} {D : Szs} {r : Rec} (hr : F.rs.lookup r.1 = some r.2) (h : DV F (N + 1) D) : DV F (N + 2) (step F.c F.r D r) := by
  have old : ∀ z v, D z = some v → Wfr F (N + 2) (.one (.rc z)) ∧ lsz F (N + 2) (.one (.rc z)) = v := fun z v e => by
    obtain ⟨a, b⟩ := h z v e
    exact ⟨wf_up a, by rw [lsz_up fo a, b]⟩
  unfold step recSz total
  split
  · exact old
  · rename_i nn
    intro z v e
    unfold putS at e
    dsimp only at e
    split at e
    · rename_i ez
      subst ez
      cases e
      have q : ∀ k ∈ mustKs r.2, ∃ s, kSz F.c F.r D k = some s := fun k hk => by
        cases hs : kSz F.c F.r D k with
        | none => exact absurd (List.mem_map.mpr ⟨k, hk, hs⟩) nn
        | some s => exact ⟨s, rfl⟩
      refine ⟨⟨r.2, hr, fun g hg m => ?_⟩, ?_⟩
      · obtain ⟨s, hs⟩ := q g.kd (List.mem_map.mpr ⟨g, List.mem_filter.mpr ⟨hg, m⟩, rfl⟩)
        exact (dv_k c1 h hs).1
      · rw [lsz_rc fo hr, List.map_map]
        refine congrArg List.sum (List.map_congr_left fun k hk => ?_)
        obtain ⟨s, hs⟩ := q k hk
        show fsz (lsz F (N + 1) k) = fsz ((kSz F.c F.r D k).getD 0)
        rw [hs, (dv_k c1 h hs).2]
        rfl
    · exact old z v e
theorem dv_turn {F : Fc} (fo : FcOk F) (c1 : Cs1 F.c) : ∀ {recs : List Rec} {N : Nat} {D : Szs}, (∀ r ∈ recs, F.rs.lookup r.1 = some r.2) → DV F (N + 1) D → DV F (N + 1 + recs.length) (turn F.c F.r recs D)
  | [], N, D, _, h => h
  | r :: recs, N, D, hr, h => by
    have q := dv_turn fo c1 (recs := recs) (N := N + 1) (fun x hx => hr x (List.mem_cons_of_mem _ hx)) (dv_step fo c1 (hr r List.mem_cons_self) h)
    rw [List.length_cons, show N + 1 + (recs.length + 1) = N + 1 + 1 + recs.length by omega]
    exact q
theorem dv_turns {F : Fc} (fo : FcOk F) (c1 : Cs1 F.c) (hr : ∀ r ∈ F.rs, F.rs.lookup r.1 = some r.2) : ∀ n, DV F (n * F.rs.length + 1) (turns F.c F.r F.rs n)
  | 0 => fun z v e => by cases e
  | n + 1 => by
    have q := dv_turn fo c1 hr (dv_turns fo c1 hr n)
    rw [show (n + 1) * F.rs.length + 1 = n * F.rs.length + 1 + F.rs.length by rw [Nat.add_mul]; omega]
    exact q
theorem dv_37 {F : Fc} (fo : FcOk F) (c1 : Cs1 F.c) (hr : ∀ r ∈ F.rs, F.rs.lookup r.1 = some r.2) (h6 : F.rs.length ≤ 6) : DV F 37 (turns F.c F.r F.rs F.rs.length) := fun z v e => by
  obtain ⟨a, b⟩ := dv_turns fo c1 hr _ z v e
  have l : F.rs.length * F.rs.length + 1 ≤ 37 := by
    have := Nat.mul_le_mul h6 h6
    omega
  exact ⟨wf_le a l, by rw [lsz_le fo a l, b]⟩
/-! ### all of them are numbers of a body -/
theorem told_by {n : Nat} (h : n ≤ 10000) : ∀ x ∈ told n, 0 ≤ x ∧ x < 256 := by
  unfold told
  intro x hx
  split at hx
  · simp at hx
    omega
  · simp at hx
    omega
theorem dg_by : ∀ f n, ∀ x ∈ dg f n, 0 ≤ x ∧ x < 256
  | 0, _, x, h => by cases h
  | f + 1, n, x, h => by
    unfold dg at h
    split at h
    · cases h
    · rcases List.mem_append.mp h with h | h
      · exact dg_by f _ x h
      · simp at h
        omega
theorem mark_by (k : Kn) : 0 ≤ k.mark ∧ k.mark < 256 := by
  cases k with
  | lst b => exact ⟨(by decide : (0 : Int) ≤ 3), (by decide : (3 : Int) < 256)⟩
  | one b =>
    cases b with
    | text => exact ⟨(by decide : (0 : Int) ≤ 2), (by decide : (2 : Int) < 256)⟩
    | rc z => exact ⟨(by decide : (0 : Int) ≤ 4), (by decide : (4 : Int) < 256)⟩
    | ch z => exact ⟨(by decide : (0 : Int) ≤ 1), (by decide : (1 : Int) < 256)⟩
    | whole => exact ⟨(by decide : (0 : Int) ≤ 1), (by decide : (1 : Int) < 256)⟩
    | truth => exact ⟨(by decide : (0 : Int) ≤ 1), (by decide : (1 : Int) < 256)⟩
theorem flat_len {α : Type} {ls : List (List α)} {l : List α} (h : l ∈ ls) : l.length ≤ ls.flatten.length := by
  induction ls with
  | nil => cases h
  | cons a ls ih =>
    rw [List.flatten_cons, List.length_append]
    rcases List.mem_cons.mp h with rfl | h
    · omega
    · have := ih h
      omega
theorem piece_by {c : List Int} (hl : (piece c).length ≤ 10000) (h : c.length ≤ 10000 → ∀ x ∈ c, 0 ≤ x ∧ x < 256) : ∀ x ∈ piece c, 0 ≤ x ∧ x < 256 := by
  unfold piece at hl ⊢
  rw [List.length_append] at hl
  intro x hx
  rcases List.mem_append.mp hx with hx | hx
  · exact told_by (by omega) x hx
  · exact h (by omega) x hx
theorem enc_by {F : Fc} (fo : FcOk F) : ∀ {n : Nat} {k : Kn} {v : Vl}, Ok F n k v → (enc F n k v).length ≤ 10000 → ∀ x ∈ enc F n k v, 0 ≤ x ∧ x < 256
  | 0, _, _, h, _ => h.elim
  | n + 1, k, v, h, hl => by
    cases k with
    | lst b =>
      obtain ⟨xs, rfl, _, _, q⟩ := h
      have hl : (b.mark :: (xs.map fun x => piece (enc F n (.one b) x)).flatten).length ≤ 10000 := hl
      show ∀ x ∈ b.mark :: (xs.map fun x => piece (enc F n (.one b) x)).flatten, _
      rw [List.length_cons] at hl
      intro x hx
      rcases List.mem_cons.mp hx with rfl | hx
      · exact mark_by (.one b)
      · obtain ⟨l, hl1, hx⟩ := List.mem_flatten.mp hx
        have fl := flat_len hl1
        obtain ⟨y, hy, rfl⟩ := List.mem_map.mp hl1
        exact piece_by (by omega) (fun l => enc_by fo (q y hy) l) x hx
    | one b =>
      cases b with
      | whole =>
        obtain ⟨i, rfl, _⟩ := h
        exact dg_by 6 _
      | truth =>
        obtain ⟨b, rfl⟩ := h
        show ∀ x ∈ (if b = true then [(1 : Int)] else []), _
        intro x hx
        split at hx
        · simp at hx; omega
        · cases hx
      | text =>
        obtain ⟨z, rfl, _, q⟩ := h
        show ∀ x ∈ z.cps.toList.map (fun c : Nat => (c : Int)), _
        intro x hx
        obtain ⟨c, hc, rfl⟩ := List.mem_map.mp hx
        have := q c hc
        unfold sgn at this
        omega
      | ch c =>
        obtain ⟨u, os, m, rfl, _⟩ := h
        exact dg_by 6 _
      | rc z =>
        obtain ⟨fl, fs, rfl, e, _, _, q, _⟩ := h
        have fz : flds F z = fl := by unfold flds; rw [e]; rfl
        have hl : (((flds F z).map (fpiece (enc F n) fs)).flatten).length ≤ 10000 := hl
        show ∀ x ∈ ((flds F z).map (fpiece (enc F n) fs)).flatten, _
        rw [fz] at hl ⊢
        intro x hx
        obtain ⟨l, hl1, hx⟩ := List.mem_flatten.mp hx
        have ll := Nat.le_trans (flat_len hl1) hl
        obtain ⟨g, hg, rfl⟩ := List.mem_map.mp hl1
        have nb := fo.nums _ (look_mem e) g hg
        unfold fpiece at hx ll
        cases hw : fs.lookup g.nam with
        | none => rw [hw] at hx; cases hx
        | some w =>
          rw [hw] at hx ll
          dsimp only at hx ll
          rw [List.length_cons, List.length_cons] at ll
          rcases List.mem_cons.mp hx with rfl | hx
          · omega
          · rcases List.mem_cons.mp hx with rfl | hx
            · exact mark_by _
            · exact piece_by (by omega) (fun l => enc_by fo (q g hg w hw) l) x hx
end Fh

set_option Elab.async false
set_option linter.all false
set_option maxRecDepth 100000
set_option maxHeartbeats 4000000
namespace Fh
open PySem L2 PyProof.Rows
def spLeo (C : Addr) (n : Nat) : Sp := fun vs H Q _ => ∃ (a : Addr) (v : V) (k : Kn) (F : Fc), vs = [.ref a, v] ∧ FaceF C H a F ∧ Tp H v k.d ∧ Wfr F n k ∧
  ∀ (x : V) (H' : Hp), Same H H' → VD (Nw H H') x (lv F n k) → Q x H'
/-- the table of least values -/
structure Plains (K : PySem.W.Frag) (w : World) (mg : Str → Option Value) : Prop where
  ex : ∃ M : Addr, mg "LEAST_PLAIN" = some (.ref M) ∧ KDct K w M "whole" (.int 0) ∧ KDct K w M "truth" (.bl false) ∧ KDct K w M "text" (.str "")
theorem ff_fields {v1 v2 v3 v4 v5 : V} : (ff v1 v2 v3 v4 v5).lookup ("fields_of" : Str) = none := ff_meth (by decide +kernel) (by decide +kernel) (by decide +kernel) (by decide +kernel) (by decide +kernel)
theorem atI_zero {α : Type} {x : α} {r : List α} : atI (x :: r) 0 = some x := by
  obtain ⟨v, e, h, _⟩ := atI_in (xs := x :: r) (i := 0) (Int.le_refl _) (by rw [List.length_cons]; omega)
  rw [e]
  exact h.symm
section
variable {P : Program} {w : World} {K : PySem.W.Frag} {mg : Str → Option Value} {base : Heap}
end
end Fh

set_option Elab.async false
set_option linter.all false
set_option maxRecDepth 100000
set_option maxHeartbeats 4000000
namespace Fh
open PySem L2 PyProof.Rows
abbrev nLea : List Str := ["face", "record", "size"]
abbrev nWri : List Str := ["face", "record", "value"]
def szF (F : Fc) (z : Str) : Option Int := turns F.c F.r F.rs F.rs.length z
/-- a face whose least sizes are reckoned -/
structure FcL (F : Fc) : Prop where
  c1 : Cs1 F.c
  ok : RecsOk F.rs
  lk : ∀ r ∈ F.rs, F.rs.lookup r.1 = some r.2
def spLea (C : Addr) : Sp := fun vs H Q _ => ∃ (a : Addr) (z : Str) (F : Fc), vs = [.ref a, .str z] ∧ FaceF C H a F ∧ FcL F ∧ (∃ fl, F.rs.lookup z = some fl) ∧
  ∀ (x : V) (H' : Hp), Same H H' → (x = .non ∧ (szF F z = none ∨ ∃ v, szF F z = some v ∧ 10000 < v) ∨ ∃ v, szF F z = some v ∧ v ≤ 10000 ∧ (∃ p, x = .ref p) ∧ VD H' x (lv F 37 (.one (.rc z)))) → Q x H'
def spWri (C : Addr) (n : Nat) : Sp := fun vs H Q _ => ∃ (a : Addr) (z : Str) (x : V) (u : Vl) (F : Fc), vs = [.ref a, .str z, x] ∧ FaceF C H a F ∧ VD H x u ∧ Ok F n (.one (.rc z)) u ∧ (enc F n (.one (.rc z)) u).length ≤ 10000 ∧
  ∀ (p : Addr) (H' : Hp), Same H H' → H' p = some (.tup ((enc F n (.one (.rc z)) u).map V.int)) → Q (.ref p) H'
section
variable {P : Program} {w : World} {K : PySem.W.Frag} {mg : Str → Option Value} {base : Heap}
end
end Fh

set_option Elab.async false
set_option linter.all false
set_option maxRecDepth 100000
set_option maxHeartbeats 4000000
namespace Fh
open PySem L2 PyProof.Rows
theorem look_self {α : Type} : ∀ {l : List (Str × α)}, (l.map Prod.fst).Nodup → ∀ r ∈ l, l.lookup r.1 = some r.2
  | [], _, _, h => by cases h
  | (n, v) :: l, nd, r, h => by
    rw [List.map_cons, List.nodup_cons] at nd
    rw [List.lookup_cons]
    rcases List.mem_cons.mp h with rfl | h
    · rw [beq_self_eq_true]
    · have ne : r.1 ≠ n := fun e => nd.1 (List.mem_map.mpr ⟨r, h, e⟩)
      rw [beq_eq_false_iff_ne.mpr ne]
      exact look_self nd.2 r h
/-! ### == of two values of one form -/
def NstS (R : Vl → Prop) : Vl → Prop
  | .lst xs => ∀ x ∈ xs, R x
  | .rcd fs => (fs.map Prod.fst).Nodup ∧ ∀ f ∈ fs, R f.2
  | _ => True
/-- of nesting below n -/
def Nst : Nat → Vl → Prop
  | 0 => fun _ => False
  | n + 1 => NstS (Nst n)
theorem nst_lv {F : Fc} (fo : FcOk F) : ∀ {n : Nat} {k : Kn}, Wfr F n k → Nst n (lv F n k)
  | 0, _, h => h.elim
  | n + 1, k, h => by
    cases k with
    | lst b => exact fun x hx => by cases hx
    | one b =>
      cases b with
      | whole => exact True.intro
      | truth => exact True.intro
      | text => exact True.intro
      | ch c => exact True.intro
      | rc z =>
        obtain ⟨fl, e, q⟩ := h
        have fz : flds F z = fl := by unfold flds; rw [e]; rfl
        have nf : (fl.map (·.nam)).Nodup := fo.nf _ (look_mem e)
        show NstS (Nst n) (.rcd (lvR (lv F n) (flds F z)))
        rw [fz]
        refine ⟨?_, fun f hf => ?_⟩
        · rw [lv_keys]
          exact nf.sublist (List.Sublist.map _ List.filter_sublist)
        · obtain ⟨g, hg, rfl⟩ := List.mem_map.mp hf
          obtain ⟨g1, g2⟩ := List.mem_filter.mp hg
          exact nst_lv fo (q g g1 g2)
theorem kv_at : ∀ {kvs : List (Key × V)} {va : List (Key × Value)}, KV kvs va → ∀ {k : Key} {v : Value}, (k, v) ∈ va → ∃ (j : Nat) (x : V), kvs[j]? = some (k, x) ∧ L2.RelV x v := by
  intro kvs va h
  unfold KV at h
  induction h with
  | nil => intro k v m; cases m
  | @cons p q ps qs h t ih =>
    intro k v m
    rcases List.mem_cons.mp m with e | m
    · subst e
      obtain ⟨h1, h2⟩ := h
      have h1 : p.1 = k := h1
      exact ⟨0, p.2, by rw [List.getElem?_cons_zero, ← h1], h2⟩
    · obtain ⟨j, x, e, r⟩ := ih m
      exact ⟨j + 1, x, by rw [List.getElem?_cons_succ]; exact e, r⟩
section
variable {X : Cx} {pins : List (Addr × Obj)} {σ : L2.St} {H : Hp} {s : Shared}
theorem vals_at : ∀ {xs : List V} {us : List Value}, Vals xs us → ∀ (j : Nat) (h : j < us.length), ∃ x, xs[j]? = some x ∧ L2.RelV x us[j] := by
  intro xs us r
  induction r with
  | nil => intro j h; exact absurd h (Nat.not_lt_zero j)
  | cons a b ih =>
    intro j h
    cases j with
    | zero => exact ⟨_, rfl, a⟩
    | succ j => exact ih j (Nat.lt_of_succ_lt_succ h)
/-- what two dicts of one value hold at a key -/
theorem vd_pair {ka kb : List (Key × V)} {fs : List (Str × Vl)} {va vb : List (Key × Value)} (nd : (fs.map Prod.fst).Nodup) (ea : ka.map Prod.fst = fs.map (fun f => Sum.inr f.1)) (qa : VDs H (ka.map Prod.snd) (fs.map Prod.snd))
    (eb : kb.map Prod.fst = fs.map (fun f => Sum.inr f.1)) (qb : VDs H (kb.map Prod.snd) (fs.map Prod.snd)) (ra : KV ka va) (rb : KV kb vb) {k : Key} {v : Value} (hm : (k, v) ∈ va) :
    ∃ f ∈ fs, ∃ x y u, VD H x f.2 ∧ VD H y f.2 ∧ L2.RelV x v ∧ L2.RelV y u ∧ valueAt vb k = some u := by
  obtain ⟨j, x, hj, rx⟩ := kv_at ra hm
  have h1 : (ka.map Prod.fst)[j]? = some k := by rw [List.getElem?_map, hj]; rfl
  rw [ea, List.getElem?_map] at h1
  cases hf : fs[j]? with
  | none => rw [hf] at h1; cases h1
  | some f =>
    rw [hf] at h1
    have ek : Sum.inr f.1 = k := Option.some.inj h1
    have h2 : (ka.map Prod.snd)[j]? = some x := by rw [List.getElem?_map, hj]; rfl
    obtain ⟨w, hw, vx⟩ := qa.get h2
    rw [List.getElem?_map, hf] at hw
    have ew : f.2 = w := Option.some.inj hw
    have fm := List.mem_of_getElem? hf
    have lk := look_self nd f fm
    obtain ⟨y, hy, vy⟩ := (vd_at eb qb f.1).2 f.2 lk
    have rr : RelO (some y) (valueAt vb k) := by rw [← hy, ek]; exact rb.val k
    obtain ⟨u, hu, ry⟩ := rr.some_of
    exact ⟨f, fm, x, y, u, by rw [ew]; exact vx, vy, rx, ry, hu⟩
theorem vd_tree (I : Inv X pins σ H s) : ∀ (n : Nat) (c : Vl) (x y : V) (v u : Value), Nst n c → VD H x c → VD H y c → L2.RelV x v → L2.RelV y u → PySem.W.EqTree X.prog X.w s n v u true
  | 0, _, _, _, _, _, h, _, _, _, _ => h.elim
  | n + 1, c, x, y, v, u, hn, hx, hy, rx, ry => by
    cases hx with
    | num i =>
      cases hy
      exact .leaf fun A _ => eqAt_same rx ry rfl
    | tru b =>
      cases hy
      exact .leaf fun A _ => eqAt_same rx ry rfl
    | txt z =>
      cases hy
      exact .leaf fun A _ => eqAt_same rx ry rfl
    | @lst a xs vs ha qa =>
      cases hy with
      | @lst b ys _ hb qb =>
        cases (show v = Value.ref a from rx)
        cases (show u = Value.ref b from ry)
        by_cases e : a = b
        · subst e
          exact .same
        · obtain ⟨us, r1, p1, _⟩ := I.tuple (SqT.of ha)
          obtain ⟨ws, r2, p2, _⟩ := I.tuple (SqT.of hb)
          have l1 : us.length = vs.length := by rw [← r1.length, qa.length]
          have l2 : ws.length = vs.length := by rw [← r2.length, qb.length]
          have t := PySem.W.EqTree.tuples (prog := X.prog) (w := X.w) (s := s) (n := n) (e := fun _ => true) e (show s.heap.IsTuple a us.toArray from p1) (show s.heap.IsTuple b ws.toArray from p2) (fun j h1 h2 => by
            rw [List.size_toArray] at h1 h2
            obtain ⟨x, hx, rx⟩ := vals_at r1 j h1
            obtain ⟨y, hy, ry⟩ := vals_at r2 j h2
            obtain ⟨c1, e1, v1⟩ := qa.get hx
            obtain ⟨c2, e2, v2⟩ := qb.get hy
            rw [e1] at e2
            cases e2
            have k := vd_tree I n c1 x y _ _ (hn c1 (List.mem_of_getElem? e1)) v1 v2 rx ry
            simpa using k)
          have e1 : ((List.range (min us.toArray.size ws.toArray.size)).all (fun _ => true) && us.toArray.size == ws.toArray.size) = true := by
            rw [List.size_toArray, List.size_toArray, l1, l2]
            simp
          rw [e1] at t
          exact t
    | @rcd a ka fs ha ea qa =>
      cases hy with
      | @rcd b kb _ hb eb qb =>
        cases (show v = Value.ref a from rx)
        cases (show u = Value.ref b from ry)
        by_cases e : a = b
        · subst e
          exact .same
        · obtain ⟨_, ya, va, ra, da⟩ := dk_of I.hok ha
          obtain ⟨_, yb, vb, rb, db⟩ := dk_of I.hok hb
          have t := PySem.W.EqTree.dicts (prog := X.prog) (w := X.w) (s := s) (n := n) (e := fun _ => true) e ya yb da db (fun k v y hm hv => by
            obtain ⟨f, fm, x, y2, u, v1, v2, r1, r2, hu⟩ := vd_pair hn.1 ea qa eb qb ra rb hm
            rw [hu] at hv
            cases hv
            exact vd_tree I n f.2 x y2 _ _ (hn.2 f fm) v1 v2 r1 r2)
          have e1 : (va.length == vb.length && va.all fun p => (valueAt vb p.1).isSome && true) = true := by
            have l1 : va.length = fs.length := by rw [← ra.length]; have := congrArg List.length ea; simpa using this
            have l2 : vb.length = fs.length := by rw [← rb.length]; have := congrArg List.length eb; simpa using this
            rw [Bool.and_eq_true, List.all_eq_true]
            refine ⟨by rw [l1, l2]; simp, fun p hp => ?_⟩
            obtain ⟨k, v⟩ := p
            obtain ⟨f, fm, x, y2, u, v1, v2, r1, r2, hu⟩ := vd_pair hn.1 ea qa eb qb ra rb hp
            show ((valueAt vb k).isSome && true) = true
            rw [hu]
            rfl
          rw [e1] at t
          exact t
end
/-- a == b of two records that are the same value -/
def rEqVl : R2 := fun x y H Q => ∃ (n : Nat) (fs : List (Str × Vl)), n ≤ 60 ∧ Nst n (.rcd fs) ∧ VD H x (.rcd fs) ∧ VD H y (.rcd fs) ∧ Q (.bl true) H
theorem op_eqVl {X : Cx} (hu : X.A.units + 64 < cLine) : OpR X (compareOp .Eq) rEqVl := by
  intro pins s σ H x y v u Q I rx ry h
  obtain ⟨n, fs, hn, ns, hx, hy, q⟩ := h
  cases n with
  | zero => exact ns.elim
  | succ n =>
    cases hx with
    | @rcd a ka _ ha ea qa =>
      cases hy with
      | @rcd b kb _ hb eb qb =>
        cases (show v = Value.ref a from rx)
        cases (show u = Value.ref b from ry)
        obtain ⟨_, ya, va, ra, da⟩ := dk_of I.hok ha
        obtain ⟨_, yb, vb, rb, db⟩ := dk_of I.hok hb
        refine PySem.W.eq_dictsT (n := n) (e := fun _ => true) ya yb da db (fun k v y hm hv => ?_) (by omega) ?_
        · obtain ⟨f, fm, x, y2, u, v1, v2, r1, r2, hu⟩ := vd_pair ns.1 ea qa eb qb ra rb hm
          rw [hu] at hv
          cases hv
          exact vd_tree I n f.2 x y2 _ _ (ns.2 f fm) v1 v2 r1 r2
        · have e1 : (va.length == vb.length && va.all fun p => (valueAt vb p.1).isSome && true) = true := by
            have l1 : va.length = fs.length := by rw [← ra.length]; have := congrArg List.length ea; simpa using this
            have l2 : vb.length = fs.length := by rw [← rb.length]; have := congrArg List.length eb; simpa using this
            rw [Bool.and_eq_true, List.all_eq_true]
            refine ⟨by rw [l1, l2]; simp, fun p hp => ?_⟩
            obtain ⟨k, v⟩ := p
            obtain ⟨f, fm, x, y2, u, v1, v2, r1, r2, hu⟩ := vd_pair ns.1 ea qa eb qb ra rb hp
            show ((valueAt vb k).isSome && true) = true
            rw [hu]
            rfl
          rw [e1]
          exact ⟨.bl true, H, I, rfl, q⟩
end Fh

set_option Elab.async false
set_option linter.all false
set_option maxRecDepth 100000
set_option maxHeartbeats 4000000
namespace Fh
open PySem L2 PyProof.Rows
/-! ### a text times a small number -/
theorem rep_size (a : Array Nat) : ∀ (k : Nat) (i : Array Nat), ((List.replicate k a).foldl (· ++ ·) i).size = i.size + k * a.size
  | 0, i => by simp
  | k + 1, i => by
    rw [List.replicate_succ, List.foldl_cons, rep_size a k, Array.size_append, Nat.succ_mul]
    omega
theorem mul_len {z : Str} {n : Int} (hz : z.length ≤ 10) (h0 : 0 ≤ n) (h1 : n ≤ 10) : (Txt.mul z n).length ≤ 100 := by
  unfold Txt.mul
  split
  · exact Nat.zero_le _
  · split
    · omega
    · show ((List.replicate n.toNat z.cps).foldl (· ++ ·) #[]).size ≤ 100
      rw [rep_size]
      have : n.toNat * z.cps.size ≤ 10 * 10 := Nat.mul_le_mul (by omega) hz
      simp
      omega
theorem rep_mem (a : Array Nat) {c : Nat} : ∀ (k : Nat) (i : Array Nat), c ∈ ((List.replicate k a).foldl (· ++ ·) i).toList → c ∈ i.toList ∨ c ∈ a.toList
  | 0, i, h => .inl h
  | k + 1, i, h => by
    rw [List.replicate_succ, List.foldl_cons] at h
    rcases rep_mem a k _ h with h | h
    · rw [Array.toList_append] at h
      exact List.mem_append.mp h
    · exact .inr h
theorem mul_in {z : Str} {n : Int} (h0 : 0 ≤ n) : (Txt.mul z n).length ≤ z.length * n.toNat ∧ ∀ c ∈ (Txt.mul z n).cps.toList, c ∈ z.cps.toList := by
  unfold Txt.mul
  split
  · exact ⟨Nat.zero_le _, fun c h => absurd h (show c ∉ ([] : List Nat) from List.not_mem_nil)⟩
  · split
    · refine ⟨?_, fun c h => h⟩
      have e : 1 ≤ n.toNat := by omega
      calc z.length = z.length * 1 := (Nat.mul_one _).symm
        _ ≤ z.length * n.toNat := Nat.mul_le_mul_left _ e
    · refine ⟨?_, fun c h => ?_⟩
      · show ((List.replicate n.toNat z.cps).foldl (· ++ ·) #[]).size ≤ z.cps.size * n.toNat
        rw [rep_size, Nat.mul_comm]
        simp
      · rcases rep_mem z.cps n.toNat #[] h with h | h
        · simp at h
        · exact h
theorem mul_ok {z : Str} {n : Int} (hz : z.length ≤ 10) (h0 : 0 ≤ n) (h1 : n ≤ 10) : MulOk z n := by
  refine ⟨?_, fun h2 _ h => ?_, fun _ _ => ?_⟩
  · rw [decide_eq_false (by omega), decide_eq_false (by omega)]
    rfl
  · have : (2 ^ 63 - 1) / n ≥ 10 := by
      rw [ge_iff_le, Int.le_ediv_iff_mul_le (by omega)]
      omega
    omega
  · have : z.length * n.toNat ≤ 10 * 10 := Nat.mul_le_mul hz (by omega)
    exact decide_eq_false (Nat.not_lt.mpr (Nat.le_trans this (by decide)))
def rMulS : V → V → Hp → (V → Hp → Prop) → Prop := fun x y H Q => ∃ z n, x = .str z ∧ y = .int n ∧ z.length ≤ 10 ∧ 0 ≤ n ∧ n ≤ 10 ∧ ∀ u : Str, u.length ≤ z.length * n.toNat → (∀ c ∈ u.cps.toList, c ∈ z.cps.toList) → Q (.str u) H
theorem op_mulS {X : Cx} : OpR X (binaryOp .Mult) rMulS := by
  intro pins s σ H x y v u Q I rx ry h
  obtain ⟨z, n, rfl, rfl, hz, h0, h1, q⟩ := h
  obtain ⟨t, rfl⟩ := rx
  obtain ⟨t', rfl⟩ := ry
  exact SB.mul (mul_ok hz h0 h1) fun t' k => ⟨.str (Txt.mul z n), H, I.tok _, ⟨_, rfl⟩, q _ (mul_in h0).1 (mul_in h0).2⟩
/-! ### names and numbers drawn -/
def Rise (last : Int) (ns : List Int) : Prop := (∀ x ∈ ns, 1 ≤ x ∧ x ≤ last) ∧ ns.Pairwise (· < ·)
theorem Rise.nil {last : Int} : Rise last [] := ⟨(fun x h => by cases h), List.Pairwise.nil⟩
theorem Rise.more {last d : Int} {ns : List Int} (h : Rise last ns) (l0 : 0 ≤ last) (d0 : 0 ≤ d) : Rise (last + 1 + d) (ns ++ [last + 1 + d]) := by
  refine ⟨fun x hx => ?_, ?_⟩
  · rcases List.mem_append.mp hx with hx | hx
    · have := h.1 x hx
      omega
    · rw [List.mem_singleton.mp hx]
      omega
  · rw [List.pairwise_append]
    refine ⟨h.2, List.pairwise_singleton _ _, fun a ha b hb => ?_⟩
    rw [List.mem_singleton.mp hb]
    have := h.1 a ha
    omega
abbrev nNames : List Str := ["_law_bag_here", "_law_size", "_law_letters", "_law_begun", "_law_spot", "_law_word"]
def spNames : Sp := fun vs H Q _ => ∃ (b : Addr) (size : Int) (n : Nat), vs = [.ref b, .int size] ∧ Bag H b n ∧ 0 ≤ size ∧ size ≤ 20 ∧ n + 100 ≤ most ∧
  ∀ (p : Addr) (zs : List Str) (H' : Hp), H p = none → H' p = some (.lst (zs.map V.str)) → (zs.length : Int) = size → zs.Nodup → (∀ z ∈ zs, Nm z) → Kp b H H' → Bag H' b (n + 50) → Q (.ref p) H'
def spNumbers : Sp := fun vs H Q _ => ∃ (b : Addr) (size : Int) (n : Nat), vs = [.ref b, .int size] ∧ Bag H b n ∧ 0 ≤ size ∧ size ≤ 20 ∧ n + 100 ≤ most ∧
  ∀ (p : Addr) (ns : List Int) (H' : Hp), H p = none → H' p = some (.lst (ns.map V.int)) → (ns.length : Int) = size → ns.Pairwise (· < ·) → (∀ x ∈ ns, 1 ≤ x ∧ x ≤ 5 * size) → Kp b H H' → Bag H' b (n + 50) → Q (.ref p) H'
theorem abc_j (j c : Nat) (h : abc.cps.toList[j]? = some c) : c = 97 + j := by
  rw [abc_codes] at h
  have hj : j < 26 := by
    rw [List.getElem?_eq_some_iff] at h
    exact h.1
  have all : ∀ j : Nat, j < 26 → ([97, 98, 99, 100, 101, 102, 103, 104, 105, 106, 107, 108, 109, 110, 111, 112, 113, 114, 115, 116, 117, 118, 119, 120, 121, 122] : List Nat)[j]? = some (97 + j) := by decide
  rw [all j hj] at h
  cases h
  rfl
theorem tl_app (u : Str) (c : Nat) : (u ++ one c).cps.toList = u.cps.toList ++ [c] := by
  show (u.cps ++ #[c]).toList = _
  simp
theorem names_nd {zs : List Str} (h : ∀ (j : Nat) (z : Str), zs[j]? = some z → ∃ c u, abc.cps.toList[j]? = some c ∧ z = u ++ one c) : zs.Nodup := by
  refine List.pairwise_iff_getElem.mpr fun i j hi hj hij e => ?_
  obtain ⟨c, u, hc, e1⟩ := h i zs[i] (List.getElem?_eq_getElem hi)
  obtain ⟨d, v, hd, e2⟩ := h j zs[j] (List.getElem?_eq_getElem hj)
  rw [e1, e2] at e
  have e3 := congrArg (fun z : Str => z.cps.toList) e
  simp only [tl_app] at e3
  have e4 : c = d := by
    have := List.append_inj_right' e3 rfl
    simpa using this
  have := abc_j i c hc
  have := abc_j j d hd
  omega
theorem names_nm {zs : List Str} (h : ∀ (j : Nat) (z : Str), zs[j]? = some z → ∃ c u, abc.cps.toList[j]? = some c ∧ z = u ++ one c ∧ u.length ≤ 7 ∧ ∀ d ∈ u.cps.toList, Lt d) : ∀ z ∈ zs, Nm z := fun z hz => by
  obtain ⟨j, hj⟩ := List.mem_iff_getElem?.mp hz
  obtain ⟨c, u, h1, rfl, h2, h3⟩ := h j z hj
  have lc : Lt c := by
    have e := abc_j j c h1
    have hl : j < abc.cps.toList.length := (List.getElem?_eq_some_iff.mp h1).1
    rw [abc_codes] at hl
    have hl : j < 26 := hl
    unfold Lt
    omega
  have ln : (u ++ one c).length = u.length + 1 := by
    show (u.cps ++ #[c]).size = u.cps.size + 1
    simp
  refine ⟨by omega, by omega, fun d hd => ?_⟩
  rw [tl_app] at hd
  rcases List.mem_append.mp hd with hd | hd
  · exact h3 d hd
  · rw [List.mem_singleton.mp hd]
    exact lc
section
variable {P : Program} {w : World} {K : PySem.W.Frag} {mg : Str → Option Value} {base : Heap}
abbrev nNumbers : List Str := ["_law_bag_here", "_law_size", "_law_found", "_law_last", "_law_spot"]
end
end Fh

set_option Elab.async false
set_option linter.all false
set_option maxRecDepth 100000
set_option maxHeartbeats 4000000
namespace Fh
open PySem L2 PyProof.Rows
abbrev nLof : List Str := ["_law_rows", "_law_word", "_law_one", "_law_things"]
abbrev nKdr : List Str := ["_law_bag_here", "_law_picks", "_law_words", "_law_kind", "_law_way"]
def spLof : Sp := fun vs H Q _ => ∃ (v : V) (z : Str) (rows : List (Str × PyData)) (d : PyData), vs = [v, .str z] ∧ TpR H v (rowsD rows) ∧ rows.lookup z = some d ∧ ∀ v, Tp H v d → Q v H
/-- kinds that name one of these -/
def GB2 (cs ws : List Str) : Kb → Prop
  | .rc z => z ∈ ws
  | .ch c => c ∈ cs
  | _ => True
def GK2 (cs ws : List Str) : Kn → Prop
  | .one b => GB2 cs ws b
  | .lst b => GB2 cs ws b
/-- one that is no list -/
structure GKo (cs ws : List Str) (k : Kn) : Prop where
  one : ∃ c, k = .one c
  ok : GK2 cs ws k
def spKdr : Sp := fun vs H Q _ => ∃ (b p w : Addr) (n : Nat) (cs : List (Str × PyData)) (ws : List Str), vs = [.ref b, .ref p, .ref w] ∧ Bag H b n ∧ n + 20 ≤ most ∧ Tp H (.ref p) (rowsD cs) ∧ SeqAt.shaped (rowsD cs) = true ∧ cs.length ≤ 10 ∧ H w = some (.lst (ws.map V.str)) ∧ w ≠ b ∧ ws.length ≤ 10 ∧ (∀ z ∈ ws, Nm z) ∧
  ∀ (kv : V) (k : Kn) (H' : Hp), Tp H' kv k.d → GK2 (cs.map Prod.fst) ws k → Kp b H H' → Bag H' b (n + 6) → Q kv H'
theorem nm_sh {z : Str} (h : Nm z) : Sh 0 (.str z) := ⟨strOk_of fun c hc => by have := h.sg c hc; unfold Lt at this; omega, Nat.le_refl _⟩
theorem strs_sh {ws : List Str} (h : ∀ z ∈ ws, Nm z) : SeqAt.shaped (.list (ws.map PyData.str)) = true := Sh.shaped (n := 1) (Sh.lst fun d hd => by
  obtain ⟨z, hz, rfl⟩ := List.mem_map.mp hd
  exact nm_sh (h z hz)) (by decide)
theorem tup_ne {H : Hp} {t b : Addr} {n : Nat} {xs : List V} (h : H t = some (.tup xs)) (hb : Bag H b n) : t ≠ b := fun e => by
  obtain ⟨_, _, _, z, _⟩ := hb
  rw [e, z] at h
  cases h
section
variable {P : Program} {w : World} {K : PySem.W.Frag} {mg : Str → Option Value} {base : Heap}
end
end Fh

set_option Elab.async false
set_option linter.all false
set_option maxRecDepth 100000
set_option maxHeartbeats 4000000
namespace Fh
open PySem L2 PyProof.Rows
/-! ### xs[::step] with a step of one, forward or back -/
def turnL {α : Type} (d : Int) (xs : List α) : List α := if d = 1 then xs else xs.reverse
theorem pick_turn {d : Int} (h : d = 1 ∨ d = -1) (its : List Value) : slicePick its.toArray none none (some d) = (turnL d its).toArray := by
  rcases h with rfl | rfl
  · exact slicePick_all its.toArray
  · rw [PySem.W.krv_pick]
    rfl
theorem vals_turn {d : Int} {xs : List V} {us : List Value} (r : Vals xs us) : Vals (turnL d xs) (turnL d us) := by
  unfold turnL
  split
  · exact r
  · exact r.reverse
theorem turn_len {α : Type} (d : Int) (xs : List α) : (turnL d xs).length = xs.length := by
  unfold turnL
  split
  · rfl
  · exact List.length_reverse
def tStepL (K : PySem.W.Frag) (te td : TE) : TE := fun σ H Q => te σ H fun x H1 => td σ H1 fun y H2 => ∃ a xs d, x = .ref a ∧ y = .int d ∧ (d = 1 ∨ d = -1) ∧ SqL K H2 a xs ∧ ∀ p, H2 p = none → Q (.ref p) (upd H2 p (.lst (turnL d xs)))
section
variable {X : Cx}
theorem pe_stepL {e se : Expr} {te td : TE} {p3 pos : Pos} (he : PE X e te) (hd : PE X se td) : PE X (.Subscript e (.Slice none none (some se) p3) pos) (tStepL X.K te td) := by
  refine ⟨fun pins s σ H Q I h => Subscript_ (thn (he.run pins s σ H _ I h) fun v s1 ⟨x, H1, I1, r1, q1⟩ => ?_)⟩
  refine wpAny_Slice (thn (po_none.run pins s1 σ H1 (fun o G => o = none ∧ G = H1) I1 ⟨rfl, rfl⟩) fun vl s2 ⟨lo, G2, I2, pl, z1, z2⟩ => ?_)
  subst z1 z2
  refine thn (po_none.run pins s2 σ G2 (fun o G => o = none ∧ G = G2) I2 ⟨rfl, rfl⟩) fun vu s3 ⟨hi, G3, I3, pu, z1, z2⟩ => ?_
  subst z1 z2
  refine thn (hd.run pins s3 σ G3 _ I3 q1) fun vs s4 ⟨y, H4, I4, ry, a, xs, d, ex, ey, hd1, hx, q⟩ => ?_
  subst ex ey
  obtain ⟨t, rfl⟩ := (show ∃ t, vs = Value.int d t from ry)
  cases (show v = Value.ref a from r1)
  have I5 : Inv X pins σ H4 { s4 with heap := s4.heap.push { cls := .type "slice", data := .fields #[vl, vu, .int d t] } } := I4.kept (t' := s4.toks) fun b ob q => Heap.get?_push_of_some _ q
  obtain ⟨its, r, ht, hz⟩ := I5.list hx
  have hlen := r.length
  refine tail_any (ops := [.ref a, .ref s4.heap.objs.size]) ht.isList.typeIs (PySem.slot_list_getitem.lookup) ?_ (by with_unfolding_all rfl)
  refine wpAny_getItem_list_slice ht.isList (Heap.IsSliceOf.new _ vl vu (.int d t)) pl pu (st := some d) ?_ (by rcases hd1 with rfl | rfl <;> decide) ?_ (by rw [List.size_toArray]; omega)
  · exact .int d t
  · rw [pick_turn hd1]
    refine ⟨.ref _, _, I5.laid (t' := s4.toks) (o := .lst (turnL d xs)) (fun b ob q => Heap.get?_push_of_some _ q) (Nat.le_refl _) ?_, rfl, q _ (I5.hok.fresh (Nat.le_refl _))⟩
    exact ⟨by rw [turn_len]; exact hz, _, 0, vals_turn r, Heap.get?_push_size _ rfl⟩
end
end Fh

set_option Elab.async false
set_option linter.all false
set_option maxRecDepth 100000
set_option maxHeartbeats 4000000
namespace Fh
open PySem L2 PyProof.Rows
abbrev nTxt : List Str := ["_law_bag_here", "_law_signs", "_law_size", "_law_spot"]
abbrev TS : Str := " !abc~19&'()+-./:;<=>?@AZ[]^_{}|#$,*\"\\"
theorem ts_all : (TS.cps.toList.all fun c => decide (32 ≤ c) && decide (c ≤ 126) && decide (c ≠ 37)) = true := by decide +kernel
theorem ts_len : TS.cps.toList.length = TS.length := Array.length_toList
theorem ts_at {i : Int} (h0 : 0 ≤ i) (h1 : i < (TS.length : Nat)) : ∃ c, atI TS.cps.toList i = some c ∧ sgn c := by
  obtain ⟨v, e, _, hm⟩ := atI_in (xs := TS.cps.toList) h0 (by rw [ts_len]; exact h1)
  refine ⟨v, e, ?_⟩
  have z := List.all_eq_true.mp ts_all v hm
  rw [Bool.and_eq_true, Bool.and_eq_true] at z
  exact ⟨of_decide_eq_true z.1.1, of_decide_eq_true z.1.2, of_decide_eq_true z.2⟩
def spTxt : Sp := fun vs H Q _ => ∃ (b : Addr) (n : Nat), vs = [.ref b] ∧ Bag H b n ∧ n + 40 ≤ most ∧
  ∀ (z : Str) (H' : Hp), z.length ≤ 20 → (∀ c ∈ z.cps.toList, sgn c) → Kp b H H' → Bag H' b (n + 30) → Q (.str z) H'
section
variable {P : Program} {w : World} {K : PySem.W.Frag} {mg : Str → Option Value} {base : Heap}
end
end Fh

set_option Elab.async false
set_option linter.all false
set_option maxRecDepth 100000
set_option maxHeartbeats 4000000
namespace Fh
open PySem L2 PyProof.Rows
/-! ### rows made right: their least sizes are at most 60 -/
def kS (D : Szs) : Kn → Option Int
  | .lst _ => some 1
  | .one (.rc z) => D z
  | .one (.ch _) => some 1
  | .one _ => some 0
def grow (D : Szs) (k : Kn) : Int := (kS D k).getD 99
def rgM (D : Szs) (sz : Int) (g : Fl) : Bool := g.must && !decide (60 < sz + grow D g.kd + 3)
def rgF (D : Szs) (sz : Int) (g : Fl) : Fl := ⟨g.num, g.nam, g.kd, rgM D sz g⟩
def rgZ (D : Szs) (sz : Int) (g : Fl) : Int := sz + (grow D g.kd + 3) * (if rgM D sz g = true then 1 else 0)
def rgL (D : Szs) (l : List Fl) : List Fl × Int := l.foldl (fun a g => (a.1 ++ [rgF D a.2 g], rgZ D a.2 g)) ([], 0)
theorem rgL_add (D : Szs) (l : List Fl) (g : Fl) : rgL D (l ++ [g]) = ((rgL D l).1 ++ [rgF D (rgL D l).2 g], rgZ D (rgL D l).2 g) := by
  unfold rgL
  rw [List.foldl_append]
  rfl
/-- sizes are within 0 and 60 -/
def D60 (D : Szs) : Prop := ∀ z v, D z = some v → 0 ≤ v ∧ v ≤ 60
theorem kS_nn {D : Szs} (h : D60 D) {k : Kn} {v : Int} (e : kS D k = some v) : 0 ≤ v := by
  cases k with
  | lst b => cases e; decide
  | one b =>
    cases b with
    | rc z => exact (h z v e).1
    | whole => cases e; decide
    | truth => cases e; decide
    | text => cases e; decide
    | ch c => cases e; decide
theorem grow_nn {D : Szs} (h : D60 D) (k : Kn) : 0 ≤ grow D k := by
  unfold grow
  cases e : kS D k with
  | none => decide
  | some v => exact kS_nn h e
structure RgOk (D : Szs) (l l' : List Fl) (s : Int) : Prop where
  nam : l'.map (·.nam) = l.map (·.nam)
  num : l'.map (·.num) = l.map (·.num)
  kd : l'.map (·.kd) = l.map (·.kd)
  lo : 0 ≤ s
  hi : s ≤ 60
  all : ∀ k ∈ mustKs l', ∃ v, kS D k = some v ∧ 0 ≤ v ∧ v ≤ 57
  sum : s = ((mustKs l').map fun k => grow D k + 3).sum
theorem rgL_ok {D : Szs} (h : D60 D) (l : List Fl) : RgOk D l (rgL D l).1 (rgL D l).2 := by
  have key : ∀ n, RgOk D (l.take n) (rgL D (l.take n)).1 (rgL D (l.take n)).2 := by
    intro n
    induction n with
    | zero => exact ⟨rfl, rfl, rfl, (by decide : (0 : Int) ≤ 0), (by decide : (0 : Int) ≤ 60), (fun k hk => by cases hk), rfl⟩
    | succ n ih =>
      cases hg : l[n]? with
      | none =>
        have e : l.take (n + 1) = l.take n := by rw [List.take_add_one, hg]; exact List.append_nil _
        rw [e]
        exact ih
      | some g =>
        have e : l.take (n + 1) = l.take n ++ [g] := by rw [List.take_add_one, hg]; rfl
        rw [e, rgL_add]
        generalize rgL D (l.take n) = a at *
        obtain ⟨l', s⟩ := a
        have g0 := grow_nn h g.kd
        have mk : mustKs (l' ++ [rgF D s g]) = mustKs l' ++ (if rgM D s g = true then [g.kd] else []) := by
          rw [mustKs_add]
          congr 1
          unfold mustKs
          rw [List.filter_cons]
          show (if rgM D s g = true then _ else _ : List Fl).map _ = _
          split <;> rfl
        refine ⟨?_, ?_, ?_, ?_, ?_, ?_, ?_⟩
        · rw [List.map_append, List.map_append, ih.nam]; rfl
        · rw [List.map_append, List.map_append, ih.num]; rfl
        · rw [List.map_append, List.map_append, ih.kd]; rfl
        · show 0 ≤ rgZ D s g
          have := ih.lo
          unfold rgZ
          split <;> omega
        · show rgZ D s g ≤ 60
          have h1 := ih.hi
          unfold rgZ
          split
          · rename_i hm
            unfold rgM at hm
            rw [Bool.and_eq_true] at hm
            have : ¬ 60 < s + grow D g.kd + 3 := fun z => by
              have := hm.2
              rw [decide_eq_true z] at this
              cases this
            omega
          · have h1 : s ≤ 60 := h1
            omega
        · show ∀ k ∈ mustKs (l' ++ [rgF D s g]), _
          rw [mk]
          intro k hk
          rcases List.mem_append.mp hk with hk | hk
          · exact ih.all k hk
          · split at hk
            · rename_i hm
              rw [List.mem_singleton.mp hk]
              unfold rgM at hm
              rw [Bool.and_eq_true] at hm
              have : ¬ 60 < s + grow D g.kd + 3 := fun z => by
                have := hm.2
                rw [decide_eq_true z] at this
                cases this
              have s0 : 0 ≤ s := ih.lo
              unfold grow at this g0
              cases e : kS D g.kd with
              | none =>
                rw [e] at this
                simp at this
                omega
              | some v =>
                rw [e] at this g0
                simp at this g0
                exact ⟨v, rfl, g0, by omega⟩
            · cases hk
        · show rgZ D s g = ((mustKs (l' ++ [rgF D s g])).map fun k => grow D k + 3).sum
          rw [mk, List.map_append, List.sum_append, ← ih.sum]
          unfold rgZ
          show s + _ = s + _
          split
          · simp
          · simp
  have k := key l.length
  rw [List.take_length] at k
  exact k
def rgR (P : List Rec) : List Rec × Szs := P.foldl (fun a r => (a.1 ++ [(r.1, (rgL a.2 r.2).1)], putS a.2 r.1 (some (rgL a.2 r.2).2))) ([], fun _ => none)
theorem rgR_add (P : List Rec) (r : Rec) : rgR (P ++ [r]) = ((rgR P).1 ++ [(r.1, (rgL (rgR P).2 r.2).1)], putS (rgR P).2 r.1 (some (rgL (rgR P).2 r.2).2)) := by
  unfold rgR
  rw [List.foldl_append]
  rfl
theorem D60.put {D : Szs} (h : D60 D) {x : Str} {v : Int} (h0 : 0 ≤ v) (h1 : v ≤ 60) : D60 (putS D x (some v)) := fun z u e => by
  unfold putS at e
  dsimp only at e
  split at e
  · cases e
    exact ⟨h0, h1⟩
  · exact h z u e
theorem rgR_60 (P : List Rec) : ∀ n, D60 (rgR (P.take n)).2 := by
  intro n
  induction n with
  | zero => exact fun z v e => by cases e
  | succ n ih =>
    cases hr : P[n]? with
    | none =>
      have e : P.take (n + 1) = P.take n := by rw [List.take_add_one, hr]; exact List.append_nil _
      rw [e]
      exact ih
    | some r =>
      have e : P.take (n + 1) = P.take n ++ [r] := by rw [List.take_add_one, hr]; rfl
      rw [e, rgR_add]
      have ok := rgL_ok ih r.2
      exact ih.put ok.lo ok.hi
/-- the first option of each choice is told by one number -/
def Ch1 (F : Fc) : Prop := ∀ c, nameIn c F.c = true → ∃ o os, F.cs.lookup c = some (o :: os) ∧ 1 ≤ o.1 ∧ o.1 ≤ 200
theorem dv_k2 {F : Fc} (fo : FcOk F) (c1 : Ch1 F) {N : Nat} {D : Szs} (h : DV F (N + 1) D) {k : Kn} (nb : nobK F.c F.r k = false) {v : Int} (e : kS D k = some v) : Wfr F (N + 1) k ∧ lsz F (N + 1) k = v := by
  cases k with
  | lst b => cases e; exact ⟨nb, rfl⟩
  | one b =>
    cases b with
    | whole => cases e; exact ⟨True.intro, rfl⟩
    | truth => cases e; exact ⟨True.intro, rfl⟩
    | text => cases e; exact ⟨True.intro, rfl⟩
    | rc z => exact h z v e
    | ch c =>
      cases e
      have ni : nameIn c F.c = true := by
        have : (!nameIn c F.c) = false := nb
        simpa using this
      obtain ⟨o, os, lk, n1, n2⟩ := c1 c ni
      refine ⟨⟨o, os, lk⟩, ?_⟩
      have op : opts F c = o :: os := by unfold opts; rw [lk]; rfl
      show (((digs (optN F c (((opts F c).head?.map Prod.snd).getD ""))).length : Nat) : Int) = 1
      have on : optN F c o.2 = o.1.toNat := by
        unfold optN
        rw [op]
        rw [List.find?_cons, decide_eq_true rfl]
        rfl
      rw [op]
      show (((digs (optN F c o.2)).length : Nat) : Int) = 1
      rw [on]
      unfold digs
      rw [dg_pos (by omega : 0 < o.1.toNat), show o.1.toNat / 256 = 0 by omega, dg_zero]
      rfl
theorem rgR_dv {F : Fc} (fo : FcOk F) (c1 : Ch1 F) (P : List Rec) (hr : ∀ r ∈ (rgR P).1, F.rs.lookup r.1 = some r.2) (nn : ∀ r ∈ (rgR P).1, ∀ f ∈ r.2, nobK F.c F.r f.kd = false) : DV F (P.length + 1) (rgR P).2 := by
  have key : ∀ n, (∀ r ∈ (rgR (P.take n)).1, r ∈ (rgR P).1) → DV F (n + 1) (rgR (P.take n)).2 := by
    intro n
    induction n with
    | zero => exact fun _ z v e => by cases e
    | succ n ih =>
      intro sub
      cases hp : P[n]? with
      | none =>
        have e : P.take (n + 1) = P.take n := by rw [List.take_add_one, hp]; exact List.append_nil _
        rw [e] at sub ⊢
        intro z v hz
        obtain ⟨a, b⟩ := ih sub z v hz
        exact ⟨wf_up a, by rw [lsz_up fo a, b]⟩
      | some r =>
        have e : P.take (n + 1) = P.take n ++ [r] := by rw [List.take_add_one, hp]; rfl
        rw [e, rgR_add] at sub ⊢
        have h := ih fun x hx => sub x (List.mem_append_left _ hx)
        have d60 := rgR_60 P n
        have ok := rgL_ok d60 r.2
        have mem := sub _ (List.mem_append_right _ (List.mem_singleton.mpr rfl))
        have lk := hr _ mem
        have nb := nn _ mem
        generalize rgR (P.take n) = a at *
        obtain ⟨rs, D⟩ := a
        dsimp only at h lk nb ok d60
        intro z v hz
        show Wfr F (n + 2) (.one (.rc z)) ∧ lsz F (n + 2) (.one (.rc z)) = v
        replace hz : putS D r.1 (some (rgL D r.2).2) z = some v := hz
        unfold putS at hz
        dsimp only at hz
        split at hz
        · rename_i ez
          subst ez
          cases hz
          have q : ∀ k ∈ mustKs (rgL D r.2).1, ∃ u, kS D k = some u ∧ 0 ≤ u ∧ u ≤ 57 ∧ nobK F.c F.r k = false := fun k hk => by
            obtain ⟨u, h1, h2, h3⟩ := ok.all k hk
            obtain ⟨f, hf, rfl⟩ := List.mem_map.mp hk
            exact ⟨u, h1, h2, h3, nb f (List.mem_filter.mp hf).1⟩
          refine ⟨⟨_, lk, fun g hg m => ?_⟩, ?_⟩
          · obtain ⟨u, h1, _, _, h4⟩ := q g.kd (List.mem_map.mpr ⟨g, List.mem_filter.mpr ⟨hg, m⟩, rfl⟩)
            exact (dv_k2 fo c1 h h4 h1).1
          · rw [lsz_rc fo lk, ok.sum]
            refine congrArg List.sum (List.map_congr_left fun k hk => ?_)
            obtain ⟨u, h1, h2, h3, h4⟩ := q k hk
            rw [(dv_k2 fo c1 h h4 h1).2]
            unfold grow fsz toldN
            rw [h1, if_pos (by omega)]
            show 2 + (1 + u) = u + 3
            omega
        · obtain ⟨a, b⟩ := h z v hz
          exact ⟨wf_up a, by rw [lsz_up fo a, b]⟩
  have k := key P.length
  rw [List.take_length] at k
  exact k fun r h => h
end Fh

set_option Elab.async false
set_option linter.all false
set_option maxRecDepth 100000
set_option maxHeartbeats 4000000
namespace Fh
open PySem L2 PyProof.Rows
abbrev nRig : List Str := ["_law_rows", "_law_turned", "_law_sizes", "_law_found", "_law_word", "_law_fields", "_law_size", "_law_some", "_law_number", "_law_own", "_law_kind", "_law_need", "_law_grown"]
def recT (r : Rec) : PyData := .tuple [.str r.1, fieldsD r.2]
theorem turn_at {α β : Type} (f : α → β) (d : Int) (l : List α) : (turnL d l).map f = turnL d (l.map f) := by
  unfold turnL
  split
  · rfl
  · rw [List.map_reverse]
theorem TpAll.rev {H : Hp} : ∀ {xs : List V} {ds : List PyData}, TpAll H xs ds → TpAll H xs.reverse ds.reverse
  | _, _, .nil => .nil
  | _, _, .cons a b => by
    rw [List.reverse_cons, List.reverse_cons]
    exact (TpAll.rev b).app (TpAll.one a)
theorem TpAll.turn {H : Hp} {d : Int} {xs : List V} {ds : List PyData} (h : TpAll H xs ds) : TpAll H (turnL d xs) (turnL d ds) := by
  unfold turnL
  split
  · exact h
  · exact h.rev
def g01 : Kn → Int
  | .lst _ => 1
  | .one (.rc _) => 1
  | .one (.ch _) => 1
  | _ => 0
def spRig : Sp := fun vs H Q _ => ∃ (a : Addr) (d : Int) (xs : List V) (recs : List Rec), vs = [.ref a, .int d] ∧ (d = 1 ∨ d = -1) ∧ H a = some (.lst xs) ∧ TpAll H xs (recs.map recT) ∧ recs.length ≤ 6 ∧ (∀ r ∈ recs, r.2.length ≤ 5) ∧
  ∀ (p : Addr) (ys : List V) (H' : Hp), Same H H' → H' p = some (.tup ys) → TpAll H' ys ((turnL d (rgR (turnL d recs)).1).map recT) → Q (.ref p) H'
theorem rec_at {H : Hp} {xs : List V} {recs : List Rec} {i : Nat} {x : V} (q : TpAll H xs (recs.map recT)) (e : xs[i]? = some x) :
    ∃ r t u, recs[i]? = some r ∧ x = .ref t ∧ H t = some (.tup [.str r.1, u]) ∧ Tp H u (fieldsD r.2) := by
  obtain ⟨d, e2, tx⟩ := q.get' e
  rw [List.getElem?_map] at e2
  cases hr : recs[i]? with
  | none => rw [hr] at e2; cases e2
  | some r =>
    rw [hr] at e2
    cases e2
    obtain ⟨t, x1, x2, rfl, ht, t1, t2⟩ := Tp.pair tx
    rw [t1.istr] at ht
    exact ⟨r, t, x2, rfl, rfl, ht, t2⟩
section
variable {P : Program} {w : World} {K : PySem.W.Frag} {mg : Str → Option Value} {base : Heap}
end
end Fh

set_option Elab.async false
set_option linter.all false
set_option maxRecDepth 100000
set_option maxHeartbeats 4000000
namespace Fh
open PySem L2 PyProof.Rows
/-! ### unlike values are told by unlike numbers -/
theorem told_inj {n m : Nat} {r s : List Int} (hn : n ≤ 10000) (hm : m ≤ 10000) (h : told n ++ r = told m ++ s) : n = m ∧ r = s := by
  unfold told at h
  split at h <;> split at h
  · simp at h
    exact ⟨by omega, h.2⟩
  · simp at h
    omega
  · simp at h
    omega
  · simp at h
    refine ⟨by omega, h.2.2⟩
theorem piece_inj {c d r s : List Int} (hc : c.length ≤ 10000) (hd : d.length ≤ 10000) (h : piece c ++ r = piece d ++ s) : c = d ∧ r = s := by
  unfold piece at h
  rw [List.append_assoc, List.append_assoc] at h
  obtain ⟨e, h⟩ := told_inj hc hd h
  exact List.append_inj h e
theorem piece_ne (c : List Int) : piece c ≠ [] := by
  unfold piece told
  split <;> simp
theorem flat_inj : ∀ {cs ds : List (List Int)}, (∀ c ∈ cs, c.length ≤ 10000) → (∀ d ∈ ds, d.length ≤ 10000) → (cs.map piece).flatten = (ds.map piece).flatten → cs = ds
  | [], [], _, _, _ => rfl
  | [], d :: ds, _, _, h => by
    rw [List.map_cons, List.flatten_cons] at h
    have : piece d ++ (ds.map piece).flatten = [] := h.symm
    exact absurd (List.append_eq_nil_iff.mp this).1 (piece_ne d)
  | c :: cs, [], _, _, h => by
    rw [List.map_cons, List.flatten_cons] at h
    have : piece c ++ (cs.map piece).flatten = [] := h
    exact absurd (List.append_eq_nil_iff.mp this).1 (piece_ne c)
  | c :: cs, d :: ds, hc, hd, h => by
    rw [List.map_cons, List.flatten_cons, List.map_cons, List.flatten_cons] at h
    obtain ⟨e1, e2⟩ := piece_inj (hc c List.mem_cons_self) (hd d List.mem_cons_self) h
    rw [e1, flat_inj (fun x hx => hc x (List.mem_cons_of_mem _ hx)) (fun x hx => hd x (List.mem_cons_of_mem _ hx)) e2]
theorem fp_head {E : Kn → Vl → List Int} {fs : List (Str × Vl)} : ∀ {fl : List Fl} {x : Int} {r : List Int}, (fl.map (fpiece E fs)).flatten = x :: r → ∃ g ∈ fl, g.num = x
  | [], _, _, h => by cases h
  | g :: fl, x, r, h => by
    rw [List.map_cons, List.flatten_cons] at h
    cases hl : fs.lookup g.nam with
    | none =>
      have e : fpiece E fs g = [] := by unfold fpiece; rw [hl]
      rw [e, List.nil_append] at h
      obtain ⟨g2, h1, h2⟩ := fp_head h
      exact ⟨g2, List.mem_cons_of_mem _ h1, h2⟩
    | some v =>
      have e : fpiece E fs g = g.num :: g.kd.mark :: piece (E g.kd v) := by unfold fpiece; rw [hl]
      rw [e] at h
      injection h with h1 _
      exact ⟨g, List.mem_cons_self, h1⟩
theorem fp_inj {E : Kn → Vl → List Int} {fs gs : List (Str × Vl)} : ∀ {fl : List Fl}, fl.Pairwise (fun f g => f.num < g.num) → (∀ g ∈ fl, ∀ v, fs.lookup g.nam = some v → (E g.kd v).length ≤ 10000) → (∀ g ∈ fl, ∀ v, gs.lookup g.nam = some v → (E g.kd v).length ≤ 10000) →
    (fl.map (fpiece E fs)).flatten = (fl.map (fpiece E gs)).flatten → ∀ g ∈ fl, (fs.lookup g.nam).map (E g.kd) = (gs.lookup g.nam).map (E g.kd)
  | [], _, _, _, _, _, hg => by cases hg
  | g :: fl, pw, h1, h2, h, g', hg' => by
    obtain ⟨pw1, pw2⟩ := List.pairwise_cons.mp pw
    rw [List.map_cons, List.flatten_cons, List.map_cons, List.flatten_cons] at h
    have step : (fs.lookup g.nam).map (E g.kd) = (gs.lookup g.nam).map (E g.kd) ∧ (fl.map (fpiece E fs)).flatten = (fl.map (fpiece E gs)).flatten := by
      cases hf : fs.lookup g.nam with
      | none =>
        have e1 : fpiece E fs g = [] := by unfold fpiece; rw [hf]
        cases hq : gs.lookup g.nam with
        | none =>
          have e2 : fpiece E gs g = [] := by unfold fpiece; rw [hq]
          rw [e1, e2] at h
          exact ⟨rfl, h⟩
        | some v =>
          have e2 : fpiece E gs g = g.num :: g.kd.mark :: piece (E g.kd v) := by unfold fpiece; rw [hq]
          rw [e1, e2, List.nil_append] at h
          obtain ⟨g2, m2, n2⟩ := fp_head h
          have := pw1 g2 m2
          omega
      | some u =>
        have e1 : fpiece E fs g = g.num :: g.kd.mark :: piece (E g.kd u) := by unfold fpiece; rw [hf]
        cases hq : gs.lookup g.nam with
        | none =>
          have e2 : fpiece E gs g = [] := by unfold fpiece; rw [hq]
          rw [e1, e2, List.nil_append] at h
          obtain ⟨g2, m2, n2⟩ := fp_head h.symm
          have := pw1 g2 m2
          omega
        | some v =>
          have e2 : fpiece E gs g = g.num :: g.kd.mark :: piece (E g.kd v) := by unfold fpiece; rw [hq]
          rw [e1, e2] at h
          injection h with _ h
          injection h with _ h
          obtain ⟨q1, q2⟩ := piece_inj (h1 g List.mem_cons_self u hf) (h2 g List.mem_cons_self v hq) h
          exact ⟨by show some _ = some _; rw [q1], q2⟩
    rcases List.mem_cons.mp hg' with rfl | hg'
    · exact step.1
    · exact fp_inj pw2 (fun g hg => h1 g (List.mem_cons_of_mem _ hg)) (fun g hg => h2 g (List.mem_cons_of_mem _ hg)) step.2 g' hg'
theorem digs_inj {n m : Nat} (hn : n < 256 ^ 6) (hm : m < 256 ^ 6) (h : digs n = digs m) : n = m := by
  have a := val_dg 6 n hn
  have b := val_dg 6 m hm
  unfold digs at h
  rw [h] at a
  omega
theorem cps_inj {z y : Str} (h : z.cps.toList.map (fun c : Nat => (c : Int)) = y.cps.toList.map (fun c : Nat => (c : Int))) : z = y := by
  have e : z.cps.toList = y.cps.toList := by
    have inj : Function.Injective (fun c : Nat => (c : Int)) := fun a b h => by
      have h : (a : Int) = b := h
      omega
    exact (List.map_inj_right (fun a b h => inj h)).mp h
  cases z with
  | mk a =>
    cases y with
    | mk b =>
      have e : a.toList = b.toList := e
      rw [Array.toList_inj.mp e]
theorem fp_le {E : Kn → Vl → List Int} {fs : List (Str × Vl)} {fl : List Fl} (h : ((fl.map (fpiece E fs)).flatten).length ≤ 10000) : ∀ g ∈ fl, ∀ v, fs.lookup g.nam = some v → (E g.kd v).length ≤ 10000 := fun g hg v hv => by
  have a := flat_len (List.mem_map.mpr ⟨g, hg, rfl⟩ : fpiece E fs g ∈ fl.map (fpiece E fs))
  have e : fpiece E fs g = g.num :: g.kd.mark :: piece (E g.kd v) := by unfold fpiece; rw [hv]
  rw [e] at a
  simp only [List.length_cons] at a
  have b : (E g.kd v).length ≤ (piece (E g.kd v)).length := by unfold piece; rw [List.length_append]; omega
  omega
theorem fm_congr {α β : Type} {f g : α → Option β} : ∀ {l : List α}, (∀ x ∈ l, f x = g x) → l.filterMap f = l.filterMap g
  | [], _ => rfl
  | x :: l, h => by
    rw [List.filterMap_cons, List.filterMap_cons, h x List.mem_cons_self, fm_congr fun y hy => h y (List.mem_cons_of_mem _ hy)]
theorem enc_inj {F : Fc} (fo : FcOk F) : ∀ {n : Nat} {k : Kn} {u v : Vl}, Ok F n k u → Ok F n k v → (enc F n k u).length ≤ 10000 → (enc F n k v).length ≤ 10000 → enc F n k u = enc F n k v → nrm F n k u = nrm F n k v
  | 0, _, _, _, h, _, _, _, _ => h.elim
  | n + 1, k, u, v, hu, hv, lu, lv, e => by
    cases k with
    | lst b =>
      obtain ⟨xs, rfl, _, _, q1⟩ := hu
      obtain ⟨ys, rfl, _, _, q2⟩ := hv
      have e : b.mark :: (xs.map fun x => piece (enc F n (.one b) x)).flatten = b.mark :: (ys.map fun x => piece (enc F n (.one b) x)).flatten := e
      have lu : (b.mark :: (xs.map fun x => piece (enc F n (.one b) x)).flatten).length ≤ 10000 := lu
      have lv : (b.mark :: (ys.map fun x => piece (enc F n (.one b) x)).flatten).length ≤ 10000 := lv
      rw [List.length_cons] at lu lv
      injection e with _ e
      have ex : ∀ zs : List Vl, (zs.map fun x => piece (enc F n (.one b) x)) = (zs.map (enc F n (.one b))).map piece := fun zs => by rw [List.map_map]; rfl
      have le : ∀ (zs : List Vl), ((zs.map fun x => piece (enc F n (.one b) x)).flatten).length + 1 ≤ 10000 → ∀ z ∈ zs, (enc F n (.one b) z).length ≤ 10000 := fun zs h z hz => by
        have a := flat_len (List.mem_map.mpr ⟨z, hz, rfl⟩ : piece (enc F n (.one b) z) ∈ zs.map fun x => piece (enc F n (.one b) x))
        have c : (enc F n (.one b) z).length ≤ (piece (enc F n (.one b) z)).length := by unfold piece; rw [List.length_append]; omega
        omega
      have lx := le xs lu
      have ly := le ys lv
      rw [ex, ex] at e
      have e2 := flat_inj (fun c hc => by obtain ⟨z, hz, rfl⟩ := List.mem_map.mp hc; exact lx z hz) (fun c hc => by obtain ⟨z, hz, rfl⟩ := List.mem_map.mp hc; exact ly z hz) e
      show Vl.lst (xs.map (nrm F n (.one b))) = Vl.lst (ys.map (nrm F n (.one b)))
      have key : ∀ {xs ys : List Vl}, (∀ x ∈ xs, Ok F n (.one b) x) → (∀ x ∈ ys, Ok F n (.one b) x) → (∀ z ∈ xs, (enc F n (.one b) z).length ≤ 10000) → (∀ z ∈ ys, (enc F n (.one b) z).length ≤ 10000) → xs.map (enc F n (.one b)) = ys.map (enc F n (.one b)) → xs.map (nrm F n (.one b)) = ys.map (nrm F n (.one b)) := by
        intro xs
        induction xs with
        | nil =>
          intro ys _ _ _ _ h
          cases ys with
          | nil => rfl
          | cons y ys => cases h
        | cons x xs ih =>
          intro ys h1 h2 l1 l2 h
          cases ys with
          | nil => cases h
          | cons y ys =>
            rw [List.map_cons, List.map_cons] at h ⊢
            injection h with ha hb
            rw [enc_inj fo (h1 x List.mem_cons_self) (h2 y List.mem_cons_self) (l1 x List.mem_cons_self) (l2 y List.mem_cons_self) ha, ih (fun z hz => h1 z (List.mem_cons_of_mem _ hz)) (fun z hz => h2 z (List.mem_cons_of_mem _ hz)) (fun z hz => l1 z (List.mem_cons_of_mem _ hz)) (fun z hz => l2 z (List.mem_cons_of_mem _ hz)) hb]
      rw [key q1 q2 lx ly e2]
    | one b =>
      cases b with
      | whole =>
        obtain ⟨i, rfl, i0, i1⟩ := hu
        obtain ⟨j, rfl, j0, j1⟩ := hv
        have e : digs i.toNat = digs j.toNat := e
        have := digs_inj (Nat.lt_of_le_of_lt (by omega : i.toNat ≤ 1000000000) (by decide)) (Nat.lt_of_le_of_lt (by omega : j.toNat ≤ 1000000000) (by decide)) e
        have e2 : i = j := by omega
        rw [e2]
      | truth =>
        obtain ⟨a, rfl⟩ := hu
        obtain ⟨b, rfl⟩ := hv
        have e : (if a = true then [(1 : Int)] else []) = (if b = true then [(1 : Int)] else []) := e
        cases a <;> cases b <;> first | rfl | (simp at e)
      | text =>
        obtain ⟨z, rfl, _⟩ := hu
        obtain ⟨y, rfl, _⟩ := hv
        rw [cps_inj e]
      | ch c =>
        obtain ⟨u', os, m, rfl, lk, hm⟩ := hu
        obtain ⟨v', os', m', rfl, lk', hm'⟩ := hv
        rw [lk] at lk'
        cases lk'
        have ok : OptsOk os := fo.ops (c, os) (look_mem lk)
        have on := fo.on (c, os) (look_mem lk)
        have e1 := optN_of lk ok hm
        have e2 := optN_of lk ok hm'
        have r1 := ok.rg _ hm
        have r2 := ok.rg _ hm'
        have e : digs (optN F c u') = digs (optN F c v') := e
        have d := digs_inj (Nat.lt_of_le_of_lt (by omega : optN F c u' ≤ 200) (by decide)) (Nat.lt_of_le_of_lt (by omega : optN F c v' ≤ 200) (by decide)) e
        have em : m = m' := by omega
        subst em
        have eq : u' = v' := by
          have nd : (os.map Prod.fst).Nodup := on
          clear e1 e2 e d lk ok on r1 r2
          induction os with
          | nil => cases hm
          | cons o os ih =>
            rw [List.map_cons, List.nodup_cons] at nd
            rcases List.mem_cons.mp hm with rfl | h1
            · rcases List.mem_cons.mp hm' with h2 | h2
              · injection h2 with _ h2
                exact h2.symm
              · exact absurd (List.mem_map.mpr ⟨_, h2, rfl⟩) nd.1
            · rcases List.mem_cons.mp hm' with h2 | h2
              · subst h2
                exact absurd (List.mem_map.mpr ⟨_, h1, rfl⟩) nd.1
              · exact ih h1 h2 nd.2
        rw [eq]
      | rc z =>
        obtain ⟨fl, fs, rfl, lk, _, _, q1, _⟩ := hu
        obtain ⟨fl', gs, rfl, lk', _, _, q2, _⟩ := hv
        rw [lk] at lk'
        cases lk'
        have fz : flds F z = fl := by unfold flds; rw [lk]; rfl
        have e : ((flds F z).map (fpiece (enc F n) fs)).flatten = ((flds F z).map (fpiece (enc F n) gs)).flatten := e
        have lu : (((flds F z).map (fpiece (enc F n) fs)).flatten).length ≤ 10000 := lu
        have lv : (((flds F z).map (fpiece (enc F n) gs)).flatten).length ≤ 10000 := lv
        rw [fz] at e lu lv
        have l1 := fp_le lu
        have l2 := fp_le lv
        have r := fp_inj (fo.rise _ (look_mem lk)) l1 l2 e
        show Vl.rcd ((flds F z).filterMap fun g => (fs.lookup g.nam).map fun w => (g.nam, nrm F n g.kd w)) = Vl.rcd ((flds F z).filterMap fun g => (gs.lookup g.nam).map fun w => (g.nam, nrm F n g.kd w))
        rw [fz]
        refine congrArg Vl.rcd (fm_congr fun g hg => ?_)
        have rg := r g hg
        cases hf : fs.lookup g.nam with
        | none =>
          cases hq : gs.lookup g.nam with
          | none => rfl
          | some y => rw [hf, hq] at rg; cases rg
        | some x =>
          cases hq : gs.lookup g.nam with
          | none => rw [hf, hq] at rg; cases rg
          | some y =>
            rw [hf, hq] at rg
            have rg : enc F n g.kd x = enc F n g.kd y := Option.some.inj rg
            show some (g.nam, nrm F n g.kd x) = some (g.nam, nrm F n g.kd y)
            rw [enc_inj fo (q1 g hg x hf) (q2 g hg y hq) (l1 g hg x hf) (l2 g hg y hq) rg]
end Fh

set_option Elab.async false
set_option linter.all false
set_option maxRecDepth 100000
set_option maxHeartbeats 4000000
namespace Fh
open PySem L2 PyProof.Rows
abbrev nLl : List Str := ["_law_parts_here", "_law_kind", "_law_one"]
/-- the drawn parts of a face -/
def PartsP (H : Hp) (p : Addr) (F : Fc) : Prop := ∃ (v1 v2 : V) (c r e : Addr), H p = some (.tup [v1, v2, .ref c, .ref r, .ref e]) ∧ TpR H (.ref c) (rowsD F.c) ∧ TpR H (.ref r) (rowsD F.r) ∧ H e = some (.tup [])
theorem PartsP.same {H H' : Hp} {p : Addr} {F : Fc} (h : PartsP H p F) (s : Same H H') : PartsP H' p F := by
  obtain ⟨v1, v2, c, r, e, h1, h2, h3, h4⟩ := h
  exact ⟨v1, v2, c, r, e, s _ _ h1, h2.same s, h3.same s, s _ _ h4⟩
def spLl (n : Nat) : Sp := fun vs H Q _ => ∃ (p : Addr) (v : V) (k : Kn) (F : Fc), vs = [.ref p, v] ∧ PartsP H p F ∧ FcOk F ∧ Tp H v k.d ∧ Wfr F n k ∧ ∀ (x : V) (H' : Hp), Same H H' → VD (Nw H H') x (lv F n k) → Q x H'
def plK : List (Key × V) := [(Sum.inr "whole", V.int 0), (Sum.inr "truth", V.bl false), (Sum.inr "text", V.str "")]
theorem merge_new : ∀ {kvs acc : List (Key × V)}, ((acc ++ kvs).map Prod.fst).Nodup → mergeK acc kvs = acc ++ kvs
  | [], acc, _ => (List.append_nil acc).symm
  | (k, v) :: kvs, acc, h => by
    have h2 : ((acc ++ [(k, v)] ++ kvs).map Prod.fst).Nodup := by rw [List.append_assoc]; exact h
    have nk : k ∉ acc.map Prod.fst := fun hm => by
      rw [List.map_append, List.nodup_append] at h
      exact h.2.2 k hm k (by rw [List.map_cons]; exact List.mem_cons_self) rfl
    show mergeK (putK acc k v) kvs = _
    rw [putK_new nk, merge_new h2, List.append_assoc]
    rfl
theorem pr_up {α β : Type} {R S : α → β → Prop} (h : ∀ a b, R a b → S a b) : ∀ {xs : List α} {ys : List β}, Paired R xs ys → Paired S xs ys
  | _, _, .nil => .nil
  | _, _, .cons a b => .cons (h _ _ a) (pr_up h b)
theorem pr_app {α β : Type} {R : α → β → Prop} : ∀ {xs xs' : List α} {ys ys' : List β}, Paired R xs ys → Paired R xs' ys' → Paired R (xs ++ xs') (ys ++ ys')
  | _, _, _, _, .nil, q => q
  | _, _, _, _, .cons a b, q => .cons a (pr_app b q)
section
variable {P : Program} {w : World} {K : PySem.W.Frag} {mg : Str → Option Value} {base : Heap}
end
end Fh

set_option Elab.async false
set_option linter.all false
set_option maxRecDepth 100000
set_option maxHeartbeats 4000000
namespace Fh
open PySem L2 PyProof.Rows
/-! ### a higher rank says the same; how long a value's numbers can be -/
theorem ok_up {F : Fc} : ∀ {n : Nat} {k : Kn} {v : Vl}, Ok F n k v → Ok F (n + 1) k v
  | 0, _, _, h => h.elim
  | n + 1, k, v, h => by
    cases k with
    | lst b =>
      obtain ⟨xs, e, nb, l, q⟩ := h
      exact ⟨xs, e, nb, l, fun x hx => ok_up (q x hx)⟩
    | one b =>
      cases b with
      | whole => exact h
      | truth => exact h
      | text => exact h
      | ch c => exact h
      | rc z =>
        obtain ⟨fl, fs, e, lk, nd, inn, q, must⟩ := h
        exact ⟨fl, fs, e, lk, nd, inn, fun g hg w hw => ok_up (q g hg w hw), must⟩
theorem ok_le {F : Fc} {n m : Nat} {k : Kn} {v : Vl} (h : Ok F n k v) (l : n ≤ m) : Ok F m k v := by
  induction l with
  | refl => exact h
  | step _ ih => exact ok_up ih
theorem enc_le {F : Fc} {n m : Nat} {k : Kn} {v : Vl} (h : Ok F n k v) (l : n ≤ m) : enc F m k v = enc F n k v := by
  induction l with
  | refl => rfl
  | step l ih => rw [enc_up (ok_le h l), ih]
theorem piece_len {c : List Int} {B : Nat} (h : c.length ≤ B) : (piece c).length ≤ 2 + B := by
  unfold piece told
  rw [List.length_append]
  split
  · show 1 + _ ≤ _
    omega
  · show 2 + _ ≤ _
    omega
theorem flat_sum {α : Type} {B : Nat} : ∀ {ls : List (List α)}, (∀ l ∈ ls, l.length ≤ B) → ls.flatten.length ≤ ls.length * B
  | [], _ => Nat.zero_le _
  | l :: ls, h => by
    rw [List.flatten_cons, List.length_append, List.length_cons, Nat.add_mul]
    have a := h l List.mem_cons_self
    have b := flat_sum (ls := ls) fun x hx => h x (List.mem_cons_of_mem _ hx)
    omega
theorem rec_len {F : Fc} {n B : Nat} {z : Str} {fl : List Fl} {fs : List (Str × Vl)} (lk : F.rs.lookup z = some fl) (l5 : fl.length ≤ 5) (h : ∀ g ∈ fl, ∀ w, fs.lookup g.nam = some w → (enc F n g.kd w).length ≤ B) : (enc F (n + 1) (.one (.rc z)) (.rcd fs)).length ≤ 5 * (4 + B) := by
  have fz : flds F z = fl := by unfold flds; rw [lk]; rfl
  show (((flds F z).map (fpiece (enc F n) fs)).flatten).length ≤ _
  rw [fz]
  have a := flat_sum (B := 4 + B) (ls := fl.map (fpiece (enc F n) fs)) fun l hl => by
    obtain ⟨g, hg, rfl⟩ := List.mem_map.mp hl
    unfold fpiece
    cases hw : fs.lookup g.nam with
    | none => exact Nat.zero_le _
    | some w =>
      have := piece_len (h g hg w hw)
      show (piece (enc F n g.kd w)).length + 1 + 1 ≤ _
      omega
  rw [List.length_map] at a
  exact Nat.le_trans a (Nat.mul_le_mul_right _ l5)
theorem lst_len {F : Fc} {n B m : Nat} {b : Kb} {xs : List Vl} (lm : xs.length ≤ m) (h : ∀ x ∈ xs, (enc F n (.one b) x).length ≤ B) : (enc F (n + 1) (.lst b) (.lst xs)).length ≤ 1 + m * (2 + B) := by
  show (b.mark :: (xs.map fun x => piece (enc F n (.one b) x)).flatten).length ≤ _
  rw [List.length_cons]
  have a := flat_sum (B := 2 + B) (ls := xs.map fun x => piece (enc F n (.one b) x)) fun l hl => by
    obtain ⟨x, hx, rfl⟩ := List.mem_map.mp hl
    exact piece_len (h x hx)
  rw [List.length_map] at a
  have := Nat.mul_le_mul_right (2 + B) lm
  omega
/-- the most numbers of a value drawn at a depth -/
def vb : Nat → Nat
  | 0 => 60
  | 1 => 373
  | 2 => 1885
  | _ => 9445
theorem plain_len {F : Fc} {n : Nat} {b : Kb} {v : Vl} (hb : ∀ z, b ≠ .rc z) (h : Ok F n (.one b) v) : (enc F n (.one b) v).length ≤ 20 := by
  cases n with
  | zero => exact h.elim
  | succ n =>
    cases b with
    | whole =>
      obtain ⟨i, rfl, _⟩ := h
      exact Nat.le_trans (dg_len 6 _) (by decide)
    | truth =>
      obtain ⟨b, rfl⟩ := h
      show (if b = true then [(1 : Int)] else []).length ≤ 20
      split <;> decide
    | text =>
      obtain ⟨z, rfl, l, _⟩ := h
      show (z.cps.toList.map _).length ≤ 20
      rw [List.length_map, Array.length_toList]
      exact l
    | ch c =>
      obtain ⟨u, os, m, rfl, _⟩ := h
      exact Nat.le_trans (dg_len 6 _) (by decide)
    | rc z => exact absurd rfl (hb z)
end Fh

set_option Elab.async false
set_option linter.all false
set_option maxRecDepth 100000
set_option maxHeartbeats 4000000
namespace Fh
open PySem L2 PyProof.Rows
/-! ### == of two values of one kind, with its truth -/
theorem pairs_ext {α β : Type} : ∀ {fs gs : List (α × β)}, fs.map Prod.fst = gs.map Prod.fst → fs.map Prod.snd = gs.map Prod.snd → fs = gs
  | [], [], _, _ => rfl
  | [], _ :: _, h, _ => by cases h
  | _ :: _, [], h, _ => by cases h
  | (a, b) :: fs, (c, d) :: gs, h1, h2 => by
    rw [List.map_cons, List.map_cons] at h1 h2
    injection h1 with h1 h1'
    injection h2 with h2 h2'
    have h1 : a = c := h1
    have h2 : b = d := h2
    rw [h1, h2, pairs_ext h1' h2']
mutual
theorem VD.det {H : Hp} {x : V} {u v : Vl} : VD H x u → VD H x v → u = v
  | .num i, h => by cases h; rfl
  | .tru b, h => by cases h; rfl
  | .txt z, h => by cases h; rfl
  | .lst e q, h => by
    cases h with
    | lst e' q' =>
      rw [e] at e'
      cases e'
      rw [VDs.det q q']
    | rcd e' _ _ =>
      rw [e] at e'
      cases e'
  | .rcd (fs := fs) e k q, h => by
    cases h with
    | @rcd _ _ gs e' k' q' =>
      rw [e] at e'
      cases e'
      have hv := VDs.det q q'
      have hk : fs.map Prod.fst = gs.map Prod.fst := by
        have z : fs.map (fun f => (Sum.inr f.1 : Key)) = gs.map (fun f => (Sum.inr f.1 : Key)) := by rw [← k, ← k']
        have z2 : (fs.map Prod.fst).map (Sum.inr : Str → Key) = (gs.map Prod.fst).map Sum.inr := by rw [List.map_map, List.map_map]; exact z
        exact (List.map_inj_right (fun a b h => Sum.inr.inj h)).mp z2
      have e3 : fs = gs := pairs_ext hk hv
      rw [e3]
    | lst e' _ =>
      rw [e] at e'
      cases e'
theorem VDs.det {H : Hp} {xs : List V} {us vs : List Vl} : VDs H xs us → VDs H xs vs → us = vs
  | .nil, h => by cases h; rfl
  | .cons a q, h => by
    cases h with
    | cons a' q' => rw [VD.det a a', VDs.det q q']
end
theorem fp_congr {E : Kn → Vl → List Int} {fs gs : List (Str × Vl)} {fl : List Fl} (h : ∀ g ∈ fl, (fs.lookup g.nam).map (E g.kd) = (gs.lookup g.nam).map (E g.kd)) : (fl.map (fpiece E fs)).flatten = (fl.map (fpiece E gs)).flatten := by
  refine congrArg List.flatten (List.map_congr_left fun g hg => ?_)
  have r := h g hg
  unfold fpiece
  cases hf : fs.lookup g.nam with
  | none =>
    cases hq : gs.lookup g.nam with
    | none => rfl
    | some y => rw [hf, hq] at r; cases r
  | some x =>
    cases hq : gs.lookup g.nam with
    | none => rw [hf, hq] at r; cases r
    | some y =>
      rw [hf, hq] at r
      have r : E g.kd x = E g.kd y := Option.some.inj r
      show g.num :: g.kd.mark :: piece (E g.kd x) = g.num :: g.kd.mark :: piece (E g.kd y)
      rw [r]
theorem subN_len : ∀ {as bs : List Str}, as.Nodup → (∀ x ∈ as, x ∈ bs) → as.length ≤ bs.length
  | [], _, _, _ => Nat.zero_le _
  | a :: as, bs, nd, h => by
    rw [List.nodup_cons] at nd
    have m := h a List.mem_cons_self
    have ih := subN_len (as := as) (bs := bs.erase a) nd.2 fun x hx => (List.mem_erase_of_ne (a := x) (b := a) (fun e => nd.1 (by rw [← e]; exact hx))).mpr (h x (List.mem_cons_of_mem _ hx))
    rw [List.length_erase_of_mem m] at ih
    have p := List.length_pos_of_mem m
    rw [List.length_cons]
    omega
theorem subN_all {as bs : List Str} (nd : as.Nodup) (h : ∀ x ∈ as, x ∈ bs) (l : bs.length ≤ as.length) : ∀ b ∈ bs, b ∈ as := fun b hb => by
  by_cases c : b ∈ as
  · exact c
  · have z := subN_len (as := as) (bs := bs.erase b) nd fun x hx => (List.mem_erase_of_ne (a := x) (b := b) (fun e => c (by rw [← e]; exact hx))).mpr (h x hx)
    rw [List.length_erase_of_mem hb] at z
    have p := List.length_pos_of_mem hb
    omega
/-- fields of one record that fit as the dicts' own == asks -/
theorem rec_eq {F : Fc} {n : Nat} {z : Str} {fl : List Fl} {fs gs : List (Str × Vl)} (fo : FcOk F) (lk : F.rs.lookup z = some fl) (nd1 : (fs.map Prod.fst).Nodup) (nd2 : (gs.map Prod.fst).Nodup) (in1 : ∀ f ∈ fs, ∃ g ∈ fl, g.nam = f.1) (in2 : ∀ f ∈ gs, ∃ g ∈ fl, g.nam = f.1)
    (l1 : (enc F (n + 1) (.one (.rc z)) (.rcd fs)).length ≤ 10000) (l2 : (enc F (n + 1) (.one (.rc z)) (.rcd gs)).length ≤ 10000) :
    enc F (n + 1) (.one (.rc z)) (.rcd fs) = enc F (n + 1) (.one (.rc z)) (.rcd gs) ↔ fs.length = gs.length ∧ ∀ f ∈ fs, ∃ v, gs.lookup f.1 = some v ∧ ∀ g ∈ fl, g.nam = f.1 → enc F n g.kd f.2 = enc F n g.kd v := by
  have fz : flds F z = fl := by unfold flds; rw [lk]; rfl
  have nf : (fl.map (·.nam)).Nodup := fo.nf _ (look_mem lk)
  have e1 : enc F (n + 1) (.one (.rc z)) (.rcd fs) = (fl.map (fpiece (enc F n) fs)).flatten := by
    show ((flds F z).map (fpiece (enc F n) fs)).flatten = _
    rw [fz]
  have e2 : enc F (n + 1) (.one (.rc z)) (.rcd gs) = (fl.map (fpiece (enc F n) gs)).flatten := by
    show ((flds F z).map (fpiece (enc F n) gs)).flatten = _
    rw [fz]
  rw [e1] at l1 ⊢
  rw [e2] at l2 ⊢
  have sub : ∀ {as bs : List (Str × Vl)}, (as.map Prod.fst).Nodup → (∀ f ∈ as, ∃ v, bs.lookup f.1 = some v) → as.length ≤ bs.length := fun {as bs} nd h => by
    have s : ∀ x ∈ as.map Prod.fst, x ∈ bs.map Prod.fst := fun x hx => by
      obtain ⟨f, hf, rfl⟩ := List.mem_map.mp hx
      obtain ⟨v, hv⟩ := h f hf
      exact List.mem_map.mpr ⟨_, look_mem hv, rfl⟩
    have := subN_len nd s
    rwa [List.length_map, List.length_map] at this
  constructor
  · intro e
    have r := fp_inj (fo.rise _ (look_mem lk)) (fp_le l1) (fp_le l2) e
    have one : ∀ {as bs : List (Str × Vl)}, (as.map Prod.fst).Nodup → (∀ f ∈ as, ∃ g ∈ fl, g.nam = f.1) → (∀ g ∈ fl, (as.lookup g.nam).map (enc F n g.kd) = (bs.lookup g.nam).map (enc F n g.kd)) → ∀ f ∈ as, ∃ v, bs.lookup f.1 = some v ∧ ∀ g ∈ fl, g.nam = f.1 → enc F n g.kd f.2 = enc F n g.kd v := fun {as bs} nd inn r f hf => by
      obtain ⟨g, hg, en⟩ := inn f hf
      have lf := look_self nd f hf
      have rg := r g hg
      rw [en, lf] at rg
      cases hv : bs.lookup f.1 with
      | none => rw [hv] at rg; cases rg
      | some v =>
        refine ⟨v, rfl, fun g2 hg2 en2 => ?_⟩
        have rg2 := r g2 hg2
        rw [en2, lf, hv] at rg2
        exact Option.some.inj rg2
    have o1 := one nd1 in1 r
    have o2 := one nd2 in2 fun g hg => (r g hg).symm
    refine ⟨Nat.le_antisymm (sub nd1 fun f hf => ?_) (sub nd2 fun f hf => ?_), o1⟩
    · obtain ⟨v, hv, _⟩ := o1 f hf
      exact ⟨v, hv⟩
    · obtain ⟨v, hv, _⟩ := o2 f hf
      exact ⟨v, hv⟩
  · rintro ⟨el, h⟩
    refine fp_congr fun g hg => ?_
    cases hf : fs.lookup g.nam with
    | some x =>
      obtain ⟨v, hv, q⟩ := h (g.nam, x) (look_mem hf)
      have hv : gs.lookup g.nam = some v := hv
      rw [hv]
      exact congrArg some (q g hg rfl)
    | none =>
      cases hq : gs.lookup g.nam with
      | none => rfl
      | some y =>
        exfalso
        have s : ∀ x ∈ fs.map Prod.fst, x ∈ gs.map Prod.fst := fun x hx => by
          obtain ⟨f, hf, rfl⟩ := List.mem_map.mp hx
          obtain ⟨v, hv, _⟩ := h f hf
          exact List.mem_map.mpr ⟨_, look_mem hv, rfl⟩
        have m : g.nam ∈ fs.map Prod.fst := subN_all nd1 s (by rw [List.length_map, List.length_map, el]; exact Nat.le_refl _) _ (List.mem_map.mpr ⟨_, look_mem hq, rfl⟩)
        obtain ⟨v, hv⟩ := mem_look m
        rw [hf] at hv
        cases hv
end Fh

set_option Elab.async false
set_option linter.all false
set_option maxRecDepth 100000
set_option maxHeartbeats 4000000
namespace Fh
open PySem L2 PyProof.Rows
theorem enc_iff {F : Fc} (fo : FcOk F) {n : Nat} {k : Kn} {u v : Vl} (hu : Ok F n k u) (hv : Ok F n k v) (lu : (enc F n k u).length ≤ 10000) (lv : (enc F n k v).length ≤ 10000) (hn : nrm F n k u = u ∧ nrm F n k v = v) : decide (enc F n k u = enc F n k v) = true ↔ u = v := by
  rw [decide_eq_true_iff]
  constructor
  · intro e
    have z := enc_inj fo hu hv lu lv e
    rwa [hn.1, hn.2] at z
  · intro e
    rw [e]
theorem nam_inj : ∀ {fl : List Fl} {g h : Fl}, (fl.map (·.nam)).Nodup → g ∈ fl → h ∈ fl → g.nam = h.nam → g = h
  | [], _, _, _, hg, _, _ => by cases hg
  | f :: fl, g, h, nd, hg, hh, e => by
    rw [List.map_cons, List.nodup_cons] at nd
    rcases List.mem_cons.mp hg with e1 | hg1
    · rcases List.mem_cons.mp hh with e2 | hh1
      · rw [e1, e2]
      · exact absurd (show f.nam ∈ fl.map (·.nam) from List.mem_map.mpr ⟨h, hh1, by rw [← e, e1]⟩) nd.1
    · rcases List.mem_cons.mp hh with e2 | hh1
      · exact absurd (show f.nam ∈ fl.map (·.nam) from List.mem_map.mpr ⟨g, hg1, by rw [e, e2]⟩) nd.1
      · exact nam_inj nd.2 hg1 hh1 e
theorem all_map {E : Vl → List Int} {us ws : List Vl} {m : Nat} (hm : m = min us.length ws.length) : ((List.range m).all (fun j => match us[j]?, ws[j]? with | some p, some q => decide (E p = E q) | _, _ => false) && us.length == ws.length) = true ↔ us.map E = ws.map E := by
  rw [Bool.and_eq_true, List.all_eq_true, beq_iff_eq]
  constructor
  · rintro ⟨h, l⟩
    refine List.ext_getElem? fun j => ?_
    rw [List.getElem?_map, List.getElem?_map]
    cases h1 : us[j]? with
    | none =>
      have h2 : ws[j]? = none := by
        rw [List.getElem?_eq_none_iff] at h1 ⊢
        omega
      rw [h2]
    | some p =>
      have hj := (List.getElem?_eq_some_iff.mp h1).1
      have h2 : ws[j]? = some (ws[j]'(by omega)) := List.getElem?_eq_getElem (by omega)
      have z := h j (List.mem_range.mpr (by omega))
      rw [h1, h2] at z
      have z : E p = E (ws[j]'(by omega)) := of_decide_eq_true z
      rw [h2]
      show some (E p) = some _
      rw [z]
  · intro h
    have l : us.length = ws.length := by
      have := congrArg List.length h
      rwa [List.length_map, List.length_map] at this
    refine ⟨fun j hj => ?_, l⟩
    have hj := List.mem_range.mp hj
    have h1 : us[j]? = some (us[j]'(by omega)) := List.getElem?_eq_getElem (by omega)
    have h2 : ws[j]? = some (ws[j]'(by omega)) := List.getElem?_eq_getElem (by omega)
    rw [h1, h2]
    have z := congrArg (fun l => l[j]?) h
    simp only [List.getElem?_map, h1, h2, Option.map_some] at z
    exact decide_eq_true (Option.some.inj z)
section
variable {X : Cx} {pins : List (Addr × Obj)} {σ : L2.St} {H : Hp} {s : Shared}
theorem eq_tree {F : Fc} (fo : FcOk F) (I : Inv X pins σ H s) : ∀ (n : Nat) (k : Kn) (u v : Vl) (x y : V) (vx vy : Value), Ok F n k u → Ok F n k v → (enc F n k u).length ≤ 10000 → (enc F n k v).length ≤ 10000 → VD H x u → VD H y v → L2.RelV x vx → L2.RelV y vy →
    PySem.W.EqTree X.prog X.w s n vx vy (decide (enc F n k u = enc F n k v))
  | 0, _, _, _, _, _, _, _, h, _, _, _, _, _, _, _ => h.elim
  | n + 1, k, u, v, x, y, vx, vy, hu, hv, lu, lv, hx, hy, rx, ry => by
    have leaf : (nrm F (n + 1) k u = u ∧ nrm F (n + 1) k v = v) → ∀ b : Bool, (b = true ↔ u = v) → PySem.W.EqTree X.prog X.w s (n + 1) vx vy b → PySem.W.EqTree X.prog X.w s (n + 1) vx vy (decide (enc F (n + 1) k u = enc F (n + 1) k v)) := fun hn b hb t => by
      have e : b = decide (enc F (n + 1) k u = enc F (n + 1) k v) := by
        rw [Bool.eq_iff_iff, hb]
        exact (enc_iff fo hu hv lu lv hn).symm
      rw [← e]
      exact t
    have same : x = y → PySem.W.EqTree X.prog X.w s (n + 1) vx vy (decide (enc F (n + 1) k u = enc F (n + 1) k v)) ∨ ¬ ∃ a, x = .ref a := fun e => by
      by_cases c : ∃ a, x = .ref a
      · left
        obtain ⟨a, rfl⟩ := c
        subst e
        have e2 := VD.det hx hy
        subst e2
        cases (show vx = Value.ref a from rx)
        cases (show vy = Value.ref a from ry)
        rw [decide_eq_true rfl]
        exact .same
      · exact .inr c
    cases k with
    | lst b =>
      obtain ⟨us, rfl, _, _, q1⟩ := hu
      obtain ⟨ws, rfl, _, _, q2⟩ := hv
      have ex : ∀ zs : List Vl, enc F (n + 1) (.lst b) (.lst zs) = b.mark :: ((zs.map (enc F n (.one b))).map piece).flatten := fun zs => by
        show b.mark :: (zs.map fun x => piece (enc F n (.one b) x)).flatten = _
        rw [List.map_map]
        rfl
      have le : ∀ zs : List Vl, (enc F (n + 1) (.lst b) (.lst zs)).length ≤ 10000 → ∀ z ∈ zs, (enc F n (.one b) z).length ≤ 10000 := fun zs h z hz => by
        rw [ex, List.length_cons] at h
        have a := flat_len (List.mem_map.mpr ⟨_, List.mem_map.mpr ⟨z, hz, rfl⟩, rfl⟩ : piece (enc F n (.one b) z) ∈ (zs.map (enc F n (.one b))).map piece)
        have c : (enc F n (.one b) z).length ≤ (piece (enc F n (.one b) z)).length := by unfold piece; rw [List.length_append]; omega
        omega
      have lx := le us lu
      have ly := le ws lv
      cases hx with
      | @lst a xs _ ha qa =>
        cases hy with
        | @lst b' ys _ hb qb =>
          by_cases e : a = b'
          · subst e
            rcases same rfl with h | h
            · exact h
            · exact absurd ⟨a, rfl⟩ h
          · cases (show vx = Value.ref a from rx)
            cases (show vy = Value.ref b' from ry)
            obtain ⟨i1, r1, p1, _⟩ := I.tuple (SqT.of ha)
            obtain ⟨i2, r2, p2, _⟩ := I.tuple (SqT.of hb)
            have n1 : i1.length = us.length := by rw [← r1.length, qa.length]
            have n2 : i2.length = ws.length := by rw [← r2.length, qb.length]
            have t := PySem.W.EqTree.tuples (prog := X.prog) (w := X.w) (s := s) (n := n) (e := fun j => match us[j]?, ws[j]? with | some p, some q => decide (enc F n (.one b) p = enc F n (.one b) q) | _, _ => false) e (show s.heap.IsTuple a i1.toArray from p1) (show s.heap.IsTuple b' i2.toArray from p2) (fun j h1 h2 => by
              rw [List.size_toArray] at h1 h2
              obtain ⟨x1, hx1, rx1⟩ := vals_at r1 j h1
              obtain ⟨y1, hy1, ry1⟩ := vals_at r2 j h2
              obtain ⟨c1, e1, v1⟩ := qa.get hx1
              obtain ⟨c2, e2, v2⟩ := qb.get hy1
              have k := eq_tree fo I n (.one b) c1 c2 x1 y1 _ _ (q1 c1 (List.mem_of_getElem? e1)) (q2 c2 (List.mem_of_getElem? e2)) (lx c1 (List.mem_of_getElem? e1)) (ly c2 (List.mem_of_getElem? e2)) v1 v2 rx1 ry1
              simp only [e1, e2]
              simpa using k)
            have fin : ((List.range (min i1.toArray.size i2.toArray.size)).all (fun j => match us[j]?, ws[j]? with | some p, some q => decide (enc F n (.one b) p = enc F n (.one b) q) | _, _ => false) && i1.toArray.size == i2.toArray.size) = decide (enc F (n + 1) (.lst b) (.lst us) = enc F (n + 1) (.lst b) (.lst ws)) := by
              rw [List.size_toArray, List.size_toArray, n1, n2, Bool.eq_iff_iff, decide_eq_true_iff, all_map rfl, ex, ex]
              constructor
              · intro h
                rw [h]
              · intro h
                injection h with _ h
                exact flat_inj (fun c hc => by obtain ⟨z, hz, rfl⟩ := List.mem_map.mp hc; exact lx z hz) (fun c hc => by obtain ⟨z, hz, rfl⟩ := List.mem_map.mp hc; exact ly z hz) h
            rw [fin] at t
            exact t
    | one b =>
      cases b with
      | whole =>
        obtain ⟨i, rfl, _⟩ := hu
        obtain ⟨j, rfl, _⟩ := hv
        cases hx
        cases hy
        obtain ⟨t1, rfl⟩ := (show ∃ t, vx = Value.int i t from rx)
        obtain ⟨t2, rfl⟩ := (show ∃ t, vy = Value.int j t from ry)
        refine leaf ⟨rfl, rfl⟩ (i == j) ⟨fun e => by rw [eq_of_beq e], fun e => by injection e with e; rw [e]; exact beq_self_eq_true _⟩ (.leaf fun A _ => SeqAt.EqAt.int_int i t1 j t2)
      | truth =>
        obtain ⟨a, rfl⟩ := hu
        obtain ⟨b, rfl⟩ := hv
        cases hx
        cases hy
        cases (show vx = Value.bool a from rx)
        cases (show vy = Value.bool b from ry)
        refine leaf ⟨rfl, rfl⟩ (a == b) ⟨fun e => by rw [eq_of_beq e], fun e => by injection e with e; rw [e]; exact beq_self_eq_true _⟩ (.leaf fun A _ => SeqAt.EqAt.bool_bool a b)
      | text =>
        obtain ⟨a, rfl, _⟩ := hu
        obtain ⟨b, rfl, _⟩ := hv
        cases hx
        cases hy
        obtain ⟨t1, rfl⟩ := (show ∃ t, vx = Value.str a t from rx)
        obtain ⟨t2, rfl⟩ := (show ∃ t, vy = Value.str b t from ry)
        refine leaf ⟨rfl, rfl⟩ (a == b) ⟨fun e => by rw [eq_of_beq e], fun e => by injection e with e; rw [e]; exact beq_self_eq_true _⟩ (.leaf fun A _ => SeqAt.EqAt.str_str a t1 b t2)
      | ch c =>
        obtain ⟨a, _, _, rfl, _⟩ := hu
        obtain ⟨b, _, _, rfl, _⟩ := hv
        cases hx
        cases hy
        obtain ⟨t1, rfl⟩ := (show ∃ t, vx = Value.str a t from rx)
        obtain ⟨t2, rfl⟩ := (show ∃ t, vy = Value.str b t from ry)
        refine leaf ⟨rfl, rfl⟩ (a == b) ⟨fun e => by rw [eq_of_beq e], fun e => by injection e with e; rw [e]; exact beq_self_eq_true _⟩ (.leaf fun A _ => SeqAt.EqAt.str_str a t1 b t2)
      | rc z =>
        obtain ⟨fl, fs, rfl, lk, nd1, in1, q1, _⟩ := hu
        obtain ⟨fl', gs, rfl, lk', nd2, in2, q2, _⟩ := hv
        rw [lk] at lk'
        cases lk'
        have nf : (fl.map (·.nam)).Nodup := fo.nf _ (look_mem lk)
        have re := rec_eq fo lk nd1 nd2 in1 in2 lu lv
        have fz : flds F z = fl := by unfold flds; rw [lk]; rfl
        have l1 : ∀ g ∈ fl, ∀ w, fs.lookup g.nam = some w → (enc F n g.kd w).length ≤ 10000 := fp_le (by
          have z : (((flds F z).map (fpiece (enc F n) fs)).flatten).length ≤ 10000 := lu
          rwa [fz] at z)
        have l2 : ∀ g ∈ fl, ∀ w, gs.lookup g.nam = some w → (enc F n g.kd w).length ≤ 10000 := fp_le (by
          have z : (((flds F z).map (fpiece (enc F n) gs)).flatten).length ≤ 10000 := lv
          rwa [fz] at z)
        cases hx with
        | @rcd a ka _ ha ea qa =>
          cases hy with
          | @rcd b kb _ hb eb qb =>
            by_cases e : a = b
            · subst e
              rcases same rfl with h | h
              · exact h
              · exact absurd ⟨a, rfl⟩ h
            · cases (show vx = Value.ref a from rx)
              cases (show vy = Value.ref b from ry)
              obtain ⟨_, ya, va, ra, da⟩ := dk_of I.hok ha
              obtain ⟨_, yb, vb', rb, db⟩ := dk_of I.hok hb
              -- what stands at a key of the first
              have at1 : ∀ {k : Key} {v : Value}, (k, v) ∈ va → ∃ f ∈ fs, k = Sum.inr f.1 ∧ ∃ x', VD H x' f.2 ∧ L2.RelV x' v := fun {k v} hm => by
                obtain ⟨j, x', hj, rx'⟩ := kv_at ra hm
                have h1 : (ka.map Prod.fst)[j]? = some k := by rw [List.getElem?_map, hj]; rfl
                rw [ea, List.getElem?_map] at h1
                cases hf : fs[j]? with
                | none => rw [hf] at h1; cases h1
                | some f =>
                  rw [hf] at h1
                  have ek : Sum.inr f.1 = k := Option.some.inj h1
                  have h2 : (ka.map Prod.snd)[j]? = some x' := by rw [List.getElem?_map, hj]; rfl
                  obtain ⟨w, hw, vx'⟩ := qa.get h2
                  rw [List.getElem?_map, hf] at hw
                  have ew : f.2 = w := Option.some.inj hw
                  exact ⟨f, List.mem_of_getElem? hf, ek.symm, x', by rw [ew]; exact vx', rx'⟩
              -- and at that key of the second
              have at2 : ∀ (nm : Str), (gs.lookup nm = none → valueAt vb' (Sum.inr nm) = none) ∧ (∀ w, gs.lookup nm = some w → ∃ y' u', VD H y' w ∧ L2.RelV y' u' ∧ valueAt vb' (Sum.inr nm) = some u') := fun nm => by
                have rr := rb.val (Sum.inr nm)
                refine ⟨fun h => ?_, fun w h => ?_⟩
                · rw [(vd_at eb qb nm).1 h] at rr
                  cases hv : valueAt vb' (Sum.inr nm) with
                  | none => rfl
                  | some u' => rw [hv] at rr; cases rr
                · obtain ⟨y', hy', vy'⟩ := (vd_at eb qb nm).2 w h
                  rw [hy'] at rr
                  obtain ⟨u', hu', ru'⟩ := rr.some_of
                  exact ⟨y', u', vy', ru', hu'⟩
              let e0 : Key → Prop := fun k => ∀ g ∈ fl, ∀ p q, k = Sum.inr g.nam → fs.lookup g.nam = some p → gs.lookup g.nam = some q → enc F n g.kd p = enc F n g.kd q
              let e0b : Key → Bool := fun k => @decide (e0 k) (Classical.propDecidable _)
              have e0i : ∀ k, e0b k = true ↔ e0 k := fun k => @decide_eq_true_iff _ (Classical.propDecidable _)
              have ee : ∀ f ∈ fs, ∀ g ∈ fl, g.nam = f.1 → ∀ w, gs.lookup f.1 = some w → (e0 (Sum.inr f.1) ↔ enc F n g.kd f.2 = enc F n g.kd w) := fun f hf g hg en w hw => by
                have lf := look_self nd1 f hf
                constructor
                · intro h
                  exact h g hg f.2 w (by rw [en]) (by rw [en]; exact lf) (by rw [en]; exact hw)
                · intro h g' hg' p q ek hp hq
                  have en' : g'.nam = f.1 := (Sum.inr.inj ek).symm
                  have eg := nam_inj nf hg' hg (by rw [en', en])
                  subst eg
                  rw [en'] at hp hq
                  rw [lf] at hp
                  rw [hw] at hq
                  cases hp
                  cases hq
                  exact h
              have t := PySem.W.EqTree.dicts (prog := X.prog) (w := X.w) (s := s) (n := n) (e := e0b) e ya yb da db (fun k v y hm hv => by
                obtain ⟨f, hf, rfl, x', vx', rx'⟩ := at1 hm
                obtain ⟨g, hg, en⟩ := in1 f hf
                cases hw : gs.lookup f.1 with
                | none => rw [(at2 f.1).1 hw] at hv; cases hv
                | some w =>
                  obtain ⟨y', u', vy', ry', hu'⟩ := (at2 f.1).2 w hw
                  rw [hu'] at hv
                  cases hv
                  have lf := look_self nd1 f hf
                  have tr := eq_tree fo I n g.kd f.2 w x' y' _ _ (q1 g hg f.2 (by rw [en]; exact lf)) (q2 g hg w (by rw [en]; exact hw)) (l1 g hg f.2 (by rw [en]; exact lf)) (l2 g hg w (by rw [en]; exact hw)) vx' vy' rx' ry'
                  have eb2 : e0b (Sum.inr f.1) = decide (enc F n g.kd f.2 = enc F n g.kd w) := by
                    rw [Bool.eq_iff_iff, e0i, decide_eq_true_iff]
                    exact ee f hf g hg en w hw
                  rw [eb2]
                  exact tr)
              have fin : (va.length == vb'.length && va.all fun p => (valueAt vb' p.1).isSome && e0b p.1) = decide (enc F (n + 1) (.one (.rc z)) (.rcd fs) = enc F (n + 1) (.one (.rc z)) (.rcd gs)) := by
                have n1 : va.length = fs.length := by rw [← ra.length]; have := congrArg List.length ea; simpa using this
                have n2 : vb'.length = gs.length := by rw [← rb.length]; have := congrArg List.length eb; simpa using this
                rw [Bool.eq_iff_iff, decide_eq_true_iff, re, Bool.and_eq_true, List.all_eq_true, beq_iff_eq, n1, n2]
                refine and_congr_right fun _ => ?_
                constructor
                · intro h f hf
                  have lf := look_self nd1 f hf
                  obtain ⟨x', hx', vx'⟩ := (vd_at ea qa f.1).2 f.2 lf
                  have rr := ra.val (Sum.inr f.1)
                  rw [hx'] at rr
                  obtain ⟨u', hu', _⟩ := rr.some_of
                  have hm : ∃ v, ((Sum.inr f.1 : Key), v) ∈ va := by
                    unfold valueAt at hu'
                    obtain ⟨p, hp, _⟩ := Option.map_eq_some_iff.mp hu'
                    have m := List.mem_of_find?_eq_some hp
                    have pk := List.find?_some hp
                    have pk : p.1 = Sum.inr f.1 := by simpa using pk
                    exact ⟨p.2, by rw [← pk]; exact m⟩
                  obtain ⟨v, hm⟩ := hm
                  have z := h _ hm
                  rw [Bool.and_eq_true, e0i] at z
                  cases hw : gs.lookup f.1 with
                  | none =>
                    have z1 : (valueAt vb' (Sum.inr f.1)).isSome = true := z.1
                    rw [(at2 f.1).1 hw] at z1
                    cases z1
                  | some w => exact ⟨w, rfl, fun g hg en => (ee f hf g hg en w hw).mp z.2⟩
                · intro h p hp
                  obtain ⟨k, v⟩ := p
                  obtain ⟨f, hf, rfl, x', vx', rx'⟩ := at1 hp
                  obtain ⟨w, hw, q⟩ := h f hf
                  obtain ⟨y', u', vy', ry', hu'⟩ := (at2 f.1).2 w hw
                  obtain ⟨g, hg, en⟩ := in1 f hf
                  rw [Bool.and_eq_true, e0i]
                  exact ⟨by rw [hu']; rfl, (ee f hf g hg en w hw).mpr (q g hg en)⟩
              rw [fin] at t
              exact t
end
end Fh

set_option Elab.async false
set_option linter.all false
set_option maxRecDepth 100000
set_option maxHeartbeats 4000000
namespace Fh
open PySem L2 PyProof.Rows
section
variable {X : Cx} {pins : List (Addr × Obj)} {σ : L2.St} {H : Hp} {s : Shared}
/-- two records of one kind, as their dicts' == asks -/
theorem rec_parts {F : Fc} (fo : FcOk F) (I : Inv X pins σ H s) {n : Nat} {z : Str} {fs gs : List (Str × Vl)} {a b : Addr} (hu : Ok F (n + 1) (.one (.rc z)) (.rcd fs)) (hv : Ok F (n + 1) (.one (.rc z)) (.rcd gs)) (lu : (enc F (n + 1) (.one (.rc z)) (.rcd fs)).length ≤ 10000) (lv : (enc F (n + 1) (.one (.rc z)) (.rcd gs)).length ≤ 10000) (hx : VD H (.ref a) (.rcd fs)) (hy : VD H (.ref b) (.rcd gs)) :
    ∃ (va vb' : List (Key × Value)) (e0b : Key → Bool), (a == sysModules) = false ∧ (b == sysModules) = false ∧ s.heap.DictOf (mixKind X.prog X.w) a va ∧ s.heap.DictOf (mixKind X.prog X.w) b vb' ∧ (∀ k v y, (k, v) ∈ va → valueAt vb' k = some y → PySem.W.EqTree X.prog X.w s n v y (e0b k)) ∧
      (va.length == vb'.length && va.all fun p => (valueAt vb' p.1).isSome && e0b p.1) = decide (enc F (n + 1) (.one (.rc z)) (.rcd fs) = enc F (n + 1) (.one (.rc z)) (.rcd gs)) := by
  obtain ⟨fl, fs', ef, lk, nd1, in1, q1, _⟩ := hu
  obtain ⟨fl', gs', eg, lk', nd2, in2, q2, _⟩ := hv
  cases ef
  cases eg
  rw [lk] at lk'
  cases lk'
  have nf : (fl.map (·.nam)).Nodup := fo.nf _ (look_mem lk)
  have re := rec_eq fo lk nd1 nd2 in1 in2 lu lv
  have fz : flds F z = fl := by unfold flds; rw [lk]; rfl
  have l1 : ∀ g ∈ fl, ∀ w, fs.lookup g.nam = some w → (enc F n g.kd w).length ≤ 10000 := fp_le (by
    have z : (((flds F z).map (fpiece (enc F n) fs)).flatten).length ≤ 10000 := lu
    rwa [fz] at z)
  have l2 : ∀ g ∈ fl, ∀ w, gs.lookup g.nam = some w → (enc F n g.kd w).length ≤ 10000 := fp_le (by
    have z : (((flds F z).map (fpiece (enc F n) gs)).flatten).length ≤ 10000 := lv
    rwa [fz] at z)
  obtain ⟨ka, ha, ea, qa⟩ : ∃ ka, H a = some (.dK ka) ∧ ka.map Prod.fst = fs.map (fun f => Sum.inr f.1) ∧ VDs H (ka.map Prod.snd) (fs.map Prod.snd) := by
    cases hx with
    | rcd h1 h2 h3 => exact ⟨_, h1, h2, h3⟩
  obtain ⟨kb, hb, eb, qb⟩ : ∃ kb, H b = some (.dK kb) ∧ kb.map Prod.fst = gs.map (fun f => Sum.inr f.1) ∧ VDs H (kb.map Prod.snd) (gs.map Prod.snd) := by
    cases hy with
    | rcd h1 h2 h3 => exact ⟨_, h1, h2, h3⟩
  obtain ⟨_, ya, va, ra, da⟩ := dk_of I.hok ha
  obtain ⟨_, yb, vb', rb, db⟩ := dk_of I.hok hb
  -- what stands at a key of the first
  have at1 : ∀ {k : Key} {v : Value}, (k, v) ∈ va → ∃ f ∈ fs, k = Sum.inr f.1 ∧ ∃ x', VD H x' f.2 ∧ L2.RelV x' v := fun {k v} hm => by
    obtain ⟨j, x', hj, rx'⟩ := kv_at ra hm
    have h1 : (ka.map Prod.fst)[j]? = some k := by rw [List.getElem?_map, hj]; rfl
    rw [ea, List.getElem?_map] at h1
    cases hf : fs[j]? with
    | none => rw [hf] at h1; cases h1
    | some f =>
      rw [hf] at h1
      have ek : Sum.inr f.1 = k := Option.some.inj h1
      have h2 : (ka.map Prod.snd)[j]? = some x' := by rw [List.getElem?_map, hj]; rfl
      obtain ⟨w, hw, vx'⟩ := qa.get h2
      rw [List.getElem?_map, hf] at hw
      have ew : f.2 = w := Option.some.inj hw
      exact ⟨f, List.mem_of_getElem? hf, ek.symm, x', by rw [ew]; exact vx', rx'⟩
  -- and at that key of the second
  have at2 : ∀ (nm : Str), (gs.lookup nm = none → valueAt vb' (Sum.inr nm) = none) ∧ (∀ w, gs.lookup nm = some w → ∃ y' u', VD H y' w ∧ L2.RelV y' u' ∧ valueAt vb' (Sum.inr nm) = some u') := fun nm => by
    have rr := rb.val (Sum.inr nm)
    refine ⟨fun h => ?_, fun w h => ?_⟩
    · rw [(vd_at eb qb nm).1 h] at rr
      cases hv : valueAt vb' (Sum.inr nm) with
      | none => rfl
      | some u' => rw [hv] at rr; cases rr
    · obtain ⟨y', hy', vy'⟩ := (vd_at eb qb nm).2 w h
      rw [hy'] at rr
      obtain ⟨u', hu', ru'⟩ := rr.some_of
      exact ⟨y', u', vy', ru', hu'⟩
  let e0 : Key → Prop := fun k => ∀ g ∈ fl, ∀ p q, k = Sum.inr g.nam → fs.lookup g.nam = some p → gs.lookup g.nam = some q → enc F n g.kd p = enc F n g.kd q
  let e0b : Key → Bool := fun k => @decide (e0 k) (Classical.propDecidable _)
  have e0i : ∀ k, e0b k = true ↔ e0 k := fun k => @decide_eq_true_iff _ (Classical.propDecidable _)
  have ee : ∀ f ∈ fs, ∀ g ∈ fl, g.nam = f.1 → ∀ w, gs.lookup f.1 = some w → (e0 (Sum.inr f.1) ↔ enc F n g.kd f.2 = enc F n g.kd w) := fun f hf g hg en w hw => by
    have lf := look_self nd1 f hf
    constructor
    · intro h
      exact h g hg f.2 w (by rw [en]) (by rw [en]; exact lf) (by rw [en]; exact hw)
    · intro h g' hg' p q ek hp hq
      have en' : g'.nam = f.1 := (Sum.inr.inj ek).symm
      have eg := nam_inj nf hg' hg (by rw [en', en])
      subst eg
      rw [en'] at hp hq
      rw [lf] at hp
      rw [hw] at hq
      cases hp
      cases hq
      exact h
  have ch : ∀ k v y, (k, v) ∈ va → valueAt vb' k = some y → PySem.W.EqTree X.prog X.w s n v y (e0b k) := fun k v y hm hv => by
    obtain ⟨f, hf, rfl, x', vx', rx'⟩ := at1 hm
    obtain ⟨g, hg, en⟩ := in1 f hf
    cases hw : gs.lookup f.1 with
    | none => rw [(at2 f.1).1 hw] at hv; cases hv
    | some w =>
      obtain ⟨y', u', vy', ry', hu'⟩ := (at2 f.1).2 w hw
      rw [hu'] at hv
      cases hv
      have lf := look_self nd1 f hf
      have tr := eq_tree fo I n g.kd f.2 w x' y' _ _ (q1 g hg f.2 (by rw [en]; exact lf)) (q2 g hg w (by rw [en]; exact hw)) (l1 g hg f.2 (by rw [en]; exact lf)) (l2 g hg w (by rw [en]; exact hw)) vx' vy' rx' ry'
      have eb2 : e0b (Sum.inr f.1) = decide (enc F n g.kd f.2 = enc F n g.kd w) := by
        rw [Bool.eq_iff_iff, e0i, decide_eq_true_iff]
        exact ee f hf g hg en w hw
      rw [eb2]
      exact tr
  have fin : (va.length == vb'.length && va.all fun p => (valueAt vb' p.1).isSome && e0b p.1) = decide (enc F (n + 1) (.one (.rc z)) (.rcd fs) = enc F (n + 1) (.one (.rc z)) (.rcd gs)) := by
    have n1 : va.length = fs.length := by rw [← ra.length]; have := congrArg List.length ea; simpa using this
    have n2 : vb'.length = gs.length := by rw [← rb.length]; have := congrArg List.length eb; simpa using this
    rw [Bool.eq_iff_iff, decide_eq_true_iff, re, Bool.and_eq_true, List.all_eq_true, beq_iff_eq, n1, n2]
    refine and_congr_right fun _ => ?_
    constructor
    · intro h f hf
      have lf := look_self nd1 f hf
      obtain ⟨x', hx', vx'⟩ := (vd_at ea qa f.1).2 f.2 lf
      have rr := ra.val (Sum.inr f.1)
      rw [hx'] at rr
      obtain ⟨u', hu', _⟩ := rr.some_of
      have hm : ∃ v, ((Sum.inr f.1 : Key), v) ∈ va := by
        unfold valueAt at hu'
        obtain ⟨p, hp, _⟩ := Option.map_eq_some_iff.mp hu'
        have m := List.mem_of_find?_eq_some hp
        have pk := List.find?_some hp
        have pk : p.1 = Sum.inr f.1 := by simpa using pk
        exact ⟨p.2, by rw [← pk]; exact m⟩
      obtain ⟨v, hm⟩ := hm
      have z := h _ hm
      rw [Bool.and_eq_true, e0i] at z
      cases hw : gs.lookup f.1 with
      | none =>
        have z1 : (valueAt vb' (Sum.inr f.1)).isSome = true := z.1
        rw [(at2 f.1).1 hw] at z1
        cases z1
      | some w => exact ⟨w, rfl, fun g hg en => (ee f hf g hg en w hw).mp z.2⟩
    · intro h p hp
      obtain ⟨k, v⟩ := p
      obtain ⟨f, hf, rfl, x', vx', rx'⟩ := at1 hp
      obtain ⟨w, hw, q⟩ := h f hf
      obtain ⟨y', u', vy', ry', hu'⟩ := (at2 f.1).2 w hw
      obtain ⟨g, hg, en⟩ := in1 f hf
      rw [Bool.and_eq_true, e0i]
      exact ⟨by rw [hu']; rfl, (ee f hf g hg en w hw).mpr (q g hg en)⟩
  exact ⟨va, vb', e0b, ya, yb, da, db, ch, fin⟩
end
/-- a == b of two records of one kind -/
def rEqVt (F : Fc) : R2 := fun x y H Q => ∃ (n : Nat) (z : Str) (fs gs : List (Str × Vl)) (a b : Addr), x = .ref a ∧ y = .ref b ∧ n ≤ 60 ∧ Ok F (n + 1) (.one (.rc z)) (.rcd fs) ∧ Ok F (n + 1) (.one (.rc z)) (.rcd gs) ∧ (enc F (n + 1) (.one (.rc z)) (.rcd fs)).length ≤ 10000 ∧ (enc F (n + 1) (.one (.rc z)) (.rcd gs)).length ≤ 10000 ∧ VD H x (.rcd fs) ∧ VD H y (.rcd gs) ∧ Q (.bl (decide (enc F (n + 1) (.one (.rc z)) (.rcd fs) = enc F (n + 1) (.one (.rc z)) (.rcd gs)))) H
theorem op_eqVt {X : Cx} {F : Fc} (fo : FcOk F) (hu : X.A.units + 64 < cLine) : OpR X (compareOp .Eq) (rEqVt F) := by
  intro pins s σ H x y v u Q I rx ry h
  obtain ⟨n, z, fs, gs, a, b, rfl, rfl, hn, o1, o2, l1, l2, hx, hy, q⟩ := h
  cases (show v = Value.ref a from rx)
  cases (show u = Value.ref b from ry)
  obtain ⟨va, vb', e0b, ya, yb, da, db, ch, fin⟩ := rec_parts fo I o1 o2 l1 l2 hx hy
  refine PySem.W.eq_dictsT (n := n) (e := e0b) ya yb da db ch (by omega) ?_
  rw [fin]
  exact ⟨.bl _, H, I, rfl, q⟩
end Fh

set_option Elab.async false
set_option linter.all false
set_option maxRecDepth 100000
set_option maxHeartbeats 4000000
namespace Fh
open PySem L2 PyProof.Rows
/-! ### the drawn parts of a face: what is true of them -/
theorem mem_turn {α : Type} {d : Int} {l : List α} {x : α} : x ∈ turnL d l ↔ x ∈ l := by
  unfold turnL
  split
  · exact Iff.rfl
  · exact List.mem_reverse
theorem turn_turn {α : Type} (d : Int) (l : List α) : turnL d (turnL d l) = l := by
  unfold turnL
  split
  · rfl
  · exact List.reverse_reverse l
theorem cut_to (ws : List Str) (k : Nat) : cutV (ws.map V.str) none (some (k : Int)) = (ws.take k).map V.str := by
  have b := HT.sIx_nat (ws.map V.str).length (ws.map V.str).length k
  unfold cutV
  rw [HT.sIx_none, b, List.length_map, List.drop_zero, Nat.sub_zero, List.map_take]
  by_cases h : k ≤ ws.length
  · rw [Nat.min_eq_left h]
  · rw [Nat.min_eq_right (by omega), List.take_of_length_le (by rw [List.length_map]; exact Nat.le_refl _), List.take_of_length_le (by rw [List.length_map]; omega)]
theorem cut_from (ws : List Str) (k : Nat) : cutV (ws.map V.str) (some (k : Int)) none = (ws.drop k).map V.str := by
  have b := HT.sIx_nat (ws.map V.str).length 0 k
  unfold cutV
  rw [HT.sIx_none, b, List.length_map, List.map_drop]
  by_cases h : k ≤ ws.length
  · rw [Nat.min_eq_left h, List.take_of_length_le (by rw [List.length_drop, List.length_map]; exact Nat.le_refl _)]
  · rw [Nat.min_eq_right (by omega), Nat.sub_self, List.take_zero, List.drop_eq_nil_of_le (by rw [List.length_map]; omega)]
structure RgAll (P : List Rec) : Prop where
  nm : (rgR P).1.map Prod.fst = P.map Prod.fst
  of : ∀ r' ∈ (rgR P).1, ∃ r ∈ P, ∃ D, D60 D ∧ r' = (r.1, (rgL D r.2).1)
  sz : ∀ r ∈ P, ∃ v, (rgR P).2 r.1 = some v
theorem rgR_all (P : List Rec) : RgAll P := by
  have key : ∀ n, RgAll (P.take n) := by
    intro n
    induction n with
    | zero => exact ⟨rfl, (fun r h => by cases h), (fun r h => by cases h)⟩
    | succ n ih =>
      cases hr : P[n]? with
      | none =>
        have e : P.take (n + 1) = P.take n := by rw [List.take_add_one, hr]; exact List.append_nil _
        rw [e]
        exact ih
      | some r =>
        have e : P.take (n + 1) = P.take n ++ [r] := by rw [List.take_add_one, hr]; rfl
        have d60 := rgR_60 P n
        rw [e]
        refine ⟨?_, ?_, ?_⟩
        · rw [rgR_add, List.map_append, List.map_append, ih.nm]
          rfl
        · rw [rgR_add]
          intro r' hr'
          rcases List.mem_append.mp hr' with h | h
          · obtain ⟨r0, m, D, hD, e0⟩ := ih.of r' h
            exact ⟨r0, List.mem_append_left _ m, D, hD, e0⟩
          · exact ⟨r, List.mem_append_right _ (List.mem_singleton.mpr rfl), _, d60, List.mem_singleton.mp h⟩
        · rw [rgR_add]
          intro r0 hr0
          show ∃ v, putS (rgR (P.take n)).2 r.1 (some (rgL (rgR (P.take n)).2 r.2).2) r0.1 = some v
          unfold putS
          dsimp only
          split
          · exact ⟨_, rfl⟩
          · rename_i hne
            rcases List.mem_append.mp hr0 with h | h
            · exact ih.sz r0 h
            · rw [List.mem_singleton.mp h] at hne
              exact absurd rfl hne
  have k := key P.length
  rw [List.take_length] at k
  exact k
/-- a drawn face -/
structure FaceG (F : Fc) : Prop where
  ok : FcOk F
  c1 : Ch1 F
  lr : F.rs.length ≤ 6
  l5 : ∀ r ∈ F.rs, r.2.length ≤ 5
  nn : ∀ r ∈ F.rs, ∀ f ∈ r.2, nobK F.c F.r f.kd = false
  lk : ∀ r ∈ F.rs, F.rs.lookup r.1 = some r.2
  lst : ∀ r ∈ F.rs, Wfr F 7 (.one (.rc r.1)) ∧ lsz F 7 (.one (.rc r.1)) ≤ 60
  nm : ∀ r ∈ F.rs, Nm r.1
  fn : ∀ r ∈ F.rs, ∀ f ∈ r.2, Nm f.nam
/-- drawn options -/
structure ChG (os : List (Int × Str)) : Prop where
  ne : os ≠ []
  len : os.length ≤ 6
  nd : (os.map (·.2)).Nodup
  pw : (os.map (·.1)).Pairwise (· < ·)
  rg : ∀ o ∈ os, 1 ≤ o.1 ∧ o.1 ≤ 30
  nm : ∀ o ∈ os, Nm o.2
/-- drawn fields -/
structure FlG (cs ws : List Str) (fl : List Fl) : Prop where
  kd : ∀ f ∈ fl, GK2 cs ws f.kd
  nd : (fl.map (·.nam)).Nodup
  rise : fl.Pairwise fun f g => f.num < g.num
  nums : ∀ f ∈ fl, 1 ≤ f.num ∧ f.num ≤ 30
  nm : ∀ f ∈ fl, Nm f.nam
theorem pw_nodup {l : List Int} (h : l.Pairwise (· < ·)) : l.Nodup := h.imp fun h e => by omega
theorem fl_map {α : Type} {f : Fl → α} {l l' : List Fl} (e : l'.map f = l.map f) {x : Fl} (hx : x ∈ l') : ∃ y ∈ l, f y = f x := by
  have m : f x ∈ l.map f := by rw [← e]; exact List.mem_map.mpr ⟨x, hx, rfl⟩
  obtain ⟨y, hy, ey⟩ := List.mem_map.mp m
  exact ⟨y, hy, ey⟩
theorem parts_face {cs : List (Str × List (Int × Str))} {recs : List Rec} {ws : List Str} {d : Int} (lc : cs.length ≤ 6) (hc : ∀ c ∈ cs, ChG c.2) (nc : ∀ c ∈ cs, Nm c.1) (en : recs.map Prod.fst = ws) (nd : ws.Nodup) (nw : ∀ z ∈ ws, Nm z) (l6 : ws.length ≤ 6) (l5 : ∀ r ∈ recs, r.2.length ≤ 5) (rg : ∀ r ∈ recs, FlG (cs.map Prod.fst) ws r.2) :
    FaceG ⟨cs, turnL d (rgR (turnL d recs)).1⟩ := by
  have al := rgR_all (turnL d recs)
  have lR : (turnL d recs).length ≤ 6 := by
    have := congrArg List.length en
    rw [List.length_map] at this
    rw [turn_len]
    omega
  generalize hF : (⟨cs, turnL d (rgR (turnL d recs)).1⟩ : Fc) = F
  have ers : F.rs = turnL d (rgR (turnL d recs)).1 := by rw [← hF]
  have ecs : F.cs = cs := by rw [← hF]
  have names : F.rs.map Prod.fst = ws := by
    rw [ers, turn_at, al.nm, turn_at, turn_turn, en]
  have ndr : (F.rs.map Prod.fst).Nodup := by rw [names]; exact nd
  have of : ∀ r' ∈ F.rs, ∃ r ∈ recs, ∃ D, D60 D ∧ r' = (r.1, (rgL D r.2).1) := fun r' h => by
    rw [ers] at h
    obtain ⟨r, m, D, h1, h2⟩ := al.of r' (mem_turn.mp h)
    exact ⟨r, mem_turn.mp m, D, h1, h2⟩
  have lrs : F.rs.length ≤ 6 := by
    have := congrArg List.length names
    rw [List.length_map] at this
    omega
  have ln : ∀ r' ∈ F.rs, r'.2.length ≤ 5 := fun r' h => by
    obtain ⟨r, m, D, hD, rfl⟩ := of r' h
    have e := congrArg List.length (rgL_ok hD r.2).nam
    rw [List.length_map, List.length_map] at e
    show (rgL D r.2).1.length ≤ 5
    rw [e]
    exact l5 r m
  have fo : FcOk F := by
    refine ⟨by rw [ecs]; omega, by omega, fun r h => by have := ln r h; omega, fun r' h => ?_, fun r' h => ?_, fun r' h f hf => ?_, fun c h => ?_, fun c h => ?_, fun c h => ?_⟩
    · obtain ⟨r, m, D, hD, rfl⟩ := of r' h
      show ((rgL D r.2).1.map (·.nam)).Nodup
      rw [(rgL_ok hD r.2).nam]
      exact (rg r m).nd
    · obtain ⟨r, m, D, hD, rfl⟩ := of r' h
      have z := (rg r m).rise
      have z2 : (r.2.map (·.num)).Pairwise (· < ·) := by rw [List.pairwise_map]; exact z
      rw [← (rgL_ok hD r.2).num, List.pairwise_map] at z2
      exact z2
    · obtain ⟨r, m, D, hD, rfl⟩ := of r' h
      obtain ⟨y, hy, ey⟩ := fl_map (rgL_ok hD r.2).num hf
      have := (rg r m).nums y hy
      have ey : y.num = f.num := ey
      omega
    · rw [ecs] at h
      have z := hc c h
      exact ⟨z.ne, by have := z.len; omega, z.nd, fun o ho => by have := z.rg o ho; omega⟩
    · rw [ecs] at h
      exact pw_nodup (hc c h).pw
    · rw [ecs] at h
      exact nm_sh (nc c h)
  have c1 : Ch1 F := by
    intro c hn
    have m : c ∈ cs.map Prod.fst := by
      have z := of_decide_eq_true hn
      unfold Fc.c at z
      rw [List.map_map, ecs] at z
      exact z
    obtain ⟨os, ho⟩ := mem_look m
    have z := hc _ (look_mem ho)
    rw [ecs, ho]
    cases os with
    | nil => exact absurd rfl z.ne
    | cons o os =>
      have r := z.rg o List.mem_cons_self
      exact ⟨o, os, rfl, r.1, by omega⟩
  have nn : ∀ r ∈ F.rs, ∀ f ∈ r.2, nobK F.c F.r f.kd = false := fun r' h f hf => by
    obtain ⟨r, m, D, hD, rfl⟩ := of r' h
    obtain ⟨y, hy, ey⟩ := fl_map (rgL_ok hD r.2).kd hf
    have g := (rg r m).kd y hy
    have ey : y.kd = f.kd := ey
    rw [ey] at g
    have key : ∀ b : Kb, GB2 (cs.map Prod.fst) ws b → nobB F.c F.r b = false := fun b hb => by
      cases b with
      | whole => rfl
      | truth => rfl
      | text => rfl
      | ch c =>
        have hb : c ∈ cs.map Prod.fst := hb
        have z1 : nameIn c F.c = true := by
          refine decide_eq_true ?_
          unfold Fc.c
          rw [List.map_map, ecs]
          exact hb
        show (!nameIn c F.c) = false
        rw [z1]
        rfl
      | rc z =>
        have hb : z ∈ ws := hb
        have z1 : nameIn z F.r = true := by
          refine decide_eq_true ?_
          unfold Fc.r
          rw [List.map_map]
          rw [← names] at hb
          exact hb
        show (!nameIn z F.r) = false
        rw [z1]
        rfl
    cases hk : f.kd with
    | one b => rw [hk] at g; exact key b g
    | lst b => rw [hk] at g; exact key b g
  have lk : ∀ r ∈ F.rs, F.rs.lookup r.1 = some r.2 := fun r h => look_self ndr r h
  have inF : ∀ r ∈ (rgR (turnL d recs)).1, r ∈ F.rs := fun r h => by rw [ers]; exact mem_turn.mpr h
  have dv := rgR_dv fo c1 (turnL d recs) (fun r h => lk r (inF r h)) (fun r h => nn r (inF r h))
  have d60 : D60 (rgR (turnL d recs)).2 := by
    have z := rgR_60 (turnL d recs) (turnL d recs).length
    rw [List.take_length] at z
    exact z
  refine ⟨fo, c1, lrs, ln, nn, lk, fun r' h => ?_, fun r' h => ?_, fun r' h f hf => ?_⟩
  · obtain ⟨r, m, D, hD, rfl⟩ := of r' h
    obtain ⟨v, hv⟩ := al.sz r (mem_turn.mpr m)
    obtain ⟨w1, w2⟩ := dv r.1 v hv
    have le7 : (turnL d recs).length + 1 ≤ 7 := by omega
    refine ⟨wf_le w1 le7, ?_⟩
    show lsz F 7 (.one (.rc r.1)) ≤ 60
    rw [lsz_le fo w1 le7, w2]
    exact (d60 r.1 v hv).2
  · have m : r'.1 ∈ ws := by rw [← names]; exact List.mem_map.mpr ⟨r', h, rfl⟩
    exact nw _ m
  · obtain ⟨r, m, D, hD, rfl⟩ := of r' h
    obtain ⟨y, hy, ey⟩ := fl_map (rgL_ok hD r.2).nam hf
    have ey : y.nam = f.nam := ey
    rw [← ey]
    exact (rg r m).nm y hy
end Fh

set_option Elab.async false
set_option linter.all false
set_option maxRecDepth 100000
set_option maxHeartbeats 4000000
namespace Fh
open PySem L2 PyProof.Rows
abbrev nPar : List Str := ["_law_bag_here", "_law_most", "_law_few", "_law_many", "_law_names_here", "_law_picks", "_law_word", "_law_numbers_here", "_law_number", "_law_own", "_law_rows", "_law_fields", "_law_name", "_law_edition"]
def oD (o : Int × Str) : PyData := .tuple [.int o.1, .str o.2]
def chT (c : Str × List (Int × Str)) : PyData := .tuple [.str c.1, optsD c.2]
def cRows (cs : List (Str × List (Int × Str))) : List (Str × PyData) := cs.map fun c => (c.1, optsD c.2)
def spPar : Sp := fun vs H Q _ => ∃ (b : Addr) (m : Int) (n : Nat), vs = [.ref b, .int m] ∧ 1 ≤ m ∧ m ≤ 6 ∧ Bag H b n ∧ n + 5000 ≤ most ∧
  ∀ (p : Addr) (F : Fc) (H' : Hp), Kp b H H' → Bag H' b (n + 5000) → PartsP H' p F → FaceG F → Q (.ref p) H'
theorem strs_at {ws : List Str} {i : Nat} {x : V} (h : (ws.map V.str)[i]? = some x) : ∃ z, ws[i]? = some z ∧ x = .str z := by
  rw [List.getElem?_map] at h
  cases e : ws[i]? with
  | none => rw [e] at h; cases h
  | some z => rw [e] at h; exact ⟨z, rfl, (Option.some.inj h).symm⟩
theorem ints_at {ns : List Int} {i : Nat} {x : V} (h : (ns.map V.int)[i]? = some x) : ∃ z, ns[i]? = some z ∧ x = .int z := by
  rw [List.getElem?_map] at h
  cases e : ns[i]? with
  | none => rw [e] at h; cases h
  | some z => rw [e] at h; exact ⟨z, rfl, (Option.some.inj h).symm⟩
theorem c_shaped {cs : List (Str × List (Int × Str))} (hc : ∀ c ∈ cs, ChG c.2) (nc : ∀ c ∈ cs, Nm c.1) : SeqAt.shaped (rowsD (cRows cs)) = true := by
  refine Sh.shaped (n := 4) (Sh.tup fun d hd => ?_) (by decide)
  obtain ⟨r, hr, rfl⟩ := List.mem_map.mp hd
  obtain ⟨c, hc', rfl⟩ := List.mem_map.mp hr
  refine Sh.tup fun e he => ?_
  rcases List.mem_cons.mp he with rfl | he
  · exact (nm_sh (nc c hc')).mono (by decide)
  · rw [List.mem_singleton.mp he]
    refine Sh.tup fun x hx => ?_
    obtain ⟨o, ho, rfl⟩ := List.mem_map.mp hx
    refine Sh.tup fun y hy => ?_
    rcases List.mem_cons.mp hy with rfl | hy
    · exact Sh.int _
    · rw [List.mem_singleton.mp hy]
      exact nm_sh ((hc c hc').nm o ho)
theorem zip_ch {ns : List Int} {us : List Str} {v : Int} (l : ns.length = us.length) (l1 : 1 ≤ ns.length) (l6 : ns.length ≤ 6) (nd : us.Nodup) (pw : ns.Pairwise (· < ·)) (rg : ∀ x ∈ ns, 1 ≤ x ∧ x ≤ 30) (nm : ∀ z ∈ us, Nm z) : ChG (ns.zip us) := by
  have e1 : (ns.zip us).map (·.1) = ns := List.map_fst_zip (by omega)
  have e2 : (ns.zip us).map (·.2) = us := List.map_snd_zip (by omega)
  have len : (ns.zip us).length = ns.length := by rw [List.length_zip]; omega
  refine ⟨fun e => by rw [e] at len; simp at len; omega, by omega, by rw [e2]; exact nd, by rw [e1]; exact pw, fun o ho => rg o.1 (by rw [← e1]; exact List.mem_map.mpr ⟨o, ho, rfl⟩), fun o ho => nm o.2 (by rw [← e2]; exact List.mem_map.mpr ⟨o, ho, rfl⟩)⟩
section
variable {P : Program} {w : World} {K : PySem.W.Frag} {mg : Str → Option Value} {base : Heap}
end
end Fh

set_option Elab.async false
set_option linter.all false
set_option maxRecDepth 100000
set_option maxHeartbeats 4000000
namespace Fh
open PySem L2 PyProof.Rows
abbrev nVal : List Str := ["_law_bag_here", "_law_parts_here", "_law_kind", "_law_deep", "_law_options", "_law_size", "_law_spot", "_law_found", "_law_number", "_law_word", "_law_own", "_law_need"]
def rInt1 : List V → Hp → (V → Hp → Prop) → Prop := fun xs H Q => (∃ i, xs = [.int i] ∧ Q (.int i) H) ∨ ∃ k, xs = [.bl k] ∧ Q (.int (if k = true then 1 else 0)) H
theorem call_intK {X : Cx} : CallR X (.type "int") rInt1 := call_int1
/-- a test, by a word between it and what follows -/
def tMidT (t : TT) : TT := fun σ H Q => ∃ Mid : Bool → Hp → Prop, t σ H Mid ∧ ∀ v H', Mid v H' → Q v H'
theorem pt_mid {X : Cx} {e : Expr} {t : TT} (h : PT X e t) : PT X e (tMidT t) := by
  refine ⟨fun pins s σ H Q I hq => ?_⟩
  obtain ⟨Mid, hm, hu⟩ := hq
  exact thn (h.run pins s σ H Mid I hm) fun v s1 ⟨H1, I1, q1⟩ => ⟨H1, I1, hu v H1 q1⟩
/-- how often is drawn for a value at a depth, at the most -/
def cst : Nat → Nat
  | 0 => 40
  | 1 => 250
  | 2 => 1300
  | _ => 6600
theorem vb_60 (n : Nat) : 60 ≤ vb n := by
  match n with
  | 0 => decide
  | 1 => decide
  | 2 => decide
  | n + 3 => show 60 ≤ 9445; decide
theorem cst_40 (n : Nat) : 40 ≤ cst n := by
  match n with
  | 0 => decide
  | 1 => decide
  | 2 => decide
  | n + 3 => show 40 ≤ 6600; decide
theorem cst_rec {deep : Int} (h1 : 1 ≤ deep) (h3 : deep ≤ 3) : 5 * (1 + cst (deep - 1).toNat) ≤ cst deep.toNat ∧ 5 * (4 + vb (deep - 1).toNat) ≤ vb deep.toNat := by
  rcases (by omega : deep = 1 ∨ deep = 2 ∨ deep = 3) with rfl | rfl | rfl <;> decide
/-- how many are in a list, and how much less deep they are -/
structure Szs2 (size st : Int) : Prop where
  lo : 0 ≤ size
  hi : size ≤ 6
  st1 : 1 ≤ st
  cs : ∀ deep : Int, 1 ≤ deep → deep ≤ 3 → 1 + size.toNat * cst (deep - st).toNat ≤ cst deep.toNat ∧ 1 + size.toNat * (2 + vb (deep - st).toNat) ≤ vb deep.toNat
theorem cst_lst {size : Int} (h : size = 0 ∨ size = 1 ∨ size = 2 ∨ size = 6) : Szs2 size (if 2 < size then 2 else 1) := by
  refine ⟨by omega, by omega, by split <;> decide, fun deep h1 h3 => ?_⟩
  rcases h with rfl | rfl | rfl | rfl <;> rcases (by omega : deep = 1 ∨ deep = 2 ∨ deep = 3) with rfl | rfl | rfl <;> decide
theorem er_stepK {b d : Addr} {H H3 H4 H5 : Hp} (hb : ∃ o, H b = some o) (k4 : Kp b H3 H4) (up5 : ∀ {a : Addr} {o : HO}, a ≠ d → H4 a = some o → H5 a = some o) : Same (er (Nw H H3) d) (er (Nw H H5) d) := fun a o e => by
  have na := er_ne e
  obtain ⟨q1, q2⟩ := nw_inv (er_in e)
  have nb : a ≠ b := fun z => by
    obtain ⟨u, hu⟩ := hb
    rw [z, hu] at q1
    cases q1
  exact er_at na (nw_at q1 (up5 na (k4 _ _ nb q2)))
theorem er_newK {b d : Addr} {H H3 H4 H5 : Hp} {u : HO} (k03 : Kp b H H3) (b3 : ∃ o, H3 b = some o) (hv : H3 d = some u) (up5 : ∀ {a : Addr} {o : HO}, a ≠ d → H4 a = some o → H5 a = some o) : Same (Nw H3 H4) (er (Nw H H5) d) := fun a o e => by
  obtain ⟨q1, q2⟩ := nw_inv e
  have na : a ≠ d := fun z => by rw [z, hv] at q1; cases q1
  exact er_at na (nw_at (k03.free b3 q1) (up5 na q2))
theorem TpR.kp {H H' : Hp} {b : Addr} {n : Nat} {v : V} {d : PyData} (h : TpR H v d) (k : Kp b H H') (hb : Bag H b n) : TpR H' v d := by
  obtain ⟨a, xs, ds, e1, e2, r, q⟩ := h
  refine ⟨a, xs, ds, e1, e2, ?_, TpAll.keep (k.tk hb) _ _ q⟩
  obtain ⟨_, _, _, z, _⟩ := hb
  rcases r with r | ⟨o, r⟩
  · exact .inl (k _ _ (fun e => by rw [e, z] at r; cases r) r)
  · exact .inr ⟨o, k _ _ (fun e => by rw [e, z] at r; cases r) r⟩
theorem PartsP.kp {H H' : Hp} {b p : Addr} {n : Nat} {F : Fc} (h : PartsP H p F) (k : Kp b H H') (hb : Bag H b n) : PartsP H' p F := by
  obtain ⟨v1, v2, c, r, e, h1, h2, h3, h4⟩ := h
  exact ⟨v1, v2, c, r, e, k _ _ (tup_ne h1 hb) h1, h2.kp k hb, h3.kp k hb, k _ _ (tup_ne h4 hb) h4⟩
theorem nob_ch {F : Fc} {c : Str} (nb : nobB F.c F.r (.ch c) = false) : ∃ os, F.cs.lookup c = some os := by
  have z : (!nameIn c F.c) = false := nb
  have z1 : nameIn c F.c = true := by simpa using z
  have z2 := of_decide_eq_true z1
  unfold Fc.c at z2
  rw [List.map_map] at z2
  exact mem_look z2
theorem nob_rc {F : Fc} {c : Str} (nb : nobB F.c F.r (.rc c) = false) : ∃ fl, F.rs.lookup c = some fl := by
  have z : (!nameIn c F.r) = false := nb
  have z1 : nameIn c F.r = true := by simpa using z
  have z2 := of_decide_eq_true z1
  unfold Fc.r at z2
  rw [List.map_map] at z2
  exact mem_look z2
theorem kd_sh {F : Fc} (fg : FaceG F) {k : Kn} (nb : nobK F.c F.r k = false) : SeqAt.shaped k.d = true := by
  refine Sh.shaped (n := 2) (Sh.kd fun z hz => ?_) (by decide)
  have key : ∀ b : Kb, nobB F.c F.r b = false → b.nm = some z → Sh 0 (.str z) := fun b nb hz => by
    cases b with
    | whole => cases hz
    | truth => cases hz
    | text => cases hz
    | ch c =>
      cases hz
      obtain ⟨os, ho⟩ := nob_ch nb
      exact fg.ok.nmc _ (look_mem ho)
    | rc c =>
      cases hz
      obtain ⟨fl, ho⟩ := nob_rc nb
      exact nm_sh (fg.nm _ (look_mem ho))
  cases k with
  | one b => exact key b nb hz
  | lst b => exact key b nb hz
theorem str_sh0 {z : Str} (h : Sh 0 (.str z)) : SeqAt.shaped (.str z) = true := h.shaped (by decide)
/-- each field of a record is told by few numbers -/
def FineV (F : Fc) (n B : Nat) (k : Kn) (v : Vl) : Prop := ∀ z fl fs, k = .one (.rc z) → v = .rcd fs → F.rs.lookup z = some fl → ∀ g ∈ fl, ∀ w, fs.lookup g.nam = some w → (enc F n g.kd w).length ≤ B
def spVal (j : Nat) : Sp := fun vs H Q _ => ∃ (b p : Addr) (kv : V) (deep : Int) (n : Nat) (k : Kn) (F : Fc), vs = [.ref b, .ref p, kv, .int deep] ∧ deep.toNat < j ∧ deep ≤ 3 ∧ Bag H b n ∧ n + cst deep.toNat + 10 ≤ most ∧ PartsP H p F ∧ FaceG F ∧ Tp H kv k.d ∧ nobK F.c F.r k = false ∧
  ∀ (x : V) (v : Vl) (H' : Hp), Kp b H H' → Bag H' b (n + cst deep.toNat) → VD (Nw H H') x v → Ok F (6 + j) k v → (enc F (6 + j) k v).length ≤ vb deep.toNat → (1 ≤ deep → FineV F (5 + j) (vb (deep - 1).toNat) k v) → Q x H'
section
variable {P : Program} {w : World} {K : PySem.W.Frag} {mg : Str → Option Value} {base : Heap}
end
end Fh

set_option Elab.async false
set_option linter.all false
set_option maxRecDepth 100000
set_option maxHeartbeats 4000000
namespace Fh
open PySem L2 PyProof.Rows
abbrev nNear : List Str := ["_law_bag_here", "_law_parts_here", "_law_word", "_law_value_here", "_law_found", "_law_fields", "_law_number", "_law_own", "_law_kind", "_law_need"]
/-! ### tuples and dicts stay -/
structure Kd (H H' : Hp) : Prop where
  t : ∀ a xs, H a = some (.tup xs) → H' a = some (.tup xs)
  d : ∀ a kvs, H a = some (.dK kvs) → H' a = some (.dK kvs)
theorem Kd.refl {H : Hp} : Kd H H := ⟨fun _ _ e => e, fun _ _ e => e⟩
theorem Kd.trans {H H1 H2 : Hp} (x : Kd H H1) (y : Kd H1 H2) : Kd H H2 := ⟨fun a o e => y.t a o (x.t a o e), fun a o e => y.d a o (x.d a o e)⟩
theorem Same.kd {H H' : Hp} (s : Same H H') : Kd H H' := ⟨fun a _ e => s a _ e, fun a _ e => s a _ e⟩
theorem Kp.kd {b : Addr} {H H' : Hp} {n : Nat} (k : Kp b H H') (hb : Bag H b n) : Kd H H' := by
  obtain ⟨_, _, _, z, _⟩ := hb
  exact ⟨fun a xs e => k a _ (fun q => by rw [q, z] at e; cases e) e, fun a xs e => k a _ (fun q => by rw [q, z] at e; cases e) e⟩
theorem Kd.wr {H H1 : Hp} {p : Addr} {ys : List V} {o : HO} (k : Kd H H1) (h : H1 p = some (.lst ys)) : Kd H (upd H1 p o) := by
  refine ⟨fun a xs e => ?_, fun a xs e => ?_⟩
  · have e1 := k.t a xs e
    rw [upd_ne (fun q => by rw [q, h] at e1; cases e1)]
    exact e1
  · have e1 := k.d a xs e
    rw [upd_ne (fun q => by rw [q, h] at e1; cases e1)]
    exact e1
mutual
theorem VD.kd {H H' : Hp} (s : Kd H H') {x : V} {v : Vl} : VD H x v → VD H' x v
  | .num i => .num i
  | .tru b => .tru b
  | .txt z => .txt z
  | .lst h q => .lst (s.t _ _ h) (VDs.kd s q)
  | .rcd h e q => .rcd (s.d _ _ h) e (VDs.kd s q)
theorem VDs.kd {H H' : Hp} (s : Kd H H') {xs : List V} {vs : List Vl} : VDs H xs vs → VDs H' xs vs
  | .nil => .nil
  | .cons h q => .cons (VD.kd s h) (VDs.kd s q)
end
/-! ### a field put otherwise -/
def putL (fs : List (Str × Vl)) (z : Str) (v : Vl) : List (Str × Vl) := if z ∈ fs.map Prod.fst then fs.map (fun f => if f.1 = z then (f.1, v) else f) else fs ++ [(z, v)]
theorem putL_keys_in {fs : List (Str × Vl)} {z : Str} {v : Vl} : (fs.map (fun f => if f.1 = z then (f.1, v) else f)).map Prod.fst = fs.map Prod.fst := by
  rw [List.map_map]
  refine List.map_congr_left fun f _ => ?_
  show (if f.1 = z then (f.1, v) else f).1 = f.1
  split <;> rfl
theorem putL_nd {fs : List (Str × Vl)} {z : Str} {v : Vl} (nd : (fs.map Prod.fst).Nodup) : ((putL fs z v).map Prod.fst).Nodup := by
  unfold putL
  split
  · rw [putL_keys_in]
    exact nd
  · rename_i h
    rw [List.map_append, List.nodup_append]
    refine ⟨nd, List.nodup_cons.mpr ⟨fun e => (by cases e), List.nodup_nil⟩, fun a ha b hb e => ?_⟩
    have e2 : b = z := List.mem_singleton.mp hb
    rw [e, e2] at ha
    exact h ha
theorem putL_mem {fs : List (Str × Vl)} {z : Str} {v : Vl} {f : Str × Vl} (h : f ∈ putL fs z v) : f = (z, v) ∨ f ∈ fs := by
  unfold putL at h
  split at h
  · obtain ⟨g, hg, e⟩ := List.mem_map.mp h
    split at e
    · rename_i ez
      rw [ez] at e
      exact .inl e.symm
    · rw [← e]
      exact .inr hg
  · rcases List.mem_append.mp h with h | h
    · exact .inr h
    · exact .inl (List.mem_singleton.mp h)
theorem putL_keys {fs : List (Str × Vl)} {z : Str} {v : Vl} {x : Str} (h : x ∈ fs.map Prod.fst) : x ∈ (putL fs z v).map Prod.fst := by
  unfold putL
  split
  · rw [putL_keys_in]
    exact h
  · rw [List.map_append]
    exact List.mem_append_left _ h
theorem look_nd {fs : List (Str × Vl)} {z : Str} {w : Vl} (nd : (fs.map Prod.fst).Nodup) (h : fs.lookup z = some w) : (z, w) ∈ fs := look_mem h
/-- what a record's dict tells with one field put otherwise -/
theorem put_vd {H : Hp} {kvs : List (Key × V)} {fs : List (Str × Vl)} {z : Str} {x : V} {v : Vl} (ek : kvs.map Prod.fst = fs.map (fun f => Sum.inr f.1)) (q : VDs H (kvs.map Prod.snd) (fs.map Prod.snd)) (hx : VD H x v) :
    (putK kvs (Sum.inr z) x).map Prod.fst = (putL fs z v).map (fun f => Sum.inr f.1) ∧ VDs H ((putK kvs (Sum.inr z) x).map Prod.snd) ((putL fs z v).map Prod.snd) := by
  by_cases h : z ∈ fs.map Prod.fst
  · have hk : (Sum.inr z : Key) ∈ kvs.map Prod.fst := by
      rw [ek]
      obtain ⟨f, hf, e⟩ := List.mem_map.mp h
      exact List.mem_map.mpr ⟨f, hf, by rw [e]⟩
    have ha : (kvs.any fun kv => decide (kv.1 = (Sum.inr z : Key))) = true := by
      obtain ⟨kv, m, e⟩ := List.mem_map.mp hk
      exact List.any_eq_true.mpr ⟨kv, m, decide_eq_true e⟩
    refine ⟨?_, ?_⟩
    · rw [putK_keys hk, ek]
      unfold putL
      rw [if_pos h]
      have z1 : (fs.map (fun f => if f.1 = z then (f.1, v) else f)).map (fun f => (Sum.inr f.1 : Key)) = ((fs.map (fun f => if f.1 = z then (f.1, v) else f)).map Prod.fst).map Sum.inr := by rw [List.map_map, List.map_map, List.map_map]; rfl
      rw [z1, putL_keys_in, List.map_map]
      rfl
    · unfold putL putK
      rw [if_pos h, if_pos ha]
      clear h hk ha
      induction kvs generalizing fs with
      | nil =>
        cases fs with
        | nil => exact .nil
        | cons f fs => cases ek
      | cons kv kvs ih =>
        cases fs with
        | nil => cases ek
        | cons f fs =>
          rw [List.map_cons, List.map_cons] at ek
          injection ek with e1 e2
          cases q with
          | cons h1 h2 =>
            have ih2 := ih e2 h2
            have e1 : kv.1 = Sum.inr f.1 := e1
            rw [List.map_cons, List.map_cons, List.map_cons, List.map_cons]
            refine .cons ?_ ih2
            show VD H (if kv.1 = Sum.inr z then (kv.1, x) else kv).2 (if f.1 = z then (f.1, v) else f).2
            by_cases c : f.1 = z
            · rw [if_pos c, if_pos (by rw [e1, c])]
              exact hx
            · rw [if_neg c, if_neg (fun e => c (by rw [e1] at e; exact Sum.inr.inj e))]
              exact h1
  · have hk : (Sum.inr z : Key) ∉ kvs.map Prod.fst := fun m => by
      rw [ek] at m
      obtain ⟨f, hf, e⟩ := List.mem_map.mp m
      exact h (List.mem_map.mpr ⟨f, hf, Sum.inr.inj e⟩)
    unfold putL
    rw [if_neg h, putK_new hk, List.map_append, List.map_append, ek, List.map_append, List.map_append]
    exact ⟨rfl, q.app (.cons hx .nil)⟩
theorem fl_shaped {F : Fc} (fg : FaceG F) {z : Str} {fl : List Fl} (lk : F.rs.lookup z = some fl) : SeqAt.shaped (fieldsD fl) = true := by
  have rm := look_mem lk
  refine Sh.shaped (n := 4) (Sh.tup fun d hd => ?_) (by decide)
  obtain ⟨f, hf, rfl⟩ := List.mem_map.mp hd
  refine Sh.tup fun e he => ?_
  have nb := fg.nn _ rm f hf
  have kd : Sh 2 f.kd.d := Sh.kd fun y hy => by
    have key : ∀ b : Kb, nobB F.c F.r b = false → b.nm = some y → Sh 0 (.str y) := fun b nb hz => by
      cases b with
      | whole => cases hz
      | truth => cases hz
      | text => cases hz
      | ch c =>
        cases hz
        obtain ⟨os, ho⟩ := nob_ch nb
        exact fg.ok.nmc _ (look_mem ho)
      | rc c =>
        cases hz
        obtain ⟨fl, ho⟩ := nob_rc nb
        exact nm_sh (fg.nm _ (look_mem ho))
    cases hk : f.kd with
    | one b => rw [hk] at nb hy; exact key b nb hy
    | lst b => rw [hk] at nb hy; exact key b nb hy
  rcases List.mem_cons.mp he with rfl | he
  · exact Sh.int _
  rcases List.mem_cons.mp he with rfl | he
  · exact (nm_sh (fg.fn _ rm f hf)).mono (by decide)
  rcases List.mem_cons.mp he with rfl | he
  · exact kd.mono (by decide)
  · rw [List.mem_singleton.mp he]
    have : Sh 0 (.str (needS f.must)) := by
      cases f.must
      · exact ⟨by decide +kernel, Nat.le_refl _⟩
      · exact ⟨by decide +kernel, Nat.le_refl _⟩
    exact this.mono (by decide)
/-- a drawn record -/
structure DrawnR (F : Fc) (z : Str) (fs : List (Str × Vl)) : Prop where
  ok : Ok F 10 (.one (.rc z)) (.rcd fs)
  fine : FineV F 9 1885 (.one (.rc z)) (.rcd fs)
def spNear : Sp := fun vs H Q _ => ∃ (b p a : Addr) (z : Str) (n : Nat) (F : Fc) (fs : List (Str × Vl)), vs = [.ref b, .ref p, .str z, .ref a] ∧ Bag H b n ∧ n + 1400 ≤ most ∧ PartsP H p F ∧ FaceG F ∧ VD H (.ref a) (.rcd fs) ∧ DrawnR F z fs ∧
  ∀ (x : Addr) (gs : List (Str × Vl)) (H' : Hp), Kp b H H' → Bag H' b (n + 1400) → VD H' (.ref x) (.rcd gs) → DrawnR F z gs → Q (.ref x) H'
section
variable {P : Program} {w : World} {K : PySem.W.Frag} {mg : Str → Option Value} {base : Heap}
end
/-! ### != of two records -/
theorem slot_two {prog : Program} {w : World} {A : Around} {E : Value → Shared → Prop} {s : Shared} {nm : String} {a b : Addr} (ta : s.TypeIs (.ref a) "dict") {Q : Value × Value → Shared → Prop} (q : Q (.ref a, .ref b) s) : wpAny (model prog w) A (Builtin.Dict.dictSlotArgs nm ⟨[.ref a, .ref b], []⟩) Q E s := by
  simp only [Builtin.Dict.dictSlotArgs]
  exact wpAny_bind (wpAny_notOrdered_dict ta (wpAny_pure q))
def rNeVt (F : Fc) : R2 := fun x y H Q => ∃ (n : Nat) (z : Str) (fs gs : List (Str × Vl)) (a b : Addr), x = .ref a ∧ y = .ref b ∧ n ≤ 60 ∧ Ok F (n + 1) (.one (.rc z)) (.rcd fs) ∧ Ok F (n + 1) (.one (.rc z)) (.rcd gs) ∧ (enc F (n + 1) (.one (.rc z)) (.rcd fs)).length ≤ 10000 ∧ (enc F (n + 1) (.one (.rc z)) (.rcd gs)).length ≤ 10000 ∧ VD H x (.rcd fs) ∧ VD H y (.rcd gs) ∧ Q (.bl (!decide (enc F (n + 1) (.one (.rc z)) (.rcd fs) = enc F (n + 1) (.one (.rc z)) (.rcd gs)))) H
theorem op_neVt {X : Cx} {F : Fc} (fo : FcOk F) (hu : X.A.units + 64 < cLine) : OpR X (compareOp .NotEq) (rNeVt F) := by
  intro pins s σ H x y v u Q I rx ry h
  obtain ⟨n, z, fs, gs, a, b, rfl, rfl, hn, o1, o2, l1, l2, hx, hy, q⟩ := h
  cases (show v = Value.ref a from rx)
  cases (show u = Value.ref b from ry)
  obtain ⟨va, vb', e0b, ya, yb, da, db, ch, fin⟩ := rec_parts fo I o1 o2 l1 l2 hx hy
  have hits := PySem.W.KeqHitsIn.of (A := X.A.in1) va fun k v y hm hv => (ch k v y hm hv).at X.A.in1 (by show X.A.units + 1 + n < cLine; omega)
  have ta := da.typeIs
  have tb := db.typeIs
  have body : wpAny (model X.prog X.w) X.A.in1 (Builtin.«dict.__ne__» ⟨[.ref a, .ref b], []⟩) (fun fin s' => ∃ v, fin = .done (.ret v) ∧ v ≠ Value.notImplemented ∧ EP X pins σ Q v s') X.xe s := by
    show wpAny _ _ (Builtin.Dict.dictSlotArgs "__ne__" ⟨[.ref a, .ref b], []⟩ >>= fun _ => _) _ _ s
    refine wpAny_bind (slot_two ta (wpAny_bind (wpAny_isInstance (U := "dict") tb PySem.F.sub_dict_dict ?_)))
    simp only [Bool.not_true, if_false, Bool.false_eq_true]
    refine wpAny_bind (wpAny_pure (wpAny_bind (wpAny_pure (wpAny_bind (PySem.W.keq_samePairsIn ya yb da db (fun _ => hits) (wpAny_pure ?_))))))
    refine ⟨_, rfl, (fun e => nomatch e), .bl _, H, I, ?_, q⟩
    rw [← fin]
    generalize (va.length == vb'.length && va.all fun p => (valueAt vb' p.1).isSome && e0b p.1) = c
    cases c <;> rfl
  exact wpAny_richCompare_same_room (op := .NotEq) ta tb PySem.F.slot_dict_ne (wpAny_call_entry PySem.F.slot_dict_ne ta PySem.F.entry_dict_ne body (PySem.F.args_dict_ne_2 (.ref a) (.ref b))) (by omega)
end Fh

set_option Elab.async false
set_option linter.all false
set_option maxRecDepth 100000
set_option maxHeartbeats 4000000
namespace Fh
open PySem L2 PyProof.Rows
/-! ### what is read back is a value, told alike -/
theorem pres_look {F : Fc} {n : Nat} {fs : List (Str × Vl)} : ∀ {fl : List Fl}, (fl.map (·.nam)).Nodup → ∀ {g : Fl}, g ∈ fl → (pres F n fs fl).lookup g.nam = (fs.lookup g.nam).map (nrm F n g.kd)
  | [], _, _, h => by cases h
  | f :: fl, nd, g, h => by
    rw [List.map_cons, List.nodup_cons] at nd
    unfold pres
    rw [List.filterMap_cons]
    rcases List.mem_cons.mp h with e | h
    · subst e
      cases hf : fs.lookup g.nam with
      | some w =>
        show ((g.nam, nrm F n g.kd w) :: _).lookup g.nam = _
        rw [List.lookup_cons, beq_self_eq_true]
        rfl
      | none =>
        show (pres F n fs fl).lookup g.nam = none
        cases hl : (pres F n fs fl).lookup g.nam with
        | none => rfl
        | some w => exact absurd (pres_sub (List.mem_map.mpr ⟨_, look_mem hl, rfl⟩)) nd.1
    · have ne : g.nam ≠ f.nam := fun e => nd.1 (List.mem_map.mpr ⟨g, h, e⟩)
      have ih := pres_look (F := F) (n := n) (fs := fs) nd.2 h
      cases hf : fs.lookup f.nam with
      | some w =>
        show ((f.nam, nrm F n f.kd w) :: pres F n fs fl).lookup g.nam = _
        rw [List.lookup_cons, beq_eq_false_iff_ne.mpr ne]
        exact ih
      | none => exact ih
theorem pres_nd {F : Fc} {n : Nat} {fs : List (Str × Vl)} : ∀ {fl : List Fl}, (fl.map (·.nam)).Nodup → ((pres F n fs fl).map Prod.fst).Nodup
  | [], _ => List.nodup_nil
  | f :: fl, nd => by
    rw [List.map_cons, List.nodup_cons] at nd
    unfold pres
    rw [List.filterMap_cons]
    have ih := pres_nd (F := F) (n := n) (fs := fs) nd.2
    cases hf : fs.lookup f.nam with
    | some w =>
      show (f.nam :: (pres F n fs fl).map Prod.fst).Nodup
      exact List.nodup_cons.mpr ⟨fun h => nd.1 (pres_sub h), ih⟩
    | none => exact ih
theorem ok_nrm {F : Fc} (fo : FcOk F) : ∀ {n : Nat} {k : Kn} {v : Vl}, Ok F n k v → Ok F n k (nrm F n k v) ∧ enc F n k (nrm F n k v) = enc F n k v
  | 0, _, _, h => h.elim
  | n + 1, k, v, h => by
    cases k with
    | lst b =>
      obtain ⟨xs, rfl, nb, l, q⟩ := h
      refine ⟨⟨xs.map (nrm F n (.one b)), rfl, nb, by rw [List.length_map]; exact l, fun x hx => ?_⟩, ?_⟩
      · obtain ⟨y, hy, rfl⟩ := List.mem_map.mp hx
        exact (ok_nrm fo (q y hy)).1
      · show b.mark :: ((xs.map (nrm F n (.one b))).map fun x => piece (enc F n (.one b) x)).flatten = b.mark :: (xs.map fun x => piece (enc F n (.one b) x)).flatten
        rw [List.map_map]
        refine congrArg (fun l => b.mark :: List.flatten l) (List.map_congr_left fun x hx => ?_)
        show piece (enc F n (.one b) (nrm F n (.one b) x)) = _
        rw [(ok_nrm fo (q x hx)).2]
    | one b =>
      cases b with
      | whole => exact ⟨h, rfl⟩
      | truth => exact ⟨h, rfl⟩
      | text => exact ⟨h, rfl⟩
      | ch c => exact ⟨h, rfl⟩
      | rc z =>
        obtain ⟨fl, fs, rfl, lk, nd, inn, q, must⟩ := h
        have fz : flds F z = fl := by unfold flds; rw [lk]; rfl
        have nf : (fl.map (·.nam)).Nodup := fo.nf _ (look_mem lk)
        have en : nrm F (n + 1) (.one (.rc z)) (.rcd fs) = .rcd (pres F n fs fl) := by
          show Vl.rcd ((flds F z).filterMap fun g => (fs.lookup g.nam).map fun w => (g.nam, nrm F n g.kd w)) = _
          rw [fz]
          rfl
        rw [en]
        refine ⟨⟨fl, _, rfl, lk, pres_nd nf, fun f hf => ?_, fun g hg w hw => ?_, fun g hg m => ?_⟩, ?_⟩
        · obtain ⟨g, hg, e⟩ := List.mem_map.mp (pres_sub (List.mem_map.mpr ⟨f, hf, rfl⟩))
          exact ⟨g, hg, e⟩
        · rw [pres_look nf hg] at hw
          obtain ⟨u, hu, rfl⟩ := Option.map_eq_some_iff.mp hw
          exact (ok_nrm fo (q g hg u hu)).1
        · obtain ⟨w, hw⟩ := must g hg m
          rw [pres_look nf hg, hw]
          exact ⟨_, rfl⟩
        · show ((flds F z).map (fpiece (enc F n) (pres F n fs fl))).flatten = ((flds F z).map (fpiece (enc F n) fs)).flatten
          rw [fz]
          refine fp_congr fun g hg => ?_
          rw [pres_look nf hg]
          cases hw : fs.lookup g.nam with
          | none => rfl
          | some w => exact congrArg some (ok_nrm fo (q g hg w hw)).2
/-! ### == of bodies, of lists of truths -/
theorem eqv_ints : ∀ (xs ys : List Int), PyData.eqvAll (xs.map .int) (ys.map .int) = decide (xs = ys)
  | [], [] => rfl
  | [], _ :: _ => rfl
  | _ :: _, [] => rfl
  | x :: xs, y :: ys => by
    show ((x == y) && PyData.eqvAll (xs.map .int) (ys.map .int)) = _
    rw [eqv_ints xs ys, Bool.eq_iff_iff, Bool.and_eq_true, beq_iff_eq, decide_eq_true_iff, decide_eq_true_iff, List.cons.injEq]
theorem eqv_bls : ∀ (xs : List Bool), PyData.eqvAll (xs.map .bool) (xs.map .bool) = true
  | [] => rfl
  | x :: xs => by
    show ((x == x) && PyData.eqvAll (xs.map .bool) (xs.map .bool)) = true
    rw [eqv_bls xs, beq_self_eq_true]
    rfl
theorem sh_ints (xs : List Int) : SeqAt.shaped (.tuple (xs.map .int)) = true := Sh.shaped (n := 1) (Sh.tup fun d hd => by
  obtain ⟨x, _, rfl⟩ := List.mem_map.mp hd
  exact Sh.int x) (by decide)
theorem sh_bls (xs : List Bool) : SeqAt.shaped (.list (xs.map .bool)) = true := Sh.shaped (n := 1) (Sh.lst fun d hd => by
  obtain ⟨x, _, rfl⟩ := List.mem_map.mp hd
  exact ⟨rfl, Nat.zero_le _⟩) (by decide)
theorem dp_bls {K : PySem.W.Frag} {H : Hp} : ∀ xs : List Bool, DpAll K H (xs.map V.bl) (xs.map .bool)
  | [] => .nil
  | x :: xs => .cons (.bl x) (dp_bls xs)
/-! ### == and != of two records of some face -/
def rEqVe : R2 := fun x y H Q => ∃ F : Fc, FcOk F ∧ rEqVt F x y H Q
def rNeVe : R2 := fun x y H Q => ∃ F : Fc, FcOk F ∧ rNeVt F x y H Q
theorem op_eqVe {X : Cx} (hu : X.A.units + 64 < cLine) : OpR X (compareOp .Eq) rEqVe := by
  intro pins s σ H x y v u Q I rx ry h
  obtain ⟨F, fo, h⟩ := h
  exact op_eqVt fo hu pins s σ H x y v u Q I rx ry h
theorem op_neVe {X : Cx} (hu : X.A.units + 64 < cLine) : OpR X (compareOp .NotEq) rNeVe := by
  intro pins s σ H x y v u Q I rx ry h
  obtain ⟨F, fo, h⟩ := h
  exact op_neVt fo hu pins s σ H x y v u Q I rx ry h
/-! ### what is known of a drawn record -/
theorem DrawnR.len {F : Fc} (fg : FaceG F) {z : Str} {fs : List (Str × Vl)} (d : DrawnR F z fs) : (enc F 10 (.one (.rc z)) (.rcd fs)).length ≤ 10000 := by
  obtain ⟨fl, fs', e, lk, _⟩ := d.ok
  cases e
  exact Nat.le_trans (rec_len (n := 9) lk (fg.l5 _ (look_mem lk)) (d.fine z fl fs rfl rfl lk)) (by decide)
/-- the body that tells it -/
def bodyL (F : Fc) (z : Str) (fs : List (Str × Vl)) : List Int := enc F 10 (.one (.rc z)) (.rcd fs)
theorem pr_len {α β : Type} {R : α → β → Prop} : ∀ {xs : List α} {ys : List β}, Paired R xs ys → xs.length = ys.length
  | _, _, .nil => rfl
  | _, _, .cons _ q => by simp [pr_len q]
theorem pr_get {α β : Type} {R : α → β → Prop} : ∀ {xs : List α} {ys : List β} {i : Nat} {x : α}, Paired R xs ys → xs[i]? = some x → ∃ y, ys[i]? = some y ∧ R x y
  | _, _, _, _, .nil, e => by simp at e
  | _, _, 0, _, .cons h _, e => by simp at e; subst e; exact ⟨_, rfl, h⟩
  | _, _, i + 1, x, .cons _ q, e => by
    obtain ⟨y, h1, h2⟩ := pr_get (i := i) (x := x) q (by simpa using e)
    exact ⟨y, by simpa using h1, h2⟩
theorem pr_get2 {α β : Type} {R : α → β → Prop} : ∀ {xs : List α} {ys : List β} {i : Nat} {y : β}, Paired R xs ys → ys[i]? = some y → ∃ x, xs[i]? = some x ∧ R x y
  | _, _, _, _, .nil, e => by simp at e
  | _, _, 0, _, .cons h _, e => by simp at e; subst e; exact ⟨_, rfl, h⟩
  | _, _, i + 1, y, .cons _ q, e => by
    obtain ⟨x, h1, h2⟩ := pr_get2 (i := i) (y := y) q (by simpa using e)
    exact ⟨x, by simpa using h1, h2⟩
/-- drawn values in a list -/
def VLs (F : Fc) (z : Str) (H : Hp) : List Addr → List (List (Str × Vl)) → Prop := Paired fun u fs => VD H (.ref u) (.rcd fs) ∧ DrawnR F z fs
theorem VLs.kd {F : Fc} {z : Str} {H H' : Hp} {us : List Addr} {fss : List (List (Str × Vl))} (h : VLs F z H us fss) (k : Kd H H') : VLs F z H' us fss := pr_up (fun _ _ q => ⟨q.1.kd k, q.2⟩) h
/-- their bodies -/
def BLs (F : Fc) (z : Str) (H : Hp) : List Addr → List (List (Str × Vl)) → Prop := Paired fun u fs => H u = some (.tup ((bodyL F z fs).map V.int))
theorem BLs.kd {F : Fc} {z : Str} {H H' : Hp} {us : List Addr} {fss : List (List (Str × Vl))} (h : BLs F z H us fss) (k : Kd H H') : BLs F z H' us fss := pr_up (fun _ _ q => k.t _ _ q) h
theorem refs_at {us : List Addr} {i : Nat} {x : V} (h : (us.map V.ref)[i]? = some x) : ∃ u, us[i]? = some u ∧ x = .ref u := by
  rw [List.getElem?_map] at h
  cases e : us[i]? with
  | none => rw [e] at h; cases h
  | some z => rw [e] at h; exact ⟨z, rfl, (Option.some.inj h).symm⟩
theorem FaceF.kp {C : Addr} {H H' : Hp} {a b : Addr} {n : Nat} {F : Fc} (h : FaceF C H a F) (k : Kp b H H') (hb : Bag H b n) : FaceF C H' a F := by
  obtain ⟨⟨dx, v1, v2, v3, v4, v5, e, t3, t4⟩, fo⟩ := h
  refine ⟨⟨dx, v1, v2, v3, v4, v5, k _ _ (fun q => ?_) e, t3.kp k hb, t4.kp k hb⟩, fo⟩
  obtain ⟨_, _, _, z, _⟩ := hb
  rw [q, z] at e
  cases e
end Fh

set_option Elab.async false
set_option linter.all false
set_option maxRecDepth 100000
set_option maxHeartbeats 4000000
namespace Fh
open PySem PySem.Spec PySem.PyData PyProof.Rows L2
/-! ### repr(x) of plain data; dicts among them, but then no lists -/
def encK : Key → PyData
  | .inl i => .int i
  | .inr z => .str z
mutual
/-- data without lists: tuples and dicts at any depth -/
inductive Pr (K : PySem.W.Frag) (H : Hp) : V → PyData → Prop
  | non : Pr K H .non .none
  | bl (b : Bool) : Pr K H (.bl b) (.bool b)
  | int (i : Int) : Pr K H (.int i) (.int i)
  | str (x : Str) : Pr K H (.str x) (.str x)
  | tup {a : Addr} {xs : List V} {ds : List PyData} : SqT K H a xs → PrAll K H xs ds → Pr K H (.ref a) (.tuple ds)
  | dct {a : Addr} {kvs : List (Key × V)} {ds : List PyData} : Rd H a (.dK kvs) → PrAll K H (kvs.map Prod.snd) ds → Pr K H (.ref a) (.dict ((kvs.map fun p => encK p.1).zip ds))
inductive PrAll (K : PySem.W.Frag) (H : Hp) : List V → List PyData → Prop
  | nil : PrAll K H [] []
  | cons {v : V} {vs : List V} {d : PyData} {ds : List PyData} : Pr K H v d → PrAll K H vs ds → PrAll K H (v :: vs) (d :: ds)
end
theorem key_reads {h : Heap} {P : Program} {w : World} (k : Key) (u : Value) (e : (mixKind P w).is k u = true) : Reads h u (encK k) [] := by
  rcases keyIs_shape (k := k) (v := u) e with ⟨i, t, rfl, rfl⟩ | ⟨z, t, rfl, rfl⟩
  · exact .int i t
  · exact .str z t
theorem pairs_reads {h : Heap} : ∀ {kvs : List (Key × V)} {vs : List (Key × Value)} {ds : List PyData} {bs : List Addr}, KV kvs vs → ReadsAll h (vs.map Prod.snd) ds bs → PyProof.V.PairsRead h encK vs ((kvs.map fun p => encK p.1).zip ds) bs
  | _, _, _, _, .nil, .nil => .nil
  | (k, _) :: _, (_, _) :: _, _, _, .cons ⟨rfl, _⟩ m, .cons r q => .cons r (pairs_reads m q)
theorem vals_of_kv : ∀ {kvs : List (Key × V)} {vs : List (Key × Value)}, KV kvs vs → Vals (kvs.map Prod.snd) (vs.map Prod.snd)
  | _, _, .nil => .nil
  | _, _, .cons h m => .cons h.2 (vals_of_kv m)
section
variable {X : Cx} {pins : List (Addr × Obj)} {σ : L2.St} {H : Hp} {s : Shared}
mutual
theorem Pr.reads (I : Inv X pins σ H s) : ∀ {d : PyData} {v : V} {u : Value}, Pr X.K H v d → RelV v u → ∃ as, Reads s.heap u d as ∧ sysModules ∉ as
  | _, _, _, .non, r => by
    cases r
    exact ⟨_, Reads.none, by simp⟩
  | _, _, _, .bl b, r => by
    cases r
    exact ⟨_, Reads.bool b, by simp⟩
  | _, _, _, .int i, r => by
    obtain ⟨t, rfl⟩ := r
    exact ⟨_, Reads.int i t, by simp⟩
  | _, _, _, .str z, r => by
    obtain ⟨t, rfl⟩ := r
    exact ⟨_, Reads.str z t, by simp⟩
  | _, _, _, .tup hs ha, r => by
    cases r
    obtain ⟨its, rv, ⟨o, ho, hc, n, hd⟩, _⟩ := I.tuple hs
    obtain ⟨as, hr, hn⟩ := PrAll.reads I ha rv
    exact ⟨_, Reads.tuple ho hc hd hr, hn⟩
  | _, _, _, .dct hd ha, r => by
    cases r
    obtain ⟨_, ne, vs, kv, hdo⟩ := hd.ok I.hok
    obtain ⟨as, hr, hn⟩ := PrAll.reads I ha (vals_of_kv kv)
    exact ⟨_, PyProof.V.reads_dictOf (enc := encK) (fun k u e => key_reads k u e) hdo (pairs_reads kv hr), by
      simp only [List.mem_cons, not_or]
      exact ⟨fun e => by rw [← e] at ne; exact absurd ne (by decide), hn⟩⟩
theorem PrAll.reads (I : Inv X pins σ H s) : ∀ {ds : List PyData} {vs : List V} {us : List Value}, PrAll X.K H vs ds → Vals vs us → ∃ as, ReadsAll s.heap us ds as ∧ sysModules ∉ as
  | _, _, _, .nil, r => by
    cases r
    exact ⟨_, ReadsAll.nil, by simp⟩
  | _, _, _, .cons h1 h2, r => by
    cases r with
    | cons r1 r2 =>
      obtain ⟨as, q1, n1⟩ := Pr.reads I h1 r1
      obtain ⟨bs, q2, n2⟩ := PrAll.reads I h2 r2
      exact ⟨_, ReadsAll.cons q1 q2, by simp [n1, n2]⟩
end
end
mutual
theorem Dp.noD {K : PySem.W.Frag} {H : Hp} : ∀ {d : PyData} {v : V}, Dp K H v d → d.hasDict = false
  | _, _, .non => rfl
  | _, _, .bl _ => rfl
  | _, _, .int _ => rfl
  | _, _, .str _ => rfl
  | _, _, .lst _ h => DpAll.noD h
  | _, _, .tup _ h => DpAll.noD h
theorem DpAll.noD {K : PySem.W.Frag} {H : Hp} : ∀ {ds : List PyData} {vs : List V}, DpAll K H vs ds → PyData.hasDictAll ds = false
  | _, _, .nil => rfl
  | _, _, .cons h m => by
    unfold PyData.hasDictAll
    rw [Dp.noD h, DpAll.noD m]
    rfl
end
/-- repr(x), x plain data of one of the two sorts; the text is its own -/
def rRepr (X : Cx) : List V → Hp → VK → Prop := fun xs H Q => ∃ (v : V) (d : PyData), xs = [v] ∧ (Pr X.K H v d ∨ Dp X.K H v d) ∧ d.showable = true ∧ d.shown.length ≤ sizeLine ∧ X.A.units + (d.depth + 1) < cLine ∧ Q (.str d.shown) H
theorem call_reprD {X : Cx} (hg : X.A.guards = some []) : CallR X (.builtin "repr") (rRepr X) := by
  intro pins s σ H xs us Q I r h
  obtain ⟨v, d, rfl, hd, sh, sz, un, q⟩ := h
  obtain ⟨u, rfl, ru⟩ := r.one
  obtain ⟨as, rd, ns⟩ : ∃ as, Reads s.heap u d as ∧ (d.hasDict = true → sysModules ∉ as) := by
    rcases hd with hd | hd
    · obtain ⟨as, r1, n⟩ := Pr.reads I hd ru
      exact ⟨as, r1, fun _ => n⟩
    · obtain ⟨as, r1⟩ := Dp.reads I d v u hd ru
      exact ⟨as, r1, fun e => by rw [Dp.noD hd] at e; cases e⟩
  cases u with
  | ref a => exact repr_of_reads' rd sh ns hg un (fun _ _ e => e) (fun h' t tk hk => ⟨.str _, H, I.kept hk, ⟨_, rfl⟩, q⟩) sz
  | none =>
    cases rd
    exact PySem.P.repr_of_none ⟨.str _, H, I.tok _, ⟨_, rfl⟩, q⟩
  | bool b =>
    cases rd
    exact PySem.P.repr_of_bool ⟨.str _, H, I.tok _, ⟨_, rfl⟩, q⟩
  | int i t =>
    cases rd
    exact PySem.P.repr_of_int (of_decide_eq_true sh) ⟨.str _, H, I.tok _, ⟨_, rfl⟩, q⟩
  | str z t =>
    cases rd
    exact PySem.P.repr_of_str ⟨.str _, H, I.tok _, ⟨_, rfl⟩, q⟩ (hsz := sz)
  | _ => cases rd
end Fh

set_option Elab.async false
set_option linter.all false
set_option maxRecDepth 100000
set_option maxHeartbeats 4000000
namespace Fh
open PySem PySem.Spec PyProof.Rows L2
/-! ### a def's promise where no repr is under way: it may ask for repr(x) -/
structure FnG (P : Program) (w : World) (K : PySem.W.Frag) (mg : Str → Option Value) (base : Heap) (CX : CXT) (k : Nat) (f : Addr) (fd : FuncData) (ps : List Str) (sp : Sp) : Prop where
  len : ∀ vs H Q E, sp vs H Q E → vs.length = ps.length
  go : ∀ (A : Around) (out : List Env) (s : Shared) (H : Hp) (g : Args) (us : List Value) (vs : List V) (Q : VK) (E : XK), A.guards = some [] → sp vs H Q E → Vals vs us → BindsTo s fd g (ps.zip us) → Room k A → Env0 P w K mg base A out s H →
    codeAny (model P w) A (.call (.ref f) g) (CR CX out P w H s Q E) s
section
variable {P : Program} {w : World} {K : PySem.W.Frag} {mg : Str → Option Value} {base : Heap} {CX : CXT}
theorem fnG_of {k : Nat} {f : Addr} {x q : Str} {pm : Arguments} {b : List Stmt} {sc : Scope} {dv kv dc pq cv ct oc : Value} {an od : Option Addr} {sl : Array (Option Value)} {N ps : List Str} {sp : Sp}
    (hk : K.lookup f = some ⟨oc, od, .func (PySem.W.fnOf x q pm b sc dv kv dc pq an cv ct), sl⟩) (hcode : PySem.W.codeIn K cv q = true) (S : FnScope N ps sc) (hlen : ∀ vs H Q E, sp vs H Q E → vs.length = ps.length)
    (hb : ∀ (A : Around) (out : List Env) (s : Shared) (H : Hp) (vs : List V) (Q : VK) (E : XK), (A.deeper (envOfC q sc s.heap.objs.size f cv)).guards = some [] → Room k (A.deeper (envOfC q sc s.heap.objs.size f cv)) → sp vs H Q E →
      ∃ t, PSs (cxOf CX P w K mg base N q sc f cv A out s H E) b t ∧ t { nx := fun _ H' => Q .non H', rt := Q } (L2.start N vs) H) :
    FnG P w K mg base CX (k + 1) f (PySem.W.fnOf x q pm b sc dv kv dc pq an cv ct) ps sp := by
  constructor
  · exact hlen
  · intro A out s H g us vs Q E gu want rel bind room env
    have kept : ∀ c o, base.get? c = some o → s.heap.get? c = some o := fun c o e => (env.bs c o e).1
    have inK : K.In s.heap := env.mod.kin.keeps kept
    obtain ⟨t, run, end_⟩ := hb A out s H vs Q E gu (room.deeper _) want
    apply codeAny_call_function room.depth (inK _ _ hk) rfl S.co S.gen rfl (PySem.W.codeRec_of inK hcode)
    apply bind
    apply wpAny_newFunctionEnv_cells S.kind
    · intro y hy
      cases S.par y.1 (List.of_mem_zip hy).1 with
      | inl l => exact Or.inl l
      | inr c => exact Or.inr ⟨c, PySem.W.cellsFrom_some _ _ _ (Or.inl c)⟩
    · intro e he s1 made
      cases he
      constructor
      · exact (env.mod.nolimit.keeps kept).keeps made.toInCall.keep
      · apply codeAny_func
        have at0 : Inv (cxOf CX P w K mg base N q sc f cv A out s H E) [] (L2.start N vs) H s1 := inv_start S room.hd env (hlen _ _ _ _ want) rel made
        apply wpAny_mono (run.run [] s1 _ H _ at0 end_)
        · intro fl s' got
          cases fl with
          | brk => obtain ⟨_, _, _, no⟩ := got; exact no.elim
          | cont => obtain ⟨_, _, _, no⟩ := got; exact no.elim
          | next => obtain ⟨_, H', J, hq⟩ := got; exact ⟨.non, H', J.os, J.bare, J.base, J.hok, rfl, hq⟩
          | ret u => obtain ⟨v, _, H', J, rv, hq⟩ := got; exact ⟨v, H', J.os, J.bare, J.base, J.hok, rv, hq⟩
        · intro e s' he
          exact he
theorem okG {x qual : Str} {st : Stmt} {f : Addr} {fd : FuncData} {N ps : List Str} {k : Nat} {sp : Sp} (F : Fun K x qual st f fd) (S : FnScope N ps (defScope st)) (len : ∀ vs H Q E, sp vs H Q E → vs.length = ps.length)
    (body : ∀ (cv : Value) (A : Around) (out : List Env) (s : Shared) (H : Hp) (vs : List V) (Q : VK) (E : XK), (A.deeper (envOfC qual (defScope st) s.heap.objs.size f cv)).guards = some [] → Room k (A.deeper (envOfC qual (defScope st) s.heap.objs.size f cv)) → sp vs H Q E →
      ∃ t, PSs (cxOf CX0 P w K mg base N qual (defScope st) f cv A out s H E).nox (defBody st) t ∧ t { nx := fun _ H' => Q .non H', rt := Q } (L2.start N vs) H) : FnG P w K mg base CX0 (k + 1) f fd ps sp := by
  obtain ⟨oc, od, kV, doc, pm, an, cv, ct, sl, rfl, lk, code⟩ := F.ex
  refine fnG_of lk code S len fun A out s H vs Q E gu room want => ?_
  obtain ⟨t, h, q⟩ := body cv A out s H vs Q E gu room want
  exact ⟨t, h.nox, q⟩
end
section
variable {X : Cx} {CX : CXT}
theorem pe_callG {k : Nat} {f : Addr} {fd : FuncData} {ps : List Str} {sp : Sp} {x : Str} {e : Expr} {es : List Expr} {t : TA} {p1 p2 : Pos}
    (F : FnG X.prog X.w X.K X.mg X.base CX0 k f fd ps sp) (gu : X.A.guards = some []) (room : Room k X.A) (hg : Gl X x) (hm : X.mg x = some (.ref f)) (hkeep : PySem.W.keepIn X.K (.ref f) = true) (hbind : Binds X.K fd ps []) (ha : PA X (e :: es) t)
    (nd : (x == ("__debug__" : Str)) = false := by decide) (s1 : starEach (e :: es) X.env = (false, eval e X.env) :: starEach es X.env := by rfl) (s2 : (backTo p2 (starEach es X.env)).any (·.1) = false := by rfl) :
    PE X (.Call (.Name x p1) (e :: es) [] p2) (tCall sp [] E0 t) := by
  constructor
  intro pins s σ H Q I want
  apply wpAny_Call_Name_kw
  apply ld_glob I hg hm _ nd
  apply PySem.W.callWith_K (h₀ := X.base) I.ok.mod.kin hkeep _ s1 s2
  apply thn (ha.run p2 pins s σ H _ I want)
  rintro us s' ⟨vs, H', J, rel, todo⟩
  refine ⟨J.kIn, ?_⟩
  rw [List.append_nil] at todo
  have n : us.length = ps.length := rel.length ▸ F.len _ _ _ _ todo
  have args := hbind s' us J.kIn (by rw [List.append_nil]; exact n)
  rw [List.append_nil] at args
  apply wpAny_call
  apply codeAny_mono (F.go X.A X.stack s' H' ⟨us, []⟩ us vs Q E0 gu todo rel args room J.env0)
  intro r s2 got
  cases r with
  | error e => exact False.elim got
  | ok fl =>
    cases fl with
    | ret u => exact J.after got
    | next => exact False.elim got
    | brk => exact False.elim got
    | cont => exact False.elim got
/-- a def called by its name, where no repr is under way -/
structure HasG (P : Program) (w : World) (K : PySem.W.Frag) (mg : Str → Option Value) (base : Heap) (x : Str) (k : Nat) (ps : List Str) (sp : Sp) : Prop where
  ex : ∃ (f : Addr) (fd : FuncData), mg x = some (.ref f) ∧ PySem.W.keepIn K (.ref f) = true ∧ Binds K fd ps [] ∧ FnG P w K mg base CX0 k f fd ps sp
theorem pe_hasG {k : Nat} {x : Str} {ps : List Str} {sp : Sp} {e : Expr} {es : List Expr} {t : TA} {p pos : Pos} (D : HasG X.prog X.w X.K X.mg X.base x k ps sp) (gu : X.A.guards = some []) (hr : Room k X.A) (hg : Gl X x)
    (ha : PA X (e :: es) t) (nd : (x == ("__debug__" : Str)) = false := by decide) (he : starEach (e :: es) X.env = (false, eval e X.env) :: starEach es X.env := by rfl) (hpl : (backTo pos (starEach es X.env)).any (·.1) = false := by rfl) :
    PE X (.Call (.Name x p) (e :: es) [] pos) (tCall sp [] E0 t) := by
  obtain ⟨f, fd, hm, hk, hb, F⟩ := D.ex
  exact pe_callG F gu hr hg hm hk hb ha nd he hpl
end
/-! ### the end: the law's def is called where no repr is under way -/
/-- the script alone is tracked, where it is no object of the module -/
def scr (K : PySem.W.Frag) (a : Addr) (vs : List Value) (xs : List V) : Hp := fun b => if b = a ∧ K.lookup a = none then some (.frz { cls := .type "list", data := .seq vs.toArray } (.lst xs)) else none
theorem scr_or {K : PySem.W.Frag} {a : Addr} {vs : List Value} {xs : List V} (b : Addr) : scr K a vs xs b = none ∨ (b = a ∧ K.lookup a = none ∧ scr K a vs xs b = some (.frz { cls := .type "list", data := .seq vs.toArray } (.lst xs))) := by
  unfold scr
  by_cases h : b = a ∧ K.lookup a = none
  · exact .inr ⟨h.1, h.2, if_pos h⟩
  · exact .inl (if_neg h)
theorem walkG {l : PySem.W.OpenLaw} {n k : Nat} {q : Program} {loose : List Str} {XP : (Str → Option Value) → Heap → Prop} {YP : World → Heap → Prop} {d : DefRec} {x : Str}
    (hn : l.most = some n) (hn2 : n ≤ sizeLine) (hdf : d.params.defaults = []) (room : Room k callerA)
    (F : ∀ (w : World) (mg : Str → Option Value) (fa : Addr) (h : Heap), YP w h → h.Ns mainGlobals mg → mg d.name = some (.ref fa) →
      ∃ (K : PySem.W.Frag) (fd : FuncData) (sp : Sp), K.In h ∧ (∀ (s : Shared) (u : Value), BindsTo s fd ⟨[u], []⟩ [(x, u)]) ∧
        (∀ (H : Hp) (a : Addr) (ns : List Int), ns.length ≤ n → Only H → SqL K H a (ns.map V.int) → sp [.ref a] H (fun v _ => v = .bl true) fun _ _ _ => False) ∧
        ∀ base : Heap, K.In base → base.Ns mainGlobals mg → FnG l.prog w K mg base CX0 k fa fd [x] sp) :
    PySem.W.WalkO q loose XP YP l.row.toRowW d [] (fun f vs => PySem.call f vs) := by
  apply Att.attach_call hn hdf
  intro w s₀ s₁ mg mb fa o pm cd doc a vs ns G Y ho hd hcd hmg hobj hints hlen hg
  obtain ⟨K, fd, sp, inK, binds, want, fn⟩ := F w mg fa _ Y G.T.g hmg
  have at_a : s₁.heap.get? a = some { cls := .type "list", data := .seq vs.toArray } := hobj
  -- what is tracked is the script, or nothing
  let T : Hp := scr K a vs (ns.map V.int)
  have other : ∀ {b : Addr} {ob : Obj}, s₁.heap.get? b = some ob → (∀ us m, ob.data ≠ .seq us m) → T b = none := fun {b ob} e no => by
    cases scr_or (K := K) (vs := vs) (xs := ns.map V.int) (a := a) b with
    | inl z => exact z
    | inr z =>
      obtain ⟨rfl, _, _⟩ := z
      rw [at_a] at e
      cases e
      exact absurd rfl (no _ _)
  have keepNs : ∀ {b : Addr} {m : Str → Option Value}, s₁.heap.Ns b m → (hidT s₁.heap T).Ns b m := by
    rintro b m ⟨ob, es, ep, e, dt, more⟩
    exact ⟨ob, es, ep, hidT_get e (other e fun us m z => by rw [dt] at z; cases z), dt, more⟩
  have inT : K.In (hidT s₁.heap T) := fun b ob e => hidT_get (inK b ob e) (by
    cases scr_or (K := K) (vs := vs) (xs := ns.map V.int) (a := a) b with
    | inl z => exact z
    | inr z =>
      obtain ⟨rfl, z, _⟩ := z
      rw [z] at e
      cases e)
  have len : (ns.map V.int).length ≤ sizeLine := by
    rw [List.length_map]
    exact Nat.le_trans hlen hn2
  have held : HOk l.prog w T s₁.heap := fun b ob e => by
    cases scr_or (K := K) (vs := vs) (xs := ns.map V.int) (a := a) b with
    | inl z => rw [show T b = none from z] at e; cases e
    | inr z =>
      obtain ⟨rfl, _, z⟩ := z
      rw [show T b = _ from z] at e
      cases e
      exact ⟨at_a, len, vs, _, vals_ints hints, at_a⟩
  have script : SqL K T a (ns.map V.int) := by
    cases hk : K.lookup a with
    | none => exact .inl (.inr ⟨_, if_pos ⟨rfl, hk⟩⟩)
    | some ob =>
      have e := inK a ob hk
      rw [at_a] at e
      cases e
      exact .inr ⟨_, vs.toArray, _, hk, rfl, rfl, rfl, by rw [List.size_toArray, ← (vals_ints hints).length]; exact len, vals_ints hints⟩
  have only : Only T := fun b => (scr_or b).imp id fun z => ⟨_, _, z.2.2⟩
  have env : Env0 l.prog w K mg (hidT s₁.heap T) callerA [] s₁ T := by
    refine ⟨rfl, ⟨inT, keepNs G.T.g, ⟨mb, keepNs G.T.b, G.T.builtins⟩, ?_⟩, fun b ob e => of_hidT e, Nat.le_of_eq (hidT_size _ _), trivial, fun b z => absurd (show b ∈ ([] : List Addr) from z) List.not_mem_nil, held, .of_eq hg⟩
    obtain ⟨mc, h1, h2⟩ := G.T.nolimit
    exact ⟨mc, keepNs h1, h2⟩
  have run := (fn _ inT (keepNs G.T.g)).go callerA [] s₁ T ⟨[.ref a], []⟩ [.ref a] [.ref a] _ _ rfl (want T a ns hlen only script) (.cons rfl .nil) (binds s₁ _) room env
  refine codeAny_mono run fun r s' got => ?_
  cases r with
  | error e => exact False.elim got
  | ok fl =>
    cases fl with
    | next => exact got.elim
    | brk => exact got.elim
    | cont => exact got.elim
    | ret u =>
      obtain ⟨v, H', os, bare, un, ok', rv, hv⟩ := got
      have hv : v = .bl true := hv
      cases hv
      have ru : u = Value.bool true := rv
      cases ru
      refine ⟨rfl, OldK.of_keep ?_, os, bare⟩
      intro b ob e
      cases scr_or (K := K) (vs := vs) (xs := ns.map V.int) (a := a) b with
      | inl z => exact un.keep b ob e z (fun m => absurd (show b ∈ ([] : List Addr) from m) List.not_mem_nil) List.not_mem_nil
      | inr z =>
        obtain ⟨rfl, _, z⟩ := z
        have e' : s'.heap.get? b = some _ := (ok' b _ (un.frzs b _ _ z)).1
        rw [at_a] at e
        cases e
        exact e'
end Fh

set_option Elab.async false
set_option linter.all false
set_option maxRecDepth 100000
set_option maxHeartbeats 4000000
namespace Fh
open PySem PySem.Spec PyProof.Rows L2
/-! ### enumerate(what begins an iterator), from 0 on -/
theorem enum_new {v : Value} {o : Obj} {S : Heap → Prop} (B : PySem.Begins v o S) : Meets (Builtin.«enumerate.__new__» ⟨[.type "enumerate", v], []⟩) (fun _ R s => S s.heap ∧
    R (.ok (.ret (.ref (s.heap.push o).objs.size))) { s with heap := (s.heap.push o).push { cls := .type "enumerate", data := .fields #[.none, .bool false, .ref s.heap.objs.size, rawInt 0, .none, .none] } }) :=
  .of_wp fun prog w A R ⟨hp, g, d, tk, os⟩ ⟨hS, h⟩ => by
    have q0 := sub_enumerate
    have it : ∀ {A1 : Around} {E : Value → Shared → Prop} {Q : Value → Shared → Prop}, Q (.ref hp.objs.size) ⟨hp.push o, g, d, tk, os⟩ → wpAny (model prog w) A1 (pyIter v) Q E ⟨hp, g, d, tk, os⟩ := fun q => B.iter prog w _ _ ⟨hp, g, d, tk, os⟩ _ hS q
    wp_walk using it
    refine wpAny_stack_any fun st => wpAny_pure ?_
    split
    · rename_i c _ _ _ _ _
      cases (c == Value.type "enumerate") <;> (wp_walk using it; exact ⟨_, rfl, h⟩)
    · wp_walk using it
      exact ⟨_, rfl, h⟩
section
variable {prog : Program} {w : World} {A : Around} {E : Value → Shared → Prop} {s : Shared}
theorem call_enum {v : Value} {o : Obj} {S : Heap → Prop} {Q : Value → Shared → Prop} (B : PySem.Begins v o S) (hS : S s.heap)
    (h : ∀ h', IsEnum h' (s.heap.objs.size + 1) s.heap.objs.size 0 .none → h'.get? s.heap.objs.size = some o → (∀ b u, s.heap.get? b = some u → h'.get? b = some u) → Q (.ref (s.heap.objs.size + 1)) { s with heap := h' }) :
    wpAny (model prog w) A (call (.type "enumerate") [v]) Q E s := by
  refine callType_new F.called_enumerate (by decide) (F.typeCall_enumerate_1 _) (F.newCall_enumerate_1 _) (fun obj => F.args_object_init_2 obj _) F.entry_enumerate_new (enum_new B) ⟨hS, ?_⟩
  have z : (s.heap.push o).objs.size = s.heap.objs.size + 1 := Heap.size_push _ _
  have e1 := Heap.get?_push_size (s.heap.push o) (o := { cls := .type "enumerate", data := .fields #[.none, .bool false, .ref s.heap.objs.size, rawInt 0, .none, .none] }) rfl
  rw [z] at e1
  show _ ∧ _
  rw [z]
  exact ⟨⟨_, e1, rfl⟩, h _ e1 (Heap.get?_push_of_some _ (Heap.get?_push_size _ B.free)) fun b u q => Heap.get?_push_of_some _ (Heap.get?_push_of_some _ q)⟩
end
/-! ### for i, x in enumerate(tuple) -/
/-- the tuple xs at a, each item in a new pair -/
def IteT (K : PySem.W.Frag) (a : Addr) (xs : List V) : It :=
  ⟨fun i H => SqT K H a xs ∧ i < xs.length, fun i H v H' => ∃ T x, v = .ref T ∧ H T = none ∧ H' = upd H T (.tup [.int (i : Nat), x]) ∧ xs[i]? = some x, fun i H => SqT K H a xs ∧ xs.length = i⟩
theorem turn_enumT {P : Program} {w : World} {K : PySem.W.Frag} {elts : List Expr} {kk : Nat} {tpos : Pos} (a e it : Addr) (xs : List V) :
    Turn P w K (.Tuple elts kk tpos) (IteT K a xs) [e, it] e (fun i h => (∃ old, IsEnum h e it ((i : Nat) : Int) old) ∧ h.IsTupleIter it a i ∧ e ≠ it) where
  mem := List.mem_cons_self
  obj := fun i h ⟨⟨old, he⟩, ⟨o, ho, hc, hd⟩, _⟩ b hb => by
    rcases List.mem_cons.mp hb with rfl | hb
    · exact ⟨_, he, fun v q => nomatch q⟩
    · rw [List.mem_singleton.mp hb]
      exact ⟨o, ho, fun v q => by rw [hd] at q; cases q⟩
  keep := fun i h h' ⟨⟨old, he⟩, hi, ne⟩ k => ⟨⟨old, k e List.mem_cons_self _ he⟩, hi.at fun o q => k it (List.mem_cons_of_mem _ List.mem_cons_self) o q, ne⟩
  item := by
    intro X hP hw hK hc i pins s σ H E I hf st hg
    subst hP hw hK
    obtain ⟨⟨old, he⟩, hit, ne⟩ := st
    obtain ⟨hq, hlt⟩ := hg
    obtain ⟨its, rv, p, _⟩ := I.tuple hq
    have hlen : its.toArray.size = xs.length := by rw [List.size_toArray]; exact rv.length.symm
    have lte : e < s.heap.objs.size := Heap.lt_size he
    have lti : it < s.heap.objs.size := by obtain ⟨_, q, _⟩ := hit; exact Heap.lt_size q
    have nea : e ≠ a := fun q => by
      obtain ⟨o, ho, hcl, _⟩ := p
      rw [← q, he] at ho
      cases ho
      exact absurd (show Value.type "enumerate" = Value.type "tuple" from hcl) (by decide)
    have nia : a ≠ it := fun q => by
      obtain ⟨o, ho, hcl, _⟩ := p
      obtain ⟨o2, ho2, hcl2, _⟩ := hit
      rw [q, ho2] at ho
      cases ho
      rw [hcl] at hcl2
      exact absurd hcl2 (by decide)
    have D := PySem.Draws.tuple (prog := X.prog) (w := X.w) (A := X.A.in1) (by simpa using I.ok.hd hc) it a nia its.toArray
    refine wpAny_pyNext_enum_itemD D he ⟨hit, p⟩ (by rw [hlen]; exact hlt) ne (by simp [ne, nea]) fun u h' tk hu ho hst hT hsz hk => ?_
    refine ⟨_, rfl, wpAny_letOwnedTupleGo_enum (s := { s with heap := h', toks := tk + 1 }) ho fun h2 he2 sb => ?_⟩
    obtain ⟨x, hx, ru⟩ : ∃ x, xs[i]? = some x ∧ RelV x u := by
      obtain ⟨u2, hu2, r2⟩ := rv.get (List.getElem?_eq_getElem hlt)
      have hu' : its.toArray[i]? = some u := hu
      rw [List.getElem?_toArray, hu2] at hu'
      cases hu'
      exact ⟨_, List.getElem?_eq_getElem hlt, r2⟩
    have nT : s.heap.objs.size ≠ e := Nat.ne_of_gt lte
    have at2 : h2.get? s.heap.objs.size = some { cls := .type "tuple", data := .seq #[.int i tk, u] } := (sb.2 _ nT).trans hT
    have fresh := I.hok.fresh (Nat.le_refl s.heap.objs.size)
    have I1 : Inv X pins σ (upd H s.heap.objs.size (.tup [.int (i : Nat), x])) { s with heap := h2, toks := tk + 1 } :=
      I.turnedNew (ch := [e, it]) (fun b o hb q => by
        have b1 : b ≠ e := fun z => hb (by simp [z])
        have b2 : b ≠ it := fun z => hb (by simp [z])
        exact (sb.2 b b1).trans (hk b o b1 b2 q)) hf (Nat.le_refl _) ⟨by show 2 ≤ sizeLine; decide, [.int i tk, u], .cons ⟨_, rfl⟩ (.cons ru .nil), ⟨_, at2, rfl, _, rfl⟩⟩
    refine ⟨.ref s.heap.objs.size, _, I1, rfl, ⟨_, x, rfl, fresh, rfl, hx⟩, ⟨⟨u, ?_⟩, hst.1.at fun o q => (sb.2 it (Ne.symm ne)).trans q, ne⟩, fun b hb => ?_⟩
    · have e1 : ((i + 1 : Nat) : Int) = (i : Int) + 1 := by omega
      rw [e1]
      exact he2
    · have lb : b < s.heap.objs.size := by
        rcases List.mem_cons.mp hb with rfl | hb
        · exact lte
        · rw [List.mem_singleton.mp hb]; exact lti
      rw [upd_ne (Nat.ne_of_lt lb)]
      exact (hf b hb).1
  done := by
    intro X hP hw hK hc i pins s σ H E I hf st hg
    subst hP hw hK
    obtain ⟨⟨old, he⟩, hit, ne⟩ := st
    obtain ⟨hq, hn⟩ := hg
    obtain ⟨its, rv, p, _⟩ := I.tuple hq
    have hlen : its.toArray.size = i := by rw [List.size_toArray, ← hn]; exact rv.length.symm
    have nia : a ≠ it := fun q => by
      obtain ⟨o, ho, hcl, _⟩ := p
      obtain ⟨o2, ho2, hcl2, _⟩ := hit
      rw [q, ho2] at ho
      cases ho
      rw [hcl] at hcl2
      exact absurd hcl2 (by decide)
    have D := PySem.Draws.tuple (prog := X.prog) (w := X.w) (A := X.A.in1) (by simpa using I.ok.hd hc) it a nia its.toArray
    obtain ⟨f0, f1, f2, f3, f4, f5⟩ := hf it (by simp)
    rw [hlen] at D
    exact wpAny_pyNext_enum_endD D he ⟨hit, p⟩ fun h' eb => ⟨rfl, I.turned (t' := s.toks) (fun b o hb q => eb b o hb q) f0 f1 f3 f4 f5⟩
  self := fun A i s Q E ⟨⟨_, he⟩, _⟩ h => wpAny_pyIter_enum he h
def iEnumT (K : PySem.W.Frag) (ta : TA) : TI := fun σ H R => ta σ H fun vs H1 => ∃ a xs, vs = [.ref a] ∧ SqT K H1 a xs ∧ R (IteT K a xs) H1
theorem pi_enumT {X : Cx} {e : Expr} {ta : TA} {p pos tpos : Pos} {elts : List Expr} {kk : Nat} (hg : Gl X "enumerate") (hm : X.mg "enumerate" = none) (ha : PA X [e] ta) (hs : starEach [e] X.env = [(false, eval e X.env)] := by rfl) : PI X (.Tuple elts kk tpos) (.Call (.Name "enumerate" p) [e] [] pos) (iEnumT X.K ta) := by
  refine ⟨fun pins s σ H R I h => Call_ (ld_blt I hg hm boot_enumerate (PyProof.Rows.callWith_type1 (thn (ha.run pos pins s σ H _ I h) fun us s1 ⟨vs, H1, I1, r1, q1⟩ => ?_) hs rfl))⟩
  obtain ⟨a, xs, rfl, hq, q⟩ := q1
  obtain ⟨u, rfl, ru⟩ := vals1 r1
  cases ru
  obtain ⟨its, rv, pt, _⟩ := I1.tuple hq
  refine call_enum (PySem.begins_tuple a its.toArray) pt fun h' he hit hk => wpAny_pyIter_enum he ?_
  have I2 : Inv X pins σ H1 { s1 with heap := h' } := I1.kept (t' := s1.toks) hk
  refine ⟨s1.heap.objs.size + 1, [s1.heap.objs.size + 1, s1.heap.objs.size], _, _, H1, rfl, I2, turn_enumT a (s1.heap.objs.size + 1) s1.heap.objs.size xs, ⟨⟨.none, he⟩, ⟨_, hit, rfl, rfl⟩, Nat.succ_ne_self _⟩, fun b hb => ?_, q⟩
  have le : s1.heap.objs.size ≤ b := by
    rcases List.mem_cons.mp hb with rfl | hb
    · exact Nat.le_succ _
    · rw [List.mem_singleton.mp hb]; exact Nat.le_refl _
  exact I1.fpOk le (I1.hok.fresh le)
theorem walk_enumT {K : PySem.W.Frag} {a : Addr} {xs : List V} : Walk (IteT K a xs) xs.length (fun H => SqT K H a xs) (YPair (fun i => some (.int (i : Nat))) (fun i => xs[i]?)) :=
  ⟨fun i H hi q => ⟨q, hi⟩, fun H q => ⟨q, rfl⟩, fun i H x H' hi q ⟨T, y, e, hT, eH, hy⟩ => ⟨T, _, y, e, hT, eH, rfl, hy⟩⟩
end Fh

set_option Elab.async false
set_option linter.all false
set_option maxRecDepth 100000
set_option maxHeartbeats 4000000
namespace Fh
open PySem PySem.Spec PyProof.Rows L2
open AutoSeq1 (wpAny_loadPart')
section
variable {prog : Program} {w : World} {A : Around} {E : Value → Shared → Prop} {s : Shared}
/-- tuples of one length, their items equal where all stands as it does -/
theorem tupNe9 {l b : Addr} {xs ys : Array Value} {Q : Value → Shared → Prop} (hl : s.heap.IsTuple l xs) (hb : s.heap.IsTuple b ys) (hsz : xs.size = ys.size) (hu : A.units < cLine)
    (eq : ∀ p ∈ xs.toList.zip ys.toList, SeqAt.EqP prog w A.in1 s p.1 p.2 true) (h : Q (.bool false) s) : wpAny (model prog w) A (richCompare .NotEq (.ref l) (.ref b)) Q E s := by
  obtain ⟨⟨c1, dd, d1, sl⟩, ho, hc, n, hd⟩ := hl
  obtain ⟨⟨c2, dd2, d2, sl2⟩, ho2, hc2, n2, hd2⟩ := hb
  dsimp only at hc hd hc2 hd2
  subst hc hd hc2 hd2
  refine wpAny_richCompare_same_room (op := .NotEq) ⟨_, ho, rfl⟩ ⟨_, ho2, rfl⟩ F.slot_tuple_ne (GQ.call_here F.slot_tuple_ne ⟨_, ho, rfl⟩ F.entry_tuple_ne (F.args_tuple_ne_2 _ _) ?_) hu
  have q0 := AutoSeq1.sub_tuple_tuple
  obtain ⟨hp, g, d, tk, os⟩ := s
  have fin : wants (fun v s' => v ≠ .notImplemented ∧ Q v s') E (.ok (.ret (.bool false))) ⟨hp, g, d, tk, os⟩ := ⟨(fun x => nomatch x), h⟩
  wp_walk using wpAny_loadPart' ho, wpAny_loadPart' ho2, wpAny_forIn_list _ (fun rest r s' => r.1 = none ∧ s' = ⟨hp, g, d, tk, os⟩ ∧ ∀ p ∈ rest, SeqAt.EqP prog w A.in1 ⟨hp, g, d, tk, os⟩ p.1 p.2 true) _
  case turn =>
    rintro ⟨y, x⟩ rest r s' ⟨hr, rfl, all⟩
    refine wpAny_bind (all (y, x) List.mem_cons_self _ _ ?_)
    wp_walk
    exact ⟨rfl, rfl, fun p hp' => all p (List.mem_cons_of_mem _ hp')⟩
  case fin =>
    rintro ⟨r1, r2⟩ s' ⟨hr, rfl, _⟩
    dsimp only at hr
    subst hr
    wp_walk
    simpa [Builtin.Tuple.tupleCompareSizes, hsz] using fin
  case h => exact ⟨rfl, rfl, eq⟩
end
/-- a text and itself; two dicts of the same -/
inductive EqI (H : Hp) : V → V → Prop
  | str (z : Str) : EqI H (.str z) (.str z)
  | dict {a b : Addr} {ks ls : List (Key × V)} : a ≠ b → H a = some (.dK ks) → H b = some (.dK ls) → ks.length = ls.length → (∀ p ∈ ks, valV ls p.1 = some p.2 ∧ flatB p.2 = true) → EqI H (.ref a) (.ref b)
theorem EqI.run {X : Cx} {pins : List (Addr × Obj)} {σ : L2.St} {H : Hp} {s : Shared} {A : Around} (I : Inv X pins σ H s) (hu : A.units < cLine) {x y : V} {u v : Value} (h : EqI H x y) (ru : RelV x u) (rv : RelV y v) : SeqAt.EqP X.prog X.w A s u v true := by
  cases h with
  | str z =>
    obtain ⟨t, rfl⟩ := ru
    obtain ⟨t', rfl⟩ := rv
    intro E Q q
    exact wpAny_eqBool_str (by simpa using q)
  | @dict a b ks ls ne ea eb hlen hp =>
    cases ru
    cases rv
    refine SeqAt.eqP_refs ne fun E Q q => ?_
    obtain ⟨_, ya, va, ra, da⟩ := (show ObjOk X.prog X.w H s.heap a (.dK ks) from I.hok a _ ea)
    obtain ⟨_, yb, vb, rb, db⟩ := (show ObjOk X.prog X.w H s.heap b (.dK ls) from I.hok b _ eb)
    have hl : va.length = vb.length := by rw [← ra.length, ← rb.length]; exact hlen
    exact PySem.W.keq_eq (knd := mixKind X.prog X.w) (r := true) ya yb da db hu (fun _ => hits_all rb ra hp) (by simpa [hl] using q)
def rNeT : R2 := fun x y H Q => ∃ p q xs ys, x = .ref p ∧ y = .ref q ∧ H p = some (.tup xs) ∧ H q = some (.tup ys) ∧ Paired (EqI H) xs ys ∧ Q (.bl false) H
theorem zip_eq {X : Cx} {pins : List (Addr × Obj)} {σ : L2.St} {H : Hp} {s : Shared} {A : Around} (I : Inv X pins σ H s) (hu : A.units < cLine) : ∀ {xs ys : List V} {us vs : List Value}, Paired (EqI H) xs ys → Vals xs us → Vals ys vs → ∀ p ∈ us.zip vs, SeqAt.EqP X.prog X.w A s p.1 p.2 true
  | _, _, _, _, .nil, .nil, .nil, p, h => by simp at h
  | _, _, _, _, .cons e r, .cons a q, .cons b t, p, h => by
    rw [List.zip_cons_cons] at h
    rcases List.mem_cons.mp h with rfl | h
    · exact e.run I hu a b
    · exact zip_eq I hu r q t p h
theorem op_neT {X : Cx} (hu : X.A.units + 64 < cLine) : OpR X (compareOp .NotEq) rNeT := by
  intro pins s σ H x y v u Q I rx ry h
  obtain ⟨p, q, xs, ys, rfl, rfl, hp, hq, e, k⟩ := h
  cases rx
  cases ry
  obtain ⟨_, us, r1, p1⟩ := (show ObjOk X.prog X.w H s.heap p (.tup xs) from I.hok p _ hp)
  obtain ⟨_, vs, r2, p2⟩ := (show ObjOk X.prog X.w H s.heap q (.tup ys) from I.hok q _ hq)
  have hl : us.toArray.size = vs.toArray.size := by rw [List.size_toArray, List.size_toArray, ← r1.length, ← r2.length]; exact e.length
  show wpAny (model X.prog X.w) X.A (richCompare .NotEq (.ref p) (.ref q)) (EP X pins σ Q) X.xe s
  exact tupNe9 p1 p2 hl (by omega) (by simpa using zip_eq I (by simp; omega) e r1 r2) ⟨.bl false, H, I, rfl, k⟩
end Fh

set_option Elab.async false
set_option linter.all false
set_option maxRecDepth 100000
set_option maxHeartbeats 4000000
namespace Fh
open PySem L2 PyProof.Rows
/-! ### != of two tuples that are the same value -/
def rNeN : R2 := fun x y H Q => ∃ (n : Nat) (vs : List Vl), n ≤ 60 ∧ Nst n (.lst vs) ∧ VD H x (.lst vs) ∧ VD H y (.lst vs) ∧ Q (.bl false) H
theorem op_neN {X : Cx} (hu : X.A.units + 64 < cLine) : OpR X (compareOp .NotEq) rNeN := by
  intro pins s σ H x y v u Q I rx ry h
  obtain ⟨n, vs, hn, ns, hx, hy, q⟩ := h
  cases n with
  | zero => exact ns.elim
  | succ n =>
    cases hx with
    | @lst a xs _ ha qa =>
      cases hy with
      | @lst b ys _ hb qb =>
        cases (show v = Value.ref a from rx)
        cases (show u = Value.ref b from ry)
        obtain ⟨us, r1, p1, _⟩ := I.tuple (SqT.of ha)
        obtain ⟨ws, r2, p2, _⟩ := I.tuple (SqT.of hb)
        have l1 : us.length = vs.length := by rw [← r1.length, qa.length]
        have l2 : ws.length = vs.length := by rw [← r2.length, qb.length]
        have hl : us.toArray.size = ws.toArray.size := by rw [List.size_toArray, List.size_toArray, l1, l2]
        show wpAny (model X.prog X.w) X.A (richCompare .NotEq (.ref a) (.ref b)) (EP X pins σ Q) X.xe s
        refine tupNe9 (show s.heap.IsTuple a us.toArray from p1) (show s.heap.IsTuple b ws.toArray from p2) hl (by omega) (fun p hp => ?_) ⟨.bl false, H, I, rfl, q⟩
        have hp : p ∈ us.zip ws := by simpa using hp
        obtain ⟨j, hj, e⟩ := List.getElem_of_mem hp
        rw [List.length_zip] at hj
        have j1 : j < us.length := by omega
        have j2 : j < ws.length := by omega
        rw [List.getElem_zip] at e
        obtain ⟨x, hx, rx⟩ := vals_at r1 j j1
        obtain ⟨y, hy, ry⟩ := vals_at r2 j j2
        obtain ⟨c1, e1, v1⟩ := qa.get hx
        obtain ⟨c2, e2, v2⟩ := qb.get hy
        rw [e1] at e2
        cases e2
        have k := vd_tree I n c1 x y _ _ (ns c1 (List.mem_of_getElem? e1)) v1 v2 rx ry
        rw [← e]
        exact fun E Q hq => k.at X.A.in1 (by show X.A.units + 1 + n < cLine; omega) E Q hq
/-! ### flat values -/
def Scal : Vl → Prop
  | .lst _ => False
  | .rcd _ => False
  | _ => True
def Flat : Vl → Prop
  | .rcd _ => False
  | .lst xs => xs.length ≤ 6 ∧ ∀ x ∈ xs, Scal x
  | _ => True
theorem VD.scal {H H' : Hp} {x : V} {v : Vl} (h : VD H x v) (s : Scal v) : VD H' x v := by
  cases h with
  | num i => exact .num i
  | tru b => exact .tru b
  | txt z => exact .txt z
  | lst _ _ => exact s.elim
  | rcd _ _ _ => exact s.elim
theorem VDs.scal {H H' : Hp} : ∀ {xs : List V} {vs : List Vl}, VDs H xs vs → (∀ v ∈ vs, Scal v) → VDs H' xs vs
  | _, _, .nil, _ => .nil
  | _, _, .cons h q, s => .cons (h.scal (s _ List.mem_cons_self)) (VDs.scal q fun v hv => s v (List.mem_cons_of_mem _ hv))
theorem VD.flat {H H' : Hp} {x : V} {v : Vl} (h : VD H x v) (f : Flat v) (t : Tk H H') : VD H' x v := by
  cases h with
  | num i => exact .num i
  | tru b => exact .tru b
  | txt z => exact .txt z
  | lst ha q => exact .lst (t _ _ ha) (q.scal f.2)
  | rcd _ _ _ => exact f.elim
theorem VDs.flat {H H' : Hp} (t : Tk H H') : ∀ {xs : List V} {vs : List Vl}, VDs H xs vs → (∀ v ∈ vs, Flat v) → VDs H' xs vs
  | _, _, .nil, _ => .nil
  | _, _, .cons h q, s => .cons (h.flat (s _ List.mem_cons_self) t) (VDs.flat t q fun v hv => s v (List.mem_cons_of_mem _ hv))
/-- a record with flat fields -/
structure FlR (fs : List (Str × Vl)) : Prop where
  fl : ∀ f ∈ fs, Flat f.2
  nd : (fs.map Prod.fst).Nodup
theorem flat_nst {v : Vl} (h : Flat v) : Nst 2 v := by
  cases v with
  | num i => exact True.intro
  | tru i => exact True.intro
  | txt i => exact True.intro
  | lst xs =>
    intro x hx
    have := h.2 x hx
    cases x with
    | num i => exact True.intro
    | tru i => exact True.intro
    | txt i => exact True.intro
    | lst _ => exact this.elim
    | rcd _ => exact this.elim
  | rcd _ => exact h.elim
theorem FlR.nst {fs : List (Str × Vl)} (h : FlR fs) : Nst 3 (.rcd fs) := ⟨h.nd, fun f hf => flat_nst (h.fl f hf)⟩
theorem FlR.nil : FlR [] := ⟨(fun f h => nomatch h), List.nodup_nil⟩
theorem FlR.put {fs : List (Str × Vl)} (h : FlR fs) (z : Str) {v : Vl} (f : Flat v) : FlR (putL fs z v) := ⟨fun g hg => by
  rcases putL_mem hg with rfl | hg
  · exact f
  · exact h.fl g hg, putL_nd h.nd⟩
/-- a flat record's dict stays where tuples and the dict stay -/
theorem rd_keep {H H' : Hp} {a : Addr} {fs : List (Str × Vl)} (h : VD H (.ref a) (.rcd fs)) (f : ∀ g ∈ fs, Flat g.2) (t : Tk H H') (k : ∀ o, H a = some o → H' a = some o) : VD H' (.ref a) (.rcd fs) := by
  cases h with
  | rcd ha e q => exact .rcd (k _ ha) e (VDs.flat t q fun v hv => by obtain ⟨g, hg, rfl⟩ := List.mem_map.mp hv; exact f g hg)
theorem rd_at {H : Hp} {a : Addr} {fs : List (Str × Vl)} (h : VD H (.ref a) (.rcd fs)) : ∃ kvs, H a = some (.dK kvs) ∧ kvs.map Prod.fst = fs.map (fun f => (Sum.inr f.1 : Key)) ∧ VDs H (kvs.map Prod.snd) (fs.map Prod.snd) := by
  cases h with
  | rcd ha e q => exact ⟨_, ha, e, q⟩
/-- one field is put -/
theorem rd_put {H H' : Hp} {a : Addr} {fs : List (Str × Vl)} {kvs : List (Key × V)} {z : Str} {x : V} {v : Vl} (f : ∀ g ∈ fs, Flat g.2) (fv : Flat v) (e : kvs.map Prod.fst = fs.map (fun f => (Sum.inr f.1 : Key))) (q : VDs H (kvs.map Prod.snd) (fs.map Prod.snd)) (hx : VD H x v) (t : Tk H H') (h' : H' a = some (.dK (putK kvs (Sum.inr z) x))) : VD H' (.ref a) (.rcd (putL fs z v)) := by
  obtain ⟨e2, q2⟩ := put_vd e q hx
  exact .rcd h' e2 (VDs.flat t q2 fun w hw => by
    obtain ⟨g, hg, rfl⟩ := List.mem_map.mp hw
    rcases putL_mem hg with rfl | hg
    · exact fv
    · exact f g hg)
theorem rd_len {H : Hp} {a : Addr} {fs : List (Str × Vl)} {kvs : List (Key × V)} (e : kvs.map Prod.fst = fs.map (fun f => (Sum.inr f.1 : Key))) : kvs.length = fs.length := by
  have := congrArg List.length e
  simpa using this
theorem putL_len (fs : List (Str × Vl)) (z : Str) (v : Vl) : (putL fs z v).length ≤ fs.length + 1 := by
  unfold putL
  split
  · rw [List.length_map]
    exact Nat.le_succ _
  · rw [List.length_append]
    exact Nat.le_refl _
theorem putL_look (fs : List (Str × Vl)) (z : Str) (v : Vl) (y : Str) : (putL fs z v).lookup y = if y = z then some v else fs.lookup y := by
  unfold putL
  split
  · rename_i h
    induction fs with
    | nil => cases h
    | cons f fs ih =>
      obtain ⟨n, u⟩ := f
      rw [List.map_cons]
      by_cases c : n = z
      · subst c
        show ((if n = n then (n, v) else (n, u)) :: _).lookup y = _
        rw [if_pos rfl, List.lookup_cons, List.lookup_cons]
        by_cases d : y = n
        · rw [if_pos d, d]
          simp
        · rw [if_neg d, show (y == n) = false from beq_eq_false_iff_ne.mpr d]
          show (fs.map _).lookup y = fs.lookup y
          clear ih h
          induction fs with
          | nil => rfl
          | cons g gs ih =>
            obtain ⟨m, w⟩ := g
            rw [List.map_cons]
            by_cases c : m = n
            · show ((if m = n then (m, v) else (m, w)) :: _).lookup y = _
              rw [if_pos c, List.lookup_cons, List.lookup_cons, show (y == m) = false from beq_eq_false_iff_ne.mpr (by rw [c]; exact d)]
              exact ih
            · show ((if m = n then (m, v) else (m, w)) :: _).lookup y = _
              rw [if_neg c, List.lookup_cons, List.lookup_cons]
              cases (y == m) with
              | true => rfl
              | false => exact ih
      · have h2 : z ∈ fs.map Prod.fst := by
          rcases List.mem_cons.mp h with h | h
          · exact absurd h.symm c
          · exact h
        show ((if n = z then (n, v) else (n, u)) :: _).lookup y = _
        rw [if_neg c, List.lookup_cons, List.lookup_cons]
        by_cases d : y = n
        · have : ¬ y = z := fun e => c (d ▸ e)
          rw [d]
          simp [c]
        · rw [show (y == n) = false from beq_eq_false_iff_ne.mpr d]
          exact ih h2
  · rename_i h
    induction fs with
    | nil =>
      show [(z, v)].lookup y = _
      rw [List.lookup_cons]
      by_cases d : y = z
      · rw [if_pos d, d]
        simp
      · rw [if_neg d, show (y == z) = false from beq_eq_false_iff_ne.mpr d]
    | cons f fs ih =>
      obtain ⟨n, u⟩ := f
      have nz : ¬ z = n := fun e => h (by rw [e]; exact List.mem_cons_self)
      have hn : z ∉ fs.map Prod.fst := fun e => h (List.mem_cons_of_mem _ e)
      rw [List.cons_append, List.lookup_cons, List.lookup_cons]
      by_cases d : y = n
      · have : ¬ y = z := fun e => nz (e ▸ d)
        rw [d]
        simp [Ne.symm nz]
      · rw [show (y == n) = false from beq_eq_false_iff_ne.mpr d]
        exact ih hn
/-! ### stores -/
structure NumS (h : List (Str × Vl)) : Prop where
  nums : ∀ f ∈ h, ∃ i : Int, f.2 = .num i ∧ 0 ≤ i ∧ i ≤ 1000000000
  nd : (h.map Prod.fst).Nodup
theorem NumS.fl {h : List (Str × Vl)} (n : NumS h) : FlR h := ⟨fun f hf => by obtain ⟨i, e, _⟩ := n.nums f hf; rw [e]; exact True.intro, n.nd⟩
theorem NumS.put {h : List (Str × Vl)} (n : NumS h) (z : Str) {i : Int} (h0 : 0 ≤ i) (h1 : i ≤ 1000000000) : NumS (putL h z (.num i)) := ⟨fun g hg => by
  rcases putL_mem hg with rfl | hg
  · exact ⟨i, rfl, h0, h1⟩
  · exact n.nums g hg, putL_nd n.nd⟩
def gotS (h : List (Str × Vl)) (z : Str) : Int := match h.lookup z with
  | some (.num i) => i
  | _ => 0
theorem gotS_rg {h : List (Str × Vl)} (n : NumS h) (z : Str) : 0 ≤ gotS h z ∧ gotS h z ≤ 1000000000 := by
  unfold gotS
  cases e : h.lookup z with
  | none => exact ⟨by decide, by decide⟩
  | some v =>
    obtain ⟨i, ei, h0, h1⟩ := n.nums _ (look_mem e)
    have ei : v = .num i := ei
    rw [ei]
    exact ⟨h0, h1⟩
theorem gotS_val {H : Hp} {h : List (Str × Vl)} {kvs : List (Key × V)} (n : NumS h) (e : kvs.map Prod.fst = h.map (fun f => (Sum.inr f.1 : Key))) (q : VDs H (kvs.map Prod.snd) (h.map Prod.snd)) (z : Str) : (valV kvs (Sum.inr z)).getD (.int 0) = .int (gotS h z) := by
  obtain ⟨a1, a2⟩ := vd_at e q z
  unfold gotS
  cases l : h.lookup z with
  | none => rw [a1 l]; rfl
  | some v =>
    obtain ⟨x, hx, vx⟩ := a2 v l
    obtain ⟨i, ei, _⟩ := n.nums _ (look_mem l)
    have ei : v = .num i := ei
    subst ei
    rw [hx]
    cases vx
    rfl
/-! ### deeds -/
inductive Dd9 where
  | take
  | add
  | tell (f : Str)
  | copy (f g : Str)
def Dd9.ps : Dd9 → List Str
  | .take => ["take", "who", "sum", "short"]
  | .add => ["add", "who", "sum"]
  | .tell f => ["tell", f, "who"]
  | .copy f g => ["copy", f, g]
def Dd9.d (d : Dd9) : PyData := .tuple (d.ps.map PyData.str)
theorem TpAll.istrs9 {H : Hp} : ∀ {zs : List Str} {vs : List V}, TpAll H vs (zs.map PyData.str) → vs = zs.map V.str
  | [], _, h => h.inil
  | z :: zs, _, h => by
    obtain ⟨v, r, rfl, t, q⟩ := TpAll.icons h
    rw [t.istr, TpAll.istrs9 q]
    rfl
theorem Dd9.inv {H : Hp} {v : V} {d : Dd9} (h : Tp H v d.d) : ∃ t, v = .ref t ∧ H t = some (.tup (d.ps.map V.str)) := by
  obtain ⟨a, xs, rfl, ha, q⟩ := h.inv
  rw [TpAll.istrs9 q] at ha
  exact ⟨a, rfl, ha⟩
/-- what is asked with: who, how many -/
structure VOk (fs : List (Str × Vl)) (w : Str) (n : Int) : Prop where
  fl : FlR fs
  lw : fs.lookup ("who" : Str) = some (.txt w)
  ls : fs.lookup ("sum" : Str) = some (.num n)
  n0 : 0 ≤ n
  n1 : n ≤ 1000000000
  l : fs.length ≤ 40
def mv9 (w : Str) (n : Int) (d : Dd9) (h : List (Str × Vl)) : Sum Str (List (Str × Vl)) := match d with
  | .take => if gotS h w < n then .inl "short" else .inr (putL h w (.num (gotS h w - n)))
  | .add => if 1000000000 < gotS h w + n then .inl "great" else .inr (putL h w (.num (gotS h w + n)))
  | _ => .inr h
def an9 (fs : List (Str × Vl)) (w : Str) (d : Dd9) (h a : List (Str × Vl)) : List (Str × Vl) := match d with
  | .tell f => putL a f (.num (gotS h w))
  | .copy f g => match fs.lookup g with
    | some v => putL a f v
    | none => a
  | _ => a
def run9 (fs : List (Str × Vl)) (w : Str) (n : Int) : List Dd9 → List (Str × Vl) → List (Str × Vl) → Sum Str (List (Str × Vl) × List (Str × Vl))
  | [], h, a => .inr (h, a)
  | d :: ds, h, a => match mv9 w n d h with
    | .inl u => .inl u
    | .inr h' => run9 fs w n ds h' (an9 fs w d h a)
theorem mv9_ok {w : Str} {n : Int} {d : Dd9} {h h' : List (Str × Vl)} (s : NumS h) (n0 : 0 ≤ n) (e : mv9 w n d h = .inr h') : NumS h' ∧ h'.length ≤ h.length + 1 := by
  have g := gotS_rg s w
  unfold mv9 at e
  cases d with
  | take =>
    dsimp only at e
    split at e
    · cases e
    · cases e
      exact ⟨s.put w (by omega) (by omega), putL_len _ _ _⟩
  | add =>
    dsimp only at e
    split at e
    · cases e
    · cases e
      exact ⟨s.put w (by omega) (by omega), putL_len _ _ _⟩
  | tell f =>
    cases e
    exact ⟨s, Nat.le_succ _⟩
  | copy f g =>
    cases e
    exact ⟨s, Nat.le_succ _⟩
theorem an9_ok {fs : List (Str × Vl)} {w : Str} {d : Dd9} {h a : List (Str × Vl)} (hf : FlR fs) (s : FlR a) : FlR (an9 fs w d h a) ∧ (an9 fs w d h a).length ≤ a.length + 1 := by
  unfold an9
  cases d with
  | take => exact ⟨s, Nat.le_succ _⟩
  | add => exact ⟨s, Nat.le_succ _⟩
  | tell f => exact ⟨s.put f True.intro, putL_len _ _ _⟩
  | copy f g =>
    dsimp only
    cases e : fs.lookup g with
    | none => exact ⟨s, Nat.le_succ _⟩
    | some v => exact ⟨s.put f (hf.fl _ (look_mem e)), putL_len _ _ _⟩
def nz9 (p : Str × Vl) : Bool := match p.2 with
  | .num i => !decide (i = 0)
  | _ => true
def left9 (h : List (Str × Vl)) : List (Str × Vl) := h.filter nz9
theorem left9_ok {h : List (Str × Vl)} (s : NumS h) : NumS (left9 h) := ⟨fun f hf => s.nums f (List.mem_filter.mp hf).1, s.nd.sublist (List.Sublist.map _ List.filter_sublist)⟩
/-- what a run comes to, as a value -/
def resV : Sum Str (List (Str × Vl) × List (Str × Vl)) → List Vl
  | .inl u => [.txt "fault", .txt u]
  | .inr (h, a) => [.txt "done", .rcd a, .rcd (left9 h)]
theorem res_nst {R : Sum Str (List (Str × Vl) × List (Str × Vl))} (h : ∀ p, R = .inr p → NumS p.1 ∧ FlR p.2) : Nst 4 (.lst (resV R)) := by
  cases R with
  | inl u =>
    intro x hx
    rcases List.mem_cons.mp hx with rfl | hx
    · exact True.intro
    · rw [List.mem_singleton.mp hx]
      exact True.intro
  | inr p =>
    obtain ⟨h1, h2⟩ := h p rfl
    intro x hx
    rcases List.mem_cons.mp hx with rfl | hx
    · exact True.intro
    rcases List.mem_cons.mp hx with rfl | hx
    · exact h2.nst
    · rw [List.mem_singleton.mp hx]
      exact (left9_ok h1).fl.nst
theorem run9_ok {fs : List (Str × Vl)} {w : Str} {n : Int} (hf : FlR fs) (n0 : 0 ≤ n) : ∀ {ds : List Dd9} {h a : List (Str × Vl)}, NumS h → FlR a → ∀ p, run9 fs w n ds h a = .inr p → NumS p.1 ∧ FlR p.2 ∧ p.1.length ≤ h.length + ds.length ∧ p.2.length ≤ a.length + ds.length
  | [], h, a, hs, ha, p, e => by
    cases e
    exact ⟨hs, ha, Nat.le_refl _, Nat.le_refl _⟩
  | d :: ds, h, a, hs, ha, p, e => by
    unfold run9 at e
    cases m : mv9 w n d h with
    | inl u => rw [m] at e; cases e
    | inr h' =>
      rw [m] at e
      obtain ⟨a1, a2⟩ := mv9_ok hs n0 m
      obtain ⟨b1, b2⟩ := an9_ok (w := w) (d := d) (h := h) hf ha
      obtain ⟨c1, c2, c3, c4⟩ := run9_ok hf n0 a1 b1 p e
      exact ⟨c1, c2, by rw [List.length_cons]; omega, by rw [List.length_cons]; omega⟩
end Fh

set_option Elab.async false
set_option linter.all false
set_option maxRecDepth 100000
set_option maxHeartbeats 4000000
namespace Fh
open PySem L2 PyProof.Rows
abbrev sCpy : Stmt := top 8
abbrev sMov : Stmt := top 17
abbrev sHom : Stmt := top 16
abbrev nCpy : List Str := ["value", "part"]
abbrev nMov : List Str := ["deed", "value", "held", "text", "many", "there"]
abbrev nHom : List Str := ["deed", "value", "held", "answer"]
abbrev pMov : List Str := ["deed", "value", "held"]
theorem iteY {A B : Prop} {c : Bool} (h : c = true) (a : A) : if c = true then A else B := by
  rw [h]
  exact iteT a
theorem iteN {A B : Prop} {c : Bool} (h : c = false) (b : B) : if c = true then A else B := by
  rw [h]
  exact iteF b
theorem sneb {a b : Str} (h : a ≠ b) : decide (V.str a = V.str b) = false := decide_eq_false fun e => h (by injection e)
theorem seqb (a : Str) : decide (V.str a = V.str a) = true := decide_eq_true rfl
def okC : Nat → Vl → Prop
  | 0 => fun _ => False
  | 1 => Scal
  | _ => Flat
def spCpy (j : Nat) : Sp := fun vs H Q _ => ∃ (x : V) (v : Vl), vs = [x] ∧ VD H x v ∧ okC j v ∧ ∀ (y : V) (H' : Hp), Same H H' → VD H' y v → Q y H'
def spMov : Sp := fun vs H Q _ => ∃ (t vd hd : Addr) (d : Dd9) (fs h : List (Str × Vl)) (w : Str) (n : Int), vs = [.ref t, .ref vd, .ref hd] ∧ H t = some (.tup (d.ps.map V.str)) ∧ (d = .take ∨ d = .add) ∧ VD H (.ref vd) (.rcd fs) ∧ VOk fs w n ∧ VD H (.ref hd) (.rcd h) ∧ NumS h ∧ h.length ≤ 1000 ∧
  (∀ u, mv9 w n d h = .inl u → Q (.str u) H) ∧ ∀ h' H', mv9 w n d h = .inr h' → (∀ b o, b ≠ hd → H b = some o → H' b = some o) → VD H' (.ref hd) (.rcd h') → Q .non H'
def spHom : Sp := fun vs H Q _ => ∃ (t vd hd ad : Addr) (d : Dd9) (fs h a : List (Str × Vl)) (w : Str) (n : Int), vs = [.ref t, .ref vd, .ref hd, .ref ad] ∧ H t = some (.tup (d.ps.map V.str)) ∧ VD H (.ref vd) (.rcd fs) ∧ VOk fs w n ∧ VD H (.ref hd) (.rcd h) ∧ NumS h ∧ h.length ≤ 1000 ∧ VD H (.ref ad) (.rcd a) ∧ FlR a ∧ a.length ≤ 1000 ∧ hd ≠ ad ∧
  (∀ u H', mv9 w n d h = .inl u → Same H H' → Q (.str u) H') ∧ ∀ h' H', mv9 w n d h = .inr h' → (∀ b o, b ≠ hd → b ≠ ad → H b = some o → H' b = some o) → VD H' (.ref hd) (.rcd h') → VD H' (.ref ad) (.rcd (an9 fs w d h a)) → Q .non H'
theorem small9 {n : Nat} (h : n ≤ 1000) : n < sizeLine := Nat.lt_of_le_of_lt h (by decide)
/-- tuples stay where one dict is written -/
theorem tk_wr {H : Hp} {a : Addr} {kvs : List (Key × V)} {o : HO} (h : H a = some (.dK kvs)) : Tk H (upd H a o) := fun b xs e => by
  rw [upd_ne (fun q => by rw [q, h] at e; cases e)]
  exact e
section
variable {P : Program} {w : World} {K : PySem.W.Frag} {mg : Str → Option Value} {base : Heap}
theorem scCpy : FnScope nCpy ["value"] (defScope sCpy) := ⟨rfl, rfl, rfl, by decide +kernel, rfl, by decide +kernel, by decide +kernel⟩
theorem none_cpy {f : Addr} {fd : FuncData} (F : Fun K "copied" "copied" sCpy f fd) : FnOk P w K mg base CX0 1 f fd ["value"] (spCpy 0) := by
  refine F.ok scCpy (fun vs H Q E h => ?_) (fun cdv A outer s H vs Q E hr h => ?_)
  · obtain ⟨_, _, _, _, hk, _⟩ := h
    exact hk.elim
  · obtain ⟨_, _, _, _, hk, _⟩ := h
    exact hk.elim
theorem ok_cpy {f : Addr} {fd : FuncData} {l j : Nat} (F : Fun K "copied" "copied" sCpy f fd) (G : Glb mg) (DC : Has P w K mg base "copied" l ["value"] (spCpy j)) : FnOk P w K mg base CX0 (l + 1) f fd ["value"] (spCpy (j + 1)) := by
  refine F.ok scCpy (fun vs H Q E h => ?_) (fun cdv A outer s H vs Q E hr h => ?_)
  · obtain ⟨x, v, rfl, _⟩ := h
    rfl
  · obtain ⟨x, v, rfl, vx, ok, q⟩ := h
    refine ⟨_, (pss_cons (ps_if (pt_val (pe_callB call_isi (by rfl) G.isi (by decide +kernel) (pa_cons (pv 0) (pa_cons (pe_bltn (v := .ty "dict") rfl G.dict (by decide +kernel) rfl) pa_nil))))
      (pss_one ps_never)
      pss_nil)
      (pss_cons (ps_if (pt_val (pe_callB call_isi (by rfl) G.isi (by decide +kernel) (pa_cons (pv 0) (pa_cons (pe_bltn (v := .ty "tuple") rfl G.tuple (by decide +kernel) rfl) pa_nil))))
      (pss_one (ps_ret (pe_callTy call_tuple_of (by rfl) G.tuple (by decide +kernel) (pa_cons (pe_lc (own := [("part", 1)]) (g := (gName 1)) (tt := tYes) rfl scCpy.nd (pi_tup (pv 0)) (blkOk_by (N := nCpy) (sc := defScope sCpy) (by decide +kernel)) (fun _ _ _ _ _ => (pg_name (i := 1) scCpy.nd rfl (Or.inl rfl))) (fun _ _ _ _ _ => pts_nil) (fun _ _ _ _ _ => (pe_has DC hr rfl (pa_cons (pv 1) pa_nil)))) pa_nil))))
      pss_nil)
      (pss_one (ps_ret (pv 0))))), ?_⟩
    have fl : Flat v := by
      cases j with
      | zero =>
        cases v with
        | lst _ => exact ok.elim
        | rcd _ => exact ok.elim
        | num _ => exact True.intro
        | tru _ => exact True.intro
        | txt _ => exact True.intro
      | succ j => exact ok
    cases vx with
    | num i => exact ⟨_, rfl, _, _, .type "int", .type "dict", false, rfl, .ty _, .base (.int i), rfl, false, rfl, iteF ⟨_, rfl, _, _, .type "int", .type "tuple", false, rfl, .ty _, .base (.int i), rfl, false, rfl, iteF ⟨_, rfl, q _ H (Same.refl H) (.num i)⟩⟩⟩
    | tru i => exact ⟨_, rfl, _, _, .type "bool", .type "dict", false, rfl, .ty _, .base (.bl i), rfl, false, rfl, iteF ⟨_, rfl, _, _, .type "bool", .type "tuple", false, rfl, .ty _, .base (.bl i), rfl, false, rfl, iteF ⟨_, rfl, q _ H (Same.refl H) (.tru i)⟩⟩⟩
    | txt i => exact ⟨_, rfl, _, _, .type "str", .type "dict", false, rfl, .ty _, .base (.str i), rfl, false, rfl, iteF ⟨_, rfl, _, _, .type "str", .type "tuple", false, rfl, .ty _, .base (.str i), rfl, false, rfl, iteF ⟨_, rfl, q _ H (Same.refl H) (.txt i)⟩⟩⟩
    | rcd _ _ _ => exact fl.elim
    | @lst a ys us ha qa =>
      have j1 : okC j = Scal ∨ okC j = Flat := by
        cases j with
        | zero => exact ok.elim
        | succ j =>
          cases j with
          | zero => exact .inl rfl
          | succ j => exact .inr rfl
      have okp : ∀ u ∈ us, okC j u := fun u hu => by
        have s : Scal u := fl.2 u hu
        rcases j1 with e | e
        · rw [e]
          exact s
        · rw [e]
          cases u with
          | lst _ => exact s.elim
          | rcd _ => exact s.elim
          | num _ => exact True.intro
          | tru _ => exact True.intro
          | txt _ => exact True.intro
      refine ⟨_, rfl, _, _, .type "tuple", .type "dict", false, rfl, .ty _, .base (.tup ha), rfl, false, rfl, iteF ?_⟩
      refine ⟨_, rfl, _, _, .type "tuple", .type "tuple", true, rfl, .ty _, .base (.tup ha), rfl, true, rfl, iteT ?_⟩
      refine ⟨_, rfl, a, rfl, ⟨_, SqT.of ha⟩, fun D hD => ?_⟩
      refine lc_tup (xs := ys) (fun i H3 => Same H H3 ∧ ∃ zs : List V, H3 D = some (.lst zs) ∧ zs.length = i ∧ VDs H3 zs (us.take i)) ?_ ?_ ?_ ?_
      · exact ⟨Same.new hD, [], upd_same, rfl, .nil⟩
      · rintro i H3 _ ⟨S3, _⟩
        exact SqT.of (S3 _ _ ha)
      · rintro i y H3 hy ⟨S3, zs, h3, lz, v3⟩
        obtain ⟨u, hu, vu⟩ := qa.get hy
        have um := List.mem_of_getElem? hu
        refine ⟨rfl, yes (iteT ?_)⟩
        refine ⟨_, rfl, y, u, rfl, vu.same S3, okp u um, fun y2 H4 S4 v4 => ?_⟩
        have h4 := S4 _ _ h3
        have lim : i < us.length := (List.getElem?_eq_some_iff.mp hu).1
        have l6 : us.length ≤ 6 := fl.1
        have su : Scal u := fl.2 u um
        refine ⟨_, h4, ?_, ?_⟩
        · rw [lz]
          exact Nat.lt_of_lt_of_le (show i < 6 by omega) (by decide)
        · refine ⟨Same.wr (S3.trans S4) hD, zs ++ [y2], upd_same, by rw [List.length_append, lz]; rfl, ?_⟩
          rw [List.take_add_one, hu]
          exact VDs.app (v3.scal fun v hv => fl.2 v (List.mem_of_mem_take hv)) (.cons (v4.scal su) .nil)
      · rintro H3 ⟨S3, zs, h3, lz, v3⟩
        rw [qa.length, List.take_length] at v3
        refine ⟨D, _, rfl, .inl ⟨SqL.of h3, fun pt hpt => ?_⟩⟩
        exact q _ _ (S3.trans (Same.new hpt)) (.lst upd_same (v3.scal fl.2))
theorem scMov : FnScope nMov pMov (defScope sMov) := ⟨rfl, rfl, rfl, by decide +kernel, rfl, by decide +kernel, by decide +kernel⟩
theorem ok_mov {f : Addr} {fd : FuncData} (F : Fun K "moved" "moved" sMov f fd) {tG tB : Tok} (mG : mg "GREATEST_WHOLE" = some (.int 1000000000 tG)) (mB : mg "TOO_GREAT" = some (.str "great" tB)) : FnOk P w K mg base CX0 1 f fd pMov spMov := by
  refine F.ok scMov (fun vs H Q E h => ?_) (fun cdv A outer s H vs Q E hr h => ?_)
  · obtain ⟨t, vd, hd, d, fs, h, w, n, rfl, _⟩ := h
    rfl
  · obtain ⟨t, vd, hd, d, fs, h, w, n, rfl, ht, dd, hv, vo, hh, ns, lh, q1, q2⟩ := h
    have hu := hu_of hr
    refine ⟨_, (pss_cons (ps_set (i := 3) scMov.nd rfl (Or.inl rfl) (pe_dget hu (pv 1) (pe_ix ix_tup (pv 0) pe_int (fun _ _ => rfl)) (fun _ _ => rfl)))
      (pss_cons (ps_set (i := 4) scMov.nd rfl (Or.inl rfl) (pe_dget hu (pv 1) (pe_ix ix_tup (pv 0) pe_int (fun _ _ => rfl)) (fun _ _ => rfl)))
      (pss_cons (ps_set (i := 5) scMov.nd rfl (Or.inl rfl) (pe_dget2 hu (pv 2) (pv 3) pe_int ⟨rfl, rfl, rfl, rfl⟩))
      (pss_cons (ps_if (pt_cmpR op_eq (pe_ix ix_tup (pv 0) pe_int (fun _ _ => rfl)) pe_str (nomark _))
      (pss_cons (ps_if (pt_cmpR op_gt (pv 4) (pv 5) (nomark _))
      (pss_one (ps_ret (pe_ix ix_tup (pv 0) pe_int (fun _ _ => rfl))))
      pss_nil)
      (pss_one (ps_dput hu (pv 2) (pv 3) (pe_op op_sub (pv 5) (pv 4)) rfl)))
      (pss_cons (ps_if (pt_cmpR op_gt (pe_op op_add (pv 5) (pv 4)) (pe_glob (v := .int 1000000000) rfl mG ⟨_, rfl⟩) (nomark _))
      (pss_one (ps_ret (pe_glob (v := .str "great") rfl mB ⟨_, rfl⟩)))
      pss_nil)
      (pss_one (ps_dput hu (pv 2) (pv 3) (pe_op op_add (pv 5) (pv 4)) rfl))))
      (pss_one (ps_ret pe_non)))))), ?_⟩
    obtain ⟨kv, hkv, ekv, qkv⟩ := rd_at hv
    obtain ⟨kh, hkh, ekh, qkh⟩ := rd_at hh
    have lkh : kh.length < sizeLine := by rw [rd_len (H := H) (a := hd) ekh]; exact small9 lh
    have gw : valV kv (Sum.inr "who") = some (.str w) := by
      obtain ⟨x, hx, vx⟩ := (vd_at ekv qkv "who").2 _ vo.lw
      cases vx
      exact hx
    have gs : valV kv (Sum.inr "sum") = some (.int n) := by
      obtain ⟨x, hx, vx⟩ := (vd_at ekv qkv "sum").2 _ vo.ls
      cases vx
      exact hx
    have gg := gotS_val ns ekh qkh w
    have fin : ∀ i : Int, VD (upd H hd (.dK (putK kh (Sum.inr w) (.int i)))) (.ref hd) (.rcd (putL h w (.num i))) := fun i => rd_put ns.fl.fl True.intro ekh qkh (.num i) (tk_wr hkh) upd_same
    have kp : ∀ i : Int, ∀ b o, b ≠ hd → H b = some o → (upd H hd (.dK (putK kh (Sum.inr w) (.int i)))) b = some o := fun i b o nb e => by rw [upd_ne nb]; exact e
    rcases dd with rfl | rfl
    · refine ⟨_, rfl, _, rfl, t, _, _, _, rfl, rfl, SqT.of ht, rfl, vd, _, rfl, .inl ⟨_, Sum.inr "who", .inl hkv, rfl, gw.symm⟩, ?_⟩
      refine ⟨_, rfl, _, rfl, t, _, _, _, rfl, rfl, SqT.of ht, rfl, vd, _, rfl, .inl ⟨_, Sum.inr "sum", .inl hkv, rfl, gs.symm⟩, ?_⟩
      refine ⟨_, rfl, hd, rfl, .inl ⟨_, .inl hkh⟩, _, rfl, _, DGet.k (k := Sum.inr w) hkh, ?_⟩
      rw [gg]
      refine ⟨_, rfl, t, _, _, _, rfl, rfl, SqT.of ht, rfl, rfl, _, rfl, iteY (seqb _) ?_⟩
      refine ⟨_, rfl, _, rfl, _, _, rfl, rfl, _, rfl, ite2 (fun c => ?_) (fun c => ?_)⟩
      · have c' : gotS h w < n := of_decide_eq_true c
        exact ⟨_, rfl, t, _, _, _, rfl, rfl, SqT.of ht, rfl, q1 "short" (if_pos c')⟩
      · have c' : ¬ gotS h w < n := fun e => c (decide_eq_true e)
        exact ⟨_, rfl, _, rfl, _, _, rfl, rfl, _, rfl, _, rfl, hd, _, rfl, DPut.k (k := Sum.inr w) hkh lkh, q2 _ _ (if_neg c') (kp _) (fin _)⟩
    · refine ⟨_, rfl, _, rfl, t, _, _, _, rfl, rfl, SqT.of ht, rfl, vd, _, rfl, .inl ⟨_, Sum.inr "who", .inl hkv, rfl, gw.symm⟩, ?_⟩
      refine ⟨_, rfl, _, rfl, t, _, _, _, rfl, rfl, SqT.of ht, rfl, vd, _, rfl, .inl ⟨_, Sum.inr "sum", .inl hkv, rfl, gs.symm⟩, ?_⟩
      refine ⟨_, rfl, hd, rfl, .inl ⟨_, .inl hkh⟩, _, rfl, _, DGet.k (k := Sum.inr w) hkh, ?_⟩
      rw [gg]
      refine ⟨_, rfl, t, _, _, _, rfl, rfl, SqT.of ht, rfl, rfl, _, rfl, iteN (sneb (by decide +kernel)) ?_⟩
      refine ⟨_, rfl, _, rfl, _, _, rfl, rfl, _, _, rfl, rfl, _, rfl, ite2 (fun c => ?_) (fun c => ?_)⟩
      · have c' : 1000000000 < gotS h w + n := of_decide_eq_true c
        exact q1 "great" (if_pos c')
      · have c' : ¬ 1000000000 < gotS h w + n := fun e => c (decide_eq_true e)
        exact ⟨_, rfl, _, rfl, _, _, rfl, rfl, _, rfl, _, rfl, hd, _, rfl, DPut.k (k := Sum.inr w) hkh lkh, q2 _ _ (if_neg c') (kp _) (fin _)⟩
theorem scHom : FnScope nHom nHom (defScope sHom) := ⟨rfl, rfl, rfl, by decide +kernel, rfl, by decide +kernel, by decide +kernel⟩
theorem ok_hom {f : Addr} {fd : FuncData} (F : Fun K "do_at_home" "do_at_home" sHom f fd) (DM : Has P w K mg base "moved" 1 pMov spMov) (DC : Has P w K mg base "copied" 3 ["value"] (spCpy 2)) : FnOk P w K mg base CX0 4 f fd nHom spHom := by
  refine F.ok scHom (fun vs H Q E h => ?_) (fun cdv A outer s H vs Q E hr h => ?_)
  · obtain ⟨t, vd, hd, ad, d, fs, h, a, w, n, rfl, _⟩ := h
    rfl
  · obtain ⟨t, vd, hd, ad, d, fs, h, a, w, n, rfl, ht, hv, vo, hh, ns, lh, ha, fa, la, ne, q1, q2⟩ := h
    have hu := hu_of hr
    refine ⟨_, (pss_cons (ps_if (pt_cmpR op_in_seq (pe_ix ix_tup (pv 0) pe_int (fun _ _ => rfl)) (pe_tup (pa_cons pe_str (pa_cons pe_str pa_nil))) rfl)
      (pss_one (ps_ret (pe_has DM (hr.mono (by omega)) rfl (pa_cons (pv 0) (pa_cons (pv 1) (pa_cons (pv 2) pa_nil))))))
      pss_nil)
      (pss_cons (ps_if (pt_cmpR op_eq (pe_ix ix_tup (pv 0) pe_int (fun _ _ => rfl)) pe_str (nomark _))
      (pss_one (ps_dput hu (pv 3) (pe_ix ix_tup (pv 0) pe_int (fun _ _ => rfl)) (pe_dget2 hu (pv 2) (pe_dget hu (pv 1) (pe_ix ix_tup (pv 0) pe_int (fun _ _ => rfl)) (fun _ _ => rfl)) pe_int ⟨rfl, rfl, rfl, rfl⟩) rfl))
      (pss_one (ps_if (pt_cmp (pc_din hu (pe_ix ix_tup (pv 0) pe_int (fun _ _ => rfl)) (pv 1)))
      (pss_one (ps_dput hu (pv 3) (pe_ix ix_tup (pv 0) pe_int (fun _ _ => rfl)) (pe_has DC (hr.mono (by omega)) rfl (pa_cons (pe_dget hu (pv 1) (pe_ix ix_tup (pv 0) pe_int (fun _ _ => rfl)) (fun _ _ => rfl)) pa_nil)) rfl))
      pss_nil)))
      (pss_one (ps_ret pe_non)))), ?_⟩
    have first : ∃ r, d.ps.map V.str = .str (d.ps.headD "") :: r := by cases d <;> exact ⟨_, rfl⟩
    refine ⟨_, rfl, t, _, _, _, rfl, rfl, SqT.of ht, (by cases d <;> rfl : atI (d.ps.map V.str) 0 = some (.str (d.ps.headD ""))), (by show 2 ≤ sizeLine; decide), fun t2 ht2 => ?_⟩
    have S : Same H (upd H t2 (.tup [.str "take", .str "add"])) := Same.new ht2
    have h2 : (upd H t2 (.tup [.str "take", .str "add"])) t2 = some (.tup [.str "take", .str "add"]) := upd_same
    generalize upd H t2 (.tup [.str "take", .str "add"]) = H2 at *
    refine ⟨t2, _, rfl, .inr (SqT.of h2), rfl, rfl, _, rfl, ?_⟩
    have hv2 := hv.same S
    have hh2 := hh.same S
    have ha2 := ha.same S
    have ht3 := S _ _ ht
    by_cases dd : d = .take ∨ d = .add
    · refine iteY (by rcases dd with rfl | rfl <;> rfl) ?_
      refine ⟨_, rfl, _, rfl, _, rfl, t, vd, hd, d, fs, h, w, n, rfl, ht3, dd, hv2, vo, hh2, ns, lh, fun u e => q1 u _ e S, fun h' H3 e kp hr3 => ?_⟩
      refine q2 h' H3 e (fun b o n1 _ e => kp b o n1 (S _ _ e)) hr3 ?_
      have ea : an9 fs w d h a = a := by rcases dd with rfl | rfl <;> rfl
      rw [ea]
      obtain ⟨kh, hkh, _⟩ := rd_at hh2
      refine rd_keep ha2 fa.fl (fun b xs e => kp b _ (fun z => by rw [z, hkh] at e; cases e) e) (fun o e => kp _ o (Ne.symm ne) e)
    · obtain ⟨kv, hkv, ekv, qkv⟩ := rd_at hv2
      obtain ⟨kh, hkh, ekh, qkh⟩ := rd_at hh2
      obtain ⟨ka, hka, eka, qka⟩ := rd_at ha2
      have lka : ka.length < sizeLine := by rw [rd_len (H := H2) (a := ad) eka]; exact small9 la
      cases d with
      | take => exact absurd (.inl rfl) dd
      | add => exact absurd (.inr rfl) dd
      | tell g =>
        refine iteN (by rfl) ?_
        have gw : valV kv (Sum.inr "who") = some (.str w) := by
          obtain ⟨x, hx, vx⟩ := (vd_at ekv qkv "who").2 _ vo.lw
          cases vx
          exact hx
        have gg := gotS_val ns ekh qkh w
        refine ⟨_, rfl, t, _, _, _, rfl, rfl, SqT.of ht3, rfl, rfl, _, rfl, iteY (seqb _) ?_⟩
        refine ⟨_, rfl, hd, rfl, .inl ⟨_, .inl hkh⟩, _, rfl, _, rfl, t, _, _, _, rfl, rfl, SqT.of ht3, rfl, vd, _, rfl, .inl ⟨_, Sum.inr "who", .inl hkv, rfl, gw.symm⟩, _, DGet.k (k := Sum.inr w) hkh, ?_⟩
        rw [gg]
        refine ⟨_, rfl, _, rfl, t, _, _, _, rfl, rfl, SqT.of ht3, rfl, ad, _, rfl, DPut.k (k := Sum.inr g) hka lka, q2 h _ rfl (fun b o _ n2 e => ?_) ?_ ?_⟩
        · rw [upd_ne n2]
          exact S _ _ e
        · exact rd_keep hh2 ns.fl.fl (tk_wr hka) fun o e => by rw [upd_ne ne]; exact e
        · exact rd_put fa.fl True.intro eka qka (.num _) (tk_wr hka) upd_same
      | copy g z =>
        refine iteN (by rfl) ?_
        refine ⟨_, rfl, t, _, _, _, rfl, rfl, SqT.of ht3, rfl, rfl, _, rfl, iteN (sneb (by decide +kernel)) ?_⟩
        refine ⟨_, rfl, t, _, _, _, rfl, rfl, SqT.of ht3, rfl, _, rfl, vd, _, rfl, DGet.k (k := Sum.inr z) hkv, _, rfl, ?_⟩
        obtain ⟨v0, v1⟩ := vd_at ekv qkv z
        cases hlk : fs.lookup z with
        | none =>
          rw [v0 hlk]
          have ea : an9 fs w (.copy g z) h a = a := by
            show (match fs.lookup z with | some v => putL a g v | none => a) = a
            rw [hlk]
          refine iteF (q2 h H2 rfl (fun b o _ _ e => S _ _ e) hh2 ?_)
          rw [ea]
          exact ha2
        | some v =>
          obtain ⟨x, hx, vx⟩ := v1 v hlk
          rw [hx]
          refine iteT ?_
          have ea : an9 fs w (.copy g z) h a = putL a g v := by
            show (match fs.lookup z with | some v => putL a g v | none => a) = _
            rw [hlk]
          have fv : Flat v := vo.fl.fl _ (look_mem hlk)
          refine ⟨_, rfl, _, rfl, t, _, _, _, rfl, rfl, SqT.of ht3, rfl, vd, _, rfl, .inl ⟨_, Sum.inr z, .inl hkv, rfl, hx.symm⟩, ?_⟩
          refine ⟨x, v, rfl, vx, fv, fun y H4 S4 v4 => ?_⟩
          obtain ⟨ka4, hka4, eka4, qka4⟩ := rd_at (ha2.same S4)
          have e4 := S4 _ _ hka
          rw [hka4] at e4
          cases e4
          refine ⟨_, rfl, _, rfl, t, _, _, _, rfl, rfl, SqT.of (S4 _ _ ht3), rfl, ad, _, rfl, DPut.k (k := Sum.inr g) hka4 lka, q2 h _ rfl (fun b o _ n2 e => ?_) ?_ ?_⟩
          · rw [upd_ne n2]
            exact S4 _ _ (S _ _ e)
          · exact rd_keep (hh2.same S4) ns.fl.fl (tk_wr hka4) fun o e => by rw [upd_ne ne]; exact e
          · rw [ea]
            exact rd_put fa.fl fv eka4 qka4 v4 (tk_wr hka4) upd_same
end
end Fh

set_option Elab.async false
set_option linter.all false
set_option maxRecDepth 100000
set_option maxHeartbeats 4000000
namespace Fh
open PySem L2 PyProof.Rows
theorem dc_walk {J : It} {n : Nat} {G : Hp → Prop} {Y : Nat → Hp → V → Hp → Prop} (wk : Walk J n G Y) {g : TG} {tt : TT} {tk tv : TE} {vs : List Nat} {σ : L2.St} {H1 : Hp} {D : Addr} {Qd : Hp → Prop} (Pv : Nat → Hp → Prop) (h0 : Pv 0 (upd H1 D (.dK []))) (hG : ∀ i H, i ≤ n → Pv i H → G H)
    (hs : ∀ i x H H', i < n → Pv i H → Y i H x H' → g x (wipe σ vs) H' fun σ2 H2 => wipe σ2 vs = wipe σ vs ∧ tt σ2 H2 fun b H3 =>
      if b = true then tk σ2 H3 fun y H4 => tv σ2 H4 fun z H5 => ∃ kvs k, y = kV k ∧ H5 D = some (.dK kvs) ∧ kvs.length < sizeLine ∧ Pv (i + 1) (upd H5 D (.dK (putK kvs k z))) else Pv (i + 1) H3) (hd : ∀ H, Pv n H → Qd H) :
    ∃ W : Nat → Nat → Hp → Prop, (∃ m, W 0 m (upd H1 D (.dK []))) ∧ ∀ i m H, W i m H →
      (J.stop i H ∧ Qd H) ∨ (J.go i H ∧ ∃ Nx : Hp → Prop, (∀ H', Nx H' → ∃ m', m' < m ∧ W (i + 1) m' H') ∧ ∀ x H', J.yld i H x H' → g x (wipe σ vs) H' fun σ2 H2 => wipe σ2 vs = wipe σ vs ∧ tt σ2 H2 fun b H3 =>
        if b = true then tk σ2 H3 fun y H4 => tv σ2 H4 fun z H5 => ∃ kvs k, y = kV k ∧ H5 D = some (.dK kvs) ∧ kvs.length < sizeLine ∧ Nx (upd H5 D (.dK (putK kvs k z))) else Nx H3) := by
  refine ⟨fun i m H => m + i = n ∧ Pv i H, ⟨n, Nat.add_zero _, h0⟩, fun i m H ⟨hm, p⟩ => ?_⟩
  have q := hG i H (by omega) p
  cases m with
  | zero =>
    have e : i = n := by omega
    rw [e] at p
    rw [e]
    exact .inl ⟨wk.stops H q, hd H p⟩
  | succ m => exact .inr ⟨wk.goes i H (by omega) q, Pv (i + 1), fun H' p' => ⟨m, Nat.lt_succ_self _, by omega, p'⟩, fun x H' y => hs i x H H' (by omega) p (wk.yields i H x H' (by omega) q y)⟩
/-! ### calls -/
structure Cl9 where
  num : Int
  nam : Str
  ask : Str
  ans : Str
  ds : List Dd9
def Cl9.d (c : Cl9) : PyData := .tuple [.int c.num, .str c.nam, .str c.ask, .str c.ans, .tuple (c.ds.map Dd9.d)]
theorem Tp.five {H : Hp} {v : V} {d1 d2 d3 d4 d5 : PyData} (h : Tp H v (.tuple [d1, d2, d3, d4, d5])) : ∃ a x1 x2 x3 x4 x5, v = .ref a ∧ H a = some (.tup [x1, x2, x3, x4, x5]) ∧ Tp H x1 d1 ∧ Tp H x2 d2 ∧ Tp H x3 d3 ∧ Tp H x4 d4 ∧ Tp H x5 d5 := by
  obtain ⟨a, xs, rfl, ha, q⟩ := h.inv
  obtain ⟨x1, r, rfl, h1, q⟩ := q.icons
  obtain ⟨x2, r, rfl, h2, q⟩ := q.icons
  obtain ⟨x3, r, rfl, h3, q⟩ := q.icons
  obtain ⟨x4, r, rfl, h4, q⟩ := q.icons
  obtain ⟨x5, r, rfl, h5, q⟩ := q.icons
  rw [q.inil] at ha
  exact ⟨a, x1, x2, x3, x4, x5, rfl, ha, h1, h2, h3, h4, h5⟩
theorem cl9_of {H : Hp} {v : V} {c : Cl9} (h : Tp H v c.d) : ∃ t u, v = .ref t ∧ H t = some (.tup [.int c.num, .str c.nam, .str c.ask, .str c.ans, u]) ∧ Tp H u (.tuple (c.ds.map Dd9.d)) := by
  obtain ⟨t, x1, x2, x3, x4, x5, rfl, ht, t1, t2, t3, t4, t5⟩ := Tp.five h
  rw [t1.iint, t2.istr, t3.istr, t4.istr] at ht
  exact ⟨t, x5, rfl, ht, t5⟩
theorem calls9_at {H : Hp} {xs : List V} {cl : List Cl9} {i : Nat} {x : V} (q : TpAll H xs (cl.map Cl9.d)) (e : xs[i]? = some x) :
    ∃ c t u, cl[i]? = some c ∧ x = .ref t ∧ H t = some (.tup [.int c.num, .str c.nam, .str c.ask, .str c.ans, u]) ∧ Tp H u (.tuple (c.ds.map Dd9.d)) := by
  obtain ⟨d, e2, tx⟩ := q.get' e
  rw [List.getElem?_map] at e2
  cases hr : cl[i]? with
  | none => rw [hr] at e2; cases e2
  | some c =>
    rw [hr] at e2
    cases e2
    obtain ⟨t, u, h1, h2, h3⟩ := cl9_of tx
    exact ⟨c, t, u, rfl, h1, h2, h3⟩
/-- a face with these calls -/
def FaceK9 (C : Addr) (H : Hp) (a : Addr) (cl : List Cl9) : Prop := ∃ (dx e : Addr) (v1 v2 v3 v4 : V) (xs : List V), H a = some (.ins C dx (ff v1 v2 v3 v4 (.ref e))) ∧ H e = some (.tup xs) ∧ TpAll H xs (cl.map Cl9.d)
theorem FaceK9.same {C : Addr} {H H' : Hp} {a : Addr} {cl : List Cl9} (h : FaceK9 C H a cl) (s : Same H H') : FaceK9 C H' a cl := by
  obtain ⟨dx, e, v1, v2, v3, v4, xs, h1, h2, h3⟩ := h
  exact ⟨dx, e, v1, v2, v3, v4, xs, s _ _ h1, s _ _ h2, TpAll.keep (Same.tk s) _ _ h3⟩
def numIs9 (n : Int) (c : Cl9) : Bool := decide (c.num = n)
theorem find_first9 {α : Type} {p : α → Bool} : ∀ {l : List α} {i : Nat} {c d : α}, l.find? p = some c → l[i]? = some d → p d = true → (∀ (j : Nat) (e : α), j < i → l[j]? = some e → p e = false) → d = c
  | [], _, _, _, h, _, _, _ => by cases h
  | x :: l, 0, c, d, h, e, hp, _ => by
    cases e
    rw [List.find?_cons, hp] at h
    exact Option.some.inj h
  | x :: l, i + 1, c, d, h, e, hp, hb => by
    have hx := hb 0 x (Nat.succ_pos _) rfl
    rw [List.find?_cons, hx] at h
    exact find_first9 h e hp fun j y hj hy => hb (j + 1) y (by omega) hy
abbrev sCof9 : Stmt := inClass (top 22) 5
abbrev sOut9 : Stmt := top 15
abbrev nCof9 : List Str := ["self", "number", "call"]
abbrev pOut9 : List Str := ["face", "spoken", "number", "value", "store", "answers"]
abbrev nOut9 : List Str := ["face", "spoken", "number", "value", "store", "answers", "deeds", "held", "answer", "taken", "place", "deed", "goal", "fault", "text"]
def spCof9 (C : Addr) : Sp := fun vs H Q _ => ∃ (a : Addr) (cl : List Cl9) (n : Int) (c : Cl9), vs = [.ref a, .int n] ∧ FaceK9 C H a cl ∧ cl.find? (numIs9 n) = some c ∧ ∀ (t : Addr) (u : V), H t = some (.tup [.int c.num, .str c.nam, .str c.ask, .str c.ans, u]) → Tp H u (.tuple (c.ds.map Dd9.d)) → Q (.ref t) H
abbrev Rn9 := Sum Str (List (Str × Vl) × List (Str × Vl))
/-- what a call comes to, new since H0 -/
def Res9 (H0 H : Hp) (r : V) (R : Rn9) : Prop := VD H r (.lst (resV R)) ∧ ∀ p, R = .inr p → ∃ (t A S : Addr) (ka ks : List (Key × V)), r = .ref t ∧ H t = some (.tup [.str "done", .ref A, .ref S]) ∧ H A = some (.dK ka) ∧ H S = some (.dK ks) ∧ H0 A = none ∧ H0 S = none ∧ A ≠ S ∧ ka.length ≤ 100 ∧ ks.length ≤ 1000
def spOut9 (C : Addr) : Sp := fun vs H Q _ => ∃ (fa vd sd : Addr) (s1 a1 : V) (num : Int) (cl : List Cl9) (c : Cl9) (fs h0 : List (Str × Vl)) (w : Str) (n : Int), vs = [.ref fa, s1, .int num, .ref vd, .ref sd, a1] ∧ FaceK9 C H fa cl ∧ cl.find? (numIs9 num) = some c ∧ c.ds.length ≤ 10 ∧ VD H (.ref vd) (.rcd fs) ∧ VOk fs w n ∧ VD H (.ref sd) (.rcd h0) ∧ NumS h0 ∧ h0.length ≤ 900 ∧
  ∀ r H', Same H H' → Res9 H H' r (run9 fs w n c.ds h0 []) → Q r H'
theorem left9_step {h : List (Str × Vl)} {i : Nat} {p : Str × Vl} (e : h[i]? = some p) : (h.take (i + 1)).filter nz9 = (h.take i).filter nz9 ++ (if nz9 p = true then [p] else []) := by
  rw [List.take_succ, e, List.filter_append]
  show _ ++ [p].filter nz9 = _
  cases q : nz9 p with
  | true => rw [List.filter_cons_of_pos q]; rfl
  | false => rw [List.filter_cons_of_neg (by rw [q]; exact Bool.false_ne_true)]; rfl
theorem filt_new {h : List (Str × Vl)} {i : Nat} {p : Str × Vl} (nd : (h.map Prod.fst).Nodup) (e : h[i]? = some p) : p.1 ∉ ((h.take i).filter nz9).map Prod.fst := fun hm => by
  obtain ⟨q, hq, eq⟩ := List.mem_map.mp hm
  have hq1 := (List.mem_filter.mp hq).1
  have et : h.take (i + 1) = h.take i ++ [p] := by rw [List.take_add_one, e]; rfl
  have nd2 : ((h.take i ++ [p]).map Prod.fst).Nodup := by
    rw [← et]
    exact nd.sublist (List.Sublist.map _ (List.take_sublist _ _))
  rw [List.map_append, List.nodup_append] at nd2
  exact nd2.2.2 _ (List.mem_map.mpr ⟨q, hq1, rfl⟩) _ (List.mem_singleton.mpr rfl) eq
theorem putL_new {fs : List (Str × Vl)} {z : Str} {v : Vl} (h : z ∉ fs.map Prod.fst) : putL fs z v = fs ++ [(z, v)] := by
  unfold putL
  rw [if_neg h]
section
variable {P : Program} {w : World} {K : PySem.W.Frag} {mg : Str → Option Value} {base : Heap}
theorem scCof9 : FnScope nCof9 ["self", "number"] (defScope sCof9) := ⟨rfl, rfl, rfl, by decide +kernel, rfl, by decide +kernel, by decide +kernel⟩
theorem ok_cof9 {C f : Addr} {fd : FuncData} (F : Fun K "call_of" "Face.call_of" sCof9 f fd) (cl : Cls K C) (n5 : NoAttr K C "calls") (DW : Has P w K mg base "is_whole" 1 ["thing"] spWho) : FnOk P w K mg base CX0 2 f fd ["self", "number"] (spCof9 C) := by
  refine F.ok scCof9 (fun vs H Q E h => ?_) (fun cdv A outer s H vs Q E hr h => ?_)
  · obtain ⟨a, cs, n, c, rfl, _⟩ := h
    rfl
  · obtain ⟨a, cs, n, c, rfl, ⟨dx, e, v1, v2, v3, v4, xs, hA, he, tx⟩, hf, q⟩ := h
    refine ⟨_, (pss_cons (ps_if (pt_val (pe_has DW (hr.mono (by decide)) rfl (pa_cons (pv 1) pa_nil)))
      (pss_one (ps_for PassesOwn.never rfl (pi_tup (pe_fld (pv 0) rfl)) (pg_name (i := 2) scCof9.nd rfl (Or.inl rfl))
      (pss_one (ps_if (pt_cmpR op_eq (pe_ix ix_tup (pv 2) pe_int (fun _ _ => rfl)) (pv 1) (nomark _))
      (pss_one (ps_ret (pv 2)))
      pss_nil))))
      pss_nil)
      (pss_one ps_never)), ?_⟩
    refine ⟨_, rfl, .inl ⟨n, rfl, true, rfl, iteT ?_⟩⟩
    refine ⟨_, rfl, a, C, dx, _, _, rfl, hA, cl, n5, ff_calls, e, rfl, ⟨_, SqT.of he⟩, ?_⟩
    refine for_tup (xs := xs) (fun i σ H3 => H3 = H ∧ (∃ a2, σ = [some (.ref a), some (.int n), a2]) ∧ ∀ (j : Nat) (d : Cl9), j < i → cs[j]? = some d → numIs9 n d = false) ?_ ?_ ?_ ?_
    · exact ⟨rfl, ⟨_, rfl⟩, fun j r hj => absurd hj (Nat.not_lt_zero _)⟩
    · rintro i σ H3 _ ⟨rfl, _⟩
      exact SqT.of he
    · rintro i x σ H3 hx ⟨rfl, ⟨a2, rfl⟩, hB⟩
      obtain ⟨d, t, u, hd, rfl, ht, tu⟩ := calls9_at tx hx
      refine ⟨_, rfl, t, _, 0, _, rfl, rfl, SqT.of ht, rfl, _, rfl, rfl, _, rfl, ?_⟩
      by_cases en : d.num = n
      · rw [show decide (V.int d.num = V.int n) = true from decide_eq_true (by rw [en])]
        refine iteT ?_
        have := find_first9 hf hd (decide_eq_true en) hB
        subst this
        exact ⟨_, rfl, q t u ht tu⟩
      · rw [show decide (V.int d.num = V.int n) = false from decide_eq_false (fun h => en (by injection h))]
        refine iteF ⟨rfl, ⟨_, rfl⟩, fun j s hj hs => ?_⟩
        by_cases ej : j = i
        · rw [ej, hd] at hs
          cases hs
          exact decide_eq_false en
        · exact hB j s (by omega) hs
    · rintro σ H3 ⟨rfl, _, hB⟩
      obtain ⟨i, hi⟩ := List.mem_iff_getElem?.mp (List.mem_of_find?_eq_some hf)
      have el : xs.length = cs.length := by rw [tx.length, List.length_map]
      have := hB i c (by rw [el]; exact (List.getElem?_eq_some_iff.mp hi).1) hi
      rw [List.find?_some hf] at this
      cases this
theorem scOut9 : FnScope nOut9 pOut9 (defScope sOut9) := ⟨rfl, rfl, rfl, by decide +kernel, rfl, by decide +kernel, by decide +kernel⟩
theorem ok_out9 {C f : Addr} {fd : FuncData} {kws : List (Str × V)} (F : FunD K "outcome" "outcome" (defArgs sOut9) (defBody sOut9) (defScope sOut9) [] kws f fd) (G : Glb mg) (DC : HasM P w K mg base C "call_of" 2 ["self", "number"] (spCof9 C)) (DH : Has P w K mg base "do_at_home" 4 nHom spHom) : FnOk P w K mg base CX0 5 f fd pOut9 (spOut9 C) := by
  refine F.ok scOut9 (fun vs H Q E h => ?_) (fun cdv A outer s H vs Q E hr h => ?_)
  · obtain ⟨fa, vd, sd, s1, a1, num, cl, c, fs, h0, w, n, rfl, _⟩ := h
    rfl
  · obtain ⟨fa, vd, sd, s1, a1, num, cl, c, fs, h0, w, n, rfl, hF, hf, ld, hv, vo, hs, ns, l0, k⟩ := h
    have hu := hu_of hr
    refine ⟨_, PSs.nox (pss_cons (ps_set (i := 6) scOut9.nd rfl (Or.inl rfl) (pe_ix ix_tup (pe_hasM DC (hr.mono (by omega)) (pv 0) (pa_cons (pv 2) pa_nil)) pe_int (fun _ _ => rfl)))
      (pss_cons (ps_set (i := 7) scOut9.nd rfl (Or.inr rfl) (pe_callTy call_dictD (by rfl) G.dict (by decide +kernel) (pa_cons (pv 4) pa_nil)))
      (pss_cons (ps_set (i := 8) scOut9.nd rfl (Or.inl rfl) pe_dnewK)
      (pss_cons (ps_set (i := 9) scOut9.nd rfl (Or.inl rfl) pe_int)
      (pss_cons (ps_for PassesOwn.never rfl (pi_enumT rfl G.enumerate (pa_cons (pv 6) pa_nil)) (pg_tup rfl (pgs_cons (pg_name (i := 10) scOut9.nd rfl (.inl rfl)) (pgs_cons (pg_name (i := 11) scOut9.nd rfl (.inl rfl)) pgs_nil)))
        (pss_cons (ps_if (pt_cmpR op_eq (pe_ix ix_tup (pv 11) pe_int (fun _ _ => rfl)) pe_str (nomark _)) (pss_cons ps_never (pss_cons ps_never (pss_one ps_never)))
          (pss_one (ps_if (pt_cmpR op_eq (pe_ix ix_tup (pv 11) pe_int (fun _ _ => rfl)) pe_str (nomark _)) (pss_cons ps_never (pss_one ps_never)) (pss_one (ps_set (i := 13) scOut9.nd rfl (Or.inl rfl) (pe_has DH (hr.mono (by omega)) rfl (pa_cons (pv 11) (pa_cons (pv 3) (pa_cons (pv 7) (pa_cons (pv 8) pa_nil))))))))))
        (pss_one (ps_if (pt_cmpR op_notN (pv 13) pe_non (nomark _)) (pss_one (ps_ret (pe_tup (pa_cons pe_str (pa_cons (pv 13) pa_nil))))) pss_nil))))
      (pss_one (ps_ret (pe_tup (pa_cons pe_str (pa_cons (pv 8) (pa_cons (pe_lock (pe_dc (own := [("text", 14)]) (g := gName 14) (tt := tTest (tOp rNe (tDGet (tVar 7) (tVar 14)) (tC (.int 0)))) (tk := tVar 14) (tv := tDGet (tVar 7) (tVar 14)) rfl scOut9.nd (pi_keys (pv 7)) (blkOk_by (N := nOut9) (sc := defScope sOut9) (by decide +kernel))
        (fun _ _ _ _ _ => pg_name (i := 14) scOut9.nd rfl (Or.inl rfl)) (fun _ _ _ _ _ => pts_one (pt_cmpR op_ne (pe_dget hu (pv 7) (pv 14) (fun _ _ => rfl)) pe_int (nomark _))) (fun _ _ _ _ _ => pv 14) (fun _ _ _ _ _ => pe_dget hu (pv 7) (pv 14) (fun _ _ => rfl)))) pa_nil))))))))))), ?_⟩
    obtain ⟨dx, e, v1, v2, v3, v4, xsF, hfa, he, tcl⟩ := id hF
    obtain ⟨k0, hk0, ek0, qk0⟩ := rd_at hs
    refine ⟨_, rfl, fa, dx, _, rfl, hfa, ff_meth (by decide +kernel) (by decide +kernel) (by decide +kernel) (by decide +kernel) (by decide +kernel), _, rfl, fa, cl, num, c, rfl, hF, hf, fun ct du hct tdu => ?_⟩
    obtain ⟨dt, xs, rfl, hdt, tds⟩ := tdu.inv
    refine ⟨ct, _, _, _, rfl, rfl, SqT.of hct, rfl, ?_⟩
    refine ⟨_, rfl, sd, k0, rfl, .inl hk0, fun hd hhd => fun ad had => ?_⟩
    have n1 : hd ≠ ad := fun e => by rw [← e, upd_same] at had; cases had
    have S1 : Same H (upd H hd (.dK k0)) := Same.new hhd
    have S2 : Same H (upd (upd H hd (.dK k0)) ad (.dK [])) := S1.trans (Same.new had)
    have hadH : H ad = none := S1.free had
    have hhd2 : (upd (upd H hd (.dK k0)) ad (.dK [])) hd = some (.dK k0) := by rw [upd_ne n1, upd_same]
    have vh2 : VD (upd (upd H hd (.dK k0)) ad (.dK [])) (.ref hd) (.rcd h0) := .rcd hhd2 ek0 (VDs.flat (Same.tk S2) qk0 fun v hv => by obtain ⟨g, hg, rfl⟩ := List.mem_map.mp hv; exact ns.fl.fl g hg)
    refine ⟨_, rfl, dt, xs, rfl, SqT.of (S2 _ _ hdt), ?_⟩
    refine L2.for_it walk_enumT (fun j σ H3 => ∃ (h a : List (Str × Vl)), (∃ a10 a11 a12 a13, σ = [some (.ref fa), some s1, some (.int num), some (.ref vd), some (.ref sd), some a1, some (.ref dt), some (.ref hd), some (.ref ad), some (.int 0), a10, a11, a12, a13, none]) ∧ Same H H3 ∧ VD H3 (.ref hd) (.rcd h) ∧ VD H3 (.ref ad) (.rcd a) ∧ NumS h ∧ FlR a ∧ h.length ≤ 900 + j ∧ a.length ≤ j ∧ run9 fs w n (c.ds.drop j) h a = run9 fs w n c.ds h0 []) ?_ ?_ ?_ ?_
    · exact ⟨h0, [], ⟨_, _, _, _, rfl⟩, S2, vh2, .rcd upd_same rfl .nil, ns, FlR.nil, l0, Nat.le_refl _, rfl⟩
    · rintro j σ H3 _ ⟨h, a, _, S3, _⟩
      exact SqT.of (S3 _ _ hdt)
    · rintro j x σ H3 H4 hj ⟨h, a, ⟨a10, a11, a12, a13, rfl⟩, S3, hh, ha, sh, sa, lh, la, er⟩ ⟨T, y1, y2, rfl, hT, rfl, e1, e2⟩
      cases e1
      obtain ⟨d, hd1, td⟩ := tds.get' e2
      obtain ⟨dd, hdd, rfl⟩ : ∃ dd, c.ds[j]? = some dd ∧ d = dd.d := by
        rw [List.getElem?_map] at hd1
        cases q : c.ds[j]? with
        | none => rw [q] at hd1; cases hd1
        | some dd => rw [q] at hd1; exact ⟨dd, rfl, (Option.some.inj hd1).symm⟩
      obtain ⟨t, rfl, ht⟩ := Dd9.inv td
      have hj6 : j < 10 := by
        have := (List.getElem?_eq_some_iff.mp hdd).1
        omega
      have S4 : Same H3 (upd H3 T (.tup [.int (j : Nat), .ref t])) := Same.new hT
      have drp : c.ds.drop j = dd :: c.ds.drop (j + 1) := by
        obtain ⟨hlt, e⟩ := List.getElem?_eq_some_iff.mp hdd
        rw [List.drop_eq_getElem_cons hlt, e]
      rw [drp] at er
      have nask : ∃ z : Str, (dd.ps.map V.str)[0]? = some (.str z) ∧ z ≠ "ask" ∧ z ≠ "get" := by
        cases dd with
        | tell f => exact ⟨_, rfl, by decide +kernel, by decide +kernel⟩
        | copy f g => exact ⟨_, rfl, by decide +kernel, by decide +kernel⟩
        | take => exact ⟨_, rfl, by decide +kernel, by decide +kernel⟩
        | add => exact ⟨_, rfl, by decide +kernel, by decide +kernel⟩
      obtain ⟨z, hz, z1, z2⟩ := nask
      have ht4 := S4 _ _ (S3 _ _ ht)
      refine ⟨T, _, rfl, SqT.of upd_same, rfl, _, _, rfl, _, _, rfl, rfl, ?_⟩
      refine ⟨_, rfl, t, _, _, _, rfl, rfl, SqT.of ht4, atI_nat (j := 0) hz, rfl, _, rfl, iteN (sneb z1) ?_⟩
      refine ⟨_, rfl, t, _, _, _, rfl, rfl, SqT.of ht4, atI_nat (j := 0) hz, rfl, _, rfl, iteN (sneb z2) ?_⟩
      refine ⟨_, rfl, _, rfl, _, rfl, _, rfl, t, vd, hd, ad, dd, fs, h, a, w, n, rfl, ht4, (hv.same S3).same S4, vo, hh.same S4, sh, by omega, ha.same S4, sa, by omega, n1, fun u H5 em S5 => ?_, fun h' H5 em keep hh5 ha5 => ?_⟩
      · refine ⟨_, rfl, rfl, _, rfl, iteY (by rfl) ?_⟩
        refine ⟨_, rfl, (by show 2 ≤ sizeLine; decide), fun t6 ht6 => k _ _ ((S3.trans (S4.trans S5)).trans (Same.new ht6)) ?_⟩
        have er' : run9 fs w n c.ds h0 [] = .inl u := by
          rw [← er]
          unfold run9
          rw [em]
        rw [er']
        exact ⟨.lst upd_same (.cons (.txt _) (.cons (.txt _) .nil)), fun p e => by cases e⟩
      · refine ⟨_, rfl, rfl, _, rfl, iteN (by rfl) ?_⟩
        obtain ⟨a1', a2'⟩ := mv9_ok sh vo.n0 em
        obtain ⟨b1', b2'⟩ := an9_ok (w := w) (d := dd) (h := h) vo.fl sa
        refine ⟨h', an9 fs w dd h a, ⟨_, _, _, _, rfl⟩, fun b o e => ?_, hh5, ha5, a1', b1', by omega, by omega, ?_⟩
        · refine keep b o (fun q => ?_) (fun q => ?_) (S4 _ _ (S3 _ _ e))
          · rw [q, hhd] at e; cases e
          · rw [q, hadH] at e; cases e
        · rw [← er]
          show _ = (match mv9 w n dd h with | .inl u => _ | .inr h' => _)
          rw [em]
    · rintro σ H3 ⟨h, a, ⟨a10, a11, a12, a13, rfl⟩, S3, hh, ha, sh, sa, lh, la, er⟩
      have lx : xs.length = c.ds.length := by rw [tds.length, List.length_map]
      rw [lx, List.drop_length] at er
      rw [lx] at lh la
      have er' : run9 fs w n c.ds h0 [] = .inr (h, a) := er.symm
      rw [er'] at k
      obtain ⟨kh, hkh, ekh, qkh⟩ := rd_at hh
      obtain ⟨ka, hka, eka, qka⟩ := rd_at ha
      have lkh := rd_len (H := H3) (a := hd) ekh
      have lka := rd_len (H := H3) (a := ad) eka
      refine ⟨_, rfl, hd, .dK kh, hkh, True.intro, fun od => ?_⟩
      have hl : kh.length < sizeLine := small9 (by omega)
      refine ⟨_, rfl, hd, od, rfl, .inl ⟨kh, upd_same, fun D hD => ?_⟩⟩
      have nD : D ≠ hd := fun e => by rw [e, upd_same] at hD; cases hD
      have hD3 : H3 D = none := by rw [upd_ne nD] at hD; exact hD
      refine dc_walk walk_keys (fun j H4 => Same (upd H3 hd (.frz od (.dK kh))) H4 ∧ VD H4 (.ref D) (.rcd ((h.take j).filter nz9))) ?_ ?_ ?_ ?_
      · exact ⟨Same.new hD, .rcd upd_same rfl .nil⟩
      · rintro j H4 _ ⟨S4, _⟩
        exact S4 _ _ upd_same
      · rintro j x H4 H5 hj ⟨S4, vD4⟩ ⟨rfl, kk, vv, hkv, rfl⟩
        have h1 : (kh.map Prod.fst)[j]? = some kk := by rw [List.getElem?_map, hkv]; rfl
        have h2 : (kh.map Prod.snd)[j]? = some vv := by rw [List.getElem?_map, hkv]; rfl
        rw [ekh, List.getElem?_map] at h1
        obtain ⟨u, hu2, vu⟩ := qkh.get h2
        rw [List.getElem?_map] at hu2
        cases hp : h[j]? with
        | none => rw [hp] at h1; cases h1
        | some p =>
          rw [hp] at h1 hu2
          cases h1
          cases hu2
          obtain ⟨ii, ei, _⟩ := sh.nums _ (List.mem_of_getElem? hp)
          rw [ei] at vu
          cases vu
          have hval : valV kh (Sum.inr p.1) = some (.int ii) := by
            obtain ⟨y, hy, vy⟩ := (vd_at ekh qkh p.1).2 p.2 (look_self sh.nd p (List.mem_of_getElem? hp))
            rw [ei] at vy
            cases vy
            exact hy
          have hg : DGet H5 hd (.str p.1) (some (.int ii)) := .inl ⟨kh, Sum.inr p.1, .inr ⟨od, S4 _ _ upd_same⟩, rfl, hval.symm⟩
          refine ⟨rfl, _, rfl, _, rfl, hd, _, rfl, hg, rfl, _, rfl, ?_⟩
          have st := left9_step hp
          have en : nz9 p = !decide (ii = 0) := by
            unfold nz9
            rw [ei]
          obtain ⟨kD, hkD, ekD, qkD⟩ := rd_at vD4
          have lkD := rd_len (H := H5) (a := D) ekD
          have lf : ((h.take j).filter nz9).length ≤ h.length := Nat.le_trans (List.length_filter_le _ _) (by rw [List.length_take]; omega)
          refine ite2 (fun c2 => ?_) (fun c2 => ?_)
          · have c' : nz9 p = true := by
              rw [en]
              by_cases z0 : ii = 0
              · rw [z0] at c2
                exact absurd c2 (by decide)
              · rw [decide_eq_false z0]
                rfl
            rw [if_pos c'] at st
            refine ⟨_, rfl, _, rfl, _, rfl, hd, _, rfl, hg, _, Sum.inr p.1, rfl, hkD, small9 (by omega), Same.wr S4 hD, ?_⟩
            rw [st]
            have pn := putL_new (v := p.2) (filt_new sh.nd hp)
            have ep : p = (p.1, p.2) := rfl
            rw [show (h.take j).filter nz9 ++ [p] = putL ((h.take j).filter nz9) p.1 p.2 from pn.symm]
            refine rd_put (fun g hg => sh.fl.fl g (List.mem_of_mem_take (List.mem_filter.mp hg).1)) (by rw [ei]; exact True.intro) ekD qkD (by rw [ei]; exact .num _) (tk_wr hkD) upd_same
          · have c' : nz9 p = false := by
              cases q : nz9 p with
              | false => rfl
              | true =>
                rw [en] at q
                refine absurd ?_ c2
                by_cases z0 : ii = 0
                · rw [decide_eq_true z0] at q
                  cases q
                · show (!decide (V.int ii = V.int 0)) = true
                  rw [decide_eq_false (fun e => z0 (by injection e))]
                  rfl
            rw [if_neg (by rw [c']; exact Bool.false_ne_true), List.append_nil] at st
            rw [st]
            exact ⟨S4, vD4⟩
      · rintro H4 ⟨S4, vD4⟩
        rw [lkh, List.take_length] at vD4
        refine ⟨S4 _ _ upd_same, (by show 3 ≤ sizeLine; decide), fun t6 ht6 => ?_⟩
        have S34 : Same H3 (upd H4 hd (.dK kh)) := fun b o e => by
          by_cases q : b = hd
          · rw [q] at e ⊢
            rw [upd_same, ← e, hkh]
          · rw [upd_ne q]
            exact S4 _ _ (by rw [upd_ne q]; exact e)
        have S6 := S34.trans (Same.new (o := .tup [.str "done", .ref ad, .ref D]) ht6)
        obtain ⟨kD, hkD, ekD, qkD⟩ := rd_at vD4
        have lkD := rd_len (H := H4) (a := D) ekD
        have lf : (h.filter nz9).length ≤ h.length := List.length_filter_le _ _
        have hD6 : (upd (upd H4 hd (.dK kh)) t6 (.tup [.str "done", .ref ad, .ref D])) D = some (.dK kD) := Same.new ht6 _ _ (by rw [upd_ne nD]; exact hkD)
        have vD6 : VD (upd (upd H4 hd (.dK kh)) t6 (.tup [.str "done", .ref ad, .ref D])) (.ref D) (.rcd (left9 h)) := .rcd hD6 ekD (VDs.scal qkD fun v hv => by
          obtain ⟨g, hg, rfl⟩ := List.mem_map.mp hv
          obtain ⟨i, ei, _⟩ := sh.nums g (List.mem_filter.mp hg).1
          rw [ei]
          exact True.intro)
        refine k _ _ (S3.trans S6) ⟨.lst upd_same (.cons (.txt _) (.cons (ha.same S6) (.cons vD6 .nil))), fun p ep => ?_⟩
        cases ep
        refine ⟨t6, ad, D, ka, kD, rfl, upd_same, S6 _ _ hka, hD6, hadH, S3.free hD3, ne_of_none hka hD3, by omega, by omega⟩
end
end Fh

set_option Elab.async false
set_option linter.all false
set_option maxRecDepth 100000
set_option maxHeartbeats 4000000
namespace Fh
open PySem PySem.Spec PyProof.Rows L2
/-! ### set(a list of whole numbers) -/
section
variable {P : Program} {w : World} {A : Around}
theorem ints_at9 : ∀ {us : List Value} {ns : List Int}, IntsAre us ns → ∀ (i : Nat) (v : Value), us[i]? = some v → ∃ k t, ns[i]? = some k ∧ v = .int k t
  | _, _, .nil, i, v, h => by simp at h
  | _, _, .cons _ _ q, 0, v, h => by simp at h; subst h; exact ⟨_, _, rfl, rfl⟩
  | _, _, .cons _ _ q, i + 1, v, h => by
    obtain ⟨k, t, h1, h2⟩ := ints_at9 q i v (by simpa using h)
    exact ⟨k, t, by simpa using h1, h2⟩
theorem initI {R : Value → Shared → Prop} {E : Value → Shared → Prop} {s : Shared} {S l : Addr} {items : Array Value} {ns : List Int} (hh : A.handled = none) (hl : s.heap.IsList l items) (hS : s.heap.get? S = some (noSet w))
    (hn : items.size = ns.length) (hb : ns.length + 1 < scanBound) (hk : ∀ (i : Nat) (v : Value), items[i]? = some v → ∃ k t, ns[i]? = some k ∧ v = .int k t)
    (fin : ∀ (h' : Heap) (tk c : Nat), SetR w h' S (fun j => decide (j ∈ ns)) c → c ≤ ns.length → (∀ b o, b ≠ S → s.heap.get? b = some o → h'.get? b = some o) → R .none { s with heap := h', toks := tk }) :
    codeAny (model P w) A (.call (.builtin "set.__init__") ⟨[.ref S, .ref l], []⟩) (wants R E) s := by
  refine codeAny_call_builtin F.called_set.init.plain F.entry_set_init (check_set_init_1 ⟨_, hS, rfl⟩ ?_)
  have hl0 := hl
  obtain ⟨⟨oc, od, odt, osl⟩, hol, hcl, nl, hdl⟩ := hl
  dsimp only at hcl hdl
  subst hcl
  subst hdl
  have q1 := F.sub_list_set
  have q2 := F.sub_list_frozenset
  have q3 : (Value.type "list" == Value.type "dict") = false := by decide
  have lS : l ≠ S := fun e => by
    rw [e, hS] at hol
    have c := congrArg Obj.cls (Option.some.inj hol)
    exact absurd (show Value.type "set" = Value.type "list" from c) (by decide)
  unfold Builtin.«set.__init__» noKeywords Builtin.Frozenset.updateFrom
  generalize hit : pyIter = it
  wp_walk
  subst hit
  refine wpAny_pyIter_list hl0 (wpAny_bind (wpAny_runValue ?_))
  have n1 : l ≠ s.heap.objs.size := Nat.ne_of_lt (Heap.lt_size hol)
  have n2 : S ≠ s.heap.objs.size := Nat.ne_of_lt (Heap.lt_size hS)
  have h3 : A.in1.in1.handled = none := by simp [hh]
  have keep : ∀ {b : Addr} {o : Obj}, s.heap.get? b = some o → (s.heap.push { cls := .type "list_iterator", data := .fields #[.ref l, .int 0 0] }).get? b = some o := fun e => Heap.get?_push_of_some _ e
  have W := (Walks.list (prog := P) (w := w) h3 s.heap.objs.size l n1 items).toS
  refine set_update_ints W S (by simp [n2, lS.symm]) ns hn hb hk (items.size - 0) 0 { s with heap := s.heap.push { cls := .type "list_iterator", data := .fields #[.ref l, .int 0 0] } } rfl (Nat.zero_le _) ⟨⟨_, Heap.get?_push_size _ rfl, rfl, rfl⟩, hl0.push _⟩ ⟨0, Nat.le_refl _, setR_new_at (keep hS)⟩ (fun s' c mv cl so => ?_)
  obtain ⟨h', g', d', tk', os'⟩ := s'
  have eg : g' = s.gens := mv.gens
  have ed : d' = s.drawn := mv.drawn
  have eo : os' = s.os := mv.os
  subst eg
  subst ed
  subst eo
  exact wpAny_pure (wpAny_pure (fin h' tk' c so (by omega) fun b o nb e => mv.heap b o (by simp only [List.mem_cons, List.not_mem_nil, or_false, not_or]; exact ⟨nb, Nat.ne_of_lt (Heap.lt_size e)⟩) (keep e)))
theorem call_setI {E : Value → Shared → Prop} {s : Shared} {l : Addr} {items : Array Value} {ns : List Int} {Q : Value → Shared → Prop} (hh : A.handled = none) (hl : s.heap.IsList l items) (hn : items.size = ns.length) (hb : ns.length + 1 < scanBound) (hk : ∀ (i : Nat) (v : Value), items[i]? = some v → ∃ k t, ns[i]? = some k ∧ v = .int k t)
    (h : ∀ (h' : Heap) (tk c : Nat), SetR w h' s.heap.objs.size (fun j => decide (j ∈ ns)) c → c ≤ ns.length → (∀ b o, s.heap.get? b = some o → h'.get? b = some o) → Q (.ref s.heap.objs.size) { s with heap := h', toks := tk }) : wpAny (model P w) A (call (.type "set") [.ref l]) Q E s := by
  obtain ⟨c, tl, m1⟩ := F.called_set.mro
  have m2 := F.called_set.made
  have m3 := F.called_set.sub
  have m4 := F.called_set.notType
  have m5 := F.called_set.canCreate
  have m6 := F.typeCall_set_1 (.ref l)
  refine wpAny_call (codeAny_of_tree (wpAny_pure ⟨Code.quiet_builtin _ (by decide +kernel), codeAny_builtin F.entry_type_call ?_⟩))
  rw [Around.under_plain (weight_type_call_type "set" [.ref l] []) rfl]
  repeat (any_goals (first | assumption | wp_step))
  refine codeAny_mono (code_set_led1 (.ref l) (E := E) (Q₁ := fun v s1 => v = .ref s.heap.objs.size ∧ s1 = { s with heap := s.heap.push (noSet w) }) ⟨rfl, rfl⟩) fun r s1 hr => ?_
  rcases r with e | fl
  · exact hr
  · cases fl with
    | ret obj =>
      obtain ⟨rfl, rfl⟩ := hr
      have at0 : (s.heap.push (noSet w)).get? s.heap.objs.size = some (noSet w) := Heap.get?_push_size _ rfl
      have ty0 : Shared.TypeIs { s with heap := s.heap.push (noSet w) } (.ref s.heap.objs.size) "set" := ⟨_, at0, rfl⟩
      have i1 := F.called_set.init.lookup
      have i2 := F.called_set.init.bind (.ref s.heap.objs.size)
      repeat (any_goals (first | assumption | wp_step))
      refine codeAny_mono (initI (ns := ns) (E := E) (R := fun v s2 => v = .none ∧ ∃ h' tk c, s2 = { s with heap := h', toks := tk } ∧ SetR w h' s.heap.objs.size (fun j => decide (j ∈ ns)) c ∧ c ≤ ns.length ∧ ∀ b o, s.heap.get? b = some o → h'.get? b = some o) (by simp [hh]) (hl.push _) at0 hn hb hk fun h' tk c so cl keep => ⟨rfl, h', tk, c, rfl, so, cl, fun b o e => keep b o (Nat.ne_of_lt (Heap.lt_size e)) (Heap.get?_push_of_some _ e)⟩) fun r2 s2 hr2 => ?_
      rcases r2 with e | fl2
      · exact hr2
      · cases fl2 with
        | ret v =>
          obtain ⟨rfl, h', tk, c, rfl, so, cl, keep⟩ := hr2
          repeat (any_goals (first | assumption | wp_step))
          exact h h' tk c so cl keep
        | _ => exact hr2.elim
    | _ => exact hr.elim
end
def rSetI9 (K : PySem.W.Frag) (w : World) : List V → Hp → VK → Prop := fun xs H Q => ∃ (l : Addr) (ns : List Int), xs = [V.ref l] ∧ SqL K H l (ns.map V.int) ∧ ns.length < 60 ∧
  ∀ (a : Addr) (c : Nat), H a = none → c ≤ ns.length → Q (.ref a) (upd H a (SetO w a (fun j => decide (j ∈ ns)) c))
theorem cr_setI9 {X : Cx} (hc : X.calm = true) : CallR X (.type "set") (rSetI9 X.K X.w) := by
  intro pins s σ H xs us Q I r h
  obtain ⟨l, ns, rfl, hl, few, q⟩ := h
  rw [Vals.ref1 r]
  obtain ⟨its, rv, pl, hz⟩ := I.list hl
  have hn : H s.heap.objs.size = none := I.hok.fresh (Nat.le_refl _)
  have li : its.length = ns.length := by rw [← rv.length, List.length_map]
  refine call_setI (P := X.prog) (w := X.w) (ns := ns) (I.ok.hd hc) pl.isList (by simp [li]) (by unfold scanBound; omega) (fun i v hv => ints_at9 (intsAre_of rv) i v (by simpa using hv)) fun h' tk c so cl k => ?_
  exact ⟨.ref s.heap.objs.size, upd H s.heap.objs.size (SetO X.w s.heap.objs.size (fun j => decide (j ∈ ns)) c), I.laid (t' := tk) k (Nat.le_refl _) (setO_new so), rfl, q _ c hn cl⟩
end Fh

set_option Elab.async false
set_option linter.all false
set_option maxRecDepth 100000
set_option maxHeartbeats 4000000
namespace Fh
open PySem L2 PyProof.Rows
/-! ### != of a list and [] -/
section
variable {X : Cx}
def rNeM9 (K : PySem.W.Frag) : R2 := fun x y H Q => ∃ (a b : Addr) (xs : List V), x = .ref a ∧ y = .ref b ∧ SqL K H a xs ∧ SqL K H b [] ∧ Q (.bl (!xs.isEmpty)) H
theorem op_neM9 (hu : X.A.units + 64 < cLine) : OpR X (compareOp .NotEq) (rNeM9 X.K) := by
  intro pins s σ H x y v u Q I rx ry want
  obtain ⟨a, b, xs, rfl, rfl, ha, hb, q⟩ := want
  cases (show v = Value.ref a from rx)
  cases (show u = Value.ref b from ry)
  obtain ⟨us, r1, p1, _⟩ := I.list ha
  obtain ⟨ws, r2, p2, _⟩ := I.list hb
  have l2 : ws = [] := List.eq_nil_of_length_eq_zero r2.length.symm
  subst l2
  cases xs with
  | nil =>
    have l1 : us = [] := List.eq_nil_of_length_eq_zero r1.length.symm
    subst l1
    exact SeqAt.RcNeAt.lists (e := fun _ => true) p1.isList p2.isList rfl (by omega) (fun j h1 h2 => absurd h2 (Nat.not_lt_zero j)) _ _ _ _ ⟨.bl false, H, I, rfl, q⟩
  | cons x xs =>
    have ne : (us.toArray.size != ([] : List Value).toArray.size) = true := by
      rw [List.size_toArray, ← r1.length]
      simp
    exact SeqAt.RcNeAt.lists_lengths p1.isList p2.isList ne (by omega) _ _ _ _ ⟨.bl true, H, I, rfl, q⟩
end

abbrev sNum9 : Stmt := top 29
abbrev sPlk : Stmt := top 31
abbrev sDrk : Stmt := top 32
abbrev sLof9 : Stmt := top 30
abbrev nNum9 : List Str := ["_law_bag_here", "_law_size", "_law_found", "_law_spot", "_law_rest", "_law_one", "_law_risen"]
abbrev nPlk : List Str := ["_law_bag_here", "_law_one"]
abbrev nDrk : List Str := ["_law_bag_here", "_law_picks_here", "_law_words", "_law_way", "_law_kind"]
abbrev nLof9 : List Str := ["_law_rows", "_law_word", "_law_one"]
abbrev pTk9 : List Str := ["_law_bag_here", "_law_size"]
theorem in_ints9 (z : Int) (zs : List Int) : inV (.int z) (zs.map V.int) = decide (z ∈ zs) := by
  unfold inV
  rw [List.any_map]
  by_cases h : z ∈ zs
  · rw [decide_eq_true h, List.any_eq_true]
    exact ⟨z, h, by simp [eqV]⟩
  · rw [decide_eq_false h, List.any_eq_false]
    intro y hy e
    simp [eqV] at e
    exact h (e ▸ hy)
theorem flat_ints9 (zs : List Int) : (zs.map V.int).all flatV = true := by
  rw [List.all_eq_true]
  intro x hx
  obtain ⟨z, _, rfl⟩ := List.mem_map.mp hx
  rfl
/-- the first n of 1, 2, .. that are not in ns -/
def rest9 (ns : List Int) (n : Nat) : List Int := ((List.range n).map fun i : Nat => 1 + (i : Int)).filter fun x => decide (x ∉ ns)
theorem rest9_succ (ns : List Int) (n : Nat) : rest9 ns (n + 1) = rest9 ns n ++ (if 1 + (n : Int) ∈ ns then [] else [1 + (n : Int)]) := by
  unfold rest9
  rw [List.range_succ, List.map_append, List.filter_append]
  congr 1
  show [1 + (n : Int)].filter _ = _
  by_cases h : 1 + (n : Int) ∈ ns
  · rw [if_pos h, List.filter_cons_of_neg (by simpa using h)]
    rfl
  · rw [if_neg h, List.filter_cons_of_pos (by simpa using h)]
    rfl
theorem rest9_len (ns : List Int) (n : Nat) : (rest9 ns n).length ≤ n := Nat.le_trans (List.length_filter_le _ _) (by rw [List.length_map, List.length_range]; exact Nat.le_refl _)
theorem rest9_all (ns rs : List Int) (h : ∀ x, x ∈ ns → x ∈ rs) : 30 ≤ rs.length + (rest9 ns 30).length := by
  have nd : ((List.range 30).map fun i : Nat => 1 + (i : Int)).Nodup := by decide
  have := sub_len _ (rs ++ rest9 ns 30) nd fun x hx => by
    by_cases m : x ∈ ns
    · exact List.mem_append_left _ (h x m)
    · exact List.mem_append_right _ (List.mem_filter.mpr ⟨hx, decide_eq_true m⟩)
  rw [List.length_map, List.length_range, List.length_append] at this
  exact this
theorem cutV_ints (xs : List Int) (k : Int) (h : 0 ≤ k) : ∃ ys : List Int, cutV (xs.map V.int) none (some k) = ys.map V.int ∧ ys.length = min k.toNat xs.length := by
  refine ⟨(xs.drop (HT.sIx (xs.map V.int).length 0 none)).take (HT.sIx (xs.map V.int).length (xs.map V.int).length (some k) - HT.sIx (xs.map V.int).length 0 none), ?_, ?_⟩
  · unfold cutV
    rw [List.map_take, List.map_drop]
  · have e0 : HT.sIx (xs.map V.int).length 0 none = 0 := rfl
    have e1 : HT.sIx (xs.map V.int).length (xs.map V.int).length (some k) = min k.toNat xs.length := by
      have := HT.sIx_nat (xs.map V.int).length (xs.map V.int).length k.toNat
      rw [show ((k.toNat : Nat) : Int) = k by omega] at this
      rw [this, List.length_map]
      all_goals omega
    rw [e0, e1, List.drop_zero, List.length_take]
    omega
def spNum9 : Sp := fun vs H Q _ => ∃ (b : Addr) (size : Int) (n : Nat), vs = [.ref b, .int size] ∧ Bag H b n ∧ 0 ≤ size ∧ size ≤ 12 ∧ n + 100 ≤ most ∧
  ∀ (p : Addr) (ns : List Int) (H' : Hp), H p = none → H' p = some (.lst (ns.map V.int)) → (ns.length : Int) = size → Kp b H H' → Bag H' b (n + 30) → Q (.ref p) H'
/-- kinds that a field of an ask may have -/
def Gb9 (cs : List Str) : Kb → Prop
  | .rc _ => False
  | .ch c => c ∈ cs
  | _ => True
def GK9 (cs : List Str) : Kn → Prop
  | .one b => Gb9 cs b
  | .lst b => Gb9 cs b
theorem GK9.mono {k : Kn} {cs : List Str} (h : GK9 [] k) : GK9 cs k := by
  cases k with
  | one b => cases b with
    | rc _ => exact h.elim
    | ch _ => cases h
    | _ => exact True.intro
  | lst b => cases b with
    | rc _ => exact h.elim
    | ch _ => cases h
    | _ => exact True.intro
def spPlk : Sp := fun vs H Q _ => ∃ (b : Addr) (n : Nat), vs = [.ref b] ∧ Bag H b n ∧ n + 10 ≤ most ∧ ∀ (kv : V) (k : Kn) (H' : Hp), Tp H' kv k.d → GK9 [] k → Kp b H H' → Bag H' b (n + 2) → Q kv H'
def spDrk : Sp := fun vs H Q _ => ∃ (b p w : Addr) (n : Nat) (pv : List V) (cs : List (Str × PyData)), vs = [.ref b, .ref p, .ref w] ∧ Bag H b n ∧ n + 20 ≤ most ∧ H p = some (.lst pv) ∧ p ≠ b ∧ TpAll H pv (cs.map fun r => .tuple [.str r.1, r.2]) ∧ cs.length ≤ 10 ∧ H w = some (.lst []) ∧ w ≠ b ∧
  ∀ (kv : V) (k : Kn) (H' : Hp), Tp H' kv k.d → GK9 (cs.map Prod.fst) k → Kp b H H' → Bag H' b (n + 6) → Q kv H'
def spLof9 : Sp := fun vs H Q _ => ∃ (v : V) (z : Str) (rows : List (Str × PyData)) (d : PyData), vs = [v, .str z] ∧ TpR H v (rowsD rows) ∧ rows.lookup z = some d ∧ ∀ v, Tp H v d → Q v H
section
variable {P : Program} {w : World} {K : PySem.W.Frag} {mg : Str → Option Value} {base : Heap}
theorem scLof9 : FnScope nLof9 ["_law_rows", "_law_word"] (defScope sLof9) := ⟨rfl, rfl, rfl, by decide +kernel, rfl, by decide +kernel, by decide +kernel⟩
theorem ok_lof9 {f : Addr} {fd : FuncData} (F : Fun K "_law_of" "_law_of" sLof9 f fd) : FnOk P w K mg base CX0 1 f fd ["_law_rows", "_law_word"] spLof9 := by
  refine F.ok scLof9 (fun vs H Q E h => ?_) (fun cdv A outer s H vs Q E hr h => ?_)
  · obtain ⟨v, z, rows, d, rfl, _⟩ := h
    rfl
  · obtain ⟨v, z, rs, d, rfl, t4, hl, k⟩ := h
    refine ⟨_, (pss_cons (ps_for PassesOwn.never rfl (pi_tup (pv 0)) (pg_name (i := 2) scLof9.nd rfl (Or.inl rfl))
      (pss_one (ps_if (pt_cmpR op_eq (pe_ix ix_tup (pv 2) pe_int (fun _ _ => rfl)) (pv 1) (nomark _))
      (pss_one (ps_ret (pe_ix ix_tup (pv 2) pe_int (fun _ _ => rfl))))
      pss_nil)))
      (pss_one (ps_ret pe_non))), ?_⟩
    obtain ⟨b, xs, rfl, hb, q⟩ := TpR.inv t4
    refine ⟨_, rfl, b, rfl, ⟨_, .inl hb⟩, ?_⟩
    refine for_tup (xs := xs) (fun i σ H3 => H3 = H ∧ (∃ a2, σ = [some (.ref b), some (.str z), a2]) ∧ ∀ (j : Nat) (r : Str × PyData), j < i → rs[j]? = some r → r.1 ≠ z) ?_ ?_ ?_ ?_
    · exact ⟨rfl, ⟨_, rfl⟩, fun j r hj => absurd hj (Nat.not_lt_zero _)⟩
    · rintro i σ H3 _ ⟨rfl, _⟩
      exact .inl hb
    · rintro i x σ H3 hx ⟨rfl, ⟨a2, rfl⟩, hB⟩
      obtain ⟨r, t, u, hr', rfl, ht, tu⟩ := rows_at q hx
      refine ⟨_, rfl, t, _, 0, _, rfl, rfl, SqT.of ht, rfl, _, rfl, rfl, _, rfl, ?_⟩
      refine ite2 (fun h => ?_) (fun h => ?_)
      · have e : r.1 = z := by
          have := of_decide_eq_true h
          cases this
          rfl
        have e2 := look_first hl hr' e hB
        rw [e2] at tu
        exact ⟨_, rfl, t, _, 1, _, rfl, rfl, SqT.of ht, rfl, k _ tu⟩
      · have e : r.1 ≠ z := fun q => h (decide_eq_true (by rw [q]))
        refine ⟨rfl, ⟨_, rfl⟩, fun j s hj hs => ?_⟩
        by_cases ej : j = i
        · rw [ej, hr'] at hs
          cases hs
          exact e
        · exact hB j s (by omega) hs
    · rintro σ H3 ⟨rfl, _, hB⟩
      obtain ⟨i, hi, e⟩ := look_at hl
      have el : xs.length = rs.length := by rw [q.length, List.length_map]
      exact absurd e (hB i rs[i] (by omega) (List.getElem?_eq_getElem hi))
theorem scPlk : FnScope nPlk ["_law_bag_here"] (defScope sPlk) := ⟨rfl, rfl, rfl, by decide +kernel, rfl, by decide +kernel, by decide +kernel⟩
theorem ok_plk {f : Addr} {fd : FuncData} (F : Fun K "_law_plain_kind" "_law_plain_kind" sPlk f fd) (DT : Has P w K mg base "_law_take" 1 pTk9 spTake) : FnOk P w K mg base CX0 2 f fd ["_law_bag_here"] spPlk := by
  refine F.ok scPlk (fun vs H Q E h => ?_) (fun cdv A outer s H vs Q E hr h => ?_)
  · obtain ⟨b, n, rfl, _⟩ := h
    rfl
  · obtain ⟨b, n, rfl, hB, hn, q⟩ := h
    have hm : most = 1000000 := rfl
    refine ⟨_, (pss_cons (ps_set (i := 1) scPlk.nd rfl (Or.inl rfl) (pe_ix ix_list (pe_lst (pa_cons pe_str (pa_cons pe_str (pa_cons pe_str (pa_cons pe_str (pa_cons pe_str pa_nil)))))) (pe_has DT (hr.mono (by omega)) rfl (pa_cons (pv 0) (pa_cons pe_int pa_nil))) (fun _ _ => rfl)))
      (pss_one (ps_ret (pe_ifExp (pt_cmpR op_eq (pe_has DT (hr.mono (by omega)) rfl (pa_cons (pv 0) (pa_cons pe_int pa_nil))) pe_int (nomark _)) (pe_tup (pa_cons pe_str (pa_cons (pv 1) pa_nil))) (pv 1))))), ?_⟩
    refine ⟨(by show 5 ≤ sizeLine; decide), fun l1 hl1 => ?_⟩
    have nl1 : l1 ≠ b := new_ne hl1 hB
    refine ⟨_, rfl, b, 5, n, rfl, by decide, by decide, hB.new hl1, by omega, fun d0 H1 d00 d01 k1 b1 => ?_⟩
    have hl1' := k1 _ _ nl1 upd_same
    have K1 : Kp b H H1 := (Kp.refl.new hl1).trans k1
    have pick : ∃ k0 : Kb, atI [V.str "whole", .str "truth", .str "text", .str "whole", .str "text"] d0 = some (.str k0.word) ∧ Gb9 [] k0 ∧ k0.d = .str k0.word := by
      rcases (by omega : d0 = 0 ∨ d0 = 1 ∨ d0 = 2 ∨ d0 = 3 ∨ d0 = 4) with rfl | rfl | rfl | rfl | rfl
      · exact ⟨.whole, rfl, trivial, rfl⟩
      · exact ⟨.truth, rfl, trivial, rfl⟩
      · exact ⟨.text, rfl, trivial, rfl⟩
      · exact ⟨.whole, rfl, trivial, rfl⟩
      · exact ⟨.text, rfl, trivial, rfl⟩
    obtain ⟨k0, e0, g0, dk0⟩ := pick
    refine ⟨l1, _, _, _, rfl, rfl, SqL.of hl1', e0, ?_⟩
    refine ⟨_, rfl, b, 5, n + 1, rfl, by decide, by decide, b1, by omega, fun d1 H2 d10 d11 k2 b2 => ?_⟩
    have K2 : Kp b H H2 := K1.trans k2
    refine ⟨rfl, _, rfl, ite2 (fun _ => ?_) (fun _ => ?_)⟩
    · refine ⟨_, rfl, (by show 2 ≤ sizeLine; decide), fun t ht => ?_⟩
      refine q (.ref t) (.lst k0) _ (.tup upd_same (.cons (.str _) (.cons ?_ .nil))) g0 (K2.new ht) (b2.new ht)
      rw [dk0]
      exact .str _
    · refine ⟨_, rfl, q _ (.one k0) _ ?_ g0 K2 b2⟩
      show Tp H2 _ k0.d
      rw [dk0]
      exact .str _
theorem scNum9 : FnScope nNum9 pTk9 (defScope sNum9) := ⟨rfl, rfl, rfl, by decide +kernel, rfl, by decide +kernel, by decide +kernel⟩
theorem ok_num9 {f : Addr} {fd : FuncData} (F : Fun K "_law_numbers" "_law_numbers" sNum9 f fd) (G : Glb mg) (DT : Has P w K mg base "_law_take" 1 pTk9 spTake) : FnOk P w K mg base CX0 2 f fd pTk9 spNum9 := by
  refine F.ok scNum9 (fun vs H Q E h => ?_) (fun cdv A outer s H vs Q E hr h => ?_)
  · obtain ⟨b, size, n, rfl, _⟩ := h
    rfl
  · obtain ⟨b, size, n, rfl, hB, s0, s1, hn, q⟩ := h
    have hm : most = 1000000 := rfl
    refine ⟨_, (pss_cons (ps_set (i := 2) scNum9.nd rfl (Or.inr rfl) (pe_lc (own := [("_law_spot", 3)]) (g := (gName 3)) (tt := tYes) (te := tOp (rI0 fun i j => .int (i + j)) (tC (.int 1)) (tCall spTake [] E0 (tCons (tVar 0) (tCons (tMid (tOp (rIxL K) (tLst (tCons (tC (.int 12)) (tCons (tC (.int 30)) tNil))) (tCB rInt1 (tCons (tOp rEq (tCall spTake [] E0 (tCons (tVar 0) (tCons (tC (.int 4)) tNil))) (tC (.int 0))) tNil)))) tNil)))) rfl scNum9.nd (pi_range1 rfl G.range (pa_cons (pv 1) pa_nil)) (blkOk_by (N := nNum9) (sc := defScope sNum9) (by decide +kernel)) (fun _ _ _ _ _ => (pg_name (i := 3) scNum9.nd rfl (Or.inl rfl))) (fun _ _ _ _ _ => pts_nil) (fun _ _ _ _ _ => (pe_op op_add pe_int (pe_has DT (hr.mono (by omega)) rfl (pa_cons (pv 0) (pa_cons (pe_mid (pe_ix ix_list (pe_lst (pa_cons pe_int (pa_cons pe_int pa_nil))) (pe_callTy call_intK (by rfl) G.int (by decide +kernel) (pa_cons (pe_cmpR op_eq (pe_has DT (hr.mono (by omega)) rfl (pa_cons (pv 0) (pa_cons pe_int pa_nil))) pe_int (nomark _)) pa_nil)) (fun _ _ => rfl))) pa_nil)))))))
      (pss_cons (ps_setLc (i := 4) (own := [("_law_one", 5)]) (g := (gName 5)) (tt := tTest (tOp (rIn K true) (tVar 5) (tVar 2))) (te := tVar 5) rfl scNum9.nd rfl rfl (sw_true rfl rfl rfl (by decide +kernel)) (pi_range2 rfl G.range (pa_cons pe_int (pa_cons pe_int pa_nil))) (blkOk_by (N := nNum9) (sc := defScope sNum9) (by decide +kernel)) (fun _ _ _ _ _ => (pg_name (i := 5) scNum9.nd rfl (Or.inl rfl))) (fun _ _ _ _ _ => pts_one (pt_cmpR op_notIn_seq (pv 5) (pv 2) rfl)) (fun _ _ _ _ _ => (pv 5)))
      (pss_cons (ps_set (i := 6) scNum9.nd rfl (Or.inl rfl) (pe_callB (cr_sortedSet rfl) (by rfl) G.sorted (by decide +kernel) (pa_cons (pe_callTy (cr_setI9 rfl) (by rfl) G.set (by decide +kernel) (pa_cons (pv 2) pa_nil)) pa_nil)))
      (pss_one (ps_ret (pe_callB cr_sorted (by rfl) G.sorted (by decide +kernel) (pa_cons (pe_op op_cat (pv 6) (pe_slice sl_list (pv 4) po_none (po_some (pe_op op_sub (pv 1) (pe_callB call_len_seq (by rfl) G.len (by decide +kernel) (pa_cons (pv 6) pa_nil)))))) pa_nil))))))), ?_⟩
    refine ⟨_, rfl, size, rfl, by omega, by omega, fun D hD => ?_⟩
    have nDb : D ≠ b := new_ne hD hB
    refine lc_range (lo := 0) (n := size.toNat) (fun i H3 => Kp b H H3 ∧ Bag H3 b (n + 2 * i) ∧ ∃ ns : List Int, H3 D = some (.lst (ns.map V.int)) ∧ ns.length = i) ?_ ?_ ?_
    · exact ⟨Kp.refl.new hD, hB.new hD, [], upd_same, rfl⟩
    · rintro i H3 hi ⟨K3, B3, ns, h3, ln⟩
      refine ⟨rfl, yes (iteT ?_)⟩
      refine ⟨_, rfl, fun v H4 => ∃ m : Int, v = .int m ∧ 1 ≤ m ∧ m ≤ 30 ∧ Kp b H3 H4 ∧ Bag H4 b (n + 2 * i + 1), ?_, ?_⟩
      · refine ⟨(by show 2 ≤ sizeLine; decide), fun q hq => ?_⟩
        refine ⟨_, rfl, b, 4, n + 2 * i, rfl, by decide, by decide, B3.new hq, by omega, fun d H4 d0 d1 K4 B4 => ?_⟩
        have nqb : q ≠ b := new_ne hq B3
        have hq4 := K4 q _ nqb upd_same
        have kp4 : Kp b H3 H4 := (Kp.refl.new hq).trans K4
        refine ⟨rfl, .inr ⟨_, rfl, ?_⟩⟩
        cases decide (V.int d = V.int 0) with
        | true => exact ⟨q, _, _, _, rfl, rfl, SqL.of hq4, rfl, 30, rfl, by decide, by decide, kp4, B4⟩
        | false => exact ⟨q, _, _, _, rfl, rfl, SqL.of hq4, rfl, 12, rfl, by decide, by decide, kp4, B4⟩
      · rintro v H4 ⟨m, rfl, m0, m1, K4, B4⟩
        refine ⟨b, m, _, rfl, by omega, by omega, B4, by omega, fun d H5 d0 d1 K5 B5 => ?_⟩
        refine ⟨_, _, rfl, rfl, ?_⟩
        have h5 := K5 D _ nDb (K4 D _ nDb h3)
        refine ⟨_, h5, ?_, ((K3.trans K4).trans K5).wr hD, (B5.mono (by omega)).ne nDb, ns ++ [1 + d], ?_, by rw [List.length_append, ln]; rfl⟩
        · rw [List.length_map, ln]
          exact Nat.lt_trans (show i < 12 by omega) (by decide)
        · rw [upd_same, List.map_append]
          rfl
    rintro H3 ⟨K3, B3, ns, h3, ln⟩
    refine ⟨1, 31, rfl, ⟨by decide, by decide, by decide, by decide⟩, fun R hR => ?_⟩
    have nRb : R ≠ b := new_ne hR B3
    refine lc_range (lo := 1) (n := 30) (fun j H6 => Same H3 H6 ∧ H6 R = some (.lst ((rest9 ns j).map V.int))) ?_ ?_ ?_
    · exact ⟨Same.new hR, upd_same⟩
    · rintro j H6 hj ⟨S6, h6⟩
      refine ⟨rfl, ?_⟩
      refine ⟨_, rfl, _, rfl, D, _, rfl, .inl (SqL.of (S6 _ _ h3)), rfl, flat_ints9 _, _, rfl, ?_⟩
      rw [in_ints9]
      refine ite2 (fun hh => ?_) (fun hh => ?_)
      · have ho : (1 + (j : Int)) ∉ ns := fun m => by
          rw [decide_eq_true m] at hh
          cases hh
        refine ⟨_, rfl, _, h6, ?_, Same.wr S6 hR, ?_⟩
        · rw [List.length_map]
          exact Nat.lt_of_le_of_lt (rest9_len _ _) (Nat.lt_of_lt_of_le hj (by decide))
        · rw [upd_same, rest9_succ, if_neg ho, List.map_append]
          rfl
      · have hin : (1 + (j : Int)) ∈ ns := Classical.byContradiction fun m => hh (by rw [decide_eq_false m]; rfl)
        refine ⟨S6, ?_⟩
        rw [rest9_succ, if_pos hin, List.append_nil]
        exact h6
    rintro H6 ⟨S6, h6⟩
    have h63 := S6 _ _ h3
    refine ⟨_, rfl, D, ns, rfl, SqL.of h63, by omega, fun sa c hsa hc => ?_⟩
    refine ⟨sa, _, c, rfl, upd_same, by omega, fun rs p1 up mem lrs hp1 => ?_⟩
    have S8 := Same.new (o := .lst (rs.map V.int)) hp1
    have S9 := (Same.new hsa).trans S8
    have h8R := S9 _ _ h6
    have h81 : ∀ {G : Hp}, (upd G p1 (.lst (rs.map V.int))) p1 = some (.lst (rs.map V.int)) := upd_same
    have all30 := rest9_all ns rs fun x hx => (mem x).mpr (decide_eq_true hx)
    have lr : (rs.length : Int) ≤ size := by omega
    obtain ⟨ys, ey, ly⟩ := cutV_ints (rest9 ns 30) (size - (rs.length : Int)) (by omega)
    refine ⟨_, rfl, _, rfl, _, rfl, _, rfl, p1, _, rfl, .inl (SqL.of h81), _, _, rfl, rfl, ?_⟩
    rw [List.length_map]
    refine ⟨_, rfl, R, _, rfl, SqL.of h8R, fun u hu => ?_⟩
    rw [ey]
    refine ⟨p1, u, _, _, rfl, rfl, hup hu h81, upd_same, ?_, fun x hx => ?_⟩
    · rw [List.length_map, List.length_map]
      exact Nat.le_trans (show rs.length + ys.length ≤ 24 by omega) (by decide)
    rw [← List.map_append]
    refine ⟨x, rs ++ ys, rfl, SqL.of upd_same, by rw [List.length_append]; omega, fun zs pz perm _ hpz => ?_⟩
    have SH := S6.trans S9
    have Su := Same.new (o := .lst (ys.map V.int)) hu
    have Sx := Same.new (o := .lst ((rs ++ ys).map V.int)) hx
    have SF := (SH.trans (Su.trans Sx)).trans (Same.new (o := .lst (zs.map V.int)) hpz)
    refine q pz zs _ ?_ upd_same ?_ (K3.same SF) ((B3.same SF).mono (by omega))
    · exact K3.free B3.at ((SH.trans (Su.trans Sx)).free hpz)
    · rw [perm.length_eq, List.length_append]
      omega
end
end Fh


set_option Elab.async false
set_option linter.all false
set_option maxRecDepth 100000
set_option maxHeartbeats 4000000
/-! tuple(zip(a, b)) of two lists of one length -/
namespace Fh
open PySem PySem.Spec PyProof.Rows L2
/-- the zip ahead of turn i -/
structure ZAt (h : Heap) (z TI TO i1 i2 l1 l2 S : Addr) (xs ys : Array Value) (i : Nat) : Prop where
  ti : PySem.IsPair h TI (.ref i1) (.ref i2)
  a1 : h.IsListIter i1 l1 i
  a2 : h.IsListIter i2 l2 i
  b1 : h.IsList l1 xs
  b2 : h.IsList l2 ys
  tt : ∃ a b, PySem.IsPair h TO a b
  zp : IsZip h z TI TO .none ∨ ∃ T f oT, IsZipHeld h z TI TO T f ∧ h.get? T = some oT ∧ T ≠ z ∧ T ≠ i1 ∧ T ≠ i2 ∧ T ≠ S
/-- the pairs given out so far -/
def Outs (h : Heap) (xs ys : Array Value) (bad : List Addr) (ps : List Addr) : Prop := ∀ (j : Nat) (p : Addr), ps[j]? = some p → p ∉ bad ∧ ∃ x y, xs[j]? = some x ∧ ys[j]? = some y ∧ PySem.IsPair h p x y
def lstO (ps : List Addr) (c : Nat) : Obj := { cls := .type "list", dict := none, data := .seq (ps.map Value.ref).toArray c, slots := #[] }
structure OffS (S z TI TO i1 i2 l1 l2 : Addr) : Prop where
  z : S ≠ z
  ti : S ≠ TI
  to : S ≠ TO
  a1 : S ≠ i1
  a2 : S ≠ i2
  b1 : S ≠ l1
  b2 : S ≠ l2
section
variable {prog : Program} {w : World} {A : Around} {R : Result → Shared → Prop} {z TI TO i1 i2 l1 l2 S : Addr} {xs ys : Array Value}
theorem ZAt.off {h h' : Heap} {i : Nat} (Z : ZAt h z TI TO i1 i2 l1 l2 S xs ys i) (o : OffS S z TI TO i1 i2 l1 l2) (k : ∀ b ob, b ≠ S → h.get? b = some ob → h'.get? b = some ob) : ZAt h' z TI TO i1 i2 l1 l2 S xs ys i := by
  refine ⟨k _ _ (Ne.symm o.ti) Z.ti, Z.a1.at fun ob e => k _ ob (Ne.symm o.a1) e, Z.a2.at fun ob e => k _ ob (Ne.symm o.a2) e, Z.b1.at fun ob e => k _ ob (Ne.symm o.b1) e, Z.b2.at fun ob e => k _ ob (Ne.symm o.b2) e, let ⟨a, b, q⟩ := Z.tt; ⟨a, b, k _ _ (Ne.symm o.to) q⟩, ?_⟩
  rcases Z.zp with hz | ⟨T, f, oT, hz, hT, r1, r2, r3, r4⟩
  · exact .inl (k _ _ (Ne.symm o.z) hz)
  · exact .inr ⟨T, f, oT, k _ _ (Ne.symm o.z) hz, k _ _ r4 hT, r1, r2, r3, r4⟩
theorem ext_zip (hA : A.in1.handled = none) (D : ZipApart z TI TO i1 i2 l1 l2) (o : OffS S z TI TO i1 i2 l1 l2) (hsz : xs.size = ys.size) (hn : xs.size < sizeLine) (res : Value) (B0 : Nat) :
    ∀ (k i : Nat) (s : Shared) (ps : List Addr) (c : Nat), xs.size - i = k → i ≤ xs.size → ZAt s.heap z TI TO i1 i2 l1 l2 S xs ys i → s.heap.get? S = some (lstO ps c) → ps.length = i → ps.Nodup → Outs s.heap xs ys [S, z, TO, i1, i2] ps → (∀ p ∈ ps, B0 ≤ p) → B0 ≤ s.heap.objs.size →
      (∀ (h' : Heap) (ps' : List Addr) (c' : Nat), (∀ b ob, b ∉ [S, z, TO, i1, i2] → s.heap.get? b = some ob → h'.get? b = some ob) → h'.get? S = some (lstO ps' c') → ps'.length = xs.size → ps'.Nodup → Outs h' xs ys [S, z, TO, i1, i2] ps' → (∀ p ∈ ps', B0 ≤ p) → R (.ok (.ret res)) { s with heap := h' }) →
      codeAny (model prog w) A (.builtin "list.extend.loop" ⟨[.ref S, .ref z, res], []⟩) R s := by
  intro k
  induction k with
  | zero =>
    intro i s ps c hk hi Z hS hl hnd hO hB hB0 hR
    have hin : i = xs.size := by omega
    (refine codeAny_builtin F.entry_extend_loop ?_; rw [Around.under_plainId F.plain_extend_loop _]; show wpAny _ A.in1 (pyNext (.ref z) >>= _) _ _ s; refine wpAny_bind ?_)
    have hend : xs[i]? = none ∨ ys[i]? = none := .inl (Array.getElem?_eq_none (by omega))
    have fin : ∀ h' : Heap, (∀ b ob, b ≠ z → b ≠ TO → b ≠ i1 → b ≠ i2 → s.heap.get? b = some ob → h'.get? b = some ob) → R (.ok (.ret res)) { s with heap := h' } := fun h' hk' => by
      refine hR h' ps c (fun b ob hb e => ?_) (hk' _ _ o.z o.to o.a1 o.a2 hS) (by omega) hnd (fun j p hp => ?_) hB
      · simp only [List.mem_cons, List.not_mem_nil, or_false, not_or] at hb
        exact hk' b ob hb.2.1 hb.2.2.1 hb.2.2.2.1 hb.2.2.2.2 e
      · obtain ⟨nb, x, y, hx, hy, hp'⟩ := hO j p hp
        refine ⟨nb, x, y, hx, hy, ?_⟩
        simp only [List.mem_cons, List.not_mem_nil, or_false, not_or] at nb
        exact hk' _ _ nb.2.1 nb.2.2.1 nb.2.2.2.1 nb.2.2.2.2 hp'
    obtain ⟨ta, tb, hTO⟩ := Z.tt
    rcases Z.zp with hz | ⟨T, f, oT, hz, hT, r1, r2, r3, r4⟩
    · exact wpAny_pyNext_zip_end hA D hz Z.ti hTO Z.a1 Z.a2 Z.b1 Z.b2 hend fun h' hk' => wpAny_pure (fin h' hk')
    · exact wpAny_pyNext_zip_end_held hA D hz hT Z.ti Z.a1 Z.a2 Z.b1 Z.b2 hend fun h' hk' => wpAny_pure (fin h' fun b ob n1 _ n3 n4 e => hk' b ob n1 n3 n4 e)
  | succ k ih =>
    intro i s ps c hk hi Z hS hl hnd hO hB hB0 hR
    have hlt : i < xs.size := by omega
    have hlt2 : i < ys.size := by omega
    have ex := Array.getElem?_eq_getElem hlt
    have ey := Array.getElem?_eq_getElem hlt2
    (refine codeAny_builtin F.entry_extend_loop ?_; rw [Around.under_plainId F.plain_extend_loop _]; show wpAny _ A.in1 (pyNext (.ref z) >>= _) _ _ s; refine wpAny_bind ?_)
    have lt : ∀ {c ob}, s.heap.get? c = some ob → s.heap.objs.size ≠ c := fun e => Nat.ne_of_gt (Heap.lt_size e)
    have n1 : s.heap.objs.size ≠ i1 := let ⟨_, e, _⟩ := Z.a1; lt e
    have n2 : s.heap.objs.size ≠ i2 := let ⟨_, e, _⟩ := Z.a2; lt e
    have nS : s.heap.objs.size ≠ S := lt hS
    have nz : s.heap.objs.size ≠ z := by
      rcases Z.zp with hz | ⟨T, f, oT, hz, _⟩
      · exact lt hz
      · exact lt hz
    have go : ∀ h' : Heap, s.heap.objs.size ≠ TO → ZAt h' z TI TO i1 i2 l1 l2 S xs ys (i + 1) → PySem.IsPair h' s.heap.objs.size xs[i] ys[i] → h'.objs.size = s.heap.objs.size + 1 →
        (∀ b ob, b ≠ z → b ≠ TO → b ≠ i1 → b ≠ i2 → s.heap.get? b = some ob → h'.get? b = some ob) →
        wpAny (model prog w) A.in1 (updateSeq S (·.push (.ref s.heap.objs.size)) >>= fun _ => again (.builtin "list.extend.loop" ⟨[.ref S, .ref z, res], []⟩)) (fun fin s' => match fin with
          | .done f => R (.ok f) s'
          | .again c' => c'.quiet = true ∧ codeAny (model prog w) A c' R s') (fun e s' => R (.error e) s') { s with heap := h' } := by
      intro h' nTO Z' hp' hsz' hk'
      have hS' : h'.get? S = some (lstO ps c) := hk' _ _ o.z o.to o.a1 o.a2 hS
      have szl : ((ps.map Value.ref).toArray).size = i := by simp [hl]
      refine wpAny_bind (wpAny_updateSeq (s := { s with heap := h' }) hS' rfl (wpAny_pure ⟨plainId_quiet F.plain_extend_loop _, ?_⟩) (by rw [szl]; omega) (by show (((ps.map Value.ref).toArray).push _).size ≤ sizeLine + 1; rw [Array.size_push, szl]; omega))
      have oth : ∀ b ob, b ≠ S → h'.get? b = some ob → (h'.update S (Obj.mapSeq (·.push (.ref s.heap.objs.size)))).get? b = some ob := fun b ob hb e => (Heap.get?_update_other _ _ (Ne.symm hb)).trans e
      have hS2 := Heap.get?_update_self (Obj.mapSeq (·.push (Value.ref s.heap.objs.size))) hS' rfl
      have eA : ((ps.map Value.ref).toArray.push (Value.ref s.heap.objs.size)) = ((ps ++ [s.heap.objs.size]).map Value.ref).toArray := by simp
      have hS3 : ∃ c', (h'.update S (Obj.mapSeq (·.push (Value.ref s.heap.objs.size)))).get? S = some (lstO (ps ++ [s.heap.objs.size]) c') := by
        rw [hS2]
        unfold lstO
        rw [← eA]
        exact ⟨_, rfl⟩
      obtain ⟨c', hS4⟩ := hS3
      have sz2 : (h'.update S (Obj.mapSeq (·.push (Value.ref s.heap.objs.size)))).objs.size = h'.objs.size := by simp
      have kept : ∀ b ob, b ∉ [S, z, TO, i1, i2] → s.heap.get? b = some ob → (h'.update S (Obj.mapSeq (·.push (Value.ref s.heap.objs.size)))).get? b = some ob := fun b ob hb e => by
        simp only [List.mem_cons, List.not_mem_nil, or_false, not_or] at hb
        exact oth b ob hb.1 (hk' b ob hb.2.1 hb.2.2.1 hb.2.2.2.1 hb.2.2.2.2 e)
      refine ih (i + 1) { s with heap := h'.update S (Obj.mapSeq (·.push (Value.ref s.heap.objs.size))) } (ps ++ [s.heap.objs.size]) c' (by omega) hlt (Z'.off o oth) hS4 (by rw [List.length_append, hl]; rfl) ?_ ?_ ?_ ?_ ?_
      · rw [List.nodup_append]
        refine ⟨hnd, List.nodup_cons.mpr ⟨fun h => (nomatch h), List.nodup_nil⟩, fun a ha b hb e => ?_⟩
        rw [List.mem_singleton.mp hb] at e
        obtain ⟨j, hj⟩ := List.getElem?_of_mem ha
        obtain ⟨_, x, y, _, _, hp⟩ := hO j a hj
        exact lt hp e.symm
      · intro j p hp
        rw [List.getElem?_append] at hp
        split at hp
        · obtain ⟨nb, x, y, hx, hy, hp2⟩ := hO j p hp
          exact ⟨nb, x, y, hx, hy, kept p _ nb hp2⟩
        · rename_i hj
          have hj' : j - ps.length = 0 := by
            by_cases e : j - ps.length = 0
            · exact e
            · rw [List.getElem?_eq_none (by simp; omega)] at hp
              cases hp
          rw [hj'] at hp
          have hjj : j = i := by omega
          subst hjj
          cases hp
          refine ⟨?_, xs[j], ys[j], ex, ey, oth _ _ nS hp'⟩
          simp only [List.mem_cons, List.not_mem_nil, or_false, not_or]
          exact ⟨nS, nz, nTO, n1, n2⟩
      · intro p hp
        rcases List.mem_append.mp hp with h | h
        · exact hB p h
        · rw [List.mem_singleton.mp h]; exact hB0
      · show B0 ≤ (h'.update S (Obj.mapSeq (·.push (Value.ref s.heap.objs.size)))).objs.size
        rw [sz2, hsz']
        omega
      · intro h'' ps' c'' hk'' hS'' hl'' hnd'' hO'' hB''
        exact hR h'' ps' c'' (fun b ob hb e => hk'' b ob hb (kept b ob hb e)) hS'' hl'' hnd'' hO'' hB''
    obtain ⟨ta, tb, hTO⟩ := Z.tt
    rcases Z.zp with hz | ⟨T, f, oT, hz, hT, r1, r2, r3, r4⟩
    · refine wpAny_pyNext_zip_item D hz Z.ti hTO Z.a1 Z.a2 Z.b1 Z.b2 ex ey fun h' q1 q2 q3 q4 q5 q6 hk' => ?_
      exact go h' (lt hTO) ⟨hk' _ _ D.TIz D.TITO D.TIi1 D.TIi2 Z.ti, q3, q4, Z.b1.at fun ob e => hk' _ ob D.l1z D.l1TO D.l1i1 D.l1i2 e, Z.b2.at fun ob e => hk' _ ob D.l2z D.l2TO D.l2i1 D.l2i2 e, ⟨_, _, q2⟩, .inr ⟨s.heap.objs.size, false, _, q1, q5, nz, n1, n2, nS⟩⟩ q5 q6 hk'
    · refine wpAny_pyNext_zip_item_held D hz hT Z.ti Z.a1 Z.a2 Z.b1 Z.b2 ex ey fun h' q1 q3 q4 q5 q6 hk' => ?_
      exact go h' (lt hTO) ⟨hk' _ _ D.TIz D.TIi1 D.TIi2 Z.ti, q3, q4, Z.b1.at fun ob e => hk' _ ob D.l1z D.l1i1 D.l1i2 e, Z.b2.at fun ob e => hk' _ ob D.l2z D.l2i1 D.l2i2 e, ⟨_, _, hk' _ _ D.TOz D.TOi1 D.TOi2 hTO⟩, .inr ⟨T, true, oT, q1, hk' _ _ r1 r2 r3 hT, r1, r2, r3, r4⟩⟩ q5 q6 (fun b ob n1 _ n3 n4 e => hk' b ob n1 n3 n4 e)
end
/-! ### the tuple of it -/
theorem zip_nolen : typeLookup (.type "zip") "__len__" = pure none := am_miss_of_fast (by decide +kernel)
theorem zip_nohint : typeLookup (.type "zip") "__length_hint__" = pure none := am_miss_of_fast (by decide +kernel)
def emptyL : Obj := { cls := .type "list", data := .seq ([] : List Value).toArray }
section
variable {prog : Program} {w : World} {A : Around} {E : Value → Shared → Prop} {s : Shared} {z TI TO i1 i2 l1 l2 : Addr} {xs ys : Array Value}
theorem collect_zip {Q : List Value → Shared → Prop} (hA : A.handled = none) (D : ZipApart z TI TO i1 i2 l1 l2) (hsz : xs.size = ys.size) (hn : xs.size < sizeLine)
    (ti : PySem.IsPair s.heap TI (.ref i1) (.ref i2)) (a1 : s.heap.IsListIter i1 l1 0) (a2 : s.heap.IsListIter i2 l2 0) (b1 : s.heap.IsList l1 xs) (b2 : s.heap.IsList l2 ys) (hz : IsZip s.heap z TI TO .none) (tt : ∃ a b, PySem.IsPair s.heap TO a b)
    (hQ : ∀ (h' : Heap) (ps : List Addr), (∀ b ob, b ∉ [z, TO, i1, i2] → s.heap.get? b = some ob → h'.get? b = some ob) → ps.length = xs.size → ps.Nodup → Outs h' xs ys [] ps → (∀ p ∈ ps, s.heap.objs.size ≤ p) → Q (ps.map Value.ref) { s with heap := h' }) :
    wpAny (model prog w) A (collect (.ref z)) Q E s := by
  have lt : ∀ {c ob}, s.heap.get? c = some ob → s.heap.objs.size ≠ c := fun e => Nat.ne_of_gt (Heap.lt_size e)
  have o : OffS s.heap.objs.size z TI TO i1 i2 l1 l2 := ⟨lt hz, lt ti, let ⟨_, _, q⟩ := tt; lt q, let ⟨_, e, _⟩ := a1; lt e, let ⟨_, e, _⟩ := a2; lt e, let ⟨_, e, _⟩ := b1; lt e, let ⟨_, e, _⟩ := b2; lt e⟩
  have hT1 : ({ s with heap := s.heap.push emptyL } : Shared).TypeIs (.ref z) "zip" := ⟨_, Heap.get?_push_of_some _ hz, rfl⟩
  unfold collect
  (refine wpAny_bind (wpAny_runValue (codeAny_builtin F.entry_proto_collect ?_)); rw [Around.under_plainId F.plain_proto_collect _])
  (show wpAny _ A.in1 (newList [] >>= fun l' => again (.builtin "list.__iadd__" ⟨[l', .ref z], []⟩)) _ _ s; refine wpAny_bind (wpAny_newObj_type ?_))
  (refine wpAny_pure ⟨plainId_quiet F.plain_list_iadd _, codeAny_builtin F.entry_list_iadd ?_⟩; rw [Around.under_plainId F.plain_list_iadd _])
  show wpAny _ A.in1 (Builtin.List.listExtendWith (.ref s.heap.objs.size) (.ref z) (.ref s.heap.objs.size)) _ _ { s with heap := s.heap.push emptyL }
  unfold Builtin.List.listExtendWith
  refine wpAny_bind (wpAny_typeOf hT1 ?_)
  have g1 : Builtin.List.listSameRef (.ref s.heap.objs.size) (.ref z) = false := by simp [Builtin.List.listSameRef, o.z]
  have g2 : (Value.type "zip" == Value.type "list") = false := by decide
  have g3 : (Value.type "zip" == Value.type "tuple") = false := by decide
  simp only [g1, g2, g3, Bool.or_false, Bool.false_eq_true, if_false]
  refine wpAny_bind (wpAny_pyIter_zip (s := { s with heap := s.heap.push emptyL }) (Heap.get?_push_of_some _ hz) ?_)
  (refine wpAny_bind (wpAny_holding ?_); unfold Builtin.List.listLengthHint; refine wpAny_bind (wpAny_specialOf hT1 zip_nolen ?_))
  (show wpAny _ A.in1 (specialOf (Value.ref z) (Str.ofString "__length_hint__") >>= _) _ _ _; refine wpAny_bind (wpAny_specialOf hT1 zip_nohint ?_); refine wpAny_pure ?_)
  show wpAny _ A.in1 (rule "list.extend.makes-room" >>= fun _ => Builtin.List.listTouch (.ref s.heap.objs.size) >>= fun _ => again (.builtin "list.extend.loop" ⟨[.ref s.heap.objs.size, .ref z, .ref s.heap.objs.size], []⟩)) _ _ _
  refine wpAny_bind (wpAny_rule ?_)
  have t1 : (s.heap.push emptyL).get? s.heap.objs.size = some emptyL := Heap.get?_push_size _ rfl
  refine wpAny_bind ?_
  show wpAny _ A.in1 (updateSeq s.heap.objs.size (·.push .none) >>= fun _ => updateSeq s.heap.objs.size (·.pop)) _ _ { s with heap := s.heap.push emptyL }
  refine wpAny_bind (wpAny_updateSeq (s := { s with heap := s.heap.push emptyL }) t1 rfl ?_)
  have t2 := Heap.get?_update_self (Obj.mapSeq (·.push Value.none)) t1 rfl
  refine wpAny_updateSeq (s := { s with heap := (s.heap.push emptyL).update s.heap.objs.size (Obj.mapSeq (·.push Value.none)) }) t2 rfl ?_
  have t3 := Heap.get?_update_self (Obj.mapSeq (·.pop)) t2 rfl
  have oth : ∀ b ob, b ≠ s.heap.objs.size → s.heap.get? b = some ob → (((s.heap.push emptyL).update s.heap.objs.size (Obj.mapSeq (·.push Value.none))).update s.heap.objs.size (Obj.mapSeq (·.pop))).get? b = some ob := fun b ob hb e =>
    (Heap.get?_update_other _ _ (Ne.symm hb)).trans ((Heap.get?_update_other _ _ (Ne.symm hb)).trans (Heap.get?_push_of_some _ e))
  have Z0 : ZAt s.heap z TI TO i1 i2 l1 l2 s.heap.objs.size xs ys 0 := ⟨ti, a1, a2, b1, b2, tt, .inl hz⟩
  have t4 : ∃ c, (((s.heap.push emptyL).update s.heap.objs.size (Obj.mapSeq (·.push Value.none))).update s.heap.objs.size (Obj.mapSeq (·.pop))).get? s.heap.objs.size = some (lstO [] c) := ⟨_, t3⟩
  obtain ⟨c, t5⟩ := t4
  have bsz : s.heap.objs.size ≤ (((s.heap.push emptyL).update s.heap.objs.size (Obj.mapSeq (·.push Value.none))).update s.heap.objs.size (Obj.mapSeq (·.pop))).objs.size := by simp
  refine wpAny_pure ⟨plainId_quiet F.plain_extend_loop _, ext_zip (S := s.heap.objs.size) hA D o hsz hn _ s.heap.objs.size xs.size 0 { s with heap := ((s.heap.push emptyL).update s.heap.objs.size (Obj.mapSeq (·.push Value.none))).update s.heap.objs.size (Obj.mapSeq (·.pop)) } [] c (by omega) (Nat.zero_le _) (Z0.off o oth) t5 rfl List.nodup_nil (fun j p h => by simp at h) (fun p h => by cases h) bsz fun h' ps c' hk' hS' hl hnd hO hB => ?_⟩
  (show wpAny _ A (load s.heap.objs.size >>= _) _ _ _; refine wpAny_bind (wpAny_load (s := { s with heap := h' }) hS' ?_); refine wpAny_pure ?_)
  have e : ((ps.map Value.ref).toArray).toList = ps.map Value.ref := by simp
  show Q ((ps.map Value.ref).toArray).toList { s with heap := h' }
  rw [e]
  refine hQ h' ps (fun b ob hb q => ?_) hl hnd (fun j p hp => ⟨fun h => (nomatch h), (hO j p hp).2⟩) hB
  have nS : b ≠ s.heap.objs.size := fun e => lt q e.symm
  refine hk' b ob (fun hm => ?_) (oth b ob nS q)
  rcases List.mem_cons.mp hm with h | h
  · exact nS h
  · exact hb h
theorem code_tuple_zip {Q1 : Value → Shared → Prop} (hA : A.handled = none) (D : ZipApart z TI TO i1 i2 l1 l2) (hsz : xs.size = ys.size) (hn : xs.size < sizeLine)
    (ti : PySem.IsPair s.heap TI (.ref i1) (.ref i2)) (a1 : s.heap.IsListIter i1 l1 0) (a2 : s.heap.IsListIter i2 l2 0) (b1 : s.heap.IsList l1 xs) (b2 : s.heap.IsList l2 ys) (hz : IsZip s.heap z TI TO .none) (tt : ∃ a b, PySem.IsPair s.heap TO a b)
    (hQ : ∀ (h' : Heap) (ps : List Addr), (∀ b ob, b ∉ [z, TO, i1, i2] → s.heap.get? b = some ob → h'.get? b = some ob) → ps.length = xs.size → ps.Nodup → Outs h' xs ys [] ps → (∀ p ∈ ps, s.heap.objs.size ≤ p) → Q1 (.ref h'.objs.size) { s with heap := h'.push { cls := .type "tuple", data := .seq (ps.map Value.ref).toArray } }) :
    codeAny (model prog w) A (.call (.builtin "tuple.__new__") ⟨[.type "tuple", .ref z], []⟩) (wants Q1 E) s := by
  refine codeAny_of_tree ?_
  show wpAny _ A.in1 (do checkBuiltinCall "tuple.__new__" ⟨[.type "tuple", .ref z], []⟩; again (.builtin "tuple.__new__" ⟨[.type "tuple", .ref z], []⟩)) _ _ s
  (refine wpAny_bind (wpAny_of_eq (F.newCall_tuple_1 _) (wpAny_pure ⟨plainId_quiet F.plain_tuple_new _, codeAny_builtin F.entry_tuple_new ?_⟩)); rw [Around.under_plainId F.plain_tuple_new _])
  have f1 := sub_tuple_self
  have f2 := init_tuple_lookup
  have f3 := madeHere_tuple
  have f4 : s.TypeIs (.ref z) "zip" := ⟨_, hz, rfl⟩
  have hA1 : A.in1.handled = none := hA
  wp_walk using wpAny_typeOf f4, collect_zip (A := A.in1) hA1 D hsz hn ti a1 a2 b1 b2 hz tt
  intro h' ps hk hl hnd hO hB
  show wpAny _ _ (Builtin.Tuple.tupleExact (ps.map Value.ref).toArray >>= fun v => ret v) _ _ { s with heap := h' }
  unfold Builtin.Tuple.tupleExact
  refine wpAny_bind (wpAny_newObj_type ?_ (by show ((ps.map Value.ref).toArray).size ≤ sizeLine; simp; omega))
  exact wpAny_pure (hQ h' ps hk hl hnd hO hB)
theorem call_tuple_zip {Q : Value → Shared → Prop} (hA : A.handled = none) (D : ZipApart z TI TO i1 i2 l1 l2) (hsz : xs.size = ys.size) (hn : xs.size < sizeLine)
    (ti : PySem.IsPair s.heap TI (.ref i1) (.ref i2)) (a1 : s.heap.IsListIter i1 l1 0) (a2 : s.heap.IsListIter i2 l2 0) (b1 : s.heap.IsList l1 xs) (b2 : s.heap.IsList l2 ys) (hz : IsZip s.heap z TI TO .none) (tt : ∃ a b, PySem.IsPair s.heap TO a b)
    (hQ : ∀ (h' : Heap) (ps : List Addr), (∀ b ob, b ∉ [z, TO, i1, i2] → s.heap.get? b = some ob → h'.get? b = some ob) → ps.length = xs.size → ps.Nodup → Outs h' xs ys [] ps → (∀ p ∈ ps, s.heap.objs.size ≤ p) → Q (.ref h'.objs.size) { s with heap := h'.push { cls := .type "tuple", data := .seq (ps.map Value.ref).toArray } }) :
    wpAny (model prog w) A (call (.type "tuple") [.ref z]) Q E s := by
  refine callType_codes (Q₁ := fun obj s1 => s1.TypeIs obj "tuple" ∧ Q obj s1) F.called_tuple (F.typeCall_tuple_1 _) F.entry_object_init
    (code_tuple_zip (A := A.in1) hA D hsz hn ti a1 a2 b1 b2 hz tt fun h' ps hk hl hnd hO hB => ⟨⟨_, Heap.get?_push_size _ rfl, rfl⟩, hQ h' ps hk hl hnd hO hB⟩) fun obj s1 q => ?_
  exact ⟨q.1, F.args_object_init_2 obj _, object_init_meets F.called_tuple.init.lookup F.called_tuple.made (by decide) prog w A.in1 _ s1 ⟨q.1, rfl, q.2⟩⟩
end
end Fh

set_option Elab.async false
set_option linter.all false
set_option maxRecDepth 100000
set_option maxHeartbeats 4000000
namespace Fh
open PySem PySem.Spec PyProof.Rows L2
theorem hok_add {P : Program} {w : World} {H : Hp} {h : Heap} {a : Addr} {xs : List V} {its : List Value} (ok : HOk P w H h) (hn : H a = none) (hz : xs.length ≤ sizeLine) (r : Vals xs its) (ht : IsTup h a its.toArray) : HOk P w (upd H a (.tup xs)) h := fun b u e => by
  by_cases hb : b = a
  · subst hb
    rw [upd_same] at e
    cases e
    exact ⟨hz, its, r, ht⟩
  · rw [upd_ne hb] at e
    exact (ok b u e).stay (fun c v _ q => q) (fun c q => by rw [upd_ne (ne_of_none q hn)]; exact q) fun c ys q => by rw [upd_ne (ne_of_none q hn)]; exact q
theorem inv_grow {X : Cx} {pins : List (Addr × Obj)} {σ : L2.St} {H H' : Hp} {s : Shared} {h' : Heap} {t' : Nat} (I : Inv X pins σ H s) (k : ∀ b u, s.heap.get? b = some u → h'.get? b = some u) (hs : Same H H')
    (hf : ∀ b o, s.heap.get? b = some o → H b = none → H' b = none) (hok : HOk X.prog X.w H' h') : Inv X pins σ H' { s with heap := h', toks := t' } :=
  I.un ⟨fun b ob q _ _ _ => k b ob q, fun b ob q _ _ _ => ⟨ob.slots, k b ob q⟩, fun b ob q n _ => hf b ob q n, fun b ob q _ => ⟨ob, k b ob q⟩, fun b xs q => hs _ _ q, fun b o u q => hs _ _ q, fun b ps q => ⟨#[], by rw [hs _ _ q]; simp⟩⟩ hok
/-- pairs laid one after another -/
def putP (H : Hp) : List (Addr × V × V) → Hp
  | [] => H
  | (p, x, y) :: r => upd (putP H r) p (.tup [x, y])
theorem putP_out {H : Hp} {a : Addr} : ∀ {l : List (Addr × V × V)}, a ∉ l.map (·.1) → putP H l a = H a
  | [], _ => rfl
  | (p, x, y) :: r, h => by
    have h1 : a ≠ p := fun e => h (by rw [e]; exact List.mem_cons_self)
    have h2 : a ∉ r.map (·.1) := fun e => h (List.mem_cons_of_mem _ e)
    show upd (putP H r) p (.tup [x, y]) a = _
    rw [upd_ne h1, putP_out h2]
theorem putP_at {H : Hp} : ∀ {l : List (Addr × V × V)} {q : Addr × V × V}, (l.map (·.1)).Nodup → q ∈ l → putP H l q.1 = some (.tup [q.2.1, q.2.2])
  | (p, x, y) :: r, q, hn, hq => by
    obtain ⟨h1, h2⟩ := List.nodup_cons.mp hn
    show upd (putP H r) p (.tup [x, y]) q.1 = _
    rcases List.mem_cons.mp hq with rfl | hq
    · rw [upd_same]
    · have hne : q.1 ≠ p := fun e => h1 (by rw [← e]; exact List.mem_map.mpr ⟨q, hq, rfl⟩)
      rw [upd_ne hne, putP_at h2 hq]
theorem hok_putP {P : Program} {w : World} {H : Hp} {h : Heap} (ok : HOk P w H h) : ∀ {l : List (Addr × V × V)}, (l.map (·.1)).Nodup → (∀ q ∈ l, H q.1 = none ∧ ∃ u v, RelV q.2.1 u ∧ RelV q.2.2 v ∧ PySem.IsPair h q.1 u v) → HOk P w (putP H l) h
  | [], _, _ => ok
  | (p, x, y) :: r, hn, hq => by
    obtain ⟨h1, h2⟩ := List.nodup_cons.mp hn
    obtain ⟨hp, u, v, ru, rv, hpr⟩ := hq (p, x, y) List.mem_cons_self
    refine hok_add (its := [u, v]) (hok_putP ok h2 fun q h => hq q (List.mem_cons_of_mem _ h)) (by rw [putP_out h1]; exact hp) (by show 2 ≤ sizeLine; decide) (.cons ru (.cons rv .nil)) ⟨_, hpr, rfl, _, rfl⟩
def tTupZip (K : PySem.W.Frag) (ta : TA) : TE := fun σ H Q => ta σ H fun vs H1 => ∃ (a b : Addr) (xs ys : List V), vs = [.ref a, .ref b] ∧ SqL K H1 a xs ∧ SqL K H1 b ys ∧ xs.length = ys.length ∧ xs.length < sizeLine ∧
  ∀ (R : Addr) (ps : List Addr) (H2 : Hp), Same H1 H2 → H1 R = none → H2 R = some (.tup (ps.map V.ref)) → ps.length = xs.length → (∀ (j : Nat) (p : Addr) (x y : V), ps[j]? = some p → xs[j]? = some x → ys[j]? = some y → H2 p = some (.tup [x, y])) → Q (.ref R) H2
theorem vals_refs9 : ∀ ps : List Addr, Vals (ps.map V.ref) (ps.map Value.ref)
  | [] => .nil
  | p :: r => .cons rfl (vals_refs9 r)
theorem pe_tupZip {X : Cx} {e e2 : Expr} {ta : TA} {p p2 pos pos2 : Pos} (hc : X.calm = true) (hg : Gl X "tuple") (hm : X.mg "tuple" = none) (hg2 : Gl X "zip") (hm2 : X.mg "zip" = none) (ha : PA X [e, e2] ta)
    (hs : starEach [e, e2] X.env = (false, eval e X.env) :: starEach [e2] X.env := by rfl) (hpl : (backTo pos2 (starEach [e2] X.env)).any (·.1) = false := by rfl)
    (hs2 : starEach [.Call (.Name "zip" p2) [e, e2] [] pos2] X.env = (false, eval (.Call (.Name "zip" p2) [e, e2] [] pos2) X.env) :: starEach [] X.env := by rfl) :
    PE X (.Call (.Name "tuple" p) [.Call (.Name "zip" p2) [e, e2] [] pos2] [] pos) (tTupZip X.K ta) := by
  refine ⟨fun pins s σ H Q I h => ?_⟩
  refine Call_ (ld_blt I hg hm boot_tuple (PyProof.Rows.callWith_type1 (args_cons (Call_ (ld_blt I hg2 hm2 PyProof.Rows.boot_zip (PyProof.Rows.callWith_type1 (thn (ha.run pos2 pins s σ H _ I h) fun us s1 ⟨vs, H1, I1, r1, q1⟩ => ?_) hs hpl))) hs2) hs2 rfl))
  obtain ⟨a, b, xs, ys, ex, hqx, hqy, hlen, hlt, q⟩ := q1
  subst ex
  cases r1 with
  | cons r rr =>
    cases rr with
    | cons r' rr =>
      cases rr
      cases r
      cases r'
      obtain ⟨its, rv, pl, _⟩ := I1.list hqx
      obtain ⟨its2, rv2, pl2, _⟩ := I1.list hqy
      refine call_zip_2 pl.isList pl2.isList fun h' hz hTI hTO h1 h2 hsz hk => args_nil ?_
      have l1 := rv.length
      have l2 := rv2.length
      refine call_tuple_zip (s := { s1 with heap := h' }) (xs := its.toArray) (ys := its2.toArray) (I1.ok.hd hc) (PySem.W.ktu_apart s1.heap.objs.size a b pl.lt pl2.lt) (by simp; omega) (by simp; omega) hTI h1 h2
        (pl.isList.at fun o e => hk _ o e) (pl2.isList.at fun o e => hk _ o e) hz ⟨_, _, hTO⟩ fun h'' ps hk2 hl hnd hO hB => ?_
      have hl' : ps.length = xs.length := by rw [hl]; simp; omega
      have kept : ∀ c ob, s1.heap.get? c = some ob → h''.get? c = some ob := fun c ob e => hk2 c ob (fun hm => by
        have hlt := Heap.lt_size e
        simp only [List.mem_cons, List.not_mem_nil, or_false] at hm
        have hlt' : c < s1.heap.objs.size := hlt
        have key : ∀ (m n : Nat), m < n → (m = n + 4 ∨ m = n + 3 ∨ m = n ∨ m = n + 1) → False := fun m n h1 h2 => by omega
        exact key c s1.heap.objs.size hlt' hm) (hk c ob e)
      have new : ∀ p' ∈ ps, s1.heap.objs.size ≤ p' := fun p' hp' => Nat.le_trans (by rw [hsz]; exact Nat.le_add_right _ _) (hB p' hp')
      have none1 : ∀ p' ∈ ps, H1 p' = none := fun p' hp' => I1.hok.fresh (new p' hp')
      have hfst : (ps.zip (xs.zip ys)).map (·.1) = ps := by
        rw [List.map_fst_zip]
        rw [List.length_zip]
        omega
      have hnd' : ((ps.zip (xs.zip ys)).map (·.1)).Nodup := by rw [hfst]; exact hnd
      have hmem : ∀ (j : Nat) (p' : Addr) (x y : V), ps[j]? = some p' → xs[j]? = some x → ys[j]? = some y → (p', x, y) ∈ ps.zip (xs.zip ys) := fun j p' x y e1 e2 e3 => by
        refine List.mem_of_getElem? (i := j) ?_
        rw [List.getElem?_zip_eq_some]
        refine ⟨e1, ?_⟩
        rw [List.getElem?_zip_eq_some]
        exact ⟨e2, e3⟩
      have okP : HOk X.prog X.w (putP H1 (ps.zip (xs.zip ys))) h'' := by
        refine hok_putP (I1.hok.kept kept) hnd' fun t ht => ?_
        obtain ⟨j, hj⟩ := List.getElem?_of_mem ht
        rw [List.getElem?_zip_eq_some] at hj
        obtain ⟨e1, e2⟩ := hj
        rw [List.getElem?_zip_eq_some] at e2
        obtain ⟨_, u, v, hu, hv, hp'⟩ := hO j _ e1
        obtain ⟨u', hu', ru⟩ := rv.get e2.1
        obtain ⟨v', hv', rv'⟩ := rv2.get e2.2
        have eu : u = u' := by
          have : its[j]? = some u := by simpa using hu
          rw [hu'] at this
          exact (Option.some.inj this).symm
        have ev : v = v' := by
          have : its2[j]? = some v := by simpa using hv
          rw [hv'] at this
          exact (Option.some.inj this).symm
        exact ⟨none1 _ (List.mem_of_getElem? e1), u, v, by rw [eu]; exact ru, by rw [ev]; exact rv', hp'⟩
      have kp : ∀ c ob, h''.get? c = some ob → (h''.push { cls := .type "tuple", data := .seq (ps.map Value.ref).toArray }).get? c = some ob := fun c ob e => Heap.get?_push_of_some _ e
      have nR : putP H1 (ps.zip (xs.zip ys)) h''.objs.size = none := okP.fresh (Nat.le_refl _)
      have okR : HOk X.prog X.w (upd (putP H1 (ps.zip (xs.zip ys))) h''.objs.size (.tup (ps.map V.ref))) (h''.push { cls := .type "tuple", data := .seq (ps.map Value.ref).toArray }) :=
        hok_add (its := ps.map Value.ref) (okP.kept kp) nR (by rw [List.length_map]; omega) (vals_refs9 ps) (IsTup.new _ _)
      have sm : Same H1 (upd (putP H1 (ps.zip (xs.zip ys))) h''.objs.size (.tup (ps.map V.ref))) := fun c o ec => by
        have hc1 : c ∉ (ps.zip (xs.zip ys)).map (·.1) := fun hm => by
          rw [hfst] at hm
          rw [none1 c hm] at ec
          cases ec
        have hc2 : putP H1 (ps.zip (xs.zip ys)) c = some o := by rw [putP_out hc1]; exact ec
        rw [upd_ne (ne_of_none hc2 nR)]
        exact hc2
      have free : ∀ c o, s1.heap.get? c = some o → H1 c = none → upd (putP H1 (ps.zip (xs.zip ys))) h''.objs.size (.tup (ps.map V.ref)) c = none := fun c o ec hn => by
        have hlt : c < s1.heap.objs.size := Heap.lt_size ec
        have hc1 : c ∉ (ps.zip (xs.zip ys)).map (·.1) := fun hm => by
          rw [hfst] at hm
          exact absurd (Nat.lt_of_lt_of_le hlt (new c hm)) (Nat.lt_irrefl _)
        have hc3 : c ≠ h''.objs.size := Nat.ne_of_lt (Heap.lt_size (kept c o ec))
        rw [upd_ne hc3, putP_out hc1]
        exact hn
      have I3 : Inv X pins σ (upd (putP H1 (ps.zip (xs.zip ys))) h''.objs.size (.tup (ps.map V.ref))) { s1 with heap := h''.push { cls := .type "tuple", data := .seq (ps.map Value.ref).toArray } } :=
        inv_grow (t' := s1.toks) I1 (fun c ob e => kp c ob (kept c ob e)) sm free okR
      have hR1 : H1 h''.objs.size = none := by
        cases eR : H1 h''.objs.size with
        | none => rfl
        | some o =>
          have hc1 : h''.objs.size ∉ (ps.zip (xs.zip ys)).map (·.1) := fun hm => by
            rw [hfst] at hm
            rw [none1 _ hm] at eR
            cases eR
          rw [putP_out hc1, eR] at nR
          cases nR
      refine ⟨.ref h''.objs.size, _, I3, rfl, q h''.objs.size ps _ sm hR1 upd_same hl' fun j p' x y e1 e2 e3 => ?_⟩
      have := putP_at (H := H1) hnd' (hmem j p' x y e1 e2 e3)
      rw [upd_ne (ne_of_none this nR)]
      exact this
end Fh

set_option Elab.async false
set_option linter.all false
set_option maxRecDepth 100000
set_option maxHeartbeats 4000000
namespace Fh
open PySem PySem.Spec PyProof.Rows L2
/-! ### list(zip(a, b)) of two lists of one length -/
section
variable {prog : Program} {w : World} {A : Around} {E : Value → Shared → Prop} {s : Shared} {z TI TO i1 i2 l1 l2 : Addr} {xs ys : Array Value}
theorem call_list_zip {Q : Value → Shared → Prop} (hA : A.handled = none) (D : ZipApart z TI TO i1 i2 l1 l2) (hsz : xs.size = ys.size) (hn : xs.size < sizeLine)
    (ti : PySem.IsPair s.heap TI (.ref i1) (.ref i2)) (a1 : s.heap.IsListIter i1 l1 0) (a2 : s.heap.IsListIter i2 l2 0) (b1 : s.heap.IsList l1 xs) (b2 : s.heap.IsList l2 ys) (hz : IsZip s.heap z TI TO .none) (tt : ∃ a b, PySem.IsPair s.heap TO a b)
    (hQ : ∀ (h' : Heap) (ps : List Addr) (c : Nat), (∀ b ob, b ∉ [z, TO, i1, i2] → s.heap.get? b = some ob → h'.get? b = some ob) → h'.get? s.heap.objs.size = some (lstO ps c) → ps.length = xs.size → ps.Nodup → Outs h' xs ys [] ps → (∀ p ∈ ps, s.heap.objs.size < p) → Q (.ref s.heap.objs.size) { s with heap := h' }) :
    wpAny (model prog w) A (call (.type "list") [.ref z]) Q E s := by
  have lt : ∀ {c ob}, s.heap.get? c = some ob → s.heap.objs.size ≠ c := fun e => Nat.ne_of_gt (Heap.lt_size e)
  have o : OffS s.heap.objs.size z TI TO i1 i2 l1 l2 := ⟨lt hz, lt ti, let ⟨_, _, q⟩ := tt; lt q, let ⟨_, e, _⟩ := a1; lt e, let ⟨_, e, _⟩ := a2; lt e, let ⟨_, e, _⟩ := b1; lt e, let ⟨_, e, _⟩ := b2; lt e⟩
  have hT1 : ({ s with heap := s.heap.push emptyL } : Shared).TypeIs (.ref z) "zip" := ⟨_, Heap.get?_push_of_some _ hz, rfl⟩
  have t0 : (s.heap.push emptyL).get? s.heap.objs.size = some emptyL := Heap.get?_push_size _ rfl
  refine callType_codes (Q₁ := fun obj s₁ => obj = .ref s.heap.objs.size ∧ s₁ = { s with heap := s.heap.push emptyL }) F.called_list (F.typeCall_list_1 _) F.entry_list_init (code_list_new _ ⟨rfl, rfl⟩) fun obj s₁ h₁ => ?_
  obtain ⟨rfl, rfl⟩ := h₁
  refine ⟨⟨_, t0, rfl⟩, F.args_list_init_2 _ _, ?_⟩
  show wpAny _ A.in1.in1 (Builtin.List.listItems (.ref s.heap.objs.size) >>= fun old => Builtin.List.listUpdate (.ref s.heap.objs.size) (fun _ => #[]) >>= fun _ => letGo old.toList.reverse >>= fun _ => Builtin.List.listExtendWith (.ref s.heap.objs.size) (.ref z) .none) _ _ { s with heap := s.heap.push emptyL }
  refine wpAny_bind ?_
  unfold Builtin.List.listItems
  refine wpAny_bind (wpAny_seqItems (s := { s with heap := s.heap.push emptyL }) t0 rfl (wpAny_pure ?_))
  refine wpAny_bind (m := updateSeq s.heap.objs.size (fun _ => #[])) (wpAny_updateSeq (s := { s with heap := s.heap.push emptyL }) t0 rfl ?_)
  have t1 := Heap.get?_update_self (Obj.mapSeq (fun _ => (#[] : Array Value))) t0 rfl
  have oth0 : ∀ b ob, b ≠ s.heap.objs.size → s.heap.get? b = some ob → ((s.heap.push emptyL).update s.heap.objs.size (Obj.mapSeq (fun _ => (#[] : Array Value)))).get? b = some ob := fun b ob hb e => (Heap.get?_update_other _ _ (Ne.symm hb)).trans (Heap.get?_push_of_some _ e)
  have sz0 : ((s.heap.push emptyL).update s.heap.objs.size (Obj.mapSeq (fun _ => (#[] : Array Value)))).objs.size = s.heap.objs.size + 1 := by simp
  generalize (s.heap.push emptyL).update s.heap.objs.size (Obj.mapSeq (fun _ => (#[] : Array Value))) = hp0 at *
  refine wpAny_bind (wpAny_letGo ?_)
  have hT2 : ({ s with heap := hp0 } : Shared).TypeIs (.ref z) "zip" := ⟨_, oth0 _ _ o.z.symm hz, rfl⟩
  unfold Builtin.List.listExtendWith
  refine wpAny_bind (wpAny_typeOf hT2 ?_)
  have g1 : Builtin.List.listSameRef (.ref s.heap.objs.size) (.ref z) = false := by simp [Builtin.List.listSameRef, o.z]
  have g2 : (Value.type "zip" == Value.type "list") = false := by decide
  have g3 : (Value.type "zip" == Value.type "tuple") = false := by decide
  simp only [g1, g2, g3, Bool.or_false, Bool.false_eq_true, if_false]
  refine wpAny_bind (wpAny_pyIter_zip (s := { s with heap := hp0 }) (oth0 _ _ o.z.symm hz) ?_)
  (refine wpAny_bind (wpAny_holding ?_); unfold Builtin.List.listLengthHint; refine wpAny_bind (wpAny_specialOf hT2 zip_nolen ?_))
  (show wpAny _ A.in1.in1 (specialOf (Value.ref z) (Str.ofString "__length_hint__") >>= _) _ _ _; refine wpAny_bind (wpAny_specialOf hT2 zip_nohint ?_); refine wpAny_pure ?_)
  show wpAny _ A.in1.in1 (rule "list.extend.makes-room" >>= fun _ => Builtin.List.listTouch (.ref s.heap.objs.size) >>= fun _ => again (.builtin "list.extend.loop" ⟨[.ref s.heap.objs.size, .ref z, .none], []⟩)) _ _ _
  refine wpAny_bind (wpAny_rule ?_)
  refine wpAny_bind ?_
  show wpAny _ A.in1.in1 (updateSeq s.heap.objs.size (·.push .none) >>= fun _ => updateSeq s.heap.objs.size (·.pop)) _ _ { s with heap := hp0 }
  refine wpAny_bind (wpAny_updateSeq (s := { s with heap := hp0 }) t1 rfl ?_)
  have t2 := Heap.get?_update_self (Obj.mapSeq (·.push Value.none)) t1 rfl
  refine wpAny_updateSeq (s := { s with heap := hp0.update s.heap.objs.size (Obj.mapSeq (·.push Value.none)) }) t2 rfl ?_
  have t3 := Heap.get?_update_self (Obj.mapSeq (·.pop)) t2 rfl
  have oth : ∀ b ob, b ≠ s.heap.objs.size → s.heap.get? b = some ob → ((hp0.update s.heap.objs.size (Obj.mapSeq (·.push Value.none))).update s.heap.objs.size (Obj.mapSeq (·.pop))).get? b = some ob := fun b ob hb e =>
    (Heap.get?_update_other _ _ (Ne.symm hb)).trans ((Heap.get?_update_other _ _ (Ne.symm hb)).trans (oth0 b ob hb e))
  have Z0 : ZAt s.heap z TI TO i1 i2 l1 l2 s.heap.objs.size xs ys 0 := ⟨ti, a1, a2, b1, b2, tt, .inl hz⟩
  have t4 : ∃ c, ((hp0.update s.heap.objs.size (Obj.mapSeq (·.push Value.none))).update s.heap.objs.size (Obj.mapSeq (·.pop))).get? s.heap.objs.size = some (lstO [] c) := ⟨_, t3⟩
  obtain ⟨c, t5⟩ := t4
  have bsz : s.heap.objs.size + 1 ≤ ((hp0.update s.heap.objs.size (Obj.mapSeq (·.push Value.none))).update s.heap.objs.size (Obj.mapSeq (·.pop))).objs.size := by simp [sz0]
  refine wpAny_pure ⟨plainId_quiet F.plain_extend_loop _, ext_zip (A := A.in1) (S := s.heap.objs.size) (by simp [hA]) D o hsz hn _ (s.heap.objs.size + 1) xs.size 0 { s with heap := (hp0.update s.heap.objs.size (Obj.mapSeq (·.push Value.none))).update s.heap.objs.size (Obj.mapSeq (·.pop)) } [] c (by omega) (Nat.zero_le _) (Z0.off o oth) t5 rfl List.nodup_nil (fun j p h => by simp at h) (fun p h => by cases h) bsz fun h' ps c' hk' hS' hl hnd hO hB => ?_⟩
  refine ⟨rfl, hQ h' ps c' (fun b ob hb q => ?_) hS' hl hnd (fun j p hp => ⟨fun h => (nomatch h), (hO j p hp).2⟩) hB⟩
  have nS : b ≠ s.heap.objs.size := fun e => lt q e.symm
  refine hk' b ob (fun hm => ?_) (oth b ob nS q)
  rcases List.mem_cons.mp hm with h | h
  · exact nS h
  · exact hb h
end
def tLstZip (K : PySem.W.Frag) (ta : TA) : TE := fun σ H Q => ta σ H fun vs H1 => ∃ (a b : Addr) (xs ys : List V), vs = [.ref a, .ref b] ∧ SqL K H1 a xs ∧ SqL K H1 b ys ∧ xs.length = ys.length ∧ xs.length < sizeLine ∧
  ∀ (R : Addr) (ps : List Addr) (H2 : Hp), Same H1 H2 → H1 R = none → H2 R = some (.lst (ps.map V.ref)) → ps.length = xs.length → (∀ (j : Nat) (p : Addr) (x y : V), ps[j]? = some p → xs[j]? = some x → ys[j]? = some y → H2 p = some (.tup [x, y])) → Q (.ref R) H2
theorem hok_addL {P : Program} {w : World} {H : Hp} {h : Heap} {a : Addr} {xs : List V} {its : List Value} {c : Nat} (ok : HOk P w H h) (hn : H a = none) (hz : xs.length ≤ sizeLine) (r : Vals xs its) (ht : h.get? a = some (seqObj "list" its.toArray c)) : HOk P w (upd H a (.lst xs)) h := fun b u e => by
  by_cases hb : b = a
  · subst hb
    rw [upd_same] at e
    cases e
    exact ⟨hz, its, c, r, ht⟩
  · rw [upd_ne hb] at e
    exact (ok b u e).stay (fun c v _ q => q) (fun c q => by rw [upd_ne (ne_of_none q hn)]; exact q) fun c ys q => by rw [upd_ne (ne_of_none q hn)]; exact q
theorem pe_lstZip {X : Cx} {e e2 : Expr} {ta : TA} {p p2 pos pos2 : Pos} (hc : X.calm = true) (hg : Gl X "list") (hm : X.mg "list" = none) (hg2 : Gl X "zip") (hm2 : X.mg "zip" = none) (ha : PA X [e, e2] ta)
    (hs : starEach [e, e2] X.env = (false, eval e X.env) :: starEach [e2] X.env := by rfl) (hpl : (backTo pos2 (starEach [e2] X.env)).any (·.1) = false := by rfl)
    (hs2 : starEach [.Call (.Name "zip" p2) [e, e2] [] pos2] X.env = (false, eval (.Call (.Name "zip" p2) [e, e2] [] pos2) X.env) :: starEach [] X.env := by rfl) :
    PE X (.Call (.Name "list" p) [.Call (.Name "zip" p2) [e, e2] [] pos2] [] pos) (tLstZip X.K ta) := by
  refine ⟨fun pins s σ H Q I h => ?_⟩
  refine Call_ (ld_blt I hg hm boot_list (PyProof.Rows.callWith_type1 (args_cons (Call_ (ld_blt I hg2 hm2 PyProof.Rows.boot_zip (PyProof.Rows.callWith_type1 (thn (ha.run pos2 pins s σ H _ I h) fun us s1 ⟨vs, H1, I1, r1, q1⟩ => ?_) hs hpl))) hs2) hs2 rfl))
  obtain ⟨a, b, xs, ys, ex, hqx, hqy, hlen, hlt, q⟩ := q1
  subst ex
  cases r1 with
  | cons r rr =>
    cases rr with
    | cons r' rr =>
      cases rr
      cases r
      cases r'
      obtain ⟨its, rv, pl, _⟩ := I1.list hqx
      obtain ⟨its2, rv2, pl2, _⟩ := I1.list hqy
      refine call_zip_2 pl.isList pl2.isList fun h' hz hTI hTO h1 h2 hsz hk => args_nil ?_
      have l1 := rv.length
      have l2 := rv2.length
      refine call_list_zip (s := { s1 with heap := h' }) (xs := its.toArray) (ys := its2.toArray) (I1.ok.hd hc) (PySem.W.ktu_apart s1.heap.objs.size a b pl.lt pl2.lt) (by simp; omega) (by simp; omega) hTI h1 h2
        (pl.isList.at fun o e => hk _ o e) (pl2.isList.at fun o e => hk _ o e) hz ⟨_, _, hTO⟩ fun h'' ps c hk2 hS hl hnd hO hB => ?_
      have hl' : ps.length = xs.length := by rw [hl]; simp; omega
      have kept : ∀ c ob, s1.heap.get? c = some ob → h''.get? c = some ob := fun c ob e => hk2 c ob (fun hm => by
        have hlt := Heap.lt_size e
        simp only [List.mem_cons, List.not_mem_nil, or_false] at hm
        have hlt' : c < s1.heap.objs.size := hlt
        have key : ∀ (m n : Nat), m < n → (m = n + 4 ∨ m = n + 3 ∨ m = n ∨ m = n + 1) → False := fun m n h1 h2 => by omega
        exact key c s1.heap.objs.size hlt' hm) (hk c ob e)
      have szS : s1.heap.objs.size ≤ h'.objs.size := by rw [hsz]; exact Nat.le_add_right _ _
      have new : ∀ p' ∈ ps, s1.heap.objs.size ≤ p' := fun p' hp' => Nat.le_trans szS (Nat.le_of_lt (hB p' hp'))
      have none1 : ∀ p' ∈ ps, H1 p' = none := fun p' hp' => I1.hok.fresh (new p' hp')
      have hfst : (ps.zip (xs.zip ys)).map (·.1) = ps := by
        rw [List.map_fst_zip]
        rw [List.length_zip]
        omega
      have hnd' : ((ps.zip (xs.zip ys)).map (·.1)).Nodup := by rw [hfst]; exact hnd
      have hmem : ∀ (j : Nat) (p' : Addr) (x y : V), ps[j]? = some p' → xs[j]? = some x → ys[j]? = some y → (p', x, y) ∈ ps.zip (xs.zip ys) := fun j p' x y e1 e2 e3 => by
        refine List.mem_of_getElem? (i := j) ?_
        rw [List.getElem?_zip_eq_some]
        refine ⟨e1, ?_⟩
        rw [List.getElem?_zip_eq_some]
        exact ⟨e2, e3⟩
      have okP : HOk X.prog X.w (putP H1 (ps.zip (xs.zip ys))) h'' := by
        refine hok_putP (I1.hok.kept kept) hnd' fun t ht => ?_
        obtain ⟨j, hj⟩ := List.getElem?_of_mem ht
        rw [List.getElem?_zip_eq_some] at hj
        obtain ⟨e1, e2⟩ := hj
        rw [List.getElem?_zip_eq_some] at e2
        obtain ⟨_, u, v, hu, hv, hp'⟩ := hO j _ e1
        obtain ⟨u', hu', ru⟩ := rv.get e2.1
        obtain ⟨v', hv', rv'⟩ := rv2.get e2.2
        have eu : u = u' := by
          have : its[j]? = some u := by simpa using hu
          rw [hu'] at this
          exact (Option.some.inj this).symm
        have ev : v = v' := by
          have : its2[j]? = some v := by simpa using hv
          rw [hv'] at this
          exact (Option.some.inj this).symm
        exact ⟨none1 _ (List.mem_of_getElem? e1), u, v, by rw [eu]; exact ru, by rw [ev]; exact rv', hp'⟩
      have hR1 : H1 h'.objs.size = none := I1.hok.fresh szS
      have nin : h'.objs.size ∉ (ps.zip (xs.zip ys)).map (·.1) := fun hm => by
        rw [hfst] at hm
        exact Nat.lt_irrefl _ (hB _ hm)
      have nR : putP H1 (ps.zip (xs.zip ys)) h'.objs.size = none := by rw [putP_out nin]; exact hR1
      have okR : HOk X.prog X.w (upd (putP H1 (ps.zip (xs.zip ys))) h'.objs.size (.lst (ps.map V.ref))) h'' := hok_addL (its := ps.map Value.ref) (c := c) okP nR (by rw [List.length_map]; omega) (vals_refs9 ps) hS
      have sm : Same H1 (upd (putP H1 (ps.zip (xs.zip ys))) h'.objs.size (.lst (ps.map V.ref))) := fun c o ec => by
        have hc1 : c ∉ (ps.zip (xs.zip ys)).map (·.1) := fun hm => by
          rw [hfst] at hm
          rw [none1 c hm] at ec
          cases ec
        have hc2 : putP H1 (ps.zip (xs.zip ys)) c = some o := by rw [putP_out hc1]; exact ec
        rw [upd_ne (ne_of_none hc2 nR)]
        exact hc2
      have free : ∀ c o, s1.heap.get? c = some o → H1 c = none → upd (putP H1 (ps.zip (xs.zip ys))) h'.objs.size (.lst (ps.map V.ref)) c = none := fun c o ec hn => by
        have hlt : c < s1.heap.objs.size := Heap.lt_size ec
        have hc1 : c ∉ (ps.zip (xs.zip ys)).map (·.1) := fun hm => by
          rw [hfst] at hm
          exact absurd (Nat.lt_of_lt_of_le hlt (new c hm)) (Nat.lt_irrefl _)
        have hc3 : c ≠ h'.objs.size := Nat.ne_of_lt (Nat.lt_of_lt_of_le hlt szS)
        rw [upd_ne hc3, putP_out hc1]
        exact hn
      have I3 : Inv X pins σ (upd (putP H1 (ps.zip (xs.zip ys))) h'.objs.size (.lst (ps.map V.ref))) { s1 with heap := h'' } :=
        inv_grow (t' := s1.toks) I1 kept sm free okR
      refine ⟨.ref h'.objs.size, _, I3, rfl, q h'.objs.size ps _ sm hR1 upd_same hl' fun j p' x y e1 e2 e3 => ?_⟩
      have := putP_at (H := H1) hnd' (hmem j p' x y e1 e2 e3)
      rw [upd_ne (ne_of_none this nR)]
      exact this
end Fh

set_option Elab.async false
set_option linter.all false
set_option maxRecDepth 100000
set_option maxHeartbeats 4000000
namespace Fh
open PySem L2 PyProof.Rows
abbrev sPck : Stmt := top 33
abbrev nPck : List Str := ["_law_bag_here", "_law_size", "_law_taken", "_law_found", "_law_word", "_law_numbers_here"]
theorem TpAll.ofget {H : Hp} : ∀ {vs : List V} {ds : List PyData}, vs.length = ds.length → (∀ (j : Nat) (v : V) (d : PyData), vs[j]? = some v → ds[j]? = some d → Tp H v d) → TpAll H vs ds
  | [], [], _, _ => .nil
  | [], _ :: _, l, _ => by simp at l
  | _ :: _, [], l, _ => by simp at l
  | v :: vs, d :: ds, l, h => .cons (h 0 v d rfl rfl) (TpAll.ofget (by simpa using l) fun j v' d' e1 e2 => h (j + 1) v' d' (by simpa using e1) (by simpa using e2))
theorem pairs_tp {H : Hp} {ps : List Addr} {ns : List Int} {zs : List Str} (l1 : ps.length = ns.length) (l2 : ns.length = zs.length) (h : ∀ (j : Nat) (p : Addr) (x y : V), ps[j]? = some p → (ns.map V.int)[j]? = some x → (zs.map V.str)[j]? = some y → H p = some (.tup [x, y])) :
    TpAll H (ps.map V.ref) ((ns.zip zs).map fun o => .tuple [.int o.1, .str o.2]) := by
  refine TpAll.ofget (by rw [List.length_map, List.length_map, List.length_zip]; omega) fun j v d e1 e2 => ?_
  rw [List.getElem?_map] at e1 e2
  cases hp : ps[j]? with
  | none => rw [hp] at e1; cases e1
  | some p =>
    cases hz : (ns.zip zs)[j]? with
    | none => rw [hz] at e2; cases e2
    | some o =>
      rw [hp] at e1
      rw [hz] at e2
      cases e1
      cases e2
      rw [List.getElem?_zip_eq_some] at hz
      have := h j p (.int o.1) (.str o.2) hp (by rw [List.getElem?_map, hz.1]; rfl) (by rw [List.getElem?_map, hz.2]; rfl)
      exact .tup this (.cons (.int _) (.cons (.str _) .nil))
abbrev Opts9 := List (Str × List (Int × Str))
def pckD (c : Str × List (Int × Str)) : Str × PyData := (c.1, optsD c.2)
structure PckOk (cs : Opts9) : Prop where
  l : cs.length ≤ 3
  ne : ∀ c ∈ cs, c.2 ≠ []
  nm : ∀ c ∈ cs, ∀ o ∈ c.2, Nm o.2
  l6 : ∀ c ∈ cs, c.2.length ≤ 6
  nmc : ∀ c ∈ cs, Nm c.1
def spPck : Sp := fun vs H Q _ => ∃ (b t : Addr) (size : Int) (tk : List Str) (n : Nat), vs = [.ref b, .int size, .ref t] ∧ Bag H b n ∧ 0 ≤ size ∧ size ≤ 3 ∧ H t = some (.lst (tk.map V.str)) ∧ tk.length ≤ 12 ∧ n + 1000 ≤ most ∧
  ∀ (p : Addr) (pv : List V) (cs : Opts9) (H' : Hp), H p = none → H' p = some (.lst pv) → TpAll H' pv ((cs.map pckD).map fun r => .tuple [.str r.1, r.2]) → PckOk cs → Kp b H H' → Bag H' b (n + 600) → Q (.ref p) H'
section
variable {P : Program} {w : World} {K : PySem.W.Frag} {mg : Str → Option Value} {base : Heap}
theorem scPck : FnScope nPck ["_law_bag_here", "_law_size", "_law_taken"] (defScope sPck) := ⟨rfl, rfl, rfl, by decide +kernel, rfl, by decide +kernel, by decide +kernel⟩
theorem ok_pck {f : Addr} {fd : FuncData} (F : Fun K "_law_picks" "_law_picks" sPck f fd) (G : Glb mg) (DT : Has P w K mg base "_law_take" 1 pTk9 spTake) (DM : Has P w K mg base "_law_numbers" 2 pTk9 spNum9) (DN : Has P w K mg base "_law_names" 3 ["_law_bag_here", "_law_size", "_law_taken"] spUnlikeN) :
    FnOk P w K mg base CX0 4 f fd ["_law_bag_here", "_law_size", "_law_taken"] spPck := by
  refine F.ok scPck (fun vs H Q E h => ?_) (fun cdv A outer s H vs Q E hr h => ?_)
  · obtain ⟨b, t, size, tk, n, rfl, _⟩ := h
    rfl
  · obtain ⟨b, t, size, tk, n, rfl, hB, s0, s1, ht, ltk, hn, q⟩ := h
    have hm : most = 1000000 := rfl
    refine ⟨_, (pss_cons (ps_set (i := 3) scPck.nd rfl (Or.inl rfl) (pe_lst pa_nil))
      (pss_cons (ps_for PassesOwn.never rfl (pi_list (pe_callB cr_sortedS (by rfl) G.sorted (by decide +kernel) (pa_cons (pe_has DN (hr.mono (by omega)) rfl (pa_cons (pv 0) (pa_cons (pv 1) (pa_cons (pv 2) pa_nil)))) pa_nil))) (pg_name (i := 4) scPck.nd rfl (Or.inl rfl))
      (pss_cons (ps_set (i := 5) scPck.nd rfl (Or.inl rfl) (pe_has DM (hr.mono (by omega)) rfl (pa_cons (pv 0) (pa_cons (pe_op op_add pe_int (pe_has DT (hr.mono (by omega)) rfl (pa_cons (pv 0) (pa_cons pe_int pa_nil)))) pa_nil))))
      (pss_one (ps_expr (pe_bm PySem.F.plainAttrs_list PySem.F.slot_list_append PySem.F.type_list_append mt_append (pv 3) (pa_cons (pe_tup (pa_cons (pv 4) (pa_cons (pe_callTy call_tuple_of (by rfl) G.tuple (by decide +kernel) (pa_cons (pe_lstZip rfl (by rfl) G.list (by rfl) G.zip (pa_cons (pv 5) (pa_cons (pe_has DN (hr.mono (by omega)) rfl (pa_cons (pv 0) (pa_cons (pe_callB call_len_seq (by rfl) G.len (by decide +kernel) (pa_cons (pv 5) pa_nil)) (pa_cons (pe_lst pa_nil) pa_nil)))) pa_nil))) pa_nil)) pa_nil))) pa_nil))))))
      (pss_one (ps_ret (pv 3))))), ?_⟩
    refine ⟨Nat.zero_le _, fun D hD => ?_⟩
    have nDb : D ≠ b := new_ne hD hB
    refine ⟨_, rfl, _, rfl, _, rfl, b, t, size, tk, n, rfl, hB.new hD, s0, by omega, hup hD ht, ltk, by omega, fun wl ws H1 hwl h1 lws ndw nmw K1 B1 => ?_⟩
    have nwb : wl ≠ b := new_ne hwl (hB.new hD)
    refine ⟨wl, ws, rfl, SqL.of h1, by omega, fun ys wo perm _ hwo => ?_⟩
    have h2o : (upd H1 wo (.lst (ys.map V.str))) wo = some (.lst (ys.map V.str)) := upd_same
    have lys : ys.length ≤ 3 := by rw [perm.length_eq]; omega
    have K2 : Kp b H (upd H1 wo (.lst (ys.map V.str))) := ((Kp.refl.new hD).trans K1).new hwo
    have B2 := B1.new (o := .lst (ys.map V.str)) hwo
    have h2D : (upd H1 wo (.lst (ys.map V.str))) D = some (.lst []) := hup hwo (K1 _ _ nDb upd_same)
    have nwob : wo ≠ b := new_ne hwo B1
    have nwoD : wo ≠ D := fun e => by
      rw [e, K1 _ _ nDb upd_same] at hwo
      cases hwo
    generalize upd H1 wo (.lst (ys.map V.str)) = H2 at *
    refine ⟨wo, rfl, ⟨_, SqL.of h2o⟩, ?_⟩
    refine for_list (K := K) (a := wo) (xs := ys.map V.str) (fun i σ H3 => (∃ a4 a5, σ = [some (.ref b), some (.int size), some (.ref t), some (.ref D), a4, a5]) ∧ Kp b H H3 ∧ Bag H3 b (n + 120 + 151 * i) ∧ H3 wo = some (.lst (ys.map V.str)) ∧ ∃ (pv : List V) (cs : Opts9), H3 D = some (.lst pv) ∧ TpAll H3 pv ((cs.map pckD).map fun r => .tuple [.str r.1, r.2]) ∧ cs.length = i ∧ (∀ c ∈ cs, c.2 ≠ []) ∧ (∀ c ∈ cs, ∀ o ∈ c.2, Nm o.2) ∧ (∀ c ∈ cs, c.2.length ≤ 6) ∧ ∀ c ∈ cs, Nm c.1) ?_ ?_ ?_ ?_
    · exact ⟨⟨_, _, rfl⟩, K2, B2, h2o, [], [], h2D, .nil, rfl, (fun c h => nomatch h), (fun c h => nomatch h), (fun c h => nomatch h), fun c h => nomatch h⟩
    · rintro i σ H3 _ ⟨_, _, _, h3o, _⟩
      exact SqL.of h3o
    · rintro i x σ H3 hx ⟨⟨a4, a5, rfl⟩, K3, B3, h3o, pv, cs, h3D, tp3, lc, ne3, nm3, l63, nc3⟩
      have hi : i < 3 := by
        have := (List.getElem?_eq_some_iff.mp hx).1
        rw [List.length_map] at this
        omega
      rw [List.getElem?_map] at hx
      obtain ⟨z, hz, rfl⟩ := Option.map_eq_some_iff.mp hx
      refine ⟨_, rfl, _, rfl, b, 6, _, rfl, by decide, by decide, B3, by omega, fun d H4 d0 d1 K4 B4 => ?_⟩
      refine ⟨_, _, rfl, rfl, b, 1 + d, _, rfl, B4, by omega, by omega, by omega, fun np ns H5 hnp h5 lns K5 B5 => ?_⟩
      have K45 := K4.trans K5
      have nnp : np ≠ b := new_ne hnp B4
      have h5D := K45 _ _ nDb h3D
      refine ⟨_, rfl, .inl ⟨rfl, _, SqL.of h5D⟩, ?_⟩
      refine ⟨_, rfl, _, rfl, _, rfl, _, rfl, np, _, rfl, .inl (SqL.of h5), ?_⟩
      rw [List.length_map]
      refine ⟨Nat.zero_le _, fun e he => ?_⟩
      refine ⟨b, e, (ns.length : Nat), [], _, rfl, B5.new he, by omega, by omega, upd_same, Nat.zero_le _, by omega, fun zl zs H6 hzl h6 lzs ndz nmz K6 B6 => ?_⟩
      have K56 : Kp b H5 H6 := (Kp.refl.new he).trans K6
      have h6n := K56 _ _ nnp h5
      have nzl : zl ≠ b := new_ne hzl (B5.new he)
      have lz : ns.length = zs.length := by omega
      refine ⟨np, zl, _, _, rfl, SqL.of h6n, SqL.of h6, by rw [List.length_map, List.length_map]; exact lz, ?_, fun R ps H7 S7 hR h7 lps pr => ?_⟩
      · rw [List.length_map]
        exact Nat.lt_of_le_of_lt (show ns.length ≤ 6 by omega) (by decide)
      rw [List.length_map] at lps
      refine ⟨R, _, rfl, .inl ⟨SqL.of h7, fun T hT => ?_⟩⟩
      refine ⟨(by show 2 ≤ sizeLine; decide), fun t2 ht2 => ?_⟩
      have S8 : Same H7 (upd (upd H7 T (.tup (ps.map V.ref))) t2 (.tup [.str z, .ref T])) := (Same.new hT).trans (Same.new ht2)
      have h8t : (upd (upd H7 T (.tup (ps.map V.ref))) t2 (.tup [.str z, .ref T])) t2 = some (.tup [.str z, .ref T]) := upd_same
      have h8T : (upd (upd H7 T (.tup (ps.map V.ref))) t2 (.tup [.str z, .ref T])) T = some (.tup (ps.map V.ref)) := hup ht2 upd_same
      generalize (upd (upd H7 T (.tup (ps.map V.ref))) t2 (.tup [.str z, .ref T])) = H8 at *
      have K58 : Kp b H5 H8 := (K56.same S7).same S8
      have K38 : Kp b H3 H8 := K45.trans K58
      have h8D := K58 _ _ nDb h5D
      have B8 := (B6.same S7).same S8
      have tpz : TpAll H8 (ps.map V.ref) ((ns.zip zs).map fun o => .tuple [.int o.1, .str o.2]) := TpAll.keep (Same.tk S8) _ _ (pairs_tp lps lz pr)
      refine ⟨D, _, _, rfl, rfl, h8D, ?_, ?_⟩
      · have := tp3.length
        rw [List.length_map, List.length_map] at this
        rw [this, lc]
        exact Nat.lt_trans hi (by decide)
      have K9 : Kp b H (upd H8 D (.lst (pv ++ [.ref t2]))) := (K3.trans K38).wr hD
      have T9 : Tk H8 (upd H8 D (.lst (pv ++ [.ref t2]))) := Tk.wr h8D
      have npl : ns.length = (1 + d).toNat := by omega
      refine ⟨⟨_, _, rfl⟩, K9, (B8.mono (by omega)).ne nDb, ?_, pv ++ [.ref t2], cs ++ [(z, ns.zip zs)], upd_same, ?_, by rw [List.length_append, lc]; rfl, fun c hc => ?_, fun c hc o ho => ?_, fun c hc => ?_, fun c hc => ?_⟩
      · rw [upd_ne nwoD]
        exact K38 _ _ nwob h3o
      · rw [List.map_append, List.map_append]
        refine TpAll.app (TpAll.keep T9 _ _ (TpAll.keep (K38.tk B3) _ _ tp3)) (TpAll.one (Tp.keep T9 _ _ ?_))
        exact .tup h8t (.cons (.str _) (.cons (.tup h8T tpz) .nil))
      · rcases List.mem_append.mp hc with h | h
        · exact ne3 c h
        · rw [List.mem_singleton.mp h]
          intro e0
          have l0 : (ns.zip zs).length = 0 := by
            rw [show ns.zip zs = [] from e0]
            rfl
          rw [List.length_zip] at l0
          omega
      · rcases List.mem_append.mp hc with h | h
        · exact nm3 c h o ho
        · rw [List.mem_singleton.mp h] at ho
          exact (nmz _ (List.of_mem_zip ho).2).1
      · rcases List.mem_append.mp hc with h | h
        · exact l63 c h
        · rw [List.mem_singleton.mp h]
          show (ns.zip zs).length ≤ 6
          rw [List.length_zip]
          omega
      · rcases List.mem_append.mp hc with h | h
        · exact nc3 c h
        · rw [List.mem_singleton.mp h]
          exact (nmw z (perm.mem_iff.mp (List.mem_of_getElem? hz))).1
    · rintro σ H3 ⟨⟨a4, a5, rfl⟩, K3, B3, h3o, pv, cs, h3D, tp3, lc, ne3, nm3, l63, nc3⟩
      rw [List.length_map] at lc B3
      exact ⟨_, rfl, q D pv cs H3 hD h3D tp3 ⟨by omega, ne3, nm3, l63, nc3⟩ K3 (B3.mono (by omega))⟩
theorem scDrk : FnScope nDrk ["_law_bag_here", "_law_picks_here", "_law_words"] (defScope sDrk) := ⟨rfl, rfl, rfl, by decide +kernel, rfl, by decide +kernel, by decide +kernel⟩
theorem ok_drk {f : Addr} {fd : FuncData} (F : Fun K "_law_drawn_kind" "_law_drawn_kind" sDrk f fd) (G : Glb mg) (DT : Has P w K mg base "_law_take" 1 pTk9 spTake) (DP : Has P w K mg base "_law_plain_kind" 2 ["_law_bag_here"] spPlk) : FnOk P w K mg base CX0 3 f fd ["_law_bag_here", "_law_picks_here", "_law_words"] spDrk := by
  refine F.ok scDrk (fun vs H Q E h => ?_) (fun cdv A outer s H vs Q E hr h => ?_)
  · obtain ⟨b, p, w, n, pc, cs, rfl, _⟩ := h
    rfl
  · obtain ⟨b, p, w, n, pc, cs, rfl, hB, hn, hp, npb, tp, lc, hw, nwb, q⟩ := h
    have hm : most = 1000000 := rfl
    have lpv : pc.length = cs.length := by rw [tp.length, List.length_map]
    refine ⟨_, (pss_cons (ps_set (i := 3) scDrk.nd rfl (Or.inl rfl) (pe_has DT (hr.mono (by omega)) rfl (pa_cons (pv 0) (pa_cons pe_int pa_nil))))
      (pss_cons (ps_set (i := 4) scDrk.nd rfl (Or.inl rfl) (pe_has DP (hr.mono (by omega)) rfl (pa_cons (pv 0) pa_nil)))
      (C8.pss_cut (ps_if (PW.pt (pw_and (pt_cmpR op_eq (pv 3) pe_int (nomark _)) (pw_and1 (pt_cmpR (op_neM9 hr.units) (pv 1) (pe_lst pa_nil) (nomark _)))))
      (pss_one (ps_set (i := 4) scDrk.nd rfl (Or.inl rfl) (pe_tup (pa_cons pe_str (pa_cons (pe_ix ix_tup (pe_ix ix_list (pv 1) (pe_has DT (hr.mono (by omega)) rfl (pa_cons (pv 0) (pa_cons (pe_callB call_len_seq (by rfl) G.len (by decide +kernel) (pa_cons (pv 1) pa_nil)) pa_nil))) (fun _ _ => rfl)) pe_int (fun _ _ => rfl)) pa_nil)))))
      pss_nil)
      (C8.pss_cut (ps_if (PW.pt (pw_and (pt_cmpR op_gt (pv 3) pe_int (nomark _)) (pw_and1 (pt_cmpR (op_neM9 hr.units) (pv 2) (pe_lst pa_nil) (nomark _)))))
      (pss_one (ps_set (i := 4) scDrk.nd rfl (Or.inl rfl) (pe_tup (pa_cons pe_str (pa_cons (pe_ix ix_list (pv 2) (pe_has DT (hr.mono (by omega)) rfl (pa_cons (pv 0) (pa_cons (pe_callB call_len_seq (by rfl) G.len (by decide +kernel) (pa_cons (pv 2) pa_nil)) pa_nil))) (fun _ _ => rfl)) pa_nil)))))
      pss_nil)
      (pss_one (ps_ret (pe_ifExp (PW.pt (pw_and (pt_cmpR op_eq (pv 3) pe_int (nomark _)) (pw_and1 (pt_cmpR op_ne (pe_ix ix_seq (pv 4) pe_int (fun _ _ => rfl)) pe_str (nomark _))))) (pe_tup (pa_cons pe_str (pa_cons (pv 4) pa_nil))) (pv 4)))))))), ?_⟩
    refine ⟨_, rfl, b, 8, n, rfl, by decide, by decide, hB, by omega, fun d H1 d0 d1 K1 B1 => ?_⟩
    refine ⟨_, rfl, b, n + 1, rfl, B1, by omega, fun kv k H2 tk gk K2 B2 => ?_⟩
    have K12 := K1.trans K2
    refine ⟨fun σ H' => ∃ (kv : V) (k : Kn), σ = [some (.ref b), some (.ref p), some (.ref w), some (.int d), some kv] ∧ Tp H' kv k.d ∧ GK9 (cs.map Prod.fst) k ∧ Kp b H H' ∧ Bag H' b (n + 5), ?_, ?_⟩
    · refine ⟨_, rfl, rfl, _, rfl, ite2 (fun _ => ?_) (fun _ => iteF ⟨kv, k, rfl, tk, gk.mono, K12, B2.mono (by omega)⟩)⟩
      refine ⟨_, rfl, Nat.zero_le _, fun e he => ?_⟩
      have h3p := hup (o := .lst []) he (K12 _ _ npb hp)
      refine ⟨p, e, pc, rfl, rfl, SqL.of h3p, SqL.of upd_same, _, rfl, ?_⟩
      have K3 : Kp b H (upd H2 e (.lst [])) := K12.new he
      have B3 := B2.new (o := .lst []) he
      have tk3 := Tp.keep (Tk.new (o := .lst []) he) _ _ tk
      generalize upd H2 e (.lst []) = H3 at *
      cases pc with
      | nil => exact iteF ⟨kv, k, rfl, tk3, gk.mono, K3, B3.mono (by omega)⟩
      | cons x0 pr =>
        refine iteT ?_
        refine ⟨_, rfl, _, rfl, _, rfl, p, _, rfl, .inl (SqL.of h3p), b, _, _, rfl, by rw [List.length_cons]; omega, by omega, B3, by omega, fun d2 H4 e0 e1 K4 B4 => ?_⟩
        obtain ⟨v, ev, ev2, hv⟩ := atI_in (xs := x0 :: pr) e0 e1
        obtain ⟨r, t, u, hr1, rfl, ht, tu⟩ := rows_at (H := H4) (TpAll.keep ((K3.trans K4).tk hB) _ _ tp) ev2
        have h4p := K4 _ _ npb h3p
        refine ⟨p, _, _, _, rfl, rfl, SqL.of h4p, ev, t, _, _, _, rfl, rfl, SqT.of ht, rfl, (by show 2 ≤ sizeLine; decide), fun t2 ht2 => ?_⟩
        exact ⟨.ref t2, .one (.ch r.1), rfl, .tup upd_same (.cons (.str _) (.cons (.str _) .nil)), List.mem_map.mpr ⟨r, List.mem_of_getElem? hr1, rfl⟩, (K3.trans K4).new ht2, (B4.new ht2).mono (by omega)⟩
    rintro σ H3 ⟨kv3, k3, rfl, tk3, gk3, K3, B3⟩
    refine ⟨fun σ H' => ∃ (kv : V) (k : Kn), σ = [some (.ref b), some (.ref p), some (.ref w), some (.int d), some kv] ∧ Tp H' kv k.d ∧ GK9 (cs.map Prod.fst) k ∧ Kp b H H' ∧ Bag H' b (n + 5), ?_, ?_⟩
    · refine ⟨_, rfl, d, 4, rfl, rfl, _, rfl, ite2 (fun _ => ?_) (fun _ => iteF ⟨kv3, k3, rfl, tk3, gk3, K3, B3⟩)⟩
      refine ⟨_, rfl, Nat.zero_le _, fun e he => ?_⟩
      have h3w := hup (o := .lst []) he (K3 _ _ nwb hw)
      refine ⟨w, e, [], rfl, rfl, SqL.of h3w, SqL.of upd_same, _, rfl, iteF ?_⟩
      exact ⟨kv3, k3, rfl, Tp.keep (Tk.new he) _ _ tk3, gk3, K3.new he, B3.new he⟩
    rintro σ H4 ⟨kv4, k4, rfl, tk4, gk4, K4, B4⟩
    have keep : Q kv4 H4 := q kv4 k4 H4 tk4 gk4 K4 (B4.mono (by omega))
    refine ⟨_, rfl, rfl, _, rfl, ite2 (fun _ => ?_) (fun _ => iteF ⟨_, rfl, keep⟩)⟩
    rcases kn_inv tk4 with ⟨rfl, hk⟩ | ⟨a, u, rfl, ha, tu⟩
    · have fin : ∀ b0 : Kb, k4 = .one b0 → (∀ t, H4 t = none → Q (.ref t) (upd H4 t (.tup [.str "list", .str k4.word]))) := fun b0 eb t ht => by
        subst eb
        refine q _ (.lst b0) _ (.tup upd_same (.cons (.str _) (.cons ?_ .nil))) gk4 (K4.new ht) ((B4.new ht).mono (by omega))
        exact Tp.keep (Tk.new ht) _ _ tk4
      rcases hk with rfl | rfl | rfl
      · exact ⟨_, rfl, .inr (.inr ⟨_, _, 119, rfl, rfl, by decide +kernel, by decide +kernel, rfl, _, rfl, iteT ⟨_, rfl, (by show 2 ≤ sizeLine; decide), fun t ht => fin _ rfl t ht⟩⟩)⟩
      · exact ⟨_, rfl, .inr (.inr ⟨_, _, 116, rfl, rfl, by decide +kernel, by decide +kernel, rfl, _, rfl, iteT ⟨_, rfl, (by show 2 ≤ sizeLine; decide), fun t ht => fin _ rfl t ht⟩⟩)⟩
      · exact ⟨_, rfl, .inr (.inr ⟨_, _, 116, rfl, rfl, by decide +kernel, by decide +kernel, rfl, _, rfl, iteT ⟨_, rfl, (by show 2 ≤ sizeLine; decide), fun t ht => fin _ rfl t ht⟩⟩)⟩
    · refine ⟨_, rfl, .inr (.inl ⟨a, _, 0, _, rfl, rfl, SqT.of ha, rfl, rfl, _, rfl, ?_⟩)⟩
      cases k4 with
      | lst b0 => exact iteF ⟨_, rfl, keep⟩
      | one b0 =>
        cases b0 with
        | rc z => exact gk4.elim
        | whole => exact nomatch tk4
        | truth => exact nomatch tk4
        | text => exact nomatch tk4
        | ch z =>
          refine iteT ⟨_, rfl, (by show 2 ≤ sizeLine; decide), fun t ht => ?_⟩
          exact q _ (.lst (.ch z)) _ (.tup upd_same (.cons (.str _) (.cons (Tp.keep (Tk.new ht) _ _ tk4) .nil))) gk4 (K4.new ht) ((B4.new ht).mono (by omega))
end
end Fh

set_option Elab.async false
set_option linter.all false
set_option maxRecDepth 100000
set_option maxHeartbeats 4000000
namespace Fh
open PySem L2 PyProof.Rows
abbrev sCde : Stmt := top 34
abbrev nCde : List Str := ["_law_bag_here", "_law_asks", "_law_answer_names", "_law_below", "_law_deeds", "_law_found", "_law_turn", "_law_names_here", "_law_front", "_law_call", "_law_left", "_law_figure", "_law_word", "_law_kind", "_law_need", "_law_at"]
abbrev pCde : List Str := ["_law_bag_here", "_law_asks", "_law_answer_names", "_law_below"]
/-- a field to be told, without its number -/
structure Gd9 where
  nam : Str
  kd : Kn
  must : Bool
def Gd9.d (g : Gd9) : PyData := .tuple [.str g.nam, g.kd.d, .str (needS g.must)]
theorem seq_at9 {y : Int} {n : Nat} (h0 : 0 ≤ y) (h1 : y < (n : Int)) : seqIndex? y n = some y.toNat := by
  unfold seqIndex?
  have a : ¬ y < 0 := by omega
  simp only [if_neg a]
  rw [if_pos]
  simp [h0, h1]
theorem map_erase9 {α β : Type} (f : α → β) : ∀ (l : List α) (k : Nat), (l.eraseIdx k).map f = (l.map f).eraseIdx k
  | [], _ => rfl
  | _ :: _, 0 => rfl
  | x :: l, k + 1 => by
    show f x :: (l.eraseIdx k).map f = f x :: (l.map f).eraseIdx k
    rw [map_erase9 f l k]
theorem TpAll.erase {H : Hp} : ∀ {vs : List V} {ds : List PyData}, TpAll H vs ds → ∀ k, TpAll H (vs.eraseIdx k) (ds.eraseIdx k)
  | _, _, .nil, _ => .nil
  | _, _, .cons _ q, 0 => q
  | _, _, .cons a q, k + 1 => .cons a (TpAll.erase q k)
/-- what is drawn so far -/
structure Drw (H0 H : Hp) (b D Fo : Addr) (m : Nat) (ds : List Dd9) (gs : List Gd9) : Prop where
  kp : Kp b H0 H
  bg : Bag H b m
  nDF : D ≠ Fo
  nDb : D ≠ b
  nFb : Fo ≠ b
  d0 : H0 D = none
  f0 : H0 Fo = none
  dl : ∃ dv, H D = some (.lst dv) ∧ TpAll H dv (ds.map Dd9.d)
  fl : ∃ fv, H Fo = some (.lst fv) ∧ TpAll H fv (gs.map Gd9.d)
section
variable {H0 H H1 : Hp} {b D Fo : Addr} {m m1 : Nat} {ds : List Dd9} {gs : List Gd9}
theorem Drw.same (h : Drw H0 H b D Fo m ds gs) (s : Same H H1) : Drw H0 H1 b D Fo m ds gs := by
  obtain ⟨kp, bg, n1, n2, n3, d0, f0, ⟨dv, hd, td⟩, ⟨fv, hf, tf⟩⟩ := h
  exact ⟨kp.same s, bg.same s, n1, n2, n3, d0, f0, ⟨dv, s _ _ hd, TpAll.keep (Same.tk s) _ _ td⟩, ⟨fv, s _ _ hf, TpAll.keep (Same.tk s) _ _ tf⟩⟩
theorem Drw.take (h : Drw H0 H b D Fo m ds gs) (k : Kp b H H1) (b1 : Bag H1 b m1) : Drw H0 H1 b D Fo m1 ds gs := by
  obtain ⟨kp, bg, n1, n2, n3, d0, f0, ⟨dv, hd, td⟩, ⟨fv, hf, tf⟩⟩ := h
  exact ⟨kp.trans k, b1, n1, n2, n3, d0, f0, ⟨dv, k _ _ n2 hd, TpAll.keep (k.tk bg) _ _ td⟩, ⟨fv, k _ _ n3 hf, TpAll.keep (k.tk bg) _ _ tf⟩⟩
theorem Drw.mono (h : Drw H0 H b D Fo m ds gs) (hm : m ≤ m1) : Drw H0 H b D Fo m1 ds gs := ⟨h.kp, h.bg.mono hm, h.nDF, h.nDb, h.nFb, h.d0, h.f0, h.dl, h.fl⟩
/-- a list of one's own is written -/
theorem Drw.wr (h : Drw H0 H b D Fo m ds gs) {N : Addr} {xs : List V} {o : HO} (hN : H N = some (.lst xs)) (n0 : H0 N = none) (a1 : N ≠ D) (a2 : N ≠ Fo) (a3 : N ≠ b) : Drw H0 (upd H N o) b D Fo m ds gs := by
  obtain ⟨kp, bg, n1, n2, n3, d0, f0, ⟨dv, hd, td⟩, ⟨fv, hf, tf⟩⟩ := h
  exact ⟨kp.wr n0, bg.ne a3, n1, n2, n3, d0, f0, ⟨dv, by rw [upd_ne a1.symm]; exact hd, TpAll.keep (Tk.wr hN) _ _ td⟩, ⟨fv, by rw [upd_ne a2.symm]; exact hf, TpAll.keep (Tk.wr hN) _ _ tf⟩⟩
theorem Drw.setD (h : Drw H0 H b D Fo m ds gs) {dv dv1 : List V} {ds1 : List Dd9} (hd : H D = some (.lst dv)) (t : TpAll H dv1 (ds1.map Dd9.d)) : Drw H0 (upd H D (.lst dv1)) b D Fo m ds1 gs := by
  obtain ⟨kp, bg, n1, n2, n3, d0, f0, _, ⟨fv, hf, tf⟩⟩ := h
  exact ⟨kp.wr d0, bg.ne n2, n1, n2, n3, d0, f0, ⟨dv1, upd_same, TpAll.keep (Tk.wr hd) _ _ t⟩, ⟨fv, by rw [upd_ne n1.symm]; exact hf, TpAll.keep (Tk.wr hd) _ _ tf⟩⟩
theorem Drw.setF (h : Drw H0 H b D Fo m ds gs) {fv fv1 : List V} {gs1 : List Gd9} (hf : H Fo = some (.lst fv)) (t : TpAll H fv1 (gs1.map Gd9.d)) : Drw H0 (upd H Fo (.lst fv1)) b D Fo m ds gs1 := by
  obtain ⟨kp, bg, n1, n2, n3, d0, f0, ⟨dv, hd, td⟩, _⟩ := h
  exact ⟨kp.wr f0, bg.ne n3, n1, n2, n3, d0, f0, ⟨dv, by rw [upd_ne n1]; exact hd, TpAll.keep (Tk.wr hf) _ _ td⟩, ⟨fv1, upd_same, TpAll.keep (Tk.wr hf) _ _ t⟩⟩
end
theorem lst_ne {H : Hp} {a b : Addr} {n : Nat} {zs : List Str} (h : H a = some (.lst (zs.map V.str))) (hB : Bag H b n) : a ≠ b := strs_ne_bag h hB
def spCde : Sp := fun vs H Q _ => ∃ (b la na w : Addr) (n : Nat) (av : List V) (fl : List Fl) (zs : List Str), vs = [.ref b, .ref la, .ref na, .ref w] ∧ Bag H b n ∧ n + 100 ≤ most ∧ H la = some (.lst av) ∧ la ≠ b ∧ TpAll H av (fl.map Fl.d) ∧ fl.length ≤ 6 ∧ H na = some (.lst (zs.map V.str)) ∧ zs ≠ [] ∧ zs.length ≤ 12 ∧ H w = some (.lst []) ∧ w ≠ b ∧
  ∀ (t dt fo : Addr) (fv : List V) (ds : List Dd9) (gs : List Gd9) (H' : Hp), H' t = some (.tup [.ref dt, .ref fo]) → Tp H' (.ref dt) (.tuple (ds.map Dd9.d)) → H fo = none → H' fo = some (.lst fv) → TpAll H' fv (gs.map Gd9.d) → ds.length ≤ 6 → gs.length ≤ 10 → Kp b H H' → Bag H' b (n + 40) → Q (.ref t) H'
section
variable {P : Program} {w : World} {K : PySem.W.Frag} {mg : Str → Option Value} {base : Heap}
theorem scCde : FnScope nCde pCde (defScope sCde) := ⟨rfl, rfl, rfl, by decide +kernel, rfl, by decide +kernel, by decide +kernel⟩
theorem ok_cde {f : Addr} {fd : FuncData} (F : Fun K "_law_call_deeds" "_law_call_deeds" sCde f fd) (G : Glb mg) (DT : Has P w K mg base "_law_take" 1 pTk9 spTake) : FnOk P w K mg base CX0 2 f fd pCde spCde := by
  refine F.ok scCde (fun vs H Q E h => ?_) (fun cdv A outer s H vs Q E hr h => ?_)
  · obtain ⟨b, la, na, w, n, av, fl, zs, rfl, _⟩ := h
    rfl
  · obtain ⟨b, la, na, w, n, av, fl, zs, rfl, hB, hn, hla, nla, tav, lfl, hna, zne, lzs, hw, nw, q⟩ := h
    have hm : most = 1000000 := rfl
    have nna : na ≠ b := strs_ne_bag hna hB
    have lav : av.length = fl.length := by rw [tav.length, List.length_map]
    refine ⟨_, (pss_cons (ps_par (i := 4) (j := 5) rfl scCde.nd rfl rfl (by decide) rfl rfl (pa_cons (pe_lst pa_nil) (pa_cons (pe_lst pa_nil) pa_nil)) (by rfl))
      (C8.pss_cut (ps_for PassesOwn.never rfl (pi_range1 rfl G.range (pa_cons (pe_has DT (hr.mono (by omega)) rfl (pa_cons (pv 0) (pa_cons pe_int pa_nil))) pa_nil)) (pg_name (i := 6) scCde.nd rfl (Or.inl rfl))
      (pss_one (ps_expr (pe_bm PySem.F.plainAttrs_list PySem.F.slot_list_append PySem.F.type_list_append mt_append (pv 4) (pa_cons (pe_mid (pe_ix ix_list (pe_lst (pa_cons (pe_tup (pa_cons pe_str (pa_cons pe_str (pa_cons pe_str pa_nil)))) (pa_cons (pe_tup (pa_cons pe_str (pa_cons pe_str (pa_cons pe_str (pa_cons pe_str pa_nil))))) pa_nil))) (pe_has DT (hr.mono (by omega)) rfl (pa_cons (pv 0) (pa_cons pe_int pa_nil))) (fun _ _ => rfl))) pa_nil)))))
      (pss_cons (ps_set (i := 7) scCde.nd rfl (Or.inl rfl) (pe_callTy call_list_of (by rfl) G.list (by decide +kernel) (pa_cons (pv 2) pa_nil)))
      (pss_cons (ps_if (PW.pt (pw_and (pt_cmpR (op_neM9 hr.units) (pv 3) (pe_lst pa_nil) (nomark _)) (pw_and1 (pt_cmpR op_gt (pe_has DT (hr.mono (by omega)) rfl (pa_cons (pv 0) (pa_cons pe_int pa_nil))) pe_int (nomark _)))))
      pss_never
      pss_nil)
      (pss_cons (ps_expr (pe_bm PySem.F.plainAttrs_list PySem.F.slot_list_append PySem.F.type_list_append mt_append (pv 5) (pa_cons (pe_tup (pa_cons (pe_ix ix_list (pv 7) pe_int (fun _ _ => rfl)) (pa_cons pe_str (pa_cons pe_str pa_nil)))) pa_nil)))
      (pss_cons (ps_expr (pe_bm PySem.F.plainAttrs_list PySem.F.slot_list_append PySem.F.type_list_append mt_append (pv 4) (pa_cons (pe_tup (pa_cons pe_str (pa_cons (pe_bm PySem.F.plainAttrs_list PySem.F.slot_list_pop PySem.F.type_list_pop mt_popAt (pv 7) (pa_cons pe_int pa_nil)) (pa_cons pe_str pa_nil)))) pa_nil)))
      (C8.pss_cut (ps_for PassesOwn.never rfl (pi_list (pv 1)) (pg_tup rfl (pgs_cons (pg_name (i := 11) scCde.nd rfl (Or.inl rfl)) (pgs_cons (pg_name (i := 12) scCde.nd rfl (Or.inl rfl)) (pgs_cons (pg_name (i := 13) scCde.nd rfl (Or.inl rfl)) (pgs_cons (pg_name (i := 14) scCde.nd rfl (Or.inl rfl)) pgs_nil)))))
      (pss_one (ps_if (PW.pt (pw_and (pt_cmpR op_lt (pe_callB call_len_seq (by rfl) G.len (by decide +kernel) (pa_cons (pv 4) pa_nil)) pe_int (nomark _)) (pw_and (pt_cmpR (op_neM9 hr.units) (pv 7) (pe_lst pa_nil) (nomark _)) (pw_and1 (pt_cmpR op_eq (pe_has DT (hr.mono (by omega)) rfl (pa_cons (pv 0) (pa_cons pe_int pa_nil))) pe_int (nomark _))))))
      (pss_cons (ps_expr (pe_bm PySem.F.plainAttrs_list PySem.F.slot_list_append PySem.F.type_list_append mt_append (pv 5) (pa_cons (pe_tup (pa_cons (pe_ix ix_list (pv 7) pe_int (fun _ _ => rfl)) (pa_cons (pv 13) (pa_cons (pe_mid (pe_ifExp (pt_cmpR op_eq (pv 14) pe_str (nomark _)) pe_str (pe_ix ix_list (pe_lst (pa_cons pe_str (pa_cons pe_str pa_nil))) (pe_has DT (hr.mono (by omega)) rfl (pa_cons (pv 0) (pa_cons pe_int pa_nil))) (fun _ _ => rfl)))) pa_nil)))) pa_nil)))
      (pss_one (ps_expr (pe_bm PySem.F.plainAttrs_list PySem.F.slot_list_append PySem.F.type_list_append mt_append (pv 4) (pa_cons (pe_tup (pa_cons pe_str (pa_cons (pe_bm PySem.F.plainAttrs_list PySem.F.slot_list_pop PySem.F.type_list_pop mt_popAt (pv 7) (pa_cons pe_int pa_nil)) (pa_cons (pv 12) pa_nil)))) pa_nil)))))
      pss_nil)))
      (pss_cons (ps_set (i := 15) scCde.nd rfl (Or.inl rfl) (pe_has DT (hr.mono (by omega)) rfl (pa_cons (pv 0) (pa_cons (pe_callB call_len_seq (by rfl) G.len (by decide +kernel) (pa_cons (pv 4) pa_nil)) pa_nil))))
      (C8.pss_cut (ps_if (PW.pt (pw_and (pt_cmpR op_in_seq (pe_ix ix_tup (pe_ix ix_list (pv 4) (pv 15) (fun _ _ => rfl)) pe_int (fun _ _ => rfl)) (pe_tup (pa_cons pe_str (pa_cons pe_str pa_nil))) rfl) (pw_and1 (pt_cmpR op_eq (pe_has DT (hr.mono (by omega)) rfl (pa_cons (pv 0) (pa_cons pe_int pa_nil))) pe_int (nomark _)))))
      (pss_one (ps_expr (pe_bm PySem.F.plainAttrs_list PySem.F.slot_list_append PySem.F.type_list_append mt_append (pv 4) (pa_cons (pe_bm PySem.F.plainAttrs_list PySem.F.slot_list_pop PySem.F.type_list_pop mt_popAt (pv 4) (pa_cons (pv 15) pa_nil)) pa_nil))))
      pss_nil)
      (pss_one (ps_ret (pe_tup (pa_cons (pe_callTy call_tuple_of (by rfl) G.tuple (by decide +kernel) (pa_cons (pv 4) pa_nil)) (pa_cons (pv 5) pa_nil)))))))))))))), ?_⟩
    refine ⟨Nat.zero_le _, fun D hD => ⟨Nat.zero_le _, fun Fo hFo => ⟨_, _, rfl, ?_⟩⟩⟩
    have hFo0 : H Fo = none := (Same.new hD).free hFo
    have nDF : D ≠ Fo := ne_of_none upd_same hFo
    have dr0 : Drw H (upd (upd H D (.lst [])) Fo (.lst [])) b D Fo n [] [] := ⟨(Kp.refl.new hD).new hFo, (hB.new hD).new hFo, nDF, new_ne hD hB, new_ne hFo0 hB, hD, hFo0, ⟨[], hup hFo upd_same, .nil⟩, ⟨[], upd_same, .nil⟩⟩
    generalize (upd (upd H D (.lst [])) Fo (.lst [])) = H1 at *
    refine ⟨fun σ H' => ∃ (ds : List Dd9) (a6 : Option V), σ = [some (.ref b), some (.ref la), some (.ref na), some (.ref w), some (.ref D), some (.ref Fo), a6, none, none, none, none, none, none, none, none, none] ∧ Drw H H' b D Fo (n + 5) ds [] ∧ ds.length ≤ 2, ?_, ?_⟩
    · refine ⟨_, rfl, b, 3, n, rfl, by decide, by decide, dr0.bg, by omega, fun d H2 d0 d1 k2 b2 => ?_⟩
      refine ⟨d, rfl, by omega, by omega, ?_⟩
      refine for_range (lo := 0) (n := d.toNat) (fun i σ H3 => ∃ (ds : List Dd9) (a6 : Option V), σ = [some (.ref b), some (.ref la), some (.ref na), some (.ref w), some (.ref D), some (.ref Fo), a6, none, none, none, none, none, none, none, none, none] ∧ Drw H H3 b D Fo (n + 1 + i) ds [] ∧ ds.length = i) ?_ ?_ ?_
      · exact ⟨[], _, rfl, dr0.take k2 b2, rfl⟩
      · rintro i σ H3 hi ⟨ds, a6, rfl, dr, lds⟩
        obtain ⟨dv, hdv, tdv⟩ := dr.dl
        refine ⟨_, rfl, .inl ⟨rfl, _, SqL.of hdv⟩, fun v H4 => ∃ dd : Dd9, Tp H4 v dd.d ∧ Drw H H4 b D Fo (n + 1 + (i + 1)) ds [], ?_, ?_⟩
        · refine ⟨(by show 3 ≤ sizeLine; decide), fun t1 ht1 => ⟨(by show 4 ≤ sizeLine; decide), fun t2 ht2 => ⟨(by show 2 ≤ sizeLine; decide), fun l hl => ?_⟩⟩⟩
          have S3 : Same H3 (upd (upd (upd H3 t1 (.tup [.str "add", .str "who", .str "sum"])) t2 (.tup [.str "take", .str "who", .str "sum", .str "short"])) l (.lst [.ref t1, .ref t2])) := ((Same.new ht1).trans (Same.new ht2)).trans (Same.new hl)
          have e1 : (upd (upd (upd H3 t1 (.tup [.str "add", .str "who", .str "sum"])) t2 (.tup [.str "take", .str "who", .str "sum", .str "short"])) l (.lst [.ref t1, .ref t2])) t1 = some (.tup [.str "add", .str "who", .str "sum"]) := hup hl (hup ht2 upd_same)
          have e2 : (upd (upd (upd H3 t1 (.tup [.str "add", .str "who", .str "sum"])) t2 (.tup [.str "take", .str "who", .str "sum", .str "short"])) l (.lst [.ref t1, .ref t2])) t2 = some (.tup [.str "take", .str "who", .str "sum", .str "short"]) := hup hl upd_same
          have e3 : (upd (upd (upd H3 t1 (.tup [.str "add", .str "who", .str "sum"])) t2 (.tup [.str "take", .str "who", .str "sum", .str "short"])) l (.lst [.ref t1, .ref t2])) l = some (.lst [.ref t1, .ref t2]) := upd_same
          generalize (upd (upd (upd H3 t1 (.tup [.str "add", .str "who", .str "sum"])) t2 (.tup [.str "take", .str "who", .str "sum", .str "short"])) l (.lst [.ref t1, .ref t2])) = H4 at *
          have dr4 := dr.same S3
          refine ⟨_, rfl, b, 2, _, rfl, by decide, by decide, dr4.bg, by omega, fun x H5 x0 x1 k5 b5 => ?_⟩
          have nlb : l ≠ b := fun e => by
            obtain ⟨_, _, _, z, _⟩ := dr4.bg
            rw [← e, e3] at z
            cases z
          have dr5 := dr4.take k5 b5
          have f3 := k5 _ _ nlb e3
          have tk5 := k5.tk dr4.bg
          rcases (by omega : x = 0 ∨ x = 1) with rfl | rfl
          · exact ⟨l, _, _, _, rfl, rfl, SqL.of f3, rfl, .add, .tup (tk5 _ _ e1) (.cons (.str _) (.cons (.str _) (.cons (.str _) .nil))), dr5⟩
          · exact ⟨l, _, _, _, rfl, rfl, SqL.of f3, rfl, .take, .tup (tk5 _ _ e2) (.cons (.str _) (.cons (.str _) (.cons (.str _) (.cons (.str _) .nil)))), dr5⟩
        · rintro v H4 ⟨dd, tv, dr4⟩
          obtain ⟨dv, hdv, tdv⟩ := dr4.dl
          have ldv : dv.length = ds.length := by rw [tdv.length, List.length_map]
          refine ⟨D, _, _, rfl, rfl, hdv, Nat.lt_of_le_of_lt (show dv.length ≤ 100 by omega) (by decide), ds ++ [dd], _, rfl, ?_, by rw [List.length_append, lds]; rfl⟩
          refine dr4.setD hdv ?_
          rw [List.map_append]
          exact TpAll.app tdv (TpAll.one tv)
      · rintro σ H3 ⟨ds, a6, rfl, dr, lds⟩
        exact ⟨ds, a6, rfl, dr.mono (by omega), by omega⟩
    rintro σ H2 ⟨ds, a6, rfl, dr2, lds⟩
    have hna2 := dr2.kp _ _ nna hna
    refine ⟨_, rfl, na, _, rfl, .inl (SqL.of hna2), fun N hN => ?_⟩
    have dr3 := dr2.same (Same.new (o := .lst (zs.map V.str)) hN)
    have h3N : (upd H2 N (.lst (zs.map V.str))) N = some (.lst (zs.map V.str)) := upd_same
    have nN0 : H N = none := dr2.kp.free dr2.bg.at hN
    have nNb : N ≠ b := new_ne hN dr2.bg
    have nND : N ≠ D := fun e => by
      obtain ⟨dv, hdv, _⟩ := dr2.dl
      rw [e, hdv] at hN
      cases hN
    have nNF : N ≠ Fo := fun e => by
      obtain ⟨dv, hdv, _⟩ := dr2.fl
      rw [e, hdv] at hN
      cases hN
    generalize upd H2 N (.lst (zs.map V.str)) = H3 at *
    refine ⟨_, rfl, Nat.zero_le _, fun e he => ?_⟩
    have dr4 := dr3.same (Same.new (o := .lst []) he)
    have h4N := hup (o := .lst []) he h3N
    have h4w := hup (o := .lst []) he (dr3.kp _ _ nw hw)
    refine ⟨w, e, [], rfl, rfl, SqL.of h4w, SqL.of upd_same, _, rfl, iteF ?_⟩
    generalize upd H3 e (.lst []) = H4 at *
    obtain ⟨z0, zr, rfl⟩ : ∃ z0 zr, zs = z0 :: zr := by
      cases zs with
      | nil => exact absurd rfl zne
      | cons z0 zr => exact ⟨z0, zr, rfl⟩
    -- the first field is told
    obtain ⟨fv, hfv, tfv⟩ := dr4.fl
    have lfv : fv = [] := tfv.inil
    subst lfv
    refine ⟨_, rfl, .inl ⟨rfl, _, SqL.of hfv⟩, _, rfl, N, _, _, _, rfl, rfl, SqL.of h4N, atI_nat (j := 0) rfl, (by show 3 ≤ sizeLine; decide), fun t ht => ?_⟩
    have S5 := Same.new (H := H4) (o := .tup [.str z0, .str "whole", .str "must"]) ht
    have dr5 := dr4.same S5
    have h5N := S5 _ _ h4N
    have h5F := S5 _ _ hfv
    have h5t : (upd H4 t (.tup [.str z0, .str "whole", .str "must"])) t = some (.tup [.str z0, .str "whole", .str "must"]) := upd_same
    generalize (upd H4 t (.tup [.str z0, .str "whole", .str "must"])) = H5 at *
    refine ⟨Fo, _, _, rfl, rfl, h5F, (by show 0 < sizeLine; decide), ?_⟩
    have dr6 : Drw H (upd H5 Fo (.lst ([] ++ [.ref t]))) b D Fo (n + 5) ds [⟨z0, .one .whole, true⟩] := dr5.setF h5F (.cons (.tup h5t (.cons (.str _) (.cons (.str _) (.cons (.str _) .nil)))) .nil)
    have h6N : (upd H5 Fo (.lst ([] ++ [.ref t]))) N = some (.lst ((z0 :: zr).map V.str)) := by rw [upd_ne nNF]; exact h5N
    generalize upd H5 Fo (.lst ([] ++ [.ref t])) = H6 at *
    -- and the deed that tells it
    obtain ⟨dv, hdv, tdv⟩ := dr6.dl
    refine ⟨_, rfl, .inl ⟨rfl, _, SqL.of hdv⟩, _, rfl, .inl ⟨rfl, _, SqL.of h6N⟩, N, _, 0, 0, _, rfl, rfl, h6N, by decide, by decide, seq_at9 (by decide) (by rw [List.length_map, List.length_cons]; omega), rfl, (by show 3 ≤ sizeLine; decide), fun t2 ht2 => ?_⟩
    have dr7 : Drw H (upd H6 N (.lst (((z0 :: zr).map V.str).eraseIdx 0))) b D Fo (n + 5) ds [⟨z0, .one .whole, true⟩] := dr6.wr h6N nN0 nND nNF nNb
    have h7N : (upd H6 N (.lst (((z0 :: zr).map V.str).eraseIdx 0))) N = some (.lst (zr.map V.str)) := upd_same
    generalize (upd H6 N (.lst (((z0 :: zr).map V.str).eraseIdx 0))) = H7 at *
    have S8 := Same.new (H := H7) (o := .tup [.str "tell", .str z0, .str "who"]) ht2
    have dr8 := dr7.same S8
    have h8N := S8 _ _ h7N
    have h8t : (upd H7 t2 (.tup [.str "tell", .str z0, .str "who"])) t2 = some (.tup [.str "tell", .str z0, .str "who"]) := upd_same
    generalize (upd H7 t2 (.tup [.str "tell", .str z0, .str "who"])) = H8 at *
    obtain ⟨dv8, hdv8, tdv8⟩ := dr8.dl
    have ldv8 : dv8.length = ds.length := by rw [tdv8.length, List.length_map]
    refine ⟨D, _, _, rfl, rfl, hdv8, Nat.lt_of_le_of_lt (show dv8.length ≤ 100 by omega) (by decide), ?_⟩
    have dr9 : Drw H (upd H8 D (.lst (dv8 ++ [.ref t2]))) b D Fo (n + 5) (ds ++ [.tell z0]) [⟨z0, .one .whole, true⟩] := dr8.setD hdv8 (by
      rw [List.map_append]
      exact TpAll.app tdv8 (TpAll.one (.tup h8t (.cons (.str _) (.cons (.str _) (.cons (.str _) .nil))))))
    have h9N : (upd H8 D (.lst (dv8 ++ [.ref t2]))) N = some (.lst (zr.map V.str)) := by rw [upd_ne nND]; exact h8N
    generalize (upd H8 D (.lst (dv8 ++ [.ref t2]))) = H9 at *
    have lds3 : 1 ≤ (ds ++ [Dd9.tell z0]).length ∧ (ds ++ [Dd9.tell z0]).length ≤ 3 := by
      rw [List.length_append]
      show 1 ≤ ds.length + 1 ∧ ds.length + 1 ≤ 3
      omega
    generalize ds ++ [Dd9.tell z0] = ds9 at *
    have lzr : zr.length ≤ 12 := by
      rw [List.length_cons] at lzs
      omega
    -- copies
    refine ⟨fun σ H' => ∃ (ds : List Dd9) (gs : List Gd9) (a6 a11 a12 a13 a14 : Option V), σ = [some (.ref b), some (.ref la), some (.ref na), some (.ref w), some (.ref D), some (.ref Fo), a6, some (.ref N), none, none, none, a11, a12, a13, a14, none] ∧ Drw H H' b D Fo (n + 25) ds gs ∧ 1 ≤ ds.length ∧ ds.length ≤ 6 ∧ gs.length ≤ 10, ?_, ?_⟩
    · refine ⟨_, rfl, la, rfl, ⟨_, SqL.of (dr9.kp _ _ nla hla)⟩, ?_⟩
      refine for_list (K := K) (a := la) (xs := av) (fun i σ H' => ∃ (ds : List Dd9) (gs : List Gd9) (zr : List Str) (a11 a12 a13 a14 : Option V), σ = [some (.ref b), some (.ref la), some (.ref na), some (.ref w), some (.ref D), some (.ref Fo), a6, some (.ref N), none, none, none, a11, a12, a13, a14, none] ∧ Drw H H' b D Fo (n + 5 + 2 * i) ds gs ∧ H' N = some (.lst (zr.map V.str)) ∧ zr.length ≤ 12 ∧ 1 ≤ ds.length ∧ ds.length ≤ 6 ∧ gs.length ≤ 1 + i) ?_ ?_ ?_ ?_
      · exact ⟨ds9, _, zr, _, _, _, _, rfl, dr9, h9N, lzr, lds3.1, by omega, Nat.le_refl _⟩
      · rintro i σ H3 _ ⟨_, _, _, _, _, _, _, _, dr, _⟩
        exact SqL.of (dr.kp _ _ nla hla)
      · rintro i x σ HA hx ⟨ds, gs, zr, a11, a12, a13, a14, rfl, drA, hAN, lzr, l1, l6, lgs⟩
        have hi6 : i < 6 := by
          have := (List.getElem?_eq_some_iff.mp hx).1
          omega
        obtain ⟨g, t, u, hg, rfl, ht, tu⟩ := flds_at (TpAll.keep (drA.kp.tk hB) _ _ tav) hx
        refine ⟨t, _, rfl, SqT.of ht, rfl, _, _, rfl, _, _, rfl, _, _, rfl, _, _, rfl, rfl, ?_⟩
        obtain ⟨dv, hdv, tdv⟩ := drA.dl
        have ldv : dv.length = ds.length := by rw [tdv.length, List.length_map]
        refine ⟨_, rfl, D, _, rfl, .inl (SqL.of hdv), _, _, rfl, rfl, _, rfl, ite2 (fun c1 => ?_) (fun _ => iteF ⟨ds, gs, zr, _, _, _, _, rfl, drA.mono (by omega), hAN, lzr, l1, l6, by omega⟩)⟩
        have c1' : (dv.length : Int) < 6 := of_decide_eq_true c1
        have l5 : ds.length < 6 := by omega
        refine ⟨_, rfl, Nat.zero_le _, fun e he => ?_⟩
        have SB := Same.new (H := HA) (o := .lst []) he
        have drB := drA.same SB
        have hBN := SB _ _ hAN
        have htB := SB _ _ ht
        have tuB := Tp.keep (Same.tk SB) _ _ tu
        refine ⟨N, e, _, rfl, rfl, SqL.of hBN, SqL.of upd_same, _, rfl, ?_⟩
        generalize upd HA e (.lst []) = HB at *
        cases zr with
        | nil => exact iteF (iteF ⟨ds, gs, [], _, _, _, _, rfl, drB.mono (by omega), hBN, lzr, l1, l6, by omega⟩)
        | cons z0 zr =>
          refine iteT ?_
          refine ⟨_, rfl, b, 3, _, rfl, by decide, by decide, drB.bg, by omega, fun y HC y0 y1 kC bC => ?_⟩
          have drC := drB.take kC bC
          have hCN := kC _ _ nNb hBN
          have htC := kC.tk drB.bg _ _ htB
          have tuC := Tp.keep (kC.tk drB.bg) _ _ tuB
          refine ⟨rfl, _, rfl, ite2 (fun _ => ?_) (fun _ => ⟨ds, gs, z0 :: zr, _, _, _, _, rfl, drC.mono (by omega), hCN, lzr, l1, l6, by omega⟩)⟩
          obtain ⟨fv, hfv, tfv⟩ := drC.fl
          refine ⟨_, rfl, .inl ⟨rfl, _, SqL.of hfv⟩, _, rfl, N, _, _, _, rfl, rfl, SqL.of hCN, atI_nat (j := 0) rfl, _, rfl, fun v HD => ∃ bb : Bool, v = .str (needS bb) ∧ Kp b HC HD ∧ Bag HD b (n + 5 + 2 * i + 2), ?_, ?_⟩
          · refine ⟨_, rfl, rfl, _, rfl, ite2 (fun _ => ?_) (fun _ => ?_)⟩
            · exact ⟨false, rfl, Kp.refl, drC.bg.mono (by omega)⟩
            · refine ⟨(by show 2 ≤ sizeLine; decide), fun l hl => ?_⟩
              refine ⟨_, rfl, b, 2, _, rfl, by decide, by decide, drC.bg.new hl, by omega, fun x HE x0 x1 kE bE => ?_⟩
              have eE := kE _ _ (new_ne hl drC.bg) upd_same
              rcases (by omega : x = 0 ∨ x = 1) with rfl | rfl
              · exact ⟨l, _, _, _, rfl, rfl, SqL.of eE, rfl, true, rfl, (Kp.refl.new hl).trans kE, bE⟩
              · exact ⟨l, _, _, _, rfl, rfl, SqL.of eE, rfl, false, rfl, (Kp.refl.new hl).trans kE, bE⟩
          · rintro v HD ⟨bb, rfl, kD, bD⟩
            have drD := drC.take kD bD
            have hDN := kD _ _ nNb hCN
            have tuD := Tp.keep (kD.tk drC.bg) _ _ tuC
            obtain ⟨fv, hfv, tfv⟩ := drD.fl
            have lfv : fv.length = gs.length := by rw [tfv.length, List.length_map]
            refine ⟨(by show 3 ≤ sizeLine; decide), fun t3 ht3 => ?_⟩
            have SE := Same.new (H := HD) (o := .tup [.str z0, u, .str (needS bb)]) ht3
            have drE := drD.same SE
            have hEN := SE _ _ hDN
            have hEF := SE _ _ hfv
            have tfE := TpAll.keep (Same.tk SE) _ _ tfv
            have tuE := Tp.keep (Same.tk SE) _ _ tuD
            have hEt : (upd HD t3 (.tup [.str z0, u, .str (needS bb)])) t3 = some (.tup [.str z0, u, .str (needS bb)]) := upd_same
            generalize (upd HD t3 (.tup [.str z0, u, .str (needS bb)])) = HE at *
            refine ⟨Fo, _, _, rfl, rfl, hEF, Nat.lt_of_le_of_lt (show fv.length ≤ 100 by omega) (by decide), ?_⟩
            have drF : Drw H (upd HE Fo (.lst (fv ++ [.ref t3]))) b D Fo (n + 5 + 2 * i + 2) ds (gs ++ [⟨z0, g.kd, bb⟩]) := drE.setF hEF (by
              rw [List.map_append]
              exact TpAll.app tfE (TpAll.one (.tup hEt (.cons (.str _) (.cons tuE (.cons (.str _) .nil))))))
            have hFN : (upd HE Fo (.lst (fv ++ [.ref t3]))) N = some (.lst ((z0 :: zr).map V.str)) := by rw [upd_ne nNF]; exact hEN
            generalize (upd HE Fo (.lst (fv ++ [.ref t3]))) = HF at *
            obtain ⟨dv, hdv, tdv⟩ := drF.dl
            refine ⟨_, rfl, .inl ⟨rfl, _, SqL.of hdv⟩, _, rfl, .inl ⟨rfl, _, SqL.of hFN⟩, N, _, 0, 0, _, rfl, rfl, hFN, by decide, by decide, seq_at9 (by decide) (by rw [List.length_map, List.length_cons]; omega), rfl, _, rfl, (by show 3 ≤ sizeLine; decide), fun t4 ht4 => ?_⟩
            have drG : Drw H (upd HF N (.lst (((z0 :: zr).map V.str).eraseIdx 0))) b D Fo (n + 5 + 2 * i + 2) ds (gs ++ [⟨z0, g.kd, bb⟩]) := drF.wr hFN nN0 nND nNF nNb
            have hGN : (upd HF N (.lst (((z0 :: zr).map V.str).eraseIdx 0))) N = some (.lst (zr.map V.str)) := upd_same
            generalize (upd HF N (.lst (((z0 :: zr).map V.str).eraseIdx 0))) = HG at *
            have SI := Same.new (H := HG) (o := .tup [.str "copy", .str z0, .str g.nam]) ht4
            have drI := drG.same SI
            have hIN := SI _ _ hGN
            have hIt : (upd HG t4 (.tup [.str "copy", .str z0, .str g.nam])) t4 = some (.tup [.str "copy", .str z0, .str g.nam]) := upd_same
            generalize (upd HG t4 (.tup [.str "copy", .str z0, .str g.nam])) = HI at *
            obtain ⟨dvI, hdvI, tdvI⟩ := drI.dl
            have ldvI : dvI.length = ds.length := by rw [tdvI.length, List.length_map]
            refine ⟨D, _, _, rfl, rfl, hdvI, Nat.lt_of_le_of_lt (show dvI.length ≤ 100 by omega) (by decide), ?_⟩
            refine ⟨ds ++ [.copy z0 g.nam], gs ++ [⟨z0, g.kd, bb⟩], zr, _, _, _, _, rfl, ?_, ?_, by rw [List.length_cons] at lzr; omega, by rw [List.length_append]; omega, by rw [List.length_append]; show ds.length + 1 ≤ 6; omega, by rw [List.length_append]; show gs.length + 1 ≤ 1 + (i + 1); omega⟩
            · exact (drI.setD hdvI (by
                rw [List.map_append]
                exact TpAll.app tdvI (TpAll.one (.tup hIt (.cons (.str _) (.cons (.str _) (.cons (.str _) .nil))))))).mono (by omega)
            · rw [upd_ne nND]
              exact hIN
      · rintro σ H' ⟨ds, gs, zr, a11, a12, a13, a14, rfl, dr, _, _, l1, l6, lgs⟩
        exact ⟨ds, gs, _, _, _, _, _, rfl, dr.mono (by omega), l1, l6, by omega⟩
    rintro σ HA ⟨ds, gs, b6, b11, b12, b13, b14, rfl, drA, l1, l6, lgs⟩
    obtain ⟨dv, hdv, tdv⟩ := drA.dl
    have ldv : dv.length = ds.length := by rw [tdv.length, List.length_map]
    refine ⟨_, rfl, _, rfl, D, _, rfl, .inl (SqL.of hdv), b, _, _, rfl, by omega, by omega, drA.bg, by omega, fun y HB y0 y1 kB bB => ?_⟩
    have drB := drA.take kB bB
    refine ⟨fun σ H' => ∃ (ds : List Dd9) (a6 a11 a12 a13 a14 a15 : Option V), σ = [some (.ref b), some (.ref la), some (.ref na), some (.ref w), some (.ref D), some (.ref Fo), a6, some (.ref N), none, none, none, a11, a12, a13, a14, a15] ∧ Drw H H' b D Fo (n + 30) ds gs ∧ ds.length ≤ 6, ?_, ?_⟩
    · obtain ⟨dvB, hdvB, tdvB⟩ := drB.dl
      have ldvB : dvB.length = ds.length := by rw [tdvB.length, List.length_map]
      obtain ⟨v, ev, ev2, hv⟩ := atI_in (xs := dvB) (i := y) y0 (by omega)
      obtain ⟨dd, hd1, td⟩ := tdvB.get' ev2
      obtain ⟨d1, hd2, rfl⟩ : ∃ d1, ds[y.toNat]? = some d1 ∧ dd = d1.d := by
        rw [List.getElem?_map] at hd1
        cases e : ds[y.toNat]? with
        | none => rw [e] at hd1; cases hd1
        | some d1 => rw [e] at hd1; exact ⟨d1, rfl, (Option.some.inj hd1).symm⟩
      obtain ⟨t, rfl, ht⟩ := Dd9.inv td
      refine ⟨_, rfl, _, rfl, D, _, _, _, rfl, rfl, SqL.of hdvB, ev, t, _, _, _, rfl, rfl, SqT.of ht, (by cases d1 <;> rfl : atI (d1.ps.map V.str) 0 = some (.str (d1.ps.headD ""))), (by show 2 ≤ sizeLine; decide), fun t2 ht2 => ?_⟩
      have SC := Same.new (H := HB) (o := .tup [.str "add", .str "take"]) ht2
      have drC := drB.same SC
      have hCD := SC _ _ hdvB
      have hCt : (upd HB t2 (.tup [.str "add", .str "take"])) t2 = some (.tup [.str "add", .str "take"]) := upd_same
      have tdC := TpAll.keep (Same.tk SC) _ _ tdvB
      generalize (upd HB t2 (.tup [.str "add", .str "take"])) = HC at *
      refine ⟨t2, _, rfl, .inr (SqT.of hCt), rfl, rfl, _, rfl, ite2 (fun _ => ?_) (fun _ => iteF ⟨ds, _, _, _, _, _, _, rfl, drC.mono (by omega), l6⟩)⟩
      refine ⟨_, rfl, b, 2, _, rfl, by decide, by decide, drC.bg, by omega, fun x HE x0 x1 kE bE => ?_⟩
      have drE := drC.take kE bE
      have hED := kE _ _ drC.nDb hCD
      have tdE := TpAll.keep (kE.tk drC.bg) _ _ tdC
      refine ⟨rfl, _, rfl, ite2 (fun _ => ?_) (fun _ => ⟨ds, _, _, _, _, _, _, rfl, drE.mono (by omega), l6⟩)⟩
      have tt : Tp HE (.ref t) d1.d := by
        obtain ⟨d', h1, h2⟩ := tdE.get' ev2
        rw [List.getElem?_map, hd2] at h1
        cases h1
        exact h2
      refine ⟨_, rfl, .inl ⟨rfl, _, SqL.of hED⟩, _, rfl, .inl ⟨rfl, _, SqL.of hED⟩, _, rfl, D, _, y, y.toNat, _, rfl, rfl, hED, by omega, by omega, ?_, ev2, D, _, _, rfl, rfl, upd_same, ?_, ?_⟩
      · exact seq_at9 y0 (by omega)
      · rw [List.length_eraseIdx]
        refine Nat.lt_of_le_of_lt (show _ ≤ 100 from ?_) (by decide)
        split <;> omega
      · rw [upd_upd]
        refine ⟨ds.eraseIdx y.toNat ++ [d1], _, _, _, _, _, _, rfl, (drE.setD hED ?_).mono (by omega), ?_⟩
        · rw [List.map_append]
          refine TpAll.app ?_ (TpAll.one tt)
          rw [map_erase9]
          exact tdE.erase _
        · rw [List.length_append, List.length_eraseIdx]
          have := (List.getElem?_eq_some_iff.mp hd2).1
          rw [if_pos this]
          show ds.length - 1 + 1 ≤ 6
          omega
    rintro σ HC ⟨ds, c6, c11, c12, c13, c14, c15, rfl, drC, l6⟩
    obtain ⟨dvC, hdvC, tdvC⟩ := drC.dl
    obtain ⟨fvC, hfvC, tfvC⟩ := drC.fl
    refine ⟨_, rfl, D, _, rfl, .inl ⟨SqL.of hdvC, fun T hT => ⟨_, rfl, (by show 2 ≤ sizeLine; decide), fun t ht => ?_⟩⟩⟩
    have S1 := Same.new (H := HC) (o := .tup dvC) hT
    have S2 := Same.new (H := upd HC T (.tup dvC)) (o := .tup [.ref T, .ref Fo]) ht
    have S := S1.trans S2
    exact q t T Fo fvC ds gs _ upd_same (.tup (S2 _ _ upd_same) (TpAll.keep (Same.tk S) _ _ tdvC)) hFo0 (S _ _ hfvC) (TpAll.keep (Same.tk S) _ _ tfvC) l6 lgs (drC.kp.same S) ((drC.bg.same S).mono (by omega))
end
end Fh

set_option Elab.async false
set_option linter.all false
set_option maxRecDepth 100000
set_option maxHeartbeats 4000000
namespace Fh
open PySem PySem.Spec PyProof.Rows L2
/-! ### zip of three: two lists and a range, or two lists and a text -/
section
variable {prog : Program} {w : World} {A : Around}
theorem draws_range (hh : A.handled = none) (it : Addr) (n : Nat) :
    Draws prog w A it [it] n (fun i v => ∃ t, v = .int (0 + (i : Nat) * 1) t) (fun i h => IsRangeIter h it (0 + (i : Nat) * 1) ((n : Int) - (i : Nat)) 1) where
  live := fun _ _ st => ⟨_, st⟩
  frame := fun _ _ _ st hk => hk it (by simp) _ st
  item := fun i s Q E hi st hQ => by
    unfold Builtin.SmallTypes.nextOf
    refine wpAny_bind (CpRep.range_item st (by omega) fun h' st' sb => ?_)
    refine wpAny_pure (hQ _ h' _ ⟨_, rfl⟩ ?_ sb)
    have e1 : (0 : Int) + ((i + 1 : Nat) : Int) * 1 = 0 + (i : Nat) * 1 + 1 := by omega
    have e2 : (n : Int) - ((i + 1 : Nat) : Int) = (n : Int) - (i : Nat) - 1 := by omega
    rw [e1, e2]
    exact st'
  done := fun s Q E st hE => by
    unfold Builtin.SmallTypes.nextOf
    refine wpAny_bind (CpRep.range_end hh st (by omega) fun e h' he hk => ?_)
    obtain ⟨a, o, _, rfl, ho, hc, _⟩ := he
    exact hE h' a hk ⟨o, ho, hc⟩
theorem begins_range (r : Addr) (n : Int) (t u v : Tok) (hs : Builtin.Range.small 0 n 1 = true) : Begins (.ref r) { cls := .type "range_iterator", data := .fields #[rawInt 0, rawInt (Builtin.Range.rangeSize 0 n 1), rawInt 1] } (fun h => IsRange h r 0 n 1 t u v) where
  iter := fun prog w A E s Q hr h => wpAny_pyIter_range hr hs h
  keeps := fun h h' x hk => hk r _ x
  free := rfl
end
/-- what an iterator of a zip is over: its own record it, the things that H tells -/
structure Src (P : Program) (w : World) (K : PySem.W.Frag) (it : Addr) (n : Nat) (G : Hp → Prop) (f : Nat → Option V) (St : Nat → Heap → Prop) : Prop where
  obj : ∀ i h, St i h → ∃ o, h.get? it = some o ∧ ∀ v, o.data ≠ .cell v
  keep : ∀ i h h', St i h → (∀ o, h.get? it = some o → h'.get? it = some o) → St i h'
  draws : ∀ (X : Cx), X.prog = P → X.w = w → X.K = K → X.A.in1.handled = none → ∀ pins s σ H, Inv X pins σ H s → H it = none → G H → ∃ fp Pv St', Draws P w X.A.in1 it fp n Pv St' ∧ it ∈ fp ∧ (∀ b ∈ fp, b = it ∨ H b ≠ none) ∧
    (∀ i, St i s.heap → St' i s.heap) ∧ (∀ i h, St' i h → St i h) ∧ ∀ i u, Pv i u → ∃ x, f i = some x ∧ RelV x u
theorem src_list {P : Program} {w : World} {K : PySem.W.Frag} (it a : Addr) (xs : List V) : Src P w K it xs.length (fun H => H a = some (.lst xs)) (fun i => xs[i]?) (fun i h => h.IsListIter it a i) where
  obj := fun i h ⟨o, ho, _, hd⟩ => ⟨o, ho, fun v q => by rw [hd] at q; cases q⟩
  keep := fun i h h' st k => st.at fun o q => k o q
  draws := fun X hP hw hK hh pins s σ H I hn hq => by
    subst hP hw hK
    obtain ⟨its, rv, p, _⟩ := I.list (SqL.of hq)
    have hlen : its.toArray.size = xs.length := by rw [List.size_toArray]; exact rv.length.symm
    have ne : a ≠ it := fun e => by
      rw [e, hn] at hq
      cases hq
    have D := PySem.Draws.list (prog := X.prog) (w := X.w) (A := X.A.in1) hh it a ne its.toArray
    rw [hlen] at D
    refine ⟨_, _, _, D, by simp, fun b hb => ?_, fun i st => ⟨st, p.isList⟩, fun i h st => st.1, fun i u hu => ?_⟩
    · rcases List.mem_cons.mp hb with rfl | hb
      · exact .inl rfl
      · rw [List.mem_singleton.mp hb]
        exact .inr (by rw [hq]; exact fun z => nomatch z)
    · have hu' : its.toArray[i]? = some u := hu
      rw [List.getElem?_toArray] at hu'
      have hlt : i < xs.length := by rw [rv.length]; exact (List.getElem?_eq_some_iff.mp hu').1
      obtain ⟨u2, hu2, r2⟩ := rv.get (List.getElem?_eq_getElem hlt)
      rw [hu2] at hu'
      cases hu'
      exact ⟨_, List.getElem?_eq_getElem hlt, r2⟩
theorem src_range {P : Program} {w : World} {K : PySem.W.Frag} (it : Addr) (n : Nat) : Src P w K it n (fun _ => True) (fun i => some (.int (i : Nat))) (fun i h => IsRangeIter h it (0 + (i : Nat) * 1) ((n : Int) - (i : Nat)) 1) where
  obj := fun i h st => ⟨_, st, fun v q => nomatch q⟩
  keep := fun i h h' st k => k _ st
  draws := fun X hP hw hK hh pins s σ H I hn hq => by
    subst hP hw hK
    refine ⟨_, _, _, draws_range hh it n, by simp, fun b hb => .inl (List.mem_singleton.mp hb), fun i st => st, fun i h st => st, fun i u ⟨t, e⟩ => ⟨_, rfl, ?_⟩⟩
    subst e
    have e1 : (0 : Int) + ((i : Nat) : Int) * 1 = (i : Nat) := by omega
    rw [e1]
    exact ⟨t, rfl⟩
theorem src_text {P : Program} {w : World} {K : PySem.W.Frag} (it : Addr) (x : Str) (t : Tok) : Src P w K it x.cps.size (fun _ => True) (fun i => (x.cps[i]?).map fun c => .str ⟨#[c]⟩) (fun i h => h.IsStrIter it (strIterType x) x t i) where
  obj := fun i h ⟨o, ho, _, hd⟩ => ⟨o, ho, fun v q => by rw [hd] at q; cases q⟩
  keep := fun i h h' ⟨o, ho, hc⟩ k => ⟨o, k o ho, hc⟩
  draws := fun X hP hw hK hh pins s σ H I hn hq => by
    subst hP hw hK
    refine ⟨_, _, _, PySem.Draws.text (prog := X.prog) (w := X.w) (A := X.A.in1) hh it x t, by simp, fun b hb => .inl (List.mem_singleton.mp hb), fun i st => st, fun i h st => st, fun i u ⟨c, tk, hc, e⟩ => ?_⟩
    subst e
    exact ⟨.str ⟨#[c]⟩, by rw [hc]; rfl, ⟨tk, rfl⟩⟩
/-- three at a time, in a new tuple -/
def It3 (G : Hp → Prop) (n : Nat) (f1 f2 f3 : Nat → Option V) : It :=
  ⟨fun i H => G H ∧ i < n, fun i H v H' => ∃ T x y z, v = .ref T ∧ H T = none ∧ H' = upd H T (.tup [x, y, z]) ∧ f1 i = some x ∧ f2 i = some y ∧ f3 i = some z, fun i H => G H ∧ i = n⟩
def YTri (f1 f2 f3 : Nat → Option V) : Nat → Hp → V → Hp → Prop := fun i H v H' => ∃ T x y z, v = .ref T ∧ H T = none ∧ H' = upd H T (.tup [x, y, z]) ∧ f1 i = some x ∧ f2 i = some y ∧ f3 i = some z
theorem walk_3 {G : Hp → Prop} {n : Nat} {f1 f2 f3 : Nat → Option V} : Walk (It3 G n f1 f2 f3) n G (YTri f1 f2 f3) :=
  ⟨fun i H hi q => ⟨q, hi⟩, fun H q => ⟨q, rfl⟩, fun i H x H' hi q y => y⟩
section
variable {P : Program} {w : World} {K : PySem.W.Frag} {elts : List Expr} {kk : Nat} {tpos : Pos} {z TI TO i1 i2 i3 : Addr} {n n1 n2 n3 : Nat} {G1 G2 G3 : Hp → Prop} {f1 f2 f3 : Nat → Option V} {St1 St2 St3 : Nat → Heap → Prop}
theorem turn_3 (D : [z, TI, TO, i1, i2, i3].Nodup) (S1 : Src P w K i1 n1 G1 f1 St1) (S2 : Src P w K i2 n2 G2 f2 St2) (S3 : Src P w K i3 n3 G3 f3 St3) (h1 : n ≤ n1) (h2 : n ≤ n2) (h3 : n ≤ n3) (hn : n = n1 ∨ n = n2 ∨ n = n3) :
    Turn P w K (.Tuple elts kk tpos) (It3 (fun H => G1 H ∧ G2 H ∧ G3 H) n f1 f2 f3) [z, TI, TO, i1, i2, i3] z (fun i h => IsZip h z TI TO .none ∧ IsTupOf3 h TI (.ref i1) (.ref i2) (.ref i3) ∧ (∃ a b c, IsTupOf3 h TO a b c) ∧ St1 i h ∧ St2 i h ∧ St3 i h) where
  mem := List.mem_cons_self
  obj := fun i h ⟨hz, hTI, ⟨a, b, c, hTO⟩, s1, s2, s3⟩ d hd => by
    have e : d = z ∨ d = TI ∨ d = TO ∨ d = i1 ∨ d = i2 ∨ d = i3 := by simpa using hd
    rcases e with rfl | rfl | rfl | rfl | rfl | rfl
    · exact ⟨_, hz, fun v q => nomatch q⟩
    · exact ⟨_, hTI, fun v q => nomatch q⟩
    · exact ⟨_, hTO, fun v q => nomatch q⟩
    · exact S1.obj _ _ s1
    · exact S2.obj _ _ s2
    · exact S3.obj _ _ s3
  keep := fun i h h' ⟨hz, hTI, ⟨a, b, c, hTO⟩, s1, s2, s3⟩ k =>
    ⟨k z (by simp) _ hz, k TI (by simp) _ hTI, ⟨a, b, c, k TO (by simp) _ hTO⟩, S1.keep _ _ _ s1 (k i1 (by simp)), S2.keep _ _ _ s2 (k i2 (by simp)), S3.keep _ _ _ s3 (k i3 (by simp))⟩
  item := by
    intro X hP hw hK hc i pins s σ H E I hf ⟨hz, hTI, ⟨a, b, c, hTO⟩, s1, s2, s3⟩ ⟨⟨g1, g2, g3⟩, hlt⟩
    have hh : X.A.in1.handled = none := by simpa using I.ok.hd hc
    have fr : ∀ d ∈ [z, TI, TO, i1, i2, i3], H d = none := fun d hd => (hf d hd).1
    obtain ⟨fp1, P1, T1, D1, m1, o1, in1, ou1, v1⟩ := S1.draws X hP hw hK hh pins s σ H I (fr i1 (by simp)) g1
    obtain ⟨fp2, P2, T2, D2, m2, o2, in2, ou2, v2⟩ := S2.draws X hP hw hK hh pins s σ H I (fr i2 (by simp)) g2
    obtain ⟨fp3, P3, T3, D3, m3, o3, in3, ou3, v3⟩ := S3.draws X hP hw hK hh pins s σ H I (fr i3 (by simp)) g3
    subst hP hw hK
    simp only [List.nodup_cons, List.mem_cons, List.not_mem_nil, or_false, not_or] at D
    obtain ⟨⟨d1, d2, d3, d4, d5⟩, ⟨d6, d7, d8, d9⟩, ⟨d10, d11, d12⟩, ⟨d13, d14⟩, d15, _⟩ := D
    have off : ∀ {fp : List Addr} {it d : Addr}, (∀ b ∈ fp, b = it ∨ H b ≠ none) → H d = none → d ≠ it → d ∉ fp := fun o hd ne hm => by
      rcases o _ hm with e | e
      · exact ne e
      · exact e hd
    have Z : ZipSep3 z TI TO i1 i2 i3 fp1 fp2 fp3 := ⟨Ne.symm d1, Ne.symm d2, d6, d7, m1, off o1 (fr z (by simp)) d3, off o1 (fr TO (by simp)) d10, d8, m2, off o2 (fr z (by simp)) d4, off o2 (fr TO (by simp)) d11, d9, m3, off o3 (fr z (by simp)) d5, off o3 (fr TO (by simp)) d12,
      off o2 (fr i1 (by simp)) d13, off o3 (fr i1 (by simp)) d14, off o1 (fr i2 (by simp)) (Ne.symm d13), off o3 (fr i2 (by simp)) d15, off o1 (fr i3 (by simp)) (Ne.symm d14), off o2 (fr i3 (by simp)) (Ne.symm d15)⟩
    have hzl : z < s.heap.objs.size := Heap.lt_size hz
    refine wpAny_pyNext_zipD3_item Z D1 D2 D3 hz hTI hTO (in1 i s1) (in2 i s2) (in3 i s3) (by omega) (by omega) (by omega) fun x1 x2 x3 h' tk p1 p2 p3 z' TO' t1 t2 t3 hT hsz hk => ?_
    refine ⟨_, rfl, wpAny_letOwnedTupleGo_zip (s := { s with heap := h', toks := tk }) z' fun h'' z'' sb => ?_⟩
    obtain ⟨y1, fy1, r1⟩ := v1 i x1 p1
    obtain ⟨y2, fy2, r2⟩ := v2 i x2 p2
    obtain ⟨y3, fy3, r3⟩ := v3 i x3 p3
    have hT2 : h''.get? s.heap.objs.size = some { cls := .type "tuple", data := .seq #[x1, x2, x3] } := (sb.2 _ (Nat.ne_of_gt hzl)).trans hT
    have I1 : Inv X pins σ (upd H s.heap.objs.size (.tup [y1, y2, y3])) { s with heap := h'', toks := tk } :=
      I.turnedNew (t' := tk) (ch := [z, TI, TO, i1, i2, i3]) (fun c o hb q => (sb.2 c (fun q' => hb (by simp [q']))).trans (hk c o (fun q' => hb (by simp [q'])) (fun q' => hb (by simp [q'])) (fun q' => hb (by simp [q'])) (fun q' => hb (by simp [q'])) (fun q' => hb (by simp [q'])) q)) hf (Nat.le_refl _)
        ⟨by show 3 ≤ sizeLine; decide, [x1, x2, x3], .cons r1 (.cons r2 (.cons r3 .nil)), ⟨_, hT2, rfl, _, rfl⟩⟩
    refine ⟨.ref s.heap.objs.size, _, I1, rfl, ⟨_, y1, y2, y3, rfl, I.hok.fresh (Nat.le_refl _), rfl, fy1, fy2, fy3⟩, ⟨z'', ?_, ⟨x1, x2, x3, ?_⟩, ?_, ?_, ?_⟩, fun c hcm => ?_⟩
    · exact (sb.2 _ (Ne.symm d1)).trans (hk _ _ (Ne.symm d1) d6 d7 d8 d9 hTI)
    · exact (sb.2 _ (Ne.symm d2)).trans TO'
    · exact S1.keep _ _ _ (ou1 _ _ t1) fun o q => (sb.2 _ (Ne.symm d3)).trans q
    · exact S2.keep _ _ _ (ou2 _ _ t2) fun o q => (sb.2 _ (Ne.symm d4)).trans q
    · exact S3.keep _ _ _ (ou3 _ _ t3) fun o q => (sb.2 _ (Ne.symm d5)).trans q
    · have hlt : c < s.heap.objs.size := by
        have e : c = z ∨ c = TI ∨ c = TO ∨ c = i1 ∨ c = i2 ∨ c = i3 := by simpa using hcm
        rcases e with q | q | q | q | q | q
        · rw [q]; exact hzl
        · rw [q]; exact Heap.lt_size hTI
        · rw [q]; exact Heap.lt_size hTO
        · rw [q]; obtain ⟨_, e, _⟩ := S1.obj _ _ s1; exact Heap.lt_size e
        · rw [q]; obtain ⟨_, e, _⟩ := S2.obj _ _ s2; exact Heap.lt_size e
        · rw [q]; obtain ⟨_, e, _⟩ := S3.obj _ _ s3; exact Heap.lt_size e
      rw [upd_ne (Nat.ne_of_lt hlt)]
      exact (hf c hcm).1
  done := by
    intro X hP hw hK hc i pins s σ H E I hf ⟨hz, hTI, ⟨a, b, c, hTO⟩, s1, s2, s3⟩ ⟨⟨g1, g2, g3⟩, hlt⟩
    have hh : X.A.in1.handled = none := by simpa using I.ok.hd hc
    have fr : ∀ d ∈ [z, TI, TO, i1, i2, i3], H d = none := fun d hd => (hf d hd).1
    obtain ⟨fp1, P1, T1, D1, m1, o1, in1, ou1, v1⟩ := S1.draws X hP hw hK hh pins s σ H I (fr i1 (by simp)) g1
    obtain ⟨fp2, P2, T2, D2, m2, o2, in2, ou2, v2⟩ := S2.draws X hP hw hK hh pins s σ H I (fr i2 (by simp)) g2
    obtain ⟨fp3, P3, T3, D3, m3, o3, in3, ou3, v3⟩ := S3.draws X hP hw hK hh pins s σ H I (fr i3 (by simp)) g3
    subst hP hw hK
    simp only [List.nodup_cons, List.mem_cons, List.not_mem_nil, or_false, not_or] at D
    obtain ⟨⟨d1, d2, d3, d4, d5⟩, ⟨d6, d7, d8, d9⟩, ⟨d10, d11, d12⟩, ⟨d13, d14⟩, d15, _⟩ := D
    have off : ∀ {fp : List Addr} {it d : Addr}, (∀ b ∈ fp, b = it ∨ H b ≠ none) → H d = none → d ≠ it → d ∉ fp := fun o hd ne hm => by
      rcases o _ hm with e | e
      · exact ne e
      · exact e hd
    have Z : ZipSep3 z TI TO i1 i2 i3 fp1 fp2 fp3 := ⟨Ne.symm d1, Ne.symm d2, d6, d7, m1, off o1 (fr z (by simp)) d3, off o1 (fr TO (by simp)) d10, d8, m2, off o2 (fr z (by simp)) d4, off o2 (fr TO (by simp)) d11, d9, m3, off o3 (fr z (by simp)) d5, off o3 (fr TO (by simp)) d12,
      off o2 (fr i1 (by simp)) d13, off o3 (fr i1 (by simp)) d14, off o1 (fr i2 (by simp)) (Ne.symm d13), off o3 (fr i2 (by simp)) d15, off o1 (fr i3 (by simp)) (Ne.symm d14), off o2 (fr i3 (by simp)) (Ne.symm d15)⟩
    exact wpAny_pyNext_zipD3_end Z D1 D2 D3 hz hTI hTO (in1 i s1) (in2 i s2) (in3 i s3) (by omega) (by omega) (by omega) (by omega) fun h' tk hk => ⟨rfl, I.turnedL (t' := tk) (ch := [z, TI, TO, i1, i2, i3]) (fun c o hb q =>
      hk c o (fun q' => hb (by simp [q'])) (fun q' => hb (by simp [q'])) (fun q' => hb (by simp [q'])) (fun q' => hb (by simp [q'])) (fun q' => hb (by simp [q'])) q) hf⟩
  self := fun A i s Q E st h => wpAny_pyIter_zip st.1 h
end
/-- zip(list, list, range(n)) -/
def iZip3r (ta tb tc : TE) : TI := fun σ H R => ta σ H fun v1 H1 => tb σ H1 fun v2 H2 => tc σ H2 fun v3 H3 => ∃ (a b : Addr) (xs ys : List V) (n : Int), v1 = .ref a ∧ v2 = .ref b ∧ v3 = .int n ∧ 0 ≤ n ∧ n < 2 ^ 62 ∧ H3 a = some (.lst xs) ∧ H3 b = some (.lst ys) ∧
  R (It3 (fun H => H a = some (.lst xs) ∧ H b = some (.lst ys) ∧ True) (min (min xs.length ys.length) n.toNat) (fun i => xs[i]?) (fun i => ys[i]?) (fun i => some (.int (i : Nat)))) H3
theorem nd6 (m : Nat) : [m + 5, m + 3, m + 4, m, m + 1, m + 2].Nodup := by
  simp only [List.nodup_cons, List.mem_cons, List.not_mem_nil, or_false, not_or, not_false_eq_true, List.nodup_nil, and_true]
  omega
theorem pi_zip3r {X : Cx} {e1 e2 e3 : Expr} {ta tb tc : TE} {p p2 pos pos2 tpos : Pos} {elts : List Expr} {kk : Nat} (hg : Gl X "zip") (hm : X.mg "zip" = none) (hg2 : Gl X "range") (hm2 : X.mg "range" = none) (h1 : PE X e1 ta) (h2 : PE X e2 tb) (h3 : PE X e3 tc)
    (hs : starEach [e1, e2, .Call (.Name "range" p2) [e3] [] pos2] X.env = (false, eval e1 X.env) :: starEach [e2, .Call (.Name "range" p2) [e3] [] pos2] X.env := by rfl)
    (hs2 : starEach [e2, .Call (.Name "range" p2) [e3] [] pos2] X.env = [(false, eval e2 X.env), (false, eval (.Call (.Name "range" p2) [e3] [] pos2) X.env)] := by rfl) (hs3 : starEach [e3] X.env = [(false, eval e3 X.env)] := by rfl) :
    PI X (.Tuple elts kk tpos) (.Call (.Name "zip" p) [e1, e2, .Call (.Name "range" p2) [e3] [] pos2] [] pos) (iZip3r ta tb tc) := by
  refine ⟨fun pins s σ H R I h => ?_⟩
  refine Call_ (ld_blt I hg hm PyProof.Rows.boot_zip (PyProof.Rows.callWith_type1 ?_ hs (by rw [hs2]; rfl)))
  rw [hs, hs2]
  refine Calls.spliced_cons (thn (h1.run pins s σ H _ I h) fun u1 s1 ⟨v1, H1, I1, r1, q1⟩ => ?_)
  refine Calls.spliced_cons (thn (h2.run pins s1 σ H1 _ I1 q1) fun u2 s2 ⟨v2, H2, I2, r2, q2⟩ => ?_)
  refine Calls.spliced_cons ?_
  refine Call_ (ld_blt I2 hg2 hm2 boot_range (PyProof.Rows.callWith_type1 ?_ hs3 rfl))
  rw [hs3]
  refine Calls.spliced_cons (thn (h3.run pins s2 σ H2 _ I2 q2) fun u3 s3 ⟨v3, H3, I3, r3, q3⟩ => Calls.spliced_nil ?_)
  obtain ⟨a, b, xs, ys, n, e1, e2, e3, n0, n1, ha, hb, q⟩ := q3
  subst e1 e2 e3
  obtain ⟨t, rfl⟩ := r3
  cases (show u1 = Value.ref a from r1)
  cases (show u2 = Value.ref b from r2)
  refine call_range_1 (Calls.spliced_nil ?_)
  have I4 : Inv X pins σ H3 { s3 with heap := s3.heap.push { cls := .type "range", data := .fields #[.int 0 s3.toks, .int n t, .int 1 (s3.toks + 1)] }, toks := s3.toks + 1 + 1 } := I3.kept fun b o e => Heap.get?_push_of_some _ e
  have rg : IsRange (s3.heap.push { cls := .type "range", data := .fields #[.int 0 s3.toks, .int n t, .int 1 (s3.toks + 1)] }) s3.heap.objs.size 0 n 1 s3.toks t (s3.toks + 1) := IsRange.new ..
  generalize (s3.heap.push { cls := .type "range", data := .fields #[.int 0 s3.toks, .int n t, .int 1 (s3.toks + 1)] }) = h4 at *
  generalize s3.heap.objs.size = r at *
  obtain ⟨its, rv, pa, _⟩ := I4.list (SqL.of ha)
  obtain ⟨its2, rv2, pb, _⟩ := I4.list (SqL.of hb)
  have sm : Builtin.Range.small 0 n 1 = true := small_one (by decide) (by decide) (by omega) n1
  refine zip_begins3 (s := { s3 with heap := h4, toks := s3.toks + 1 + 1 }) (begins_list a its.toArray) (begins_list b its2.toArray) (begins_range r n s3.toks t (s3.toks + 1) sm) pa.isList pb.isList rg fun h' hz hTI hTO g1 g2 g3 hsz hk => wpAny_pyIter_zip hz ?_
  have I5 : Inv X pins σ H3 { s3 with heap := h', toks := s3.toks + 1 + 1 } := I4.kept (t' := s3.toks + 1 + 1) hk
  have rsz : Builtin.Range.rangeSize 0 n 1 = ((n.toNat : Nat) : Int) := by rw [rangeSize_one]; split <;> omega
  refine ⟨h4.objs.size + 5, [h4.objs.size + 5, h4.objs.size + 3, h4.objs.size + 4, h4.objs.size, h4.objs.size + 1, h4.objs.size + 2], _, _, H3, rfl, I5,
    turn_3 (n := min (min xs.length ys.length) n.toNat) (nd6 _) (src_list _ a xs) (src_list _ b ys) (src_range _ n.toNat) (by omega) (by omega) (by omega) (by omega), ⟨hz, hTI, ⟨_, _, _, hTO⟩, ?_, ?_, ?_⟩, fun c hc => ?_, q⟩
  · exact ⟨_, g1, rfl, rfl⟩
  · exact ⟨_, g2, rfl, rfl⟩
  · have e1 : (0 : Int) + ((0 : Nat) : Int) * 1 = 0 := by decide
    have e2 : ((n.toNat : Nat) : Int) - ((0 : Nat) : Int) = ((n.toNat : Nat) : Int) := by omega
    rw [e1, e2, ← rsz]
    exact g3
  · have hle : h4.objs.size ≤ c := by
      have e : c = h4.objs.size + 5 ∨ c = h4.objs.size + 3 ∨ c = h4.objs.size + 4 ∨ c = h4.objs.size ∨ c = h4.objs.size + 1 ∨ c = h4.objs.size + 2 := by simpa using hc
      rcases e with z | z | z | z | z | z
      · rw [z]; exact Nat.le_add_right _ _
      · rw [z]; exact Nat.le_add_right _ _
      · rw [z]; exact Nat.le_add_right _ _
      · rw [z]; exact Nat.le_refl _
      · rw [z]; exact Nat.le_add_right _ _
      · rw [z]; exact Nat.le_add_right _ _
    exact I4.fpOk hle (I4.hok.fresh hle)
end Fh

set_option Elab.async false
set_option linter.all false
set_option maxRecDepth 100000
set_option maxHeartbeats 4000000
namespace Fh
open PySem L2 PyProof.Rows
abbrev sSrv : Stmt := top 35
abbrev nSrv : List Str := ["_law_bag_here", "_law_name_here", "_law_edition", "_law_below", "_law_many", "_law_words", "_law_picks_here", "_law_rows", "_law_acts", "_law_figure", "_law_word", "_law_at", "_law_ask", "_law_answer", "_law_size", "_law_names_here", "_law_asks", "_law_own", "_law_field", "_law_kind", "_law_need", "_law_deeds", "_law_sets", "_law_tells", "_law_one"]
abbrev pSrv : List Str := ["_law_bag_here", "_law_name_here", "_law_edition", "_law_below"]
abbrev pNm9 : List Str := ["_law_bag_here", "_law_size", "_law_taken"]
/-- a short text of plain signs -/
def Shs (z : Str) : Prop := z.length ≤ 20 ∧ ∀ c ∈ z.cps.toList, c < 128
theorem nm_shs {z : Str} (h : Nm z) : Shs z := ⟨Nat.le_trans h.hi (by decide), fun d hd => by have := h.sg d hd; unfold Lt at this; omega⟩
/-- the fields of an ask -/
structure AskOk9 (cs : Opts9) (fl : List Fl) : Prop where
  nd : (fl.map Fl.nam).Nodup
  who : ("who" : Str) ∈ fl.map Fl.nam
  sum : ("sum" : Str) ∈ fl.map Fl.nam
  kw : ∀ f ∈ fl, f.nam = "who" → f.kd = .one .text ∧ f.must = true
  ks : ∀ f ∈ fl, f.nam = "sum" → f.kd = .one .whole ∧ f.must = true
  gk : ∀ f ∈ fl, GK9 ((cs.map pckD).map Prod.fst) f.kd
  l : fl.length ≤ 5
  sn : ∀ z ∈ fl.map Fl.nam, Shs z
/-- a served face's parts -/
structure Srv9 where
  cs : Opts9
  rows : List (Str × PyData)
  cl : List Cl9
def Srv9.d (S : Srv9) (nm : Str) (ed : Int) : PyData := .tuple [.str nm, .int ed, rowsD (S.cs.map pckD), rowsD S.rows, .tuple (S.cl.map Cl9.d)]
def ClOk9 (cs : Opts9) (rows : List (Str × PyData)) (c : Cl9) : Prop := c.ds.length ≤ 6 ∧ ∃ fl : List Fl, (c.ask, PyData.tuple (fl.map Fl.d)) ∈ rows ∧ AskOk9 cs fl
structure SrvOk9 (S : Srv9) : Prop where
  pk : PckOk S.cs
  ne : S.cl ≠ []
  l3 : S.cl.length ≤ 3
  nd : (S.rows.map Prod.fst).Nodup
  nmr : ∀ r ∈ S.rows, Nm r.1
  ok : ∀ c ∈ S.cl, ClOk9 S.cs S.rows c
/-- what is drawn so far: rows at R, calls at D -/
structure SrvI (H0 H : Hp) (b w wo pk R D : Addr) (m : Nat) (ys : List Str) (pv : List V) (cs : Opts9) (rows : List (Str × PyData)) (cl : List Cl9) : Prop where
  kp : Kp b H0 H
  bg : Bag H b m
  ww : H w = some (.lst [])
  hw : H wo = some (.lst (ys.map V.str))
  hp : H pk = some (.lst pv)
  tp : TpAll H pv ((cs.map pckD).map fun r => .tuple [.str r.1, r.2])
  d0 : H0 D = none
  rl : ∃ rv, H R = some (.lst rv) ∧ TpAll H rv (rows.map fun r => .tuple [.str r.1, r.2])
  dl : ∃ dv, H D = some (.lst dv) ∧ TpAll H dv (cl.map Cl9.d)
  nb : w ≠ b ∧ wo ≠ b ∧ pk ≠ b ∧ R ≠ b ∧ D ≠ b
  nd : D ≠ w ∧ D ≠ wo ∧ D ≠ pk ∧ D ≠ R
section
variable {H0 H H1 : Hp} {b w wo pk R D : Addr} {m m1 : Nat} {ys : List Str} {pv : List V} {cs : Opts9} {rows : List (Str × PyData)} {cl : List Cl9}
theorem SrvI.take (h : SrvI H0 H b w wo pk R D m ys pv cs rows cl) (k : Kp b H H1) (b1 : Bag H1 b m1) : SrvI H0 H1 b w wo pk R D m1 ys pv cs rows cl := by
  obtain ⟨kp, bg, ww, hw, hp, tp, d0, ⟨rv, hr, tr⟩, ⟨dv, hd, td⟩, ⟨n1, n2, n3, n4, n5⟩, nd⟩ := h
  exact ⟨kp.trans k, b1, k _ _ n1 ww, k _ _ n2 hw, k _ _ n3 hp, TpAll.keep (k.tk bg) _ _ tp, d0, ⟨rv, k _ _ n4 hr, TpAll.keep (k.tk bg) _ _ tr⟩, ⟨dv, k _ _ n5 hd, TpAll.keep (k.tk bg) _ _ td⟩, ⟨n1, n2, n3, n4, n5⟩, nd⟩
theorem SrvI.same (h : SrvI H0 H b w wo pk R D m ys pv cs rows cl) (s : Same H H1) : SrvI H0 H1 b w wo pk R D m ys pv cs rows cl := h.take (Kp.refl.same s) (h.bg.same s)
theorem SrvI.new (h : SrvI H0 H b w wo pk R D m ys pv cs rows cl) {p : Addr} {o : HO} (s : H p = none) : SrvI H0 (upd H p o) b w wo pk R D m ys pv cs rows cl := h.same (Same.new s)
theorem SrvI.mono (h : SrvI H0 H b w wo pk R D m ys pv cs rows cl) (hm : m ≤ m1) : SrvI H0 H b w wo pk R D m1 ys pv cs rows cl := { h with bg := h.bg.mono hm }
theorem SrvI.free (h : SrvI H0 H b w wo pk R D m ys pv cs rows cl) {p : Addr} (s : H p = none) : H0 p = none ∧ p ≠ b ∧ p ≠ w ∧ p ≠ wo ∧ p ≠ pk ∧ p ≠ R ∧ p ≠ D := by
  refine ⟨h.kp.free h.bg.at s, new_ne s h.bg, fun e => ?_, fun e => ?_, fun e => ?_, fun e => ?_, fun e => ?_⟩
  · rw [e, h.ww] at s; cases s
  · rw [e, h.hw] at s; cases s
  · rw [e, h.hp] at s; cases s
  · obtain ⟨_, hr, _⟩ := h.rl; rw [e, hr] at s; cases s
  · obtain ⟨_, hd, _⟩ := h.dl; rw [e, hd] at s; cases s
/-- a list of one's own is written -/
theorem SrvI.wr (h : SrvI H0 H b w wo pk R D m ys pv cs rows cl) {N : Addr} {xs : List V} {o : HO} (hN : H N = some (.lst xs)) (n0 : H0 N = none) (hb : N ≠ b) (a0 : N ≠ w) (a1 : N ≠ wo) (a2 : N ≠ pk) (a3 : N ≠ R) (a4 : N ≠ D) : SrvI H0 (upd H N o) b w wo pk R D m ys pv cs rows cl := by
  obtain ⟨kp, bg, ww, hw, hp, tp, d0, ⟨rv, hr, tr⟩, ⟨dv, hd, td⟩, nb, nd⟩ := h
  exact ⟨kp.wr n0, bg.ne hb, by rw [upd_ne a0.symm]; exact ww, by rw [upd_ne a1.symm]; exact hw, by rw [upd_ne a2.symm]; exact hp, TpAll.keep (Tk.wr hN) _ _ tp, d0, ⟨rv, by rw [upd_ne a3.symm]; exact hr, TpAll.keep (Tk.wr hN) _ _ tr⟩, ⟨dv, by rw [upd_ne a4.symm]; exact hd, TpAll.keep (Tk.wr hN) _ _ td⟩, nb, nd⟩
theorem SrvI.setD (h : SrvI H0 H b w wo pk R D m ys pv cs rows cl) {dv dv1 : List V} {cl1 : List Cl9} (hd : H D = some (.lst dv)) (t : TpAll H dv1 (cl1.map Cl9.d)) : SrvI H0 (upd H D (.lst dv1)) b w wo pk R D m ys pv cs rows cl1 := by
  obtain ⟨kp, bg, ww, hw, hp, tp, d0, ⟨rv, hr, tr⟩, _, nb, ⟨n1, n2, n3, n4⟩⟩ := h
  exact ⟨kp.wr d0, bg.ne nb.2.2.2.2, by rw [upd_ne n1.symm]; exact ww, by rw [upd_ne n2.symm]; exact hw, by rw [upd_ne n3.symm]; exact hp, TpAll.keep (Tk.wr hd) _ _ tp, d0, ⟨rv, by rw [upd_ne n4.symm]; exact hr, TpAll.keep (Tk.wr hd) _ _ tr⟩, ⟨dv1, upd_same, TpAll.keep (Tk.wr hd) _ _ t⟩, nb, ⟨n1, n2, n3, n4⟩⟩
theorem SrvI.setR (h : SrvI H0 H b w wo pk R D m ys pv cs rows cl) {R1 : Addr} {rv1 : List V} {rows1 : List (Str × PyData)} (hr : H R1 = some (.lst rv1)) (t : TpAll H rv1 (rows1.map fun r => .tuple [.str r.1, r.2])) (n1 : R1 ≠ b) (n2 : R1 ≠ D) : SrvI H0 H b w wo pk R1 D m ys pv cs rows1 cl := by
  obtain ⟨kp, bg, ww, hw, hp, tp, d0, _, dl, ⟨m1, m2, m3, m4, m5⟩, ⟨d1, d2, d3, d4⟩⟩ := h
  exact ⟨kp, bg, ww, hw, hp, tp, d0, ⟨rv1, hr, t⟩, dl, ⟨m1, m2, m3, n1, m5⟩, ⟨d1, d2, d3, n2.symm⟩⟩
end
theorem take2 {α : Type} {ys : List α} {i : Nat} {a c : α} (h1 : ys[2 * i]? = some a) (h2 : ys[2 * i + 1]? = some c) : ys.take (2 * (i + 1)) = ys.take (2 * i) ++ [a, c] := by
  rw [show 2 * (i + 1) = 2 * i + 1 + 1 by omega, List.take_add_one, List.take_add_one, h1, h2, List.append_assoc]
  rfl
theorem atI_two {xs : List V} {i : Nat} {x : V} (h : xs[2 * i]? = some x) : atI xs (2 * ((i : Nat) : Int)) = some x := by
  rw [show (2 * ((i : Nat) : Int)) = ((2 * i : Nat) : Int) by omega]
  exact atI_nat h
theorem atI_two1 {xs : List V} {i : Nat} {x : V} (h : xs[2 * i + 1]? = some x) : atI xs (2 * ((i : Nat) : Int) + 1) = some x := by
  rw [show (2 * ((i : Nat) : Int) + 1) = ((2 * i + 1 : Nat) : Int) by omega]
  exact atI_nat h
/-- lists that stand, beside the bag -/
def Stand (b : Addr) (l : List (Addr × List V)) (H : Hp) : Prop := ∀ p ∈ l, p.1 ≠ b ∧ H p.1 = some (.lst p.2)
theorem Stand.take {b : Addr} {l : List (Addr × List V)} {H H1 : Hp} (h : Stand b l H) (k : Kp b H H1) : Stand b l H1 := fun p hp => ⟨(h p hp).1, k _ _ (h p hp).1 (h p hp).2⟩
theorem Stand.same {b : Addr} {l : List (Addr × List V)} {H H1 : Hp} (h : Stand b l H) (k : Same H H1) : Stand b l H1 := fun p hp => ⟨(h p hp).1, k _ _ (h p hp).2⟩
theorem Stand.new {b : Addr} {l : List (Addr × List V)} {H : Hp} (h : Stand b l H) {p : Addr} {o : HO} (e : H p = none) : Stand b l (upd H p o) := h.same (Same.new e)
def kwK : List (Key × V) := [(Sum.inr "who", .str "text"), (Sum.inr "sum", .str "whole")]
theorem kw_at9 (z : Str) : ∃ k0 : Kb, (valV kwK (Sum.inr z)).getD (.str "truth") = .str k0.word ∧ k0.d = .str k0.word ∧ (∀ cs, GK9 cs (.one k0)) ∧ (z = "who" → k0 = .text) ∧ (z = "sum" → k0 = .whole) := by
  unfold valV kwK
  by_cases a : z = "who"
  · subst a
    exact ⟨.text, rfl, rfl, fun _ => trivial, fun _ => rfl, fun e => absurd e (by decide)⟩
  by_cases c : z = "sum"
  · subst c
    exact ⟨.whole, rfl, rfl, fun _ => trivial, fun e => absurd e (by decide), fun _ => rfl⟩
  refine ⟨.truth, ?_, rfl, fun _ => trivial, fun e => absurd e a, fun e => absurd e c⟩
  rw [List.find?_cons_of_neg (by simpa using Ne.symm a), List.find?_cons_of_neg (by simpa using Ne.symm c)]
  rfl
theorem notin9 {z : Str} (h1 : z ≠ "who") (h2 : z ≠ "sum") : (!(inV (.str z) [V.str "who", V.str "sum"])) = true := by
  unfold inV
  rw [List.any_cons, List.any_cons, List.any_nil]
  simp only [eqV]
  have a' : (("who" : Str) == z) = false := beq_eq_false_iff_ne.mpr h1.symm
  have c' : (("sum" : Str) == z) = false := beq_eq_false_iff_ne.mpr h2.symm
  simp [a', c']
theorem Stand.off {b : Addr} {l : List (Addr × List V)} {H : Hp} (h : Stand b l H) {N : Addr} (e : H N = none) : ∀ p ∈ l, p.1 ≠ N := fun p hp q => by
  have := (h p hp).2
  rw [q, e] at this
  cases this
theorem Stand.wr {b : Addr} {l : List (Addr × List V)} {H : Hp} (h : Stand b l H) {N : Addr} {o : HO} (e : ∀ p ∈ l, p.1 ≠ N) : Stand b l (upd H N o) := fun p hp => ⟨(h p hp).1, by rw [upd_ne (e p hp)]; exact (h p hp).2⟩
theorem Stand.sub {b : Addr} {l l1 : List (Addr × List V)} {H : Hp} (h : Stand b l H) (e : ∀ p ∈ l1, p ∈ l) : Stand b l1 H := fun p hp => h p (e p hp)
theorem Stand.add {b : Addr} {l : List (Addr × List V)} {H : Hp} (h : Stand b l H) {N : Addr} {xs : List V} (n : N ≠ b) (e : H N = some (.lst xs)) : Stand b ((N, xs) :: l) H := fun p hp => by
  rcases List.mem_cons.mp hp with rfl | hp
  · exact ⟨n, e⟩
  · exact h p hp
theorem gds_at {H : Hp} {xs : List V} {gs : List Gd9} {i : Nat} {x : V} (q : TpAll H xs (gs.map Gd9.d)) (e : xs[i]? = some x) : ∃ g t u, gs[i]? = some g ∧ x = .ref t ∧ H t = some (.tup [.str g.nam, u, .str (needS g.must)]) ∧ Tp H u g.kd.d := by
  obtain ⟨d, hd, tx⟩ := q.get' e
  rw [List.getElem?_map] at hd
  cases hg : gs[i]? with
  | none => rw [hg] at hd; cases hd
  | some g =>
    rw [hg] at hd
    cases hd
    obtain ⟨a, ys, rfl, ha, q⟩ := tx.inv
    obtain ⟨x1, r, rfl, h1, q⟩ := q.icons
    obtain ⟨x2, r, rfl, h2, q⟩ := q.icons
    obtain ⟨x3, r, rfl, h3, q⟩ := q.icons
    rw [q.inil, h1.istr, h3.istr] at ha
    exact ⟨g, a, x2, rfl, rfl, ha, h2⟩
theorem ClOk9.app {cs : Opts9} {rows r2 : List (Str × PyData)} {c : Cl9} (h : ClOk9 cs rows c) : ClOk9 cs (rows ++ r2) c := ⟨h.1, let ⟨fl, m, o⟩ := h.2; ⟨fl, List.mem_append_left _ m, o⟩⟩
def spSrv : Sp := fun vs H Q _ => ∃ (b w : Addr) (nm : Str) (ed : Int) (n : Nat), vs = [.ref b, .str nm, .int ed, .ref w] ∧ Bag H b n ∧ n + 3000 ≤ most ∧ H w = some (.lst []) ∧ w ≠ b ∧
  ∀ (p : Addr) (S : Srv9) (H' : Hp), Kp b H H' → Bag H' b (n + 2200) → Tp H' (.ref p) (S.d nm ed) → SrvOk9 S → Q (.ref p) H'
section
variable {P : Program} {w : World} {K : PySem.W.Frag} {mg : Str → Option Value} {base : Heap}
theorem scSrv : FnScope nSrv pSrv (defScope sSrv) := ⟨rfl, rfl, rfl, by decide +kernel, rfl, by decide +kernel, by decide +kernel⟩
theorem ok_srv {f : Addr} {fd : FuncData} (F : Fun K "_law_served" "_law_served" sSrv f fd) (G : Glb mg) (DT : Has P w K mg base "_law_take" 1 pTk9 spTake) (DN : Has P w K mg base "_law_names" 3 pNm9 spUnlikeN) (DM : Has P w K mg base "_law_numbers" 2 pTk9 spNum9)
    (DP : Has P w K mg base "_law_picks" 4 pNm9 spPck) (DK : Has P w K mg base "_law_drawn_kind" 3 ["_law_bag_here", "_law_picks_here", "_law_words"] spDrk) (DC : Has P w K mg base "_law_call_deeds" 2 pCde spCde) : FnOk P w K mg base CX0 5 f fd pSrv spSrv := by
  refine F.ok scSrv (fun vs H Q E h => ?_) (fun cdv A outer s H vs Q E hr h => ?_)
  · obtain ⟨b, w, nm, ed, n, rfl, _⟩ := h
    rfl
  · obtain ⟨b, w, nm, ed, n, rfl, hB, hn, hw, nw, q⟩ := h
    have hm : most = 1000000 := rfl
    have hu := hu_of hr
    refine ⟨_, (pss_cons (ps_set (i := 4) scSrv.nd rfl (Or.inl rfl) (pe_op op_add pe_int (pe_has DT (hr.mono (by omega)) rfl (pa_cons (pv 0) (pa_cons pe_int pa_nil)))))
      (pss_cons (ps_set (i := 5) scSrv.nd rfl (Or.inl rfl) (pe_callB cr_sortedS (by rfl) G.sorted (by decide +kernel) (pa_cons (pe_has DN (hr.mono (by omega)) rfl (pa_cons (pv 0) (pa_cons (pe_op op_mul pe_int (pv 4)) (pa_cons (pe_lst pa_nil) pa_nil)))) pa_nil)))
      (pss_cons (ps_set (i := 6) scSrv.nd rfl (Or.inl rfl) (pe_has DP (hr.mono (by omega)) rfl (pa_cons (pv 0) (pa_cons (pe_has DT (hr.mono (by omega)) rfl (pa_cons (pv 0) (pa_cons pe_int pa_nil))) (pa_cons (pv 5) pa_nil)))))
      (pss_cons (ps_par (i := 7) (j := 8) rfl scSrv.nd rfl rfl (by decide) rfl rfl (pa_cons (pe_lst pa_nil) (pa_cons (pe_lst pa_nil) pa_nil)) (by rfl))
      (pss_cons (ps_for PassesOwn.never rfl (pi_zip3r rfl G.zip rfl G.range (pe_has DM (hr.mono (by omega)) rfl (pa_cons (pv 0) (pa_cons (pv 4) pa_nil))) (pe_has DN (hr.mono (by omega)) rfl (pa_cons (pv 0) (pa_cons (pv 4) (pa_cons (pe_lst pa_nil) pa_nil)))) (pv 4)) (pg_tup rfl (pgs_cons (pg_name (i := 9) scSrv.nd rfl (Or.inl rfl)) (pgs_cons (pg_name (i := 10) scSrv.nd rfl (Or.inl rfl)) (pgs_cons (pg_name (i := 11) scSrv.nd rfl (Or.inl rfl)) pgs_nil))))
      (pss_cons (ps_par (i := 12) (j := 13) rfl scSrv.nd rfl rfl (by decide) rfl rfl (pa_cons (pe_ix ix_list (pv 5) (pe_op op_mul pe_int (pv 11)) (fun _ _ => rfl)) (pa_cons (pe_ix ix_list (pv 5) (pe_op op_add (pe_op op_mul pe_int (pv 11)) pe_int) (fun _ _ => rfl)) pa_nil)) (by rfl))
      (pss_cons (ps_set (i := 14) scSrv.nd rfl (Or.inl rfl) (pe_has DT (hr.mono (by omega)) rfl (pa_cons (pv 0) (pa_cons pe_int pa_nil))))
      (pss_cons (ps_set (i := 15) scSrv.nd rfl (Or.inl rfl) (pe_op op_cat (pe_lst (pa_cons pe_str (pa_cons pe_str pa_nil))) (pe_has DN (hr.mono (by omega)) rfl (pa_cons (pv 0) (pa_cons (pv 14) (pa_cons (pe_lst (pa_cons pe_str (pa_cons pe_str pa_nil))) pa_nil))))))
      (pss_cons (ps_set (i := 16) scSrv.nd rfl (Or.inl rfl) (pe_lst pa_nil))
      (C8.pss_cut (ps_for PassesOwn.never rfl (pi_zip rfl G.zip (pa_cons (pe_has DM (hr.mono (by omega)) rfl (pa_cons (pv 0) (pa_cons (pe_op op_add (pv 14) pe_int) pa_nil))) (pa_cons (pv 15) pa_nil))) (pg_tup rfl (pgs_cons (pg_name (i := 17) scSrv.nd rfl (Or.inl rfl)) (pgs_cons (pg_name (i := 18) scSrv.nd rfl (Or.inl rfl)) pgs_nil)))
      (pss_cons (ps_set (i := 19) scSrv.nd rfl (Or.inl rfl) (pe_dget2 hu (pe_disp (pps_cons pe_str pe_str (pps_cons pe_str pe_str pps_nil)) (by rfl) (by rfl) (fun z => by cases z) (by decide)) (pv 18) pe_str ⟨rfl, rfl, rfl, rfl⟩))
      (pss_cons (ps_set (i := 20) scSrv.nd rfl (Or.inl rfl) pe_str)
      (C8.pss_cut (ps_if (pt_cmpR op_notIn_seq (pv 18) (pe_tup (pa_cons pe_str (pa_cons pe_str pa_nil))) rfl)
      (pss_one (ps_par (i := 19) (j := 20) rfl scSrv.nd rfl rfl (by decide) rfl rfl (pa_cons (pe_mid (pe_has DK (hr.mono (by omega)) rfl (pa_cons (pv 0) (pa_cons (pv 6) (pa_cons (pe_lst pa_nil) pa_nil))))) (pa_cons (pe_mid (pe_ix ix_list (pe_lst (pa_cons pe_str (pa_cons pe_str pa_nil))) (pe_has DT (hr.mono (by omega)) rfl (pa_cons (pv 0) (pa_cons pe_int pa_nil))) (fun _ _ => rfl))) pa_nil)) (by rfl)))
      pss_nil)
      (pss_one (ps_expr (pe_bm PySem.F.plainAttrs_list PySem.F.slot_list_append PySem.F.type_list_append mt_append (pv 16) (pa_cons (pe_tup (pa_cons (pv 17) (pa_cons (pv 18) (pa_cons (pv 19) (pa_cons (pv 20) pa_nil))))) pa_nil))))))))
      (C8.pss_cut (ps_asg (pe_has DC (hr.mono (by omega)) rfl (pa_cons (pv 0) (pa_cons (pv 16) (pa_cons (pe_has DN (hr.mono (by omega)) rfl (pa_cons (pv 0) (pa_cons pe_int (pa_cons (pe_lst pa_nil) pa_nil)))) (pa_cons (pv 3) pa_nil))))) (pg_tup rfl (pgs_cons (pg_name (i := 21) scSrv.nd rfl (Or.inl rfl)) (pgs_cons (pg_name (i := 22) scSrv.nd rfl (Or.inl rfl)) pgs_nil))))
      (C8.pss_cut (ps_setLc (i := 23) (own := [("_law_own", 17), ("_law_one", 24)]) (g := (gTup K 2 (gCons (gName 17) (gCons (gName 24) gNil)))) (tt := tYes) (te := tOp (rCatT K) (tTup (tCons (tVar 17) tNil)) (tVar 24)) rfl scSrv.nd rfl rfl (sw_true rfl rfl rfl (by decide +kernel)) (pi_zip rfl G.zip (pa_cons (pe_has DM (hr.mono (by omega)) rfl (pa_cons (pv 0) (pa_cons (pe_callB call_len_seq (by rfl) G.len (by decide +kernel) (pa_cons (pv 22) pa_nil)) pa_nil))) (pa_cons (pv 22) pa_nil))) (blkOk_by (N := nSrv) (sc := defScope sSrv) (by decide +kernel)) (fun _ _ _ _ _ => (pg_tup rfl (pgs_cons (pg_name (i := 17) scSrv.nd rfl (Or.inl rfl)) (pgs_cons (pg_name (i := 24) scSrv.nd rfl (Or.inl rfl)) pgs_nil)))) (fun _ _ _ _ _ => pts_nil) (fun _ _ _ _ _ => (pe_op op_catT (pe_tup (pa_cons (pv 17) pa_nil)) (pv 24))))
      (pss_cons (ps_set (i := 7) scSrv.nd rfl (Or.inl rfl) (pe_op op_cat (pv 7) (pe_lst (pa_cons (pe_tup (pa_cons (pv 12) (pa_cons (pe_callTy call_tuple_of (by rfl) G.tuple (by decide +kernel) (pa_cons (pv 16) pa_nil)) pa_nil))) (pa_cons (pe_tup (pa_cons (pv 13) (pa_cons (pe_callTy call_tuple_of (by rfl) G.tuple (by decide +kernel) (pa_cons (pv 23) pa_nil)) pa_nil))) pa_nil)))))
      (pss_one (ps_expr (pe_bm PySem.F.plainAttrs_list PySem.F.slot_list_append PySem.F.type_list_append mt_append (pv 8) (pa_cons (pe_tup (pa_cons (pv 9) (pa_cons (pv 10) (pa_cons (pv 12) (pa_cons (pv 13) (pa_cons (pv 21) pa_nil)))))) pa_nil)))))))))))))
      (pss_one (ps_ret (pe_tup (pa_cons (pv 1) (pa_cons (pv 2) (pa_cons (pe_callTy call_tuple_of (by rfl) G.tuple (by decide +kernel) (pa_cons (pv 6) pa_nil)) (pa_cons (pe_callTy call_tuple_of (by rfl) G.tuple (by decide +kernel) (pa_cons (pv 7) pa_nil)) (pa_cons (pe_callTy call_tuple_of (by rfl) G.tuple (by decide +kernel) (pa_cons (pv 8) pa_nil)) pa_nil))))))))))))), ?_⟩
    refine ⟨_, rfl, b, 3, n, rfl, by decide, by decide, hB, by omega, fun d0 H1 d00 d01 k1 b1 => ?_⟩
    refine ⟨_, _, rfl, rfl, ?_⟩
    obtain ⟨m, em⟩ : ∃ m : Nat, 1 + d0 = (m : Int) := ⟨(1 + d0).toNat, by omega⟩
    simp only [em]
    have hm1 : 1 ≤ m := by omega
    have hm3 : m ≤ 3 := by omega
    -- the words
    refine ⟨_, rfl, _, rfl, _, _, rfl, rfl, .inl ⟨by decide, by decide⟩, Nat.zero_le _, fun e1 he1 => ?_⟩
    refine ⟨b, e1, 2 * (m : Int), [], n + 1, rfl, b1.new he1, by omega, by omega, upd_same, Nat.zero_le _, by omega, fun wl ws H2 hwl h2w lws ndw nmw k2 b2 => ?_⟩
    refine ⟨wl, ws, rfl, SqL.of h2w, by omega, fun ys wo perm _ hwo => ?_⟩
    have K2 : Kp b H (upd H2 wo (.lst (ys.map V.str))) := (((k1.new he1).trans k2)).new hwo
    have B2 := b2.new (o := .lst (ys.map V.str)) hwo
    have h2o : (upd H2 wo (.lst (ys.map V.str))) wo = some (.lst (ys.map V.str)) := upd_same
    have nwo : wo ≠ b := new_ne hwo b2
    have lys : ys.length = 2 * m := by have := perm.length_eq; omega
    have ndy : ys.Nodup := perm.nodup_iff.mpr ndw
    generalize upd H2 wo (.lst (ys.map V.str)) = H3 at *
    -- the choices
    refine ⟨_, rfl, _, rfl, b, 3, _, rfl, by decide, by decide, B2, by omega, fun d4 H4 d40 d41 k4 b4 => ?_⟩
    have h4o := k4 _ _ nwo h2o
    refine ⟨_, rfl, b, wo, d4, ys, _, rfl, b4, d40, by omega, h4o, by omega, by omega, fun pk pv cs H5 hpk h5p tpk okp k5 b5 => ?_⟩
    have h5o := k5 _ _ nwo h4o
    have npk : pk ≠ b := new_ne hpk b4
    have K5 := (K2.trans k4).trans k5
    refine ⟨Nat.zero_le _, fun R0 hR0 => ⟨Nat.zero_le _, fun D hD => ⟨_, _, rfl, ?_⟩⟩⟩
    have S0 : Same H5 (upd (upd H5 R0 (.lst [])) D (.lst [])) := (Same.new hR0).trans (Same.new hD)
    have nwb : wo ≠ w := fun e => by
      rw [e, K2 _ _ nw hw] at h2o
      have l := congrArg (fun o : Option HO => match o with | some (HO.lst xs) => xs.length | _ => 0) h2o
      have l2 : (ys.map V.str).length = 0 := l.symm
      rw [List.length_map] at l2
      omega
    have hD5 : H5 D = none := (Same.new (o := .lst []) hR0).free hD
    have nDb : D ≠ b := new_ne hD5 b5
    have nRb : R0 ≠ b := new_ne hR0 b5
    have nDR : D ≠ R0 := fun e => by rw [e, upd_same] at hD; cases hD
    have I0 : SrvI H (upd (upd H5 R0 (.lst [])) D (.lst [])) b w wo pk R0 D (n + 722) ys pv cs [] [] := by
      refine ⟨K5.same S0, ((b5.same S0).mono (by omega)), S0 _ _ (K5 _ _ nw hw), S0 _ _ h5o, S0 _ _ h5p, TpAll.keep (Same.tk S0) _ _ tpk, K5.free b5.at hD5, ⟨[], hup hD upd_same, .nil⟩, ⟨[], upd_same, .nil⟩, ⟨nw, nwo, npk, nRb, nDb⟩, fun e => ?_, fun e => ?_, fun e => ?_, nDR⟩
      · rw [e, K5 _ _ nw hw] at hD5; cases hD5
      · rw [e, h5o] at hD5; cases hD5
      · rw [e, h5p] at hD5; cases hD5
    generalize (upd (upd H5 R0 (.lst [])) D (.lst [])) = H6 at *
    -- the loop
    refine ⟨_, rfl, _, rfl, b, m, _, rfl, I0.bg, by omega, by omega, by omega, fun np ns H7 hnp h7 lns k7 b7 => ?_⟩
    have nnp : np ≠ b := new_ne hnp I0.bg
    have I7 := I0.take k7 b7
    refine ⟨_, rfl, _, rfl, Nat.zero_le _, fun e2 he2 => ?_⟩
    refine ⟨b, e2, m, [], _, rfl, I7.bg.new he2, by omega, by omega, upd_same, Nat.zero_le _, by omega, fun zl zs H8 hzl h8 lzs ndz nmz k8 b8 => ?_⟩
    have I8 := (I7.new (o := .lst []) he2).take k8 b8
    have h8n := k8 _ _ nnp (hup (o := .lst []) he2 h7)
    have nzl : zl ≠ b := new_ne hzl (I7.bg.new he2)
    refine ⟨_, rfl, np, zl, _, _, m, rfl, rfl, rfl, by omega, by omega, h8n, h8, ?_⟩
    refine L2.for_it walk_3 (fun i σ H' => ∃ (R : Addr) (rows : List (Str × PyData)) (cl : List Cl9), (∃ a9 a10 a11 a12 a13 a14 a15 a16 a17 a18 a19 a20 a21 a22 a23, σ = [some (.ref b), some (.str nm), some (.int ed), some (.ref w), some (.int m), some (.ref wo), some (.ref pk), some (.ref R), some (.ref D), a9, a10, a11, a12, a13, a14, a15, a16, a17, a18, a19, a20, a21, a22, a23, none]) ∧ SrvI H H' b w wo pk R D (n + 900 + 400 * i) ys pv cs rows cl ∧ rows.map Prod.fst = ys.take (2 * i) ∧ cl.length = i ∧ (∀ c ∈ cl, ClOk9 cs rows c) ∧ H' np = some (.lst (ns.map V.int)) ∧ H' zl = some (.lst (zs.map V.str)) ∧ D ≠ np ∧ D ≠ zl) ?_ ?_ ?_ ?_
    · refine ⟨R0, [], [], ⟨_, _, _, _, _, _, _, _, _, _, _, _, _, _, _, rfl⟩, I8.mono (by omega), rfl, rfl, (fun c h => nomatch h), h8n, h8, ?_, ?_⟩
      · exact fun e => (I0.free hnp).2.2.2.2.2.2 e.symm
      · exact fun e => ((I7.new (o := .lst []) he2).free hzl).2.2.2.2.2.2 e.symm
    · rintro i σ H' _ ⟨R, rows, cl, _, _, _, _, _, g1, g2, _⟩
      exact ⟨g1, g2, trivial⟩
    · rintro i x σ HA HB hi ⟨R, rows, cl, ⟨a9, a10, a11, a12, a13, a14, a15, a16, a17, a18, a19, a20, a21, a22, a23, rfl⟩, IA, er, lcl, okc, g1, g2, nDn, nDz⟩ ⟨T, x1, x2, x3, rfl, hT, rfl, f1, f2, f3⟩
      have him : i < m := by
        rw [List.length_map, List.length_map] at hi
        omega
      obtain ⟨fig, hfig, rfl⟩ := ints_at f1
      obtain ⟨wd, hwd, rfl⟩ := strs_at f2
      cases f3
      have SB := Same.new (H := HA) (o := .tup [.int fig, .str wd, .int (i : Nat)]) hT
      have IB := IA.same SB
      have g1B := SB _ _ g1
      have g2B := SB _ _ g2
      refine ⟨T, _, rfl, SqT.of upd_same, rfl, _, _, rfl, _, _, rfl, _, _, rfl, rfl, ?_⟩
      generalize upd HA T (.tup [.int fig, .str wd, .int (i : Nat)]) = HB at *
      -- its two records
      obtain ⟨ak, hak⟩ : ∃ z, ys[2 * i]? = some z := ⟨_, List.getElem?_eq_getElem (by omega)⟩
      obtain ⟨an, han⟩ : ∃ z, ys[2 * i + 1]? = some z := ⟨_, List.getElem?_eq_getElem (by omega)⟩
      refine ⟨_, rfl, _, rfl, _, _, rfl, rfl, .inl ⟨by decide, by decide⟩, wo, _, _, _, rfl, rfl, SqL.of IB.hw, atI_two (by rw [List.getElem?_map, hak]; rfl), ?_⟩
      refine ⟨_, rfl, _, rfl, _, _, rfl, rfl, .inl ⟨by decide, by decide⟩, _, _, rfl, rfl, wo, _, _, _, rfl, rfl, SqL.of IB.hw, atI_two1 (by rw [List.getElem?_map, han]; rfl), _, _, rfl, ?_⟩
      refine ⟨_, rfl, b, 4, _, rfl, by decide, by decide, IB.bg, by omega, fun sz HC z0 z1 kC bC => ?_⟩
      have IC := IB.take kC bC
      -- its names
      refine ⟨(by show 2 ≤ sizeLine; decide), fun l1 hl1 => ?_⟩
      have ID := IC.new (o := .lst [.str "who", .str "sum"]) hl1
      have h1D : (upd HC l1 (.lst [.str "who", .str "sum"])) l1 = some (.lst [.str "who", .str "sum"]) := upd_same
      have g1D := hup (o := .lst [.str "who", .str "sum"]) hl1 (kC _ _ nnp g1B)
      have g2D := hup (o := .lst [.str "who", .str "sum"]) hl1 (kC _ _ nzl g2B)
      have fr1 := IC.free hl1
      generalize upd HC l1 (.lst [.str "who", .str "sum"]) = HD at *
      refine ⟨_, rfl, _, rfl, (by show 2 ≤ sizeLine; decide), fun l2 hl2 => ?_⟩
      refine ⟨b, l2, sz, ["who", "sum"], _, rfl, ID.bg.new hl2, z0, by omega, upd_same, by decide, by omega, fun ul us HE hul hEu lus ndu nmu kE bE => ?_⟩
      have IE := (ID.new (o := .lst [.str "who", .str "sum"]) hl2).take kE bE
      have g1E := kE _ _ nnp (hup (o := .lst [.str "who", .str "sum"]) hl2 g1D)
      have g2E := kE _ _ nzl (hup (o := .lst [.str "who", .str "sum"]) hl2 g2D)
      have h1E := kE _ _ fr1.2.1 (hup (o := .lst [.str "who", .str "sum"]) hl2 h1D)
      refine ⟨l1, ul, _, _, rfl, rfl, h1E, hEu, ?_, fun nl hnl => ?_⟩
      · rw [List.length_map]
        exact Nat.le_trans (show 2 + us.length ≤ 100 by omega) (by decide)
      have IF := IE.new (o := .lst ([.str "who", .str "sum"] ++ us.map V.str)) hnl
      have g1F := hup (o := .lst ([.str "who", .str "sum"] ++ us.map V.str)) hnl g1E
      have g2F := hup (o := .lst ([.str "who", .str "sum"] ++ us.map V.str)) hnl g2E
      have frN := IE.free hnl
      have hFn : (upd HE nl (.lst ([.str "who", .str "sum"] ++ us.map V.str))) nl = some (.lst ((("who" : Str) :: ("sum" : Str) :: us).map V.str)) := upd_same
      generalize upd HE nl (.lst ([.str "who", .str "sum"] ++ us.map V.str)) = HF at *
      obtain ⟨nms, enms⟩ : ∃ nms : List Str, nms = ("who" : Str) :: ("sum" : Str) :: us := ⟨_, rfl⟩
      have lnms : (nms.length : Int) = sz + 2 := by rw [enms]; simp; omega
      have ndn : nms.Nodup := by
        rw [enms, List.nodup_cons, List.nodup_cons]
        refine ⟨fun h => ?_, fun h => (nmu _ h).2 (by simp), ndu⟩
        rcases List.mem_cons.mp h with h | h
        · exact absurd h (by decide)
        · exact (nmu _ h).2 (by simp)
      rw [← enms] at hFn
      have whn : ("who" : Str) ∈ nms := by rw [enms]; simp
      have smn : ("sum" : Str) ∈ nms := by rw [enms]; simp
      have nfn : ∀ z ∈ nms, Shs z := fun z hz => by
        rw [enms] at hz
        rcases List.mem_cons.mp hz with rfl | hz
        · exact ⟨by decide, by decide⟩
        rcases List.mem_cons.mp hz with rfl | hz
        · exact ⟨by decide, by decide⟩
        exact nm_shs (nmu z hz).1
      clear enms
      -- its fields
      refine ⟨Nat.zero_le _, fun La hLa => ?_⟩
      have IG := IF.new (o := .lst []) hLa
      have frL := IF.free hLa
      have g1G := hup (o := .lst []) hLa g1F
      have g2G := hup (o := .lst []) hLa g2F
      have hGn := hup (o := .lst []) hLa hFn
      have nLn : La ≠ nl := fun e => by rw [e, hFn] at hLa; cases hLa
      have nL1 : La ≠ np := fun e => by rw [e, g1F] at hLa; cases hLa
      have nL2 : La ≠ zl := fun e => by rw [e, g2F] at hLa; cases hLa
      have hGa : (upd HF La (.lst [])) La = some (.lst []) := upd_same
      generalize upd HF La (.lst []) = HG at *
      refine ⟨fun σ H' => ∃ (fl : List Fl) (av : List V) (a17 a18 a19 a20 : Option V), σ = [some (.ref b), some (.str nm), some (.int ed), some (.ref w), some (.int m), some (.ref wo), some (.ref pk), some (.ref R), some (.ref D), some (.int fig), some (.str wd), some (.int (i : Nat)), some (.str ak), some (.str an), some (.int sz), some (.ref nl), some (.ref La), a17, a18, a19, a20, a21, a22, a23, none] ∧ SrvI H H' b w wo pk R D (n + 900 + 400 * i + 200) ys pv cs rows cl ∧ H' La = some (.lst av) ∧ TpAll H' av (fl.map Fl.d) ∧ AskOk9 cs fl ∧ H' np = some (.lst (ns.map V.int)) ∧ H' zl = some (.lst (zs.map V.str)), ?_, ?_⟩
      · refine ⟨_, rfl, _, rfl, _, _, rfl, rfl, b, sz + 2, _, rfl, IG.bg, by omega, by omega, by omega, fun q2 n2 HH hq2 hHq ln2 kH bH => ?_⟩
        have IH := IG.take kH bH
        have nq2 : q2 ≠ b := new_ne hq2 IG.bg
        have nLq : La ≠ q2 := fun e => by rw [← e, hGa] at hq2; cases hq2
        have nln : n2.length = nms.length := by omega
        refine ⟨_, rfl, q2, nl, _, _, rfl, SqL.of hHq, SqL.of (kH _ _ frN.2.1 hGn), ?_⟩
        refine L2.for_it (walk_zip (K := K) (a := q2) (b := nl) (xs := n2.map V.int) (ys := nms.map V.str) (n := nms.length) (by rw [List.length_map, List.length_map]; omega)) (fun j σ H' => ∃ (fl : List Fl) (av : List V) (a17 a18 a19 a20 : Option V), σ = [some (.ref b), some (.str nm), some (.int ed), some (.ref w), some (.int m), some (.ref wo), some (.ref pk), some (.ref R), some (.ref D), some (.int fig), some (.str wd), some (.int (i : Nat)), some (.str ak), some (.str an), some (.int sz), some (.ref nl), some (.ref La), a17, a18, a19, a20, a21, a22, a23, none] ∧ SrvI H H' b w wo pk R D (n + 900 + 400 * i + 155 + 8 * j) ys pv cs rows cl ∧ H' La = some (.lst av) ∧ TpAll H' av (fl.map Fl.d) ∧ H' np = some (.lst (ns.map V.int)) ∧ H' zl = some (.lst (zs.map V.str)) ∧ H' q2 = some (.lst (n2.map V.int)) ∧ H' nl = some (.lst (nms.map V.str)) ∧
          fl.map Fl.nam = nms.take j ∧ (∀ f ∈ fl, f.nam = "who" → f.kd = .one .text ∧ f.must = true) ∧ (∀ f ∈ fl, f.nam = "sum" → f.kd = .one .whole ∧ f.must = true) ∧ (∀ f ∈ fl, GK9 ((cs.map pckD).map Prod.fst) f.kd)) ?_ ?_ ?_ ?_
        · exact ⟨[], [], _, _, _, _, rfl, IH.mono (by omega), kH _ _ frL.2.1 hGa, .nil, kH _ _ nnp g1G, kH _ _ nzl g2G, hHq, kH _ _ frN.2.1 hGn, rfl, (fun f h => nomatch h), (fun f h => nomatch h), fun f h => nomatch h⟩
        · rintro j σ H' _ ⟨_, _, _, _, _, _, _, _, _, _, _, _, e1, e2, _⟩
          exact ⟨SqL.of e1, SqL.of e2⟩
        · rintro j x σ H3 H4 hj ⟨fl, av, a17, a18, a19, a20, rfl, I3, h3a, t3, g13, g23, h3q, h3n, enm, kw, ks, gk⟩ ⟨T, x1, x2, rfl, hT, rfl, f1, f2⟩
          obtain ⟨n3, hn3, rfl⟩ := ints_at f1
          obtain ⟨z3, hz3, rfl⟩ := strs_at f2
          have S4 := Same.new (H := H3) (o := .tup [.int n3, .str z3]) hT
          refine ⟨T, _, rfl, SqT.of upd_same, rfl, _, _, rfl, _, _, rfl, rfl, ?_⟩
          have J3 : SrvI H (upd H3 T (.tup [.int n3, .str z3])) b w wo pk R D (n + 900 + 400 * i + 155 + 8 * j) ys pv cs rows cl ∧ Stand b [(La, av), (np, ns.map V.int), (zl, zs.map V.str), (q2, n2.map V.int), (nl, nms.map V.str)] (upd H3 T (.tup [.int n3, .str z3])) ∧ TpAll (upd H3 T (.tup [.int n3, .str z3])) av (fl.map Fl.d) :=
            ⟨I3.same S4, Stand.same (fun p hp => by
              have e : p = (La, av) ∨ p = (np, ns.map V.int) ∨ p = (zl, zs.map V.str) ∨ p = (q2, n2.map V.int) ∨ p = (nl, nms.map V.str) := by simpa using hp
              rcases e with rfl | rfl | rfl | rfl | rfl
              · exact ⟨frL.2.1, h3a⟩
              · exact ⟨nnp, g13⟩
              · exact ⟨nzl, g23⟩
              · exact ⟨nq2, h3q⟩
              · exact ⟨frN.2.1, h3n⟩) S4, TpAll.keep (Same.tk S4) _ _ t3⟩
          clear I3 h3a t3 g13 g23 h3q h3n
          generalize upd H3 T (.tup [.int n3, .str z3]) = H4 at *
          obtain ⟨I4, st4, t4⟩ := J3
          refine fun p hp => ⟨upd_same, kwK, rfl, by decide, ?_⟩
          rw [upd_upd, show mergeK [] kwK = kwK from by decide]
          refine ⟨p, rfl, .inl ⟨_, .inl upd_same⟩, _, rfl, _, DGet.k (k := Sum.inr z3) upd_same, ?_⟩
          obtain ⟨k0, ek0, dk0, gk0, wk0, sk0⟩ := kw_at9 z3
          rw [ek0]
          replace I4 := I4.new (o := .dK kwK) hp
          replace st4 := st4.new (o := .dK kwK) hp
          replace t4 := TpAll.keep (Tk.new (o := .dK kwK) hp) _ _ t4
          generalize upd H4 p (.dK kwK) = H4 at *
          refine ⟨fun σ H' => ∃ (kv : V) (k : Kn) (bb : Bool), σ = [some (.ref b), some (.str nm), some (.int ed), some (.ref w), some (.int m), some (.ref wo), some (.ref pk), some (.ref R), some (.ref D), some (.int fig), some (.str wd), some (.int (i : Nat)), some (.str ak), some (.str an), some (.int sz), some (.ref nl), some (.ref La), some (.int n3), some (.str z3), some kv, some (.str (needS bb)), a21, a22, a23, none] ∧ SrvI H H' b w wo pk R D (n + 900 + 400 * i + 155 + 8 * (j + 1)) ys pv cs rows cl ∧ Stand b [(La, av), (np, ns.map V.int), (zl, zs.map V.str), (q2, n2.map V.int), (nl, nms.map V.str)] H' ∧ TpAll H' av (fl.map Fl.d) ∧ Tp H' kv k.d ∧ GK9 ((cs.map pckD).map Prod.fst) k ∧ (z3 = "who" → k = .one .text ∧ bb = true) ∧ (z3 = "sum" → k = .one .whole ∧ bb = true), ?_, ?_⟩
          · refine ⟨_, rfl, (by show 2 ≤ sizeLine; decide), fun t2 ht2 => ⟨t2, _, rfl, .inr (SqT.of upd_same), rfl, rfl, _, rfl, ?_⟩⟩
            replace I4 := I4.new (o := .tup [.str "who", .str "sum"]) ht2
            replace st4 := st4.new (o := .tup [.str "who", .str "sum"]) ht2
            replace t4 := TpAll.keep (Tk.new (o := .tup [.str "who", .str "sum"]) ht2) _ _ t4
            generalize upd H4 t2 (.tup [.str "who", .str "sum"]) = H4 at *
            by_cases cw : z3 = "who"
            · subst cw
              refine iteN rfl ⟨_, .one k0, true, rfl, I4.mono (by omega), st4, t4, ?_, gk0 _, fun _ => ⟨by rw [wk0 rfl], rfl⟩, fun e => absurd e (by decide)⟩
              show Tp _ _ k0.d
              rw [dk0]
              exact .str _
            by_cases cs' : z3 = "sum"
            · subst cs'
              refine iteN rfl ⟨_, .one k0, true, rfl, I4.mono (by omega), st4, t4, ?_, gk0 _, fun e => absurd e (by decide), fun _ => ⟨by rw [sk0 rfl], rfl⟩⟩
              show Tp _ _ k0.d
              rw [dk0]
              exact .str _
            refine iteY (notin9 cw cs') ?_
            refine ⟨fun v H' => ∃ k : Kn, Tp H' v k.d ∧ GK9 ((cs.map pckD).map Prod.fst) k ∧ SrvI H H' b w wo pk R D (n + 900 + 400 * i + 155 + 8 * j + 6) ys pv cs rows cl ∧ Stand b [(La, av), (np, ns.map V.int), (zl, zs.map V.str), (q2, n2.map V.int), (nl, nms.map V.str)] H' ∧ TpAll H' av (fl.map Fl.d), ?_, ?_⟩
            · refine ⟨_, rfl, _, rfl, Nat.zero_le _, fun e4 he4 => ?_⟩
              have I5 := I4.new (o := .lst []) he4
              refine ⟨b, pk, e4, _, pv, cs.map pckD, rfl, I5.bg, by omega, I5.hp, I5.nb.2.2.1, I5.tp, by rw [List.length_map]; have := okp.l; omega, upd_same, (I4.free he4).2.1, fun kv k H7 tk gk k7 b7 => ?_⟩
              exact ⟨k, tk, gk, I5.take k7 b7, (st4.new he4).take k7, TpAll.keep (k7.tk I5.bg) _ _ (TpAll.keep (Tk.new he4) _ _ t4)⟩
            · rintro kv H5 ⟨k, tk, gk5, I5, st5, t5⟩
              refine ⟨fun v H' => ∃ (bb : Bool), v = .str (needS bb) ∧ SrvI H H' b w wo pk R D (n + 900 + 400 * i + 155 + 8 * j + 7) ys pv cs rows cl ∧ Stand b [(La, av), (np, ns.map V.int), (zl, zs.map V.str), (q2, n2.map V.int), (nl, nms.map V.str)] H' ∧ TpAll H' av (fl.map Fl.d) ∧ Tp H' kv k.d, ?_, ?_⟩
              · refine ⟨(by show 2 ≤ sizeLine; decide), fun l hl => ?_⟩
                have I6 := I5.new (o := .lst [.str "must", .str "may"]) hl
                refine ⟨_, rfl, b, 2, _, rfl, by decide, by decide, I6.bg, by omega, fun x HE x0 x1 kE bE => ?_⟩
                have eE := kE _ _ (new_ne hl I5.bg) upd_same
                have fin : ∀ bb : Bool, ∃ bb' : Bool, V.str (needS bb) = .str (needS bb') ∧ SrvI H HE b w wo pk R D (n + 900 + 400 * i + 155 + 8 * j + 7) ys pv cs rows cl ∧ Stand b [(La, av), (np, ns.map V.int), (zl, zs.map V.str), (q2, n2.map V.int), (nl, nms.map V.str)] HE ∧ TpAll HE av (fl.map Fl.d) ∧ Tp HE kv k.d := fun bb =>
                  ⟨bb, rfl, I6.take kE bE, (st5.new hl).take kE, TpAll.keep (kE.tk I6.bg) _ _ (TpAll.keep (Tk.new hl) _ _ t5), Tp.keep (kE.tk I6.bg) _ _ (Tp.keep (Tk.new hl) _ _ tk)⟩
                rcases (by omega : x = 0 ∨ x = 1) with rfl | rfl
                · exact ⟨l, _, _, _, rfl, rfl, SqL.of eE, rfl, fin true⟩
                · exact ⟨l, _, _, _, rfl, rfl, SqL.of eE, rfl, fin false⟩
              · rintro v HE ⟨bb, rfl, IE, stE, tE, tkE⟩
                exact ⟨_, _, rfl, kv, k, bb, rfl, IE.mono (by omega), stE, tE, tkE, gk5, fun e => absurd e cw, fun e => absurd e cs'⟩
          rintro σ H5 ⟨kv, k, bb, rfl, I5, st5, t5, tk, gk5, kw5, ks5⟩
          refine ⟨_, rfl, .inl ⟨rfl, _, SqL.of (st5 (La, av) (by simp)).2⟩, ?_⟩
          refine ⟨_, rfl, _, rfl, _, rfl, _, rfl, (by show 4 ≤ sizeLine; decide), fun t5a ht5 => ?_⟩
          have I6 := I5.new (o := .tup [.int n3, .str z3, kv, .str (needS bb)]) ht5
          have st6 := st5.new (o := .tup [.int n3, .str z3, kv, .str (needS bb)]) ht5
          have t6 := TpAll.keep (Tk.new (o := .tup [.int n3, .str z3, kv, .str (needS bb)]) ht5) _ _ t5
          have td6 : Tp (upd H5 t5a (.tup [.int n3, .str z3, kv, .str (needS bb)])) (.ref t5a) (Fl.d ⟨n3, z3, k, bb⟩) := .tup upd_same (.cons (.int _) (.cons (.str _) (.cons (Tp.keep (Tk.new ht5) _ _ tk) (.cons (.str _) .nil))))
          generalize upd H5 t5a (.tup [.int n3, .str z3, kv, .str (needS bb)]) = H6 at *
          have h6a := (st6 (La, av) (by simp)).2
          have lav : av.length = fl.length := by rw [t6.length, List.length_map]
          have lfl : fl.length = j := by
            have := congrArg List.length enm
            rw [List.length_map, List.length_take] at this
            omega
          have hj5 : j < 5 := by omega
          refine ⟨La, _, _, rfl, rfl, h6a, Nat.lt_of_le_of_lt (show av.length ≤ 100 by omega) (by decide), ?_⟩
          have T7 := Tk.wr (o := .lst (av ++ [.ref t5a])) h6a
          have off : ∀ p l, (p, l) ∈ [(La, av), (np, ns.map V.int), (zl, zs.map V.str), (q2, n2.map V.int), (nl, nms.map V.str)] → p ≠ La → (upd H6 La (.lst (av ++ [.ref t5a]))) p = some (.lst l) := fun p l hm ne => by
            rw [upd_ne ne]
            exact (st6 (p, l) hm).2
          refine ⟨fl ++ [⟨n3, z3, k, bb⟩], av ++ [.ref t5a], _, _, _, _, rfl, I6.wr h6a frL.1 frL.2.1 frL.2.2.1 frL.2.2.2.1 frL.2.2.2.2.1 frL.2.2.2.2.2.1 frL.2.2.2.2.2.2, upd_same, ?_, off np _ (by simp) nL1.symm, off zl _ (by simp) nL2.symm, off q2 _ (by simp) nLq.symm, off nl _ (by simp) nLn.symm, ?_, fun g hg => ?_, fun g hg => ?_, fun g hg => ?_⟩
          · rw [List.map_append]
            exact TpAll.app (TpAll.keep T7 _ _ t6) (TpAll.one (Tp.keep T7 _ _ td6))
          · rw [List.map_append, enm, List.take_add_one, hz3]
            rfl
          · rcases List.mem_append.mp hg with h | h
            · exact kw g h
            · rw [List.mem_singleton.mp h]
              exact kw5
          · rcases List.mem_append.mp hg with h | h
            · exact ks g h
            · rw [List.mem_singleton.mp h]
              exact ks5
          · rcases List.mem_append.mp hg with h | h
            · exact gk g h
            · rw [List.mem_singleton.mp h]
              exact gk5
        · rintro σ H' ⟨fl, av, a17, a18, a19, a20, rfl, I3, h3a, t3, g13, g23, h3q, h3n, enm, kw, ks, gk⟩
          rw [List.take_length] at enm
          refine ⟨fl, av, _, _, _, _, rfl, I3.mono (by omega), h3a, t3, ⟨by rw [enm]; exact ndn, by rw [enm]; exact whn, by rw [enm]; exact smn, kw, ks, gk, ?_, by rw [enm]; exact nfn⟩, g13, g23⟩
          have := congrArg List.length enm
          rw [List.length_map] at this
          omega
      rintro σ HH ⟨fl, av, a17, a18, a19, a20, rfl, IH, hHa, tHa, okf, g1H, g2H⟩
      -- its deeds
      refine ⟨fun σ H' => ∃ (dv : V) (Fo : Addr) (fv : List V) (ds : List Dd9) (gs : List Gd9), σ = [some (.ref b), some (.str nm), some (.int ed), some (.ref w), some (.int m), some (.ref wo), some (.ref pk), some (.ref R), some (.ref D), some (.int fig), some (.str wd), some (.int (i : Nat)), some (.str ak), some (.str an), some (.int sz), some (.ref nl), some (.ref La), a17, a18, a19, a20, some dv, some (.ref Fo), a23, none] ∧ SrvI H H' b w wo pk R D (n + 900 + 400 * i + 360) ys pv cs rows cl ∧ Stand b [(La, av), (np, ns.map V.int), (zl, zs.map V.str), (Fo, fv)] H' ∧ TpAll H' av (fl.map Fl.d) ∧ Tp H' dv (.tuple (ds.map Dd9.d)) ∧ TpAll H' fv (gs.map Gd9.d) ∧ ds.length ≤ 6 ∧ gs.length ≤ 10, ?_, ?_⟩
      · refine ⟨_, rfl, _, rfl, _, rfl, Nat.zero_le _, fun e3 he3 => ?_⟩
        have I1 := IH.new (o := .lst []) he3
        refine ⟨b, e3, 5, [], _, rfl, I1.bg, by omega, by omega, upd_same, Nat.zero_le _, by omega, fun na us2 HI hna hIn lus2 nd2 nm2 kI bI => ?_⟩
        have I2 := I1.take kI bI
        have st2 : Stand b [(La, av), (np, ns.map V.int), (zl, zs.map V.str)] HI := Stand.take (Stand.new (fun p hp => by
          have e : p = (La, av) ∨ p = (np, ns.map V.int) ∨ p = (zl, zs.map V.str) := by simpa using hp
          rcases e with rfl | rfl | rfl
          · exact ⟨frL.2.1, hHa⟩
          · exact ⟨nnp, g1H⟩
          · exact ⟨nzl, g2H⟩) he3) kI
        have t2 := TpAll.keep (kI.tk I1.bg) _ _ (TpAll.keep (Tk.new (o := .lst []) he3) _ _ tHa)
        refine ⟨_, rfl, b, La, na, w, _, av, fl, us2, rfl, I2.bg, by omega, (st2 (La, av) (by simp)).2, frL.2.1, t2, by have := okf.l; omega, hIn, (fun e => by rw [e] at lus2; simp at lus2), by omega, I2.ww, nw, fun t dt fo fv ds gs HJ hJt tdt hfo hJf tgs lds lgs kJ bJ => ?_⟩
        have I3 := I2.take kJ bJ
        refine ⟨t, _, rfl, SqT.of hJt, rfl, _, _, rfl, _, _, rfl, rfl, ?_⟩
        refine ⟨.ref dt, fo, fv, ds, gs, rfl, I3.mono (by omega), fun p hp => ?_, TpAll.keep (kJ.tk I2.bg) _ _ t2, tdt, tgs, lds, lgs⟩
        have e : p = (La, av) ∨ p = (np, ns.map V.int) ∨ p = (zl, zs.map V.str) ∨ p = (fo, fv) := by simpa using hp
        rcases e with rfl | rfl | rfl | rfl
        · exact st2.take kJ _ (by simp)
        · exact st2.take kJ _ (by simp)
        · exact st2.take kJ _ (by simp)
        · exact ⟨(I2.free hfo).2.1, hJf⟩
      rintro σ HI ⟨dv, Fo, fv, ds, gs, rfl, II, stI, tI, tdI, tgI, lds, lgs⟩
      -- what it tells
      refine ⟨fun σ H' => ∃ (Tl : Addr) (tv : List V) (gd : List PyData), σ = [some (.ref b), some (.str nm), some (.int ed), some (.ref w), some (.int m), some (.ref wo), some (.ref pk), some (.ref R), some (.ref D), some (.int fig), some (.str wd), some (.int (i : Nat)), some (.str ak), some (.str an), some (.int sz), some (.ref nl), some (.ref La), a17, a18, a19, a20, some dv, some (.ref Fo), some (.ref Tl), none] ∧ SrvI H H' b w wo pk R D (n + 900 + 400 * i + 390) ys pv cs rows cl ∧ Stand b [(La, av), (np, ns.map V.int), (zl, zs.map V.str), (Tl, tv)] H' ∧ TpAll H' av (fl.map Fl.d) ∧ Tp H' dv (.tuple (ds.map Dd9.d)) ∧ TpAll H' tv gd, ?_, ?_⟩
      · have lfv : fv.length = gs.length := by rw [tgI.length, List.length_map]
        have hFo : HI Fo = some (.lst fv) := (stI (Fo, fv) (by simp)).2
        refine ⟨_, rfl, _, rfl, Fo, _, rfl, .inl (SqL.of hFo), b, _, _, rfl, II.bg, by omega, by omega, by omega, fun q5 n5 HK hq5 h5 ln5 kK bK => ?_⟩
        have IK := (II.take kK bK).mono (m1 := n + 900 + 400 * i + 390) (by omega)
        have tkK := kK.tk II.bg
        have stK := (stI.take kK).add (new_ne hq5 II.bg) h5
        have tK := TpAll.keep tkK _ _ tI
        have tdK := Tp.keep tkK _ _ tdI
        have tgK := TpAll.keep tkK _ _ tgI
        refine ⟨_, rfl, q5, Fo, _, _, rfl, SqL.of h5, SqL.of (stK (Fo, fv) (by simp)).2, fun Dl hDl => ?_⟩
        have offD := stK.off hDl
        have frD := IK.free hDl
        refine L2.lc_it (walk_zip (K := K) (a := q5) (b := Fo) (xs := n5.map V.int) (ys := fv) (n := fv.length) (by rw [List.length_map]; omega)) (fun j H' => SrvI H H' b w wo pk R D (n + 900 + 400 * i + 390) ys pv cs rows cl ∧ Stand b [(q5, n5.map V.int), (La, av), (np, ns.map V.int), (zl, zs.map V.str), (Fo, fv)] H' ∧ TpAll H' av (fl.map Fl.d) ∧ Tp H' dv (.tuple (ds.map Dd9.d)) ∧ TpAll H' fv (gs.map Gd9.d) ∧
          ∃ (ps : List V) (tl : List Fl), H' Dl = some (.lst ps) ∧ TpAll H' ps (tl.map Fl.d) ∧ ps.length = j) ?_ ?_ ?_ ?_
        · exact ⟨IK.new hDl, stK.new hDl, TpAll.keep (Tk.new hDl) _ _ tK, Tp.keep (Tk.new hDl) _ _ tdK, TpAll.keep (Tk.new hDl) _ _ tgK, [], [], upd_same, .nil, rfl⟩
        · rintro j H' _ ⟨_, st, _⟩
          exact ⟨SqL.of (st (q5, n5.map V.int) (by simp)).2, SqL.of (st (Fo, fv) (by simp)).2⟩
        · rintro j x H3 H4 hj ⟨I3, st3, t3, td3, tg3, ps, tl, h3, tp3, lps⟩ ⟨T, x1, x2, rfl, hT, rfl, f1, f2⟩
          obtain ⟨n3, hn3, rfl⟩ := ints_at f1
          obtain ⟨g, t', u, hg, rfl, ht', tu⟩ := gds_at tg3 f2
          refine ⟨T, _, rfl, SqT.of upd_same, rfl, _, _, rfl, _, _, rfl, rfl, rfl, yes (iteT ?_)⟩
          have S4 := Same.new (H := H3) (o := .tup [.int n3, .ref t']) hT
          refine ⟨_, rfl, (by show 1 ≤ sizeLine; decide), fun t1 ht1 => ?_⟩
          have S5 := S4.trans (Same.new (o := .tup [.int n3]) ht1)
          refine ⟨_, rfl, t1, t', _, _, rfl, rfl, SqT.of upd_same, SqT.of (S5 _ _ ht'), by simp, (by show 4 ≤ sizeLine; decide), (fun e => nomatch e), fun _ t2 ht2 => ?_⟩
          have S6 := S5.trans (Same.new (o := .tup ([V.int n3] ++ [.str g.nam, u, .str (needS g.must)])) ht2)
          have e6 : (upd (upd (upd H3 T (.tup [.int n3, .ref t'])) t1 (.tup [.int n3])) t2 (.tup ([V.int n3] ++ [.str g.nam, u, .str (needS g.must)]))) t2 = some (.tup [.int n3, .str g.nam, u, .str (needS g.must)]) := upd_same
          generalize (upd (upd (upd H3 T (.tup [.int n3, .ref t'])) t1 (.tup [.int n3])) t2 (.tup ([V.int n3] ++ [.str g.nam, u, .str (needS g.must)]))) = H6 at *
          have h6 := S6 _ _ h3
          have hj10 : j < 10 := by omega
          have T7 := Tk.wr (o := .lst (ps ++ [.ref t2])) h6
          refine ⟨_, h6, Nat.lt_of_le_of_lt (show ps.length ≤ 100 by omega) (by decide), (I3.same S6).wr h6 frD.1 frD.2.1 frD.2.2.1 frD.2.2.2.1 frD.2.2.2.2.1 frD.2.2.2.2.2.1 frD.2.2.2.2.2.2, (st3.same S6).wr offD, TpAll.keep T7 _ _ (TpAll.keep (Same.tk S6) _ _ t3), Tp.keep T7 _ _ (Tp.keep (Same.tk S6) _ _ td3), TpAll.keep T7 _ _ (TpAll.keep (Same.tk S6) _ _ tg3), ps ++ [.ref t2], tl ++ [⟨n3, g.nam, g.kd, g.must⟩], upd_same, ?_, by rw [List.length_append, lps]; rfl⟩
          rw [List.map_append]
          exact TpAll.app (TpAll.keep T7 _ _ (TpAll.keep (Same.tk S6) _ _ tp3)) (TpAll.one (Tp.keep T7 _ _ (.tup e6 (.cons (.int _) (.cons (.str _) (.cons (Tp.keep (Same.tk S6) _ _ tu) (.cons (.str _) .nil)))))))
        · rintro H3 ⟨I3, st3, t3, td3, tg3, ps, tl, h3, tp3, lps⟩
          refine ⟨Dl, ps, tl.map Fl.d, rfl, I3, fun p hp => ?_, t3, td3, tp3⟩
          have e : p = (La, av) ∨ p = (np, ns.map V.int) ∨ p = (zl, zs.map V.str) ∨ p = (Dl, ps) := by simpa using hp
          rcases e with rfl | rfl | rfl | rfl
          · exact st3 _ (by simp)
          · exact st3 _ (by simp)
          · exact st3 _ (by simp)
          · exact ⟨frD.2.1, h3⟩
      rintro σ HJ ⟨Tl, tv, gd, rfl, IJ, stJ, tJ, tdJ, ttJ⟩
      -- the rows
      obtain ⟨rv, hR, trv⟩ := IJ.rl
      have lrv : rv.length = 2 * i := by
        have e1 := trv.length
        have e2 := congrArg List.length er
        rw [List.length_map] at e1 e2
        rw [List.length_take] at e2
        omega
      refine ⟨_, rfl, _, rfl, _, rfl, La, _, rfl, .inl ⟨SqL.of (stJ (La, av) (by simp)).2, fun T1 hT1 => ⟨(by show 2 ≤ sizeLine; decide), fun t1 ht1 => ?_⟩⟩⟩
      have S1 := (Same.new (o := .tup av) hT1).trans (Same.new (o := .tup [.str ak, .ref T1]) ht1)
      have tt1 : Tp (upd (upd HJ T1 (.tup av)) t1 (.tup [.str ak, .ref T1])) (.ref t1) (.tuple [.str ak, .tuple (fl.map Fl.d)]) := .tup upd_same (.cons (.str _) (.cons (.tup (hup ht1 upd_same) (TpAll.keep (Same.tk S1) _ _ tJ)) .nil))
      generalize (upd (upd HJ T1 (.tup av)) t1 (.tup [.str ak, .ref T1])) = HK at *
      refine ⟨_, rfl, _, rfl, Tl, _, rfl, .inl ⟨SqL.of (stJ.same S1 (Tl, tv) (by simp)).2, fun T2 hT2 => ⟨(by show 2 ≤ sizeLine; decide), fun t2 ht2 => ?_⟩⟩⟩
      have S2 := (Same.new (o := .tup tv) hT2).trans (Same.new (o := .tup [.str an, .ref T2]) ht2)
      have tt2 : Tp (upd (upd HK T2 (.tup tv)) t2 (.tup [.str an, .ref T2])) (.ref t2) (.tuple [.str an, .tuple gd]) := .tup upd_same (.cons (.str _) (.cons (.tup (hup ht2 upd_same) (TpAll.keep (Same.tk (S1.trans S2)) _ _ ttJ)) .nil))
      replace tt1 := Tp.keep (Same.tk S2) _ _ tt1
      generalize (upd (upd HK T2 (.tup tv)) t2 (.tup [.str an, .ref T2])) = HL at *
      have S12 := S1.trans S2
      refine ⟨(by show 2 ≤ sizeLine; decide), fun l3 hl3 => ?_⟩
      have S3 := S12.trans (Same.new (o := .lst [.ref t1, .ref t2]) hl3)
      refine ⟨R, l3, rv, _, rfl, rfl, S3 _ _ hR, upd_same, Nat.le_trans (show rv.length + 2 ≤ 100 by omega) (by decide), fun R1 hR1 => ?_⟩
      replace tt1 := Tp.keep (Tk.new (o := .lst [.ref t1, .ref t2]) hl3) _ _ tt1
      replace tt2 := Tp.keep (Tk.new (o := .lst [.ref t1, .ref t2]) hl3) _ _ tt2
      have IL := IJ.same S3
      have stL := stJ.same S3
      have tdL := Tp.keep (Same.tk S3) _ _ tdJ
      have trL := TpAll.keep (Same.tk S3) _ _ trv
      generalize (upd HL l3 (.lst [.ref t1, .ref t2])) = HM at *
      have frR := IL.free hR1
      have IM := (IL.new (o := .lst (rv ++ [.ref t1, .ref t2])) hR1).setR (R1 := R1) (rv1 := rv ++ [.ref t1, .ref t2]) (rows1 := rows ++ [(ak, .tuple (fl.map Fl.d)), (an, .tuple gd)]) upd_same (by
        rw [List.map_append]
        exact TpAll.app (TpAll.keep (Tk.new hR1) _ _ trL) (.cons (Tp.keep (Tk.new hR1) _ _ tt1) (.cons (Tp.keep (Tk.new hR1) _ _ tt2) .nil))) frR.2.1 frR.2.2.2.2.2.2
      have stM := stL.new (o := .lst (rv ++ [.ref t1, .ref t2])) hR1
      have tdM := Tp.keep (Tk.new (o := .lst (rv ++ [.ref t1, .ref t2])) hR1) _ _ tdL
      generalize (upd HM R1 (.lst (rv ++ [.ref t1, .ref t2]))) = HN at *
      -- the call
      obtain ⟨dl, hdl, tdl⟩ := IM.dl
      refine ⟨_, rfl, .inl ⟨rfl, _, SqL.of hdl⟩, ?_⟩
      refine ⟨_, rfl, _, rfl, _, rfl, _, rfl, _, rfl, (by show 5 ≤ sizeLine; decide), fun t5 ht5 => ?_⟩
      have IO := IM.new (o := .tup [.int fig, .str wd, .str ak, .str an, dv]) ht5
      have stO := stM.new (o := .tup [.int fig, .str wd, .str ak, .str an, dv]) ht5
      have tcO : Tp (upd HN t5 (.tup [.int fig, .str wd, .str ak, .str an, dv])) (.ref t5) (Cl9.d ⟨fig, wd, ak, an, ds⟩) := .tup upd_same (.cons (.int _) (.cons (.str _) (.cons (.str _) (.cons (.str _) (.cons (Tp.keep (Tk.new ht5) _ _ tdM) .nil)))))
      have hdO := hup (o := .tup [.int fig, .str wd, .str ak, .str an, dv]) ht5 hdl
      have tdO := TpAll.keep (Tk.new (o := .tup [.int fig, .str wd, .str ak, .str an, dv]) ht5) _ _ tdl
      generalize (upd HN t5 (.tup [.int fig, .str wd, .str ak, .str an, dv])) = HO' at *
      have ldl : dl.length = cl.length := by rw [tdO.length, List.length_map]
      refine ⟨D, _, _, rfl, rfl, hdO, Nat.lt_of_le_of_lt (show dl.length ≤ 100 by omega) (by decide), ?_⟩
      refine ⟨R1, rows ++ [(ak, .tuple (fl.map Fl.d)), (an, .tuple gd)], cl ++ [⟨fig, wd, ak, an, ds⟩], ⟨_, _, _, _, _, _, _, _, _, _, _, _, _, _, _, rfl⟩, (IO.setD hdO (by
        rw [List.map_append]
        exact TpAll.app tdO (TpAll.one tcO))).mono (by omega), ?_, by rw [List.length_append, lcl]; rfl, fun c hc => ?_, ?_, ?_, nDn, nDz⟩
      · rw [List.map_append, er, take2 hak han]
        rfl
      · rcases List.mem_append.mp hc with h | h
        · exact (okc c h).app
        · rw [List.mem_singleton.mp h]
          exact ⟨lds, fl, List.mem_append_right _ (List.mem_cons_self), okf⟩
      · rw [upd_ne nDn.symm]
        exact (stO (np, ns.map V.int) (by simp)).2
      · rw [upd_ne nDz.symm]
        exact (stO (zl, zs.map V.str) (by simp)).2
    · rintro σ H' ⟨R, rows, cl, ⟨a9, a10, a11, a12, a13, a14, a15, a16, a17, a18, a19, a20, a21, a22, a23, rfl⟩, IA, er, lcl, okc, g1, g2, nDn, nDz⟩
      have emn : min (min (ns.map V.int).length (zs.map V.str).length) ((m : Int)).toNat = m := by
        rw [List.length_map, List.length_map]
        omega
      rw [emn] at lcl IA er
      obtain ⟨rv, hR, trv⟩ := IA.rl
      obtain ⟨dl, hdl, tdl⟩ := IA.dl
      refine ⟨_, rfl, _, rfl, _, rfl, pk, _, rfl, .inl ⟨SqL.of IA.hp, fun T1 hT1 => ?_⟩⟩
      have S1 := Same.new (o := .tup pv) hT1
      refine ⟨_, rfl, R, _, rfl, .inl ⟨SqL.of (S1 _ _ hR), fun T2 hT2 => ?_⟩⟩
      have S2 := S1.trans (Same.new (o := .tup rv) hT2)
      refine ⟨_, rfl, D, _, rfl, .inl ⟨SqL.of (S2 _ _ hdl), fun T3 hT3 => ?_⟩⟩
      have S3 := S2.trans (Same.new (o := .tup dl) hT3)
      refine ⟨(by show 5 ≤ sizeLine; decide), fun t ht => ?_⟩
      have S4 := S3.trans (Same.new (o := .tup [.str nm, .int ed, .ref T1, .ref T2, .ref T3]) ht)
      have I4 := IA.same S4
      refine q t ⟨cs, rows, cl⟩ _ I4.kp (I4.bg.mono (by omega)) ?_ ⟨okp, (fun e => by have e' : cl = [] := e; rw [e'] at lcl; simp at lcl; omega), by show cl.length ≤ 3; omega, ?_, ?_, okc⟩
      · refine .tup upd_same (.cons (.str _) (.cons (.int _) (.cons (.tup (hup ht (hup hT3 (hup hT2 upd_same))) ?_) (.cons (.tup (hup ht (hup hT3 upd_same)) ?_) (.cons (.tup (hup ht upd_same) ?_) .nil)))))
        · exact TpAll.keep (Same.tk S4) _ _ IA.tp
        · exact TpAll.keep (Same.tk S4) _ _ trv
        · exact TpAll.keep (Same.tk S4) _ _ tdl
      · show (rows.map Prod.fst).Nodup
        rw [er]
        exact ndy.sublist (List.take_sublist _ _)
      · intro r hr'
        have h1 : r.1 ∈ rows.map Prod.fst := List.mem_map.mpr ⟨r, hr', rfl⟩
        rw [er] at h1
        exact (nmw _ (perm.mem_iff.mp (List.mem_of_mem_take h1))).1
end
end Fh

set_option Elab.async false
set_option linter.all false
set_option maxRecDepth 100000
set_option maxHeartbeats 4000000
namespace Fh
open PySem L2 PyProof.Rows
abbrev sVal9 : Stmt := top 37
abbrev nVal9 : List Str := ["_law_bag_here", "_law_parts", "_law_kind", "_law_deep", "_law_signs", "_law_k", "_law_options", "_law_size", "_law_found", "_law_figure", "_law_word", "_law_own", "_law_need"]
abbrev pVal9 : List Str := ["_law_bag_here", "_law_parts", "_law_kind", "_law_deep"]
/-- values that are drawn: short texts, numbers within bounds -/
def RS : Vl → Prop
  | .num i => 0 ≤ i ∧ i ≤ 1000000000
  | .tru _ => True
  | .txt z => Shs z
  | .lst _ => False
  | .rcd _ => False
def RF : Vl → Prop
  | .lst xs => xs.length ≤ 6 ∧ ∀ x ∈ xs, RS x
  | .num i => RS (.num i)
  | .tru i => RS (.tru i)
  | .txt i => RS (.txt i)
  | .rcd _ => False
theorem RS.scal {v : Vl} (h : RS v) : Scal v := by
  cases v with
  | lst _ => exact h.elim
  | rcd _ => exact h.elim
  | num _ => exact True.intro
  | tru _ => exact True.intro
  | txt _ => exact True.intro
theorem RS.rf {v : Vl} (h : RS v) : RF v := by
  cases v with
  | lst _ => exact h.elim
  | rcd _ => exact h.elim
  | num _ => exact h
  | tru _ => exact h
  | txt _ => exact h
theorem RF.flat {v : Vl} (h : RF v) : Flat v := by
  cases v with
  | lst _ => exact ⟨h.1, fun x hx => (h.2 x hx).scal⟩
  | rcd _ => exact h.elim
  | num _ => exact True.intro
  | tru _ => exact True.intro
  | txt _ => exact True.intro
/-- a drawn record -/
structure VR9 (fs : List (Str × Vl)) (w : Str) (n : Int) : Prop where
  vo : VOk fs w n
  rf : ∀ f ∈ fs, RF f.2
  sn : ∀ f ∈ fs, Shs f.1
  sw : Shs w
  l5 : fs.length ≤ 5
theorem tp_r9 {H : Hp} {v : V} {rows : List (Str × PyData)} (h : Tp H v (rowsD rows)) : TpR H v (rowsD rows) := by
  obtain ⟨a, xs, rfl, ha, q⟩ := Tp.inv h
  exact ⟨a, xs, _, rfl, rfl, .inl ha, q⟩
theorem look_nd9 {α : Type} : ∀ {l : List (Str × α)} {z : Str} {v : α}, (l.map Prod.fst).Nodup → (z, v) ∈ l → l.lookup z = some v
  | [], _, _, _, h => by cases h
  | (y, u) :: l, z, v, nd, h => by
    rw [List.map_cons, List.nodup_cons] at nd
    rw [List.lookup_cons]
    rcases List.mem_cons.mp h with h | h
    · cases h
      simp
    · have : z ≠ y := fun e => nd.1 (by rw [← e]; exact List.mem_map.mpr ⟨_, h, rfl⟩)
      rw [show (z == y) = false from beq_eq_false_iff_ne.mpr this]
      exact look_nd9 nd.2 h
theorem kd_sh9 {k : Kn} (h : ∀ z, k.nm = some z → Nm z) : SeqAt.shaped k.d = true := Sh.shaped (n := 2) (Sh.kd fun z hz => nm_sh (h z hz)) (by decide)
def Plain9 (k : Kn) (b : Addr) (H : Hp) (n : Nat) (Q : VK) : Prop := ∃ k0 : Kb, k = .one k0 ∧ (∀ z, k0 ≠ .rc z) ∧ ∀ (y : V) (v : Vl) (H' : Hp), Kp b H H' → Bag H' b (n + 30) → VD H' y v → RS v → (k0 = .text → ∃ z, v = .txt z) → (k0 = .whole → ∃ i, v = .num i) → Q y H'
def spVal9 (j : Nat) : Sp := fun vs H Q _ => ∃ (b p : Addr) (kv : V) (dp : Int) (n : Nat) (S : Srv9) (nm : Str) (ed : Int) (k : Kn), vs = [.ref b, .ref p, kv, .int dp] ∧ Bag H b n ∧ n + 2000 * j + 100 ≤ most ∧ Tp H (.ref p) (S.d nm ed) ∧ SrvOk9 S ∧ Tp H kv k.d ∧
  ((1 ≤ j ∧ GK9 ((S.cs.map pckD).map Prod.fst) k ∧ Plain9 k b H n Q) ∨
   (∃ k0 : Kb, 2 ≤ j ∧ 1 ≤ dp ∧ k = .lst k0 ∧ GK9 ((S.cs.map pckD).map Prod.fst) (.lst k0) ∧ ∀ (y : V) (v : Vl) (H' : Hp), Kp b H H' → Bag H' b (n + 250) → VD H' y v → RF v → Q y H') ∨
   (∃ (z : Str) (fl : List Fl), 3 ≤ j ∧ dp = 2 ∧ k = .one (.rc z) ∧ Nm z ∧ S.rows.lookup z = some (.tuple (fl.map Fl.d)) ∧ AskOk9 S.cs fl ∧ ∀ (a : Addr) (fs : List (Str × Vl)) (w : Str) (i : Int) (H' : Hp), Kp b H H' → Bag H' b (n + 1600) → VD H' (.ref a) (.rcd fs) → H a = none → VR9 fs w i → Q (.ref a) H'))
section
variable {P : Program} {w : World} {K : PySem.W.Frag} {mg : Str → Option Value} {base : Heap}
theorem scVal9 : FnScope nVal9 pVal9 (defScope sVal9) := ⟨rfl, rfl, rfl, by decide +kernel, rfl, by decide +kernel, by decide +kernel⟩
theorem none_val9 {f : Addr} {fd : FuncData} (F : Fun K "_law_value" "_law_value" sVal9 f fd) : FnOk P w K mg base CX0 1 f fd pVal9 (spVal9 0) := by
  have no : ∀ vs H Q E, spVal9 0 vs H Q E → False := fun vs H Q E h => by
    obtain ⟨b, p, kv, dp, n, S, nm, ed, k, rfl, _, _, _, _, _, h⟩ := h
    rcases h with ⟨h, _⟩ | ⟨_, h, _⟩ | ⟨_, _, h, _⟩ <;> omega
  refine F.ok scVal9 (fun vs H Q E h => ?_) (fun cdv A outer s H vs Q E hr h => ?_)
  · exact (no _ _ _ _ h).elim
  · exact (no _ _ _ _ h).elim
theorem ok_val9 {f : Addr} {fd : FuncData} {l j : Nat} (hl : 1 ≤ l) (F : Fun K "_law_value" "_law_value" sVal9 f fd) (G : Glb mg) (DT : Has P w K mg base "_law_take" 1 pTk9 spTake) (DO : Has P w K mg base "_law_of" 1 ["_law_rows", "_law_word"] spLof9) (DV : Has P w K mg base "_law_value" l pVal9 (spVal9 j)) : FnOk P w K mg base CX0 (l + 1) f fd pVal9 (spVal9 (j + 1)) := by
  refine F.ok scVal9 (fun vs H Q E h => ?_) (fun cdv A outer s H vs Q E hr h => ?_)
  · obtain ⟨b, p, kv, dp, n, S, nm, ed, k, rfl, _⟩ := h
    rfl
  · obtain ⟨b, p, kv, dp, n, S, nm, ed, k, rfl, hB, hn, hP, so, tk, q⟩ := h
    have hm : most = 1000000 := rfl
    have hu := hu_of hr
    refine ⟨_, (pss_cons (ps_if (pt_cmpR (op_eqD hr.units) (pv 2) pe_str (nomark _))
      (pss_one (ps_ret (pe_ix ix_list (pe_lst (pa_cons pe_int (pa_cons pe_int (pa_cons (pe_op op_pow pe_int pe_int) (pa_cons (pe_has DT (hr.mono (by omega)) rfl (pa_cons (pv 0) (pa_cons pe_int pa_nil))) (pa_cons (pe_has DT (hr.mono (by omega)) rfl (pa_cons (pv 0) (pa_cons (pe_op op_add (pe_op op_pow pe_int pe_int) pe_int) pa_nil))) (pa_cons pe_int (pa_cons pe_int pa_nil)))))))) (pe_has DT (hr.mono (by omega)) rfl (pa_cons (pv 0) (pa_cons pe_int pa_nil))) (fun _ _ => rfl))))
      pss_nil)
      (pss_cons (ps_if (pt_cmpR (op_eqD hr.units) (pv 2) pe_str (nomark _))
      (pss_one (ps_ret (pe_cmpR op_eq (pe_has DT (hr.mono (by omega)) rfl (pa_cons (pv 0) (pa_cons pe_int pa_nil))) pe_int (nomark _))))
      pss_nil)
      (pss_cons (ps_if (pt_cmpR (op_eqD hr.units) (pv 2) pe_str (nomark _))
      (pss_cons (ps_set (i := 4) scVal9.nd rfl (Or.inr rfl) pe_str)
      (pss_one (ps_ret (pe_join pe_str (pe_lc (own := [("_law_k", 5)]) (g := (gName 5)) (tt := tYes) rfl scVal9.nd (pi_range1 rfl G.range (pa_cons (pe_mid (pe_has DT (hr.mono (by omega)) rfl (pa_cons (pv 0) (pa_cons (pe_ix ix_list (pe_lst (pa_cons pe_int (pa_cons pe_int pa_nil))) (pe_has DT (hr.mono (by omega)) rfl (pa_cons (pv 0) (pa_cons pe_int pa_nil))) (fun _ _ => rfl)) pa_nil)))) pa_nil)) (blkOk_by (N := nVal9) (sc := defScope sVal9) (by decide +kernel)) (fun _ _ _ _ _ => (pg_name (i := 5) scVal9.nd rfl (Or.inl rfl))) (fun _ _ _ _ _ => pts_nil) (fun _ _ _ _ _ => (pe_ix ix_str (pv 4) (pe_has DT (hr.mono (by omega)) rfl (pa_cons (pv 0) (pa_cons (pe_callB call_len_str (by rfl) G.len (by decide +kernel) (pa_cons (pv 4) pa_nil)) pa_nil))) (fun _ _ => rfl))))))))
      pss_nil)
      (pss_cons (ps_if (pt_cmpR op_eq (pe_ix ix_tup (pv 2) pe_int (fun _ _ => rfl)) pe_str (nomark _))
      (pss_cons (ps_set (i := 6) scVal9.nd rfl (Or.inl rfl) (pe_has DO (hr.mono (by omega)) rfl (pa_cons (pe_ix ix_tup (pv 1) pe_int (fun _ _ => rfl)) (pa_cons (pe_ix ix_tup (pv 2) pe_int (fun _ _ => rfl)) pa_nil))))
      (pss_one (ps_ret (pe_ix ix_tup (pe_ix ix_tup (pv 6) (pe_has DT (hr.mono (by omega)) rfl (pa_cons (pv 0) (pa_cons (pe_callB call_len_seq (by rfl) G.len (by decide +kernel) (pa_cons (pv 6) pa_nil)) pa_nil))) (fun _ _ => rfl)) pe_int (fun _ _ => rfl)))))
      pss_nil)
      (pss_cons (ps_if (pt_cmpR op_eq (pv 3) pe_int (nomark _))
      (pss_one ps_never)
      pss_nil)
      (pss_cons (ps_if (pt_cmpR op_eq (pe_ix ix_tup (pv 2) pe_int (fun _ _ => rfl)) pe_str (nomark _))
      (C8.pss_cut (ps_set (i := 7) scVal9.nd rfl (Or.inl rfl) (pe_mid (pe_has DT (hr.mono (by omega)) rfl (pa_cons (pv 0) (pa_cons (pe_ix ix_list (pe_lst (pa_cons pe_int (pa_cons pe_int pa_nil))) (pe_callTy call_intK (by rfl) G.int (by decide +kernel) (pa_cons (pe_cmpR op_eq (pe_has DT (hr.mono (by omega)) rfl (pa_cons (pv 0) (pa_cons pe_int pa_nil))) pe_int (nomark _)) pa_nil)) (fun _ _ => rfl)) pa_nil)))))
      (pss_one (ps_ret (pe_callTy call_tuple_of (by rfl) G.tuple (by decide +kernel) (pa_cons (pe_lc (own := [("_law_k", 5)]) (g := (gName 5)) (tt := tYes) (te := tCall (spVal9 j) [] E0 (tCons (tVar 0) (tCons (tVar 1) (tCons (tOp (rIxT K) (tVar 2) (tC (.int 1))) (tCons (tOp (rI0 fun i j => .int (i - j)) (tVar 3) (tC (.int 1))) tNil))))) rfl scVal9.nd (pi_range1 rfl G.range (pa_cons (pv 7) pa_nil)) (blkOk_by (N := nVal9) (sc := defScope sVal9) (by decide +kernel)) (fun _ _ _ _ _ => (pg_name (i := 5) scVal9.nd rfl (Or.inl rfl))) (fun _ _ _ _ _ => pts_nil) (fun _ _ _ _ _ => (pe_has DV hr rfl (pa_cons (pv 0) (pa_cons (pv 1) (pa_cons (pe_ix ix_tup (pv 2) pe_int (fun _ _ => rfl)) (pa_cons (pe_op op_sub (pv 3) pe_int) pa_nil))))))) pa_nil)))))
      pss_nil)
      (pss_cons (ps_set (i := 8) scVal9.nd rfl (Or.inl rfl) pe_dnewK)
      (pss_cons (ps_for PassesOwn.never rfl (pi_tup (pe_has DO (hr.mono (by omega)) rfl (pa_cons (pe_ix ix_tup (pv 1) pe_int (fun _ _ => rfl)) (pa_cons (pe_ix ix_tup (pv 2) pe_int (fun _ _ => rfl)) pa_nil)))) (pg_tup rfl (pgs_cons (pg_name (i := 9) scVal9.nd rfl (Or.inl rfl)) (pgs_cons (pg_name (i := 10) scVal9.nd rfl (Or.inl rfl)) (pgs_cons (pg_name (i := 11) scVal9.nd rfl (Or.inl rfl)) (pgs_cons (pg_name (i := 12) scVal9.nd rfl (Or.inl rfl)) pgs_nil)))))
      (pss_one (ps_if (pt_mid (PW.pt (pw_or (pt_cmpR op_eq (pv 12) pe_str (nomark _)) (pw_or1 (pt_cmpR op_eq (pe_has DT (hr.mono (by omega)) rfl (pa_cons (pv 0) (pa_cons pe_int pa_nil))) pe_int (nomark _))))))
      (pss_one (ps_dput hu (pv 8) (pv 10) (pe_has DV hr rfl (pa_cons (pv 0) (pa_cons (pv 1) (pa_cons (pv 11) (pa_cons (pe_op op_sub (pv 3) pe_int) pa_nil))))) rfl))
      pss_nil)))
      (pss_one (ps_ret (pv 8))))))))))), ?_⟩
    have nmk : ∀ cs, (∀ c ∈ cs, Nm c) → GK9 cs k → ∀ z, k.nm = some z → Nm z := fun cs hc g z hz => by
      cases k with
      | lst b0 => cases b0 with
        | ch c => cases hz; exact hc _ g
        | rc c => exact g.elim
        | _ => cases hz
      | one b0 => cases b0 with
        | ch c => cases hz; exact hc _ g
        | rc c => exact g.elim
        | _ => cases hz
    have ncs : ∀ c ∈ (S.cs.map pckD).map Prod.fst, Nm c := fun c hc => by
      obtain ⟨r, hr1, rfl⟩ := List.mem_map.mp hc
      obtain ⟨c1, hc1, rfl⟩ := List.mem_map.mp hr1
      exact so.pk.nmc c1 hc1
    have shk : SeqAt.shaped k.d = true := kd_sh9 fun z hz => by
      rcases q with ⟨_, g, _⟩ | ⟨k0, _, _, rfl, g, _⟩ | ⟨z', fl, _, _, rfl, nz, _⟩
      · exact nmk _ ncs g z hz
      · exact nmk _ ncs g z hz
      · cases hz
        exact nz
    have shw : SeqAt.shaped (.str "whole") = true := str_sh0 ⟨by decide +kernel, Nat.le_refl _⟩
    have sht : SeqAt.shaped (.str "truth") = true := str_sh0 ⟨by decide +kernel, Nat.le_refl _⟩
    have shx : SeqAt.shaped (.str "text") = true := str_sh0 ⟨by decide +kernel, Nat.le_refl _⟩
    have hP0 := hP
    obtain ⟨pa, x1, x2, x3, x4, x5, epa, hp, _, _, t3, t4, _⟩ := Tp.five hP
    cases epa
    -- a value of a plain kind
    have plain : ∀ {b0 : Kb} {x : V} {v : Vl} {H' : Hp}, k = .one b0 → (∀ z, b0 ≠ .rc z) → Kp b H H' → Bag H' b (n + 30) → VD H' x v → RS v → (b0 = .text → ∃ z, v = .txt z) → (b0 = .whole → ∃ i, v = .num i) → Q x H' := fun {b0 x v H'} ek nr kp bg vd ok a1 a2 => by
      rcases q with ⟨_, _, k0, e0, _, q⟩ | ⟨k0, _, _, e0, _⟩ | ⟨z', fl, _, _, e0, _⟩
      · rw [ek] at e0
        cases e0
        exact q x v H' kp bg vd ok a1 a2
      · rw [ek] at e0
        cases e0
      · rw [ek] at e0
        cases e0
        exact absurd rfl (nr z')
    refine ⟨_, rfl, _, _, Tp.dp _ _ tk, .str _, shk, shw, _, rfl, ?_⟩
    by_cases ew : k = .one .whole
    · subst ew
      refine ite2 (fun _ => ?_) (fun h => absurd (by decide +kernel) h)
      have p9 : CPow 10 9 := ⟨by decide, by decide, by decide⟩
      have e9 : (10 : Int) ^ (9 : Int).toNat = 1000000000 := by decide
      refine ⟨_, _, rfl, rfl, p9, ?_⟩
      refine ⟨_, rfl, b, 300, n, rfl, by decide, by decide, hB, by omega, fun t1 H1 t10 t11 k1 b1 => ?_⟩
      refine ⟨_, rfl, _, _, rfl, rfl, p9, _, _, rfl, rfl, b, _, n + 1, rfl, by decide, by decide, b1, by omega, fun t2 H2 t20 t21 k2 b2 => ?_⟩
      refine ⟨(by show 7 ≤ sizeLine; decide), fun l1 hl1 => ?_⟩
      have nl1 : l1 ≠ b := new_ne hl1 b2
      refine ⟨_, rfl, b, 7, n + 2, rfl, by decide, by decide, b2.new hl1, by omega, fun t3 H3 t30 t31 k3 b3 => ?_⟩
      have x1 := k3 _ _ nl1 upd_same
      rw [e9] at t21
      have pick : ∃ v : Int, atI [V.int 0, .int 1, .int (10 ^ (9 : Int).toNat), .int t1, .int t2, .int 255, .int 256] t3 = some (.int v) ∧ 0 ≤ v ∧ v ≤ 1000000000 := by
        rw [e9]
        rcases (by omega : t3 = 0 ∨ t3 = 1 ∨ t3 = 2 ∨ t3 = 3 ∨ t3 = 4 ∨ t3 = 5 ∨ t3 = 6) with rfl | rfl | rfl | rfl | rfl | rfl | rfl
        · exact ⟨0, rfl, by omega, by omega⟩
        · exact ⟨1, rfl, by omega, by omega⟩
        · exact ⟨1000000000, rfl, by omega, by omega⟩
        · exact ⟨t1, rfl, by omega, by omega⟩
        · exact ⟨t2, rfl, by omega, by omega⟩
        · exact ⟨255, rfl, by omega, by omega⟩
        · exact ⟨256, rfl, by omega, by omega⟩
      obtain ⟨v, ev, v0, v1⟩ := pick
      exact ⟨l1, _, _, _, rfl, rfl, SqL.of x1, ev, plain rfl (fun z e => by cases e) (((k1.trans k2).new hl1).trans k3) (b3.mono (by omega)) (.num v) ⟨v0, v1⟩ (fun e => by cases e) fun _ => ⟨v, rfl⟩⟩
    have nw : PyData.eqv k.d (.str "whole") = false := by
      cases k with
      | lst b0 => rfl
      | one b0 =>
        cases b0 with
        | whole => exact absurd rfl ew
        | truth => decide +kernel
        | text => decide +kernel
        | ch z => rfl
        | rc z => rfl
    rw [nw]
    refine iteF ?_
    refine ⟨_, rfl, _, _, Tp.dp _ _ tk, .str _, shk, sht, _, rfl, ?_⟩
    by_cases et : k = .one .truth
    · subst et
      refine ite2 (fun _ => ?_) (fun h => absurd (by decide +kernel) h)
      refine ⟨_, rfl, b, 2, n, rfl, by decide, by decide, hB, by omega, fun t1 H1 t10 t11 k1 b1 => ?_⟩
      exact ⟨rfl, plain rfl (fun z e => by cases e) k1 (b1.mono (by omega)) (.tru _) True.intro (fun e => by cases e) fun e => by cases e⟩
    have nt : PyData.eqv k.d (.str "truth") = false := by
      cases k with
      | lst b0 => rfl
      | one b0 =>
        cases b0 with
        | whole => exact absurd rfl ew
        | truth => exact absurd rfl et
        | text => decide +kernel
        | ch z => rfl
        | rc z => rfl
    rw [nt]
    refine iteF ?_
    refine ⟨_, rfl, _, _, Tp.dp _ _ tk, .str _, shk, shx, _, rfl, ?_⟩
    by_cases ex : k = .one .text
    · subst ex
      refine ite2 (fun _ => ?_) (fun h => absurd (by decide +kernel) h)
      refine ⟨⟨_, rfl⟩, fun v H1 => ∃ m : Int, v = .int m ∧ 0 ≤ m ∧ m ≤ 20 ∧ Kp b H H1 ∧ Bag H1 b (n + 2), ?_, ?_⟩
      · refine ⟨_, rfl, (by show 2 ≤ sizeLine; decide), fun p1 hp1 => ?_⟩
        have npb : p1 ≠ b := new_ne hp1 hB
        refine ⟨_, rfl, b, 2, n, rfl, by decide, by decide, hB.new hp1, by omega, fun d3 H3 d30 d31 k3 b3 => ?_⟩
        have hp3 := k3 _ _ npb upd_same
        have K3 : Kp b H H3 := (Kp.refl.new hp1).trans k3
        have fin : ∀ m : Int, 0 < m → m ≤ 21 → ∃ (b_1 : Addr) (size : Int) (n_1 : Nat), [V.ref b, .int m] = [.ref b_1, .int size] ∧ 0 < size ∧ size < 1073741824 ∧ Bag H3 b_1 n_1 ∧ n_1 ≤ most ∧ ∀ (d : Int) (H' : Hp), 0 ≤ d → d < size → Kp b_1 H3 H' → Bag H' b_1 (n_1 + 1) → ∃ m, V.int d = .int m ∧ 0 ≤ m ∧ m ≤ 20 ∧ Kp b H H' ∧ Bag H' b (n + 2) := fun m m0 m1 =>
          ⟨b, m, _, rfl, m0, by omega, b3, by omega, fun d H4 d0 d1 k4 b4 => ⟨d, rfl, d0, by omega, K3.trans k4, b4⟩⟩
        rcases (by omega : d3 = 0 ∨ d3 = 1) with rfl | rfl
        · exact ⟨p1, _, _, _, rfl, rfl, SqL.of hp3, rfl, fin 3 (by decide) (by decide)⟩
        · exact ⟨p1, _, _, _, rfl, rfl, SqL.of hp3, rfl, fin 21 (by decide) (by decide)⟩
      rintro v H1 ⟨m, rfl, m0, m1, K1, B1⟩
      refine ⟨m, rfl, by omega, by omega, fun D hD => ?_⟩
      have nDb : D ≠ b := new_ne hD B1
      refine lc_range (lo := 0) (n := m.toNat) (fun i H3 => Kp b H H3 ∧ Bag H3 b (n + 2 + i) ∧ ∃ cs : List Nat, H3 D = some (.lst ((cs.map one).map V.str)) ∧ cs.length = i ∧ ∀ c ∈ cs, sgn c) ?_ ?_ ?_
      · exact ⟨K1.new hD, B1.new hD, [], upd_same, rfl, fun c h => nomatch h⟩
      · rintro i H3 hi ⟨K3, B3, cs, hD3, hl, hc⟩
        refine ⟨rfl, ?_⟩
        refine yes (iteT ?_)
        refine ⟨_, rfl, _, rfl, _, rfl, TS, rfl, by decide +kernel, b, ((TS.length : Nat) : Int), n + 2 + i, rfl, by decide +kernel, by decide +kernel, B3, by omega, fun e H4 e0 e1 K4 B4 => ?_⟩
        obtain ⟨c, hce, hcl⟩ := ts_at e0 e1
        refine ⟨_, _, c, rfl, rfl, by decide +kernel, hce, ?_⟩
        have hD4 := K4 D _ nDb hD3
        have hsz : ((cs.map one).map V.str).length < sizeLine := by
          rw [List.length_map, List.length_map, hl]
          exact Nat.lt_of_lt_of_le (show i < 21 by omega) (by decide)
        refine ⟨_, hD4, hsz, ?_⟩
        refine ⟨(K3.trans K4).wr ?_, B4.ne nDb, cs ++ [c], ?_, by rw [List.length_append, hl]; rfl, ?_⟩
        · exact K1.free B1.at hD
        · rw [upd_same, List.map_append, List.map_append]; rfl
        · intro c' hc'
          rcases List.mem_append.mp hc' with h | h
          · exact hc c' h
          · rw [List.mem_singleton.mp h]; exact hcl
      · rintro H3 ⟨K3, B3, cs, hD3, hl, hc⟩
        have tl : (Txt.join "" (cs.map one)).cps.toList = cs := by
          show (Builtin.Str.glued "" (cs.map one)).cps.toList = cs
          rw [StrLaws.glued_eq_join]
          exact tl_ones cs _ rfl
        refine ⟨_, _, _, rfl, rfl, .inl (SqL.of hD3), ?_, ?_⟩
        · rw [len_ones, List.length_map, hl]
          show _ + _ * 0 ≤ _
          omega
        · refine plain rfl (fun z e => by cases e) K3 (B3.mono (by omega)) (.txt _) ⟨?_, ?_⟩ (fun _ => ⟨_, rfl⟩) fun e => by cases e
          · have z := congrArg List.length tl
            rw [hl, Array.length_toList] at z
            show (Txt.join "" (cs.map one)).cps.size ≤ 20
            omega
          · rw [tl]
            exact fun c h => by have := hc c h; unfold sgn at this; omega
    have nx : PyData.eqv k.d (.str "text") = false := by
      cases k with
      | lst b0 => rfl
      | one b0 =>
        cases b0 with
        | whole => exact absurd rfl ew
        | truth => exact absurd rfl et
        | text => exact absurd rfl ex
        | ch z => rfl
        | rc z => rfl
    rw [nx]
    refine iteF ?_
    clear nw nt nx
    rcases kn_inv tk with ⟨_, hk⟩ | ⟨a, u, rfl, ha, tu⟩
    · rcases hk with hk | hk | hk
      · exact absurd hk ew
      · exact absurd hk et
      · exact absurd hk ex
    refine ⟨_, rfl, a, _, _, _, rfl, rfl, SqT.of ha, rfl, rfl, _, rfl, ?_⟩
    by_cases ec : ∃ z, k = .one (.ch z)
    · obtain ⟨z, rfl⟩ := ec
      refine ite2 (fun _ => ?_) (fun h => absurd (decide_eq_true rfl) h)
      cases tu.istr
      have zin : z ∈ (S.cs.map pckD).map Prod.fst := by
        rcases q with ⟨_, g, _⟩ | ⟨k0, _, _, e0, _⟩ | ⟨z', fl, _, _, e0, _⟩
        · exact g
        · cases e0
        · cases e0
      obtain ⟨d, hlc⟩ := mem_look zin
      obtain ⟨c1, hc1, ed1⟩ := List.mem_map.mp (look_mem hlc)
      cases ed1
      refine ⟨_, rfl, p, _, _, _, rfl, rfl, SqT.of hp, rfl, _, rfl, a, _, _, _, rfl, rfl, SqT.of ha, rfl, _, _, S.cs.map pckD, _, rfl, tp_r9 t3, hlc, fun ov tv => ?_⟩
      obtain ⟨c2, xs, rfl, hc, tq⟩ := Tp.inv tv
      have lo : xs.length = c1.2.length := by rw [tq.length, List.length_map]
      have lo1 : 1 ≤ c1.2.length := List.length_pos_iff.mpr (so.pk.ne c1 hc1)
      have lo2 := so.pk.l6 c1 hc1
      refine ⟨_, rfl, _, rfl, _, rfl, c2, _, rfl, .inr (SqT.of hc), b, _, n, rfl, by omega, by omega, hB, by omega, fun t1 H1 t10 t11 k1 b1 => ?_⟩
      obtain ⟨v, ev, ev2, _⟩ := atI_in (xs := xs) t10 t11
      obtain ⟨o, t, ho, rfl, ht⟩ := opts_at tq ev2
      refine ⟨c2, _, _, _, rfl, rfl, SqT.of (k1 _ _ (tup_ne hc hB) hc), ev, t, _, _, _, rfl, rfl, SqT.of (k1 _ _ (tup_ne ht hB) ht), rfl, ?_⟩
      exact plain rfl (fun z e => by cases e) k1 (b1.mono (by omega)) (.txt o.2) (nm_shs (so.pk.nm c1 hc1 o (List.mem_of_getElem? ho))) (fun e => by cases e) fun e => by cases e
    have nc : decide (V.str k.word = V.str "choice") = false := by
      cases k with
      | lst b0 => exact decide_eq_false (sne (by decide +kernel : ("list" : Str) ≠ "choice"))
      | one b0 =>
        cases b0 with
        | whole => exact absurd rfl ew
        | truth => exact absurd rfl et
        | text => exact absurd rfl ex
        | ch z => exact absurd ⟨z, rfl⟩ ec
        | rc z => exact decide_eq_false (sne (by decide +kernel : ("record" : Str) ≠ "choice"))
    rw [nc]
    refine iteF ?_
    rcases q with ⟨_, g, k0, rfl, nr, _⟩ | ⟨k0, j2, dp1, rfl, g, q⟩ | ⟨z, fl, j3, rfl, rfl, nz, hlr, ok, q⟩
    · cases k0 with
      | whole => exact absurd rfl ew
      | truth => exact absurd rfl et
      | text => exact absurd rfl ex
      | ch z => exact absurd ⟨z, rfl⟩ ec
      | rc z => exact absurd rfl (nr z)
    · refine ⟨_, rfl, rfl, _, rfl, ite2 (fun hd => absurd (of_decide_eq_true hd) (fun e => by injection e; omega)) (fun _ => ?_)⟩
      refine ⟨_, rfl, a, _, _, _, rfl, rfl, SqT.of ha, rfl, rfl, _, rfl, ite2 (fun _ => ?_) (fun h => absurd (decide_eq_true rfl) h)⟩
      refine ⟨fun σ H1 => ∃ size : Int, 0 ≤ size ∧ size ≤ 6 ∧ σ = [some (.ref b), some (.ref p), some (.ref a), some (.int dp), none, none, none, some (.int size), none, none, none, none, none] ∧ Kp b H H1 ∧ Bag H1 b (n + 2), ?_, ?_⟩
      · refine ⟨fun v H1 => ∃ m : Int, v = .int m ∧ 0 ≤ m ∧ m ≤ 6 ∧ Kp b H H1 ∧ Bag H1 b (n + 2), ?_, ?_⟩
        · refine ⟨_, rfl, (by show 2 ≤ sizeLine; decide), fun p1 hp1 => ?_⟩
          have npb : p1 ≠ b := new_ne hp1 hB
          refine ⟨_, rfl, b, 4, n, rfl, by decide, by decide, hB.new hp1, by omega, fun d3 H3 d30 d31 k3 b3 => ?_⟩
          have hp3 := k3 _ _ npb upd_same
          have K3 : Kp b H H3 := (Kp.refl.new hp1).trans k3
          have fin : ∀ m : Int, 0 < m → m ≤ 7 → ∃ (b_1 : Addr) (size : Int) (n_1 : Nat), [V.ref b, .int m] = [.ref b_1, .int size] ∧ 0 < size ∧ size < 1073741824 ∧ Bag H3 b_1 n_1 ∧ n_1 ≤ most ∧ ∀ (d : Int) (H' : Hp), 0 ≤ d → d < size → Kp b_1 H3 H' → Bag H' b_1 (n_1 + 1) → ∃ m, V.int d = .int m ∧ 0 ≤ m ∧ m ≤ 6 ∧ Kp b H H' ∧ Bag H' b (n + 2) := fun m m0 m1 =>
            ⟨b, m, _, rfl, m0, by omega, b3, by omega, fun d H4 d0 d1 k4 b4 => ⟨d, rfl, d0, by omega, K3.trans k4, b4⟩⟩
          refine ⟨rfl, .inr ⟨_, rfl, ?_⟩⟩
          cases decide (V.int d3 = V.int 0) with
          | true => exact ⟨p1, _, _, _, rfl, rfl, SqL.of hp3, rfl, fin 7 (by decide) (by decide)⟩
          | false => exact ⟨p1, _, _, _, rfl, rfl, SqL.of hp3, rfl, fin 3 (by decide) (by decide)⟩
        · rintro v H1 ⟨m, rfl, m0, m1, K1, B1⟩
          exact ⟨m, m0, m1, rfl, K1, B1⟩
      rintro σ H1 ⟨size, s0, s6, rfl, K1, b1⟩
      refine ⟨_, rfl, size, rfl, by omega, by omega, fun D hD => ?_⟩
      have nDb : D ≠ b := new_ne hD b1
      have hDH : H D = none := K1.free b1.at hD
      refine lc_range (lo := 0) (n := size.toNat) (fun i H3 => Kp b H H3 ∧ Bag H3 b (n + 2 + i * 30) ∧ ∃ (xs : List V) (us : List Vl), H3 D = some (.lst xs) ∧ VDs H3 xs us ∧ us.length = i ∧ ∀ v ∈ us, RS v) ?_ ?_ ?_
      · exact ⟨K1.new hD, (b1.new hD).mono (by omega), [], [], upd_same, .nil, rfl, fun v h => nomatch h⟩
      · rintro i H3 hi ⟨K3, b3, xs, us, h3, vs3, lus, ok3⟩
        refine ⟨rfl, yes (iteT ?_)⟩
        have ha3 := K3 _ _ (tup_ne ha hB) ha
        refine ⟨_, rfl, _, rfl, _, rfl, a, _, _, _, rfl, rfl, SqT.of ha3, rfl, _, rfl, _, _, rfl, rfl, ?_⟩
        have j1 : 1 ≤ j := by omega
        have nr : ∀ z, k0 ≠ .rc z := fun z e => by
          rw [e] at g
          exact g
        refine ⟨b, p, u, dp - 1, n + 2 + i * 30, S, nm, ed, .one k0, rfl, b3, by omega, Tp.keep (K3.tk hB) _ _ hP0, so, Tp.keep (K3.tk hB) _ _ tu, .inl ⟨j1, g, k0, rfl, nr, fun x v H5 K5 b5 vx rx _ _ => ?_⟩⟩
        have h5 := K5 _ _ nDb h3
        refine ⟨_, h5, ?_, (K3.trans K5).wr hDH, (b5.ne nDb).mono (by omega), xs ++ [x], us ++ [v], upd_same, ?_, by rw [List.length_append, lus]; rfl, fun v' hv' => ?_⟩
        · have := vs3.length
          rw [this, lus]
          exact Nat.lt_of_lt_of_le (show i < 6 by omega) (by decide)
        · exact (vs3.scal fun w hw => (ok3 w hw).scal).app (.cons (vx.scal rx.scal) .nil)
        · rcases List.mem_append.mp hv' with h | h
          · exact ok3 v' h
          · rw [List.mem_singleton.mp h]
            exact rx
      · rintro H3 ⟨K3, b3, xs, us, h3, vs3, lus, ok3⟩
        refine ⟨D, _, rfl, .inl ⟨SqL.of h3, fun pt hpt => ?_⟩⟩
        refine q (.ref pt) (.lst us) _ (K3.new hpt) ((b3.new hpt).mono (by omega)) (.lst upd_same (vs3.scal fun w hw => (ok3 w hw).scal)) ⟨by omega, ok3⟩
    · refine ⟨_, rfl, rfl, _, rfl, ite2 (fun hd => absurd (of_decide_eq_true hd) (fun e => by injection e; omega)) (fun _ => ?_)⟩
      refine ⟨_, rfl, a, _, _, _, rfl, rfl, SqT.of ha, rfl, rfl, _, rfl, ite2 (fun h => absurd (of_decide_eq_true h) (sne (by decide +kernel : ("record" : Str) ≠ "list"))) (fun _ => ?_)⟩
      cases tu.istr
      have l5 : fl.length ≤ 5 := ok.l
      have nf := ok.nd
      intro fo hfo
      have nfo : fo ≠ b := new_ne hfo hB
      have K1 : Kp b H (upd H fo (.dK [])) := Kp.refl.new hfo
      have b1 := hB.new (o := .dK []) hfo
      have f1 : (upd H fo (.dK [])) fo = some (.dK []) := upd_same
      have hp1 := hup (o := .dK []) hfo hp
      have t41 := Tp.keep (Tk.new (o := .dK []) hfo) _ _ t4
      have ha1 := hup (o := .dK []) hfo ha
      generalize upd H fo (.dK []) = H1 at *
      refine ⟨_, rfl, p, _, _, _, rfl, rfl, SqT.of hp1, rfl, _, rfl, a, _, _, _, rfl, rfl, SqT.of ha1, rfl, _, _, S.rows, _, rfl, tp_r9 t41, hlr, fun ov tv => ?_⟩
      obtain ⟨cf, ys, rfl, hcf, tys⟩ := Tp.inv tv
      have ly : ys.length = fl.length := by rw [tys.length, List.length_map]
      refine ⟨cf, rfl, ⟨_, SqT.of hcf⟩, ?_⟩
      refine for_tup (xs := ys) (fun i σ H3 => (∃ a9 a10 a11 a12, σ = [some (.ref b), some (.ref p), some (.ref a), some (.int 2), none, none, none, none, some (.ref fo), a9, a10, a11, a12]) ∧ Tk H1 H3 ∧ Bag H3 b (n + i * 300) ∧ Kp b H H3 ∧ ∃ (fs : List (Str × Vl)), VD H3 (.ref fo) (.rcd fs) ∧ (∀ f ∈ fs, RF f.2) ∧ FlR fs ∧
        (fs.map Prod.fst).Sublist ((fl.take i).map (·.nam)) ∧ (∀ g ∈ fl.take i, g.nam = "who" → ∃ z, fs.lookup ("who" : Str) = some (.txt z) ∧ Shs z) ∧ (∀ g ∈ fl.take i, g.nam = "sum" → ∃ m, fs.lookup ("sum" : Str) = some (.num m) ∧ 0 ≤ m ∧ m ≤ 1000000000)) ?_ ?_ ?_ ?_
      · exact ⟨⟨_, _, _, _, rfl⟩, Tk.refl, b1.mono (by omega), K1, [], .rcd f1 rfl .nil, (fun f h => nomatch h), FlR.nil, List.nil_sublist _, (fun g h => by simp at h), fun g h => by simp at h⟩
      · rintro i σ H3 _ ⟨_, T3, _⟩
        exact SqT.of (T3 _ _ hcf)
      · rintro i x σ H3 hx ⟨⟨a9, a10, a11, a12, rfl⟩, T3, b3, K3, fs, v3, rf3, flr3, sub, wh3, sm3⟩
        obtain ⟨g, t, kv2, hg, rfl, ht, tkv⟩ := flds_at (fs := fl) tys hx
        have gm := List.mem_of_getElem? hg
        have hi := (List.getElem?_eq_some_iff.mp hg).1
        have et2 : fl.take (i + 1) = fl.take i ++ [g] := by rw [List.take_add_one, hg]; rfl
        have gnew : g.nam ∉ (fl.take i).map (·.nam) := fun hm => by
          have nd2 : ((fl.take i ++ [g]).map (·.nam)).Nodup := by
            rw [← et2]
            exact nf.sublist (List.Sublist.map _ (List.take_sublist _ _))
          rw [List.map_append, List.nodup_append] at nd2
          exact nd2.2.2 _ hm _ (List.mem_singleton.mpr rfl) rfl
        refine ⟨t, _, rfl, SqT.of (T3 _ _ ht), rfl, _, _, rfl, _, _, rfl, _, _, rfl, _, _, rfl, rfl, ?_⟩
        refine ⟨fun c H4 => Kp b H3 H4 ∧ Bag H4 b (n + i * 300 + 1) ∧ (g.must = true → c = true), ?_, ?_⟩
        · refine ⟨_, rfl, rfl, _, rfl, ?_⟩
          rw [need_must]
          cases g.must with
          | true => exact iteT ⟨Kp.refl, b3.mono (by omega), fun _ => rfl⟩
          | false =>
            refine iteF ?_
            refine ⟨_, rfl, b, 2, _, rfl, by decide, by decide, b3, by omega, fun t1 H4 t10 t11 k4 b4 => ?_⟩
            exact ⟨rfl, _, rfl, k4, b4, fun h => by cases h⟩
        rintro cb H4 ⟨K34, b4, hmust⟩
        have T4 : Tk H1 H4 := T3.trans (K34.tk b3)
        have K4 : Kp b H H4 := K3.trans K34
        have v4 := rd_keep v3 (fun f hf => (rf3 f hf).flat) (K34.tk b3) (fun o e => K34 _ o nfo e)
        cases cb with
        | false =>
          have nm' : g.must = false := by
            cases h : g.must with
            | false => rfl
            | true => have := hmust h; cases this
          refine iteF ?_
          refine ⟨⟨_, _, _, _, rfl⟩, T4, b4.mono (by omega), K4, fs, v4, rf3, flr3, ?_, fun g' hg' m' => ?_, fun g' hg' m' => ?_⟩
          · rw [et2, List.map_append]
            exact sub.trans (List.sublist_append_left _ _)
          · rw [et2] at hg'
            rcases List.mem_append.mp hg' with h | h
            · exact wh3 g' h m'
            · rw [List.mem_singleton.mp h] at m'
              have := (ok.kw g gm m').2
              rw [nm'] at this
              cases this
          · rw [et2] at hg'
            rcases List.mem_append.mp hg' with h | h
            · exact sm3 g' h m'
            · rw [List.mem_singleton.mp h] at m'
              have := (ok.ks g gm m').2
              rw [nm'] at this
              cases this
        | true =>
          refine iteT ?_
          refine ⟨_, rfl, _, rfl, _, rfl, _, rfl, _, _, rfl, rfl, ?_⟩
          obtain ⟨kvs, hkv, ek, qk⟩ := rd_at v4
          have lk10 : kvs.length ≤ 5 := by
            have z1 := congrArg List.length ek
            have z2 := sub.length_le
            rw [List.length_map, List.length_map] at z1 z2
            rw [List.length_take] at z2
            omega
          have gnf : g.nam ∉ fs.map Prod.fst := fun hm => gnew (sub.subset hm)
          -- the field is put
          have fin : ∀ (x : V) (v : Vl) (H5 : Hp), Kp b H4 H5 → Bag H5 b (n + i * 300 + 1 + 250) → VD H5 x v → RF v → (g.nam = "who" → ∃ z, v = .txt z ∧ Shs z) → (g.nam = "sum" → ∃ m, v = .num m ∧ 0 ≤ m ∧ m ≤ 1000000000) →
              ∃ H6, DPut H5 fo (.str g.nam) x H6 ∧ (∃ a9 a10 a11 a12, ([some (.ref b), some (.ref p), some (.ref a), some (.int 2), none, none, none, none, some (.ref fo), some (.int g.num), some (.str g.nam), some kv2, some (.str (needS g.must))] : L2.St) = [some (.ref b), some (.ref p), some (.ref a), some (.int 2), none, none, none, none, some (.ref fo), a9, a10, a11, a12]) ∧ Tk H1 H6 ∧ Bag H6 b (n + (i + 1) * 300) ∧ Kp b H H6 ∧ ∃ (fs : List (Str × Vl)), VD H6 (.ref fo) (.rcd fs) ∧ (∀ f ∈ fs, RF f.2) ∧ FlR fs ∧
                (fs.map Prod.fst).Sublist ((fl.take (i + 1)).map (·.nam)) ∧ (∀ g ∈ fl.take (i + 1), g.nam = "who" → ∃ z, fs.lookup ("who" : Str) = some (.txt z) ∧ Shs z) ∧ (∀ g ∈ fl.take (i + 1), g.nam = "sum" → ∃ m, fs.lookup ("sum" : Str) = some (.num m) ∧ 0 ≤ m ∧ m ≤ 1000000000) := fun x v H5 K5 b5 vx rv hw hs => by
            have h5f := K5 _ _ nfo hkv
            have v5 := rd_keep v4 (fun f hf => (rf3 f hf).flat) (K5.tk b4) (fun o e => K5 _ o nfo e)
            obtain ⟨kv5, hkv5, ek5, qk5⟩ := rd_at v5
            rw [h5f] at hkv5
            cases hkv5
            have T5 := T4.trans (K5.tk b4)
            have elk : ∀ y, (fs ++ [(g.nam, v)]).lookup y = if y = g.nam then some v else fs.lookup y := fun y => by
              rw [← putL_new gnf, putL_look]
            refine ⟨_, DPut.k (k := Sum.inr g.nam) h5f (Nat.lt_of_le_of_lt lk10 (by decide)), ⟨_, _, _, _, rfl⟩, fun a' xs' e' => ?_, (b5.ne nfo).mono (by omega), (K4.trans K5).wr hfo, fs ++ [(g.nam, v)], ?_, fun f hf => ?_, ?_, ?_, fun g' hg' m' => ?_, fun g' hg' m' => ?_⟩
            · have := T5 _ _ e'
              rw [upd_ne (fun q => by rw [q, h5f] at this; cases this)]
              exact this
            · rw [← putL_new gnf]
              exact rd_put (fun f hf => (rf3 f hf).flat) rv.flat ek5 qk5 vx (tk_wr h5f) upd_same
            · rcases List.mem_append.mp hf with h | h
              · exact rf3 f h
              · rw [List.mem_singleton.mp h]
                exact rv
            · rw [← putL_new gnf]
              exact flr3.put _ rv.flat
            · rw [et2, List.map_append, List.map_append]
              exact sub.append (List.Sublist.refl _)
            · rw [elk]
              rw [et2] at hg'
              rcases List.mem_append.mp hg' with h | h
              · have ne : ("who" : Str) ≠ g.nam := fun e => gnew (by rw [← e]; exact List.mem_map.mpr ⟨g', h, m'⟩)
                rw [if_neg ne]
                exact wh3 g' h m'
              · rw [List.mem_singleton.mp h] at m'
                rw [if_pos m'.symm]
                obtain ⟨z, e, s⟩ := hw m'
                exact ⟨z, by rw [e], s⟩
            · rw [elk]
              rw [et2] at hg'
              rcases List.mem_append.mp hg' with h | h
              · have ne : ("sum" : Str) ≠ g.nam := fun e => gnew (by rw [← e]; exact List.mem_map.mpr ⟨g', h, m'⟩)
                rw [if_neg ne]
                exact sm3 g' h m'
              · rw [List.mem_singleton.mp h] at m'
                rw [if_pos m'.symm]
                obtain ⟨z, e, s⟩ := hs m'
                exact ⟨z, by rw [e], s⟩
          have gg := ok.gk g gm
          have j2 : 2 ≤ j := by omega
          refine ⟨b, p, kv2, 2 - 1, n + i * 300 + 1, S, nm, ed, g.kd, rfl, b4, by omega, Tp.keep (K4.tk hB) _ _ hP0, so, Tp.keep T4 _ _ tkv, ?_⟩
          cases hk : g.kd with
          | one k0 =>
            rw [hk] at gg
            have nr : ∀ z, k0 ≠ .rc z := fun z e => by
              rw [e] at gg
              exact gg
            refine .inl ⟨by omega, gg, k0, rfl, nr, fun x v H5 K5 b5 vx rx tx wx => ?_⟩
            obtain ⟨H6, d6, r6⟩ := fin x v H5 K5 (b5.mono (by omega)) vx rx.rf (fun e => by
              have := (ok.kw g gm e).1
              rw [hk] at this
              cases this
              obtain ⟨z, rfl⟩ := tx rfl
              exact ⟨z, rfl, rx⟩) (fun e => by
              have := (ok.ks g gm e).1
              rw [hk] at this
              cases this
              obtain ⟨z, rfl⟩ := wx rfl
              exact ⟨z, rfl, rx⟩)
            exact ⟨_, rfl, _, rfl, fo, _, rfl, d6, r6⟩
          | lst k0 =>
            rw [hk] at gg
            refine .inr (.inl ⟨k0, j2, by omega, rfl, gg, fun x v H5 K5 b5 vx rx => ?_⟩)
            obtain ⟨H6, d6, r6⟩ := fin x v H5 K5 b5 vx rx (fun e => by
              have := (ok.kw g gm e).1
              rw [hk] at this
              cases this) (fun e => by
              have := (ok.ks g gm e).1
              rw [hk] at this
              cases this)
            exact ⟨_, rfl, _, rfl, fo, _, rfl, d6, r6⟩
      · rintro σ H3 ⟨⟨a9, a10, a11, a12, rfl⟩, T3, b3, K3, fs, v3, rf3, flr3, sub, wh3, sm3⟩
        rw [ly, List.take_length] at sub wh3 sm3
        rw [ly] at b3
        obtain ⟨gw, hgw, egw⟩ := List.mem_map.mp ok.who
        obtain ⟨gs, hgs, egs⟩ := List.mem_map.mp ok.sum
        obtain ⟨z, ez, sz⟩ := wh3 gw hgw egw
        obtain ⟨m, em, m0, m1⟩ := sm3 gs hgs egs
        have l5' : fs.length ≤ 5 := by
          have := sub.length_le
          rw [List.length_map, List.length_map] at this
          omega
        refine ⟨_, rfl, q fo fs z m H3 K3 (b3.mono (by omega)) v3 hfo ⟨⟨flr3, ez, em, m0, m1, by omega⟩, rf3, fun f hf => ?_, sz, l5'⟩⟩
        exact ok.sn _ (sub.subset (List.mem_map.mpr ⟨f, hf, rfl⟩))
end
end Fh

set_option Elab.async false
set_option linter.all false
set_option maxRecDepth 100000
set_option maxHeartbeats 4000000
namespace Fh
open PySem L2 PyProof.Rows
abbrev sCal9 : Stmt := top 38
abbrev sRun9 : Stmt := top 42
abbrev nCal9 : List Str := ["_law_parts", "_law_figure", "_law_one"]
abbrev nRun9 : List Str := ["_law_parts", "_law_others", "_law_figure", "_law_thing", "_law_held", "_law_heard", "_law_call", "_law_left", "_law_found", "_law_replied", "_law_last", "_law_deed", "_law_name_here", "_law_many", "_law_now"]
abbrev pRun9 : List Str := ["_law_parts", "_law_others", "_law_figure", "_law_thing", "_law_held", "_law_heard"]
theorem nodup_inr : ∀ {fs : List (Str × Vl)}, (fs.map Prod.fst).Nodup → (fs.map (fun f => (Sum.inr f.1 : Key))).Nodup
  | [], _ => List.nodup_nil
  | f :: fs, h => by
    rw [List.map_cons, List.nodup_cons] at h
    rw [List.map_cons, List.nodup_cons]
    refine ⟨fun hm => ?_, nodup_inr h.2⟩
    obtain ⟨g, hg, e⟩ := List.mem_map.mp hm
    have e : g.1 = f.1 := Sum.inr.inj e
    exact h.1 (by rw [← e]; exact List.mem_map.mpr ⟨g, hg, rfl⟩)
def spCal9 : Sp := fun vs H Q _ => ∃ (p : Addr) (S : Srv9) (nm : Str) (ed fig : Int) (c : Cl9), vs = [.ref p, .int fig] ∧ Tp H (.ref p) (S.d nm ed) ∧ S.cl.find? (numIs9 fig) = some c ∧ ∀ (t : Addr) (u : V), H t = some (.tup [.int c.num, .str c.nam, .str c.ask, .str c.ans, u]) → Tp H u (.tuple (c.ds.map Dd9.d)) → Q (.ref t) H
def spRun9 : Sp := fun vs H Q _ => ∃ (p vd sd : Addr) (o1 a1 : V) (num : Int) (S : Srv9) (nm : Str) (ed : Int) (c : Cl9) (fs h0 : List (Str × Vl)) (w : Str) (n : Int), vs = [.ref p, o1, .int num, .ref vd, .ref sd, a1] ∧ Tp H (.ref p) (S.d nm ed) ∧ S.cl.find? (numIs9 num) = some c ∧ c.ds.length ≤ 10 ∧ VD H (.ref vd) (.rcd fs) ∧ VOk fs w n ∧ VD H (.ref sd) (.rcd h0) ∧ NumS h0 ∧ h0.length ≤ 900 ∧
  ∀ r H', Same H H' → Res9 H H' r (run9 fs w n c.ds h0 []) → Q r H'
section
variable {P : Program} {w : World} {K : PySem.W.Frag} {mg : Str → Option Value} {base : Heap}
theorem scCal9 : FnScope nCal9 ["_law_parts", "_law_figure"] (defScope sCal9) := ⟨rfl, rfl, rfl, by decide +kernel, rfl, by decide +kernel, by decide +kernel⟩
theorem ok_cal9 {f : Addr} {fd : FuncData} (F : Fun K "_law_call_of" "_law_call_of" sCal9 f fd) : FnOk P w K mg base CX0 1 f fd ["_law_parts", "_law_figure"] spCal9 := by
  refine F.ok scCal9 (fun vs H Q E h => ?_) (fun cdv A outer s H vs Q E hr h => ?_)
  · obtain ⟨p, S, nm, ed, fig, c, rfl, _⟩ := h
    rfl
  · obtain ⟨p, S, nm, ed, n, c, rfl, hP, hf, q⟩ := h
    refine ⟨_, (pss_cons (ps_for PassesOwn.never rfl (pi_tup (pe_ix ix_tup (pv 0) pe_int (fun _ _ => rfl))) (pg_name (i := 2) scCal9.nd rfl (Or.inl rfl))
      (pss_one (ps_if (pt_cmpR op_eq (pe_ix ix_tup (pv 2) pe_int (fun _ _ => rfl)) (pv 1) (nomark _))
      (pss_one (ps_ret (pv 2)))
      pss_nil)))
      (pss_one (ps_ret pe_non))), ?_⟩
    obtain ⟨pa, x1, x2, x3, x4, x5, epa, hp, _, _, _, _, t5⟩ := Tp.five hP
    cases epa
    obtain ⟨e, xs, rfl, he, tx⟩ := Tp.inv t5
    refine ⟨_, rfl, p, _, _, _, rfl, rfl, SqT.of hp, rfl, e, rfl, ⟨_, SqT.of he⟩, ?_⟩
    refine for_tup (xs := xs) (fun i σ H3 => H3 = H ∧ (∃ a2, σ = [some (.ref p), some (.int n), a2]) ∧ ∀ (j : Nat) (d : Cl9), j < i → S.cl[j]? = some d → numIs9 n d = false) ?_ ?_ ?_ ?_
    · exact ⟨rfl, ⟨_, rfl⟩, fun j r hj => absurd hj (Nat.not_lt_zero _)⟩
    · rintro i σ H3 _ ⟨rfl, _⟩
      exact SqT.of he
    · rintro i x σ H3 hx ⟨rfl, ⟨a2, rfl⟩, hB⟩
      obtain ⟨d, t, u, hd, rfl, ht, tu⟩ := calls9_at tx hx
      refine ⟨_, rfl, t, _, 0, _, rfl, rfl, SqT.of ht, rfl, _, rfl, rfl, _, rfl, ?_⟩
      by_cases en : d.num = n
      · rw [show decide (V.int d.num = V.int n) = true from decide_eq_true (by rw [en])]
        refine iteT ?_
        have := find_first9 hf hd (decide_eq_true en) hB
        subst this
        exact ⟨_, rfl, q t u ht tu⟩
      · rw [show decide (V.int d.num = V.int n) = false from decide_eq_false (fun h => en (by injection h))]
        refine iteF ⟨rfl, ⟨_, rfl⟩, fun j s hj hs => ?_⟩
        by_cases ej : j = i
        · rw [ej, hd] at hs
          cases hs
          exact decide_eq_false en
        · exact hB j s (by omega) hs
    · rintro σ H3 ⟨rfl, _, hB⟩
      obtain ⟨i, hi⟩ := List.mem_iff_getElem?.mp (List.mem_of_find?_eq_some hf)
      have el : xs.length = S.cl.length := by rw [tx.length, List.length_map]
      have := hB i c (by rw [el]; exact (List.getElem?_eq_some_iff.mp hi).1) hi
      rw [List.find?_some hf] at this
      cases this
theorem scRun9 : FnScope nRun9 pRun9 (defScope sRun9) := ⟨rfl, rfl, rfl, by decide +kernel, rfl, by decide +kernel, by decide +kernel⟩
theorem ok_run9 {f : Addr} {fd : FuncData} (F : Fun K "_law_run" "_law_run" sRun9 f fd) (G : Glb mg) (DC : Has P w K mg base "_law_call_of" 1 ["_law_parts", "_law_figure"] spCal9) : FnOk P w K mg base CX0 2 f fd pRun9 spRun9 := by
  refine F.ok scRun9 (fun vs H Q E h => ?_) (fun cdv A outer s H vs Q E hr h => ?_)
  · obtain ⟨p, vd, sd, o1, a1, num, S, nm, ed, c, fs, h0, w, n, rfl, _⟩ := h
    rfl
  · obtain ⟨p, vd, sd, o1, a1, num, S, nm, ed, c, fs, h0, w, n, rfl, hP, hf, ld, hv, vo, hs, ns, l0, k⟩ := h
    have hu := hu_of hr
    refine ⟨_, (pss_cons (ps_set (i := 6) scRun9.nd rfl (Or.inl rfl) (pe_has DC (hr.mono (by omega)) rfl (pa_cons (pv 0) (pa_cons (pv 2) pa_nil))))
      (pss_cons (ps_asg (pe_tup (pa_cons (pe_callTy call_dictD (by rfl) G.dict (by decide +kernel) (pa_cons (pv 4) pa_nil)) (pa_cons pe_dnewK (pa_cons pe_int (pa_cons pe_dnewK pa_nil))))) (pg_tup rfl (pgs_cons (pg_name (i := 7) scRun9.nd rfl (Or.inr rfl)) (pgs_cons (pg_name (i := 8) scRun9.nd rfl (Or.inl rfl)) (pgs_cons (pg_name (i := 9) scRun9.nd rfl (Or.inl rfl)) (pgs_cons (pg_name (i := 10) scRun9.nd rfl (Or.inl rfl)) pgs_nil))))))
      (pss_cons (ps_for PassesOwn.never rfl (pi_tup (pe_ix ix_tup (pv 6) pe_int (fun _ _ => rfl))) (pg_name (i := 11) scRun9.nd rfl (Or.inl rfl))
      (pss_one (ps_if (pt_cmpR op_in_seq (pe_ix ix_tup (pv 11) pe_int (fun _ _ => rfl)) (pe_tup (pa_cons pe_str (pa_cons pe_str pa_nil))) rfl)
      (pss_cons (ps_par (i := 12) (j := 13) rfl scRun9.nd rfl rfl (by decide) rfl rfl (pa_cons (pe_dget hu (pv 3) (pe_ix ix_tup (pv 11) pe_int (fun _ _ => rfl)) (fun _ _ => rfl)) (pa_cons (pe_dget hu (pv 3) (pe_ix ix_tup (pv 11) pe_int (fun _ _ => rfl)) (fun _ _ => rfl)) pa_nil)) (by rfl))
      (pss_cons (ps_set (i := 14) scRun9.nd rfl (Or.inl rfl) (pe_op op_add (pe_dget2 hu (pv 7) (pv 12) pe_int ⟨rfl, rfl, rfl, rfl⟩) (pe_op op_mul (pv 13) (pe_ix ix_list (pe_lst (pa_cons pe_int (pa_cons (pe_un un_neg pe_int) pa_nil))) (pe_callTy call_intK (by rfl) G.int (by decide +kernel) (pa_cons (pe_cmpR op_eq (pe_ix ix_tup (pv 11) pe_int (fun _ _ => rfl)) pe_str (nomark _)) pa_nil)) (fun _ _ => rfl)))))
      (pss_cons (ps_if (PW.pt (pw_or (pt_cmpR op_lt (pv 14) pe_int (nomark _)) (pw_or1 (pt_cmpR op_gt (pv 14) (pe_op op_pow pe_int pe_int) (nomark _)))))
      (pss_one (ps_ret (pe_tup (pa_cons pe_str (pa_cons (pe_ifExp (pt_cmpR op_lt (pv 14) pe_int (nomark _)) (pe_ix ix_tup (pv 11) pe_int (fun _ _ => rfl)) pe_str) pa_nil)))))
      pss_nil)
      (pss_one (ps_dput hu (pv 7) (pv 12) (pv 14) rfl)))))
      (pss_one (ps_if (pt_cmpR op_eq (pe_ix ix_tup (pv 11) pe_int (fun _ _ => rfl)) pe_str (nomark _))
      (pss_one (ps_dput hu (pv 8) (pe_ix ix_tup (pv 11) pe_int (fun _ _ => rfl)) (pe_dget2 hu (pv 7) (pe_dget hu (pv 3) (pe_ix ix_tup (pv 11) pe_int (fun _ _ => rfl)) (fun _ _ => rfl)) pe_int ⟨rfl, rfl, rfl, rfl⟩) rfl))
      (pss_one (ps_if (PW.pt (pw_and (pt_cmpR op_eq (pe_ix ix_tup (pv 11) pe_int (fun _ _ => rfl)) pe_str (nomark _)) (pw_and1 (pt_cmp (pc_din hu (pe_ix ix_tup (pv 11) pe_int (fun _ _ => rfl)) (pv 3))))))
      (pss_one (ps_dput hu (pv 8) (pe_ix ix_tup (pv 11) pe_int (fun _ _ => rfl)) (pe_dget hu (pv 3) (pe_ix ix_tup (pv 11) pe_int (fun _ _ => rfl)) (fun _ _ => rfl)) rfl))
      (pss_one (ps_if (pt_cmpR op_eq (pe_ix ix_tup (pv 11) pe_int (fun _ _ => rfl)) pe_str (nomark _))
      pss_never
      (pss_one (ps_if (pt_cmpR op_eq (pe_ix ix_tup (pv 11) pe_int (fun _ _ => rfl)) pe_str (nomark _))
      pss_never
      pss_nil)))))))))))
      (pss_one (ps_ret (pe_tup (pa_cons pe_str (pa_cons (pv 8) (pa_cons (pe_callTy (call_dictP rfl) (by rfl) G.dict (by decide +kernel) (pa_cons (pe_lock (pe_lc (own := [("_law_name_here", 12)]) (g := (gName 12)) (tt := tTest (tOp (rI0 fun i j => .bl (decide (j < i))) (tDGet (tVar 7) (tVar 12)) (tC (.int 0)))) (te := tTup (tCons (tVar 12) (tCons (tDGet (tVar 7) (tVar 12)) tNil))) rfl scRun9.nd (pi_keys (pv 7)) (blkOk_by (N := nRun9) (sc := defScope sRun9) (by decide +kernel)) (fun _ _ _ _ _ => (pg_name (i := 12) scRun9.nd rfl (Or.inl rfl))) (fun _ _ _ _ _ => pts_one (pt_cmpR op_gt (pe_dget hu (pv 7) (pv 12) (fun _ _ => rfl)) pe_int (nomark _))) (fun _ _ _ _ _ => (pe_tup (pa_cons (pv 12) (pa_cons (pe_dget hu (pv 7) (pv 12) (fun _ _ => rfl)) pa_nil)))))) pa_nil)) pa_nil))))))))), ?_⟩
    obtain ⟨k0, hk0, ek0, qk0⟩ := rd_at hs
    refine ⟨_, rfl, _, rfl, p, S, nm, ed, num, c, rfl, hP, hf, fun ct du hct tdu => ?_⟩
    obtain ⟨dt, xs, rfl, hdt, tds⟩ := tdu.inv
    refine ⟨_, rfl, sd, k0, rfl, .inl hk0, fun hd hhd => fun ad had => fun ld hld => ⟨(by show 4 ≤ sizeLine; decide), fun t0 ht0 => ?_⟩⟩
    have n1 : hd ≠ ad := fun e => by rw [← e, upd_same] at had; cases had
    have hadH : H ad = none := (Same.new (o := .dK k0) hhd).free had
    have S1 : Same H (upd (upd (upd (upd H hd (.dK k0)) ad (.dK [])) ld (.dK [])) t0 (.tup [.ref hd, .ref ad, .int 0, .ref ld])) := (((Same.new hhd).trans (Same.new had)).trans (Same.new hld)).trans (Same.new ht0)
    have hhd2 : (upd (upd (upd (upd H hd (.dK k0)) ad (.dK [])) ld (.dK [])) t0 (.tup [.ref hd, .ref ad, .int 0, .ref ld])) hd = some (.dK k0) := hup ht0 (hup hld (hup had upd_same))
    have had2 : (upd (upd (upd (upd H hd (.dK k0)) ad (.dK [])) ld (.dK [])) t0 (.tup [.ref hd, .ref ad, .int 0, .ref ld])) ad = some (.dK []) := hup ht0 (hup hld upd_same)
    refine ⟨t0, _, rfl, SqT.of upd_same, rfl, _, _, rfl, _, _, rfl, _, _, rfl, _, _, rfl, rfl, ?_⟩
    generalize (upd (upd (upd (upd H hd (.dK k0)) ad (.dK [])) ld (.dK [])) t0 (.tup [.ref hd, .ref ad, .int 0, .ref ld])) = H1 at *
    have vh2 : VD H1 (.ref hd) (.rcd h0) := .rcd hhd2 ek0 (VDs.flat (Same.tk S1) qk0 fun v hv => by obtain ⟨g, hg, rfl⟩ := List.mem_map.mp hv; exact ns.fl.fl g hg)
    refine ⟨_, rfl, ct, _, _, _, rfl, rfl, SqT.of (S1 _ _ hct), rfl, dt, rfl, ⟨_, SqT.of (S1 _ _ hdt)⟩, ?_⟩
    refine for_tup (xs := xs) (fun j σ H3 => ∃ (h a : List (Str × Vl)), (∃ a11 a12 a13 a14, σ = [some (.ref p), some o1, some (.int num), some (.ref vd), some (.ref sd), some a1, some (.ref ct), some (.ref hd), some (.ref ad), some (.int 0), some (.ref ld), a11, a12, a13, a14]) ∧ Same H H3 ∧ VD H3 (.ref hd) (.rcd h) ∧ VD H3 (.ref ad) (.rcd a) ∧ NumS h ∧ FlR a ∧ h.length ≤ 900 + j ∧ a.length ≤ j ∧ run9 fs w n (c.ds.drop j) h a = run9 fs w n c.ds h0 []) ?_ ?_ ?_ ?_
    · exact ⟨h0, [], ⟨_, _, _, _, rfl⟩, S1, vh2, .rcd had2 rfl .nil, ns, FlR.nil, l0, Nat.le_refl _, rfl⟩
    · rintro j σ H3 _ ⟨h, a, _, S3, _⟩
      exact SqT.of (S3 _ _ hdt)
    · rintro j x σ H3 e2 ⟨h, a, ⟨a11, a12, a13, a14, rfl⟩, S3, hh, ha, sh, sa, lh, la, er⟩
      obtain ⟨d, hd1, td⟩ := tds.get' e2
      obtain ⟨dd, hdd, rfl⟩ : ∃ dd, c.ds[j]? = some dd ∧ d = dd.d := by
        rw [List.getElem?_map] at hd1
        cases q : c.ds[j]? with
        | none => rw [q] at hd1; cases hd1
        | some dd => rw [q] at hd1; exact ⟨dd, rfl, (Option.some.inj hd1).symm⟩
      obtain ⟨t, rfl, ht⟩ := Dd9.inv td
      have hj6 : j < 10 := by
        have := (List.getElem?_eq_some_iff.mp hdd).1
        omega
      have drp : c.ds.drop j = dd :: c.ds.drop (j + 1) := by
        obtain ⟨hlt, e⟩ := List.getElem?_eq_some_iff.mp hdd
        rw [List.drop_eq_getElem_cons hlt, e]
      rw [drp] at er
      have ht3 := S3 _ _ ht
      refine ⟨_, rfl, t, _, _, _, rfl, rfl, SqT.of ht3, (by cases dd <;> rfl : atI (dd.ps.map V.str) 0 = some (.str (dd.ps.headD ""))), (by show 2 ≤ sizeLine; decide), fun t2 ht2 => ?_⟩
      have S4 := Same.new (H := H3) (o := .tup [.str "take", .str "add"]) ht2
      have h42 : (upd H3 t2 (.tup [.str "take", .str "add"])) t2 = some (.tup [.str "take", .str "add"]) := upd_same
      generalize upd H3 t2 (.tup [.str "take", .str "add"]) = H4 at *
      refine ⟨t2, _, rfl, .inr (SqT.of h42), rfl, rfl, _, rfl, ?_⟩
      have S34 := S3.trans S4
      have hv4 := hv.same S34
      have hh4 := hh.same S4
      have ha4 := ha.same S4
      have ht4 := S4 _ _ ht3
      obtain ⟨kv, hkv, ekv, qkv⟩ := rd_at hv4
      obtain ⟨kh, hkh, ekh, qkh⟩ := rd_at hh4
      obtain ⟨ka, hka, eka, qka⟩ := rd_at ha4
      have lkh : kh.length < sizeLine := by rw [rd_len (H := H4) (a := hd) ekh]; exact small9 (by omega)
      have lka : ka.length < sizeLine := by rw [rd_len (H := H4) (a := ad) eka]; exact small9 (by omega)
      have gw : valV kv (Sum.inr "who") = some (.str w) := by
        obtain ⟨x, hx, vx⟩ := (vd_at ekv qkv "who").2 _ vo.lw
        cases vx
        exact hx
      have gs : valV kv (Sum.inr "sum") = some (.int n) := by
        obtain ⟨x, hx, vx⟩ := (vd_at ekv qkv "sum").2 _ vo.ls
        cases vx
        exact hx
      have gg := gotS_val sh ekh qkh w
      have grg := gotS_rg sh w
      have keepS : ∀ {a' : Addr} {o : HO}, H a' = none → Same H (upd H4 a' o) := fun {a' o} e => Same.wr S34 e
      -- the next turn
      have nxt : ∀ (h' : List (Str × Vl)) (H5 : Hp) (s12 s13 s14 : Option V), mv9 w n dd h = .inr h' → Same H H5 → VD H5 (.ref hd) (.rcd h') → VD H5 (.ref ad) (.rcd (an9 fs w dd h a)) →
          ∃ (h a : List (Str × Vl)), (∃ a11 a12 a13 a14, ([some (.ref p), some o1, some (.int num), some (.ref vd), some (.ref sd), some a1, some (.ref ct), some (.ref hd), some (.ref ad), some (.int 0), some (.ref ld), some (.ref t), s12, s13, s14] : L2.St) = [some (.ref p), some o1, some (.int num), some (.ref vd), some (.ref sd), some a1, some (.ref ct), some (.ref hd), some (.ref ad), some (.int 0), some (.ref ld), a11, a12, a13, a14]) ∧ Same H H5 ∧ VD H5 (.ref hd) (.rcd h) ∧ VD H5 (.ref ad) (.rcd a) ∧ NumS h ∧ FlR a ∧ h.length ≤ 900 + (j + 1) ∧ a.length ≤ j + 1 ∧ run9 fs w n (c.ds.drop (j + 1)) h a = run9 fs w n c.ds h0 [] := fun h' H5 s12 s13 s14 em S5 v1 v2 => by
        obtain ⟨a1', a2'⟩ := mv9_ok sh vo.n0 em
        obtain ⟨b1', b2'⟩ := an9_ok (w := w) (d := dd) (h := h) vo.fl sa
        refine ⟨h', an9 fs w dd h a, ⟨_, _, _, _, rfl⟩, S5, v1, v2, a1', b1', by omega, by omega, ?_⟩
        rw [← er]
        show _ = (match mv9 w n dd h with | .inl u => _ | .inr h' => _)
        rw [em]
      -- a fault
      have flt : ∀ (u : Str) (H5 : Hp) (t6 : Addr), mv9 w n dd h = .inl u → Same H H5 → H5 t6 = none → Q (.ref t6) (upd H5 t6 (.tup [.str "fault", .str u])) := fun u H5 t6 em S5 ht6 => by
        refine k _ _ (S5.trans (Same.new ht6)) ?_
        have er' : run9 fs w n c.ds h0 [] = .inl u := by
          rw [← er]
          unfold run9
          rw [em]
        rw [er']
        exact ⟨.lst upd_same (.cons (.txt _) (.cons (.txt _) .nil)), fun p e => by cases e⟩
      have p9 : CPow 10 9 := ⟨by decide, by decide, by decide⟩
      have e9 : (10 : Int) ^ (9 : Int).toNat = 1000000000 := by decide
      have fin : ∀ i : Int, VD (upd H4 hd (.dK (putK kh (Sum.inr w) (.int i)))) (.ref hd) (.rcd (putL h w (.num i))) := fun i => rd_put sh.fl.fl True.intro ekh qkh (.num i) (tk_wr hkh) upd_same
      by_cases dk : dd = .take ∨ dd = .add
      · refine iteY (by rcases dk with rfl | rfl <;> rfl) ?_
        have w1 : (dd.ps.map V.str)[1]? = some (.str "who") ∧ (dd.ps.map V.str)[2]? = some (.str "sum") := by rcases dk with rfl | rfl <;> exact ⟨rfl, rfl⟩
        refine ⟨_, rfl, _, rfl, t, _, _, _, rfl, rfl, SqT.of ht4, atI_nat (j := 1) w1.1, vd, _, rfl, .inl ⟨_, Sum.inr "who", .inl hkv, rfl, gw.symm⟩, ?_⟩
        refine ⟨_, rfl, _, rfl, t, _, _, _, rfl, rfl, SqT.of ht4, atI_nat (j := 2) w1.2, vd, _, rfl, .inl ⟨_, Sum.inr "sum", .inl hkv, rfl, gs.symm⟩, _, _, rfl, ?_⟩
        refine ⟨_, rfl, hd, rfl, .inl ⟨_, .inl hkh⟩, _, rfl, _, DGet.k (k := Sum.inr w) hkh, ?_⟩
        rw [gg]
        refine ⟨_, rfl, _, rfl, (by show 2 ≤ sizeLine; decide), fun l1 hl1 => ?_⟩
        have S5 := Same.new (H := H4) (o := .lst [.int 1, .int (-1)]) hl1
        have h5l : (upd H4 l1 (.lst [.int 1, .int (-1)])) l1 = some (.lst [.int 1, .int (-1)]) := upd_same
        have ht5 := S5 _ _ ht4
        have hkh5 := S5 _ _ hkh
        have ha5 := ha4.same S5
        have fin5 : ∀ i : Int, VD (upd (upd H4 l1 (.lst [.int 1, .int (-1)])) hd (.dK (putK kh (Sum.inr w) (.int i)))) (.ref hd) (.rcd (putL h w (.num i))) := fun i => rd_put sh.fl.fl True.intro ekh (VDs.same S5 qkh) (.num i) (tk_wr hkh5) upd_same
        have S35 := S34.trans S5
        generalize upd H4 l1 (.lst [.int 1, .int (-1)]) = H5 at *
        have fin6 : ∀ i : Int, Same H (upd H5 hd (.dK (putK kh (Sum.inr w) (.int i)))) ∧ VD (upd H5 hd (.dK (putK kh (Sum.inr w) (.int i)))) (.ref ad) (.rcd a) := fun i =>
          ⟨Same.wr S35 hhd, rd_keep ha5 sa.fl (tk_wr hkh5) fun o e => by rw [upd_ne (Ne.symm n1)]; exact e⟩
        rcases dk with rfl | rfl
        · refine ⟨_, rfl, t, _, _, _, rfl, rfl, SqT.of ht5, rfl, rfl, .inr ⟨_, rfl, ?_⟩⟩
          refine ⟨l1, _, _, _, rfl, rfl, SqL.of h5l, (show atI [V.int 1, .int (-1)] (if decide (V.str "take" = V.str "take") = true then 1 else 0) = some (.int (-1)) by rw [seqb]; rfl), ?_⟩
          refine ⟨_, _, rfl, rfl, .inr ⟨by decide, by decide⟩, _, _, rfl, rfl, ?_⟩
          obtain ⟨x, ex⟩ : ∃ x, gotS h w + n * -1 = x := ⟨_, rfl⟩
          simp only [ex]
          have n0 := vo.n0
          refine ⟨_, rfl, _, _, rfl, rfl, _, rfl, ite2 (fun c1 => ?_) (fun c1 => ?_)⟩
          · have c1' : x < 0 := of_decide_eq_true c1
            refine iteT ⟨_, rfl, _, _, rfl, rfl, _, rfl, iteY c1 ⟨_, rfl, t, _, _, _, rfl, rfl, SqT.of ht5, rfl, (by show 2 ≤ sizeLine; decide), fun t6 ht6 => ?_⟩⟩
            exact flt "short" _ _ (if_pos (by omega)) S35 ht6
          · have c1' : ¬ x < 0 := fun e => c1 (decide_eq_true e)
            refine ⟨_, rfl, _, _, rfl, rfl, p9, _, _, rfl, rfl, _, rfl, ite2 (fun c2 => ?_) (fun c2 => ?_)⟩
            · have c2' := of_decide_eq_true c2
              rw [e9] at c2'
              omega
            · refine ⟨_, rfl, _, rfl, _, rfl, hd, _, rfl, DPut.k (k := Sum.inr w) hkh5 lkh, ?_⟩
              have ex2 : gotS h w - n = x := by omega
              exact nxt _ _ _ _ _ (if_neg (by omega)) (fin6 x).1 (by rw [ex2]; exact fin5 x) (fin6 x).2
        · refine ⟨_, rfl, t, _, _, _, rfl, rfl, SqT.of ht5, rfl, rfl, .inr ⟨_, rfl, ?_⟩⟩
          refine ⟨l1, _, _, _, rfl, rfl, SqL.of h5l, (show atI [V.int 1, .int (-1)] (if decide (V.str "add" = V.str "take") = true then 1 else 0) = some (.int 1) by rw [sneb (by decide +kernel)]; rfl), ?_⟩
          refine ⟨_, _, rfl, rfl, .inr ⟨by decide, by decide⟩, _, _, rfl, rfl, ?_⟩
          obtain ⟨x, ex⟩ : ∃ x, gotS h w + n * 1 = x := ⟨_, rfl⟩
          simp only [ex]
          have n0 := vo.n0
          refine ⟨_, rfl, _, _, rfl, rfl, _, rfl, ite2 (fun c1 => ?_) (fun c1 => ?_)⟩
          · have c1' : x < 0 := of_decide_eq_true c1
            omega
          · refine ⟨_, rfl, _, _, rfl, rfl, p9, _, _, rfl, rfl, _, rfl, ite2 (fun c2 => ?_) (fun c2 => ?_)⟩
            · have c2' := of_decide_eq_true c2
              rw [e9] at c2'
              refine ⟨_, rfl, _, _, rfl, rfl, _, rfl, iteN (decide_eq_false fun e => c1 (decide_eq_true e)) ⟨(by show 2 ≤ sizeLine; decide), fun t6 ht6 => ?_⟩⟩
              exact flt "great" _ _ (if_pos (by omega)) S35 ht6
            · have c2' : ¬ (10 : Int) ^ (9 : Int).toNat < x := fun e => c2 (decide_eq_true e)
              rw [e9] at c2'
              refine ⟨_, rfl, _, rfl, _, rfl, hd, _, rfl, DPut.k (k := Sum.inr w) hkh5 lkh, ?_⟩
              have ex2 : gotS h w + n = x := by omega
              exact nxt _ _ _ _ _ (if_neg (by omega)) (fin6 x).1 (by rw [ex2]; exact fin5 x) (fin6 x).2
      · cases dd with
        | take => exact absurd (.inl rfl) dk
        | add => exact absurd (.inr rfl) dk
        | tell g =>
          refine iteN (by rfl) ?_
          refine ⟨_, rfl, t, _, _, _, rfl, rfl, SqT.of ht4, rfl, rfl, _, rfl, iteY (seqb _) ?_⟩
          refine ⟨_, rfl, hd, rfl, .inl ⟨_, .inl hkh⟩, _, rfl, _, rfl, t, _, _, _, rfl, rfl, SqT.of ht4, rfl, vd, _, rfl, .inl ⟨_, Sum.inr "who", .inl hkv, rfl, gw.symm⟩, _, DGet.k (k := Sum.inr w) hkh, ?_⟩
          rw [gg]
          refine ⟨_, rfl, _, rfl, t, _, _, _, rfl, rfl, SqT.of ht4, rfl, ad, _, rfl, DPut.k (k := Sum.inr g) hka lka, nxt h _ _ _ _ rfl (keepS hadH) ?_ ?_⟩
          · exact rd_keep hh4 sh.fl.fl (tk_wr hka) fun o e => by rw [upd_ne n1]; exact e
          · exact rd_put sa.fl True.intro eka qka (.num _) (tk_wr hka) upd_same
        | copy g z =>
          refine iteN (by rfl) ?_
          refine ⟨_, rfl, t, _, _, _, rfl, rfl, SqT.of ht4, rfl, rfl, _, rfl, iteN (sneb (by decide +kernel)) ?_⟩
          refine ⟨_, rfl, t, _, _, _, rfl, rfl, SqT.of ht4, rfl, rfl, _, rfl, iteY (seqb _) ?_⟩
          refine ⟨_, rfl, t, _, _, _, rfl, rfl, SqT.of ht4, rfl, _, rfl, vd, _, rfl, DGet.k (k := Sum.inr z) hkv, _, rfl, ?_⟩
          obtain ⟨v0, v1⟩ := vd_at ekv qkv z
          cases hlk : fs.lookup z with
          | none =>
            rw [v0 hlk]
            have ea : an9 fs w (.copy g z) h a = a := by
              show (match fs.lookup z with | some v => putL a g v | none => a) = a
              rw [hlk]
            refine iteF ⟨_, rfl, t, _, _, _, rfl, rfl, SqT.of ht4, rfl, rfl, _, rfl, iteN (sneb (by decide +kernel)) ?_⟩
            refine ⟨_, rfl, t, _, _, _, rfl, rfl, SqT.of ht4, rfl, rfl, _, rfl, iteN (sneb (by decide +kernel)) ?_⟩
            refine nxt h H4 _ _ _ rfl S34 hh4 ?_
            rw [ea]
            exact ha4
          | some v =>
            obtain ⟨x, hx, vx⟩ := v1 v hlk
            rw [hx]
            have ea : an9 fs w (.copy g z) h a = putL a g v := by
              show (match fs.lookup z with | some v => putL a g v | none => a) = _
              rw [hlk]
            have fv : Flat v := vo.fl.fl _ (look_mem hlk)
            refine iteT ⟨_, rfl, _, rfl, t, _, _, _, rfl, rfl, SqT.of ht4, rfl, vd, _, rfl, .inl ⟨_, Sum.inr z, .inl hkv, rfl, hx.symm⟩, ?_⟩
            refine ⟨_, rfl, _, rfl, t, _, _, _, rfl, rfl, SqT.of ht4, rfl, ad, _, rfl, DPut.k (k := Sum.inr g) hka lka, nxt h _ _ _ _ rfl (keepS hadH) ?_ ?_⟩
            · exact rd_keep hh4 sh.fl.fl (tk_wr hka) fun o e => by rw [upd_ne n1]; exact e
            · rw [ea]
              exact rd_put sa.fl fv eka qka vx (tk_wr hka) upd_same
    · rintro σ H3 ⟨h, a, ⟨a11, a12, a13, a14, rfl⟩, S3, hh, ha, sh, sa, lh, la, er⟩
      have lx : xs.length = c.ds.length := by rw [tds.length, List.length_map]
      rw [lx, List.drop_length] at er
      rw [lx] at lh la
      have er' : run9 fs w n c.ds h0 [] = .inr (h, a) := er.symm
      rw [er'] at k
      obtain ⟨kh, hkh, ekh, qkh⟩ := rd_at hh
      obtain ⟨ka, hka, eka, qka⟩ := rd_at ha
      have lkh := rd_len (H := H3) (a := hd) ekh
      have lka := rd_len (H := H3) (a := ad) eka
      refine ⟨_, rfl, hd, .dK kh, hkh, True.intro, fun od => ?_⟩
      refine ⟨_, rfl, hd, od, rfl, .inl ⟨kh, upd_same, fun D hD => ?_⟩⟩
      have nD : D ≠ hd := fun e => by rw [e, upd_same] at hD; cases hD
      have hD3 : H3 D = none := by rw [upd_ne nD] at hD; exact hD
      refine L2.lc_it walk_keys (fun j H4 => Same (upd H3 hd (.frz od (.dK kh))) H4 ∧ ∃ (ps : List Addr) (kvs : List (Key × V)), H4 D = some (.lst (ps.map V.ref)) ∧ Paired (fun p kv => H4 p = some (.tup [kV kv.1, kv.2])) ps kvs ∧ ps.length ≤ j ∧ kvs.map Prod.fst = ((h.take j).filter nz9).map (fun f => (Sum.inr f.1 : Key)) ∧ VDs H4 (kvs.map Prod.snd) (((h.take j).filter nz9).map Prod.snd)) ?_ ?_ ?_ ?_
      · exact ⟨Same.new hD, [], [], upd_same, .nil, Nat.le_refl _, rfl, .nil⟩
      · rintro j H4 _ ⟨S4, _⟩
        exact S4 _ _ upd_same
      · rintro j x H4 H5 hj ⟨S4, ps, kvs, hd4, pr, lp, ek, vs4⟩ ⟨rfl, kk, vv, hkv, rfl⟩
        have h1 : (kh.map Prod.fst)[j]? = some kk := by rw [List.getElem?_map, hkv]; rfl
        have h2 : (kh.map Prod.snd)[j]? = some vv := by rw [List.getElem?_map, hkv]; rfl
        rw [ekh, List.getElem?_map] at h1
        obtain ⟨u, hu2, vu⟩ := qkh.get h2
        rw [List.getElem?_map] at hu2
        cases hp : h[j]? with
        | none => rw [hp] at h1; cases h1
        | some q =>
          rw [hp] at h1 hu2
          cases h1
          cases hu2
          have hjh : j < h.length := (List.getElem?_eq_some_iff.mp hp).1
          obtain ⟨ii, ei, i0, i1⟩ := sh.nums _ (List.mem_of_getElem? hp)
          rw [ei] at vu
          cases vu
          have hval : valV kh (Sum.inr q.1) = some (.int ii) := by
            obtain ⟨y, hy, vy⟩ := (vd_at ekh qkh q.1).2 q.2 (look_self sh.nd q (List.mem_of_getElem? hp))
            rw [ei] at vy
            cases vy
            exact hy
          have hg : ∀ {H6 : Hp}, Same H5 H6 → DGet H6 hd (.str q.1) (some (.int ii)) := fun s => .inl ⟨kh, Sum.inr q.1, .inr ⟨od, s _ _ (S4 _ _ upd_same)⟩, rfl, hval.symm⟩
          refine ⟨rfl, _, rfl, _, rfl, hd, _, rfl, hg (Same.refl _), _, _, rfl, rfl, _, rfl, ?_⟩
          have st := left9_step hp
          have en : nz9 q = !decide (ii = 0) := by
            unfold nz9
            rw [ei]
          refine ite2 (fun c2 => ?_) (fun c2 => ?_)
          · have c2' : 0 < ii := of_decide_eq_true c2
            have c' : nz9 q = true := by
              rw [en, decide_eq_false (by omega)]
              rfl
            rw [if_pos c'] at st
            refine ⟨_, rfl, _, rfl, _, rfl, hd, _, rfl, hg (Same.refl _), (by show 2 ≤ sizeLine; decide), fun t2 ht2 => ?_⟩
            have S5 := Same.new (H := H5) (o := .tup [.str q.1, .int ii]) ht2
            have h5D := S5 _ _ hd4
            have nt2 : t2 ≠ D := fun e => by rw [e, hd4] at ht2; cases ht2
            refine ⟨_, h5D, ?_, Same.wr (S4.trans S5) hD, ps ++ [t2], kvs ++ [(Sum.inr q.1, .int ii)], ?_, ?_, ?_, ?_, ?_⟩
            · rw [List.length_map]
              exact small9 (by omega)
            · rw [upd_same, List.map_append]
              rfl
            · refine pr_app (pr_up (fun b kv e => ?_) pr) (.cons ?_ .nil)
              · rw [upd_ne (fun q => by rw [q, hd4] at e; cases e)]
                exact S5 _ _ e
              · rw [upd_ne nt2]
                exact upd_same
            · rw [List.length_append]
              show ps.length + 1 ≤ j + 1
              omega
            · rw [List.map_append, ek, st, List.map_append]
              rfl
            · rw [List.map_append, st, List.map_append]
              refine (VDs.scal vs4 fun v hv => ?_).app (.cons ?_ .nil)
              · obtain ⟨g, hg, rfl⟩ := List.mem_map.mp hv
                obtain ⟨i, ei, _⟩ := sh.nums g (List.mem_of_mem_take (List.mem_filter.mp hg).1)
                rw [ei]
                exact True.intro
              · rw [ei]
                exact .num _
          · have c2' : ¬ 0 < ii := fun e => c2 (decide_eq_true e)
            have c' : nz9 q = false := by
              rw [en, decide_eq_true (show ii = 0 by omega)]
              rfl
            rw [if_neg (by rw [c']; exact Bool.false_ne_true), List.append_nil] at st
            rw [st]
            exact ⟨S4, ps, kvs, hd4, pr, Nat.le_succ_of_le lp, ek, vs4⟩
      · rintro H4 ⟨S4, ps, kvs, hd4, pr, lp, ek, vs4⟩
        rw [lkh, List.take_length] at ek vs4
        have S34 : Same H3 (upd H4 hd (.dK kh)) := fun b o e => by
          by_cases q : b = hd
          · rw [q] at e ⊢
            rw [upd_same, ← e, hkh]
          · rw [upd_ne q]
            exact S4 _ _ (by rw [upd_ne q]; exact e)
        refine ⟨S4 _ _ upd_same, D, ps, kvs, rfl, SqL.of (by rw [upd_ne nD]; exact hd4), ?_, fun dn hdn => ?_⟩
        · refine pr_up (fun b kv e => SqT.of ?_) pr
          rw [upd_ne (fun q => by rw [q, S4 _ _ upd_same] at e; cases e)]
          exact e
        have ndk : (kvs.map Prod.fst).Nodup := by
          rw [ek]
          have := (left9_ok sh).nd
          exact nodup_inr this
        rw [show mergeK [] kvs = kvs from by rw [merge_new (by simpa using ndk)]; rfl]
        refine ⟨(by show 3 ≤ sizeLine; decide), fun t6 ht6 => ?_⟩
        have S5 := S34.trans (Same.new (o := .dK kvs) hdn)
        have S6 := S5.trans (Same.new (o := .tup [.str "done", .ref ad, .ref dn]) ht6)
        have hD6 : (upd (upd (upd H4 hd (.dK kh)) dn (.dK kvs)) t6 (.tup [.str "done", .ref ad, .ref dn])) dn = some (.dK kvs) := Same.new ht6 _ _ upd_same
        have lf : (h.filter nz9).length ≤ h.length := List.length_filter_le _ _
        have lkv : kvs.length = (h.filter nz9).length := by
          have := congrArg List.length ek
          rw [List.length_map, List.length_map] at this
          exact this
        have vD6 : VD (upd (upd (upd H4 hd (.dK kh)) dn (.dK kvs)) t6 (.tup [.str "done", .ref ad, .ref dn])) (.ref dn) (.rcd (left9 h)) := .rcd hD6 ek (VDs.scal vs4 fun v hv => by
          obtain ⟨g, hg, rfl⟩ := List.mem_map.mp hv
          obtain ⟨i, ei, _⟩ := sh.nums g (List.mem_filter.mp hg).1
          rw [ei]
          exact True.intro)
        have hdn3 : H3 dn = none := S34.free hdn
        refine k _ _ (S3.trans S6) ⟨.lst upd_same (.cons (.txt _) (.cons (ha.same S6) (.cons vD6 .nil))), fun q ep => ?_⟩
        cases ep
        exact ⟨t6, ad, dn, ka, kvs, rfl, upd_same, S6 _ _ hka, hD6, hadH, S3.free hdn3, ne_of_none hka hdn3, by omega, by omega⟩
end
end Fh

set_option Elab.async false
set_option linter.all false
set_option maxRecDepth 100000
set_option maxHeartbeats 4000000
namespace Fh
open PySem L2 PyProof.Rows
/-! ### repr of a drawn value -/
def dS9 : Vl → PyData
  | .num i => .int i
  | .tru b => .bool b
  | .txt z => .str z
  | _ => .none
def dF9 : Vl → PyData
  | .lst xs => .tuple (xs.map dS9)
  | .num i => .int i
  | .tru b => .bool b
  | .txt z => .str z
  | .rcd _ => .none
def dR9 (fs : List (Str × Vl)) : PyData := .dict (fs.map fun f => (.str f.1, dF9 f.2))
theorem prS {K : PySem.W.Frag} {H : Hp} {x : V} {v : Vl} (h : VD H x v) (r : RS v) : Pr K H x (dS9 v) := by
  cases h with
  | num i => exact .int i
  | tru b => exact .bl b
  | txt z => exact .str z
  | lst _ _ => exact r.elim
  | rcd _ _ _ => exact r.elim
theorem prSs {K : PySem.W.Frag} {H : Hp} : ∀ {xs : List V} {vs : List Vl}, VDs H xs vs → (∀ v ∈ vs, RS v) → PrAll K H xs (vs.map dS9)
  | _, _, .nil, _ => .nil
  | _, _, .cons h m, r => .cons (prS h (r _ List.mem_cons_self)) (prSs m fun v hv => r v (List.mem_cons_of_mem _ hv))
theorem prF {K : PySem.W.Frag} {H : Hp} {x : V} {v : Vl} (h : VD H x v) (r : RF v) : Pr K H x (dF9 v) := by
  cases h with
  | num i => exact .int i
  | tru b => exact .bl b
  | txt z => exact .str z
  | lst ha q => exact .tup (SqT.of ha) (prSs q r.2)
  | rcd _ _ _ => exact r.elim
theorem prFs {K : PySem.W.Frag} {H : Hp} : ∀ {xs : List V} {vs : List Vl}, VDs H xs vs → (∀ v ∈ vs, RF v) → PrAll K H xs (vs.map dF9)
  | _, _, .nil, _ => .nil
  | _, _, .cons h m, r => .cons (prF h (r _ List.mem_cons_self)) (prFs m fun v hv => r v (List.mem_cons_of_mem _ hv))
theorem prR {K : PySem.W.Frag} {H : Hp} {x : V} {fs : List (Str × Vl)} (h : VD H x (.rcd fs)) (r : ∀ f ∈ fs, RF f.2) : Pr K H x (dR9 fs) := by
  cases h with
  | @rcd a kvs _ h ek q =>
    have all : PrAll K H (kvs.map Prod.snd) ((fs.map Prod.snd).map dF9) := prFs q fun v hv => by
      obtain ⟨f, hf, rfl⟩ := List.mem_map.mp hv
      exact r f hf
    have e : (kvs.map fun p => encK p.1).zip ((fs.map Prod.snd).map dF9) = fs.map fun f => (PyData.str f.1, dF9 f.2) := by
      have e1 : (kvs.map fun p => encK p.1) = fs.map fun f => PyData.str f.1 := by
        have := congrArg (List.map encK) ek
        rw [List.map_map, List.map_map] at this
        exact this
      rw [e1, List.map_map]
      exact List.zip_map'
    have := Pr.dct (.inl h) all
    rw [e] at this
    exact this
structure Dk9 (n m : Nat) (d : PyData) : Prop where
  sh : d.showable = true
  ls : d.leavesShort 13 = true
  w : d.weight ≤ m
  dp : d.depth ≤ n
theorem shs_ls {z : Str} (h : Shs z) : PyData.leavesShort 13 (.str z) = true := by
  show (z.cps.toList.all fun c => decide (c < 16 ^ 8)) = true
  rw [List.all_eq_true]
  intro c hc
  exact decide_eq_true (Nat.lt_of_lt_of_le (h.2 c hc) (by decide))
theorem dkS {v : Vl} (r : RS v) : Dk9 0 30 (dS9 v) := by
  cases v with
  | num i =>
    obtain ⟨i0, i1⟩ := r
    have lg : i.natAbs.log2 < 30 := by
      by_cases z : i.natAbs = 0
      · rw [z]; decide
      · exact (Nat.log2_lt z).mpr (by omega)
    refine ⟨decide_eq_true (by omega), decide_eq_true (PyData.shown_int_le (by omega)), ?_, Nat.zero_le _⟩
    show (if i == 0 then 0 else i.natAbs.log2 + 1) ≤ _
    split <;> omega
  | tru b => exact ⟨rfl, rfl, Nat.zero_le _, Nat.zero_le _⟩
  | txt z =>
    refine ⟨rfl, shs_ls r, ?_, Nat.zero_le _⟩
    show z.cps.size ≤ _
    have : z.cps.size ≤ 20 := r.1
    omega
  | lst _ => exact r.elim
  | rcd _ => exact r.elim
theorem dkSs : ∀ {xs : List Vl}, (∀ v ∈ xs, RS v) → PyData.showableAll (xs.map dS9) = true ∧ PyData.leavesShortAll 13 (xs.map dS9) = true ∧ PyData.weightAll (xs.map dS9) ≤ 31 * xs.length ∧ PyData.depthAll (xs.map dS9) ≤ 0
  | [], _ => ⟨rfl, rfl, Nat.le_refl _, Nat.le_refl _⟩
  | x :: xs, h => by
    obtain ⟨a1, a2, a3, a4⟩ := dkS (h x List.mem_cons_self)
    obtain ⟨b1, b2, b3, b4⟩ := dkSs fun y hy => h y (List.mem_cons_of_mem _ hy)
    refine ⟨?_, ?_, ?_, ?_⟩
    · show (PyData.showable (dS9 x) && PyData.showableAll (xs.map dS9)) = true
      rw [a1, b1]
      rfl
    · show (PyData.leavesShort 13 (dS9 x) && PyData.leavesShortAll 13 (xs.map dS9)) = true
      rw [a2, b2]
      rfl
    · show PyData.weight (dS9 x) + 1 + PyData.weightAll (xs.map dS9) ≤ 31 * (xs.length + 1)
      omega
    · show max (PyData.depth (dS9 x)) (PyData.depthAll (xs.map dS9)) ≤ 0
      omega
theorem dkF {v : Vl} (r : RF v) : Dk9 1 200 (dF9 v) := by
  cases v with
  | lst xs =>
    obtain ⟨b1, b2, b3, b4⟩ := dkSs r.2
    have l6 : xs.length ≤ 6 := r.1
    refine ⟨b1, b2, ?_, ?_⟩
    · show PyData.weightAll (xs.map dS9) ≤ 200
      omega
    · show PyData.depthAll (xs.map dS9) + 1 ≤ 1
      omega
  | num i =>
    obtain ⟨a1, a2, a3, a4⟩ := dkS (v := .num i) r
    exact ⟨a1, a2, Nat.le_trans a3 (by decide), Nat.le_trans a4 (by decide)⟩
  | tru i =>
    obtain ⟨a1, a2, a3, a4⟩ := dkS (v := .tru i) r
    exact ⟨a1, a2, Nat.le_trans a3 (by decide), Nat.le_trans a4 (by decide)⟩
  | txt i =>
    obtain ⟨a1, a2, a3, a4⟩ := dkS (v := .txt i) r
    exact ⟨a1, a2, Nat.le_trans a3 (by decide), Nat.le_trans a4 (by decide)⟩
  | rcd _ => exact r.elim
theorem dkFs : ∀ {fs : List (Str × Vl)}, (∀ f ∈ fs, RF f.2 ∧ Shs f.1) → PyData.showableKv (fs.map fun f => (PyData.str f.1, dF9 f.2)) = true ∧ PyData.leavesShortKv 13 (fs.map fun f => (PyData.str f.1, dF9 f.2)) = true ∧ PyData.weightKv (fs.map fun f => (PyData.str f.1, dF9 f.2)) ≤ 222 * fs.length ∧ PyData.depthKv (fs.map fun f => (PyData.str f.1, dF9 f.2)) ≤ 1
  | [], _ => ⟨rfl, rfl, Nat.le_refl _, Nat.zero_le _⟩
  | x :: xs, h => by
    obtain ⟨r, s⟩ := h x List.mem_cons_self
    obtain ⟨a1, a2, a3, a4⟩ := dkF r
    obtain ⟨b1, b2, b3, b4⟩ := dkFs fun y hy => h y (List.mem_cons_of_mem _ hy)
    refine ⟨?_, ?_, ?_, ?_⟩
    · refine PySem.Spec.showableKv_of fun p hp => ?_
      obtain ⟨f, hf, rfl⟩ := List.mem_map.mp hp
      exact ⟨rfl, (dkF (h f hf).1).sh⟩
    · show (PyData.leavesShort 13 (.str x.1) && PyData.leavesShort 13 (dF9 x.2) && PyData.leavesShortKv 13 (xs.map fun f => (PyData.str f.1, dF9 f.2))) = true
      rw [shs_ls s, a2, b2]
      rfl
    · show PyData.weight (.str x.1) + PyData.weight (dF9 x.2) + 2 + PyData.weightKv (xs.map fun f => (PyData.str f.1, dF9 f.2)) ≤ 222 * (xs.length + 1)
      have : PyData.weight (.str x.1) ≤ 20 := s.1
      omega
    · show max (max 0 (PyData.depth (dF9 x.2))) (PyData.depthKv (xs.map fun f => (PyData.str f.1, dF9 f.2))) ≤ 1
      omega
theorem dkR {fs : List (Str × Vl)} (l : fs.length ≤ 10) (h : ∀ f ∈ fs, RF f.2 ∧ Shs f.1) : Dk9 2 3000 (dR9 fs) := by
  obtain ⟨b1, b2, b3, b4⟩ := dkFs h
  refine ⟨b1, b2, ?_, ?_⟩
  · show PyData.weightKv (fs.map fun f => (PyData.str f.1, dF9 f.2)) ≤ 3000
    omega
  · show PyData.depthKv (fs.map fun f => (PyData.str f.1, dF9 f.2)) + 1 ≤ 2
    omega
theorem dkR_fits {fs : List (Str × Vl)} (l : fs.length ≤ 10) (h : ∀ f ∈ fs, RF f.2 ∧ Shs f.1) : (dR9 fs).shown.length ≤ sizeLine := by
  obtain ⟨b1, b2, b3, b4⟩ := dkR l h
  exact PyData.shown_fits (B := 13) (by decide) (by decide) b2 (Nat.le_trans b3 (by decide))
abbrev sFew : Stmt := top 43
abbrev nFew : List Str := ["_law_bag_here", "_law_thing", "_law_found"]
def spFew : Sp := fun vs H Q _ => ∃ (b a : Addr) (fs : List (Str × Vl)) (w : Str) (i : Int) (n : Nat), vs = [.ref b, .ref a] ∧ Bag H b n ∧ n + 10 ≤ most ∧ VD H (.ref a) (.rcd fs) ∧ VR9 fs w i ∧
  ∀ (p : Addr) (fs' : List (Str × Vl)) (w' : Str) (i' : Int) (H' : Hp), H p = none → Kp b H H' → Bag H' b (n + 1) → VD H' (.ref p) (.rcd fs') → VR9 fs' w' i' → Q (.ref p) H'
section
variable {P : Program} {w : World} {K : PySem.W.Frag} {mg : Str → Option Value} {base : Heap}
theorem scFew : FnScope nFew ["_law_bag_here", "_law_thing"] (defScope sFew) := ⟨rfl, rfl, rfl, by decide +kernel, rfl, by decide +kernel, by decide +kernel⟩
theorem ok_few {f : Addr} {fd : FuncData} (F : Fun K "_law_named_few" "_law_named_few" sFew f fd) (G : Glb mg) (DT : Has P w K mg base "_law_take" 1 pTk9 spTake) : FnOk P w K mg base CX0 2 f fd ["_law_bag_here", "_law_thing"] spFew := by
  refine F.ok scFew (fun vs H Q E h => ?_) (fun cdv A outer s H vs Q E hr h => ?_)
  · obtain ⟨b, a, fs, w, i, n, rfl, _⟩ := h
    rfl
  · obtain ⟨b, a, fs, w, i, n, rfl, hB, hn, hv, vr, q⟩ := h
    have hm : most = 1000000 := rfl
    have hu := hu_of hr
    refine ⟨_, (pss_cons (ps_set (i := 2) scFew.nd rfl (Or.inl rfl) (pe_callTy call_dictD (by rfl) G.dict (by decide +kernel) (pa_cons (pv 1) pa_nil)))
      (pss_cons (ps_dput hu (pv 2) pe_str (pe_ix ix_list (pe_lst (pa_cons pe_str (pa_cons pe_str (pa_cons pe_str (pa_cons (pe_dget hu (pv 1) pe_str (fun _ _ => rfl)) pa_nil))))) (pe_has DT (hr.mono (by omega)) rfl (pa_cons (pv 0) (pa_cons pe_int pa_nil))) (fun _ _ => rfl)) rfl)
      (pss_one (ps_ret (pv 2))))), ?_⟩
    obtain ⟨kv, hkv, ekv, qkv⟩ := rd_at hv
    have nab : a ≠ b := fun e => by
      obtain ⟨_, _, _, z, _⟩ := hB
      rw [← e, hkv] at z
      cases z
    have gw : valV kv (Sum.inr "who") = some (.str w) := by
      obtain ⟨x, hx, vx⟩ := (vd_at ekv qkv "who").2 _ vr.vo.lw
      cases vx
      exact hx
    have lkv : kv.length = fs.length := rd_len (H := H) (a := a) ekv
    have l5 := vr.l5
    refine ⟨_, rfl, a, kv, rfl, .inl hkv, fun p hp => ?_⟩
    have npb : p ≠ b := new_ne hp hB
    have hp1 : (upd H p (.dK kv)) p = some (.dK kv) := upd_same
    have S1 := Same.new (H := H) (o := .dK kv) hp
    have v1 : VD (upd H p (.dK kv)) (.ref p) (.rcd fs) := .rcd upd_same ekv (VDs.flat (Same.tk S1) qkv fun v hv => by obtain ⟨g, hg, rfl⟩ := List.mem_map.mp hv; exact (vr.rf g hg).flat)
    have B1 := hB.new (o := .dK kv) hp
    have K1 : Kp b H (upd H p (.dK kv)) := Kp.refl.new hp
    have hkv1 := S1 _ _ hkv
    generalize upd H p (.dK kv) = H1 at *
    refine ⟨_, rfl, a, _, rfl, .inl ⟨_, Sum.inr "who", .inl hkv1, rfl, gw.symm⟩, (by show 4 ≤ sizeLine; decide), fun l1 hl1 => ?_⟩
    have nl1 : l1 ≠ b := new_ne hl1 B1
    refine ⟨_, rfl, b, 4, n, rfl, by decide, by decide, B1.new hl1, by omega, fun d H2 d0 d1 k2 b2 => ?_⟩
    have K12 : Kp b H1 H2 := (Kp.refl.new hl1).trans k2
    have h2l := k2 _ _ nl1 upd_same
    have hp2 := K12 _ _ npb hp1
    have v2 := rd_keep v1 (fun f hf => (vr.rf f hf).flat) (K12.tk B1) (fun o e => K12 _ o npb e)
    have pick : ∃ z : Str, atI [V.str "", .str "a", .str "bo", .str w] d = some (.str z) ∧ Shs z := by
      rcases (by omega : d = 0 ∨ d = 1 ∨ d = 2 ∨ d = 3) with rfl | rfl | rfl | rfl
      · exact ⟨"", rfl, by decide, by decide⟩
      · exact ⟨"a", rfl, by decide, by decide⟩
      · exact ⟨"bo", rfl, by decide, by decide⟩
      · exact ⟨w, rfl, vr.sw⟩
    obtain ⟨z, ez, sz⟩ := pick
    refine ⟨l1, _, _, _, rfl, rfl, SqL.of h2l, ez, _, rfl, p, _, rfl, DPut.k (k := Sum.inr "who") hp2 (small9 (by omega)), ?_⟩
    obtain ⟨kv2, hkv2, ek2, qk2⟩ := rd_at v2
    rw [hp2] at hkv2
    cases hkv2
    refine ⟨_, rfl, q p (putL fs "who" (.txt z)) z i _ hp ((K1.trans K12).wr hp) (b2.ne npb) (rd_put (fun f hf => (vr.rf f hf).flat) True.intro ek2 qk2 (.txt z) (tk_wr hp2) upd_same) ⟨⟨?_, ?_, ?_, vr.vo.n0, vr.vo.n1, ?_⟩, fun f hf => ?_, fun f hf => ?_, sz, ?_⟩⟩
    · exact vr.vo.fl.put _ True.intro
    · rw [putL_look, if_pos rfl]
    · rw [putL_look, if_neg (by decide)]
      exact vr.vo.ls
    · have := putL_len fs "who" (.txt z)
      omega
    · rcases putL_mem hf with rfl | hf
      · exact sz
      · exact vr.rf f hf
    · rcases putL_mem hf with rfl | hf
      · exact (⟨by decide, by decide⟩ : Shs "who")
      · exact vr.sn f hf
    · have e : (putL fs "who" (.txt z)).length = fs.length := by
        unfold putL
        rw [if_pos (List.mem_map.mpr ⟨_, look_mem vr.vo.lw, rfl⟩), List.length_map]
      omega
end
/-! ### a face out of its parts -/
abbrev sFac9 : Stmt := top 28
def spFac9 (C : Addr) : Sp := fun vs H Q _ => ∃ (p : Addr) (S : Srv9) (nm : Str) (ed : Int), vs = [.ref p] ∧ Tp H (.ref p) (S.d nm ed) ∧ ∀ (x : Addr) (H' : Hp), Same H H' → FaceK9 C H' x S.cl → Q (.ref x) H'
section
variable {P : Program} {w : World} {K : PySem.W.Frag} {mg : Str → Option Value} {base : Heap}
theorem scFac9 : FnScope ["_law_parts"] ["_law_parts"] (defScope sFac9) := ⟨rfl, rfl, rfl, by decide +kernel, rfl, by decide +kernel, by decide +kernel⟩
theorem ok_fac9 {f C : Addr} {fd : FuncData} (F : Fun K "_law_face" "_law_face" sFac9 f fd) (M : MkF P w K mg base C) : FnOk P w K mg base CX0 3 f fd ["_law_parts"] (spFac9 C) := by
  obtain ⟨fi, fdi, e1, e2, e3, mk, FI, DI⟩ := M.ex
  obtain ⟨mv, hb⟩ := kb0 DI
  refine F.ok scFac9 (fun vs H Q E h => ?_) (fun cdv A outer s H vs Q E hr h => ?_)
  · obtain ⟨p, S, nm, ed, rfl, _⟩ := h
    rfl
  · obtain ⟨p, S, nm, ed, rfl, hP, k⟩ := h
    refine ⟨_, pss_one (ps_ret (pe_makeK mk FI hr rfl M.mgC hb pass0 (pa_cons (pe_ix ix_tup (pv 0) pe_int (fun _ _ => rfl)) (pa_cons (pe_ix ix_tup (pv 0) pe_int (fun _ _ => rfl)) pa_nil))
      (pk_cons (pe_ix ix_tup (pv 0) pe_int (fun _ _ => rfl)) (pk_cons (pe_ix ix_tup (pv 0) pe_int (fun _ _ => rfl)) (pk_cons (pe_ix ix_tup (pv 0) pe_int (fun _ _ => rfl)) pk_nil))))), ?_⟩
    obtain ⟨pa, v1, v2, v3, v4, v5, epa, hp, _, _, _, _, t5⟩ := Tp.five hP
    cases epa
    obtain ⟨e, xs, rfl, he, tx⟩ := Tp.inv t5
    refine ⟨_, rfl, p, _, _, _, rfl, rfl, SqT.of hp, rfl, _, rfl, p, _, _, _, rfl, rfl, SqT.of hp, rfl, _, rfl, p, _, _, _, rfl, rfl, SqT.of hp, rfl, _, rfl, p, _, _, _, rfl, rfl, SqT.of hp, rfl, _, rfl, p, _, _, _, rfl, rfl, SqT.of hp, rfl, rfl, rfl, fun x dx hx hdx hne => ?_⟩
    refine ⟨x, dx, v1, v2, v3, v4, .ref e, rfl, upd_same, rfl, ?_⟩
    refine (fun SS => k x _ SS ⟨dx, e, v1, v2, v3, v4, xs, upd_same, SS _ _ he, TpAll.keep (Same.tk SS) _ _ tx⟩) ?_
    exact Same.wr (Same.wr (Same.new hdx) hx) hx
end
/-! ### outcome, called by its names -/
def g6 {α : Type} : List α → List α
  | [s, v, n, sp, f, a] => [f, sp, n, v, s, a]
  | _ => []
theorem vals_g6 {zs : List V} {ws : List Value} (r : Vals zs ws) : Vals (g6 zs) (g6 ws) := by
  cases r with
  | nil => exact .nil
  | cons a r => cases r with
    | nil => exact .nil
    | cons b r => cases r with
      | nil => exact .nil
      | cons c r => cases r with
        | nil => exact .nil
        | cons d r => cases r with
          | nil => exact .nil
          | cons e r => cases r with
            | nil => exact .nil
            | cons f r => cases r with
              | nil => exact .cons e (.cons d (.cons c (.cons b (.cons a (.cons f .nil)))))
              | cons g r => exact .nil
section
variable {K : PySem.W.Frag} {f : Addr} {fd : FuncData} {e : Addr}
abbrev DOut9 (K : PySem.W.Frag) (e f : Addr) (fd : FuncData) : Prop := FunD K "outcome" "outcome" (defArgs sOut9) (defBody sOut9) (defScope sOut9) [] [("answers", .ref e)] f fd
theorem kbO9 (F : DOut9 K e f fd) : ∃ mv : List Value, KBn K fd pOut9 4 ["store"] (fun us ws => us ++ (ws ++ mv)) (fun vs zs => vs ++ (zs ++ [.ref e])) :=
  FunD.kbinds0 F 4 ["store"] [("answers", .ref e)] (fun {α} us mv ws => us ++ (ws ++ mv)) (by simp) (fun q h => h) (fun r1 r2 r3 => r1.append (r3.append r2)) fun D doc pm an cdv ct us mv ws h1 h2 h3 => by
    match us, h1, ws, h3, mv, h2 with
    | [_, _, _, _], _, [_], _, [_], _ => exact ⟨_, _, _, _, _, _, rfl, rfl, rfl⟩
theorem kbK9 (F : DOut9 K e f fd) : ∃ mv : List Value, KBn K fd pOut9 0 ["store", "value", "number", "spoken", "face", "answers"] (fun us ws => g6 ws) (fun vs zs => g6 zs) :=
  FunD.kbinds0 F 0 ["store", "value", "number", "spoken", "face", "answers"] [] (fun {α} us mv ws => g6 ws) (by simp) (fun q h => by cases h) (fun r1 _ r3 => vals_g6 r3) fun D doc pm an cdv ct us mv ws h1 h2 h3 => by
    match us, h1, ws, h3, mv, h2 with
    | [], _, [_, _, _, _, _, _], _, [], _ => exact rfl
end
structure HasO9 (P : Program) (w : World) (K : PySem.W.Frag) (mg : Str → Option Value) (base : Heap) (C : Addr) : Prop where
  ex : ∃ (f e : Addr) (fd : FuncData), mg "outcome" = some (.ref f) ∧ PySem.W.keepIn K (.ref f) = true ∧ DOut9 K e f fd ∧ FnOk P w K mg base CX0 5 f fd pOut9 (spOut9 C)
theorem pe_kwOnly9 {X : Cx} {CX : CXT} {k : Nat} {f : Addr} {fd : FuncData} {ps ks : List Str} {sp : Sp} {E : XK} {x : Str} {p pos : Pos} {kws : List Keyword} {tk : TA} {g : List Value → List Value → List Value} {gV : List V → List V → List V} (F : FnOk X.prog X.w X.K X.mg X.base CX k f fd ps sp) (hr : Room k X.A) (hg : Gl X x)
    (hm : X.mg x = some (.ref f)) (hk : PySem.W.keepIn X.K (.ref f) = true) (hb : KBn X.K fd ps 0 ks g gV) (hx : Passes CX X E) (hkw : PK X kws tk) (some_ : (backToKw pos (keywordEach kws X.env)).all (·.1.isSome) = true := by rfl) (names : (backToKw pos (keywordEach kws X.env)).filterMap (·.1) = ks := by rfl)
    (db : (x == ("__debug__" : Str)) = false := by decide) (plain : ((backTo pos (starEach [] X.env)).any (·.1) || (backToKw pos (keywordEach kws X.env)).any (·.1.isNone)) = false := by rfl) : PE X (.Call (.Name x p) [] kws pos) (tCallN 0 ks.length sp gV E tNil tk) := by
  subst names
  exact ⟨fun pins s σ H Q I h => wpAny_Call_Name_kw (ld_glob I hg hm (PySem.W.callWith_KW0 (h₀ := X.base) I.ok.mod.kin hk some_ (thn (hkw.run pos pins s σ H _ I h) fun ws s2 ⟨zs, H2, I2, rz, l1, l2, q2⟩ =>
    ⟨I2.kIn, run_fnN (us := []) (vs := []) F hr hb hx I2 .nil rz rfl l2 q2⟩) plain) db)⟩
abbrev sRig9 : Stmt := top 44
abbrev nRig9 : List Str := ["_law_parts", "_law_figure", "_law_thing", "_law_left", "_law_due", "_law_kept", "_law_turn", "_law_told"]
abbrev pRig9 : List Str := ["_law_parts", "_law_figure", "_law_thing", "_law_left"]
def spRig9 : Sp := fun vs H Q _ => ∃ (p vd sd : Addr) (num : Int) (S : Srv9) (nm : Str) (ed : Int) (c : Cl9) (fs h0 : List (Str × Vl)) (w : Str) (n : Int), vs = [.ref p, .int num, .ref vd, .ref sd] ∧ Tp H (.ref p) (S.d nm ed) ∧ S.cl.find? (numIs9 num) = some c ∧ c.ds.length ≤ 10 ∧ VD H (.ref vd) (.rcd fs) ∧ VR9 fs w n ∧ VD H (.ref sd) (.rcd h0) ∧ NumS h0 ∧ h0.length ≤ 900 ∧
  ∀ r H', Same H H' → Res9 H H' r (run9 fs w n c.ds h0 []) → Q r H'
theorem Res9.same {H0 H H' : Hp} {r : V} {R : Rn9} (h : Res9 H0 H r R) (s : Same H H') : Res9 H0 H' r R := ⟨h.1.same s, fun p e => by
  obtain ⟨t, A, S, ka, ks, e1, e2, e3, e4, e5⟩ := h.2 p e
  exact ⟨t, A, S, ka, ks, e1, s _ _ e2, s _ _ e3, s _ _ e4, e5⟩⟩
theorem Res9.at {H0 H : Hp} {r : V} {R : Rn9} (h : Res9 H0 H r R) : ∃ t xs, r = .ref t ∧ H t = some (.tup xs) := by
  cases h.1 with
  | lst ha q => exact ⟨_, _, rfl, ha⟩
section
variable {P : Program} {w : World} {K : PySem.W.Frag} {mg : Str → Option Value} {base : Heap}
theorem scRig9 : FnScope nRig9 pRig9 (defScope sRig9) := ⟨rfl, rfl, rfl, by decide +kernel, rfl, by decide +kernel, by decide +kernel⟩
theorem ok_rig9 {f C : Addr} {fd : FuncData} (F : Fun K "_law_right" "_law_right" sRig9 f fd) (G : Glb mg) (gr : mg "repr" = none) (DF : Has P w K mg base "_law_face" 3 ["_law_parts"] (spFac9 C)) (DR : Has P w K mg base "_law_run" 2 pRun9 spRun9) (HO : HasO9 P w K mg base C) : FnG P w K mg base CX0 6 f fd pRig9 spRig9 := by
  obtain ⟨fo, eo, fdo, mO, kO, DO, FO⟩ := HO.ex
  obtain ⟨mv, bO⟩ := kbO9 DO
  obtain ⟨mv2, bK⟩ := kbK9 DO
  refine okG F scRig9 (fun vs H Q E h => ?_) (fun cdv A outer s H vs Q E gu hr h => ?_)
  · obtain ⟨p, vd, sd, num, S, nm, ed, c, fs, h0, w, n, rfl, _⟩ := h
    rfl
  · obtain ⟨p, vd, sd, num, S, nm, ed, c, fs, h0, w, n, rfl, hP, hf, ld, hv, vr, hs, ns, l0, k⟩ := h
    have hu := hu_of hr
    refine ⟨_, (pss_cons (ps_set (i := 4) scRig9.nd rfl (Or.inl rfl) (pe_has DR (hr.mono (by omega)) rfl (pa_cons (pv 0) (pa_cons (pe_lst pa_nil) (pa_cons (pv 1) (pa_cons (pv 2) (pa_cons (pv 3) (pa_cons (pe_lst pa_nil) pa_nil))))))))
      (pss_cons (ps_set (i := 5) scRig9.nd rfl (Or.inl rfl) (pe_tup (pa_cons (pe_callB (call_reprD gu) (by rfl) gr (by decide +kernel) (pa_cons (pv 2) pa_nil)) (pa_cons (pe_callTy call_dictD (by rfl) G.dict (by decide +kernel) (pa_cons (pv 3) pa_nil)) pa_nil))))
      (pss_cons (ps_for PassesOwn.never rfl (pi_range1 rfl G.range (pa_cons pe_int pa_nil)) (pg_name (i := 6) scRig9.nd rfl (Or.inl rfl))
      (pss_cons (ps_set (i := 7) scRig9.nd rfl (Or.inl rfl) (pe_callN FO (hr.mono (by omega)) rfl mO kO bO pass0 (pa_cons (pe_has DF (hr.mono (by omega)) rfl (pa_cons (pv 0) pa_nil)) (pa_cons (pe_tup pa_nil) (pa_cons (pv 1) (pa_cons (pv 2) pa_nil)))) (pk_cons (pv 3) pk_nil)))
      (pss_cons (ps_if (PW.pt (pw_or (pt_not (pt_val (pe_callB call_isi (by rfl) G.isi (by decide +kernel) (pa_cons (pv 7) (pa_cons (pe_bltn (v := .ty "tuple") rfl G.tuple (by decide +kernel) rfl) pa_nil))))) (pw_or (pt_cmpR (op_neN hr.units) (pv 7) (pv 4) (nomark _)) (pw_or1 (pt_cmpR (op_neN hr.units) (pe_tup (pa_cons (pe_callB (call_reprD gu) (by rfl) gr (by decide +kernel) (pa_cons (pv 2) pa_nil)) (pa_cons (pv 3) pa_nil))) (pv 5) (nomark _))))))
      (pss_one (ps_ret pe_non))
      pss_nil)
      (pss_one (ps_if (pt_cmpR op_eq (pe_ix ix_tup (pv 7) pe_int (fun _ _ => rfl)) pe_str (nomark _))
      (pss_cons (ps_dput hu (pe_ix ix_tup (pv 7) pe_int (fun _ _ => rfl)) pe_str pe_int rfl)
      (pss_one (ps_dput hu (pe_ix ix_tup (pv 7) pe_int (fun _ _ => rfl)) pe_str pe_int rfl)))
      pss_nil)))))
      (pss_cons (ps_if (pt_cmpR (op_neN hr.units) (pe_kwOnly9 FO (hr.mono (by omega)) rfl mO kO bK pass0 (pk_cons (pe_callTy call_dictD (by rfl) G.dict (by decide +kernel) (pa_cons (pv 3) pa_nil)) (pk_cons (pv 2) (pk_cons (pv 1) (pk_cons (pe_tup pa_nil) (pk_cons (pe_has DF (hr.mono (by omega)) rfl (pa_cons (pv 0) pa_nil)) (pk_cons (pe_tup pa_nil) pk_nil))))))) (pv 4) (nomark _))
      (pss_one (ps_ret pe_non))
      pss_nil)
      (pss_one (ps_ret (pv 4))))))), ?_⟩
    have dk := dkR (fs := fs) (Nat.le_trans vr.l5 (by decide)) fun f hf => ⟨vr.rf f hf, vr.sn f hf⟩
    have fit := dkR_fits (fs := fs) (Nat.le_trans vr.l5 (by decide)) fun f hf => ⟨vr.rf f hf, vr.sn f hf⟩
    have dun : ∀ {N : Nat}, N + 64 < cLine → N + ((dR9 fs).depth + 1) < cLine := fun h => by have := dk.dp; omega
    -- what is due
    refine ⟨_, rfl, Nat.zero_le _, fun e1 he1 => ⟨_, rfl, _, rfl, _, rfl, Nat.zero_le _, fun e2 he2 => ?_⟩⟩
    have S0 := (Same.new (o := .lst []) he1).trans (Same.new (o := .lst []) he2)
    generalize (upd (upd H e1 (.lst [])) e2 (.lst [])) = H0 at *
    refine ⟨p, vd, sd, _, _, num, S, nm, ed, c, fs, h0, w, n, rfl, Tp.keep (Same.tk S0) _ _ hP, hf, ld, hv.same S0, vr.vo, hs.same S0, ns, l0, fun due H1 S1 R1 => ?_⟩
    have S01 := S0.trans S1
    obtain ⟨dt, dxs, rfl, hdt⟩ := R1.at
    -- what is kept
    obtain ⟨k0, hk0, ek0, qk0⟩ := rd_at (hs.same S01)
    refine ⟨_, rfl, .ref vd, dR9 fs, rfl, .inl (prR (hv.same S01) vr.rf), dk.sh, fit, dun hr.units, _, rfl, sd, k0, rfl, .inl hk0, fun dl hdl => ⟨(by show 2 ≤ sizeLine; decide), fun kt hkt => ?_⟩⟩
    have S2 := (Same.new (o := .dK k0) hdl).trans (Same.new (o := .tup [.str (dR9 fs).shown, .ref dl]) hkt)
    have vkd : VD (upd (upd H1 dl (.dK k0)) kt (.tup [.str (dR9 fs).shown, .ref dl])) (.ref dl) (.rcd h0) := .rcd (hup hkt upd_same) ek0 (VDs.flat (Same.tk S2) qk0 fun v hv => by obtain ⟨g, hg, rfl⟩ := List.mem_map.mp hv; exact ns.fl.fl g hg)
    have vk : VD (upd (upd H1 dl (.dK k0)) kt (.tup [.str (dR9 fs).shown, .ref dl])) (.ref kt) (.lst [.txt (dR9 fs).shown, .rcd h0]) := .lst upd_same (.cons (.txt _) (.cons vkd .nil))
    have S02 := S01.trans S2
    have R2 := R1.same S2
    generalize (upd (upd H1 dl (.dK k0)) kt (.tup [.str (dR9 fs).shown, .ref dl])) = H2 at *
    -- twice
    refine ⟨2, rfl, by decide, by decide, ?_⟩
    have nst : Nst 4 (.lst (resV (run9 fs w n c.ds h0 []))) := res_nst fun p e => by
      obtain ⟨q1, q2, _⟩ := run9_ok vr.vo.fl vr.vo.n0 (ds := c.ds) ns FlR.nil p e
      exact ⟨q1, q2⟩
    have nstk : Nst 4 (.lst [.txt (dR9 fs).shown, .rcd h0]) := fun x hx => by
      rcases List.mem_cons.mp hx with rfl | hx
      · exact True.intro
      · rw [List.mem_singleton.mp hx]
        exact ns.fl.nst
    refine for_range (lo := 0) (n := 2) (fun i σ H3 => (∃ a6 a7, σ = [some (.ref p), some (.int num), some (.ref vd), some (.ref sd), some (.ref dt), some (.ref kt), a6, a7]) ∧ Same H2 H3) ?_ ?_ ?_
    · exact ⟨⟨_, _, rfl⟩, Same.refl H2⟩
    · rintro i σ H3 hi ⟨⟨a6, a7, rfl⟩, S3⟩
      have S03 := S02.trans S3
      refine ⟨_, rfl, p, S, nm, ed, rfl, Tp.keep (Same.tk S03) _ _ hP, fun fa H4 S4 hfa => ?_⟩
      refine ⟨Nat.zero_le _, fun e3 he3 => ?_⟩
      have S5 := S4.trans (Same.new (o := .tup []) he3)
      have hfa5 := hfa.same (Same.new (o := .tup []) he3)
      generalize (upd H4 e3 (.tup [])) = H5 at *
      have S05 := S03.trans S5
      refine ⟨_, rfl, _, rfl, _, rfl, rfl, rfl, fa, vd, sd, _, _, num, S.cl, c, fs, h0, w, n, rfl, hfa5, hf, ld, hv.same S05, vr.vo, hs.same S05, ns, l0, fun r H6 S6 R6 => ?_⟩
      obtain ⟨tt, txs, rfl, htt⟩ := R6.at
      have S06 := S05.trans S6
      have S26 := (S3.trans S5).trans S6
      refine ⟨_, rfl, _, _, .type "tuple", .type "tuple", true, rfl, .ty _, .base (.tup htt), rfl, true, rfl, ?_⟩
      refine iteF ?_
      refine ⟨_, rfl, _, rfl, 4, resV (run9 fs w n c.ds h0 []), by decide, nst, R6.1, (R2.same S26).1, _, rfl, iteF ?_⟩
      refine ⟨_, rfl, .ref vd, dR9 fs, rfl, .inl (prR (hv.same S06) vr.rf), dk.sh, fit, dun hr.units, _, rfl, (by show 2 ≤ sizeLine; decide), fun t2 ht2 => ?_⟩
      have S7 := Same.new (H := H6) (o := .tup [.str (dR9 fs).shown, .ref sd]) ht2
      have v7 : VD (upd H6 t2 (.tup [.str (dR9 fs).shown, .ref sd])) (.ref t2) (.lst [.txt (dR9 fs).shown, .rcd h0]) := .lst upd_same (.cons (.txt _) (.cons ((hs.same S06).same S7) .nil))
      have S27 := S26.trans S7
      have htt7 := S7 _ _ htt
      have R7 := R6.same S7
      generalize (upd H6 t2 (.tup [.str (dR9 fs).shown, .ref sd])) = H7 at *
      refine ⟨_, rfl, 4, _, by decide, nstk, v7, vk.same S27, _, rfl, iteF ?_⟩
      have S25 := S3.trans S5
      cases hR : run9 fs w n c.ds h0 [] with
      | inl u =>
        rw [hR] at R7
        obtain ⟨x1, x2, ex⟩ : ∃ x2 : V, ∃ r, txs = .str "fault" :: x2 :: r := by
          cases R7.1 with
          | lst ha q =>
            rw [htt7] at ha
            cases ha
            cases q with
            | cons a q =>
              cases a
              cases q with
              | cons a q => exact ⟨_, _, rfl⟩
        rw [ex] at htt7
        exact ⟨_, rfl, tt, _, _, _, rfl, rfl, SqT.of htt7, (show atI (V.str "fault" :: x1 :: x2) 0 = some (V.str "fault") from atI_nat (j := 0) rfl), rfl, _, rfl, iteN (sneb (by decide +kernel)) ⟨⟨_, _, rfl⟩, S27⟩⟩
      | inr pp =>
        rw [hR] at R7
        obtain ⟨t', A', S', ka, ks, et, h1, h2, h3, hA0, hS0, nAS, la, ls⟩ := R7.2 pp rfl
        cases et
        have hA2 : H2 A' = none := S25.free hA0
        have hS2 : H2 S' = none := S25.free hS0
        refine ⟨_, rfl, tt, _, _, _, rfl, rfl, SqT.of h1, rfl, rfl, _, rfl, iteY (seqb _) ?_⟩
        refine ⟨_, rfl, tt, _, _, _, rfl, rfl, SqT.of h1, rfl, A', _, rfl, DPut.k (k := Sum.inr "zz") h2 (small9 (by omega)), ?_⟩
        have nt1 : tt ≠ A' := fun e => by rw [e, h2] at h1; cases h1
        have h1' : (upd H7 A' (.dK (putK ka (Sum.inr "zz") (.int 1)))) tt = some (.tup [.str "done", .ref A', .ref S']) := by rw [upd_ne nt1]; exact h1
        have h3' : (upd H7 A' (.dK (putK ka (Sum.inr "zz") (.int 1)))) S' = some (.dK ks) := by rw [upd_ne nAS.symm]; exact h3
        refine ⟨_, rfl, tt, _, _, _, rfl, rfl, SqT.of h1', rfl, S', _, rfl, DPut.k (k := Sum.inr "zz") h3' (small9 (by omega)), ?_⟩
        exact ⟨⟨_, _, rfl⟩, Same.wr (Same.wr S27 hA2) hS2⟩
    · rintro σ H3 ⟨⟨a6, a7, rfl⟩, S3⟩
      have S03 := S02.trans S3
      obtain ⟨k1, hk1, ek1, qk1⟩ := rd_at (hs.same S03)
      refine ⟨_, rfl, sd, k1, rfl, .inl hk1, fun d2 hd2 => ?_⟩
      have S4 := Same.new (H := H3) (o := .dK k1) hd2
      have v4 : VD (upd H3 d2 (.dK k1)) (.ref d2) (.rcd h0) := .rcd upd_same ek1 (VDs.flat (Same.tk S4) qk1 fun v hv => by obtain ⟨g, hg, rfl⟩ := List.mem_map.mp hv; exact ns.fl.fl g hg)
      generalize (upd H3 d2 (.dK k1)) = H4 at *
      refine ⟨_, rfl, _, rfl, Nat.zero_le _, fun e4 he4 => ?_⟩
      have S5 := S4.trans (Same.new (o := .tup []) he4)
      have v5 := v4.same (Same.new (o := .tup []) he4)
      generalize (upd H4 e4 (.tup [])) = H5 at *
      refine ⟨_, rfl, p, S, nm, ed, rfl, Tp.keep (Same.tk (S03.trans S5)) _ _ hP, fun fa H6 S6 hfa => ?_⟩
      refine ⟨Nat.zero_le _, fun e5 he5 => ?_⟩
      have S7 := (S5.trans S6).trans (Same.new (o := .tup []) he5)
      have v7 := (v5.same S6).same (Same.new (o := .tup []) he5)
      have hfa7 := hfa.same (Same.new (o := .tup []) he5)
      generalize (upd H6 e5 (.tup [])) = H7 at *
      have S07 := S03.trans S7
      refine ⟨rfl, rfl, fa, vd, d2, _, _, num, S.cl, c, fs, h0, w, n, rfl, hfa7, hf, ld, hv.same S07, vr.vo, v7, ns, l0, fun r H8 S8 R8 => ?_⟩
      have S28 := (S3.trans S7).trans S8
      refine ⟨_, rfl, 4, resV (run9 fs w n c.ds h0 []), by decide, nst, R8.1, (R2.same S28).1, _, rfl, iteF ?_⟩
      have R := R2.same S28
      refine ⟨_, rfl, k _ _ (S07.trans S8) ⟨R.1, fun p e => ?_⟩⟩
      obtain ⟨t, A, S', ka, ks, e1, e2, e3, e4, e5, e6, rest⟩ := R.2 p e
      exact ⟨t, A, S', ka, ks, e1, e2, e3, e4, S0.free e5, S0.free e6, rest⟩
end
end Fh

set_option Elab.async false
set_option linter.all false
set_option maxRecDepth 100000
set_option maxHeartbeats 4000000
namespace Fh
open PySem L2 PyProof.Rows
abbrev sLaw9 : Stmt := top 45
abbrev nLaw9 : List Str := ["_law_script", "_law_k", "_law_bag_here", "_law_parts", "_law_left", "_law_turn", "_law_figure", "_law_word", "_law_ask", "_law_answer", "_law_deeds", "_law_thing", "_law_due"]
def spLaw (K : PySem.W.Frag) : Sp := fun vs H Q _ => ∃ (a : Addr) (ns : List Int), vs = [.ref a] ∧ SqL K H a (ns.map V.int) ∧ ∀ H', Q (.bl true) H'
section
variable {P : Program} {w : World} {K : PySem.W.Frag} {mg : Str → Option Value} {base : Heap}
theorem ok_who9 {f : Addr} {fd : FuncData} (F : Fun K "is_whole" "is_whole" sWho f fd) (G : Glb mg) (gb : mg "bool" = none) : FnOk P w K mg base CX0 1 f fd ["thing"] spWho := by
  refine F.ok scWho (fun vs H Q E h => ?_) (fun cdv A outer s H vs Q E hr h => ?_)
  · rcases h with ⟨i, rfl, _⟩ | ⟨b, rfl, _⟩ <;> rfl
  · refine ⟨_, (pss_one (ps_ret (pe_and (pe_callB call_isi (by rfl) G.isi (by decide +kernel) (pa_cons (pv 0) (pa_cons (pe_bltn (v := .ty "int") rfl G.int (by decide +kernel) rfl) pa_nil))) (pe_one (pe_not (pe_callB call_isi (by rfl) G.isi (by decide +kernel) (pa_cons (pv 0) (pa_cons (pe_bltn (v := .ty "bool") rfl gb (by decide +kernel) rfl) pa_nil)))))))), ?_⟩
    rcases h with ⟨i, rfl, q⟩ | ⟨b, rfl, q⟩
    · exact ⟨_, rfl, _, _, .type "int", .type "int", true, rfl, .ty _, .base (.int i), rfl, true, rfl, iteT ⟨_, rfl, _, _, .type "int", .type "bool", false, rfl, .ty _, .base (.int i), rfl, false, rfl, q⟩⟩
    · exact ⟨_, rfl, _, _, .type "bool", .type "int", true, rfl, .ty _, .base (.bl b), rfl, true, rfl, iteT ⟨_, rfl, _, _, .type "bool", .type "bool", true, rfl, .ty _, .base (.bl b), rfl, true, rfl, q⟩⟩
theorem scLaw9 : FnScope nLaw9 ["_law_script"] (defScope sLaw9) := ⟨rfl, rfl, rfl, by decide +kernel, rfl, by decide +kernel, by decide +kernel⟩
theorem ok_law9 {f C : Addr} {fd : FuncData} (F : Fun K "law" "law" sLaw9 f fd) (G : Glb mg) (DB : Has P w K mg base "_law_bag" 1 ["_law_script", "_law_at"] (spBag K)) (DT : Has P w K mg base "_law_take" 1 pTk9 spTake) (DS : Has P w K mg base "_law_served" 5 pSrv spSrv) (DN : Has P w K mg base "_law_name" 2 ["_law_bag_here"] spName)
    (DE : Has P w K mg base "_law_named_few" 2 ["_law_bag_here", "_law_thing"] spFew) (DV : Has P w K mg base "_law_value" 4 pVal9 (spVal9 3)) (DR : HasG P w K mg base "_law_right" 6 pRig9 spRig9) : FnG P w K mg base CX0 7 f fd ["_law_script"] (spLaw K) := by
  refine okG F scLaw9 (fun vs H Q E h => ?_) (fun cdv A outer s H vs Q E gu hr h => ?_)
  · obtain ⟨a, ns, rfl, _⟩ := h
    rfl
  · obtain ⟨a, ns, rfl, hS, k⟩ := h
    have hm : most = 1000000 := rfl
    refine ⟨_, (pss_cons (ps_for PassesOwn.never rfl (pi_range1 rfl G.range (pa_cons (pe_mid (pe_callB (call_max2 rfl) (by rfl) G.max (by decide +kernel) (pa_cons pe_int (pa_cons (pe_callB (call_min2 rfl) (by rfl) G.min (by decide +kernel) (pa_cons pe_int (pa_cons (pe_callB call_len_seq (by rfl) G.len (by decide +kernel) (pa_cons (pv 0) pa_nil)) pa_nil))) pa_nil)))) pa_nil)) (pg_name (i := 1) scLaw9.nd rfl (Or.inl rfl))
      (pss_cons (ps_set (i := 2) scLaw9.nd rfl (Or.inl rfl) (pe_has DB (hr.mono (by omega)) rfl (pa_cons (pv 0) (pa_cons (pv 1) pa_nil))))
      (pss_cons (ps_set (i := 3) scLaw9.nd rfl (Or.inl rfl) (pe_has DS (hr.mono (by omega)) rfl (pa_cons (pv 2) (pa_cons (pe_has DN (hr.mono (by omega)) rfl (pa_cons (pv 2) pa_nil)) (pa_cons (pe_op op_add pe_int (pe_has DT (hr.mono (by omega)) rfl (pa_cons (pv 2) (pa_cons pe_int pa_nil)))) (pa_cons (pe_lst pa_nil) pa_nil))))))
      (pss_cons (ps_set (i := 4) scLaw9.nd rfl (Or.inl rfl) (pe_disp (pps_cons pe_str (pe_mid (pe_ix ix_list (pe_lst (pa_cons pe_int (pa_cons pe_int (pa_cons (pe_op op_pow pe_int pe_int) pa_nil)))) (pe_has DT (hr.mono (by omega)) rfl (pa_cons (pv 2) (pa_cons pe_int pa_nil))) (fun _ _ => rfl))) (pps_cons pe_str (pe_has DT (hr.mono (by omega)) rfl (pa_cons (pv 2) (pa_cons pe_int pa_nil))) pps_nil)) (by rfl) (by rfl) (fun z => by cases z) (by decide)))
      (pss_one (ps_for PassesOwn.never rfl (pi_range1 rfl G.range (pa_cons (pe_op op_add pe_int (pe_has DT (hr.mono (by omega)) rfl (pa_cons (pv 2) (pa_cons pe_int pa_nil)))) pa_nil)) (pg_name (i := 5) scLaw9.nd rfl (Or.inl rfl))
      (pss_cons (ps_asg (pe_ix ix_tup (pe_ix ix_tup (pv 3) pe_int (fun _ _ => rfl)) (pe_has DT (hr.mono (by omega)) rfl (pa_cons (pv 2) (pa_cons (pe_callB call_len_seq (by rfl) G.len (by decide +kernel) (pa_cons (pe_ix ix_tup (pv 3) pe_int (fun _ _ => rfl)) pa_nil)) pa_nil))) (fun _ _ => rfl)) (pg_tup rfl (pgs_cons (pg_name (i := 6) scLaw9.nd rfl (Or.inl rfl)) (pgs_cons (pg_name (i := 7) scLaw9.nd rfl (Or.inl rfl)) (pgs_cons (pg_name (i := 8) scLaw9.nd rfl (Or.inl rfl)) (pgs_cons (pg_name (i := 9) scLaw9.nd rfl (Or.inl rfl)) (pgs_cons (pg_name (i := 10) scLaw9.nd rfl (Or.inl rfl)) pgs_nil)))))))
      (pss_cons (ps_set (i := 11) scLaw9.nd rfl (Or.inl rfl) (pe_has DE (hr.mono (by omega)) rfl (pa_cons (pv 2) (pa_cons (pe_has DV (hr.mono (by omega)) rfl (pa_cons (pv 2) (pa_cons (pv 3) (pa_cons (pe_tup (pa_cons pe_str (pa_cons (pv 8) pa_nil))) (pa_cons pe_int pa_nil))))) pa_nil))))
      (pss_cons (ps_set (i := 12) scLaw9.nd rfl (Or.inl rfl) (pe_hasG DR gu (hr.mono (by omega)) rfl (pa_cons (pv 3) (pa_cons (pv 6) (pa_cons (pv 11) (pa_cons (pv 4) pa_nil))))))
      (pss_cons (ps_if (pt_cmpR op_isN (pv 12) pe_non (nomark _))
      (pss_one (ps_ret pe_bl))
      pss_nil)
      (pss_one (ps_if (pt_cmpR op_eq (pe_ix ix_tup (pv 12) pe_int (fun _ _ => rfl)) pe_str (nomark _))
      (pss_one (ps_set (i := 4) scLaw9.nd rfl (Or.inl rfl) (pe_ix ix_tup (pv 12) pe_int (fun _ _ => rfl))))
      pss_nil))))))))))))
      (pss_one (ps_ret pe_bl))), ?_⟩
    refine ⟨fun v H1 => ∃ m : Int, v = .int m ∧ 0 ≤ m ∧ m ≤ 6 ∧ H = H1, ?_, ?_⟩
    · refine ⟨_, rfl, a, _, rfl, .inl hS, _, _, rfl, _, _, rfl, ?_⟩
      refine ⟨_, rfl, ?_, ?_, rfl⟩
      · split <;> split <;> omega
      · split <;> split <;> omega
    rintro v H1 ⟨m, rfl, m0, m6, rfl⟩
    refine ⟨m, rfl, by omega, by omega, ?_⟩
    refine for_range (lo := 0) (n := m.toNat) (fun i σ H1 => (∃ a1 a2 a3 a4 a5 a6 a7 a8 a9 a10 a11 a12, σ = [some (.ref a), a1, a2, a3, a4, a5, a6, a7, a8, a9, a10, a11, a12]) ∧ Same H H1) ?_ ?_ ?_
    · exact ⟨⟨_, _, _, _, _, _, _, _, _, _, _, _, rfl⟩, Same.refl H⟩
    · rintro i σ H1 hi ⟨⟨a1, a2, a3, a4, a5, a6, a7, a8, a9, a10, a11, a12, rfl⟩, sm1⟩
      refine ⟨_, rfl, _, rfl, a, ns, _, rfl, SqL.ext hS sm1, by omega, by omega, fun b H2 sm2 hb B2 => ?_⟩
      have hb0 : H b = none := sm1.free hb
      have toS : ∀ {H' : Hp}, Kp b H2 H' → Same H H' := fun {H'} kp c o e => kp c o (fun q => by rw [q, hb0] at e; cases e) (sm2 _ _ (sm1 _ _ e))
      -- the parts
      refine ⟨_, rfl, _, rfl, b, 0, rfl, B2, by decide, ?_⟩
      intro nm H3 nmn k3 b3
      refine ⟨_, rfl, b, 99, 10, rfl, by decide, by decide, b3, by decide, fun d H4 d0 d1 k4 b4 => ?_⟩
      refine ⟨_, _, rfl, rfl, Nat.zero_le _, fun wl hwl => ?_⟩
      refine ⟨b, wl, nm, 1 + d, 11, rfl, b4.new hwl, by decide, upd_same, new_ne hwl b4, fun p S H5 k5 b5 hP so => ?_⟩
      have K5 : Kp b H2 H5 := (k3.trans k4).trans ((Kp.refl.new hwl).trans k5)
      -- the store
      intro dl hdl
      have ndl : dl ≠ b := new_ne hdl b5
      have p9 : CPow 10 9 := ⟨by decide, by decide, by decide⟩
      have e9 : (10 : Int) ^ (9 : Int).toNat = 1000000000 := by decide
      have hd0 : (upd H5 dl (.dK [])) dl = some (.dK []) := upd_same
      have b5' := b5.new (o := .dK []) hdl
      have K5' : Kp b H2 (upd H5 dl (.dK [])) := K5.new hdl
      have hP' := Tp.keep (Tk.new (o := .dK []) hdl) _ _ hP
      generalize (upd H5 dl (.dK [])) = H6 at *
      refine ⟨fun v H' => ∃ x : Int, v = .int x ∧ 0 ≤ x ∧ x ≤ 1000000000 ∧ Kp b H6 H' ∧ Bag H' b (11 + 2200 + 1), ?_, ?_⟩
      · refine ⟨_, _, rfl, rfl, p9, (by show 3 ≤ sizeLine; decide), fun l1 hl1 => ?_⟩
        have nl1 : l1 ≠ b := new_ne hl1 b5'
        refine ⟨_, rfl, b, 3, _, rfl, by decide, by decide, b5'.new hl1, by decide, fun e H7 e0 e1 k7 b7 => ?_⟩
        have x1 := k7 _ _ nl1 upd_same
        have K7 : Kp b H6 H7 := (Kp.refl.new hl1).trans k7
        replace x1 : H7 l1 = some (.lst [.int 0, .int 1, .int 1000000000]) := by rw [← e9]; exact x1
        rcases (by omega : e = 0 ∨ e = 1 ∨ e = 2) with rfl | rfl | rfl
        · exact ⟨l1, _, _, _, rfl, rfl, SqL.of x1, rfl, 0, rfl, by decide, by decide, K7, b7⟩
        · exact ⟨l1, _, _, _, rfl, rfl, SqL.of x1, rfl, 1, rfl, by decide, by decide, K7, b7⟩
        · exact ⟨l1, _, _, _, rfl, rfl, SqL.of x1, rfl, 1000000000, rfl, by decide, by decide, K7, b7⟩
      rintro v H7 ⟨x, rfl, x0, x1, k7, b7⟩
      refine ⟨_, rfl, b, 1000, _, rfl, by decide, by decide, b7, by decide, fun e H8 e0 e1 k8 b8 => ?_⟩
      have K68 : Kp b H6 H8 := k7.trans k8
      refine ⟨K68 _ _ ndl hd0, [(Sum.inr "a", .int x), (Sum.inr "bo", .int e)], rfl, (by show 2 ≤ 15; decide), ?_⟩
      have hdl8 := K68 _ _ ndl hd0
      have nab : ("a" : Str) ≠ "bo" := by decide
      rw [show mergeK [] [((Sum.inr "a" : Key), V.int x), (Sum.inr "bo", V.int e)] = [((Sum.inr "a" : Key), V.int x), (Sum.inr "bo", V.int e)] from by rw [merge_new (by simp [nab])]; rfl]
      have T8 : Tk H8 (upd H8 dl (.dK [(Sum.inr "a", .int x), (Sum.inr "bo", .int e)])) := tk_wr hdl8
      have hP9 := Tp.keep T8 _ _ (Tp.keep (K68.tk b5') _ _ hP')
      have hdl2 : H2 dl = none := K5.free b5.at hdl
      have K9 : Kp b H2 (upd H8 dl (.dK [(Sum.inr "a", .int x), (Sum.inr "bo", .int e)])) := (K5'.trans K68).wr hdl2
      have b9 := b8.ne (o := .dK [(Sum.inr "a", .int x), (Sum.inr "bo", .int e)]) ndl
      have v9 : VD (upd H8 dl (.dK [(Sum.inr "a", .int x), (Sum.inr "bo", .int e)])) (.ref dl) (.rcd [("a", .num x), ("bo", .num e)]) := .rcd upd_same rfl (.cons (.num _) (.cons (.num _) .nil))
      generalize (upd H8 dl (.dK [(Sum.inr "a", .int x), (Sum.inr "bo", .int e)])) = H9 at *
      have ns0 : NumS [("a", .num x), ("bo", .num e)] := ⟨fun f hf => by
        rcases List.mem_cons.mp hf with rfl | hf
        · exact ⟨x, rfl, x0, x1⟩
        · rw [List.mem_singleton.mp hf]
          exact ⟨e, rfl, e0, by omega⟩, by simp [nab]⟩
      -- calls
      refine ⟨_, rfl, b, 12, _, rfl, by decide, by decide, b9, by decide, fun tn H10 t0 t1 k10 b10 => ?_⟩
      refine ⟨_, _, rfl, rfl, 1 + tn, rfl, by omega, by omega, ?_⟩
      refine for_range (lo := 0) (n := (1 + tn).toNat) (fun j σ H' => ∃ (sd : Addr) (h0 : List (Str × Vl)), (∃ a5 a6 a7 a8 a9 a10 a11 a12, σ = [some (.ref a), some (.int (0 + (i : Int))), some (.ref b), some (.ref p), some (.ref sd), a5, a6, a7, a8, a9, a10, a11, a12]) ∧ Kp b H9 H' ∧ Bag H' b (3000 + 1700 * j) ∧ VD H' (.ref sd) (.rcd h0) ∧ NumS h0 ∧ h0.length ≤ 2 + 7 * j) ?_ ?_ ?_
      · exact ⟨dl, _, ⟨_, _, _, _, _, _, _, _, rfl⟩, k10, b10.mono (by omega), rd_keep v9 ns0.fl.fl (k10.tk b9) (fun o e => k10 _ o ndl e), ns0, by simp⟩
      · rintro j σ HA hj ⟨sd, h0, ⟨a5, a6, a7, a8, a9, a10, a11, a12, rfl⟩, KA, bA, vA, nsA, lA⟩
        have hj12 : j < 12 := by omega
        have hPA := Tp.keep (KA.tk b9) _ _ hP9
        obtain ⟨pa, v1, v2, v3, v4, v5, epa, hp, _, _, _, _, t5⟩ := Tp.five hPA
        cases epa
        obtain ⟨ce, xs, rfl, hce, tx⟩ := Tp.inv t5
        have lxs : xs.length = S.cl.length := by rw [tx.length, List.length_map]
        have l1 : 1 ≤ S.cl.length := List.length_pos_iff.mpr so.ne
        have l3 := so.l3
        refine ⟨_, rfl, p, _, _, _, rfl, rfl, SqT.of hp, rfl, _, rfl, _, rfl, p, _, _, _, rfl, rfl, SqT.of hp, rfl, ce, _, rfl, .inr (SqT.of hce), b, _, _, rfl, by omega, by omega, bA, by omega, fun e2 HB e20 e21 kB bB => ?_⟩
        have TB := kB.tk bA
        obtain ⟨v, ev, ev2, _⟩ := atI_in (xs := xs) e20 e21
        obtain ⟨c, t, u, hc, rfl, ht, tu⟩ := calls9_at (TpAll.keep TB _ _ tx) ev2
        refine ⟨ce, _, _, _, rfl, rfl, SqT.of (TB _ _ hce), ev, ?_⟩
        refine ⟨t, _, rfl, SqT.of ht, rfl, _, _, rfl, _, _, rfl, _, _, rfl, _, _, rfl, _, _, rfl, rfl, ?_⟩
        have cm := List.mem_of_getElem? hc
        obtain ⟨c2, hc2⟩ : ∃ c2, S.cl.find? (numIs9 c.num) = some c2 := by
          cases q : S.cl.find? (numIs9 c.num) with
          | some c2 => exact ⟨c2, rfl⟩
          | none =>
            have := List.find?_eq_none.mp q c cm
            exact absurd (decide_eq_true rfl) this
        obtain ⟨ld, fl, mr, okf⟩ := so.ok c cm
        have hlr := look_nd9 so.nd mr
        have ld2 := (so.ok c2 (List.mem_of_find?_eq_some hc2)).1
        -- what is asked with
        refine ⟨_, rfl, _, rfl, _, rfl, _, rfl, (by show 2 ≤ sizeLine; decide), fun kt hkt => ?_⟩
        have TC := TB.trans (Tk.new (o := .tup [.str "record", .str c.ask]) hkt)
        have KC : Kp b HA (upd HB kt (.tup [.str "record", .str c.ask])) := kB.new hkt
        have bC := bB.new (o := .tup [.str "record", .str c.ask]) hkt
        have tC1 : Tp (upd HB kt (.tup [.str "record", .str c.ask])) (.ref kt) (Kn.one (.rc c.ask)).d := .tup upd_same (.cons (.str _) (.cons (.str _) .nil))
        generalize (upd HB kt (.tup [.str "record", .str c.ask])) = HC at *
        have vC := rd_keep vA nsA.fl.fl TC (fun o e => KC _ o (fun q => by
          obtain ⟨_, hk, _⟩ := rd_at vA
          obtain ⟨_, _, _, z, _⟩ := bA
          rw [q, z] at hk
          cases hk) e)
        refine ⟨b, p, .ref kt, 2, _, S, nm, 1 + d, .one (.rc c.ask), rfl, bC, by omega, Tp.keep TC _ _ hPA, so, tC1, .inr (.inr ⟨c.ask, fl, by decide, rfl, rfl, so.nmr _ mr, hlr, okf, fun va fs w' i' HD kD bD vD hva vr => ?_⟩)⟩
        refine ⟨b, va, fs, w', i', _, rfl, bD, by omega, vD, vr, fun vb fs2 w2 i2 HE hvb kE bE vE vr2 => ?_⟩
        have KE : Kp b HC HE := kD.trans kE
        have vE2 := rd_keep vC nsA.fl.fl (KE.tk bC) (fun o e => KE _ o (fun q => by
          obtain ⟨_, hk, _⟩ := rd_at vC
          obtain ⟨_, _, _, z, _⟩ := bC
          rw [q, z] at hk
          cases hk) e)
        have hPE := Tp.keep (KE.tk bC) _ _ (Tp.keep TC _ _ hPA)
        refine ⟨_, rfl, _, rfl, _, rfl, _, rfl, p, vb, sd, c.num, S, nm, 1 + d, c2, fs2, h0, w2, i2, rfl, hPE, hc2, by omega, vE, vr2, vE2, nsA, by omega, fun r HF SF RF => ?_⟩
        obtain ⟨rt, rxs, rfl, hrt⟩ := RF.at
        refine ⟨_, rfl, rfl, _, rfl, iteN (by rfl) ?_⟩
        have KF : Kp b HA HF := (KC.trans KE).same SF
        have bF := bE.same SF
        cases hR : run9 fs2 w2 i2 c2.ds h0 [] with
        | inl u =>
          rw [hR] at RF
          obtain ⟨x1, x2, ex⟩ : ∃ x2 : V, ∃ r, rxs = .str "fault" :: x2 :: r := by
            cases RF.1 with
            | lst ha q =>
              rw [hrt] at ha
              cases ha
              cases q with
              | cons a q =>
                cases a
                cases q with
                | cons a q => exact ⟨_, _, rfl⟩
          rw [ex] at hrt
          refine ⟨_, rfl, rt, _, _, _, rfl, rfl, SqT.of hrt, (show atI (V.str "fault" :: x1 :: x2) 0 = some (V.str "fault") from atI_nat (j := 0) rfl), rfl, _, rfl, iteN (sneb (by decide +kernel)) ?_⟩
          exact ⟨sd, h0, ⟨_, _, _, _, _, _, _, _, rfl⟩, KA.trans KF, bF.mono (by omega), vE2.same SF, nsA, by omega⟩
        | inr pp =>
          rw [hR] at RF
          obtain ⟨t', A', S', ka, ks, et, h1, h2, h3, hA0, hS0, nAS, la, ls⟩ := RF.2 pp rfl
          cases et
          obtain ⟨q1, q2, q3, q4⟩ := run9_ok vr2.vo.fl vr2.vo.n0 nsA FlR.nil pp hR
          have vS : VD HF (.ref S') (.rcd (left9 pp.1)) := by
            cases RF.1 with
            | lst ha q =>
              rw [h1] at ha
              cases ha
              cases q with
              | cons a q =>
                cases q with
                | cons b q =>
                  cases q with
                  | cons c q => exact c
          have ll : (left9 pp.1).length ≤ pp.1.length := List.length_filter_le _ _
          refine ⟨_, rfl, rt, _, _, _, rfl, rfl, SqT.of h1, rfl, rfl, _, rfl, iteY (seqb _) ?_⟩
          refine ⟨_, rfl, rt, _, _, _, rfl, rfl, SqT.of h1, rfl, ?_⟩
          exact ⟨S', left9 pp.1, ⟨_, _, _, _, _, _, _, _, rfl⟩, KA.trans KF, bF.mono (by omega), vS, left9_ok q1, by omega⟩
      · rintro σ HA ⟨sd, h0, ⟨a5, a6, a7, a8, a9, a10, a11, a12, rfl⟩, KA, bA, vA, nsA, lA⟩
        exact ⟨⟨_, _, _, _, _, _, _, _, _, _, _, _, rfl⟩, toS (K9.trans KA)⟩
    · rintro σ H1 ⟨_, sm⟩
      exact k H1
end
end Fh

set_option Elab.async false
set_option linter.all false
set_option maxRecDepth 100000
set_option maxHeartbeats 0
namespace Fh
open PySem PySem.Spec PyProof.Rows L2
theorem toFun {K : PySem.W.Frag} {x q : Str} {st : Stmt} {f : Addr} {fd : FuncData} (F : FunD K x q (defArgs st) (defBody st) (defScope st) [] [] f fd) : Fun K x q st f fd := by
  obtain ⟨oc, od, dV, kV, doc, pm, an, cdv, ct, osl, e, lk, hcd, hD, _⟩ := F.ex
  rcases hD with ⟨_, rfl⟩ | ⟨e, _⟩
  · exact ⟨⟨oc, od, kV, doc, pm, an, cdv, ct, osl, e, lk, hcd⟩, F.kp⟩
  · exact absurd rfl e
theorem facts {P : Program} {w : World} {K : PySem.W.Frag} {h : Heap} {mg : Str → Option Value} {f : Addr} (X : K.In h) (G : h.Ns mainGlobals mg) (hfa : mg ("law" : Str) = some (.ref f)) (c : He.SaysX fa fn [] [] ex w h K) :
    ∃ fd : FuncData, (∀ (s : Shared) (v : Value), BindsTo s fd ⟨[v], []⟩ [("_law_script", v)]) ∧ ∀ base : Heap, K.In base → base.Ns mainGlobals mg → FnG P w K mg base CX0 7 f fd ["_law_script"] (spLaw K) := by
  have d := c.t.d
  have gl : ∀ (i : Nat) {x : Str}, fa[i]? = some (.glo x) → mg x = some (.ref (He.ga K x)) := fun i x hi => He.glo_ok X G (d.fact i hi)
  have fr : ∀ (i : Nat) {x : Str}, fa[i]? = some (.free x) → mg x = none := fun i x hi => He.free_ok X G (d.fact i hi)
  have na : ∀ (i : Nat) {x y : Str}, fa[i]? = some (.noat x y) → NoAttr K (He.ga K x) y := fun i x y hi => He.noat_ok (d.fact i hi)
  have it : ∀ (i : Nat) {x : Str} {z : Int}, fa[i]? = some (.int x z) → ∃ t, mg x = some (.int z t) := fun i x z hi => He.int_ok X G (d.fact i hi)
  have GG : Glb mg := ⟨fr 24 rfl, fr 25 rfl, fr 26 rfl, fr 27 rfl, fr 28 rfl, fr 29 rfl, fr 30 rfl, fr 31 rfl, fr 32 rfl, fr 33 rfl, fr 34 rfl, fr 35 rfl, fr 36 rfl, fr 37 rfl, fr 38 rfl, fr 39 rfl, fr 40 rfl⟩
  have cl : Cls K (fC K) := He.cls_ok (d.fact 43 (f := .cls "Face") rfl)
  have mk : Mk K (fC K) (He.ma K (fC K) "__init__") := He.mkr_ok (d.fact 49 (f := .mkr "Face") rfl)
  have T : ClsF K mg (fC K) := ⟨cl, na 44 rfl, na 45 rfl, na 46 rfl, na 47 rfl, na 48 rfl, gl 0 rfl⟩
  obtain ⟨fdI, DI⟩ := d.def_ 0 (d := dInit) rfl
  have mm0 : Meth K (fC K) "call_of" (He.ma K (fC K) "call_of") := He.meth_ok (d.fact 50 (f := .meth "Face" "call_of") rfl)
  obtain ⟨fdm0, Dm0⟩ := d.def_ 1 (d := mdef "call_of" "Face.call_of" sCof9) rfl
  obtain ⟨fd0, D0⟩ := d.def_ 2 (d := fdef "is_whole" sWho) rfl
  obtain ⟨fd1, D1⟩ := d.def_ 3 (d := fdef "copied" sCpy) rfl
  obtain ⟨fd2, D2⟩ := d.def_ 4 (d := dInitO) rfl
  obtain ⟨fd3, D3⟩ := d.def_ 5 (d := fdef "do_at_home" sHom) rfl
  obtain ⟨fd4, D4⟩ := d.def_ 6 (d := fdef "moved" sMov) rfl
  obtain ⟨fd5, D5⟩ := d.def_ 7 (d := fdef "_law_bag" sBag) rfl
  obtain ⟨fd6, D6⟩ := d.def_ 8 (d := fdef "_law_take" sTake) rfl
  obtain ⟨fd7, D7⟩ := d.def_ 9 (d := fdef "_law_name" sName) rfl
  obtain ⟨fd8, D8⟩ := d.def_ 10 (d := fdef "_law_names" sUnlikeN) rfl
  obtain ⟨fd9, D9⟩ := d.def_ 11 (d := fdef "_law_face" sFac9) rfl
  obtain ⟨fd10, D10⟩ := d.def_ 12 (d := fdef "_law_numbers" sNum9) rfl
  obtain ⟨fd11, D11⟩ := d.def_ 13 (d := fdef "_law_of" sLof9) rfl
  obtain ⟨fd12, D12⟩ := d.def_ 14 (d := fdef "_law_plain_kind" sPlk) rfl
  obtain ⟨fd13, D13⟩ := d.def_ 15 (d := fdef "_law_drawn_kind" sDrk) rfl
  obtain ⟨fd14, D14⟩ := d.def_ 16 (d := fdef "_law_picks" sPck) rfl
  obtain ⟨fd15, D15⟩ := d.def_ 17 (d := fdef "_law_call_deeds" sCde) rfl
  obtain ⟨fd16, D16⟩ := d.def_ 18 (d := fdef "_law_served" sSrv) rfl
  obtain ⟨fd17, D17⟩ := d.def_ 19 (d := fdef "_law_value" sVal9) rfl
  obtain ⟨fd18, D18⟩ := d.def_ 20 (d := fdef "_law_call_of" sCal9) rfl
  obtain ⟨fd19, D19⟩ := d.def_ 21 (d := fdef "_law_run" sRun9) rfl
  obtain ⟨fd20, D20⟩ := d.def_ 22 (d := fdef "_law_named_few" sFew) rfl
  obtain ⟨fd21, D21⟩ := d.def_ 23 (d := fdef "_law_right" sRig9) rfl
  obtain ⟨fd22, D22⟩ := d.def_ 24 (d := fdef "law" sLaw9) rfl
  have e2 := hfa.symm.trans (gl 23 (x := "law") rfl)
  cases e2
  have bL := FunD.bindsA (ps := ["_law_script"]) D22 fun _ _ _ _ _ _ us hl => match us, hl with | [_], _ => rfl
  refine ⟨fd22, fun s v => bL s [v] rfl, fun base _ _ => ?_⟩
  have FI : DInit K (kwOf ("Face", some "__init__") "choices" K) (kwOf ("Face", some "__init__") "records" K) (kwOf ("Face", some "__init__") "calls" K) (He.ma K (fC K) "__init__") fdI := DI
  have M : MkF P w K mg base (fC K) := ⟨⟨_, fdI, _, _, _, mk, ok_init FI T, FI⟩, gl 0 rfl⟩
  obtain ⟨tG, mG⟩ := it 52 (x := "GREATEST_WHOLE") (z := 1000000000) rfl
  obtain ⟨tB, mB⟩ := He.str_ok X G (d.fact 53 (f := .str "TOO_GREAT" "great") rfl)
  have grp : mg "repr" = none := fr 42 rfl
  have Wh : Has P w K mg base "is_whole" 1 ["thing"] spWho := ⟨⟨_, fd0, gl 1 rfl, D0.kp, FunD.bindsN D0 (fun _ _ _ _ _ _ us hl => match us, hl with | [_], _ => rfl), ok_who9 (toFun (x := "is_whole") (q := "is_whole") (st := sWho) D0) GG (fr 41 rfl)⟩⟩
  have Co : HasM P w K mg base (fC K) "call_of" 2 ["self", "number"] (spCof9 (fC K)) := ⟨cl, _, fdm0, mm0, FunD.bindsN (ps := ["self", "number"]) Dm0 (fun _ _ _ _ _ _ us hl => match us, hl with | [_, _], _ => rfl), ok_cof9 (toFun (x := "call_of") (q := "Face.call_of") (st := sCof9) Dm0) cl T.n5 Wh⟩
  have Cp0 : Has P w K mg base "copied" 1 ["value"] (spCpy 0) := ⟨⟨_, fd1, gl 2 rfl, D1.kp, FunD.bindsN D1 (fun _ _ _ _ _ _ us hl => match us, hl with | [_], _ => rfl), none_cpy (toFun (x := "copied") (q := "copied") (st := sCpy) D1)⟩⟩
  have Cp1 : Has P w K mg base "copied" 2 ["value"] (spCpy 1) := ⟨⟨_, fd1, gl 2 rfl, D1.kp, FunD.bindsN D1 (fun _ _ _ _ _ _ us hl => match us, hl with | [_], _ => rfl), ok_cpy (toFun (x := "copied") (q := "copied") (st := sCpy) D1) GG Cp0⟩⟩
  have Cp2 : Has P w K mg base "copied" 3 ["value"] (spCpy 2) := ⟨⟨_, fd1, gl 2 rfl, D1.kp, FunD.bindsN D1 (fun _ _ _ _ _ _ us hl => match us, hl with | [_], _ => rfl), ok_cpy (toFun (x := "copied") (q := "copied") (st := sCpy) D1) GG Cp1⟩⟩
  have Mv : Has P w K mg base "moved" 1 ["deed", "value", "held"] spMov := ⟨⟨_, fd4, gl 5 rfl, D4.kp, FunD.bindsN D4 (fun _ _ _ _ _ _ us hl => match us, hl with | [_, _, _], _ => rfl), ok_mov (toFun (x := "moved") (q := "moved") (st := sMov) D4) mG mB⟩⟩
  have Hm : Has P w K mg base "do_at_home" 4 ["deed", "value", "held", "answer"] spHom := ⟨⟨_, fd3, gl 4 rfl, D3.kp, FunD.bindsN D3 (fun _ _ _ _ _ _ us hl => match us, hl with | [_, _, _, _], _ => rfl), ok_hom (toFun (x := "do_at_home") (q := "do_at_home") (st := sHom) D3) Mv Cp2⟩⟩
  have DO : DOut9 K (kwOf ("outcome", none) "answers" K) (He.ga K "outcome") fd2 := D2
  have HO : HasO9 P w K mg base (fC K) := ⟨_, _, fd2, gl 3 rfl, D2.kp, DO, ok_out9 DO GG Co Hm⟩
  have LB : Has P w K mg base "_law_bag" 1 ["_law_script", "_law_at"] (spBag K) := ⟨⟨_, fd5, gl 6 rfl, D5.kp, FunD.bindsN D5 (fun _ _ _ _ _ _ us hl => match us, hl with | [_, _], _ => rfl), ok_bag (toFun (x := "_law_bag") (q := "_law_bag") (st := sBag) D5) GG⟩⟩
  have LT : Has P w K mg base "_law_take" 1 ["_law_bag_here", "_law_size"] spTake := ⟨⟨_, fd6, gl 7 rfl, D6.kp, FunD.bindsN D6 (fun _ _ _ _ _ _ us hl => match us, hl with | [_, _], _ => rfl), ok_take (toFun (x := "_law_take") (q := "_law_take") (st := sTake) D6)⟩⟩
  have LN : Has P w K mg base "_law_name" 2 ["_law_bag_here"] spName := ⟨⟨_, fd7, gl 8 rfl, D7.kp, FunD.bindsN D7 (fun _ _ _ _ _ _ us hl => match us, hl with | [_], _ => rfl), ok_name (toFun (x := "_law_name") (q := "_law_name") (st := sName) D7) GG LT⟩⟩
  have LNs : Has P w K mg base "_law_names" 3 ["_law_bag_here", "_law_size", "_law_taken"] spUnlikeN := ⟨⟨_, fd8, gl 9 rfl, D8.kp, FunD.bindsN D8 (fun _ _ _ _ _ _ us hl => match us, hl with | [_, _, _], _ => rfl), ok_unlikeN (toFun (x := "_law_names") (q := "_law_names") (st := sUnlikeN) D8) GG LN⟩⟩
  have LF : Has P w K mg base "_law_face" 3 ["_law_parts"] (spFac9 (fC K)) := ⟨⟨_, fd9, gl 10 rfl, D9.kp, FunD.bindsN D9 (fun _ _ _ _ _ _ us hl => match us, hl with | [_], _ => rfl), ok_fac9 (toFun (x := "_law_face") (q := "_law_face") (st := sFac9) D9) M⟩⟩
  have LU : Has P w K mg base "_law_numbers" 2 ["_law_bag_here", "_law_size"] spNum9 := ⟨⟨_, fd10, gl 11 rfl, D10.kp, FunD.bindsN D10 (fun _ _ _ _ _ _ us hl => match us, hl with | [_, _], _ => rfl), ok_num9 (toFun (x := "_law_numbers") (q := "_law_numbers") (st := sNum9) D10) GG LT⟩⟩
  have LO : Has P w K mg base "_law_of" 1 ["_law_rows", "_law_word"] spLof9 := ⟨⟨_, fd11, gl 12 rfl, D11.kp, FunD.bindsN D11 (fun _ _ _ _ _ _ us hl => match us, hl with | [_, _], _ => rfl), ok_lof9 (toFun (x := "_law_of") (q := "_law_of") (st := sLof9) D11)⟩⟩
  have LK : Has P w K mg base "_law_plain_kind" 2 ["_law_bag_here"] spPlk := ⟨⟨_, fd12, gl 13 rfl, D12.kp, FunD.bindsN D12 (fun _ _ _ _ _ _ us hl => match us, hl with | [_], _ => rfl), ok_plk (toFun (x := "_law_plain_kind") (q := "_law_plain_kind") (st := sPlk) D12) LT⟩⟩
  have LD : Has P w K mg base "_law_drawn_kind" 3 ["_law_bag_here", "_law_picks_here", "_law_words"] spDrk := ⟨⟨_, fd13, gl 14 rfl, D13.kp, FunD.bindsN D13 (fun _ _ _ _ _ _ us hl => match us, hl with | [_, _, _], _ => rfl), ok_drk (toFun (x := "_law_drawn_kind") (q := "_law_drawn_kind") (st := sDrk) D13) GG LT LK⟩⟩
  have LP : Has P w K mg base "_law_picks" 4 ["_law_bag_here", "_law_size", "_law_taken"] spPck := ⟨⟨_, fd14, gl 15 rfl, D14.kp, FunD.bindsN D14 (fun _ _ _ _ _ _ us hl => match us, hl with | [_, _, _], _ => rfl), ok_pck (toFun (x := "_law_picks") (q := "_law_picks") (st := sPck) D14) GG LT LU LNs⟩⟩
  have LC : Has P w K mg base "_law_call_deeds" 2 ["_law_bag_here", "_law_asks", "_law_answer_names", "_law_below"] spCde := ⟨⟨_, fd15, gl 16 rfl, D15.kp, FunD.bindsN D15 (fun _ _ _ _ _ _ us hl => match us, hl with | [_, _, _, _], _ => rfl), ok_cde (toFun (x := "_law_call_deeds") (q := "_law_call_deeds") (st := sCde) D15) GG LT⟩⟩
  have LS : Has P w K mg base "_law_served" 5 ["_law_bag_here", "_law_name_here", "_law_edition", "_law_below"] spSrv := ⟨⟨_, fd16, gl 17 rfl, D16.kp, FunD.bindsN D16 (fun _ _ _ _ _ _ us hl => match us, hl with | [_, _, _, _], _ => rfl), ok_srv (toFun (x := "_law_served") (q := "_law_served") (st := sSrv) D16) GG LT LNs LU LP LD LC⟩⟩
  have Va0 : Has P w K mg base "_law_value" 1 ["_law_bag_here", "_law_parts", "_law_kind", "_law_deep"] (spVal9 0) := ⟨⟨_, fd17, gl 18 rfl, D17.kp, FunD.bindsN D17 (fun _ _ _ _ _ _ us hl => match us, hl with | [_, _, _, _], _ => rfl), none_val9 (toFun (x := "_law_value") (q := "_law_value") (st := sVal9) D17)⟩⟩
  have Va1 : Has P w K mg base "_law_value" 2 ["_law_bag_here", "_law_parts", "_law_kind", "_law_deep"] (spVal9 1) := ⟨⟨_, fd17, gl 18 rfl, D17.kp, FunD.bindsN D17 (fun _ _ _ _ _ _ us hl => match us, hl with | [_, _, _, _], _ => rfl), ok_val9 (l := 1) (by decide) (toFun (x := "_law_value") (q := "_law_value") (st := sVal9) D17) GG LT LO Va0⟩⟩
  have Va2 : Has P w K mg base "_law_value" 3 ["_law_bag_here", "_law_parts", "_law_kind", "_law_deep"] (spVal9 2) := ⟨⟨_, fd17, gl 18 rfl, D17.kp, FunD.bindsN D17 (fun _ _ _ _ _ _ us hl => match us, hl with | [_, _, _, _], _ => rfl), ok_val9 (l := 2) (by decide) (toFun (x := "_law_value") (q := "_law_value") (st := sVal9) D17) GG LT LO Va1⟩⟩
  have Va3 : Has P w K mg base "_law_value" 4 ["_law_bag_here", "_law_parts", "_law_kind", "_law_deep"] (spVal9 3) := ⟨⟨_, fd17, gl 18 rfl, D17.kp, FunD.bindsN D17 (fun _ _ _ _ _ _ us hl => match us, hl with | [_, _, _, _], _ => rfl), ok_val9 (l := 3) (by decide) (toFun (x := "_law_value") (q := "_law_value") (st := sVal9) D17) GG LT LO Va2⟩⟩
  have Lc : Has P w K mg base "_law_call_of" 1 ["_law_parts", "_law_figure"] spCal9 := ⟨⟨_, fd18, gl 19 rfl, D18.kp, FunD.bindsN D18 (fun _ _ _ _ _ _ us hl => match us, hl with | [_, _], _ => rfl), ok_cal9 (toFun (x := "_law_call_of") (q := "_law_call_of") (st := sCal9) D18)⟩⟩
  have Lr : Has P w K mg base "_law_run" 2 ["_law_parts", "_law_others", "_law_figure", "_law_thing", "_law_held", "_law_heard"] spRun9 := ⟨⟨_, fd19, gl 20 rfl, D19.kp, FunD.bindsN D19 (fun _ _ _ _ _ _ us hl => match us, hl with | [_, _, _, _, _, _], _ => rfl), ok_run9 (toFun (x := "_law_run") (q := "_law_run") (st := sRun9) D19) GG Lc⟩⟩
  have Le : Has P w K mg base "_law_named_few" 2 ["_law_bag_here", "_law_thing"] spFew := ⟨⟨_, fd20, gl 21 rfl, D20.kp, FunD.bindsN D20 (fun _ _ _ _ _ _ us hl => match us, hl with | [_, _], _ => rfl), ok_few (toFun (x := "_law_named_few") (q := "_law_named_few") (st := sFew) D20) GG LT⟩⟩
  have Ri : HasG P w K mg base "_law_right" 6 ["_law_parts", "_law_figure", "_law_thing", "_law_left"] spRig9 := ⟨⟨_, fd21, gl 22 rfl, D21.kp, FunD.bindsN D21 (fun _ _ _ _ _ _ us hl => match us, hl with | [_, _, _, _], _ => rfl), ok_rig9 (toFun (x := "_law_right") (q := "_law_right") (st := sRig9) D21) GG grp LF Lr HO⟩⟩
  exact ok_law9 (C := fC K) (toFun (x := "law") (q := "law") (st := sLaw9) D22) GG LB LT LS LN Le Va3 Ri
end Fh
open PySem PySem.W PySem.Calls PyProof.Rows
theorem PySem.Challenge.cw_facehouse_k39_outcomes_holds : PySem.Challenge.rw_facehouse_k39_outcomes.Holds := by
  w_on; o_law
  refine HandSHeadRun.head_any (r := Fh.R) (q := view Fh.R.prog [45]) (H := Fh.hk) (ob := Fh.ob) (M := 20000) (loose := Fh.loose) (d := HandSHeadRun.topDef Fh.R.prog 45) (kwd := []) Fh.ob_eq
    (by kernel_rfl) (fun s => by kernel_rfl) Fh.run (by kernel_rfl) (by kernel_rfl) (by kernel_rfl) (by rfl) (by first | assumption | decide +kernel) (by decide +kernel) ⟨rfl, rfl, rfl, rfl, rfl, by decide +kernel⟩ ?hw ?hc
  case hw => w_witness2
  case hc =>
    refine Fh.walkG (l := PySem.Challenge.rw_facehouse_k39_outcomes) (n := 63) (k := 7) (x := "_law_script") rfl (by decide) (by kernel_rfl) ⟨rfl, by decide, by decide⟩ ?F
    intro w mg fa h Y G hmg0
    obtain ⟨K, KX, c⟩ := Y
    have hmg : mg ("law" : PySem.Str) = some (.ref fa) := by
      have e : (HandSHeadRun.topDef Fh.R.prog 45).name = ("law" : PySem.Str) := by kernel_rfl
      rw [← e]
      exact hmg0
    obtain ⟨fd, hb, hF⟩ := Fh.facts (P := (PySem.Challenge.rw_facehouse_k39_outcomes).prog) (w := w) KX G hmg c
    exact ⟨K, fd, Fh.spLaw K, KX, hb, fun H a ns hl _ hS => ⟨a, ns, rfl, hS, fun _ => rfl⟩, hF⟩
