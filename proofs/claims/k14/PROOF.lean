import PyProof.Rows.All
import Wide.All
import OpenK.AllK
import Wide.FinOn
import HandS.ForMost
import HandS.TupAny
import HandS.Zip
import HandS.Flow
import HandS.Wide
import HandS.IsInst
import HandS.FStr
import HandS.OwnEq
import HandS.MakeKwOnly
import HandS.Codes
import HandS.Walk
import HandS.DictComp
import HandS.Style
import HandS.More
import PySem.Challenge.RW_facehouse_k14_whole_right_until_spoilt
import HandS.HeadHook1
import HandS.HeadHook2
import HandS.HeadHook3
import HandS.HeadHook4
import HandS.Head0
import HandS.Head1
import HandS.Head2
import HandS.HeadEnd
import HandS.TupSets
import PyProof.Rows.SetFrom
import PyProof.DictKinds
import PyProof.Walks
import KE.SortData
import KE.OsSortAny
import HandS.SortOrd
import KE.GoesMore
import KE.KDictZip
import HandS.Rev
import KE.KEqNest
import HandS.DeepEq
import HandS.ListEq
import HandS.SetFor
import HandS.Strs
import PyProof.ListNew
import KE.GoesZip
import KE.GoesRev
import HandS.RepeatKit
import HandS.TryOnly
import HandS.List
import HandS.Dict
set_option Elab.async false
set_option linter.all false
set_option maxRecDepth 100000
set_option maxHeartbeats 4000000
namespace Fh
open PySem L2 PyProof.Rows

/-! ### rules of our own -/
theorem bits_le {i : Int} {n : Nat} (h : i.natAbs < 2 ^ n) : Builtin.Int.intBits i ≤ n := by
  unfold Builtin.Int.intBits
  split
  · exact Nat.zero_le _
  · rename_i hz
    have h0 : i.natAbs ≠ 0 := fun e => hz (by simp [Int.natAbs_eq_zero.mp e])
    exact (Nat.log2_lt h0).mpr h
def CPowW (i j : Int) : Prop := 0 ≤ j ∧ j ≤ 1000 ∧ i.natAbs < 2 ^ 100
theorem CPowW.ok {i j : Int} (h : CPowW i j) : (Builtin.Int.intBits i : Int) * j ≤ 2 ^ 27 := by
  obtain ⟨h0, h1, h2⟩ := h
  have hb : (Builtin.Int.intBits i : Int) ≤ 100 := by exact_mod_cast bits_le h2
  calc (Builtin.Int.intBits i : Int) * j ≤ 100 * 1000 := Int.mul_le_mul hb h1 h0 (by decide)
    _ ≤ 2 ^ 27 := by decide
theorem op_powW {X : Cx} : OpR X (binaryOp .Pow) (rI CPowW fun i j => .int (i ^ j.toNat)) := opI fun _ _ _ _ _ _ _ hc q => pow_int hc.1 hc.ok q

/-- what an expression gives, by a word between it and what follows -/
def tMid (t : TE) : TE := fun σ H Q => ∃ Mid : V → Hp → Prop, t σ H Mid ∧ ∀ v H', Mid v H' → Q v H'
theorem pe_mid {X : Cx} {e : Expr} {t : TE} (h : PE X e t) : PE X e (tMid t) := by
  refine ⟨fun pins s σ H Q I hq => ?_⟩
  obtain ⟨Mid, hm, hu⟩ := hq
  exact thn (h.run pins s σ H Mid I hm) fun v s1 ⟨x, H1, I1, r1, q1⟩ => ⟨x, H1, I1, r1, hu x H1 q1⟩
theorem atI_in {α : Type} {xs : List α} {i : Int} (h0 : 0 ≤ i) (h1 : i < (xs.length : Int)) : ∃ v, atI xs i = some v ∧ xs[i.toNat]? = some v ∧ v ∈ xs := by
  have hj : i.toNat < xs.length := by omega
  have e : ixN xs.length i = some i.toNat := by
    unfold ixN
    rw [if_pos h0, if_pos h1]
  refine ⟨xs[i.toNat], ?_, List.getElem?_eq_getElem hj, List.getElem_mem hj⟩
  unfold atI
  rw [e]
  exact List.getElem?_eq_getElem hj

/-! ### the bag -/
/-- a bag at b, drawn from at most n times -/
def Bag (H : Hp) (b : Addr) (n : Nat) : Prop := ∃ x y z : Int, H b = some (.lst [.int x, .int y, .int z]) ∧ 0 ≤ y ∧ y < 2 ^ 61 ∧ 0 ≤ z ∧ z ≤ (n : Int)
theorem Bag.mono {H : Hp} {b : Addr} {n m : Nat} (h : Bag H b n) (hm : n ≤ m) : Bag H b m := by
  obtain ⟨x, y, z, e, a1, a2, a3, a4⟩ := h
  exact ⟨x, y, z, e, a1, a2, a3, by omega⟩
/-- all but what stands at b is kept -/
def Kp (b : Addr) (H H' : Hp) : Prop := ∀ a o, a ≠ b → H a = some o → H' a = some o
theorem Kp.refl {b : Addr} {H : Hp} : Kp b H H := fun _ _ _ h => h
theorem Kp.trans {b : Addr} {H H1 H2 : Hp} (x : Kp b H H1) (y : Kp b H1 H2) : Kp b H H2 := fun a o n h => y a o n (x a o n h)
theorem Kp.same {b : Addr} {H H1 H2 : Hp} (x : Kp b H H1) (y : Same H1 H2) : Kp b H H2 := fun a o n h => y a o (x a o n h)
theorem Kp.upd {b : Addr} {H : Hp} {o : HO} : Kp b H (upd H b o) := fun a u n h => by rw [upd_ne n]; exact h
theorem Kp.new {b p : Addr} {H H1 : Hp} {o : HO} (x : Kp b H H1) (h : H1 p = none) : Kp b H (L2.upd H1 p o) := fun a u n e => by
  rw [upd_ne (ne_of_none (x a u n e) h)]
  exact x a u n e
theorem Kp.wr {b p : Addr} {H H1 : Hp} {o : HO} (x : Kp b H H1) (h : H p = none) : Kp b H (L2.upd H1 p o) := fun a u n e => by
  rw [upd_ne (ne_of_none e h)]
  exact x a u n e
theorem Bag.same {H H' : Hp} {b : Addr} {n : Nat} (h : Bag H b n) (s : Same H H') : Bag H' b n := by
  obtain ⟨x, y, z, e, a⟩ := h
  exact ⟨x, y, z, s _ _ e, a⟩
theorem Bag.new {H : Hp} {b p : Addr} {n : Nat} {o : HO} (h : Bag H b n) (hp : H p = none) : Bag (L2.upd H p o) b n := by
  obtain ⟨x, y, z, e, a⟩ := h
  exact ⟨x, y, z, by rw [upd_ne (ne_of_none e hp)]; exact e, a⟩
theorem Bag.ne {H : Hp} {b p : Addr} {n : Nat} {o : HO} (h : Bag H b n) (hp : p ≠ b) : Bag (L2.upd H p o) b n := by
  obtain ⟨x, y, z, e, a⟩ := h
  exact ⟨x, y, z, by rw [upd_ne (Ne.symm hp)]; exact e, a⟩
theorem Kp.free {b p : Addr} {H H' : Hp} (x : Kp b H H') (hb : ∃ o, H' b = some o) (h : H' p = none) : H p = none := by
  cases q : H p with
  | none => rfl
  | some o =>
    by_cases e : p = b
    · subst e
      obtain ⟨u, hu⟩ := hb
      rw [h] at hu
      cases hu
    · rw [x p o e q] at h
      cases h
theorem Bag.at {H : Hp} {b : Addr} {n : Nat} (h : Bag H b n) : ∃ o, H b = some o := let ⟨_, _, _, e, _⟩ := h; ⟨_, e⟩

/-! ### promises: the bag and a draw -/
def most : Nat := 1000000
def spTake : Sp := fun vs H Q _ => ∃ (b : Addr) (size : Int) (n : Nat), vs = [.ref b, .int size] ∧ 0 < size ∧ size < 1073741824 ∧ Bag H b n ∧ n ≤ most ∧
  ∀ (d : Int) (H' : Hp), 0 ≤ d → d < size → Kp b H H' → Bag H' b (n + 1) → Q (.int d) H'
def spBag (K : PySem.W.Frag) : Sp := fun vs H Q _ => ∃ (a : Addr) (ns : List Int) (i : Int), vs = [.ref a, .int i] ∧ SqL K H a (ns.map V.int) ∧ 0 ≤ i ∧ i ≤ 100 ∧
  ∀ (p : Addr) (H' : Hp), Same H H' → H p = none → Bag H' p 0 → Q (.ref p) H'
theorem basis_le {y z : Int} (hy : 0 ≤ y) (hy2 : y < 2 ^ 61) (hz : 0 ≤ z) (hz2 : z ≤ 1000001) : (y * (2 * z + 1) + 6007 * z * z + 31).natAbs < 2 ^ 100 := by
  have h1 : y * (2 * z + 1) ≤ 2 ^ 61 * 2000003 := Int.mul_le_mul (by omega) (by omega) (by omega) (by decide)
  have h2 : (6007 * z) * z ≤ (6007 * 1000001) * 1000001 := Int.mul_le_mul (by omega) hz2 hz (by decide)
  have h3 : 0 ≤ y * (2 * z + 1) := Int.mul_nonneg hy (by omega)
  have h4 : 0 ≤ (6007 * z) * z := Int.mul_nonneg (by omega) hz
  omega
end Fh

set_option Elab.async false
set_option linter.all false
set_option maxRecDepth 100000
set_option maxHeartbeats 4000000
namespace Fh
open PySem L2 PyProof.Rows
def top (i : Nat) : Stmt := PySem.Challenge.pw_facehouse_k14_whole_right_until_spoilt.main.body.getD i (.Pass ⟨0, 0, 0, 0⟩)
abbrev sBag : Stmt := top 36
abbrev sTake : Stmt := top 37
/-- built-in names that no module's name hides -/
structure Glb (mg : Str → Option Value) : Prop where
  len : mg "len" = none
  abs : mg "abs" = none
  int : mg "int" = none
  range : mg "range" = none
  list : mg "list" = none
  min : mg "min" = none
  max : mg "max" = none
  tuple : mg "tuple" = none
  dict : mg "dict" = none
  enumerate : mg "enumerate" = none
  isi : mg "isinstance" = none
  str : mg "str" = none
  sorted : mg "sorted" = none
  set : mg "set" = none
  sum : mg "sum" = none
  zip : mg "zip" = none
  divmod : mg "divmod" = none
section
variable {P : Program} {w : World} {K : PySem.W.Frag} {mg : Str → Option Value} {base : Heap}
theorem scBag : FnScope ["_law_script", "_law_at", "_law_cell", "_law_far"] ["_law_script", "_law_at"] (defScope sBag) := ⟨rfl, rfl, rfl, by decide +kernel, rfl, by decide +kernel, by decide +kernel⟩
theorem scTake : FnScope ["_law_bag_here", "_law_size", "_law_digit", "_law_primes", "_law_stage", "_law_basis", "_law_found"] ["_law_bag_here", "_law_size"] (defScope sTake) := ⟨rfl, rfl, rfl, by decide +kernel, rfl, by decide +kernel, by decide +kernel⟩
theorem ok_take {f : Addr} {fd : FuncData} (F : Fun K "_law_take" "_law_take" sTake f fd) : FnOk P w K mg base CX0 1 f fd ["_law_bag_here", "_law_size"] spTake := by
  refine F.ok scTake (fun vs H Q E h => ?_) (fun cdv A outer s H vs Q E hr h => ?_)
  · obtain ⟨b, size, n, rfl, _⟩ := h
    rfl
  · obtain ⟨b, size, n, rfl, hs0, hs1, ⟨x, y, z, hb, y0, y1, z0, z1⟩, hn, k⟩ := h
    have hn' : n ≤ 1000000 := hn
    refine ⟨_, pss_cons (ps_if (pt_cmpR op_gt (pe_ix ix_list (pv 0) pe_int (fun _ _ => rfl)) pe_int (nomark _))
        (pss_cons (ps_set (i := 2) scTake.nd rfl (Or.inl rfl) (pe_op op_mod (pe_ix ix_list (pv 0) pe_int (fun _ _ => rfl)) (pv 1)))
        (pss_cons (ps_asg (pe_op op_fdiv (pe_ix ix_list (pv 0) pe_int (fun _ _ => rfl)) (pv 1)) (pg_sub (pv 0) pe_int set_list))
        (pss_one (ps_ret (pv 2))))) pss_nil)
      (pss_cons (ps_set (i := 3) scTake.nd rfl (Or.inl rfl) (pe_tup (pa_cons pe_int (pa_cons pe_int (pa_cons pe_int (pa_cons pe_int (pa_cons pe_int (pa_cons pe_int (pa_cons pe_int (pa_cons pe_int pa_nil))))))))))
      (pss_cons (ps_asg (pe_op op_add (pe_ix ix_list (pv 0) pe_int (fun _ _ => rfl)) pe_int) (pg_sub (pv 0) pe_int set_list))
      (pss_cons (ps_set (i := 4) scTake.nd rfl (Or.inl rfl) (pe_ix ix_list (pv 0) pe_int (fun _ _ => rfl)))
      (pss_cons (ps_set (i := 5) scTake.nd rfl (Or.inl rfl) (pe_op op_add (pe_op op_add (pe_op op_mul (pe_ix ix_list (pv 0) pe_int (fun _ _ => rfl)) (pe_op op_add (pe_op op_mul pe_int (pv 4)) pe_int)) (pe_op op_mul (pe_op op_mul pe_int (pv 4)) (pv 4))) pe_int))
      (pss_cons (ps_set (i := 6) scTake.nd rfl (Or.inl rfl) (pe_op op_mod (pe_op op_powW (pv 5) pe_int) (pe_ix ix_tup (pv 3) (pe_op op_mod (pv 4) pe_int) (fun _ _ => rfl))))
      (pss_one (ps_ret (pe_op op_mod (pe_op op_fdiv (pe_op op_mod (pe_op op_mul (pv 6) (pe_op op_add (pe_op op_fdiv (pv 6) pe_int) pe_int)) (pe_ix ix_tup (pv 3) (pe_op op_mod (pe_op op_add (pv 4) pe_int) pe_int) (fun _ _ => rfl))) pe_int) (pv 1))))))))), ?_⟩
    refine ⟨_, rfl, b, _, _, _, rfl, rfl, SqL.of hb, rfl, _, _, rfl, rfl, _, rfl, ?_⟩
    refine ite2 (fun _ => ?_) (fun _ => ?_)
    · refine ⟨_, rfl, b, _, _, _, rfl, rfl, SqL.of hb, rfl, _, rfl, _, _, rfl, rfl, hs0, ?_⟩
      refine ⟨_, rfl, b, _, _, _, rfl, rfl, SqL.of hb, rfl, _, rfl, _, _, rfl, rfl, ⟨hs0, hs1⟩, ?_⟩
      refine ⟨_, rfl, b, _, _, 0, rfl, rfl, hb, rfl, _, rfl, ?_⟩
      exact k _ _ (Int.emod_nonneg _ (by omega)) (Int.emod_lt_of_pos _ hs0) Kp.upd ⟨_, y, z, upd_same, y0, y1, z0, by omega⟩
    · refine ⟨by decide, fun t ht => ?_⟩
      have nbt : b ≠ t := ne_of_none hb ht
      have hb1 : (upd H t (.tup [.int 2147483647, .int 2147483629, .int 2147483587, .int 2147483579, .int 2147483563, .int 2147483549, .int 2147483543, .int 2147483497])) b = some (.lst [.int x, .int y, .int z]) := by rw [upd_ne nbt]; exact hb
      refine ⟨_, rfl, b, _, _, _, rfl, rfl, SqL.of hb1, rfl, _, _, rfl, rfl, ?_⟩
      refine ⟨_, rfl, b, _, _, 2, rfl, rfl, hb1, rfl, ?_⟩
      refine ⟨_, rfl, b, _, _, _, rfl, rfl, SqL.of upd_same, rfl, ?_⟩
      have c1 : CMul y (2 * (z + 1) + 1) := .inl ⟨by omega, by omega⟩
      refine ⟨_, rfl, b, _, _, _, rfl, rfl, SqL.of upd_same, rfl, _, rfl, _, _, rfl, rfl, .inl ⟨by decide, by decide⟩, _, _, rfl, rfl, _, _, rfl, rfl, c1, _, rfl, _, _, rfl, rfl, .inl ⟨by decide, by decide⟩, _, rfl, _, _, rfl, rfl, .inr ⟨by omega, by omega⟩, _, _, rfl, rfl, _, _, rfl, rfl, ?_⟩
      have ht1 : (upd (upd H t (.tup [.int 2147483647, .int 2147483629, .int 2147483587, .int 2147483579, .int 2147483563, .int 2147483549, .int 2147483543, .int 2147483497])) b (.lst [.int x, .int y, .int (z + 1)])) t = some (.tup [.int 2147483647, .int 2147483629, .int 2147483587, .int 2147483579, .int 2147483563, .int 2147483549, .int 2147483543, .int 2147483497]) := by rw [upd_ne nbt.symm, upd_same]
      have prim : ∀ i : Int, ∃ p, atI [V.int 2147483647, .int 2147483629, .int 2147483587, .int 2147483579, .int 2147483563, .int 2147483549, .int 2147483543, .int 2147483497] (i % 8) = some (.int p) ∧ 0 < p ∧ p ≤ 2147483647 := fun i => by
        obtain ⟨v, e, _, hm⟩ := atI_in (xs := [V.int 2147483647, .int 2147483629, .int 2147483587, .int 2147483579, .int 2147483563, .int 2147483549, .int 2147483543, .int 2147483497]) (i := i % 8) (by omega) (by show i % 8 < 8; omega)
        simp only [List.mem_cons, List.not_mem_nil, or_false] at hm
        rcases hm with rfl | rfl | rfl | rfl | rfl | rfl | rfl | rfl <;> exact ⟨_, e, by decide, by decide⟩
      obtain ⟨p1, e1, l1, u1⟩ := prim (z + 1)
      obtain ⟨p2, e2, l2, u2⟩ := prim (z + 1 + 5)
      have hB : CPowW (y * (2 * (z + 1) + 1) + 6007 * (z + 1) * (z + 1) + 31) 3 := ⟨by decide, by decide, basis_le y0 y1 (by omega) (by omega)⟩
      refine ⟨_, rfl, _, _, rfl, rfl, hB, _, rfl, _, rfl, _, _, rfl, rfl, (by show (0 : Int) < 8; decide), t, _, _, _, rfl, rfl, SqT.of ht1, e1, _, _, rfl, rfl, l1, ?_⟩
      generalize hfd : (y * (2 * (z + 1) + 1) + 6007 * (z + 1) * (z + 1) + 31) ^ (3 : Int).toNat % p1 = fd
      have f0 : 0 ≤ fd := by rw [← hfd]; exact Int.emod_nonneg _ (by omega)
      have f1 : fd < p1 := by rw [← hfd]; exact Int.emod_lt_of_pos _ l1
      refine ⟨_, rfl, _, rfl, _, _, rfl, rfl, ⟨by decide, by decide⟩, _, _, rfl, rfl, _, _, rfl, rfl, .inl ⟨by omega, by omega⟩, _, rfl, _, rfl, _, _, rfl, rfl, _, _, rfl, rfl, (by show (0 : Int) < 8; decide), t, _, _, _, rfl, rfl, SqT.of ht1, e2, _, _, rfl, rfl, l2, _, _, rfl, rfl, ⟨by decide, by decide⟩, _, rfl, _, _, rfl, rfl, hs0, ?_⟩
      refine k _ _ (Int.emod_nonneg _ (by omega)) (Int.emod_lt_of_pos _ hs0) ?_ ⟨_, y, z + 1, upd_same, y0, y1, by omega, by omega⟩
      exact (Kp.refl.new ht).trans Kp.upd
end
end Fh

set_option Elab.async false
set_option linter.all false
set_option maxRecDepth 100000
set_option maxHeartbeats 0
namespace Fh
open PySem PySem.Spec PyProof.Rows L2
/-- where a keyword-only default stands -/
def kwOf (p : Str × Option Str) (x : Str) (K : PySem.W.Frag) : Addr := match K.lookup (He.fAd K p) with
  | some ⟨_, _, .func fd, _⟩ => (match fd.kwdefaults with
    | .ref D => (match PySem.W.nsIn K D x with
      | some (some (.ref a)) => a
      | _ => 0)
    | _ => 0)
  | _ => 0
def mdef (m q : Str) (s : Stmt) : He.DefD := ⟨("Face", some m), m, q, defArgs s, defBody s, defScope s, [], []⟩
def dInit : He.DefD := ⟨("Face", some "__init__"), "__init__", "Face.__init__", defArgs (inClass (top 34) 0), defBody (inClass (top 34) 0), defScope (inClass (top 34) 0), [], [("choices", .adr (kwOf ("Face", some "__init__") "choices")), ("records", .adr (kwOf ("Face", some "__init__") "records")), ("calls", .adr (kwOf ("Face", some "__init__") "calls"))]⟩
def fdef (x : Str) (s : Stmt) : He.DefD := ⟨(x, none), x, x, defArgs s, defBody s, defScope s, [], []⟩
def fn0 : List He.DefD := [dInit, mdef "fields_of" "Face.fields_of" (inClass (top 34) 3), mdef "options_of" "Face.options_of" (inClass (top 34) 4), fdef "word_of" (top 2), fdef "name_in" (top 3), fdef "names_nobody" (top 4), fdef "number_of" (top 5), fdef "digits_of" (top 9), fdef "told_size" (top 10), fdef "part_size" (top 11), fdef "field_size" (top 12), fdef "least_of" (top 15)]
def fn1 : List He.DefD := [fdef "least_sizes" (top 16), fdef "least_size" (top 17), fdef "wrong" (top 21), fdef "strangers_in_kinds" (top 22), fdef "endless_records" (top 23), fdef "strangers_of" (top 24), fdef "wrong_deeds" (top 25), fdef "fields_by_name" (top 26), fdef "is_as_told" (top 27), fdef "can_copy" (top 28), fdef "effect_of" (top 29), fdef "unset_fields" (top 30)]
def fn2 : List He.DefD := [fdef "_law_bag" (top 36), fdef "_law_take" (top 37), fdef "_law_drawn_name" (top 38), fdef "_law_unlike_names" (top 39), fdef "_law_made_face" (top 40), fdef "_law_numbers" (top 41), fdef "_law_plain_kind" (top 42), fdef "_law_drawn_kind" (top 43), fdef "_law_picks" (top 44), fdef "_law_call_deeds" (top 45), fdef "_law_served" (top 46), fdef "_law_nobody" (top 47)]
def fn3 : List He.DefD := [fdef "_law_all_sizes" (top 48), fdef "_law_deed_right" (top 49), fdef "_law_deeds_wrong" (top 50), fdef "_law_wrong" (top 51), fdef "_law_spoilt" (top 52), fdef "law" (top 53)]
def fn : List He.DefD := fn0 ++ fn1 ++ fn2 ++ fn3
def fa0 : List He.Fa := [.glo "Face", .glo "SETTING_WORDS", .glo "word_of", .glo "name_in", .glo "names_nobody", .glo "number_of", .glo "digits_of", .glo "told_size", .glo "part_size", .glo "field_size", .glo "least_of", .glo "least_sizes", .glo "least_size", .glo "wrong", .glo "strangers_in_kinds", .glo "endless_records", .glo "strangers_of", .glo "wrong_deeds", .glo "fields_by_name", .glo "is_as_told", .glo "can_copy", .glo "effect_of", .glo "unset_fields", .glo "_law_bag", .glo "_law_take", .glo "_law_drawn_name", .glo "_law_unlike_names", .glo "_law_made_face", .glo "_law_numbers", .glo "_law_plain_kind"]
def fa1 : List He.Fa := [.glo "_law_drawn_kind", .glo "_law_picks", .glo "_law_call_deeds", .glo "_law_served", .glo "_law_nobody", .glo "_law_all_sizes", .glo "_law_deed_right", .glo "_law_deeds_wrong", .glo "_law_wrong", .glo "_law_spoilt", .glo "law", .free "len", .free "abs", .free "int", .free "range", .free "list", .free "min", .free "max", .free "tuple", .free "dict", .free "enumerate", .free "isinstance", .free "str", .free "sorted", .free "set", .free "sum", .free "zip", .free "divmod", .cls "Face", .noat "Face" "name"]
def fa2 : List He.Fa := [.noat "Face" "edition", .noat "Face" "choices", .noat "Face" "records", .noat "Face" "calls", .mkr "Face", .meth "Face" "fields_of", .meth "Face" "options_of", .meth "Face" "__init__", .int "BASE" 256, .int "FIRST_LONG_SIZE" 200, .int "GREATEST_LEAST" 60]
def fa : List He.Fa := fa0 ++ fa1 ++ fa2
abbrev fC (K : PySem.W.Frag) : Addr := He.ga K "Face"
mutual
/-- data of texts and tuples that stand in the top's fragment -/
def dpB (K : PySem.W.Frag) : PyData → Value → Bool
  | .str x, .str y _ => decide (x = y)
  | .tuple ds, .ref a => (match K.lookup a with
    | some ⟨.type "tuple", _, .seq its _, _⟩ => decide (its.size ≤ sizeLine) && dpBs K ds its.toList
    | _ => false)
  | _, _ => false
def dpBs (K : PySem.W.Frag) : List PyData → List Value → Bool
  | [], [] => true
  | d :: ds, u :: us => dpB K d u && dpBs K ds us
  | _, _ => false
end
def swD : PyData := .tuple [.str "tell", .str "copy", .str "get"]
def xK (K : PySem.W.Frag) : Bool := dpB K swD (.ref (He.ga K "SETTING_WORDS"))
def ex (K : PySem.W.Frag) : Bool := xK K
abbrev R : PySem.W.OpenRow := PySem.W.OpenLaw.row PySem.Challenge.rw_facehouse_k14_whole_right_until_spoilt
/-- what the head looks at, over the objects of the heap by number (hookX goes by what the module's names reach) -/
def obL (fa : List He.Fa) (fn : List He.DefD) (ts : List He.Tab) (ex : PySem.W.Frag → Bool) (g : Addr → Option Obj) : He.AlX := (He.obsT fa fn ts (He.frT g (List.range 1000)), ex (He.frT g (List.range 1000)))
def hookL (fa : List He.Fa) (fn : List He.DefD) (ts : List He.Tab) (ex : PySem.W.Frag → Bool) : PySem.W.Hook where
  α := He.AlX
  obs := fun s => obL fa fn ts ex s.heap.get?
  val := fun w => He.valX fn ts w
  says := fun w h => ∃ K : PySem.W.Frag, K.In h ∧ He.SaysX fa fn ts [] ex w h K
  of := fun _ _ e => ⟨_, He.frT_in, ⟨congrArg (fun z : He.AlX => z.1) e, congrArg (fun z : He.AlX => z.2) e, fun _ z => (List.not_mem_nil z).elim, fun _ z => (List.not_mem_nil z).elim, fun _ z => (List.not_mem_nil z).elim⟩⟩
  keeps := fun _ _ _ ⟨K, hK, c⟩ k => ⟨K, PySem.W.Frag.In.keeps hK k, ⟨c.t, c.more, c.hd, c.out, fun _ z => (List.not_mem_nil z).elim⟩⟩
abbrev hk : PySem.W.Hook := hookL fa fn [] ex
def ob (s : PySem.W.SharedT) : He.AlX := obL fa fn [] ex (HandSHeadRun.getT s)
theorem ob_eq (s : PySem.W.SharedT) : ob s = hk.obs s.abs := by
  have e : HandSHeadRun.getT s = s.abs.heap.get? := funext (HandSHeadRun.getT_eq s)
  show obL fa fn [] ex (HandSHeadRun.getT s) = obL fa fn [] ex s.abs.heap.get?
  rw [e]
def loose0 : List Str := ["_wall", "__name__", "word_of", "name_in", "names_nobody", "number_of", "BASE", "FIRST_LONG_SIZE", "digits_of", "told_size", "part_size", "field_size"]
def loose1 : List Str := ["LEAST_PLAIN", "least_of", "least_sizes", "least_size", "GREATEST_LEAST", "SETTING_WORDS", "wrong", "strangers_in_kinds", "endless_records", "strangers_of", "wrong_deeds", "fields_by_name"]
def loose2 : List Str := ["is_as_told", "can_copy", "effect_of", "unset_fields", "NoName", "Face", "_law_bag", "_law_take", "_law_drawn_name", "_law_unlike_names", "_law_made_face", "_law_numbers"]
def loose3 : List Str := ["_law_plain_kind", "_law_drawn_kind", "_law_picks", "_law_call_deeds", "_law_served", "_law_nobody", "_law_all_sizes", "_law_deed_right", "_law_deeds_wrong", "_law_wrong", "_law_spoilt"]
def loose : List Str := loose0 ++ loose1 ++ loose2 ++ loose3
end Fh
namespace HandSHeadRun
open PySem PySem.W PySem.Calls PyProof.Rows
theorem map3 {α β γ δ : Type} {o : Option α} {f : α → β} {g : α → γ} {h : α → δ} {b : β} {c : γ} {d : δ} (x : o.map f = some b) (y : o.map g = some c) (z : o.map h = some d) : o.map (fun s => (f s, g s, h s)) = some (b, c, d) := by
  cases o with
  | none => cases x
  | some s =>
    cases x
    cases y
    cases z
    rfl
theorem lookA0 (w : World) : ∀ os : OsState, (endF (stepQ (denQ tabQ) Fh.R.prog (w.withFollow "special-get-raises" false)) 20000 Fh.R.prog (w.withFollow "special-get-raises" false) os).map (fun s => looksF Fh.R.prog (boot_heap ((w.withFollow "special-get-raises" false)).params) s.abs) = some true := by
  intro os
  kernel_rfl
theorem lookB0 (w : World) : ∀ os : OsState, (endF (stepQ (denQ tabQ) Fh.R.prog (w.withFollow "special-get-raises" false)) 20000 Fh.R.prog (w.withFollow "special-get-raises" false) os).map (fun s => HandSHeadRun.seenQ (view Fh.R.prog [53]) Fh.loose (importedModules Fh.R.prog.main.body) (fun s => xlAt (view Fh.R.prog [53]) [] s && recOk Fh.R.toRowW.records s) s.abs) = some (openGood (view Fh.R.prog [53]) Fh.loose) := by
  intro os
  kernel_rfl
theorem lookC0 (w : World) : ∀ os : OsState, (endF (stepQ (denQ tabQ) Fh.R.prog (w.withFollow "special-get-raises" false)) 20000 Fh.R.prog (w.withFollow "special-get-raises" false) os).map Fh.ob = some (Fh.hk.val (w.withFollow "special-get-raises" false)) := by
  intro os
  kernel_rfl
theorem runAll0 (w : World) : RunEq Fh.R (view Fh.R.prog [53]) Fh.hk Fh.ob 20000 Fh.loose (w.withFollow "special-get-raises" false) := fun os => map3 (lookA0 w os) (lookB0 w os) (lookC0 w os)
theorem lookA1 (w : World) : ∀ os : OsState, (endF (stepQ (denQ tabQ) Fh.R.prog (w.withFollow "special-get-raises" true)) 20000 Fh.R.prog (w.withFollow "special-get-raises" true) os).map (fun s => looksF Fh.R.prog (boot_heap ((w.withFollow "special-get-raises" true)).params) s.abs) = some true := by
  intro os
  kernel_rfl
theorem lookB1 (w : World) : ∀ os : OsState, (endF (stepQ (denQ tabQ) Fh.R.prog (w.withFollow "special-get-raises" true)) 20000 Fh.R.prog (w.withFollow "special-get-raises" true) os).map (fun s => HandSHeadRun.seenQ (view Fh.R.prog [53]) Fh.loose (importedModules Fh.R.prog.main.body) (fun s => xlAt (view Fh.R.prog [53]) [] s && recOk Fh.R.toRowW.records s) s.abs) = some (openGood (view Fh.R.prog [53]) Fh.loose) := by
  intro os
  kernel_rfl
theorem lookC1 (w : World) : ∀ os : OsState, (endF (stepQ (denQ tabQ) Fh.R.prog (w.withFollow "special-get-raises" true)) 20000 Fh.R.prog (w.withFollow "special-get-raises" true) os).map Fh.ob = some (Fh.hk.val (w.withFollow "special-get-raises" true)) := by
  intro os
  kernel_rfl
theorem runAll1 (w : World) : RunEq Fh.R (view Fh.R.prog [53]) Fh.hk Fh.ob 20000 Fh.loose (w.withFollow "special-get-raises" true) := fun os => map3 (lookA1 w os) (lookB1 w os) (lookC1 w os)
end HandSHeadRun
namespace Fh
open PySem PySem.Spec PyProof.Rows L2
theorem run (w : World) : HandSHeadRun.RunEq R (PySem.W.view R.prog [53]) hk ob 20000 loose w := PySem.W.byRow2 "special-get-raises" (P := fun w => HandSHeadRun.RunEq R (PySem.W.view R.prog [53]) hk ob 20000 loose w) HandSHeadRun.runAll0 HandSHeadRun.runAll1 w
end Fh

set_option Elab.async false
set_option linter.all false
set_option maxRecDepth 100000
set_option maxHeartbeats 4000000
namespace Fh
open PySem L2 PyProof.Rows
/-! ### a def that is called by its name -/
structure Has (P : Program) (w : World) (K : PySem.W.Frag) (mg : Str → Option Value) (base : Heap) (x : Str) (k : Nat) (ps : List Str) (sp : Sp) : Prop where
  ex : ∃ (f : Addr) (fd : FuncData), mg x = some (.ref f) ∧ PySem.W.keepIn K (.ref f) = true ∧ Binds K fd ps [] ∧ FnOk P w K mg base CX0 k f fd ps sp
theorem pe_has {X : Cx} {k : Nat} {x : Str} {ps : List Str} {sp : Sp} {e : Expr} {es : List Expr} {t : TA} {p pos : Pos} (D : Has X.prog X.w X.K X.mg X.base x k ps sp) (hr : Room k X.A) (hg : Gl X x)
    (ha : PA X (e :: es) t) (hdb : (x == ("__debug__" : Str)) = false := by decide) (he : starEach (e :: es) X.env = (false, eval e X.env) :: starEach es X.env := by rfl) (hpl : (backTo pos (starEach es X.env)).any (·.1) = false := by rfl) :
    PE X (.Call (.Name x p) (e :: es) [] pos) (tCall sp [] E0 t) := by
  obtain ⟨f, fd, hm, hk, hb, F⟩ := D.ex
  exact pe_call F hr hg hm hk hb .nil pass0 ha hdb he hpl
theorem iteT_elim {A B : Prop} (h : if true = true then A else B) : A := by rw [if_pos rfl] at h; exact h
theorem iteF_elim {A B : Prop} (h : if false = true then A else B) : B := by rw [if_neg Bool.false_ne_true] at h; exact h
theorem yes {σ : L2.St} {H : Hp} {Q : Bool → Hp → Prop} (h : Q true H) : tYes σ H Q := h
theorem b01 {i : Int} {k : Bool} : CMul i (if k = true then 1 else 0) := by cases k <;> exact .inr ⟨by decide, by decide⟩
/-! ### names -/
def Lt (c : Nat) : Prop := 97 ≤ c ∧ c ≤ 122
structure Nm (z : Str) : Prop where
  lo : 1 ≤ z.length
  hi : z.length ≤ 8
  sg : ∀ c ∈ z.cps.toList, Lt c
def one (c : Nat) : Str := ⟨#[c]⟩
theorem tl_ones : ∀ cs : List Nat, ∀ a : Str, a.cps.toList = [] → (Str.join a (cs.map one)).cps.toList = cs
  | [], _, _ => rfl
  | [c], _, _ => rfl
  | c :: d :: r, a, ha => by
    show (one c ++ a ++ Str.join a ((d :: r).map one)).cps.toList = _
    have e := tl_ones (d :: r) a ha
    show ((one c).cps ++ a.cps ++ (Str.join a ((d :: r).map one)).cps).toList = _
    rw [Array.toList_append, Array.toList_append, e, ha]
    rfl
theorem join_nm {cs : List Nat} (h1 : 1 ≤ cs.length) (h2 : cs.length ≤ 8) (h3 : ∀ c ∈ cs, Lt c) : Nm (Txt.join "" (cs.map one)) := by
  have e : (Txt.join "" (cs.map one)).cps.toList = cs := by
    show (Builtin.Str.glued "" (cs.map one)).cps.toList = cs
    rw [StrLaws.glued_eq_join]
    exact tl_ones cs _ rfl
  have l : (Txt.join "" (cs.map one)).length = cs.length := by
    show (Txt.join "" (cs.map one)).cps.size = _
    rw [← Array.length_toList, e]
  exact ⟨by rw [l]; exact h1, by rw [l]; exact h2, by rw [e]; exact h3⟩
theorem len_ones : ∀ cs : List Nat, ((cs.map one).map (·.length)).sum = cs.length
  | [] => rfl
  | c :: r => by
    show (one c).length + ((r.map one).map (·.length)).sum = r.length + 1
    rw [len_ones r]
    show 1 + _ = _
    omega
abbrev abc : Str := "abcdefghijklmnopqrstuvwxyz"
theorem abc_codes : abc.cps.toList = [97, 98, 99, 100, 101, 102, 103, 104, 105, 106, 107, 108, 109, 110, 111, 112, 113, 114, 115, 116, 117, 118, 119, 120, 121, 122] := by decide +kernel
theorem abc_at {i : Int} (h0 : 0 ≤ i) (h1 : i < 26) : ∃ c, atI abc.cps.toList i = some c ∧ Lt c := by
  have hl : abc.cps.toList.length = 26 := by rw [abc_codes]; rfl
  obtain ⟨v, e, _, hm⟩ := atI_in (xs := abc.cps.toList) h0 (by rw [hl]; exact h1)
  refine ⟨v, e, ?_⟩
  rw [abc_codes] at hm
  revert hm
  unfold Lt
  simp only [List.mem_cons, List.not_mem_nil, or_false]
  omega
def spName : Sp := fun vs H Q _ => ∃ (b : Addr) (n : Nat), vs = [.ref b] ∧ Bag H b n ∧ n + 10 ≤ most ∧
  ∀ (z : Str) (H' : Hp), Nm z → Kp b H H' → Bag H' b (n + 10) → Q (.str z) H'
abbrev sName : Stmt := top 38
section
variable {P : Program} {w : World} {K : PySem.W.Frag} {mg : Str → Option Value} {base : Heap}
theorem ok_bag {f : Addr} {fd : FuncData} (F : Fun K "_law_bag" "_law_bag" sBag f fd) (G : Glb mg) : FnOk P w K mg base CX0 1 f fd ["_law_script", "_law_at"] (spBag K) := by
  refine F.ok scBag (fun vs H Q E h => ?_) (fun cdv A outer s H vs Q E hr h => ?_)
  · obtain ⟨a, ns, i, rfl, _⟩ := h
    rfl
  · obtain ⟨a, ns, i, rfl, hS, i0, i1, k⟩ := h
    refine ⟨_, pss_cons (ps_set (i := 2) scBag.nd rfl (Or.inl rfl) (pe_op op_add (pe_op op_add (pe_op op_mul (pe_op op_mul pe_int (pv 1)) (pv 1)) (pe_op op_mul pe_int (pv 1))) pe_int))
      (C8.pss_cut (ps_if (pt_cmpR op_lt (pv 1) (pe_callB call_len_seq (by rfl) G.len PySem.boot_len (pa_cons (pv 0) pa_nil)) (nomark _)) (pss_one (ps_set (i := 2) scBag.nd rfl (Or.inl rfl) (pe_ix ix_list (pv 0) (pv 1) (fun _ _ => rfl)))) pss_nil)
      (pss_cons (ps_set (i := 3) scBag.nd rfl (Or.inl rfl) (pe_callB call_abs (by rfl) G.abs (by decide +kernel) (pa_cons (pv 2) pa_nil)))
      (pss_one (ps_ret (pe_lst (pa_cons (pe_op op_mul (pv 3) (pe_callTy call_int1 (by rfl) G.int (by decide +kernel) (pa_cons (pe_cmpR op_ge (pv 3) (pe_op op_pow pe_int pe_int) (nomark _)) pa_nil)))
        (pa_cons (pe_op op_add (pe_op op_mod (pv 2) (pe_op op_add (pe_op op_pow pe_int pe_int) pe_int)) (pe_op op_mul pe_int (pv 1))) (pa_cons pe_int pa_nil)))))))), ?_⟩
    refine ⟨_, rfl, _, _, rfl, rfl, .inl ⟨by decide, by decide⟩, _, rfl, _, _, rfl, rfl, .inr ⟨by omega, by omega⟩, _, rfl, _, _, rfl, rfl, .inl ⟨by decide, by decide⟩, _, _, rfl, rfl, _, _, rfl, rfl, ?_⟩
    refine ⟨fun σ H' => H' = H ∧ ∃ c : Int, σ = [some (.ref a), some (.int i), some (.int c), none], ?_, ?_⟩
    · refine ⟨_, rfl, _, rfl, a, _, rfl, .inl hS, _, _, rfl, rfl, _, rfl, ?_⟩
      refine ite2 (fun h => ?_) (fun _ => ?_)
      · have hlt : i < ((ns.map V.int).length : Int) := of_decide_eq_true h
        obtain ⟨v, e1, _, hm⟩ := atI_in (xs := ns.map V.int) i0 hlt
        obtain ⟨c, _, rfl⟩ := List.mem_map.mp hm
        exact ⟨_, rfl, _, rfl, a, _, _, _, rfl, rfl, hS, e1, rfl, c, rfl⟩
      · exact ⟨rfl, _, rfl⟩
    · rintro σ H' ⟨rfl, c, rfl⟩
      refine ⟨_, rfl, _, rfl, ?_⟩
      have e18 : (10 : Int) ^ (18 : Int).toNat = 1000000000000000000 := by decide
      have p18 : CPow 10 18 := ⟨by decide, by decide, by decide⟩
      refine ⟨_, rfl, _, rfl, _, _, rfl, rfl, p18, _, _, rfl, rfl, .inr ⟨_, rfl, _, _, rfl, rfl, b01, ?_⟩⟩
      refine ⟨_, rfl, _, _, rfl, rfl, p18, _, _, rfl, rfl, _, _, rfl, rfl, (by show (0 : Int) < 10 ^ (18 : Int).toNat + 9; rw [e18]; decide), _, rfl, _, _, rfl, rfl, .inl ⟨by decide, by decide⟩, _, _, rfl, rfl, ?_⟩
      refine ⟨(by show 3 ≤ sizeLine; decide), fun p hp => ?_⟩
      have m0 : 0 ≤ c % (10 ^ (18 : Int).toNat + 9) := Int.emod_nonneg _ (by rw [e18]; decide)
      have m1 : c % (10 ^ (18 : Int).toNat + 9) < 10 ^ (18 : Int).toNat + 9 := Int.emod_lt_of_pos _ (by rw [e18]; decide)
      rw [e18] at m0 m1
      refine k p _ (fun b o eb => by rw [upd_ne (ne_of_none eb hp)]; exact eb) hp ⟨_, _, 0, upd_same, ?_, ?_, by omega, by omega⟩
      · rw [e18]; omega
      · rw [e18]; omega
theorem scName : FnScope ["_law_bag_here", "_law_letters", "_law_size", "_law_spot"] ["_law_bag_here"] (defScope sName) := ⟨rfl, rfl, rfl, by decide +kernel, rfl, by decide +kernel, by decide +kernel⟩
theorem ok_name {f : Addr} {fd : FuncData} (F : Fun K "_law_drawn_name" "_law_drawn_name" sName f fd) (G : Glb mg) (DT : Has P w K mg base "_law_take" 1 ["_law_bag_here", "_law_size"] spTake) : FnOk P w K mg base CX0 2 f fd ["_law_bag_here"] spName := by
  refine F.ok scName (fun vs H Q E h => ?_) (fun cdv A outer s H vs Q E hr h => ?_)
  · obtain ⟨b, n, rfl, _⟩ := h
    rfl
  · obtain ⟨b, n, rfl, hB, hn, k⟩ := h
    have hn' : n + 10 ≤ 1000000 := hn
    refine ⟨_, pss_cons (ps_set (i := 1) scName.nd rfl (Or.inr rfl) pe_str)
      (pss_cons (ps_set (i := 2) scName.nd rfl (Or.inl rfl) (pe_op op_add pe_int (pe_has DT hr rfl (pa_cons (pv 0) (pa_cons (pe_mid (pe_ix ix_list (pe_lst (pa_cons pe_int (pa_cons pe_int pa_nil)))
          (pe_callTy call_int1 (by rfl) G.int (by decide +kernel) (pa_cons (pe_cmpR op_eq (pe_has DT hr rfl (pa_cons (pv 0) (pa_cons pe_int pa_nil))) pe_int (nomark _)) pa_nil)) (fun _ _ => rfl))) pa_nil)))))
      (pss_one (ps_ret (pe_join pe_str (pe_lc (own := [("_law_spot", 3)]) (g := gName 3) (tt := tYes) rfl scName.nd (pi_range1 rfl G.range (pa_cons (pv 2) pa_nil)) (blkOk_by (N := ["_law_bag_here", "_law_letters", "_law_size", "_law_spot"]) (sc := defScope sName) (by decide +kernel))
        (fun _ _ _ _ _ => pg_name (i := 3) scName.nd rfl (Or.inl rfl)) (fun _ _ _ _ _ => pts_nil)
        (fun _ _ _ _ _ => pe_ix ix_str (pv 1) (pe_has DT hr rfl (pa_cons (pv 0) (pa_cons pe_int pa_nil))) (fun _ _ => rfl))))))), ?_⟩
    refine ⟨_, rfl, fun v H1 => ∃ m : Int, v = .int m ∧ (m = 2 ∨ m = 8) ∧ Kp b H H1 ∧ Bag H1 b (n + 1), ?_, ?_⟩
    · refine ⟨by decide, fun p hp => ?_⟩
      refine ⟨_, rfl, b, 4, n, rfl, by decide, by decide, hB.new hp, by show n ≤ 1000000; omega, fun d H1 d0 d1 K1 B1 => ?_⟩
      have npb : p ≠ b := fun e => by
        obtain ⟨o, ho⟩ := hB.at
        rw [e, ho] at hp
        cases hp
      have hp1 : H1 p = some (.lst [.int 2, .int 8]) := K1 p _ npb upd_same
      refine ⟨rfl, .inr ⟨_, rfl, ?_⟩⟩
      have kp0 : Kp b H H1 := (Kp.refl.new hp).trans K1
      cases decide (V.int d = V.int 0) with
      | true => exact ⟨p, _, _, _, rfl, rfl, SqL.of hp1, rfl, 8, rfl, .inr rfl, kp0, B1⟩
      | false => exact ⟨p, _, _, _, rfl, rfl, SqL.of hp1, rfl, 2, rfl, .inl rfl, kp0, B1⟩
    · rintro v H1 ⟨m, rfl, hm, K1, B1⟩
      refine ⟨b, m, n + 1, rfl, by omega, by omega, B1, by show n + 1 ≤ 1000000; omega, fun d H2 d0 d1 K2 B2 => ?_⟩
      refine ⟨_, _, rfl, rfl, ?_⟩
      have hd9 : 1 + d ≤ 8 := by omega
      have hd0 : (1 + d).toNat = (1 + d) := by omega
      refine ⟨⟨_, rfl⟩, _, rfl, 1 + d, rfl, by omega, by omega, fun D hD => ?_⟩
      refine lc_range (lo := 0) (n := (1 + d).toNat) (fun i H3 => Kp b H H3 ∧ Bag H3 b (n + 2 + i) ∧ D ≠ b ∧ ∃ cs : List Nat, H3 D = some (.lst ((cs.map one).map V.str)) ∧ cs.length = i ∧ ∀ c ∈ cs, Lt c) ?_ ?_ ?_
      · have nDb : D ≠ b := fun e => by
          obtain ⟨o, ho⟩ := B2.at
          rw [e, ho] at hD
          cases hD
        exact ⟨(K1.trans K2).new hD, B2.new hD, nDb, [], upd_same, rfl, fun c h => nomatch h⟩
      · rintro i H3 hi ⟨K3, B3, nDb, cs, hD3, hl, hc⟩
        refine ⟨rfl, ?_⟩
        refine yes (iteT ?_)
        refine ⟨_, rfl, _, rfl, b, 26, n + 2 + i, rfl, by decide, by decide, B3, by show n + 2 + i ≤ 1000000; omega, fun e H4 e0 e1 K4 B4 => ?_⟩
        obtain ⟨c, hce, hcl⟩ := abc_at e0 e1
        refine ⟨_, _, c, rfl, rfl, by decide +kernel, hce, ?_⟩
        have hD4 := K4 D _ nDb hD3
        have h8 : (1 + d).toNat ≤ 8 := by omega
        have hsz : ((cs.map one).map V.str).length < sizeLine := by
          rw [List.length_map, List.length_map, hl]
          exact Nat.lt_of_lt_of_le hi (Nat.le_trans h8 (by decide))
        refine ⟨_, hD4, hsz, ?_⟩
        refine ⟨(K3.trans K4).wr ?_, B4.ne nDb, nDb, cs ++ [c], ?_, by rw [List.length_append, hl]; rfl, ?_⟩
        · exact (K1.trans K2).free B2.at hD
        · rw [upd_same, List.map_append, List.map_append]; rfl
        · intro c' hc'
          rcases List.mem_append.mp hc' with h | h
          · exact hc c' h
          · rw [List.mem_singleton.mp h]; exact hcl
      · rintro H3 ⟨K3, B3, nDb, cs, hD3, hl, hc⟩
        refine ⟨_, _, _, rfl, rfl, .inl (SqL.of hD3), ?_, ?_⟩
        · rw [len_ones, List.length_map, hl]
          have : (1 + d).toNat ≤ 8 := by omega
          show _ + _ * 0 ≤ _
          omega
        · exact k _ _ (join_nm (by omega) (by omega) hc) K3 (B3.mono (by omega))
end
end Fh

set_option Elab.async false
set_option linter.all false
set_option maxRecDepth 100000
set_option maxHeartbeats 4000000
namespace Fh
open PySem L2 PyProof.Rows
/-! ### lists of texts -/
theorem flat_strs (zs : List Str) : (zs.map V.str).all flatV = true := by
  rw [List.all_eq_true]
  intro x hx
  obtain ⟨z, _, rfl⟩ := List.mem_map.mp hx
  rfl
theorem in_strs (z : Str) (zs : List Str) : inV (.str z) (zs.map V.str) = decide (z ∈ zs) := by
  unfold inV
  induction zs with
  | nil => rfl
  | cons a r ih =>
    rw [List.map_cons, List.any_cons, ih]
    show ((a == z) || decide (z ∈ r)) = decide (z ∈ a :: r)
    by_cases h : a = z
    · subst h; simp
    · have h' : ¬ z = a := fun e => h e.symm
      simp [h, h']
theorem strs_ne_bag {H : Hp} {l b : Addr} {n : Nat} {zs : List Str} (hl : H l = some (.lst (zs.map V.str))) (hb : Bag H b n) : l ≠ b := by
  rintro rfl
  obtain ⟨x, y, z, e, _⟩ := hb
  rw [hl] at e
  cases zs with
  | nil => cases e
  | cons a r => cases e
theorem new_ne {H : Hp} {p b : Addr} {n : Nat} (hp : H p = none) (hb : Bag H b n) : p ≠ b := by
  rintro rfl
  obtain ⟨x, y, z, e, _⟩ := hb
  rw [hp] at e
  cases e
theorem sub_len {α : Type} [DecidableEq α] : ∀ (l u : List α), l.Nodup → (∀ x ∈ l, x ∈ u) → l.length ≤ u.length
  | [], _, _, _ => Nat.zero_le _
  | x :: r, u, hn, hs => by
    have hx : x ∈ u := hs x List.mem_cons_self
    obtain ⟨h1, h2⟩ := List.nodup_cons.mp hn
    have q := sub_len r (u.erase x) h2 fun y hy => (List.mem_erase_of_ne (fun (e : y = x) => h1 (e ▸ hy))).mpr (hs y (List.mem_cons_of_mem _ hy))
    rw [List.length_erase_of_mem hx] at q
    have := List.length_pos_of_mem hx
    simp only [List.length_cons]
    omega
theorem one_app_inj {c d : Nat} {t : Str} (h : one c ++ t = one d ++ t) : c = d := by
  have e : (one c ++ t).cps = (one d ++ t).cps := by rw [h]
  have e2 : ((one c).cps ++ t.cps).toList = ((one d).cps ++ t.cps).toList := by
    show (one c ++ t).cps.toList = _
    rw [e]
    rfl
  rw [Array.toList_append, Array.toList_append] at e2
  exact (List.cons.inj e2).1
def abcL : List Nat := [97, 98, 99, 100, 101, 102, 103, 104, 105, 106, 107, 108, 109, 110, 111, 112, 113, 114, 115, 116, 117, 118, 119, 120, 121, 122]
theorem abc_sz : abc.cps.size = 26 := by decide +kernel
theorem abcL_nodup : abcL.Nodup := by decide
theorem abcL_lt : ∀ c ∈ abcL, Lt c := by unfold Lt; decide
theorem fresh_tail (t : Str) (u : List Str) (hu : u.length < 26) : ∃ z ∈ abcL.map (fun c => one c ++ t), z ∉ u := by
  apply Classical.byContradiction
  intro h
  have hs : ∀ z ∈ abcL.map (fun c => one c ++ t), z ∈ u := fun z hz => Classical.byContradiction fun hn => h ⟨z, hz, hn⟩
  have hn : (abcL.map (fun c => one c ++ t)).Nodup := by
    refine List.Pairwise.map _ (fun c d hcd e => ?_) abcL_nodup
    exact hcd (one_app_inj e)
  have q := sub_len _ u hn hs
  rw [List.length_map] at q
  have : abcL.length = 26 := rfl
  omega
def tail7 (z : Str) : Str := cutS z (some 1) (some 7)
theorem tail7_nm {z : Str} (h : Nm z) : (tail7 z).length ≤ 6 ∧ ∀ c ∈ (tail7 z).cps.toList, Lt c := by
  have e : (tail7 z).cps.toList = (z.cps.toList.drop (HT.sIx z.length 0 (some 1))).take (HT.sIx z.length z.length (some 7) - HT.sIx z.length 0 (some 1)) := rfl
  have e1 : HT.sIx z.length 0 (some 1) = 1 := by
    have := HT.sIx_nat z.length 0 1
    rw [show ((1 : Nat) : Int) = 1 from rfl] at this
    rw [this]
    have := h.lo
    omega
  have e7 : HT.sIx z.length z.length (some 7) ≤ 7 := by
    have := HT.sIx_nat z.length z.length 7
    rw [show ((7 : Nat) : Int) = 7 from rfl] at this
    rw [this]
    omega
  refine ⟨?_, fun c hc => ?_⟩
  · show (tail7 z).cps.size ≤ 6
    rw [← Array.length_toList, e, List.length_take, e1]
    omega
  · rw [e] at hc
    exact h.sg c (List.mem_of_mem_drop (List.mem_of_mem_take hc))
theorem app_codes (a b : Str) : (a ++ b).cps.toList = a.cps.toList ++ b.cps.toList := by
  show (a.cps ++ b.cps).toList = _
  rw [Array.toList_append]
theorem app_len (a b : Str) : (a ++ b).length = a.length + b.length := by
  show (a.cps ++ b.cps).size = _
  rw [Array.size_append]
  rfl
theorem tails_nm {z t : Str} (h : Nm z) (ht : t ∈ abcL.map (fun c => one c ++ tail7 z) ++ abcL.map (fun c => (one c ++ "x") ++ tail7 z)) : Nm t := by
  obtain ⟨hl, hs⟩ := tail7_nm h
  have hone : ∀ c, (one c).length = 1 := fun _ => rfl
  have hx : ("x" : Str).length = 1 := by decide +kernel
  have hxc : ("x" : Str).cps.toList = [120] := by decide +kernel
  rcases List.mem_append.mp ht with h' | h'
  · obtain ⟨c, hc, rfl⟩ := List.mem_map.mp h'
    refine ⟨by rw [app_len, hone]; omega, by rw [app_len, hone]; omega, fun d hd => ?_⟩
    rw [app_codes] at hd
    rcases List.mem_append.mp hd with hd | hd
    · rw [List.mem_singleton.mp hd]; exact abcL_lt c hc
    · exact hs d hd
  · obtain ⟨c, hc, rfl⟩ := List.mem_map.mp h'
    refine ⟨by rw [app_len, app_len, hone]; omega, by rw [app_len, app_len, hone, hx]; omega, fun d hd => ?_⟩
    rw [app_codes, app_codes, hxc] at hd
    rcases List.mem_append.mp hd with hd | hd
    · rcases List.mem_append.mp hd with hd | hd
      · rw [List.mem_singleton.mp hd]; exact abcL_lt c hc
      · rw [List.mem_singleton.mp hd]; exact ⟨by decide, by decide⟩
    · exact hs d hd
/-! ### comprehensions that only read -/
theorem put_next {H1 : Hp} {D : Addr} {ys : List V} {i : Nat} {y : V} (h : ys[i]? = some y) : upd (upd H1 D (.lst (ys.take i))) D (.lst (ys.take i ++ [y])) = upd H1 D (.lst (ys.take (i + 1))) := by
  rw [upd_upd, List.take_succ, h]
  rfl
theorem take_sz {ys : List V} {i n : Nat} (hn : ys.length ≤ n) (hl : n < sizeLine) : (ys.take i).length < sizeLine := by
  rw [List.length_take]
  omega
theorem abcL_at {i : Nat} {c : Nat} (h : abc.cps[i]? = some c) : abcL[i]? = some c := by
  have e : abc.cps = abcL.toArray := by decide +kernel
  rw [e] at h
  simpa using h
def spUnlikeN : Sp := fun vs H Q _ => ∃ (b t : Addr) (size : Int) (tk : List Str) (n : Nat), vs = [.ref b, .int size, .ref t] ∧ Bag H b n ∧ 0 ≤ size ∧ size ≤ 12 ∧ H t = some (.lst (tk.map V.str)) ∧ tk.length ≤ 12 ∧ n + 200 ≤ most ∧
  ∀ (p : Addr) (zs : List Str) (H' : Hp), H p = none → H' p = some (.lst (zs.map V.str)) → (zs.length : Int) = size → zs.Nodup → (∀ z ∈ zs, Nm z ∧ z ∉ tk) → Kp b H H' → Bag H' b (n + 120) → Q (.ref p) H'
abbrev sUnlikeN : Stmt := top 39
abbrev nUnlikeN : List Str := ["_law_bag_here", "_law_size", "_law_taken", "_law_found", "_law_spot", "_law_word", "_law_used", "_law_tails", "_law_one"]
section
variable {P : Program} {w : World} {K : PySem.W.Frag} {mg : Str → Option Value} {base : Heap}
theorem scUnlikeN : FnScope nUnlikeN ["_law_bag_here", "_law_size", "_law_taken"] (defScope sUnlikeN) := ⟨rfl, rfl, rfl, by decide +kernel, rfl, by decide +kernel, by decide +kernel⟩
theorem ok_unlikeN {f : Addr} {fd : FuncData} (F : Fun K "_law_unlike_names" "_law_unlike_names" sUnlikeN f fd) (G : Glb mg) (DN : Has P w K mg base "_law_drawn_name" 2 ["_law_bag_here"] spName) : FnOk P w K mg base CX0 3 f fd ["_law_bag_here", "_law_size", "_law_taken"] spUnlikeN := by
  refine F.ok scUnlikeN (fun vs H Q E h => ?_) (fun cdv A outer s H vs Q E hr h => ?_)
  · obtain ⟨b, t, size, tk, n, rfl, _⟩ := h
    rfl
  · obtain ⟨b, t, size, tk, n, rfl, hB, s0, s1, ht, htl, hn, k⟩ := h
    have hn' : n + 200 ≤ 1000000 := hn
    have ntb : t ≠ b := strs_ne_bag ht hB
    refine ⟨_, pss_cons (ps_set (i := 3) scUnlikeN.nd rfl (Or.inl rfl) (pe_lst pa_nil))
      (pss_cons (ps_for PassesOwn.never rfl (pi_range1 rfl G.range (pa_cons (pv 1) pa_nil)) (pg_name (i := 4) scUnlikeN.nd rfl (Or.inl rfl))
        (pss_cons (ps_set (i := 5) scUnlikeN.nd rfl (Or.inr rfl) (pe_has DN hr rfl (pa_cons (pv 0) pa_nil)))
        (pss_cons (ps_set (i := 6) scUnlikeN.nd rfl (Or.inr rfl) (pe_op op_cat (pv 3) (pe_callTy call_list_of (by rfl) G.list (by decide +kernel) (pa_cons (pv 2) pa_nil))))
        (C8.pss_cut (ps_if (pt_cmpR op_in_seq (pv 5) (pv 6) rfl)
          (pss_cons (ps_setLc (i := 7) (own := [("_law_one", 8)]) (g := gName 8) (tt := tYes) rfl scUnlikeN.nd rfl rfl (sw_true rfl rfl rfl (by decide +kernel)) (pi_str pe_str) (blkOk_by (N := nUnlikeN) (sc := defScope sUnlikeN) (by decide +kernel))
            (fun _ _ _ _ _ => pg_name (i := 8) scUnlikeN.nd rfl (Or.inl rfl)) (fun _ _ _ _ _ => pts_nil)
            (fun _ _ _ _ _ => pe_op op_add_str (pv 8) (pe_slice sl_str (pv 5) (po_some pe_int) (po_some pe_int))))
          (pss_cons (ps_set (i := 7) scUnlikeN.nd rfl (Or.inl rfl) (pe_op op_cat (pv 7) (pe_lc (own := [("_law_one", 8)]) (g := gName 8) (tt := tYes) rfl scUnlikeN.nd (pi_str pe_str) (blkOk_by (N := nUnlikeN) (sc := defScope sUnlikeN) (by decide +kernel))
            (fun _ _ _ _ _ => pg_name (i := 8) scUnlikeN.nd rfl (Or.inl rfl)) (fun _ _ _ _ _ => pts_nil)
            (fun _ _ _ _ _ => pe_op op_add_str (pe_op op_add_str (pv 8) pe_str) (pe_slice sl_str (pv 5) (po_some pe_int) (po_some pe_int))))))
          (pss_one (ps_set (i := 5) scUnlikeN.nd rfl (Or.inr rfl) (pe_ix ix_list (pe_lc (own := [("_law_one", 8)]) (g := gName 8) (tt := tTest (tOp (rIn K true) (tVar 8) (tVar 6))) rfl scUnlikeN.nd (pi_list (pv 7)) (blkOk_by (N := nUnlikeN) (sc := defScope sUnlikeN) (by decide +kernel))
            (fun _ _ _ _ _ => pg_name (i := 8) scUnlikeN.nd rfl (Or.inl rfl)) (fun _ _ _ _ _ => pts_one (pt_cmpR op_notIn_seq (pv 8) (pv 6) rfl))
            (fun _ _ _ _ _ => pv 8)) pe_int (fun _ _ => rfl))))))
          pss_nil)
        (pss_one (ps_expr (pe_bm PySem.F.plainAttrs_list PySem.F.slot_list_append PySem.F.type_list_append mt_append (pv 3) (pa_cons (pv 5) pa_nil))))))))
      (pss_one (ps_ret (pv 3)))), ?_⟩
    refine ⟨by decide, fun p hp => ?_⟩
    have npb : p ≠ b := new_ne hp hB
    refine ⟨_, rfl, size, rfl, by omega, by omega, ?_⟩
    refine for_range (lo := 0) (n := size.toNat) (fun i σ H3 => (∃ a4 a5 a6 a7 a8, σ = [some (.ref b), some (.int size), some (.ref t), some (.ref p), a4, a5, a6, a7, a8]) ∧ Kp b H H3 ∧ Bag H3 b (n + 10 * i) ∧ ∃ zs : List Str, H3 p = some (.lst (zs.map V.str)) ∧ zs.length = i ∧ zs.Nodup ∧ ∀ z ∈ zs, Nm z ∧ z ∉ tk) ?_ ?_ ?_
    · exact ⟨⟨_, _, _, _, _, rfl⟩, Kp.refl.new hp, hB.new hp, [], upd_same, rfl, List.nodup_nil, fun z h => nomatch h⟩
    · rintro i σ H3 hi ⟨⟨a4, a5, a6, a7, a8, rfl⟩, K3, B3, zs, hp3, hl, hnd, hz⟩
      have hB3 : n + 10 * i + 10 ≤ 1000000 := by omega
      have hi12 : i < 12 := by omega
      refine ⟨_, rfl, b, n + 10 * i, rfl, B3, hB3, fun z H4 z4 K4 B4 => ?_⟩
      have K4' : Kp b H H4 := K3.trans K4
      have ht4 : H4 t = some (.lst (tk.map V.str)) := K4' t _ ntb ht
      have hp4 : H4 p = some (.lst (zs.map V.str)) := K4 p _ npb hp3
      refine ⟨_, rfl, _, rfl, t, _, rfl, .inl (SqL.of ht4), fun l hl4 => ?_⟩
      have npl : p ≠ l := ne_of_none hp4 hl4
      refine ⟨p, l, _, _, rfl, rfl, (by rw [upd_ne npl]; exact hp4), upd_same, ?_, fun u hu => ?_⟩
      · rw [List.length_map, List.length_map]
        exact Nat.le_trans (show zs.length + tk.length ≤ 24 by omega) (by decide)
      rw [← List.map_append]
      have K6 : Kp b H (upd (upd H4 l (.lst (tk.map V.str))) u (.lst ((zs ++ tk).map V.str))) := (K4'.new hl4).new hu
      have B6 : Bag (upd (upd H4 l (.lst (tk.map V.str))) u (.lst ((zs ++ tk).map V.str))) b (n + 10 * (i + 1)) := ((B4.new hl4).new hu).mono (by omega)
      have hu6 : (upd (upd H4 l (.lst (tk.map V.str))) u (.lst ((zs ++ tk).map V.str))) u = some (.lst ((zs ++ tk).map V.str)) := upd_same
      have hp6 : (upd (upd H4 l (.lst (tk.map V.str))) u (.lst ((zs ++ tk).map V.str))) p = some (.lst (zs.map V.str)) := by
        have hpl : (upd H4 l (.lst (tk.map V.str))) p = some (.lst (zs.map V.str)) := by rw [upd_ne npl]; exact hp4
        rw [upd_ne (ne_of_none hpl hu)]
        exact hpl
      generalize (upd (upd H4 l (.lst (tk.map V.str))) u (.lst ((zs ++ tk).map V.str))) = H6 at K6 B6 hu6 hp6
      refine ⟨fun σ H' => (∃ v a7 a8, σ = [some (.ref b), some (.int size), some (.ref t), some (.ref p), some (.int (0 + i)), some (.str v), some (.ref u), a7, a8] ∧ Nm v ∧ v ∉ zs ++ tk) ∧ Kp b H H' ∧ Bag H' b (n + 10 * (i + 1)) ∧ H' p = some (.lst (zs.map V.str)), ?_, ?_⟩
      · refine ⟨_, rfl, _, rfl, u, _, rfl, .inl (SqL.of hu6), rfl, flat_strs _, _, rfl, ?_⟩
        rw [in_strs]
        refine ite2 (fun _ => ?_) (fun hno => ?_)
        · refine ⟨_, rfl, fun D hD => ?_⟩
          have l1 : ∀ c, (one c).length + (tail7 z).length ≤ sizeLine := fun c => Nat.le_trans (show (one c).length + (tail7 z).length ≤ 8 by have := (tail7_nm z4).1; show 1 + _ ≤ 8; omega) (by decide)
          have l2 : ∀ c, (one c ++ "x").length + (tail7 z).length ≤ sizeLine := fun c => Nat.le_trans (show (one c ++ "x").length + (tail7 z).length ≤ 8 by have := (tail7_nm z4).1; rw [app_len]; show (1 + 1) + _ ≤ 8; omega) (by decide)
          have zL : z.length ≤ sizeLine := Nat.le_trans z4.hi (by decide)
          refine lc_it walk_str (fun j H7 => H7 = upd H6 D (.lst (((abcL.map fun c => one c ++ tail7 z).map V.str).take j))) rfl (fun _ _ _ _ => trivial) ?_ ?_
          · rintro j x H7 H8 hj rfl ⟨rfl, c, hc, rfl⟩
            have hj' := abcL_at hc
            refine ⟨rfl, yes (iteT ?_)⟩
            refine ⟨_, rfl, _, rfl, 1, rfl, 7, rfl, z, rfl, zL, _, _, rfl, rfl, l1 c, _, upd_same, take_sz (n := 26) (by simp [abcL]) (by decide), put_next ?_⟩
            rw [List.getElem?_map, List.getElem?_map, hj']
            rfl
          · rintro H7 rfl
            rw [abc_sz, List.take_of_length_le (show ((abcL.map fun c => one c ++ tail7 z).map V.str).length ≤ 26 by simp [abcL])]
            have hD7 : (upd H6 D (.lst ((abcL.map fun c => one c ++ tail7 z).map V.str))) D = some (.lst ((abcL.map fun c => one c ++ tail7 z).map V.str)) := upd_same
            have K7 : Kp b H (upd H6 D (.lst ((abcL.map fun c => one c ++ tail7 z).map V.str))) := K6.new hD
            have B7 := B6.new (o := (.lst ((abcL.map fun c => one c ++ tail7 z).map V.str))) hD
            have hu7 : (upd H6 D (.lst ((abcL.map fun c => one c ++ tail7 z).map V.str))) u = some (.lst ((zs ++ tk).map V.str)) := by rw [upd_ne (ne_of_none hu6 hD)]; exact hu6
            have hp7 : (upd H6 D (.lst ((abcL.map fun c => one c ++ tail7 z).map V.str))) p = some (.lst (zs.map V.str)) := by rw [upd_ne (ne_of_none hp6 hD)]; exact hp6
            generalize (upd H6 D (.lst ((abcL.map fun c => one c ++ tail7 z).map V.str))) = H7 at hD7 K7 B7 hu7 hp7
            refine ⟨_, rfl, _, rfl, fun D2 hD2 => ?_⟩
            refine lc_it walk_str (fun j H8 => H8 = upd H7 D2 (.lst (((abcL.map fun c => (one c ++ "x") ++ tail7 z).map V.str).take j))) rfl (fun _ _ _ _ => trivial) ?_ ?_
            · rintro j x H8 H9 hj rfl ⟨rfl, c, hc, rfl⟩
              have hj' := abcL_at hc
              refine ⟨rfl, yes (iteT ?_)⟩
              refine ⟨_, rfl, _, _, rfl, rfl, (by show 1 + 1 ≤ sizeLine; decide), _, rfl, 1, rfl, 7, rfl, z, rfl, zL, _, _, rfl, rfl, l2 c, _, upd_same, take_sz (n := 26) (by simp [abcL]) (by decide), put_next ?_⟩
              rw [List.getElem?_map, List.getElem?_map, hj']
              rfl
            · rintro H8 rfl
              rw [abc_sz, List.take_of_length_le (show ((abcL.map fun c => (one c ++ "x") ++ tail7 z).map V.str).length ≤ 26 by simp [abcL])]
              refine ⟨D, D2, _, _, rfl, rfl, (by rw [upd_ne (ne_of_none hD7 hD2)]; exact hD7), upd_same, (by simp [abcL]; decide), fun T hT => ?_⟩
              rw [← List.map_append]
              have nuT : u ≠ T := fun e => by
                rw [← e, upd_ne (ne_of_none hu7 hD2), hu7] at hT
                cases hT
              have npT : p ≠ T := fun e => by
                rw [← e, upd_ne (ne_of_none hp7 hD2), hp7] at hT
                cases hT
              generalize hts : (abcL.map fun c => one c ++ tail7 z) ++ (abcL.map fun c => (one c ++ "x") ++ tail7 z) = ts
              have hT9 : (upd (upd H7 D2 (.lst ((abcL.map fun c => (one c ++ "x") ++ tail7 z).map V.str))) T (.lst (ts.map V.str))) T = some (.lst (ts.map V.str)) := upd_same
              have K9 : Kp b H (upd (upd H7 D2 (.lst ((abcL.map fun c => (one c ++ "x") ++ tail7 z).map V.str))) T (.lst (ts.map V.str))) := (K7.new hD2).new hT
              have B9 : Bag (upd (upd H7 D2 (.lst ((abcL.map fun c => (one c ++ "x") ++ tail7 z).map V.str))) T (.lst (ts.map V.str))) b (n + 10 * (i + 1)) := (B7.new hD2).new hT
              have hu9 : (upd (upd H7 D2 (.lst ((abcL.map fun c => (one c ++ "x") ++ tail7 z).map V.str))) T (.lst (ts.map V.str))) u = some (.lst ((zs ++ tk).map V.str)) := by rw [upd_ne nuT, upd_ne (ne_of_none hu7 hD2)]; exact hu7
              have hp9 : (upd (upd H7 D2 (.lst ((abcL.map fun c => (one c ++ "x") ++ tail7 z).map V.str))) T (.lst (ts.map V.str))) p = some (.lst (zs.map V.str)) := by rw [upd_ne npT, upd_ne (ne_of_none hp7 hD2)]; exact hp7
              generalize (upd (upd H7 D2 (.lst ((abcL.map fun c => (one c ++ "x") ++ tail7 z).map V.str))) T (.lst (ts.map V.str))) = H9 at hT9 K9 B9 hu9 hp9
              have lts : ts.length = 52 := by rw [← hts]; simp [abcL]
              refine ⟨_, rfl, T, rfl, ⟨_, SqL.of hT9⟩, fun D3 hD3 => ?_⟩
              refine lc_it (walk_list (K := K) (a := T) (xs := ts.map V.str)) (fun j H10 => H10 = upd H9 D3 (.lst (((ts.take j).filter fun t => decide (t ∉ zs ++ tk)).map V.str))) rfl ?_ ?_ ?_
              · rintro j H10 _ rfl
                exact SqL.of (by rw [upd_ne (ne_of_none hT9 hD3)]; exact hT9)
              · rintro j x H10 H11 hj rfl ⟨rfl, hx⟩
                obtain ⟨y, hy, rfl⟩ : ∃ y, ts[j]? = some y ∧ x = V.str y := by
                  rw [List.getElem?_map] at hx
                  cases e : ts[j]? with
                  | none => rw [e] at hx; cases hx
                  | some y => rw [e] at hx; exact ⟨y, rfl, (Option.some.inj hx).symm⟩
                refine ⟨rfl, _, rfl, _, rfl, u, _, rfl, .inl (SqL.of (by rw [upd_ne (ne_of_none hu9 hD3)]; exact hu9)), rfl, flat_strs _, _, rfl, ?_⟩
                rw [in_strs]
                have tk1 : ts.take (j + 1) = ts.take j ++ [y] := by rw [List.take_succ, hy]; rfl
                refine ite2 (fun hin => ?_) (fun hin => ?_)
                · refine ⟨_, rfl, _, upd_same, ?_, ?_⟩
                  · refine Nat.lt_of_le_of_lt (show _ ≤ 52 from ?_) (by decide)
                    rw [List.length_map]
                    exact Nat.le_trans (List.length_filter_le _ _) (by rw [List.length_take]; omega)
                  · have hny : y ∉ zs ++ tk := fun e => by
                      rw [decide_eq_true e] at hin
                      cases hin
                    rw [upd_upd, tk1, List.filter_append, List.map_append]
                    have : ([y].filter fun t => decide (t ∉ zs ++ tk)) = [y] := List.filter_cons_of_pos (decide_eq_true hny)
                    rw [this]
                    rfl
                · have hyy : y ∈ zs ++ tk := Classical.byContradiction fun e => hin (by rw [decide_eq_false e]; rfl)
                  rw [tk1, List.filter_append]
                  have : ([y].filter fun t => decide (t ∉ zs ++ tk)) = [] := by
                    rw [List.filter_eq_nil_iff]
                    intro a ha
                    rw [List.mem_singleton.mp ha, decide_eq_true_eq]
                    exact fun h => h hyy
                  rw [this, List.append_nil]
              · rintro H10 rfl
                rw [show (ts.map V.str).length = ts.length from List.length_map _, List.take_length]
                obtain ⟨z', hz', hn'⟩ := fresh_tail (tail7 z) (zs ++ tk) (by rw [List.length_append]; omega)
                have hmem : z' ∈ ts.filter fun t => decide (t ∉ zs ++ tk) := List.mem_filter.mpr ⟨by rw [← hts]; exact List.mem_append_left _ hz', decide_eq_true hn'⟩
                cases hq : (ts.filter fun t => decide (t ∉ zs ++ tk)) with
                | nil => rw [hq] at hmem; cases hmem
                | cons v r =>
                  have hv : v ∈ ts.filter fun t => decide (t ∉ zs ++ tk) := by rw [hq]; exact List.mem_cons_self
                  obtain ⟨hv1, hv2⟩ := List.mem_filter.mp hv
                  refine ⟨D3, _, _, .str v, rfl, rfl, SqL.of upd_same, atI_nat (j := 0) rfl, ?_⟩
                  refine ⟨⟨v, _, _, rfl, tails_nm z4 (by rw [hts]; exact hv1), of_decide_eq_true hv2⟩, K9.new hD3, B9.new hD3, ?_⟩
                  rw [upd_ne (ne_of_none hp9 hD3)]
                  exact hp9
        · have hno' : z ∉ zs ++ tk := fun e => hno (decide_eq_true e)
          exact ⟨⟨z, _, _, rfl, z4, hno'⟩, K6, B6, hp6⟩
      · rintro σ H7 ⟨⟨v, a7, a8, rfl, nv, hv⟩, K7, B7, hp7⟩
        have hvz : v ∉ zs := fun e => hv (List.mem_append_left _ e)
        have hvt : v ∉ tk := fun e => hv (List.mem_append_right _ e)
        refine ⟨_, rfl, .inl ⟨rfl, _, SqL.of hp7⟩, _, rfl, p, _, _, rfl, rfl, hp7, ?_, ?_⟩
        · rw [List.length_map, hl]
          exact Nat.lt_trans hi12 (by decide)
        · refine ⟨⟨_, _, _, _, _, rfl⟩, K7.wr hp, B7.ne npb, zs ++ [v], ?_, by rw [List.length_append, hl]; rfl, ?_, ?_⟩
          · rw [upd_same, List.map_append]; rfl
          · rw [List.nodup_append]
            refine ⟨hnd, List.nodup_cons.mpr ⟨fun h => (nomatch h), List.nodup_nil⟩, fun a ha c hc e => ?_⟩
            rw [List.mem_singleton.mp hc] at e
            exact hvz (e ▸ ha)
          · intro z' hz'
            rcases List.mem_append.mp hz' with h | h
            · exact hz z' h
            · rw [List.mem_singleton.mp h]
              exact ⟨nv, hvt⟩
    · rintro σ H3 ⟨⟨a4, a5, a6, a7, a8, rfl⟩, K3, B3, zs, hp3, hl, hnd, hz⟩
      exact ⟨_, rfl, k p zs H3 hp hp3 (by omega) hnd hz K3 (B3.mono (by omega))⟩
end
end Fh

set_option Elab.async false
set_option linter.all false
set_option maxRecDepth 100000
set_option maxHeartbeats 4000000
namespace Fh
open PySem L2 PyProof.Rows
/-! ### data in tuples -/
mutual
inductive Tp (H : Hp) : V → PyData → Prop
  | int (i : Int) : Tp H (.int i) (.int i)
  | str (x : Str) : Tp H (.str x) (.str x)
  | tup {a : Addr} {xs : List V} {ds : List PyData} : H a = some (.tup xs) → TpAll H xs ds → Tp H (.ref a) (.tuple ds)
inductive TpAll (H : Hp) : List V → List PyData → Prop
  | nil : TpAll H [] []
  | cons {v : V} {vs : List V} {d : PyData} {ds : List PyData} : Tp H v d → TpAll H vs ds → TpAll H (v :: vs) (d :: ds)
end
/-- tuples stay -/
def Tk (H H' : Hp) : Prop := ∀ a xs, H a = some (.tup xs) → H' a = some (.tup xs)
mutual
theorem Tp.keep {H H' : Hp} (t : Tk H H') : ∀ (d : PyData) (v : V), Tp H v d → Tp H' v d
  | .none, _, h => by cases h
  | .bool _, _, h => by cases h
  | .int i, _, h => by cases h; exact .int i
  | .str x, _, h => by cases h; exact .str x
  | .list _, _, h => by cases h
  | .dict _, _, h => by cases h
  | .tuple ds, _, h => by
    cases h with
    | tup e q => exact .tup (t _ _ e) (TpAll.keep t ds _ q)
theorem TpAll.keep {H H' : Hp} (t : Tk H H') : ∀ (ds : List PyData) (vs : List V), TpAll H vs ds → TpAll H' vs ds
  | [], _, h => by cases h; exact .nil
  | d :: ds, _, h => by
    cases h with
    | cons a q => exact .cons (Tp.keep t d _ a) (TpAll.keep t ds _ q)
end
mutual
theorem Tp.dp {K : PySem.W.Frag} {H : Hp} : ∀ (d : PyData) (v : V), Tp H v d → Dp K H v d
  | .none, _, h => by cases h
  | .bool _, _, h => by cases h
  | .int i, _, h => by cases h; exact .int i
  | .str x, _, h => by cases h; exact .str x
  | .list _, _, h => by cases h
  | .dict _, _, h => by cases h
  | .tuple ds, _, h => by
    cases h with
    | tup e q => exact .tup (SqT.of e) (TpAll.dp ds _ q)
theorem TpAll.dp {K : PySem.W.Frag} {H : Hp} : ∀ (ds : List PyData) (vs : List V), TpAll H vs ds → DpAll K H vs ds
  | [], _, h => by cases h; exact .nil
  | d :: ds, _, h => by
    cases h with
    | cons a q => exact .cons (Tp.dp d _ a) (TpAll.dp ds _ q)
end
theorem Kp.tk {b : Addr} {H H' : Hp} {n : Nat} (k : Kp b H H') (hb : Bag H b n) : Tk H H' := fun a xs h => k a _ (fun e => by
  obtain ⟨x, y, z, e2, _⟩ := hb
  rw [← e, h] at e2
  cases e2) h
theorem Tk.refl {H : Hp} : Tk H H := fun _ _ h => h
theorem Tk.trans {H H1 H2 : Hp} (a : Tk H H1) (b : Tk H1 H2) : Tk H H2 := fun c xs h => b c xs (a c xs h)
theorem Same.tk {H H' : Hp} (s : Same H H') : Tk H H' := fun a xs h => s a _ h
theorem Tk.new {H : Hp} {p : Addr} {o : HO} (h : H p = none) : Tk H (upd H p o) := fun a xs e => by rw [upd_ne (ne_of_none e h)]; exact e
theorem Tk.wr {H : Hp} {p : Addr} {ys : List V} {o : HO} (h : H p = some (.lst ys)) : Tk H (upd H p o) := fun a xs e => by
  rw [upd_ne (fun q => by rw [q, h] at e; cases e)]
  exact e
theorem TpAll.length {H : Hp} : ∀ {vs : List V} {ds : List PyData}, TpAll H vs ds → vs.length = ds.length
  | _, _, .nil => rfl
  | _, _, .cons _ q => by simp [TpAll.length q]
theorem TpAll.get {H : Hp} : ∀ {vs : List V} {ds : List PyData} {i : Nat} {d : PyData}, TpAll H vs ds → ds[i]? = some d → ∃ v, vs[i]? = some v ∧ Tp H v d
  | _, _, _, _, .nil, e => by simp at e
  | _, _, 0, _, .cons a _, e => by simp at e; subst e; exact ⟨_, rfl, a⟩
  | _, _, i + 1, d, .cons _ q, e => by
    obtain ⟨v, h1, h2⟩ := TpAll.get (i := i) (d := d) q (by simpa using e)
    exact ⟨v, by simpa using h1, h2⟩
theorem TpAll.get' {H : Hp} : ∀ {vs : List V} {ds : List PyData} {i : Nat} {v : V}, TpAll H vs ds → vs[i]? = some v → ∃ d, ds[i]? = some d ∧ Tp H v d
  | _, _, _, _, .nil, e => by simp at e
  | _, _, 0, _, .cons a _, e => by simp at e; subst e; exact ⟨_, rfl, a⟩
  | _, _, i + 1, v, .cons _ q, e => by
    obtain ⟨d, h1, h2⟩ := TpAll.get' (i := i) (v := v) q (by simpa using e)
    exact ⟨d, by simpa using h1, h2⟩
theorem TpAll.app {H : Hp} : ∀ {vs ws : List V} {ds es : List PyData}, TpAll H vs ds → TpAll H ws es → TpAll H (vs ++ ws) (ds ++ es)
  | _, _, _, _, .nil, s => s
  | _, _, _, _, .cons a q, s => .cons a (TpAll.app q s)
theorem TpAll.one {H : Hp} {v : V} {d : PyData} (h : Tp H v d) : TpAll H [v] [d] := .cons h .nil
theorem TpAll.strs {H : Hp} : ∀ zs : List Str, TpAll H (zs.map V.str) (zs.map PyData.str)
  | [] => .nil
  | z :: r => .cons (.str z) (TpAll.strs r)
theorem Tp.inv {H : Hp} {v : V} {ds : List PyData} (h : Tp H v (.tuple ds)) : ∃ a xs, v = .ref a ∧ H a = some (.tup xs) ∧ TpAll H xs ds := by
  cases h with
  | tup e q => exact ⟨_, _, rfl, e, q⟩
theorem Tp.istr {H : Hp} {v : V} {z : Str} (h : Tp H v (.str z)) : v = .str z := by cases h; rfl
theorem Tp.iint {H : Hp} {v : V} {i : Int} (h : Tp H v (.int i)) : v = .int i := by cases h; rfl
theorem TpAll.icons {H : Hp} {vs : List V} {d : PyData} {ds : List PyData} (h : TpAll H vs (d :: ds)) : ∃ v r, vs = v :: r ∧ Tp H v d ∧ TpAll H r ds := by
  cases h with
  | cons a q => exact ⟨_, _, rfl, a, q⟩
theorem TpAll.inil {H : Hp} {vs : List V} (h : TpAll H vs []) : vs = [] := by cases h; rfl
/-! ### shaped data -/
def Sh (n : Nat) (d : PyData) : Prop := d.canLay0 = true ∧ d.depth ≤ n
theorem strOk_of {z : Str} (h : ∀ c ∈ z.cps.toList, c < 0x110000) : PyData.canLay0 (.str z) = true := by
  show PyData.strOk z = true
  unfold PyData.strOk
  rw [Array.all_eq_true_iff_forall_mem]
  intro c hc
  exact decide_eq_true (h c (by simpa using hc))
theorem Sh.int {n : Nat} (i : Int) : Sh n (.int i) := ⟨rfl, Nat.zero_le _⟩
theorem Sh.mono {n m : Nat} {d : PyData} (h : Sh n d) (hm : n ≤ m) : Sh m d := ⟨h.1, Nat.le_trans h.2 hm⟩
theorem lay_all : ∀ ds : List PyData, (∀ d ∈ ds, d.canLay0 = true) → PyData.canLayAll0 ds = true
  | [], _ => rfl
  | d :: r, h => by
    show (PyData.canLay0 d && PyData.canLayAll0 r) = true
    rw [h d List.mem_cons_self, lay_all r fun e he => h e (List.mem_cons_of_mem _ he)]
    rfl
theorem depth_all {n : Nat} : ∀ ds : List PyData, (∀ d ∈ ds, d.depth ≤ n) → PyData.depthAll ds ≤ n
  | [], _ => Nat.zero_le _
  | d :: r, h => by
    show max (PyData.depth d) (PyData.depthAll r) ≤ n
    exact Nat.max_le.mpr ⟨h d List.mem_cons_self, depth_all r fun e he => h e (List.mem_cons_of_mem _ he)⟩
theorem Sh.tup {n : Nat} {ds : List PyData} (h : ∀ d ∈ ds, Sh n d) : Sh (n + 1) (.tuple ds) :=
  ⟨lay_all ds fun d hd => (h d hd).1, Nat.succ_le_succ (depth_all ds fun d hd => (h d hd).2)⟩
theorem Sh.lst {n : Nat} {ds : List PyData} (h : ∀ d ∈ ds, Sh n d) : Sh (n + 1) (.list ds) :=
  ⟨lay_all ds fun d hd => (h d hd).1, Nat.succ_le_succ (depth_all ds fun d hd => (h d hd).2)⟩
theorem Sh.shaped {n : Nat} {d : PyData} (h : Sh n d) (hn : n ≤ 64) : SeqAt.shaped d = true := by
  unfold SeqAt.shaped
  rw [h.1, decide_eq_true (Nat.le_trans h.2 hn)]
  rfl
/-! ### lists of data as python sees them -/
theorem Dp.strs {K : PySem.W.Frag} {H : Hp} : ∀ zs : List Str, DpAll K H (zs.map V.str) (zs.map PyData.str)
  | [] => .nil
  | z :: r => .cons (.str z) (Dp.strs r)
theorem putF_len (f : Str) (v : V) : ∀ fs : List (Str × V), (putF f v fs).length ≤ fs.length + 1
  | [] => Nat.le_refl _
  | (g, x) :: r => by
    show (if g = f then (g, v) :: r else (g, x) :: putF f v r).length ≤ _
    split
    · exact Nat.le_succ _
    · exact Nat.succ_le_succ (putF_len f v r)
end Fh

set_option Elab.async false
set_option linter.all false
set_option maxRecDepth 100000
set_option maxHeartbeats 4000000
namespace Fh
open PySem L2 PyProof.Rows
def ff (nm ed ch rc cl : V) : List (Str × V) := putF "calls" cl (putF "records" rc (putF "choices" ch (putF "edition" ed (putF "name" nm []))))
section
variable {nm ed ch rc cl : V}
theorem ff_name : (ff nm ed ch rc cl).lookup ("name" : Str) = some nm := by
  unfold ff
  rw [lookup_putF, if_neg (by decide +kernel), lookup_putF, if_neg (by decide +kernel), lookup_putF, if_neg (by decide +kernel), lookup_putF, if_neg (by decide +kernel), lookup_putF, if_pos rfl]
theorem ff_edition : (ff nm ed ch rc cl).lookup ("edition" : Str) = some ed := by
  unfold ff
  rw [lookup_putF, if_neg (by decide +kernel), lookup_putF, if_neg (by decide +kernel), lookup_putF, if_neg (by decide +kernel), lookup_putF, if_pos rfl]
theorem ff_choices : (ff nm ed ch rc cl).lookup ("choices" : Str) = some ch := by
  unfold ff
  rw [lookup_putF, if_neg (by decide +kernel), lookup_putF, if_neg (by decide +kernel), lookup_putF, if_pos rfl]
theorem ff_records : (ff nm ed ch rc cl).lookup ("records" : Str) = some rc := by
  unfold ff
  rw [lookup_putF, if_neg (by decide +kernel), lookup_putF, if_pos rfl]
theorem ff_calls : (ff nm ed ch rc cl).lookup ("calls" : Str) = some cl := by
  unfold ff
  rw [lookup_putF, if_pos rfl]
end
/-! ### a method called -/
structure HasM (P : Program) (w : World) (K : PySem.W.Frag) (mg : Str → Option Value) (base : Heap) (C : Addr) (m : Str) (k : Nat) (ps : List Str) (sp : Sp) : Prop where
  cl : Cls K C
  ex : ∃ (f : Addr) (fd : FuncData), Meth K C m f ∧ Binds K fd ps [] ∧ FnOk P w K mg base CX0 k f fd ps sp
theorem pe_hasM {X : Cx} {C : Addr} {k : Nat} {m : Str} {ps : List Str} {sp : Sp} {o e : Expr} {es : List Expr} {ta : TE} {t : TA} {apos pos : Pos} {pl : Sem Bool} (D : HasM X.prog X.w X.K X.mg X.base C m k ps sp) (hr : Room k X.A) (ho : PE X o ta) (ha : PA X (e :: es) t)
    (hst : starEach (e :: es) X.env = (false, eval e X.env) :: starEach es X.env := by rfl) (hpl : (backTo pos (starEach es X.env)).any (·.1) = false := by rfl)
    (ht : eval (.Call (.Attribute o m apos) (e :: es) [] pos) X.env = (do
      let ov ← eval o X.env
      standAt apos.atName
      let (f, first) ← holding [ov] (getMethod ov m pl)
      callWith pos f first (backTo pos (starEach (e :: es) X.env)) (backToKw pos (keywordEach [] X.env))) := by rfl) :
    PE X (.Call (.Attribute o m apos) (e :: es) [] pos) (tMeth C m sp [] E0 ta t) := by
  obtain ⟨f, fd, hm, hb, F⟩ := D.ex
  exact pe_meth (pl := pl) ho D.cl hm F hr hb .nil pass0 ha hst hpl ht
/-- a promise of nothing -/
def spNone : Sp := fun _ _ _ _ => False
/-! ### rows of a face -/
def rowsD (rows : List (Str × PyData)) : PyData := .tuple (rows.map fun r => .tuple [.str r.1, r.2])
/-- data in a tuple that may be held as the very object -/
def TpR (H : Hp) (v : V) (d : PyData) : Prop := ∃ (a : Addr) (xs : List V) (ds : List PyData), v = .ref a ∧ d = .tuple ds ∧ Rd H a (.tup xs) ∧ TpAll H xs ds
theorem Rd.same {H H' : Hp} {a : Addr} {u : HO} (r : Rd H a u) (s : Same H H') : Rd H' a u := by
  rcases r with h | ⟨o, h⟩
  · exact .inl (s _ _ h)
  · exact .inr ⟨o, s _ _ h⟩
theorem TpR.inv {H : Hp} {v : V} {ds : List PyData} (h : TpR H v (.tuple ds)) : ∃ a xs, v = .ref a ∧ Rd H a (.tup xs) ∧ TpAll H xs ds := by
  obtain ⟨a, xs, ds', rfl, e, r, q⟩ := h
  cases e
  exact ⟨a, xs, rfl, r, q⟩
theorem TpR.same {H H' : Hp} {v : V} {d : PyData} (h : TpR H v d) (s : Same H H') : TpR H' v d := by
  obtain ⟨a, xs, ds, e1, e2, r, q⟩ := h
  exact ⟨a, xs, ds, e1, e2, Rd.same r s, TpAll.keep (Same.tk s) _ _ q⟩
def FaceR (C : Addr) (H : Hp) (a : Addr) (cs rs : List (Str × PyData)) : Prop := ∃ (dx : Addr) (v1 v2 v3 v4 v5 : V), H a = some (.ins C dx (ff v1 v2 v3 v4 v5)) ∧ TpR H v3 (rowsD cs) ∧ TpR H v4 (rowsD rs)
theorem FaceR.same {C : Addr} {H H' : Hp} {a : Addr} {cs rs : List (Str × PyData)} (h : FaceR C H a cs rs) (s : Same H H') : FaceR C H' a cs rs := by
  obtain ⟨dx, v1, v2, v3, v4, v5, e, t3, t4⟩ := h
  exact ⟨dx, v1, v2, v3, v4, v5, s _ _ e, t3.same s, t4.same s⟩
theorem Tp.pair {H : Hp} {v : V} {d e : PyData} (h : Tp H v (.tuple [d, e])) : ∃ a x y, v = .ref a ∧ H a = some (.tup [x, y]) ∧ Tp H x d ∧ Tp H y e := by
  obtain ⟨a, xs, rfl, ha, q⟩ := h.inv
  obtain ⟨x, r, rfl, hx, q⟩ := q.icons
  obtain ⟨y, r, rfl, hy, q⟩ := q.icons
  rw [q.inil] at ha
  exact ⟨a, x, y, rfl, ha, hx, hy⟩
theorem Tp.four {H : Hp} {v : V} {d1 d2 d3 d4 : PyData} (h : Tp H v (.tuple [d1, d2, d3, d4])) : ∃ a x1 x2 x3 x4, v = .ref a ∧ H a = some (.tup [x1, x2, x3, x4]) ∧ Tp H x1 d1 ∧ Tp H x2 d2 ∧ Tp H x3 d3 ∧ Tp H x4 d4 := by
  obtain ⟨a, xs, rfl, ha, q⟩ := h.inv
  obtain ⟨x1, r, rfl, h1, q⟩ := q.icons
  obtain ⟨x2, r, rfl, h2, q⟩ := q.icons
  obtain ⟨x3, r, rfl, h3, q⟩ := q.icons
  obtain ⟨x4, r, rfl, h4, q⟩ := q.icons
  rw [q.inil] at ha
  exact ⟨a, x1, x2, x3, x4, rfl, ha, h1, h2, h3, h4⟩
theorem rows_at {H : Hp} {xs : List V} {rows : List (Str × PyData)} {i : Nat} {x : V} (q : TpAll H xs (rows.map fun r => .tuple [.str r.1, r.2])) (e : xs[i]? = some x) :
    ∃ r t u, rows[i]? = some r ∧ x = .ref t ∧ H t = some (.tup [.str r.1, u]) ∧ Tp H u r.2 := by
  obtain ⟨d, e2, tx⟩ := q.get' e
  rw [List.getElem?_map] at e2
  cases hr : rows[i]? with
  | none => rw [hr] at e2; cases e2
  | some r =>
    rw [hr] at e2
    cases e2
    obtain ⟨t, y, u, rfl, ht, ty, tu⟩ := tx.pair
    rw [ty.istr] at ht
    exact ⟨r, t, u, rfl, rfl, ht, tu⟩
theorem look_at {rows : List (Str × PyData)} {z : Str} {d : PyData} (h : rows.lookup z = some d) : ∃ (i : Nat) (hi : i < rows.length), rows[i].1 = z := by
  induction rows with
  | nil => cases h
  | cons r rs ih =>
    by_cases e : r.1 = z
    · exact ⟨0, Nat.succ_pos _, e⟩
    · have h2 : (z == r.1) = false := by
        rw [beq_eq_false_iff_ne]
        exact fun q => e q.symm
      obtain ⟨k, y⟩ := r
      rw [List.lookup_cons, h2] at h
      obtain ⟨i, hi, e2⟩ := ih h
      exact ⟨i + 1, Nat.succ_lt_succ hi, e2⟩
theorem look_first {rows : List (Str × PyData)} {z : Str} {d : PyData} {i : Nat} {r : Str × PyData} (h : rows.lookup z = some d) (e : rows[i]? = some r) (hz : r.1 = z) (hb : ∀ (j : Nat) (q : Str × PyData), j < i → rows[j]? = some q → q.1 ≠ z) : r.2 = d := by
  induction rows generalizing i with
  | nil => cases h
  | cons s rs ih =>
    cases i with
    | zero =>
      cases e
      obtain ⟨k, y⟩ := r
      rw [List.lookup_cons] at h
      have h2 : (z == k) = true := by rw [beq_iff_eq]; exact hz.symm
      rw [h2] at h
      cases h
      rfl
    | succ i =>
      have h0 := hb 0 s (Nat.succ_pos _) rfl
      have h2 : (z == s.1) = false := by
        rw [beq_eq_false_iff_ne]
        exact fun q => h0 q.symm
      obtain ⟨k, y⟩ := s
      rw [List.lookup_cons, h2] at h
      exact ih h e fun j q hj hq => hb (j + 1) q (Nat.succ_lt_succ hj) hq
/-! ### kinds -/
inductive Kb where
  | whole
  | truth
  | text
  | rc (z : Str)
  | ch (z : Str)
inductive Kn where
  | one (b : Kb)
  | lst (b : Kb)
def Kb.d : Kb → PyData
  | .whole => .str "whole"
  | .truth => .str "truth"
  | .text => .str "text"
  | .rc z => .tuple [.str "record", .str z]
  | .ch z => .tuple [.str "choice", .str z]
def Kn.d : Kn → PyData
  | .one b => b.d
  | .lst b => .tuple [.str "list", b.d]
def Kb.word : Kb → Str
  | .whole => "whole"
  | .truth => "truth"
  | .text => "text"
  | .rc _ => "record"
  | .ch _ => "choice"
def Kn.word : Kn → Str
  | .one b => b.word
  | .lst _ => "list"
def Kb.mark : Kb → Int
  | .text => 2
  | .rc _ => 4
  | _ => 1
def Kn.mark : Kn → Int
  | .one b => b.mark
  | .lst _ => 3
/-- what stands in a kind that is a tuple -/
def Kn.inner : Kn → PyData
  | .one (.rc z) => .str z
  | .one (.ch z) => .str z
  | .lst b => b.d
  | _ => .none
theorem kn_inv {H : Hp} {v : V} {k : Kn} (h : Tp H v k.d) : (v = .str k.word ∧ (k = .one .whole ∨ k = .one .truth ∨ k = .one .text)) ∨ ∃ a u, v = .ref a ∧ H a = some (.tup [.str k.word, u]) ∧ Tp H u k.inner := by
  cases k with
  | lst b =>
    obtain ⟨a, x, y, rfl, ha, hx, hy⟩ := Tp.pair h
    rw [hx.istr] at ha
    exact .inr ⟨a, y, rfl, ha, hy⟩
  | one b =>
    cases b with
    | whole => exact .inl ⟨Tp.istr h, .inl rfl⟩
    | truth => exact .inl ⟨Tp.istr h, .inr (.inl rfl)⟩
    | text => exact .inl ⟨Tp.istr h, .inr (.inr rfl)⟩
    | rc z =>
      obtain ⟨a, x, y, rfl, ha, hx, hy⟩ := Tp.pair h
      rw [hx.istr] at ha
      exact .inr ⟨a, y, rfl, ha, hy⟩
    | ch z =>
      obtain ⟨a, x, y, rfl, ha, hx, hy⟩ := Tp.pair h
      rw [hx.istr] at ha
      exact .inr ⟨a, y, rfl, ha, hy⟩
theorem Same.new {H : Hp} {p : Addr} {o : HO} (h : H p = none) : Same H (upd H p o) := fun a u e => by
  rw [upd_ne (ne_of_none e h)]
  exact e
theorem Same.wr {H H1 : Hp} {p : Addr} {o : HO} (s : Same H H1) (h : H p = none) : Same H (upd H1 p o) := fun a u e => by
  rw [upd_ne (ne_of_none e h)]
  exact s a u e
/-- [x for x, y in rows] -/
theorem lc_names {K : PySem.W.Frag} {ti : TE} {x y : Nat} {σ : L2.St} {H : Hp} {rows : List (Str × PyData)} {v : V} {Q : V → Hp → Prop} (hi : ∀ R : V → Hp → Prop, R v H → ti σ H R) (t : TpR H v (rowsD rows)) (hl : rows.length ≤ 100)
    (hw : ∀ a b, wipe (((wipe σ [x, y]).set x (some a)).set y (some b)) [x, y] = wipe σ [x, y]) (hv : ∀ a b, (((wipe σ [x, y]).set x (some a)).set y (some b))[x]? = some (some a))
    (k : ∀ D H', Same H H' → H' D = some (.lst ((rows.map (·.1)).map V.str)) → Q (.ref D) H') : tLc (iTup K ti) (gTup K 2 (gCons (gName x) (gCons (gName y) gNil))) tYes (tVar x) [x, y] σ H Q := by
  obtain ⟨a, xs, rfl, ha, q⟩ := TpR.inv t
  refine hi _ ⟨a, rfl, ⟨_, (.inl ha)⟩, fun D hD => ?_⟩
  refine lc_tup (xs := xs) (fun i H3 => Same H H3 ∧ H3 D = some (.lst (((rows.take i).map (·.1)).map V.str))) ?_ ?_ ?_ ?_
  · exact ⟨Same.new hD, upd_same⟩
  · rintro i H3 _ ⟨S3, _⟩
    exact .inl (Rd.same ha S3)
  · rintro i z H3 hz ⟨S3, h3⟩
    obtain ⟨r, t, u, hr, rfl, ht, tu⟩ := rows_at q hz
    refine ⟨t, _, rfl, SqT.of (S3 _ _ ht), rfl, _, _, rfl, _, _, rfl, rfl, hw _ _, yes (iteT ?_)⟩
    refine ⟨_, hv _ _, _, h3, ?_, Same.wr S3 hD, ?_⟩
    · rw [List.length_map, List.length_map, List.length_take]
      exact Nat.lt_of_le_of_lt (Nat.min_le_right _ _) (Nat.lt_of_le_of_lt hl (by decide))
    · have hlt : i < rows.length := by
        rw [List.getElem?_eq_some_iff] at hr
        exact hr.1
      rw [upd_same, List.take_add_one, hr]
      simp
  · rintro H3 ⟨S3, h3⟩
    have e : xs.length = rows.length := by rw [q.length, List.length_map]
    rw [e, List.take_length] at h3
    exact k D H3 S3 h3
theorem sne {a b : Str} (h : a ≠ b) : ¬ V.str a = V.str b := fun e => h (by cases e; rfl)
/-! ### small defs -/
abbrev sWord : Stmt := top 2
abbrev sNob : Stmt := top 4
def spWord : Sp := fun vs H Q _ => ∃ (v : V) (k : Kn), vs = [v] ∧ Tp H v k.d ∧ Q (.str k.word) H
abbrev nNob : List Str := ["face", "kind", "word", "inner", "rows", "name", "parts"]
def nameIn (z : Str) (rows : List (Str × PyData)) : Bool := decide (z ∈ rows.map (·.1))
def nobB (cs rs : List (Str × PyData)) : Kb → Bool
  | .rc z => !nameIn z rs
  | .ch z => !nameIn z cs
  | _ => false
def nobK (cs rs : List (Str × PyData)) : Kn → Bool
  | .one b => nobB cs rs b
  | .lst b => nobB cs rs b
def spNob (C : Addr) (ok : Kn → Prop) : Sp := fun vs H Q _ => ∃ (a : Addr) (v : V) (k : Kn) (cs rs : List (Str × PyData)), vs = [.ref a, v] ∧ FaceR C H a cs rs ∧ cs.length ≤ 100 ∧ rs.length ≤ 100 ∧ Tp H v k.d ∧ ok k ∧ ∀ H', Same H H' → Q (.bl (nobK cs rs k)) H'
def isOne (k : Kn) : Prop := ∃ b, k = .one b
section
variable {P : Program} {w : World} {K : PySem.W.Frag} {mg : Str → Option Value} {base : Heap}
theorem scWord : FnScope ["kind"] ["kind"] (defScope sWord) := ⟨rfl, rfl, rfl, by decide +kernel, rfl, by decide +kernel, by decide +kernel⟩
theorem scNob : FnScope nNob ["face", "kind"] (defScope sNob) := ⟨rfl, rfl, rfl, by decide +kernel, rfl, by decide +kernel, by decide +kernel⟩
theorem ok_word {f : Addr} {fd : FuncData} (F : Fun K "word_of" "word_of" sWord f fd) (G : Glb mg) : FnOk P w K mg base CX0 1 f fd ["kind"] spWord := by
  refine F.ok scWord (fun vs H Q E h => ?_) (fun cdv A outer s H vs Q E hr h => ?_)
  · obtain ⟨v, k, rfl, _⟩ := h
    rfl
  · obtain ⟨v, k, rfl, t, q⟩ := h
    refine ⟨_, pss_one (ps_ret (pe_ifExp (pt_val (pe_callB call_isi (by rfl) G.isi (by decide +kernel) (pa_cons (pv 0) (pa_cons (pe_bltn (v := .ty "str") rfl G.str (by decide +kernel) rfl) pa_nil)))) (pv 0) (pe_ix ix_tup (pv 0) pe_int (fun _ _ => rfl)))), ?_⟩
    rcases kn_inv t with ⟨rfl, _⟩ | ⟨a, u, rfl, ha, _⟩
    · exact ⟨_, rfl, _, _, .type "str", .type "str", true, rfl, .ty _, .base (.str _), rfl, true, rfl, iteT ⟨_, rfl, q⟩⟩
    · exact ⟨_, rfl, _, _, .type "tuple", .type "str", false, rfl, .ty _, .base (.tup ha), rfl, false, rfl, iteF ⟨_, rfl, a, _, _, _, rfl, rfl, SqT.of ha, rfl, q⟩⟩
theorem ok_nob {C f : Addr} {fd : FuncData} {n : Nat} {ok ok' : Kn → Prop} (F : Fun K "names_nobody" "names_nobody" sNob f fd) (G : Glb mg) (cl : Cls K C) (n3 : NoAttr K C "choices") (n4 : NoAttr K C "records") (DN : Has P w K mg base "names_nobody" n ["face", "kind"] (spNob C ok')) (hok : ∀ b, ok (.lst b) → ok' (.one b)) : FnOk P w K mg base CX0 (n + 1) f fd ["face", "kind"] (spNob C ok) := by
  refine F.ok scNob (fun vs H Q E h => ?_) (fun cdv A outer s H vs Q E hr h => ?_)
  · obtain ⟨a, v, k, cs, rs, rfl, _⟩ := h
    rfl
  · obtain ⟨a, v, k, cs, rs, rfl, hF, lc, lr, t, hk, q⟩ := h
    refine ⟨_, pss_cons (ps_if (pt_val (pe_callB call_isi (by rfl) G.isi (by decide +kernel) (pa_cons (pv 1) (pa_cons (pe_bltn (v := .ty "str") rfl G.str (by decide +kernel) rfl) pa_nil)))) (pss_one (ps_ret pe_bl)) pss_nil)
      (pss_cons (ps_asg (pv 1) (pg_tup rfl (pgs_cons (pg_name (i := 2) scNob.nd rfl (.inl rfl)) (pgs_cons (pg_name (i := 3) scNob.nd rfl (.inl rfl)) pgs_nil))))
      (pss_cons (ps_if (pt_cmpR op_eq (pv 2) pe_str (nomark _)) (pss_one (ps_ret (pe_has DN hr rfl (pa_cons (pv 0) (pa_cons (pv 3) pa_nil))))) pss_nil)
      (pss_cons (ps_set (i := 4) scNob.nd rfl (Or.inl rfl) (pe_ifExp (pt_cmpR op_eq (pv 2) pe_str (nomark _)) (pe_fld (pv 0) rfl) (pe_fld (pv 0) rfl)))
      (pss_one (ps_ret (pe_cmpR op_notIn_seq (pv 3) (pe_lc (own := [("name", 5), ("parts", 6)]) (g := gTup K 2 (gCons (gName 5) (gCons (gName 6) gNil))) (tt := tYes) (te := tVar 5) rfl scNob.nd (pi_tup (pv 4)) (blkOk_by (N := nNob) (sc := defScope sNob) (by decide +kernel))
        (fun _ _ _ _ _ => pg_tup rfl (pgs_cons (pg_name (i := 5) scNob.nd rfl (.inl rfl)) (pgs_cons (pg_name (i := 6) scNob.nd rfl (.inl rfl)) pgs_nil))) (fun _ _ _ _ _ => pts_nil) (fun _ _ _ _ _ => pv 5)) rfl)))))), ?_⟩
    obtain ⟨dx, v1, v2, v3, v4, v5, hA, t3, t4⟩ := id hF
    rcases kn_inv t with ⟨rfl, hp⟩ | ⟨b, u, rfl, hb, tu⟩
    · refine ⟨_, rfl, _, _, .type "str", .type "str", true, rfl, .ty _, .base (.str _), rfl, true, rfl, iteT ?_⟩
      have e : nobK cs rs k = false := by rcases hp with rfl | rfl | rfl <;> rfl
      rw [← e]
      exact q H (Same.refl H)
    · refine ⟨_, rfl, _, _, .type "tuple", .type "str", false, rfl, .ty _, .base (.tup hb), rfl, false, rfl, iteF ?_⟩
      refine ⟨_, rfl, b, _, rfl, SqT.of hb, rfl, _, _, rfl, _, _, rfl, rfl, ?_⟩
      refine ⟨_, rfl, rfl, _, rfl, ?_⟩
      cases k with
      | lst c =>
        refine ite2 (fun _ => ?_) (fun h => absurd (decide_eq_true rfl) h)
        exact ⟨_, rfl, _, rfl, a, u, .one c, cs, rs, rfl, hF, lc, lr, tu, hok c hk, q⟩
      | one c =>
        cases c with
        | whole => cases t
        | truth => cases t
        | text => cases t
        | rc z =>
          cases tu.istr
          refine ite2 (fun h => absurd (of_decide_eq_true h) (sne (by decide +kernel : ("record" : Str) ≠ "list"))) (fun _ => ?_)
          refine ⟨_, rfl, rfl, _, rfl, ?_⟩
          refine ite2 (fun h => absurd (of_decide_eq_true h) (sne (by decide +kernel : ("record" : Str) ≠ "choice"))) (fun _ => ?_)
          refine ⟨_, rfl, a, C, dx, _, _, rfl, hA, cl, n4, ff_records, ?_⟩
          refine ⟨_, rfl, lc_names (v := v4) (fun R hR => ⟨_, rfl, hR⟩) t4 lr (fun _ _ => rfl) (fun _ _ => rfl) fun D H' S' hD => ?_⟩
          refine ⟨D, _, rfl, .inl (SqL.of hD), rfl, by simp [flatV], ?_⟩
          rw [in_strs]
          exact q H' S'
        | ch z =>
          cases tu.istr
          refine ite2 (fun h => absurd (of_decide_eq_true h) (sne (by decide +kernel : ("choice" : Str) ≠ "list"))) (fun _ => ?_)
          refine ⟨_, rfl, rfl, _, rfl, ?_⟩
          refine ite2 (fun _ => ?_) (fun h => absurd (decide_eq_true rfl) h)
          refine ⟨_, rfl, a, C, dx, _, _, rfl, hA, cl, n3, ff_choices, ?_⟩
          refine ⟨_, rfl, lc_names (v := v3) (fun R hR => ⟨_, rfl, hR⟩) t3 lc (fun _ _ => rfl) (fun _ _ => rfl) fun D H' S' hD => ?_⟩
          refine ⟨D, _, rfl, .inl (SqL.of hD), rfl, by simp [flatV], ?_⟩
          rw [in_strs]
          exact q H' S'
end
end Fh

set_option Elab.async false
set_option linter.all false
set_option maxRecDepth 100000
set_option maxHeartbeats 4000000
namespace Fh
open PySem L2 PyProof.Rows
abbrev sOptions : Stmt := inClass (top 34) 4
abbrev sNum : Stmt := top 5
abbrev sDigits : Stmt := top 9
abbrev sTold : Stmt := top 10
abbrev sPart : Stmt := top 11
abbrev sFSize : Stmt := top 12
def spOptions (C : Addr) : Sp := fun vs H Q _ => ∃ (a : Addr) (z : Str) (cs rs : List (Str × PyData)) (d : PyData), vs = [.ref a, .str z] ∧ FaceR C H a cs rs ∧ cs.lookup z = some d ∧ ∀ v, Tp H v d → Q v H
def optsD (os : List (Int × Str)) : PyData := .tuple (os.map fun o => .tuple [.int o.1, .str o.2])
structure OptsOk (os : List (Int × Str)) : Prop where
  ne : os ≠ []
  len : os.length ≤ 100
  nd : (os.map (·.2)).Nodup
  rg : ∀ o ∈ os, 1 ≤ o.1 ∧ o.1 ≤ 200
def spNum (C : Addr) : Sp := fun vs H Q _ => ∃ (a : Addr) (v x : V) (k : Kn) (cs rs : List (Str × PyData)), vs = [.ref a, v, x] ∧ FaceR C H a cs rs ∧ Tp H v k.d ∧
  ((k = .one .whole ∧ ∃ i, x = .int i ∧ Q (.int i) H) ∨ (k = .one .truth ∧ ∃ b, x = .bl b ∧ Q (.int (if b = true then 1 else 0)) H) ∨
    ∃ z os n u, k = .one (.ch z) ∧ cs.lookup z = some (optsD os) ∧ OptsOk os ∧ (n, u) ∈ os ∧ x = .str u ∧ ∀ H', Same H H' → Q (.int n) H')
/-- one digit -/
def spDigits : Sp := fun vs H Q _ => ∃ (n : Int), vs = [.int n] ∧ 1 ≤ n ∧ n ≤ 255 ∧ ∀ (p : Addr) (H' : Hp) (x : V), Same H H' → H p = none → H' p = some (.lst [x]) → Q (.ref p) H'
/-- how many numbers tell a size -/
def toldN (n : Int) : Int := if n < 200 then 1 else 2
def spTold : Sp := fun vs H Q _ => ∃ (n : Int), vs = [.int n] ∧ 0 ≤ n ∧ ∀ (p : Addr) (H' : Hp) (xs : List V), Same H H' → H p = none → H' p = some (.lst xs) → (xs.length : Int) = toldN n → Q (.ref p) H'
def spPart : Sp := fun vs H Q _ => ∃ (n : Int), vs = [.int n] ∧ 0 ≤ n ∧ ∀ (H' : Hp), Same H H' → Q (.int (toldN n + n)) H'
def fsz (n : Int) : Int := 2 + (toldN n + n)
def spFSize : Sp := fun vs H Q _ => ∃ (n : Int), vs = [.int n] ∧ 0 ≤ n ∧ ∀ (H' : Hp), Same H H' → Q (.int (fsz n)) H'
/-- the modules' numbers -/
structure Nums (mg : Str → Option Value) : Prop where
  base : ∃ t, mg "BASE" = some (.int 256 t)
  long : ∃ t, mg "FIRST_LONG_SIZE" = some (.int 200 t)
  least : ∃ t, mg "GREATEST_LEAST" = some (.int 60 t)
theorem opts_one {os : List (Int × Str)} {n : Int} {u : Str} (nd : (os.map (·.2)).Nodup) (h : (n, u) ∈ os) : os.filter (fun o => decide (o.2 = u)) = [(n, u)] := by
  induction os with
  | nil => cases h
  | cons o r ih =>
    rw [List.map_cons, List.nodup_cons] at nd
    rcases List.mem_cons.mp h with rfl | h2
    · have e : r.filter (fun o => decide (o.2 = u)) = [] := by
        rw [List.filter_eq_nil_iff]
        intro x hx
        rw [decide_eq_true_eq]
        exact fun q => nd.1 (List.mem_map.mpr ⟨x, hx, q⟩)
      rw [List.filter_cons, if_pos (decide_eq_true rfl), e]
    · have ne : ¬ o.2 = u := fun q => nd.1 (List.mem_map.mpr ⟨(n, u), h2, q.symm⟩)
      rw [List.filter_cons, if_neg (by rw [decide_eq_true_eq]; exact ne)]
      exact ih nd.2 h2
theorem opts_at {H : Hp} {xs : List V} {os : List (Int × Str)} {i : Nat} {x : V} (q : TpAll H xs (os.map fun o => .tuple [.int o.1, .str o.2])) (e : xs[i]? = some x) :
    ∃ o t, os[i]? = some o ∧ x = .ref t ∧ H t = some (.tup [.int o.1, .str o.2]) := by
  obtain ⟨d, e2, tx⟩ := q.get' e
  rw [List.getElem?_map] at e2
  cases hr : os[i]? with
  | none => rw [hr] at e2; cases e2
  | some o =>
    rw [hr] at e2
    cases e2
    obtain ⟨t, y, u, rfl, ht, ty, tu⟩ := tx.pair
    rw [ty.iint, tu.istr] at ht
    exact ⟨o, t, rfl, rfl, ht⟩
section
variable {P : Program} {w : World} {K : PySem.W.Frag} {mg : Str → Option Value} {base : Heap}
abbrev nOptions : List Str := ["self", "choice", "name", "options"]
theorem scOptions : FnScope nOptions ["self", "choice"] (defScope sOptions) := ⟨rfl, rfl, rfl, by decide +kernel, rfl, by decide +kernel, by decide +kernel⟩
theorem ok_options {C f : Addr} {fd : FuncData} (F : Fun K "options_of" "Face.options_of" sOptions f fd) (cl : Cls K C) (n3 : NoAttr K C "choices") : FnOk P w K mg base CX0 1 f fd ["self", "choice"] (spOptions C) := by
  refine F.ok scOptions (fun vs H Q E h => ?_) (fun cdv A outer s H vs Q E hr h => ?_)
  · obtain ⟨a, z, cs, rs, d, rfl, _⟩ := h
    rfl
  · obtain ⟨a, z, cs, rs, d, rfl, ⟨dx, v1, v2, v3, v4, v5, hA, t3, t4⟩, hl, k⟩ := h
    refine ⟨_, pss_cons (ps_for PassesOwn.never rfl (pi_tup (pe_fld (pv 0) rfl)) (pg_tup rfl (pgs_cons (pg_name (i := 2) scOptions.nd rfl (.inl rfl)) (pgs_cons (pg_name (i := 3) scOptions.nd rfl (.inl rfl)) pgs_nil)))
        (pss_one (ps_if (pt_cmpR op_eq (pv 2) (pv 1) (nomark _)) (pss_one (ps_ret (pv 3))) pss_nil))) (pss_one ps_never), ?_⟩
    obtain ⟨b, xs, rfl, hb, q⟩ := TpR.inv t3
    refine ⟨_, rfl, a, C, dx, _, _, rfl, hA, cl, n3, ff_choices, b, rfl, ⟨_, .inl hb⟩, ?_⟩
    refine for_tup (xs := xs) (fun i σ H3 => H3 = H ∧ (∃ a2 a3, σ = [some (.ref a), some (.str z), a2, a3]) ∧ ∀ (j : Nat) (r : Str × PyData), j < i → cs[j]? = some r → r.1 ≠ z) ?_ ?_ ?_ ?_
    · exact ⟨rfl, ⟨_, _, rfl⟩, fun j r hj => absurd hj (Nat.not_lt_zero _)⟩
    · rintro i σ H3 _ ⟨rfl, _⟩
      exact .inl hb
    · rintro i x σ H3 hx ⟨rfl, ⟨a2, a3, rfl⟩, hB⟩
      obtain ⟨r, t, u, hr', rfl, ht, tu⟩ := rows_at q hx
      refine ⟨t, _, rfl, SqT.of ht, rfl, _, _, rfl, _, _, rfl, rfl, ?_⟩
      refine ⟨_, rfl, _, rfl, rfl, _, rfl, ?_⟩
      refine ite2 (fun h => ?_) (fun h => ?_)
      · have e : r.1 = z := by
          have := of_decide_eq_true h
          cases this
          rfl
        have e2 := look_first hl hr' e hB
        rw [e2] at tu
        exact ⟨_, rfl, k _ tu⟩
      · have e : r.1 ≠ z := fun q => h (decide_eq_true (by rw [q]))
        refine ⟨rfl, ⟨_, _, rfl⟩, fun j s hj hs => ?_⟩
        by_cases ej : j = i
        · rw [ej, hr'] at hs
          cases hs
          exact e
        · exact hB j s (by omega) hs
    · rintro σ H3 ⟨rfl, _, hB⟩
      obtain ⟨i, hi, e⟩ := look_at hl
      have el : xs.length = cs.length := by rw [q.length, List.length_map]
      exact hB i cs[i] (by omega) (List.getElem?_eq_getElem hi) e
abbrev nNum : List Str := ["face", "kind", "value", "word", "number", "option"]
theorem scNum : FnScope nNum ["face", "kind", "value"] (defScope sNum) := ⟨rfl, rfl, rfl, by decide +kernel, rfl, by decide +kernel, by decide +kernel⟩
theorem ok_num {C f : Addr} {fd : FuncData} (F : Fun K "number_of" "number_of" sNum f fd) (DW : Has P w K mg base "word_of" 1 ["kind"] spWord) (DO : HasM P w K mg base C "options_of" 1 ["self", "choice"] (spOptions C)) : FnOk P w K mg base CX0 2 f fd ["face", "kind", "value"] (spNum C) := by
  refine F.ok scNum (fun vs H Q E h => ?_) (fun cdv A outer s H vs Q E hr h => ?_)
  · obtain ⟨a, v, x, k, cs, rs, rfl, _⟩ := h
    rfl
  · obtain ⟨a, v, x, k, cs, rs, rfl, hF, t, hh⟩ := h
    refine ⟨_, pss_cons (ps_set (i := 3) scNum.nd rfl (Or.inl rfl) (pe_has DW hr rfl (pa_cons (pv 1) pa_nil)))
      (pss_cons (ps_if (pt_cmpR op_eq (pv 3) pe_str (nomark _)) (pss_one (ps_ret (pe_ix ix_list (pe_lc (own := [("number", 4), ("option", 5)]) (g := gTup K 2 (gCons (gName 4) (gCons (gName 5) gNil))) (te := tVar 4) rfl scNum.nd (pi_tup (pe_hasM DO hr (pv 0) (pa_cons (pe_ix ix_tup (pv 1) pe_int (fun _ _ => rfl)) pa_nil))) (blkOk_by (N := nNum) (sc := defScope sNum) (by decide +kernel))
        (fun _ _ _ _ _ => pg_tup rfl (pgs_cons (pg_name (i := 4) scNum.nd rfl (.inl rfl)) (pgs_cons (pg_name (i := 5) scNum.nd rfl (.inl rfl)) pgs_nil))) (fun _ _ _ _ _ => pts_one (pt_cmpR op_eq (pv 5) (pv 2) (nomark _))) (fun _ _ _ _ _ => pv 4)) pe_int (fun _ _ => rfl)))) pss_nil)
      (pss_cons (ps_if (pt_cmpR op_eq (pv 3) pe_str (nomark _)) (pss_one (ps_ret (pe_ifExp (pt_val (pv 2)) pe_int pe_int))) pss_nil)
      (pss_one (ps_ret (pv 2))))), ?_⟩
    refine ⟨_, rfl, v, k, rfl, t, ?_⟩
    refine ⟨_, rfl, rfl, _, rfl, ?_⟩
    rcases hh with ⟨rfl, i, rfl, q⟩ | ⟨rfl, b, rfl, q⟩ | ⟨z, os, n, u, rfl, hl, ok, hm, rfl, q⟩
    · refine ite2 (fun h => absurd (of_decide_eq_true h) (sne (by decide +kernel : ("whole" : Str) ≠ "choice"))) (fun _ => ?_)
      refine ⟨_, rfl, rfl, _, rfl, ?_⟩
      refine ite2 (fun h => absurd (of_decide_eq_true h) (sne (by decide +kernel : ("whole" : Str) ≠ "truth"))) (fun _ => ?_)
      exact ⟨_, rfl, q⟩
    · refine ite2 (fun h => absurd (of_decide_eq_true h) (sne (by decide +kernel : ("truth" : Str) ≠ "choice"))) (fun _ => ?_)
      refine ⟨_, rfl, rfl, _, rfl, ?_⟩
      refine ite2 (fun _ => ?_) (fun h => absurd (decide_eq_true rfl) h)
      refine ⟨_, rfl, b, rfl, ?_⟩
      cases b with
      | true => exact iteT q
      | false => exact iteF q
    · refine ite2 (fun _ => ?_) (fun h => absurd (decide_eq_true rfl) h)
      rcases kn_inv t with ⟨_, h | h | h⟩ | ⟨b, y, rfl, hb, ty⟩
      · cases h
      · cases h
      · cases h
      cases ty.istr
      obtain ⟨dx, v1, v2, v3, v4, v5, hA, t3, t4⟩ := id hF
      refine ⟨_, rfl, a, dx, _, rfl, hA, ?_, _, rfl, b, _, _, _, rfl, rfl, SqT.of hb, rfl, a, z, cs, rs, _, rfl, hF, hl, fun ov tv => ?_⟩
      · unfold ff
        rw [lookup_putF, if_neg (by decide +kernel), lookup_putF, if_neg (by decide +kernel), lookup_putF, if_neg (by decide +kernel), lookup_putF, if_neg (by decide +kernel), lookup_putF, if_neg (by decide +kernel)]
        rfl
      obtain ⟨c, xs, rfl, hc, tq⟩ := Tp.inv tv
      refine ⟨c, rfl, ⟨_, SqT.of hc⟩, fun D hD => ?_⟩
      refine lc_tup (xs := xs) (fun i H3 => Same H H3 ∧ H3 D = some (.lst (((os.take i).filter (fun o => decide (o.2 = u))).map fun o => V.int o.1))) ?_ ?_ ?_ ?_
      · exact ⟨Same.new hD, upd_same⟩
      · rintro i H3 _ ⟨S3, _⟩
        exact SqT.of (S3 _ _ hc)
      · rintro i x H3 hx ⟨S3, h3⟩
        obtain ⟨o, t, ho, rfl, ht⟩ := opts_at tq hx
        refine ⟨t, _, rfl, SqT.of (S3 _ _ ht), rfl, _, _, rfl, _, _, rfl, rfl, rfl, ?_⟩
        refine ⟨_, rfl, _, rfl, rfl, _, rfl, ?_⟩
        refine ite2 (fun h => ?_) (fun h => ?_)
        · have e : o.2 = u := by
            have := of_decide_eq_true h
            cases this
            rfl
          refine ⟨_, rfl, _, h3, ?_, Same.wr S3 hD, ?_⟩
          · rw [List.length_map]
            refine Nat.lt_of_le_of_lt (List.length_filter_le _ _) ?_
            rw [List.length_take]
            exact Nat.lt_of_le_of_lt (Nat.min_le_right _ _) (Nat.lt_of_le_of_lt ok.len (by decide))
          · rw [upd_same, List.take_add_one, ho]
            simp [e]
        · have e : ¬ o.2 = u := fun q => h (decide_eq_true (by rw [q]))
          refine ⟨S3, ?_⟩
          rw [h3, List.take_add_one, ho]
          simp [e]
      · rintro H3 ⟨S3, h3⟩
        have el : xs.length = os.length := by rw [tq.length, List.length_map]
        rw [el, List.take_length, opts_one ok.nd hm] at h3
        exact ⟨D, _, _, _, rfl, rfl, SqL.of h3, rfl, q H3 S3⟩
end
end Fh

set_option Elab.async false
set_option linter.all false
set_option maxRecDepth 100000
set_option maxHeartbeats 4000000
namespace Fh
open PySem L2 PyProof.Rows
section
variable {P : Program} {w : World} {K : PySem.W.Frag} {mg : Str → Option Value} {base : Heap}
abbrev nDigits : List Str := ["number", "digits", "digit"]
theorem scDigits : FnScope nDigits ["number"] (defScope sDigits) := ⟨rfl, rfl, rfl, by decide +kernel, rfl, by decide +kernel, by decide +kernel⟩
theorem scTold : FnScope ["size"] ["size"] (defScope sTold) := ⟨rfl, rfl, rfl, by decide +kernel, rfl, by decide +kernel, by decide +kernel⟩
theorem scPart : FnScope ["size"] ["size"] (defScope sPart) := ⟨rfl, rfl, rfl, by decide +kernel, rfl, by decide +kernel, by decide +kernel⟩
theorem scFSize : FnScope ["size"] ["size"] (defScope sFSize) := ⟨rfl, rfl, rfl, by decide +kernel, rfl, by decide +kernel, by decide +kernel⟩
theorem ok_digits {f : Addr} {fd : FuncData} (F : Fun K "digits_of" "digits_of" sDigits f fd) (G : Glb mg) (N : Nums mg) : FnOk P w K mg base CX0 1 f fd ["number"] spDigits := by
  obtain ⟨tB, hB⟩ := N.base
  refine F.ok scDigits (fun vs H Q E h => ?_) (fun cdv A outer s H vs Q E hr h => ?_)
  · obtain ⟨n, rfl, _⟩ := h
    rfl
  · obtain ⟨n, rfl, n0, n1, k⟩ := h
    refine ⟨_, pss_cons (ps_set (i := 1) scDigits.nd rfl (Or.inl rfl) (pe_lst pa_nil))
      (pss_cons (ps_while PassesOwn.never (pt_cmpR op_gt (pv 0) pe_int (nomark _))
        (pss_cons (ps_asg (pe_callB call_divmod (by rfl) G.divmod (by decide +kernel) (pa_cons (pv 0) (pa_cons (pe_glob (v := .int 256) rfl hB ⟨_, rfl⟩) pa_nil))) (pg_tup rfl (pgs_cons (pg_name (i := 0) scDigits.nd rfl (.inl rfl)) (pgs_cons (pg_name (i := 2) scDigits.nd rfl (.inl rfl)) pgs_nil))))
        (pss_one (ps_expr (pe_bm PySem.F.plainAttrs_list PySem.F.slot_list_append PySem.F.type_list_append mt_append (pv 1) (pa_cons (pv 2) pa_nil))))))
      (pss_one (ps_ret (pe_revL (pv 1))))), ?_⟩
    refine ⟨Nat.zero_le _, fun p hp => ?_⟩
    refine while_by (fun σ H3 => ∃ (m : Int) (ds : List V) (a2 : Option V), σ = [some (.int m), some (.ref p), a2] ∧ Same H H3 ∧ H3 p = some (.lst ds) ∧ ((m = n ∧ ds = []) ∨ (m = 0 ∧ ∃ x, ds = [x]))) (fun σ _ => match σ with | some (.int m) :: _ => m.toNat | _ => 0) ?_ ?_ ?_
    · exact ⟨n, [], none, rfl, Same.new hp, upd_same, .inl ⟨rfl, rfl⟩⟩
    · rintro σ H3 ⟨m, ds, a2, rfl, S3, hp3, hm⟩
      refine ⟨_, rfl, _, _, rfl, rfl, _, rfl, ?_⟩
      refine ite2 (fun h => ?_) (fun h => ?_)
      · have hm0 : m > 0 := of_decide_eq_true h
        rcases hm with ⟨rfl, rfl⟩ | ⟨rfl, _⟩
        · have e0 : m / 256 = 0 := Int.ediv_eq_zero_of_lt (by omega) (by omega)
          refine ⟨_, rfl, m, 256, rfl, ⟨by decide, by decide⟩, fun t ht => ?_⟩
          refine ⟨t, _, rfl, SqT.of upd_same, rfl, _, _, rfl, _, _, rfl, rfl, ?_⟩
          have S4 : Same H (upd H3 t (.tup [.int (m / 256), .int (m % 256)])) := fun a o e => Same.new ht a o (S3 a o e)
          have hp4 : (upd H3 t (.tup [.int (m / 256), .int (m % 256)])) p = some (.lst []) := Same.new ht p _ hp3
          refine ⟨_, rfl, .inl ⟨rfl, _, SqL.of hp4⟩, _, rfl, p, _, _, rfl, rfl, hp4, by decide, ?_⟩
          refine ⟨⟨m / 256, [.int (m % 256)], _, rfl, Same.wr S4 hp, upd_same, .inr ⟨e0, _, rfl⟩⟩, ?_⟩
          show (m / 256).toNat < m.toNat
          omega
        · exact absurd hm0 (by decide)
      · have hm1 : ¬ m > 0 := fun z => h (decide_eq_true z)
        rcases hm with ⟨rfl, _⟩ | ⟨_, x, rfl⟩
        · omega
        · exact ⟨_, rfl, p, _, rfl, SqL.of hp3, fun r hr' => k r _ x (fun a o e => Same.new hr' a o (S3 a o e)) (Same.free S3 hr') upd_same⟩
    · rintro σ H Q Q' m ⟨v, e1, i, j, ea, eb, c, ec, q⟩
      exact ⟨v, e1, i, j, ea, eb, c, ec, m _ _ q⟩
theorem ok_told {f : Addr} {fd : FuncData} (F : Fun K "told_size" "told_size" sTold f fd) (N : Nums mg) : FnOk P w K mg base CX0 1 f fd ["size"] spTold := by
  obtain ⟨tB, hB⟩ := N.base
  obtain ⟨tL, hL⟩ := N.long
  refine F.ok scTold (fun vs H Q E h => ?_) (fun cdv A outer s H vs Q E hr h => ?_)
  · obtain ⟨n, rfl, _⟩ := h
    rfl
  · obtain ⟨n, rfl, n0, k⟩ := h
    refine ⟨_, pss_cons (ps_if (pt_cmpR op_lt (pv 0) (pe_glob (v := .int 200) rfl hL ⟨_, rfl⟩) (nomark _)) (pss_one (ps_ret (pe_lst (pa_cons (pv 0) pa_nil)))) pss_nil)
      (pss_one (ps_ret (pe_lst (pa_cons (pe_op op_add (pe_glob (v := .int 200) rfl hL ⟨_, rfl⟩) (pe_op op_fdiv (pv 0) (pe_glob (v := .int 256) rfl hB ⟨_, rfl⟩))) (pa_cons (pe_op op_mod (pv 0) (pe_glob (v := .int 256) rfl hB ⟨_, rfl⟩)) pa_nil))))), ?_⟩
    refine ⟨_, rfl, _, _, rfl, rfl, _, rfl, ?_⟩
    refine ite2 (fun hlt => ?_) (fun hlt => ?_)
    · exact ⟨_, rfl, (by show 1 ≤ sizeLine; decide), fun p hp => k p _ _ (Same.new hp) hp upd_same (by unfold toldN; rw [if_pos (of_decide_eq_true hlt)]; rfl)⟩
    · exact ⟨_, rfl, _, _, rfl, rfl, ⟨by decide, by decide⟩, _, _, rfl, rfl, _, rfl, _, _, rfl, rfl, (by show (0 : Int) < 256; decide), (by show 2 ≤ sizeLine; decide), fun p hp => k p _ _ (Same.new hp) hp upd_same (by unfold toldN; rw [if_neg (fun z => hlt (decide_eq_true z))]; rfl)⟩
theorem ok_part {f : Addr} {fd : FuncData} (F : Fun K "part_size" "part_size" sPart f fd) (G : Glb mg) (DT : Has P w K mg base "told_size" 1 ["size"] spTold) : FnOk P w K mg base CX0 2 f fd ["size"] spPart := by
  refine F.ok scPart (fun vs H Q E h => ?_) (fun cdv A outer s H vs Q E hr h => ?_)
  · obtain ⟨n, rfl, _⟩ := h
    rfl
  · obtain ⟨n, rfl, n0, k⟩ := h
    refine ⟨_, pss_one (ps_ret (pe_op op_add (pe_callB call_len_seq (by rfl) G.len PySem.boot_len (pa_cons (pe_has DT hr rfl (pa_cons (pv 0) pa_nil)) pa_nil)) (pv 0))), ?_⟩
    refine ⟨_, rfl, n, rfl, n0, fun p H' xs S hp hx hl => ?_⟩
    refine ⟨p, _, rfl, .inl (SqL.of hx), _, rfl, _, _, rfl, rfl, ?_⟩
    rw [hl]
    exact k H' S
theorem ok_fsize {f : Addr} {fd : FuncData} (F : Fun K "field_size" "field_size" sFSize f fd) (DP : Has P w K mg base "part_size" 2 ["size"] spPart) : FnOk P w K mg base CX0 3 f fd ["size"] spFSize := by
  refine F.ok scFSize (fun vs H Q E h => ?_) (fun cdv A outer s H vs Q E hr h => ?_)
  · obtain ⟨n, rfl, _⟩ := h
    rfl
  · obtain ⟨n, rfl, n0, k⟩ := h
    refine ⟨_, pss_one (ps_ret (pe_op op_add pe_int (pe_has DP hr rfl (pa_cons (pv 0) pa_nil)))), ?_⟩
    refine ⟨_, rfl, n, rfl, n0, fun H' S => ?_⟩
    exact ⟨_, _, rfl, rfl, k H' S⟩
end
end Fh

set_option Elab.async false
set_option linter.all false
set_option maxRecDepth 100000
set_option maxHeartbeats 4000000
namespace Fh
open PySem L2 PyProof.Rows
abbrev sNin : Stmt := top 3
abbrev sLeastOf : Stmt := top 15
abbrev sLSize : Stmt := top 17
/-- the name in a kind -/
def Kb.nm : Kb → Option Str
  | .rc z => some z
  | .ch z => some z
  | _ => none
def Kn.nm : Kn → Option Str
  | .one b => b.nm
  | .lst b => b.nm
def spNin (ok : Kn → Prop) : Sp := fun vs H Q _ => ∃ (v : V) (k : Kn) (z : Str), vs = [v] ∧ Tp H v k.d ∧ k.nm = some z ∧ ok k ∧ Q (.str z) H
abbrev nNin : List Str := ["kind", "word", "inner"]
abbrev nLeastOf : List Str := ["face", "kind", "word", "fields", "number", "name", "inner", "need"]
/-- of a choice -/
def spLeastOf (C : Addr) : Sp := fun vs H Q _ => ∃ (a : Addr) (v : V) (z : Str) (cs rs : List (Str × PyData)) (n : Int) (u : Str) (os : List (Int × Str)), vs = [.ref a, v] ∧ FaceR C H a cs rs ∧ Tp H v (Kn.one (.ch z)).d ∧ cs.lookup z = some (optsD ((n, u) :: os)) ∧ Q (.str u) H
/-! ### the sizes of records, reckoned -/
abbrev Szs := Str → Option Int
def kSz (cs rs : List (Str × PyData)) (D : Szs) (k : Kn) : Option Int := if nobK cs rs k = true then none else match k with
  | .lst _ => some 1
  | .one (.rc z) => D z
  | .one (.ch _) => some 1
  | .one _ => some 0
def optV : Option Int → V
  | none => .non
  | some v => .int v
/-- a dict has these sizes -/
def DOf (kvs : List (Key × V)) (D : Szs) : Prop := ∀ z, valV kvs (.inr z) = (D z).map V.int
/-- every choice has one option with a small number -/
theorem atI_first {α : Type} {x : α} {r : List α} : atI (x :: r) 0 = some x := by
  unfold atI ixN
  rw [if_pos (by decide), if_pos (by rw [List.length_cons]; omega)]
  rfl
def Cs1 (cs : List (Str × PyData)) : Prop := ∀ z, nameIn z cs = true → ∃ (n : Int) (u : Str) (os : List (Int × Str)), cs.lookup z = some (optsD ((n, u) :: os)) ∧ 1 ≤ n ∧ n ≤ 200 ∧ OptsOk ((n, u) :: os)
abbrev nLSize : List Str := ["face", "kind", "sizes", "word"]
def spLSize (C : Addr) : Sp := fun vs H Q _ => ∃ (a d : Addr) (v : V) (k : Kn) (cs rs : List (Str × PyData)) (kvs : List (Key × V)) (D : Szs), vs = [.ref a, v, .ref d] ∧ FaceR C H a cs rs ∧ cs.length ≤ 100 ∧ rs.length ≤ 100 ∧ Tp H v k.d ∧ Cs1 cs ∧
  H d = some (.dK kvs) ∧ DOf kvs D ∧ ∀ (H' : Hp), Same H H' → Q (optV (kSz cs rs D k)) H'
theorem ff_meth {m : Str} {v1 v2 v3 v4 v5 : V} (h1 : m ≠ "name") (h2 : m ≠ "edition") (h3 : m ≠ "choices") (h4 : m ≠ "records") (h5 : m ≠ "calls") : (ff v1 v2 v3 v4 v5).lookup m = none := by
  unfold ff
  rw [lookup_putF, if_neg h5, lookup_putF, if_neg h4, lookup_putF, if_neg h3, lookup_putF, if_neg h2, lookup_putF, if_neg h1]
  rfl
theorem ff_options {v1 v2 v3 v4 v5 : V} : (ff v1 v2 v3 v4 v5).lookup ("options_of" : Str) = none := ff_meth (by decide +kernel) (by decide +kernel) (by decide +kernel) (by decide +kernel) (by decide +kernel)
section
variable {P : Program} {w : World} {K : PySem.W.Frag} {mg : Str → Option Value} {base : Heap}
theorem scNin : FnScope nNin ["kind"] (defScope sNin) := ⟨rfl, rfl, rfl, by decide +kernel, rfl, by decide +kernel, by decide +kernel⟩
theorem ok_nin {f : Addr} {fd : FuncData} {n : Nat} {ok ok' : Kn → Prop} (F : Fun K "name_in" "name_in" sNin f fd) (DN : Has P w K mg base "name_in" n ["kind"] (spNin ok')) (hok : ∀ b, ok (.lst b) → ok' (.one b)) : FnOk P w K mg base CX0 (n + 1) f fd ["kind"] (spNin ok) := by
  refine F.ok scNin (fun vs H Q E h => ?_) (fun cdv A outer s H vs Q E hr h => ?_)
  · obtain ⟨v, k, z, rfl, _⟩ := h
    rfl
  · obtain ⟨v, k, z, rfl, t, hz, hk, q⟩ := h
    refine ⟨_, pss_cons (ps_asg (pv 0) (pg_tup rfl (pgs_cons (pg_name (i := 1) scNin.nd rfl (.inl rfl)) (pgs_cons (pg_name (i := 2) scNin.nd rfl (.inl rfl)) pgs_nil))))
      (pss_one (ps_ret (pe_ifExp (pt_cmpR op_eq (pv 1) pe_str (nomark _)) (pe_has DN hr rfl (pa_cons (pv 2) pa_nil)) (pv 2)))), ?_⟩
    rcases kn_inv t with ⟨rfl, hp⟩ | ⟨b, u, rfl, hb, tu⟩
    · exfalso
      rcases hp with rfl | rfl | rfl <;> cases hz
    · refine ⟨_, rfl, b, _, rfl, SqT.of hb, rfl, _, _, rfl, _, _, rfl, rfl, ?_⟩
      refine ⟨_, rfl, rfl, _, rfl, ?_⟩
      cases k with
      | lst c =>
        refine ite2 (fun _ => ?_) (fun h => absurd (decide_eq_true rfl) h)
        exact ⟨_, rfl, u, .one c, z, rfl, tu, hz, hok c hk, q⟩
      | one c =>
        cases c with
        | whole => cases hz
        | truth => cases hz
        | text => cases hz
        | rc y =>
          cases hz
          cases tu.istr
          refine ite2 (fun h => absurd (of_decide_eq_true h) (sne (by decide +kernel : ("record" : Str) ≠ "list"))) (fun _ => ?_)
          exact ⟨_, rfl, q⟩
        | ch y =>
          cases hz
          cases tu.istr
          refine ite2 (fun h => absurd (of_decide_eq_true h) (sne (by decide +kernel : ("choice" : Str) ≠ "list"))) (fun _ => ?_)
          exact ⟨_, rfl, q⟩
theorem scLeastOf : FnScope nLeastOf ["face", "kind"] (defScope sLeastOf) := ⟨rfl, rfl, rfl, by decide +kernel, rfl, by decide +kernel, by decide +kernel⟩
theorem ok_leastOf {C f : Addr} {fd : FuncData} (F : Fun K "least_of" "least_of" sLeastOf f fd) (DW : Has P w K mg base "word_of" 1 ["kind"] spWord) (DO : HasM P w K mg base C "options_of" 1 ["self", "choice"] (spOptions C)) : FnOk P w K mg base CX0 2 f fd ["face", "kind"] (spLeastOf C) := by
  refine F.ok scLeastOf (fun vs H Q E h => ?_) (fun cdv A outer s H vs Q E hr h => ?_)
  · obtain ⟨a, v, z, cs, rs, n, u, os, rfl, _⟩ := h
    rfl
  · obtain ⟨a, v, z, cs, rs, n, u, os, rfl, hF, t, hl, q⟩ := h
    refine ⟨_, pss_cons (ps_set (i := 2) scLeastOf.nd rfl (Or.inl rfl) (pe_has DW hr rfl (pa_cons (pv 1) pa_nil)))
      (pss_cons (ps_if (pt_cmpR op_eq (pv 2) pe_str (nomark _)) pss_never pss_nil)
      (pss_cons (ps_if (pt_cmpR op_eq (pv 2) pe_str (nomark _)) (pss_one (ps_ret (pe_ix ix_tup (pe_ix ix_tup (pe_hasM DO hr (pv 0) (pa_cons (pe_ix ix_tup (pv 1) pe_int (fun _ _ => rfl)) pa_nil)) pe_int (fun _ _ => rfl)) pe_int (fun _ _ => rfl)))) pss_nil)
      pss_never)), ?_⟩
    refine ⟨_, rfl, v, _, rfl, t, ?_⟩
    refine ⟨_, rfl, rfl, _, rfl, ?_⟩
    refine ite2 (fun h => absurd (of_decide_eq_true h) (sne (by decide +kernel : ("choice" : Str) ≠ "record"))) (fun _ => ?_)
    refine ⟨_, rfl, rfl, _, rfl, ?_⟩
    refine ite2 (fun _ => ?_) (fun h => absurd (decide_eq_true rfl) h)
    obtain ⟨b, x, y, rfl, hb, hx, hy⟩ := Tp.pair t
    cases hy.istr
    obtain ⟨dx, v1, v2, v3, v4, v5, hA, t3, t4⟩ := id hF
    refine ⟨_, rfl, a, dx, _, rfl, hA, ff_options, _, rfl, b, _, _, _, rfl, rfl, SqT.of hb, rfl, a, z, cs, rs, _, rfl, hF, hl, fun ov tv => ?_⟩
    obtain ⟨c, xs, rfl, hc, tq⟩ := Tp.inv tv
    obtain ⟨o, r, rfl, to, tq⟩ := tq.icons
    obtain ⟨e, i, w', rfl, he, hi, hw⟩ := Tp.pair to
    cases hw.istr
    refine ⟨c, _, _, _, rfl, rfl, SqT.of hc, atI_first, e, _, _, _, rfl, rfl, SqT.of he, rfl, q⟩
end
end Fh

set_option Elab.async false
set_option linter.all false
set_option maxRecDepth 100000
set_option maxHeartbeats 4000000
namespace Fh
open PySem L2 PyProof.Rows
section
variable {P : Program} {w : World} {K : PySem.W.Frag} {mg : Str → Option Value} {base : Heap}
theorem scLSize : FnScope nLSize ["face", "kind", "sizes"] (defScope sLSize) := ⟨rfl, rfl, rfl, by decide +kernel, rfl, by decide +kernel, by decide +kernel⟩
theorem ok_lsize {C f : Addr} {fd : FuncData} (F : Fun K "least_size" "least_size" sLSize f fd) (G : Glb mg) (DN : Has P w K mg base "names_nobody" 3 ["face", "kind"] (spNob C fun _ => True)) (DW : Has P w K mg base "word_of" 1 ["kind"] spWord) (DD : Has P w K mg base "digits_of" 1 ["number"] spDigits)
    (DU : Has P w K mg base "number_of" 2 ["face", "kind", "value"] (spNum C)) (DL : Has P w K mg base "least_of" 2 ["face", "kind"] (spLeastOf C)) : FnOk P w K mg base CX0 4 f fd ["face", "kind", "sizes"] (spLSize C) := by
  refine F.ok scLSize (fun vs H Q E h => ?_) (fun cdv A outer s H vs Q E hr h => ?_)
  · obtain ⟨a, d, v, k, cs, rs, kvs, D, rfl, _⟩ := h
    rfl
  · obtain ⟨a, d, v, k, cs, rs, kvs, D, rfl, hF, lc, lr, t, hC, hd, hD, q⟩ := h
    have hr1 : Room 1 _ := hr.mono (by decide)
    have hr2 : Room 2 _ := hr.mono (by decide)
    have hu := hu_of hr
    refine ⟨_, pss_cons (ps_if (pt_val (pe_has DN hr rfl (pa_cons (pv 0) (pa_cons (pv 1) pa_nil)))) (pss_one (ps_ret pe_non)) pss_nil)
      (pss_cons (ps_set (i := 3) scLSize.nd rfl (Or.inl rfl) (pe_has DW hr1 rfl (pa_cons (pv 1) pa_nil)))
      (pss_cons (ps_if (pt_cmpR op_eq (pv 3) pe_str (nomark _)) (pss_one (ps_ret (pe_dget1 hu (pv 2) (pe_ix ix_tup (pv 1) pe_int (fun _ _ => rfl)) ⟨rfl, rfl, rfl, rfl⟩))) pss_nil)
      (pss_cons (ps_if (pt_cmpR op_eq (pv 3) pe_str (nomark _)) (pss_one (ps_ret pe_int)) pss_nil)
      (pss_one (ps_ret (pe_ifExp (pt_cmpR op_eq (pv 3) pe_str (nomark _)) (pe_callB call_len_seq (by rfl) G.len PySem.boot_len (pa_cons (pe_has DD hr1 rfl (pa_cons (pe_has DU hr2 rfl (pa_cons (pv 0) (pa_cons (pv 1) (pa_cons (pe_has DL hr2 rfl (pa_cons (pv 0) (pa_cons (pv 1) pa_nil))) pa_nil)))) pa_nil)) pa_nil)) pe_int)))))), ?_⟩
    refine ⟨_, rfl, _, rfl, a, v, k, cs, rs, rfl, hF, lc, lr, t, trivial, fun H1 S1 => ?_⟩
    cases hN : nobK cs rs k with
    | true =>
      refine ⟨true, rfl, iteT ?_⟩
      have e : kSz cs rs D k = none := by unfold kSz; rw [if_pos hN]
      have q' := q H1 S1
      rw [e] at q'
      exact q'
    | false =>
    have ek : kSz cs rs D k = (match k with
      | .lst _ => some 1
      | .one (.rc z) => D z
      | .one (.ch _) => some 1
      | .one _ => some 0) := by unfold kSz; rw [if_neg (by rw [hN]; decide)]; cases k with
        | lst c => rfl
        | one c => cases c <;> rfl
    rw [ek] at q
    refine ⟨false, rfl, iteF ?_⟩
    have t1 := Tp.keep (Same.tk S1) _ _ t
    have hF1 := hF.same S1
    refine ⟨_, rfl, v, k, rfl, t1, ?_⟩
    refine ⟨_, rfl, rfl, _, rfl, ?_⟩
    have plain : ∀ {u : Str}, u ≠ "record" → u ≠ "list" → u ≠ "choice" → k.word = u → (V.str k.word = V.str "record" → False) ∧ (V.str k.word = V.str "list" → False) ∧ (V.str k.word = V.str "choice" → False) := fun h1 h2 h3 e => by
      rw [e]
      exact ⟨sne h1, sne h2, sne h3⟩
    rcases kn_inv t1 with ⟨hv, hk⟩ | ⟨b, y, hv, hb, ty⟩
    · have hh : (V.str k.word = V.str "record" → False) ∧ (V.str k.word = V.str "list" → False) ∧ (V.str k.word = V.str "choice" → False) := by
        rcases hk with h | h | h
        · exact plain (u := "whole") (by decide +kernel) (by decide +kernel) (by decide +kernel) (by rw [h]; rfl)
        · exact plain (u := "truth") (by decide +kernel) (by decide +kernel) (by decide +kernel) (by rw [h]; rfl)
        · exact plain (u := "text") (by decide +kernel) (by decide +kernel) (by decide +kernel) (by rw [h]; rfl)
      refine ite2 (fun h => absurd (of_decide_eq_true h) hh.1) (fun _ => ?_)
      refine ⟨_, rfl, rfl, _, rfl, ?_⟩
      refine ite2 (fun h => absurd (of_decide_eq_true h) hh.2.1) (fun _ => ?_)
      refine ⟨_, rfl, rfl, _, rfl, ?_⟩
      refine ite2 (fun h => absurd (of_decide_eq_true h) hh.2.2) (fun _ => ?_)
      rcases hk with rfl | rfl | rfl <;> exact q H1 S1
    subst hv
    cases k with
    | lst c =>
      refine ite2 (fun h => absurd (of_decide_eq_true h) (sne (by decide +kernel : ("list" : Str) ≠ "record"))) (fun _ => ?_)
      refine ⟨_, rfl, rfl, _, rfl, ?_⟩
      refine ite2 (fun _ => ?_) (fun h => absurd (decide_eq_true rfl) h)
      exact q H1 S1
    | one c =>
      cases c with
      | whole => cases t
      | truth => cases t
      | text => cases t
      | rc z =>
        refine ite2 (fun _ => ?_) (fun h => absurd (decide_eq_true rfl) h)
        cases ty.istr
        have hd1 := S1 _ _ hd
        refine ⟨_, rfl, d, rfl, .inl ⟨_, .inl hd1⟩, _, rfl, b, _, _, _, rfl, rfl, SqT.of hb, rfl, _, DGet.k (k := Sum.inr z) hd1, ?_⟩
        have em := hD z
        have q' := q H1 S1
        dsimp only at q'
        rw [em]
        cases hz : D z with
        | none => rw [hz] at q'; exact q'
        | some m => rw [hz] at q'; exact q'
      | ch z =>
        refine ite2 (fun h => absurd (of_decide_eq_true h) (sne (by decide +kernel : ("choice" : Str) ≠ "record"))) (fun _ => ?_)
        refine ⟨_, rfl, rfl, _, rfl, ?_⟩
        refine ite2 (fun h => absurd (of_decide_eq_true h) (sne (by decide +kernel : ("choice" : Str) ≠ "list"))) (fun _ => ?_)
        refine ⟨_, rfl, rfl, _, rfl, ?_⟩
        refine ite2 (fun _ => ?_) (fun h => absurd (decide_eq_true rfl) h)
        have hni : nameIn z cs = true := by
          have h0 : nobK cs rs (.one (.ch z)) = !nameIn z cs := rfl
          rw [h0] at hN
          cases hh : nameIn z cs with
          | true => rfl
          | false => rw [hh] at hN; cases hN
        obtain ⟨n, u, os, hl, n0, n1, ok⟩ := hC z hni
        refine ⟨_, rfl, _, rfl, _, rfl, _, rfl, a, _, z, cs, rs, n, u, os, rfl, hF1, t1, hl, ?_⟩
        refine ⟨a, _, _, .one (.ch z), cs, rs, rfl, hF1, t1, .inr (.inr ⟨z, (n, u) :: os, n, u, rfl, hl, ok, List.mem_cons_self, rfl, fun H3 S3 => ?_⟩)⟩
        refine ⟨n, rfl, n0, by omega, fun p H4 x S4 hp hp4 => ?_⟩
        refine ⟨p, _, rfl, .inl (SqL.of hp4), ?_⟩
        exact q H4 (fun b o e => S4 b o (S3 b o (S1 b o e)))
end
end Fh

set_option Elab.async false
set_option linter.all false
set_option maxRecDepth 100000
set_option maxHeartbeats 4000000
namespace Fh
open PySem L2 PyProof.Rows
structure Fl where
  num : Int
  nam : Str
  kd : Kn
  must : Bool
def needS (b : Bool) : Str := if b = true then "must" else "may"
def Fl.d (f : Fl) : PyData := .tuple [.int f.num, .str f.nam, f.kd.d, .str (needS f.must)]
def fieldsD (fs : List Fl) : PyData := .tuple (fs.map Fl.d)
theorem need_must (b : Bool) : decide (V.str (needS b) = V.str "must") = b := by
  cases b with
  | true => exact decide_eq_true rfl
  | false => exact decide_eq_false (sne (by decide +kernel : ("may" : Str) ≠ "must"))
theorem need_may (b : Bool) : decide (V.str (needS b) = V.str "may") = !b := by
  cases b with
  | true => exact decide_eq_false (sne (by decide +kernel : ("must" : Str) ≠ "may"))
  | false => exact decide_eq_true rfl
theorem flds_at {H : Hp} {xs : List V} {fs : List Fl} {i : Nat} {x : V} (q : TpAll H xs (fs.map Fl.d)) (e : xs[i]? = some x) :
    ∃ f t u, fs[i]? = some f ∧ x = .ref t ∧ H t = some (.tup [.int f.num, .str f.nam, u, .str (needS f.must)]) ∧ Tp H u f.kd.d := by
  obtain ⟨d, e2, tx⟩ := q.get' e
  rw [List.getElem?_map] at e2
  cases hr : fs[i]? with
  | none => rw [hr] at e2; cases e2
  | some f =>
    rw [hr] at e2
    cases e2
    obtain ⟨t, x1, x2, x3, x4, rfl, ht, t1, t2, t3, t4⟩ := Tp.four tx
    rw [t1.iint, t2.istr, t4.istr] at ht
    exact ⟨f, t, x3, rfl, rfl, ht, t3⟩
/-! ### the reckoning, turn by turn -/
abbrev Rec := Str × List Fl
def rD (r : Rec) : Str × PyData := (r.1, fieldsD r.2)
def mustKs (fs : List Fl) : List Kn := (fs.filter (·.must)).map (·.kd)
theorem mustKs_add (fs gs : List Fl) : mustKs (fs ++ gs) = mustKs fs ++ mustKs gs := by unfold mustKs; rw [List.filter_append, List.map_append]
theorem mustKs_len (fs : List Fl) : (mustKs fs).length ≤ fs.length := by unfold mustKs; rw [List.length_map]; exact List.length_filter_le _ _
def total (ps : List (Option Int)) : Option Int := if none ∈ ps then none else some ((ps.map fun o => fsz (o.getD 0)).sum)
def recSz (cs rs : List (Str × PyData)) (D : Szs) (fs : List Fl) : Option Int := total ((mustKs fs).map (kSz cs rs D))
def putS (D : Szs) (x : Str) : Option Int → Szs
  | none => D
  | some v => fun z => if z = x then some v else D z
def step (cs rs : List (Str × PyData)) (D : Szs) (r : Rec) : Szs := putS D r.1 (recSz cs rs D r.2)
def turn (cs rs : List (Str × PyData)) (recs : List Rec) (D : Szs) : Szs := recs.foldl (step cs rs) D
def turns (cs rs : List (Str × PyData)) (recs : List Rec) : Nat → Szs
  | 0 => fun _ => none
  | n + 1 => turn cs rs recs (turns cs rs recs n)
structure RecsOk (recs : List Rec) : Prop where
  len : recs.length ≤ 6
  fl : ∀ r ∈ recs, r.2.length ≤ 5
def NN (D : Szs) : Prop := ∀ z v, D z = some v → 0 ≤ v
theorem told_nn (n : Int) : 0 ≤ toldN n := by unfold toldN; split <;> decide
theorem fsz_nn {n : Int} (h : 0 ≤ n) : 0 ≤ fsz n := by have := told_nn n; unfold fsz; omega
theorem sum_nn : ∀ {l : List Int}, (∀ x ∈ l, 0 ≤ x) → 0 ≤ l.sum
  | [], _ => Int.le_refl _
  | x :: l, h => by
    rw [List.sum_cons]
    have h1 := h x List.mem_cons_self
    have h2 := sum_nn (l := l) fun y hy => h y (List.mem_cons_of_mem _ hy)
    omega
theorem kSz_nn {cs rs : List (Str × PyData)} {D : Szs} (h : NN D) {k : Kn} {v : Int} (e : kSz cs rs D k = some v) : 0 ≤ v := by
  unfold kSz at e
  split at e
  · cases e
  · split at e
    · cases e; decide
    · exact h _ _ e
    · cases e; decide
    · cases e; decide
theorem step_nn {cs rs : List (Str × PyData)} {D : Szs} (h : NN D) (r : Rec) : NN (step cs rs D r) := by
  unfold step recSz total
  split
  · exact h
  · intro z v e
    unfold putS at e
    dsimp only at e
    split at e
    · cases e
      refine sum_nn fun x hx => ?_
      obtain ⟨o, ho, rfl⟩ := List.mem_map.mp hx
      obtain ⟨k, _, ek⟩ := List.mem_map.mp ho
      cases o with
      | none => exact fsz_nn (Int.le_refl _)
      | some u => exact fsz_nn (kSz_nn h ek)
    · exact h z v e
theorem turn_nn {cs rs : List (Str × PyData)} : ∀ {recs : List Rec} {D : Szs}, NN D → NN (turn cs rs recs D)
  | [], _, h => h
  | r :: recs, D, h => turn_nn (recs := recs) (step_nn h r)
theorem turns_nn {cs rs : List (Str × PyData)} {recs : List Rec} : ∀ n, NN (turns cs rs recs n)
  | 0 => fun z v e => by cases e
  | n + 1 => turn_nn (turns_nn n)
theorem turn_next {cs rs : List (Str × PyData)} {recs : List Rec} {D : Szs} {i : Nat} {r : Rec} (h : recs[i]? = some r) : turn cs rs (recs.take (i + 1)) D = step cs rs (turn cs rs (recs.take i) D) r := by
  unfold turn
  rw [List.take_add_one, h, List.foldl_append]
  rfl
theorem non_in (ps : List (Option Int)) : inV V.non (ps.map optV) = decide (none ∈ ps) := by
  unfold inV
  induction ps with
  | nil => rfl
  | cons p r ih =>
    rw [List.map_cons, List.any_cons, ih]
    cases p with
    | none =>
      show (true || _) = _
      simp
    | some v =>
      show (false || _) = _
      simp
theorem flat_opts (ps : List (Option Int)) : (ps.map optV).all flatV = true := by
  rw [List.all_map, List.all_eq_true]
  intro o _
  cases o <;> rfl
theorem all_some {ps : List (Option Int)} (h : none ∉ ps) : ∃ ms : List Int, ps = ms.map some := by
  induction ps with
  | nil => exact ⟨[], rfl⟩
  | cons p r ih =>
    obtain ⟨ms, e⟩ := ih fun q => h (List.mem_cons_of_mem _ q)
    cases p with
    | none => exact absurd List.mem_cons_self h
    | some v => exact ⟨v :: ms, by rw [e]; rfl⟩
theorem dof_put {kvs : List (Key × V)} {D : Szs} (h : DOf kvs D) (x : Str) (v : Int) : DOf (putK kvs (.inr x) (.int v)) (putS D x (some v)) := by
  intro z
  unfold putS
  dsimp only
  rw [valV_put]
  by_cases e : z = x
  · subst e
    rw [if_pos rfl, if_pos rfl]
    rfl
  · rw [if_neg e, if_neg (fun q => e (by first | exact (Sum.inr.inj q) | exact (Sum.inr.inj q).symm))]
    exact h z
end Fh

set_option Elab.async false
set_option linter.all false
set_option maxRecDepth 100000
set_option maxHeartbeats 4000000
namespace Fh
open PySem L2 PyProof.Rows
abbrev sLSizes : Stmt := top 16
abbrev nLSizes : List Str := ["face", "sizes", "turn", "record", "fields", "parts", "number", "name", "kind", "need", "part"]
def spLSizes (C : Addr) : Sp := fun vs H Q _ => ∃ (a : Addr) (cs : List (Str × PyData)) (recs : List Rec), vs = [.ref a] ∧ FaceR C H a cs (recs.map rD) ∧ cs.length ≤ 100 ∧ Cs1 cs ∧ RecsOk recs ∧
  ∀ (d : Addr) (kvs : List (Key × V)) (H' : Hp), Same H H' → H d = none → H' d = some (.dK kvs) → DOf kvs (turns cs (recs.map rD) recs recs.length) → Q (.ref d) H'
section
variable {P : Program} {w : World} {K : PySem.W.Frag} {mg : Str → Option Value} {base : Heap}
theorem scLSizes : FnScope nLSizes ["face"] (defScope sLSizes) := ⟨rfl, rfl, rfl, by decide +kernel, rfl, by decide +kernel, by decide +kernel⟩
theorem recs_at {H : Hp} {xs : List V} {recs : List Rec} {i : Nat} {x : V} (q : TpAll H xs ((recs.map rD).map fun r => .tuple [.str r.1, r.2])) (e : xs[i]? = some x) :
    ∃ r t u, recs[i]? = some r ∧ x = .ref t ∧ H t = some (.tup [.str r.1, u]) ∧ Tp H u (fieldsD r.2) := by
  obtain ⟨r, t, u, hr, h1, h2, h3⟩ := rows_at q e
  rw [List.getElem?_map] at hr
  cases hr' : recs[i]? with
  | none => rw [hr'] at hr; cases hr
  | some r' =>
    rw [hr'] at hr
    cases hr
    exact ⟨r', t, u, rfl, h1, h2, h3⟩
theorem ok_lsizes {C f : Addr} {fd : FuncData} (F : Fun K "least_sizes" "least_sizes" sLSizes f fd) (G : Glb mg) (cl : Cls K C) (n4 : NoAttr K C "records") (DZ : Has P w K mg base "least_size" 4 ["face", "kind", "sizes"] (spLSize C)) (DS : Has P w K mg base "field_size" 3 ["size"] spFSize) : FnOk P w K mg base CX0 5 f fd ["face"] (spLSizes C) := by
  refine F.ok scLSizes (fun vs H Q E h => ?_) (fun cdv A outer s H vs Q E hr h => ?_)
  · obtain ⟨a, cs, recs, rfl, _⟩ := h
    rfl
  · obtain ⟨a, cs, recs, rfl, hF, lc, c1, ok, q⟩ := h
    have hr3 : Room 3 _ := hr.mono (by decide)
    have hu := hu_of hr
    refine ⟨_, pss_cons (ps_set (i := 1) scLSizes.nd rfl (Or.inr rfl) pe_dnewK)
      (pss_cons (ps_for PassesOwn.never rfl (pi_range1 rfl G.range (pa_cons (pe_callB call_len_seq (by rfl) G.len PySem.boot_len (pa_cons (pe_fld (pv 0) rfl) pa_nil)) pa_nil)) (pg_name (i := 2) scLSizes.nd rfl (Or.inl rfl))
        (pss_one (ps_for PassesOwn.never rfl (pi_tup (pe_fld (pv 0) rfl)) (pg_tup rfl (pgs_cons (pg_name (i := 3) scLSizes.nd rfl (.inl rfl)) (pgs_cons (pg_name (i := 4) scLSizes.nd rfl (.inl rfl)) pgs_nil)))
          (pss_cons (ps_setLc (i := 5) (own := [("number", 6), ("name", 7), ("kind", 8), ("need", 9)]) (g := gTup K 4 (gCons (gName 6) (gCons (gName 7) (gCons (gName 8) (gCons (gName 9) gNil))))) (te := tCall (spLSize C) [] E0 (tCons (tVar 0) (tCons (tVar 8) (tCons (tVar 1) tNil)))) rfl scLSizes.nd rfl rfl (sw_true rfl rfl rfl (by decide +kernel)) (pi_tup (pv 4)) (blkOk_by (N := nLSizes) (sc := defScope sLSizes) (by decide +kernel))
            (fun _ _ _ _ _ => pg_tup rfl (pgs_cons (pg_name (i := 6) scLSizes.nd rfl (.inl rfl)) (pgs_cons (pg_name (i := 7) scLSizes.nd rfl (.inl rfl)) (pgs_cons (pg_name (i := 8) scLSizes.nd rfl (.inl rfl)) (pgs_cons (pg_name (i := 9) scLSizes.nd rfl (.inl rfl)) pgs_nil))))) (fun _ _ _ _ _ => pts_one (pt_cmpR op_eq (pv 9) pe_str (nomark _))) (fun _ _ _ _ _ => pe_has DZ hr rfl (pa_cons (pv 0) (pa_cons (pv 8) (pa_cons (pv 1) pa_nil)))))
          (pss_one (ps_if (pt_cmpR op_notIn_seq pe_non (pv 5) rfl)
            (pss_one (ps_dput hu (pv 1) (pv 3) (pe_callB (cr_sum rfl) (by rfl) G.sum (by decide +kernel) (pa_cons (pe_lc (own := [("part", 10)]) (g := gName 10) (tt := tYes) (te := tCall spFSize [] E0 (tCons (tVar 10) tNil)) rfl scLSizes.nd (pi_list (pv 5)) (blkOk_by (N := nLSizes) (sc := defScope sLSizes) (by decide +kernel))
              (fun _ _ _ _ _ => pg_name (i := 10) scLSizes.nd rfl (Or.inl rfl)) (fun _ _ _ _ _ => pts_nil) (fun _ _ _ _ _ => pe_has DS hr3 rfl (pa_cons (pv 10) pa_nil))) pa_nil)) rfl)) pss_nil))))))
      (pss_one (ps_ret (pv 1)))), ?_⟩
    have ok6 := ok.len
    obtain ⟨dx, v1, v2, v3, v4, v5, hA, t3, t4⟩ := id hF
    obtain ⟨b, xs, rfl, hb, tq⟩ := TpR.inv t4
    have el : xs.length = recs.length := by rw [tq.length, List.length_map, List.length_map]
    intro d hd
    have S0 : Same H (upd H d (.dK [])) := Same.new hd
    refine ⟨_, rfl, a, C, dx, _, _, rfl, S0 _ _ hA, cl, n4, ff_records, b, _, rfl, .inr (.inl (Rd.same hb S0)), (xs.length : Int), rfl, by omega, by rw [el]; omega, ?_⟩
    rw [el]
    generalize hrs : recs.map rD = rs at *
    refine for_range (lo := 0) (n := recs.length) (fun t σ H3 => ∃ kvs, (∃ a2 a3 a4 a5 a6 a7 a8 a9 a10, σ = [some (.ref a), some (.ref d), a2, a3, a4, a5, a6, a7, a8, a9, a10]) ∧ Same H H3 ∧ H3 d = some (.dK kvs) ∧ kvs.length ≤ 6 * t ∧ DOf kvs (turns cs rs recs t)) ?_ ?_ ?_
    · exact ⟨[], ⟨_, _, _, _, _, _, _, _, _, rfl⟩, S0, upd_same, Nat.le_refl _, fun z => rfl⟩
    · rintro t σ H3 ht ⟨kvs0, ⟨a2, a3, a4, a5, a6, a7, a8, a9, a10, rfl⟩, S3, hd3, l3, D3⟩
      refine ⟨_, rfl, a, C, dx, _, _, rfl, S3 _ _ hA, cl, n4, ff_records, b, rfl, ⟨_, .inl (Rd.same hb S3)⟩, ?_⟩
      have N3 : NN (turns cs rs recs t) := turns_nn t
      have et : turns cs rs recs (t + 1) = turn cs rs recs (turns cs rs recs t) := rfl
      rw [et]
      generalize turns cs rs recs t = D0 at *
      refine for_tup (xs := xs) (fun i σ H4 => ∃ kvs, (∃ a3 a4 a5 a6 a7 a8 a9 a10, σ = [some (.ref a), some (.ref d), some (.int (0 + (t : Int))), a3, a4, a5, a6, a7, a8, a9, a10]) ∧ Same H H4 ∧ H4 d = some (.dK kvs) ∧ kvs.length ≤ 6 * t + i ∧ DOf kvs (turn cs rs (recs.take i) D0)) ?_ ?_ ?_ ?_
      · exact ⟨kvs0, ⟨_, _, _, _, _, _, _, _, rfl⟩, S3, hd3, l3, D3⟩
      · rintro i σ H4 _ ⟨kvs, _, S4, _⟩
        exact .inl (Rd.same hb S4)
      · rintro i x σ H4 hx ⟨kvs, ⟨a3, a4, a5, a6, a7, a8, a9, a10, rfl⟩, S4, hd4, l4, D4⟩
        obtain ⟨r, tp, u, hr', rfl, htp, tu⟩ := recs_at (by rw [hrs]; exact tq) hx
        rw [turn_next hr']
        have N4 : NN (turn cs rs (recs.take i) D0) := turn_nn N3
        generalize turn cs rs (recs.take i) D0 = D1 at *
        have hi : i < 6 := by
          have := (List.getElem?_eq_some_iff.mp hr').1
          omega
        have lf := ok.fl r (List.mem_of_getElem? hr')
        refine ⟨tp, _, rfl, SqT.of (S4 _ _ htp), rfl, _, _, rfl, _, _, rfl, rfl, ?_⟩
        obtain ⟨c, ys, rfl, hc, tys⟩ := Tp.inv tu
        refine ⟨_, rfl, c, rfl, ⟨_, SqT.of (S4 _ _ hc)⟩, fun D hD => ?_⟩
        have ly : ys.length = r.2.length := by rw [tys.length, List.length_map]
        have hDn : H D = none := Same.free S4 hD
        refine lc_tup (xs := ys) (fun j H5 => Same H4 H5 ∧ H5 D = some (.lst (((mustKs (r.2.take j)).map (kSz cs rs D1)).map optV))) ?_ ?_ ?_ ?_
        · exact ⟨Same.new hD, upd_same⟩
        · rintro j H5 _ ⟨S5, _⟩
          exact SqT.of (S5 _ _ (S4 _ _ hc))
        · rintro j y H5 hy ⟨S5, h5⟩
          obtain ⟨f2, t2, u2, hf2, rfl, ht2, tu2⟩ := flds_at (fs := r.2) tys hy
          have S45 : Same H H5 := fun b o e => S5 b o (S4 b o e)
          have hj : j < 5 := by
            have := (List.getElem?_eq_some_iff.mp hf2).1
            omega
          have en : mustKs (r.2.take (j + 1)) = mustKs (r.2.take j) ++ mustKs [f2] := by
            rw [List.take_add_one, hf2, mustKs_add]
            rfl
          refine ⟨t2, _, rfl, SqT.of (S45 _ _ ht2), rfl, _, _, rfl, _, _, rfl, _, _, rfl, _, _, rfl, rfl, rfl, ?_⟩
          refine ⟨_, rfl, rfl, _, rfl, ?_⟩
          rw [need_must]
          cases hmu : f2.must with
          | false =>
            refine iteF ⟨S5, ?_⟩
            rw [en]
            have e0 : mustKs [f2] = [] := by unfold mustKs; rw [List.filter_cons, hmu]; rfl
            rw [e0, List.append_nil]
            exact h5
          | true =>
            refine iteT ?_
            have e0 : mustKs [f2] = [f2.kd] := by unfold mustKs; rw [List.filter_cons, hmu]; rfl
            refine ⟨_, rfl, _, rfl, _, rfl, a, d, u2, f2.kd, cs, rs, kvs, D1, rfl, hF.same S45, lc, (by rw [← hrs, List.length_map]; omega), Tp.keep (Same.tk S45) _ _ tu2, c1, S5 _ _ hd4, D4, fun H6 S6 => ?_⟩
            refine ⟨_, S6 _ _ h5, ?_, Same.wr (fun b o e => S6 b o (S5 b o e)) hD, ?_⟩
            · rw [List.length_map, List.length_map]
              have l1 := mustKs_len (r.2.take j)
              rw [List.length_take] at l1
              exact Nat.lt_of_le_of_lt (Nat.le_trans l1 (Nat.min_le_left _ _)) (Nat.lt_of_lt_of_le hj (by decide))
            · rw [upd_same, en, e0, List.map_append, List.map_append]
              rfl
        · rintro H5 ⟨S5, h5⟩
          rw [ly, List.take_length] at h5
          have S45 : Same H H5 := fun b o e => S5 b o (S4 b o e)
          have es : step cs rs D1 r = putS D1 r.1 (total ((mustKs r.2).map (kSz cs rs D1))) := rfl
          rw [es]
          have lp : ((mustKs r.2).map (kSz cs rs D1)).length ≤ 5 := by rw [List.length_map]; exact Nat.le_trans (mustKs_len _) lf
          have pn : ∀ o ∈ (mustKs r.2).map (kSz cs rs D1), ∀ v, o = some v → 0 ≤ v := fun o ho v e => by
            obtain ⟨k, _, ek⟩ := List.mem_map.mp ho
            exact kSz_nn N4 (ek.trans e)
          generalize (mustKs r.2).map (kSz cs rs D1) = ps at *
          refine ⟨_, rfl, D, _, rfl, .inl (SqL.of h5), rfl, flat_opts ps, _, rfl, ?_⟩
          show if (!inV V.non (ps.map optV)) = true then _ else _
          rw [non_in]
          by_cases hno : none ∈ ps
          · rw [decide_eq_true hno]
            have e1 : total ps = none := if_pos hno
            rw [e1]
            exact iteF ⟨kvs, ⟨_, _, _, _, _, _, _, _, rfl⟩, S45, S5 _ _ hd4, by omega, D4⟩
          · rw [decide_eq_false hno]
            refine iteT ?_
            have e1 : total ps = some ((ps.map fun o => fsz (o.getD 0)).sum) := if_neg hno
            rw [e1]
            obtain ⟨ms, rfl⟩ := all_some hno
            have e2 : (ms.map some).map optV = ms.map V.int := by rw [List.map_map]; rfl
            have e3 : (ms.map some).map (fun o => fsz (o.getD 0)) = ms.map fsz := by rw [List.map_map]; rfl
            rw [e3]
            rw [e2] at h5
            rw [List.length_map] at lp
            refine ⟨_, rfl, D, rfl, ⟨_, SqL.of h5⟩, fun D2 hD2 => ?_⟩
            refine lc_list (xs := ms.map V.int) (fun j H6 => Same H5 H6 ∧ H6 D2 = some (.lst (((ms.take j).map fsz).map V.int))) ?_ ?_ ?_ ?_
            · exact ⟨Same.new hD2, upd_same⟩
            · rintro j H6 _ ⟨S6, _⟩
              exact SqL.of (S6 _ _ h5)
            · rintro j y H6 hy ⟨S6, h6⟩
              rw [List.getElem?_map] at hy
              cases hmj : ms[j]? with
              | none => rw [hmj] at hy; cases hy
              | some mj =>
                rw [hmj] at hy
                cases hy
                have hjl := (List.getElem?_eq_some_iff.mp hmj).1
                have m0 : 0 ≤ mj := pn (some mj) (List.mem_map.mpr ⟨mj, List.mem_of_getElem? hmj, rfl⟩) mj rfl
                refine ⟨rfl, yes (iteT ?_)⟩
                refine ⟨_, rfl, mj, rfl, m0, fun H7 S7 => ?_⟩
                refine ⟨_, S7 _ _ h6, ?_, Same.wr (fun b o e => S7 b o (S6 b o e)) hD2, ?_⟩
                · rw [List.length_map, List.length_map, List.length_take]
                  exact Nat.lt_of_le_of_lt (Nat.min_le_left _ _) (Nat.lt_of_lt_of_le (show j < 5 by omega) (by decide))
                · rw [upd_same, List.take_add_one, hmj, List.map_append, List.map_append]
                  rfl
            · rintro H6 ⟨S6, h6⟩
              rw [List.length_map, List.take_length] at h6
              have S46 : Same H H6 := fun b o e => S6 b o (S45 b o e)
              have hd6 : H6 d = some (.dK kvs) := S6 _ _ (S5 _ _ hd4)
              refine ⟨D2, ms.map fsz, rfl, SqL.of h6, _, rfl, _, rfl, d, _, rfl, DPut.k (k := Sum.inr r.1) hd6 (Nat.lt_of_le_of_lt l4 (Nat.lt_of_lt_of_le (show 6 * t + i < 100 by omega) (by decide))), ?_⟩
              exact ⟨_, ⟨_, _, _, _, _, _, _, _, rfl⟩, Same.wr S46 hd, upd_same, Nat.le_trans (length_putK _ _ _) (by omega), dof_put D4 r.1 _⟩
      · rintro σ H4 ⟨kvs, ⟨a3, a4, a5, a6, a7, a8, a9, a10, rfl⟩, S4, hd4, l4, D4⟩
        rw [el, List.take_length] at D4
        exact ⟨kvs, ⟨_, _, _, _, _, _, _, _, _, rfl⟩, S4, hd4, by omega, D4⟩
    · rintro σ H3 ⟨kvs, ⟨a2, a3, a4, a5, a6, a7, a8, a9, a10, rfl⟩, S3, hd3, l3, D3⟩
      exact ⟨_, rfl, q d kvs H3 S3 hd hd3 D3⟩
end
end Fh

set_option Elab.async false
set_option linter.all false
set_option maxRecDepth 100000
set_option maxHeartbeats 4000000
namespace Fh
open PySem PySem.Spec PyProof.Rows L2
/-! ### sets whose elements are tuples of ints and texts -/
section
variable {P : Program} {w : World} {A : Around} {E : Value → Shared → Prop} {s : Shared}
/-- the tuple at x has these parts -/
abbrev TK (P : Program) (w : World) (h : Heap) (k : List Key) (x : Addr) : Prop := IsTupleKey (mixKind P w) h k x
abbrev kh (P : Program) (w : World) (k : List Key) : Int := tupleKeyHash (mixKind P w) k
theorem parts_shape {k : List Key} {vs : List Value} (h : PySem.ItemsAre (mixKind P w) k vs) : ∀ v ∈ vs, (∃ i t, v = Value.int i t) ∨ ∃ x t, v = Value.str x t := by
  induction h with
  | nil => intro v hv; cases hv
  | cons h1 _ ih =>
    intro v hv
    rcases List.mem_cons.mp hv with e | hv
    · rcases keyIs_shape h1 with ⟨i, t, _, e2⟩ | ⟨x, t, _, e2⟩
      · exact .inl ⟨i, t, e.trans e2⟩
      · exact .inr ⟨x, t, e.trans e2⟩
    · exact ih v hv
theorem noClass {v : Value} (h : (∃ i t, v = Value.int i t) ∨ ∃ x t, v = Value.str x t) (n : Nat) : ofAClassStatement n v = pure false := by
  rcases h with ⟨i, t, rfl⟩ | ⟨x, t, rfl⟩ <;> cases n <;> rfl
theorem byVal {v : Value} (h : (∃ i t, v = Value.int i t) ∨ ∃ x t, v = Value.str x t) (n : Nat) : ∃ b, hashByValue n v = pure b := by
  rcases h with ⟨i, t, rfl⟩ | ⟨x, t, rfl⟩
  · exact ⟨true, by cases n <;> rfl⟩
  · exact ⟨false, by cases n <;> rfl⟩
/-- whether a tuple's hash is by value: some answer -/
theorem byVal_tup {k : List Key} {b : Addr} {Q : Bool → Shared → Prop} (hk : TK P w s.heap k b) (h : ∀ r, Q r s) : wpAny (model P w) A (hashByValue 8 (.ref b)) Q E s := by
  have ty := hk.typeIs
  obtain ⟨o, its, n, ho, _, hd, hi⟩ := hk
  have sh := parts_shape hi
  unfold hashByValue
  refine wpAny_bind (wpAny_specialOf ty F.slot_tuple_hash.lookup ?_)
  refine wpAny_bind (m := seqItems? (.ref b)) (wpAny_seqItems ho hd ?_)
  refine wpAny_bind ?_
  show wpAny _ _ (forIn its _ _) _ _ s
  rw [← Array.forIn_toList]
  refine wpAny_forIn_list _ (fun rest r s' => s' = s ∧ ∀ v ∈ rest, (∃ i t, v = Value.int i t) ∨ ∃ x t, v = Value.str x t) _ ?_ ?_ _ _ ⟨rfl, sh⟩
  · rintro v rest r s' ⟨rfl, all⟩
    obtain ⟨q, hq⟩ := byVal (all v List.mem_cons_self) 7
    rw [hq]
    refine wpAny_bind (wpAny_pure ?_)
    cases q with
    | false =>
      simp only [Bool.not_false, if_true]
      exact wpAny_pure (wpAny_pure (h false))
    | true =>
      simp only [Bool.not_true, Bool.false_eq_true, if_false]
      exact wpAny_pure ⟨rfl, fun u hu => all u (List.mem_cons_of_mem _ hu)⟩
  · rintro ⟨r1, r2⟩ s' ⟨rfl, _⟩
    cases r1 with
    | none => exact wpAny_pure (h _)
    | some q => exact wpAny_pure (h _)
/-- a tuple has no part of a class statement -/
theorem class_tup {k : List Key} {b : Addr} {Q : Bool → Shared → Prop} (hk : TK P w s.heap k b) (h : Q false s) : wpAny (model P w) A (ofAClassStatement 8 (.ref b)) Q E s := by
  have ty := hk.typeIs
  obtain ⟨o, its, n, ho, _, hd, hi⟩ := hk
  have sh := parts_shape hi
  have e : (("tuple" : String) == "tuple") = true := by decide
  unfold ofAClassStatement
  refine wpAny_bind (wpAny_typeOf ty ?_)
  simp only [e, if_true]
  try refine wpAny_bind (wpAny_pure ?_)
  simp only [Bool.not_true, Bool.false_eq_true, if_false]
  refine wpAny_bind (m := seqItems? (.ref b)) (wpAny_seqItems ho hd ?_)
  dsimp only
  refine wpAny_bind ?_
  show wpAny _ _ (forIn its _ _) _ _ s
  rw [← Array.forIn_toList]
  refine wpAny_forIn_list _ (fun rest r s' => r.1 = none ∧ s' = s ∧ ∀ v ∈ rest, (∃ i t, v = Value.int i t) ∨ ∃ x t, v = Value.str x t) _ ?_ ?_ _ _ ⟨rfl, rfl, sh⟩
  · rintro v rest r s' ⟨_, rfl, all⟩
    rw [noClass (all v List.mem_cons_self)]
    refine wpAny_bind (wpAny_pure ?_)
    simp only [Bool.false_eq_true, if_false]
    exact wpAny_pure ⟨rfl, rfl, fun u hu => all u (List.mem_cons_of_mem _ hu)⟩
  · rintro ⟨r1, r2⟩ s' ⟨hr, rfl, _⟩
    cases r1 with
    | none => exact wpAny_pure h
    | some q => cases hr
/-- nobody sees a search among tuples -/
theorem unseen {k : List Key} {b : Addr} {Q : Bool → Shared → Prop} (hk : TK P w s.heap k b) (h : Q false s) : ∀ {ys : List Value}, (∀ y ∈ ys, ∃ k' c, y = Value.ref c ∧ TK P w s.heap k' c) →
    wpAny (model P w) A (searchCouldBeSeen (.ref b) ys) Q E s := by
  intro ys hy
  unfold searchCouldBeSeen
  refine wpAny_bind (wpAny_forIn_list _ (fun rest r s' => r.1 = none ∧ s' = s ∧ ∀ y ∈ rest, ∃ k' c, y = Value.ref c ∧ TK P w s.heap k' c) _ ?_ ?_ _ _ ⟨rfl, rfl, hy⟩)
  · rintro v rest r s' ⟨_, rfl, all⟩
    obtain ⟨k', c, rfl, hc⟩ := all v List.mem_cons_self
    have go : wpAny (model P w) A (pure (ForInStep.yield (none, ()))) (fun r s1 => match r with
        | ForInStep.yield b' => b'.1 = none ∧ s1 = s' ∧ ∀ y ∈ rest, ∃ k' c, y = Value.ref c ∧ TK P w s'.heap k' c
        | ForInStep.done b' => wpAny (model P w) A (match b'.1 with | some r => pure r | none => pure false) Q E s1) E s' := wpAny_pure ⟨rfl, rfl, fun u hu => all u (List.mem_cons_of_mem _ hu)⟩
    dsimp only
    split
    · exact go
    · refine wpAny_bind (wpAny_eqIsQuiet_tuple hk ?_)
      simp only [Bool.not_true, Bool.false_eq_true, if_false]
      refine wpAny_bind (wpAny_eqIsQuiet_tuple hc ?_)
      simp only [Bool.not_true, Bool.false_eq_true, if_false]
      refine wpAny_bind (class_tup hk ?_)
      simp only [Bool.false_eq_true, if_false]
      refine wpAny_bind (class_tup hc ?_)
      simp only [Bool.false_eq_true, if_false]
      exact go
  · rintro ⟨r1, r2⟩ s' ⟨hr, rfl, _⟩
    cases r1 with
    | none => exact wpAny_pure h
    | some q => cases hr
end
end Fh

set_option Elab.async false
set_option linter.all false
set_option maxRecDepth 100000
set_option maxHeartbeats 4000000
namespace Fh
open PySem PySem.Spec PyProof.Rows L2
/-! ### tables of up to 512 slots -/
def MaskW (m : Nat) : Prop := m = 7 ∨ m = 31 ∨ m = 127 ∨ m = 511
theorem maskW_odd {m : Nat} (h : MaskW m) : m % 2 = 1 := by rcases h with rfl | rfl | rfl | rfl <;> rfl
/-- n numbers below n take n places -/
theorem pigeon : ∀ {n : Nat} {ps : List Nat}, (∀ j, j < n → j ∈ ps) → n ≤ ps.length
  | 0, _, _ => Nat.zero_le _
  | n + 1, ps, h => by
    have m := h n (Nat.lt_succ_self n)
    have ih := pigeon (n := n) (ps := ps.erase n) fun j hj => (List.mem_erase_of_ne (by omega)).mpr (h j (by omega))
    have l := List.length_erase_of_mem m
    have := List.length_pos_of_mem m
    omega
theorem pigeon_nd : ∀ {js ps : List Nat}, js.Nodup → (∀ j ∈ js, j ∈ ps) → js.length ≤ ps.length
  | [], _, _, _ => Nat.zero_le _
  | j :: js, ps, nd, h => by
    have m := h j List.mem_cons_self
    obtain ⟨n1, n2⟩ := List.nodup_cons.mp nd
    have ih := pigeon_nd (ps := ps.erase j) n2 fun x hx => (List.mem_erase_of_ne (fun e => n1 (by rw [← e]; exact hx))).mpr (h x (List.mem_cons_of_mem _ hx))
    have l := List.length_erase_of_mem m
    have := List.length_pos_of_mem m
    rw [List.length_cons]
    omega
theorem perm_range : ∀ {n : Nat} {ks : List Nat}, ks.length = n → (∀ j, j < n → j ∈ ks) → ks.Perm (List.range n)
  | 0, ks, l, _ => by
    rw [List.eq_nil_of_length_eq_zero l]
    exact .refl _
  | n + 1, ks, l, h => by
    have m := h n (Nat.lt_succ_self n)
    have ih := perm_range (n := n) (ks := ks.erase n) (by rw [List.length_erase_of_mem m]; omega) fun j hj => (List.mem_erase_of_ne (by omega)).mpr (h j (by omega))
    rw [List.range_succ]
    exact (List.perm_cons_erase m).trans ((ih.cons n).trans (List.perm_append_comm (l₁ := [n])))
/-! ### every slot is met -/
def orb : Nat → Nat → List Nat
  | 0, _ => []
  | n + 1, x => x :: orb n ((x * 5 + 1) % 512)
theorem lcgI_add (m i : Nat) : ∀ a k, lcgI m (lcgI m i a) k = lcgI m i (a + k) := by
  intro a k
  induction k with
  | zero => rfl
  | succ k ih =>
    show (lcgI m (lcgI m i a) k * 5 + 1) % (m + 1) = (lcgI m i (a + k) * 5 + 1) % (m + 1)
    rw [ih]
theorem orb_at : ∀ (n a j : Nat), j ∈ orb n (lcgI 511 0 a) → ∃ c, c < a + n ∧ lcgI 511 0 c = j
  | 0, a, j, h => by cases h
  | n + 1, a, j, h => by
    rcases List.mem_cons.mp h with e | h
    · exact ⟨a, by omega, e.symm⟩
    · obtain ⟨c, h1, h2⟩ := orb_at n (a + 1) j h
      exact ⟨c, by omega, h2⟩
theorem orb_all : (List.range 512).all (fun j => (orb 512 0).contains j) = true := by decide +kernel
theorem lcg512 {j : Nat} (h : j ≤ 511) : ∃ c, c ≤ 511 ∧ lcgI 511 0 c = j := by
  have := List.all_eq_true.mp orb_all j (List.mem_range.mpr (by omega))
  obtain ⟨c, h1, h2⟩ := orb_at 512 0 j (List.contains_iff_mem.mp this)
  exact ⟨c, by omega, h2⟩
theorem lcg_turn : lcgI 511 0 512 = 0 := by decide +kernel
theorem lcg_meets {i j : Nat} (hi : i ≤ 511) (hj : j ≤ 511) : ∃ k, k ≤ 511 ∧ lcgI 511 i k = j := by
  obtain ⟨a, a1, rfl⟩ := lcg512 hi
  obtain ⟨c, c1, rfl⟩ := lcg512 hj
  by_cases h : a ≤ c
  · exact ⟨c - a, by omega, by rw [lcgI_add, show a + (c - a) = c by omega]⟩
  · refine ⟨512 + c - a, by omega, ?_⟩
    rw [lcgI_add, show a + (512 + c - a) = 512 + c by omega, ← lcgI_add, lcg_turn]
theorem run_meetsW {m : Nat} (hm : MaskW m) (h : Int) {j : Nat} (hj : j ≤ m) : ∃ n, n ≤ m + 12 ∧ runI m (SetTable.bits h) n = j := by
  rcases hm with rfl | rfl | rfl | rfl
  · exact run_meets (.inl rfl) h hj
  · exact run_meets (.inr (.inl rfl)) h hj
  · exact run_meets (.inr (.inr rfl)) h hj
  · obtain ⟨k, k1, k2⟩ := lcg_meets (runI_le 511 (SetTable.bits h) 12) hj
    exact ⟨12 + k, by omega, by rw [runI_tail (bits_lt h), k2]⟩
theorem nth_meetsW {m : Nat} (hm : MaskW m) (h : Int) {j : Nat} (hj : j ≤ m) : ∃ k, k < 10 * SetTable.turns m ∧ way m h k = j := by
  obtain ⟨n, n1, n2⟩ := run_meetsW hm h hj
  obtain ⟨k, k1, k2⟩ := run_nth m (SetTable.bits h) n
  refine ⟨k, ?_, ?_⟩
  · unfold SetTable.turns
    omega
  · show (nth m (runAt m (SetTable.bits h % (m + 1)) (SetTable.bits h)) k).j = j
    rw [k2]
    exact n2
theorem way_leW (m : Nat) (h : Int) (k : Nat) : way m h k ≤ m := by
  have a : SetTable.bits h % (m + 1) ≤ m := by
    have := Nat.mod_lt (SetTable.bits h) (show m + 1 > 0 by omega)
    omega
  have := nth_in (m := m) k (runAt m (SetTable.bits h % (m + 1)) (SetTable.bits h)) (by
    show SetTable.bits h % (m + 1) + (SetTable.runEnd m (SetTable.bits h % (m + 1)) - SetTable.bits h % (m + 1)) ≤ m
    unfold SetTable.runEnd
    split <;> omega)
  show (nth m (runAt m (SetTable.bits h % (m + 1)) (SetTable.bits h)) k).j ≤ m
  omega
/-- the least of what there is -/
theorem least {p : Nat → Prop} [DecidablePred p] : ∀ {n : Nat}, p n → ∃ k, k ≤ n ∧ p k ∧ ∀ i, i < k → ¬ p i := fun {n} => by
  induction n using Nat.strongRecOn with
  | _ n ih =>
    intro hn
    by_cases h : ∃ i, i < n ∧ p i
    · obtain ⟨i, h1, h2⟩ := h
      obtain ⟨k, k1, k2, k3⟩ := ih i h1 h2
      exact ⟨k, by omega, k2, k3⟩
    · exact ⟨n, Nat.le_refl _, hn, fun i hi q => h ⟨i, hi, q⟩⟩
/-! ### laying anew -/
theorem free_findW {m : Nat} (hm : MaskW m) (owner : Array (Option Nat)) (h : Int) {j : Nat} (hj : j ≤ m) (ho : oAt owner j = none) :
    ∃ K, SetTable.layClean.free m owner (SetTable.turns m) (SetTable.bits h % (m + 1)) (SetTable.bits h) = some (way m h K) ∧ oAt owner (way m h K) = none ∧ ∀ k, k < K → oAt owner (way m h k) ≠ none := by
  obtain ⟨n, n1, n2⟩ := run_meetsW hm h hj
  have at_ : way m h (off m (SetTable.bits h % (m + 1)) (SetTable.bits h) n) = j := by
    show (nth m (runAt m (SetTable.bits h % (m + 1)) (SetTable.bits h)) _).j = j
    rw [nth_off, itL_run]
    exact n2
  obtain ⟨K, K1, K2, K3⟩ := least (p := fun k => (oAt owner (way m h k)).isNone = true) (n := off m (SetTable.bits h % (m + 1)) (SetTable.bits h) n) (by rw [at_, ho]; rfl)
  refine ⟨K, free_spec m owner (SetTable.turns m) n _ _ K (by unfold SetTable.turns; omega) K1 (fun k hk => ?_) K2, Option.isNone_iff_eq_none.mp K2, fun k hk e => K3 k hk (by rw [e]; rfl)⟩
  have := K3 k hk
  exact Bool.not_eq_true _ ▸ this
theorem ownW {m : Nat} (hm : MaskW m) {done : List Int} {owner : Array (Option Nat)} (O : Own m done owner) (hl : done.length ≤ m) (h : Int) :
    ∃ j, SetTable.layClean.free m owner (SetTable.turns m) (SetTable.bits h % (m + 1)) (SetTable.bits h) = some j ∧ Own m (done ++ [h]) (owner.setIfInBounds j (some done.length)) := by
  obtain ⟨ps, p1, p2⟩ := O.ps
  obtain ⟨j0, j1, j2⟩ : ∃ j, j ≤ m ∧ oAt owner j = none := Classical.byContradiction fun no => by
    have : m + 1 ≤ ps.length := pigeon fun j hj => p2 j (by omega) fun e => no ⟨j, by omega, e⟩
    omega
  obtain ⟨K, f, e, b⟩ := free_findW hm owner h j1 j2
  have wl := way_leW m h K
  have lt : way m h K < owner.size := by rw [O.sz]; omega
  refine ⟨_, f, ⟨by rw [Array.size_setIfInBounds]; exact O.sz, fun j k hj ho => ?_, fun k hk => ?_, ⟨ps ++ [way m h K], by rw [List.length_append, List.length_append, p1]; rfl, fun j hj ho => ?_⟩⟩⟩
  · by_cases c : j = way m h K
    · rw [c, oAt_set_self _ lt] at ho
      have ek := Option.some.inj ho
      refine ⟨h, K, ?_, c.symm, fun k' hk' => ?_⟩
      · rw [← ek, List.getElem?_append_right (Nat.le_refl _), Nat.sub_self]
        rfl
      · by_cases c2 : way m h k' = way m h K
        · exact absurd (show oAt owner (way m h k') = none by rw [c2]; exact e) (b k' hk')
        · rw [oAt_set_ne _ c2]
          exact b k' hk'
    · rw [oAt_set_ne _ c] at ho
      obtain ⟨h', K', a1, a2, a3⟩ := O.at_ j k hj ho
      refine ⟨h', K', ?_, a2, fun k' hk' => ?_⟩
      · rw [List.getElem?_append_left (List.getElem?_eq_some_iff.mp a1).1]
        exact a1
      · by_cases c2 : way m h' k' = way m h K
        · rw [c2, oAt_set_self _ lt]
          exact Option.some_ne_none _
        · rw [oAt_set_ne _ c2]
          exact a3 k' hk'
  · rw [List.length_append] at hk
    have hk : k < done.length + 1 := hk
    by_cases c : k = done.length
    · exact ⟨_, wl, by rw [oAt_set_self _ lt, c]⟩
    · obtain ⟨j, h1, h2⟩ := O.all k (by omega)
      refine ⟨j, h1, ?_⟩
      rw [oAt_set_ne _ fun c2 => by rw [c2, e] at h2; cases h2]
      exact h2
  · by_cases c : j = way m h K
    · exact List.mem_append_right _ (List.mem_singleton.mpr c)
    · rw [oAt_set_ne _ c] at ho
      exact List.mem_append_left _ (p2 j hj ho)
theorem foldW {m : Nat} (hm : MaskW m) : ∀ (rest done : List Int) (owner : Array (Option Nat)), Own m done owner → done.length + rest.length ≤ m → ∃ owner', List.foldl (stepF m) (some (owner, done.length)) rest = some (owner', (done ++ rest).length) ∧ Own m (done ++ rest) owner'
  | [], done, owner, O, _ => ⟨owner, by rw [List.append_nil]; rfl, by rw [List.append_nil]; exact O⟩
  | h :: rest, done, owner, O, l => by
    rw [List.length_cons] at l
    obtain ⟨j, f, O'⟩ := ownW hm O (by omega) h
    rw [List.foldl_cons, stepF_some f]
    have ih := foldW hm rest (done ++ [h]) _ O' (by rw [List.length_append]; show done.length + 1 + rest.length ≤ m; omega)
    rw [List.length_append, List.append_assoc] at ih
    exact ih
theorem layW {m : Nat} (hm : MaskW m) {hs : Array Int} (l : hs.size ≤ m) : ∃ owner, SetTable.layClean m hs = some owner ∧ Own m hs.toList owner := by
  obtain ⟨owner, h1, h2⟩ := foldW hm hs.toList [] _ (Own.init m) (by show 0 + hs.toList.length ≤ m; rw [Array.length_toList]; omega)
  refine ⟨owner, ?_, h2⟩
  rw [layClean_eq]
  have h1 : List.foldl (stepF m) (some (Array.replicate (m + 1) none, 0)) hs.toList = some (owner, hs.toList.length) := h1
  rw [h1]
  rfl
/-! ### a table and the hashes that lie in it -/
structure TabW (t : SetTable) (hs : List Int) : Prop where
  ris : Ris t.place.toList
  dm : t.dummies = #[]
  sz : t.place.size = hs.length
  mok : MaskW t.mask
  bd : ∀ x, x ∈ t.place.toList → x ≤ t.mask
  reach : ∀ (i : Nat) (h : Int) (j : Nat), hs[i]? = some h → t.place.toList[i]? = some j → ∃ k, way t.mask h k = j ∧ ∀ k', k' < k → way t.mask h k' ∈ t.place.toList
section
variable {t : SetTable} {hs : List Int}
theorem TabW.first (T : TabW t hs) (l : hs.length ≤ t.mask) (h : Int) : ∃ K, K < 10 * SetTable.turns t.mask ∧ ¬ way t.mask h K ∈ t.place.toList ∧ ∀ k, k < K → way t.mask h k ∈ t.place.toList := by
  obtain ⟨j, j1, j2⟩ : ∃ j, j ≤ t.mask ∧ j ∉ t.place.toList := Classical.byContradiction fun no => by
    have : t.mask + 1 ≤ t.place.toList.length := pigeon fun j hj => Classical.byContradiction fun q => no ⟨j, by omega, q⟩
    rw [Array.length_toList, T.sz] at this
    omega
  obtain ⟨n, n1, n2⟩ := nth_meetsW T.mok h j1
  obtain ⟨K, K1, K2, K3⟩ := least (p := fun k => way t.mask h k ∉ t.place.toList) (n := n) (by rw [n2]; exact j2)
  exact ⟨K, by omega, K2, fun k hk => Classical.byContradiction fun q => K3 k hk q⟩
theorem TabW.before (T : TabW t hs) {h : Int} {K i j : Nat} (hK : ¬ way t.mask h K ∈ t.place.toList) (hi : hs[i]? = some h) (hj : t.place.toList[i]? = some j) : ∃ k, k < K ∧ way t.mask h k = j := by
  obtain ⟨k, e, b⟩ := T.reach i h j hi hj
  refine ⟨k, Nat.lt_of_not_le fun le => ?_, e⟩
  rcases Nat.lt_or_eq_of_le le with lt | eq
  · exact hK (b K lt)
  · rw [eq, e] at hK
    exact hK (List.mem_of_getElem? hj)
theorem ins_mem {α : Type} (l : List α) (p : Nat) (x y : α) : y ∈ l.take p ++ x :: l.drop p ↔ y = x ∨ y ∈ l := by
  constructor
  · intro h
    rcases List.mem_append.mp h with h | h
    · exact .inr (List.mem_of_mem_take h)
    · rcases List.mem_cons.mp h with h | h
      · exact .inl h
      · exact .inr (List.mem_of_mem_drop h)
  · rintro (rfl | h)
    · exact List.mem_append_right _ List.mem_cons_self
    · rw [← List.take_append_drop p l] at h
      rcases List.mem_append.mp h with h | h
      · exact List.mem_append_left _ h
      · exact List.mem_append_right _ (List.mem_cons_of_mem _ h)
/-- what stands at a place after one is put in: the new one, or the two lists tell of the same -/
theorem ins_at {α β : Type} {l : List α} {r : List β} (e : l.length = r.length) {p : Nat} (hp : p ≤ l.length) {x a : α} {y b : β} {i : Nat} (h1 : (l.take p ++ x :: l.drop p)[i]? = some a) (h2 : (r.take p ++ y :: r.drop p)[i]? = some b) :
    (a = x ∧ b = y) ∨ ∃ j : Nat, l[j]? = some a ∧ r[j]? = some b := by
  have l1 : (l.take p).length = p := by rw [List.length_take]; omega
  have l2 : (r.take p).length = p := by rw [List.length_take]; omega
  rcases Nat.lt_trichotomy i p with c | c | c
  · rw [List.getElem?_append_left (by omega), List.getElem?_take, if_pos c] at h1 h2
    exact .inr ⟨i, h1, h2⟩
  · rw [List.getElem?_append_right (by omega), l1, c, Nat.sub_self] at h1
    rw [List.getElem?_append_right (by omega), l2, c, Nat.sub_self] at h2
    exact .inl ⟨(Option.some.inj h1).symm, (Option.some.inj h2).symm⟩
  · obtain ⟨d, rfl⟩ : ∃ d, i = p + 1 + d := ⟨i - (p + 1), by omega⟩
    rw [List.getElem?_append_right (by omega), l1, show p + 1 + d - p = d + 1 by omega, List.getElem?_cons_succ, List.getElem?_drop] at h1
    rw [List.getElem?_append_right (by omega), l2, show p + 1 + d - p = d + 1 by omega, List.getElem?_cons_succ, List.getElem?_drop] at h2
    exact .inr ⟨p + d, h1, h2⟩
theorem TabW.put (T : TabW t hs) {h : Int} {K : Nat} (hK : ¬ way t.mask h K ∈ t.place.toList) (hb : ∀ k, k < K → way t.mask h k ∈ t.place.toList) :
    (t.put (way t.mask h K)).2 = SetTable.below t.place (way t.mask h K) ∧ SetTable.below t.place (way t.mask h K) ≤ hs.length ∧
      TabW (t.put (way t.mask h K)).1 (hs.take (SetTable.below t.place (way t.mask h K)) ++ h :: hs.drop (SetTable.below t.place (way t.mask h K))) ∧
      (t.put (way t.mask h K)).1.mask = t.mask ∧ (t.put (way t.mask h K)).1.led = t.led ∧ (t.put (way t.mask h K)).1.plain = t.plain ∧ (t.put (way t.mask h K)).1.moves = t.moves ∧ (t.put (way t.mask h K)).1.finger = t.finger ∧ (t.put (way t.mask h K)).1.fill = hs.length + 1 := by
  have cut := below_cut T.ris (way t.mask h K)
  have le := cut.1
  have pl : (SetTable.insertAt t.place (SetTable.below t.place (way t.mask h K)) (way t.mask h K)).toList = t.place.toList.take (SetTable.below t.place (way t.mask h K)) ++ way t.mask h K :: t.place.toList.drop (SetTable.below t.place (way t.mask h K)) := SetTable.toList_insertAt _ _ _
  have no : t.place[SetTable.below t.place (way t.mask h K)]? ≠ some (way t.mask h K) := fun e => hK (by
    rw [← Array.getElem?_toList] at e
    exact List.mem_of_getElem? e)
  have ri := ris_insert T.ris no
  have wl := way_leW t.mask h K
  have dm : (if SetTable.has t.dummies (way t.mask h K) = true then SetTable.eraseAt t.dummies (SetTable.below t.dummies (way t.mask h K)) else t.dummies) = #[] := by
    rw [T.dm]
    rfl
  unfold SetTable.put
  dsimp only
  rw [dm]
  have reach0 := T.reach
  have wK : ∀ k', k' < K → way t.mask h k' ∈ t.place.toList := hb
  have reachK : ∃ k, way t.mask h k = way t.mask h K ∧ ∀ k', k' < k → way t.mask h k' ∈ t.place.toList := ⟨K, rfl, hb⟩
  generalize way t.mask h K = j at *
  generalize SetTable.below t.place j = p at *
  have sz : (SetTable.insertAt t.place p j).size = hs.length + 1 := by
    have := congrArg List.length pl
    rw [Array.length_toList, List.length_append, List.length_cons, List.length_take, List.length_drop, Array.length_toList, T.sz] at this
    rw [T.sz] at le
    omega
  have sub : ∀ x, x ∈ t.place.toList → x ∈ (SetTable.insertAt t.place p j).toList := fun x hx => by
    rw [pl, ins_mem]
    exact .inr hx
  refine ⟨rfl, by rw [← T.sz]; exact le, ⟨ri, rfl, ?_, T.mok, fun x hx => ?_, fun i h2 j2 hi hj => ?_⟩, rfl, rfl, rfl, rfl, rfl, ?_⟩
  · show (SetTable.insertAt t.place p j).size = _
    rw [sz, List.length_append, List.length_cons, List.length_take, List.length_drop]
    rw [T.sz] at le
    omega
  · have hx : x ∈ (SetTable.insertAt t.place p j).toList := hx
    rw [pl, ins_mem] at hx
    rcases hx with rfl | hx
    · exact wl
    · exact T.bd x hx
  · have hj : (SetTable.insertAt t.place p j).toList[i]? = some j2 := hj
    rw [pl] at hj
    rcases ins_at (show hs.length = t.place.toList.length from T.sz.symm.trans Array.length_toList.symm) (by rw [← T.sz]; exact le) hi hj with ⟨rfl, rfl⟩ | ⟨q, q1, q2⟩
    · obtain ⟨k, e1, e2⟩ := reachK
      exact ⟨k, e1, fun k' hk' => sub _ (e2 k' hk')⟩
    · obtain ⟨k, e1, e2⟩ := reach0 q h2 j2 q1 q2
      exact ⟨k, e1, fun k' hk' => sub _ (e2 k' hk')⟩
  · show (SetTable.insertAt t.place p j).size + 0 = _
    rw [sz]
theorem relaidW (t : SetTable) {hs : Array Int} {wanted M : Nat} (hM : SetTable.sizeAbove wanted - 1 = M) (mk : MaskW M) (l : hs.size ≤ M) :
    ∃ t' order, t.relaid hs wanted = some (t', order) ∧ order.toList.Perm (List.range hs.size) ∧ TabW t' (order.toList.map fun i => hs.getD i 0) ∧ t'.mask = M ∧ t'.led = t.led ∧ t'.plain = t.plain ∧ t'.dummies = #[] := by
  obtain ⟨owner, e, O⟩ := layW mk l
  have ol := O.sz
  have ri := ris_live (fun j => owner.getD j none) (List.range (M + 1)) (List.pairwise_lt_range)
  have len : (liveOf M owner).length = hs.size := by
    refine Nat.le_antisymm ?_ ?_
    · obtain ⟨ps, p1, p2⟩ := O.ps
      have := pigeon_nd (js := (liveOf M owner).map (·.1)) (ps := ps) (show ((liveOf M owner).map (·.1)).Nodup from List.Pairwise.imp (fun h => Nat.ne_of_lt h) ri.1) fun j hj => by
        obtain ⟨⟨a, b⟩, hab, rfl⟩ := List.mem_map.mp hj
        obtain ⟨m1, m2⟩ := (mem_live ol).mp hab
        exact p2 a m1 (by rw [m2]; exact Option.some_ne_none _)
      rw [List.length_map, p1, Array.length_toList] at this
      exact this
    · have := pigeon (n := hs.size) (ps := (liveOf M owner).map (·.2)) fun k hk => by
        obtain ⟨j, h1, h2⟩ := O.all k (by rw [Array.length_toList]; exact hk)
        exact List.mem_map.mpr ⟨(j, k), (mem_live ol).mpr ⟨h1, h2⟩, rfl⟩
      rw [List.length_map] at this
      exact this
  refine ⟨tabOf t M owner, ((liveOf M owner).map (·.2)).toArray, ?_, ?_, ⟨ri.1, rfl, ?_, mk, fun x hx => ?_, fun i h j hi hj => ?_⟩, rfl, rfl, rfl, rfl⟩
  · rw [relaid_eq, hM, e]
    rfl
  · refine perm_range (by show ((liveOf M owner).map (·.2)).length = _; rw [List.length_map, len]) fun k hk => ?_
    obtain ⟨j, h1, h2⟩ := O.all k (by rw [Array.length_toList]; exact hk)
    exact List.mem_map.mpr ⟨(j, k), (mem_live ol).mpr ⟨h1, h2⟩, rfl⟩
  · show ((liveOf M owner).map (·.1)).toArray.size = _
    rw [List.size_toArray, List.length_map, List.length_map, List.length_map]
  · have := List.mem_range.mp (ri.2 x hx)
    show x ≤ M
    omega
  · have hj : ((liveOf M owner).map (·.1))[i]? = some j := hj
    have hi : (((liveOf M owner).map (·.2)).map fun i => hs.getD i 0)[i]? = some h := hi
    rw [List.getElem?_map] at hj
    rw [List.map_map, List.getElem?_map] at hi
    cases q : (liveOf M owner)[i]? with
    | none => rw [q] at hj; cases hj
    | some p =>
      rw [q] at hi hj
      obtain ⟨a, b⟩ := p
      cases hj
      have hi : hs.getD b 0 = h := Option.some.inj hi
      obtain ⟨m1, m2⟩ := (mem_live ol).mp (List.mem_of_getElem? q)
      obtain ⟨h', K, a1, a2, a3⟩ := O.at_ a b m1 m2
      have eh : h' = h := by
        rw [← hi, Array.getD_eq_getD_getElem?, ← Array.getElem?_toList, a1]
        rfl
      subst eh
      refine ⟨K, a2, fun k' hk' => ?_⟩
      have ne := a3 k' hk'
      cases o : oAt owner (way M h' k') with
      | none => exact absurd o ne
      | some z => exact List.mem_map.mpr ⟨(way M h' k', z), (mem_live ol).mpr ⟨way_leW M h' k', o⟩, rfl⟩
end
end Fh

set_option Elab.async false
set_option linter.all false
set_option maxRecDepth 100000
set_option maxHeartbeats 4000000
namespace Fh
open PySem PySem.Spec PyProof.Rows L2
/-! ### the steps of a search, counted from its beginning -/
abbrev stp (m : Nat) (h : Int) (c : Nat) : SetTable.Probe := nth m (runAt m (SetTable.bits h % (m + 1)) (SetTable.bits h)) c
theorem stp_more (m : Nat) (h : Int) (c q : Nat) : nth m (stp m h c) q = stp m h (c + q) := (nth_add m c _ q).symm
theorem stp_clean (m : Nat) (h : Int) : ∀ c, (stp m h c).dummy = none
  | 0 => rfl
  | c + 1 => by
    have e : stp m h (c + 1) = adv m (stp m h c) := nth_succ m _ c
    rw [e]
    unfold adv
    split <;> exact stp_clean m h c
def hashAt (es : Array (Int × Value)) (i : Nat) : Int := (es[i]?.map (·.1)).getD 0
/-- what the probe meets from a step on: the first entry with this hash, or the empty slot -/
theorem meets {t : SetTable} {hs : List Int} {es : Array (Int × Value)} {h : Int} {c K : Nat} (T : TabW t hs) (he : es.toList.map (·.1) = hs) (hc : c ≤ K) (hf : K < 10 * SetTable.turns t.mask)
    (hK : way t.mask h K ∉ t.place.toList) (hb : ∀ k, k < K → way t.mask h k ∈ t.place.toList) :
    (∃ (c' i : Nat), c ≤ c' ∧ c' < K ∧ t.place.toList[i]? = some (way t.mask h c') ∧ (∀ (d j : Nat), c ≤ d → d < c' → t.place.toList[j]? = some (way t.mask h d) → hs[j]? ≠ some h) ∧
      t.probe (hashAt es) h (stp t.mask h c) = some (.candidate (way t.mask h c') i (stp t.mask h (c' + 1)))) ∨
    ((∀ (d j : Nat), c ≤ d → d < K → t.place.toList[j]? = some (way t.mask h d) → hs[j]? ≠ some h) ∧ t.probe (hashAt es) h (stp t.mask h c) = some (.empty (way t.mask h K) none)) := by
  have at_ : ∀ q, (nth t.mask (stp t.mask h c) q).j = way t.mask h (c + q) := fun q => congrArg SetTable.Probe.j (stp_more ..)
  have eK : c + (K - c) = K := by omega
  have val : ∀ j, hs[j]? = some h → hashAt es j = h := fun j hj => by
    rw [← he, List.getElem?_map] at hj
    unfold hashAt
    rw [← Array.getElem?_toList, hj]
    rfl
  rcases go_spec t T.ris T.dm (hashAt es) h (10 * SetTable.turns t.mask) (K - c) (stp t.mask h c) (stp_clean ..) (by omega) (fun q hq => by rw [at_]; exact hb _ (by omega)) (by rw [at_, eK]; exact hK) with ⟨q, i, h1, h2, _, h4, h5⟩ | ⟨h4, h5⟩
  · refine .inl ⟨c + q, i, by omega, by omega, by rw [← at_]; exact h2, fun d j h6 h7 h8 h9 => h4 (d - c) j (by omega) (by rw [at_, show c + (d - c) = d by omega]; exact h8) (val j h9), ?_⟩
    rw [← at_, show c + q + 1 = c + (q + 1) by omega, ← stp_more]
    exact h5
  · refine .inr ⟨fun d j h6 h7 h8 h9 => h4 (d - c) j (by omega) (by rw [at_, show c + (d - c) = d by omega]; exact h8) (val j h9), ?_⟩
    rw [at_, eK] at h5
    exact h5
section
variable {P : Program} {w : World} {A : Around} {E : Value → Shared → Prop} {s : Shared}
abbrev Row := Addr × List Key
def row (P : Program) (w : World) (p : Row) : Int × Value := (kh P w p.2, .ref p.1)
/-- a set's entries and table hold these tuples -/
structure Fit (P : Program) (w : World) (L : List Row) (es : Array (Int × Value)) (t : SetTable) : Prop where
  rows : es.toList = L.map (row P w)
  tab : TabW t (L.map fun p => kh P w p.2)
  led : w.params.followText "set-order" = true ∨ t.led = true
  room : L.length ≤ t.mask
variable {L : List Row} {es : Array (Int × Value)} {ep : Nat} {t : SetTable} {a x : Addr} {k : List Key}
theorem Fit.size (F : Fit P w L es t) : es.size = L.length := by
  have q := congrArg List.length F.rows
  rwa [Array.length_toList, List.length_map] at q
theorem Fit.places (F : Fit P w L es t) : t.place.size = L.length := by
  have q := F.tab.sz
  rwa [List.length_map] at q
theorem Fit.fits (F : Fit P w L es t) : t.fits es.size = true := by
  have h1 := F.size
  have h2 := F.places
  have h3 := F.room
  simp only [SetTable.fits, SetTable.fill, F.tab.dm, Bool.and_eq_true, beq_iff_eq, decide_eq_true_eq]
  exact ⟨by omega, by simp; omega⟩
theorem Fit.entry (F : Fit P w L es t) {i : Nat} {p : Row} (h : L[i]? = some p) : es[i]? = some (row P w p) := by
  rw [← Array.getElem?_toList, F.rows, List.getElem?_map, h]
  rfl
theorem Fit.hashes (F : Fit P w L es t) : es.toList.map (·.1) = L.map fun p => kh P w p.2 := by
  rw [F.rows, List.map_map]
  rfl
theorem Fit.kept (F : Fit P w L es t) : ¬ t.gaveWay = true := by
  simp [SetTable.gaveWay, maskW_odd F.tab.mok]
/-- the search for a tuple, from a step on behind which every equal one lies -/
theorem seek {o : Obj} (ho : s.heap.get? a = some o) (hd : o.data = .set es ep t) (F : Fit P w L es t) (tup : ∀ p ∈ L, TK P w s.heap p.2 p.1) (hx : TK P w s.heap k x) (hu : A.units < cLine) {K : Nat} (hf : K < 10 * SetTable.turns t.mask)
    (hK : way t.mask (kh P w k) K ∉ t.place.toList) (hb : ∀ c, c < K → way t.mask (kh P w k) c ∈ t.place.toList) {Q : SetFound → Shared → Prop}
    (hin : k ∈ L.map (·.2) → Q (.there none) s) (hout : k ∉ L.map (·.2) → Q (.free (way t.mask (kh P w k) K) false) s) :
    ∀ (d fuel c : Nat) (stand : Option SetTable.Probe), c + d = K → d < fuel → stand.getD (t.probeStart (kh P w k)) = stp t.mask (kh P w k) c →
      (∀ (i : Nat) p, L[i]? = some p → p.2 = k → ∃ c', c ≤ c' ∧ c' < K ∧ t.place.toList[i]? = some (way t.mask (kh P w k) c')) →
      wpAny (model P w) A (setSearchFrom a (.ref x) (kh P w k) true fuel stand) Q E s := by
  intro d
  induction d using Nat.strongRecOn with
  | _ d ih =>
    intro fuel c stand hc hfu hst later
    obtain ⟨fuel, rfl⟩ : ∃ f, fuel = f + 1 := ⟨fuel - 1, by omega⟩
    rw [setSearchFrom_succ]
    refine wpAny_bind (wpAny_setState_of ho hd F.fits ?_)
    refine wp_if_neg F.kept ?_
    try refine wpAny_bind (wpAny_pure ?_)
    rw [hst]
    have never : ∀ {lim : Nat}, (∀ (e j : Nat), c ≤ e → e < lim → t.place.toList[j]? = some (way t.mask (kh P w k) e) → (L.map fun p => kh P w p.2)[j]? ≠ some (kh P w k)) → ∀ (i : Nat) p, L[i]? = some p → p.2 = k → ∃ c', lim ≤ c' ∧ c' < K ∧ t.place.toList[i]? = some (way t.mask (kh P w k) c') := fun no i p hp hk => by
      obtain ⟨c', h1, h2, h3⟩ := later i p hp hk
      refine ⟨c', ?_, h2, h3⟩
      refine Nat.le_of_not_lt fun lt => no c' i h1 lt h3 ?_
      rw [List.getElem?_map, hp, ← hk]
      rfl
    rcases meets F.tab F.hashes (show c ≤ K by omega) hf hK hb with ⟨c', i, m1, m2, m3, m4, m5⟩ | ⟨m4, m5⟩
    · have m5' : t.probe (fun i => (es[i]?.map (·.1)).getD 0) (kh P w k) (stp t.mask (kh P w k) c) = _ := m5
      rw [m5']
      dsimp only
      have il : i < L.length := by
        have q := (List.getElem?_eq_some_iff.mp m3).1
        rw [Array.length_toList, F.places] at q
        exact q
      obtain ⟨p, hp⟩ : ∃ p, L[i]? = some p := ⟨_, List.getElem?_eq_getElem il⟩
      have pm : p ∈ L := List.mem_of_getElem? hp
      have cmp : wpAny (model P w) A (searchRest a (.ref x) (kh P w k) true fuel es t (way t.mask (kh P w k) c') i (stp t.mask (kh P w k) (c' + 1))) Q E s := by
        unfold searchRest
        rw [F.entry hp]
        refine wpAny_bind (wpAny_holding (wpAny_eqBool_tuple hu (tup p pm) hx ?_))
        refine wpAny_bind (wpAny_setState_of ho hd F.fits ?_)
        by_cases e : p.2 = k
        · refine wp_if_pos (by simp [e]) (wpAny_pure (hin ?_))
          exact List.mem_map.mpr ⟨p, pm, e⟩
        · refine wp_if_neg (by simp [e]) ?_
          try refine wpAny_bind (wpAny_pure ?_)
          rw [sameMem]
          have live : t.slot (way t.mask (kh P w k) c') = .live i := slot_live F.tab.ris m3
          simp only [if_true, live, F.entry hp]
          refine wpAny_bind (wpAny_isSame_ref_self (wpAny_bind (wpAny_pure ?_)))
          simp only [if_true]
          refine wp_if_neg (by simp [e]) ?_
          refine ih (K - (c' + 1)) (by omega) fuel (c' + 1) _ (by omega) (by omega) rfl fun j q hq hk => ?_
          obtain ⟨c2, h1, h2, h3⟩ := never m4 j q hq hk
          refine ⟨c2, Nat.lt_of_le_of_ne h1 fun e2 => ?_, h2, h3⟩
          rw [← e2] at h3
          have live2 := slot_live F.tab.ris h3
          rw [live] at live2
          injection live2 with e3
          rw [← e3, hp] at hq
          exact e (by rw [Option.some.inj hq]; exact hk)
      by_cases l : t.led = true
      · refine wp_if_neg (by simp [l]) ?_
        try refine wpAny_bind (wpAny_pure ?_)
        exact cmp
      · refine wp_if_pos (by simp [l]) (wpAny_bind (unseen hx ?_ fun y hy => ?_))
        · refine wp_if_neg (by decide) ?_
          try refine wpAny_bind (wpAny_pure ?_)
          exact cmp
        · obtain ⟨e, he, rfl⟩ := List.mem_map.mp hy
          have he2 : e ∈ es.toList := by
            have z : e ∈ es ∧ e.1 = kh P w k := by simpa using he
            exact Array.mem_toList_iff.mpr z.1
          rw [F.rows] at he2
          obtain ⟨q, hq, rfl⟩ := List.mem_map.mp he2
          exact ⟨q.2, q.1, rfl, tup q hq⟩
    · have m5' : t.probe (fun i => (es[i]?.map (·.1)).getD 0) (kh P w k) (stp t.mask (kh P w k) c) = _ := m5
      rw [m5']
      refine wpAny_pure (hout fun hm => ?_)
      obtain ⟨p, pm, hk⟩ := List.mem_map.mp hm
      obtain ⟨i, hi, e⟩ := List.getElem_of_mem pm
      obtain ⟨c', h1, h2, _⟩ := never m4 i p (by rw [List.getElem?_eq_getElem hi, e]) hk
      omega
/-- the search for a tuple -/
theorem seek_all {o : Obj} (ho : s.heap.get? a = some o) (hd : o.data = .set es ep t) (F : Fit P w L es t) (tup : ∀ p ∈ L, TK P w s.heap p.2 p.1) (hx : TK P w s.heap k x) (hu : A.units < cLine) {Q : SetFound → Shared → Prop}
    (hin : k ∈ L.map (·.2) → Q (.there none) s) (hout : ∀ K, k ∉ L.map (·.2) → way t.mask (kh P w k) K ∉ t.place.toList → (∀ c, c < K → way t.mask (kh P w k) c ∈ t.place.toList) → Q (.free (way t.mask (kh P w k) K) false) s) :
    wpAny (model P w) A (setSearch a (.ref x) (kh P w k) true) Q E s := by
  obtain ⟨K, hf, hK, hb⟩ := F.tab.first (by rw [List.length_map]; exact F.room) (kh P w k)
  have small : 10 * SetTable.turns t.mask ≤ 100000 := by
    unfold SetTable.turns
    rcases F.tab.mok with e | e | e | e <;> omega
  unfold setSearch
  refine seek ho hd F tup hx hu hf hK hb hin (fun n => hout K n hK hb) K 100000 0 none (by omega) (by omega) rfl fun i p hp hk => ?_
  have hi : (L.map fun p => kh P w p.2)[i]? = some (kh P w k) := by
    rw [List.getElem?_map, hp, ← hk]
    rfl
  obtain ⟨j, hj⟩ : ∃ j, t.place.toList[i]? = some j := by
    have il := (List.getElem?_eq_some_iff.mp hp).1
    exact ⟨_, List.getElem?_eq_getElem (by rw [Array.length_toList, F.places]; exact il)⟩
  obtain ⟨c, hc, e⟩ := F.tab.before hK hi hj
  exact ⟨c, Nat.zero_le _, hc, by rw [hj, e]⟩
end
end Fh

set_option Elab.async false
set_option linter.all false
set_option maxRecDepth 100000
set_option maxHeartbeats 4000000
namespace Fh
open PySem PySem.Spec PyProof.Rows L2
/-! ### picking entries by an order -/
theorem pick_all {α : Type} : ∀ L : List α, (List.range L.length).filterMap (fun i => L[i]?) = L
  | [] => rfl
  | x :: L => by
    rw [List.length_cons, List.range_succ_eq_map, List.filterMap_cons_some (by rfl), List.filterMap_map]
    exact congrArg (x :: ·) (pick_all L)
theorem pick_val {α : Type} {L : List α} {g : α → Int} {hs : Array Int} (e : hs.toList = L.map g) : ∀ ord : List Nat, (∀ i ∈ ord, i < L.length) → (ord.filterMap fun i => L[i]?).map g = ord.map fun i => hs.getD i 0
  | [], _ => rfl
  | i :: ord, h => by
    have hi := h i List.mem_cons_self
    have q : hs.getD i 0 = g L[i] := by
      have z : hs[i]? = some (g L[i]) := by
        rw [← Array.getElem?_toList, e, List.getElem?_map, List.getElem?_eq_getElem hi]
        rfl
      rw [Array.getD_eq_getD_getElem?, z]
      rfl
    rw [List.filterMap_cons_some (List.getElem?_eq_getElem hi), List.map_cons, List.map_cons, q, pick_val e ord fun j hj => h j (List.mem_cons_of_mem _ hj)]
section
variable {P : Program} {w : World} {A : Around} {E : Value → Shared → Prop} {s : Shared}
variable {L : List Row} {es : Array (Int × Value)} {ep : Nat} {t : SetTable} {a x : Addr} {k : List Key}
/-- the set at a holds these tuples -/
def InS (P : Program) (w : World) (h : Heap) (a : Addr) (L : List Row) : Prop :=
  ∃ o es ep t, h.get? a = some o ∧ o.ExactSet ∧ o.data = .set es ep t ∧ Fit P w L es t ∧ L.length * 5 < t.mask * 3
/-- no tuple is a set -/
theorem TK.apart {h h' : Heap} {o : Obj} (hk : TK P w h k x) (ho : h.get? a = some o) (hd : o.data = .set es ep t) (sb : Heap.SameBut a h h') : TK P w h' k x := by
  obtain ⟨o', its, n, ho', hc, hd', hi⟩ := hk
  refine ⟨o', its, n, ?_, hc, hd', hi⟩
  rw [sb.2 x fun e => by
    rw [e, ho] at ho'
    rw [← Option.some.inj ho', hd] at hd'
    cases hd']
  exact ho'
theorem tab_like {t t' : SetTable} {hs : List Int} (T : TabW t hs) (h1 : t'.place = t.place) (h2 : t'.dummies = t.dummies) (h3 : t'.mask = t.mask) : TabW t' hs := by
  refine ⟨?_, ?_, ?_, ?_, ?_, ?_⟩
  · rw [h1]; exact T.ris
  · rw [h2]; exact T.dm
  · rw [h1]; exact T.sz
  · rw [h3]; exact T.mok
  · rw [h1, h3]; exact T.bd
  · rw [h1, h3]; exact T.reach
/-- the table laid anew -/
theorem relay {o : Obj} (ho : s.heap.get? a = some o) (hex : o.ExactSet) (hd : o.data = .set es ep t) (F : Fit P w L es t) {n M : Nat} (hM : MaskW M) (hn : SetTable.sizeAbove n = M + 1) (hr : L.length * 5 < M * 3) {Q : Unit → Shared → Prop}
    (hQ : ∀ h' L', Heap.SameBut a s.heap h' → InS P w h' a L' → L'.Perm L → Q () { s with heap := h' }) : wpAny (model P w) A (setRelay a n) Q E s := by
  have Mb : M ≤ 511 := by rcases hM with e | e | e | e <;> omega
  have sz := F.size
  obtain ⟨t', ord, e, pm, T, em, el, _, _⟩ := relaidW t (hs := es.map (·.1)) (wanted := n) (M := M) (by omega) hM (by rw [Array.size_map]; omega)
  rw [Array.size_map, sz] at pm
  have inb : ∀ i ∈ ord.toList, i < L.length := fun i hi => List.mem_range.mp (pm.mem_iff.mp hi)
  have rows : (ord.filterMap (es[·]?)).toList = (ord.toList.filterMap fun i => L[i]?).map (row P w) := by
    rw [Array.toList_filterMap, List.map_filterMap]
    congr 1
    funext i
    rw [← Array.getElem?_toList, F.rows, List.getElem?_map]
  have pL : (ord.toList.filterMap fun i => L[i]?).Perm L := by
    have z := pm.filterMap fun i => L[i]?
    rwa [pick_all] at z
  have hs : (ord.toList.filterMap fun i => L[i]?).map (fun p => kh P w p.2) = ord.toList.map fun i => (es.map (·.1)).getD i 0 := by
    refine pick_val ?_ _ inb
    rw [Array.toList_map]
    exact F.hashes
  rw [← hs] at T
  generalize (ord.toList.filterMap fun i => L[i]?) = L' at rows pL T
  have sz' : (ord.filterMap (es[·]?)).size = L.length := by
    have z := congrArg List.length rows
    rw [Array.length_toList, List.length_map] at z
    rw [z, pL.length_eq]
  rw [setRelay_eq]
  refine wpAny_bind (wpAny_setState_of ho hd F.fits ?_)
  refine wp_if_neg (by rw [sizeLine_eq]; omega) ?_
  try refine wpAny_bind (wpAny_pure ?_)
  rw [e]
  refine wpAny_bind (wp_if_neg (by rw [sz', sz]; simp) ?_)
  try refine wpAny_bind (wpAny_pure ?_)
  refine wpAny_pure (wpAny_storeSet_of ho hd ?_ (by rw [sz', sizeLine_eq]; omega))
  refine hQ _ L' (Heap.SameBut.update ..) ⟨_, _, _, _, store_at ho hd, ⟨hex.1, hex.2.1, hex.2.2⟩, rfl, ⟨rows, T, by rw [el]; exact F.led, by rw [em, pL.length_eq]; omega⟩, by rw [em, pL.length_eq]; exact hr⟩ pL
/-- a tuple added -/
theorem add_tup (hs : InS P w s.heap a L) (tup : ∀ p ∈ L, TK P w s.heap p.2 p.1) (hx : TK P w s.heap k x) (hu : A.units < cLine) (few : L.length < 300) {Q : Bool → Shared → Prop}
    (hQ : ∀ b h' L', Heap.SameBut a s.heap h' → InS P w h' a L' → (k ∈ L.map (·.2) → L' = L) → (k ∉ L.map (·.2) → L'.Perm ((x, k) :: L)) → Q b { s with heap := h' }) :
    wpAny (model P w) A (setAddHashed a (.ref x) (kh P w k)) Q E s := by
  obtain ⟨o, es, ep, t, ho, hex, hd, F, room⟩ := id hs
  have sz := F.size
  unfold setAddHashed
  refine wpAny_holding ?_
  rw [show (100000 : Nat) = 99999 + 1 from rfl, setAddHashedIn_succ]
  refine wpAny_bind (wpAny_setState_of ho hd F.fits ?_)
  refine wp_if_neg (by simp [byScan, Value.scannable]) ?_
  try refine wpAny_bind (wpAny_pure ?_)
  refine wpAny_bind (seek_all ho hd F tup hx hu (fun m => wpAny_pure (hQ _ s.heap L (Heap.SameBut.refl a s.heap) hs (fun _ => rfl) fun z => absurd m z)) fun K nm hK hb => ?_)
  refine wpAny_bind (wpAny_setState_of ho hd F.fits ?_)
  dsimp only
  obtain ⟨q1, q2, q3, q4, q5, q6, q7, q8, q9⟩ := F.tab.put hK hb
  generalize hpt : t.put (way t.mask (kh P w k) K) = pt at q1 q3 q4 q5 q6 q7 q8 q9 ⊢
  obtain ⟨t1, p⟩ := pt
  dsimp only at q1 q3 q4 q5 q6 q7 q8 q9 ⊢
  rw [← q1] at q2 q3
  rw [List.length_map] at q2 q9
  have rows : (SetTable.insertAt es p (kh P w k, Value.ref x)).toList = (L.take p ++ (x, k) :: L.drop p).map (row P w) := by
    rw [SetTable.toList_insertAt, F.rows, List.map_append, List.map_cons, List.map_take, List.map_drop]
    rfl
  have pm := put_perm L p (x, k)
  have hh : (L.take p ++ (x, k) :: L.drop p).map (fun p => kh P w p.2) = (L.map fun p => kh P w p.2).take p ++ kh P w k :: (L.map fun p => kh P w p.2).drop p := by
    rw [List.map_append, List.map_cons, List.map_take, List.map_drop]
  rw [← hh] at q3
  generalize L.take p ++ (x, k) :: L.drop p = L1 at rows pm q3
  generalize SetTable.insertAt es p (kh P w k, Value.ref x) = es1 at rows ⊢
  have len : L1.length = L.length + 1 := pm.length_eq
  have sz1 : es1.size = L.length + 1 := by
    have z := congrArg List.length rows
    rw [Array.length_toList, List.length_map] at z
    rw [z, len]
  have rm1 : L1.length ≤ t1.mask := by
    rw [len, q4]
    omega
  -- the rest, with whatever mark the table gets
  have rest : ∀ t2 : SetTable, t2.place = t1.place → t2.dummies = t1.dummies → t2.mask = t1.mask → t2.led = t1.led → wpAny (model P w) A (storeSet a es1 t2) (fun _ s' => wpAny (model P w) A (do
      if !false && t2.tooFull then setRelay a (SetTable.grown (es.size + 1))
      return true) Q E s') E s := fun t2 e1 e2 e3 e4 => by
    have F1 : Fit P w L1 es1 t2 := ⟨rows, tab_like q3 e1 e2 e3, by rw [e4, q5]; exact F.led, by rw [e3]; exact rm1⟩
    have full : t2.tooFull = decide ((L.length + 1) * 5 ≥ t.mask * 3) := by
      unfold SetTable.tooFull
      unfold SetTable.fill at q9 ⊢
      rw [e1, e2, q9, e3, q4]
    refine wpAny_storeSet_of ho hd ?_ (by rw [sz1, sizeLine_eq]; omega)
    have sb : Heap.SameBut a s.heap (s.heap.update a (Obj.putSet es1 t2)) := Heap.SameBut.update ..
    have ho1 := store_at (es' := es1) (t' := t2) ho hd
    generalize s.heap.update a (Obj.putSet es1 t2) = h1 at sb ho1 ⊢
    have ex1 : ({ o with data := .set es1 (ep + 1) t2 } : Obj).ExactSet := ⟨hex.1, hex.2.1, hex.2.2⟩
    by_cases f : (L.length + 1) * 5 ≥ t.mask * 3
    · rw [full, decide_eq_true f]
      first
        | (refine wp_if_pos (by simp) ?_; refine wpAny_bind ?_)
        | (refine wpAny_bind ?_; refine wp_if_pos (by simp) ?_)
      have go : ∀ M, MaskW M → SetTable.sizeAbove (SetTable.grown (es.size + 1)) = M + 1 → (L.length + 1) * 5 < M * 3 → wpAny (model P w) A (setRelay a (SetTable.grown (es.size + 1))) (fun _ s' => wpAny (model P w) A (pure true) Q E s') E { s with heap := h1 } := fun M h1' h2' h3' =>
        relay (s := { s with heap := h1 }) ho1 ex1 rfl F1 h1' h2' (by rw [len]; exact h3') fun h2 L2 sb2 i2 p2 => wpAny_pure (hQ true h2 L2 (sb.trans sb2) i2 (fun z => absurd z nm) fun _ => p2.trans pm)
      rcases F.tab.mok with e | e | e | e
      · have l4 : es.size = 4 := by omega
        exact go 31 (.inr (.inl rfl)) (by rw [l4, size_20]) (by omega)
      · have l18 : es.size = 18 := by omega
        exact go 127 (.inr (.inr (.inl rfl))) (by rw [l18, size_76]) (by omega)
      · have l76 : es.size = 76 := by omega
        exact go 511 (.inr (.inr (.inr rfl))) (by rw [l76]; decide +kernel) (by omega)
      · omega
    · rw [full, decide_eq_false f]
      have rm2 : L1.length * 5 < t2.mask * 3 := by
        rw [len, e3, q4]
        omega
      have fin : wpAny (model P w) A (pure true) Q E { s with heap := h1 } := wpAny_pure (hQ true h1 L1 sb ⟨_, _, _, _, ho1, ex1, rfl, F1, rm2⟩ (fun z => absurd z nm) fun _ => pm)
      first
        | exact wp_if_neg (by simp) fin
        | exact wpAny_bind (wp_if_neg (by simp) (wpAny_pure fin))
  by_cases pl : t1.plain = true
  · first
      | (refine wp_if_pos pl ?_; refine wpAny_bind (byVal_tup hx fun r => ?_))
      | refine wpAny_bind (wp_if_pos pl (byVal_tup hx fun r => ?_))
    cases r with
    | true => exact wpAny_bind (rest t1 rfl rfl rfl rfl)
    | false => exact wpAny_bind (rest { t1 with plain := false } rfl rfl rfl rfl)
  · first
      | (refine wp_if_neg pl ?_; refine wpAny_bind (wpAny_pure ?_))
      | refine wpAny_bind (wp_if_neg pl (wpAny_pure ?_))
    exact wpAny_bind (rest t1 rfl rfl rfl rfl)
end
end Fh

set_option Elab.async false
set_option linter.all false
set_option maxRecDepth 100000
set_option maxHeartbeats 4000000
namespace Fh
open PySem PySem.Spec PyProof.Rows L2
/-! ### set(a list of tuples), alike ones among them -/
/-- L are those met first among the first i -/
structure Met (ks : List Row) (i : Nat) (L : List Row) : Prop where
  sub : ∀ p ∈ L, p ∈ ks.take i
  all : ∀ p ∈ ks.take i, p.2 ∈ L.map (·.2)
  nd : (L.map (·.2)).Nodup
  len : L.length ≤ i
theorem Met.zero (ks : List Row) : Met ks 0 [] := ⟨fun p h => (by cases h), fun p h => (by simp at h), List.nodup_nil, Nat.le_refl _⟩
theorem Met.next {ks L L' : List Row} {i : Nat} {p : Row} (m : Met ks i L) (h : ks[i]? = some p) (h1 : p.2 ∈ L.map (·.2) → L' = L) (h2 : p.2 ∉ L.map (·.2) → L'.Perm (p :: L)) : Met ks (i + 1) L' := by
  have e : ks.take (i + 1) = ks.take i ++ [p] := by rw [List.take_succ, h]; rfl
  have wid : ∀ q, q ∈ ks.take i → q ∈ ks.take (i + 1) := fun q hq => by rw [e]; exact List.mem_append_left _ hq
  by_cases c : p.2 ∈ L.map (·.2)
  · rw [h1 c]
    refine ⟨fun q hq => wid q (m.sub q hq), fun q hq => ?_, m.nd, Nat.le_succ_of_le m.len⟩
    rw [e] at hq
    rcases List.mem_append.mp hq with z | z
    · exact m.all q z
    · rw [List.mem_singleton.mp z]; exact c
  · have pm := h2 c
    have pm2 : (L'.map (·.2)).Perm (p.2 :: L.map (·.2)) := pm.map (·.2)
    refine ⟨fun q hq => ?_, fun q hq => ?_, pm2.nodup_iff.mpr (List.nodup_cons.mpr ⟨c, m.nd⟩), ?_⟩
    · rcases List.mem_cons.mp (pm.mem_iff.mp hq) with z | z
      · rw [e, z]; exact List.mem_append_right _ (List.mem_singleton.mpr rfl)
      · exact wid q (m.sub q z)
    · rw [e] at hq
      refine pm2.mem_iff.mpr ?_
      rcases List.mem_append.mp hq with z | z
      · exact List.mem_cons_of_mem _ (m.all q z)
      · rw [List.mem_singleton.mp z]; exact List.mem_cons_self
    · have := pm.length_eq
      have := m.len
      simp only [List.length_cons] at *
      omega
section
variable {P : Program} {w : World} {A : Around} {ks : List Row}
theorem TK.at {h h' : Heap} {k : List Key} {x : Addr} (hk : TK P w h k x) (e : ∀ o, h.get? x = some o → h'.get? x = some o) : TK P w h' k x := by
  obtain ⟨o, its, n, ho, r⟩ := hk
  exact ⟨o, its, n, e o ho, r⟩
theorem InS.at {h h' : Heap} {L : List Row} {a : Addr} (hs : InS P w h a L) (e : ∀ o, h.get? a = some o → h'.get? a = some o) : InS P w h' a L := by
  obtain ⟨o, es, ep, t, ho, r⟩ := hs
  exact ⟨o, es, ep, t, e o ho, r⟩
theorem fillT {R : Result → Shared → Prop} {I S : Addr} {fp wr : List Addr} {G : Array GenState → Array GenState → Prop} {Pv : Nat → Value → Prop} {St : Nat → Shared → Prop} {s0 : Shared}
    (W : WalksS P w A.in1 I fp wr G ks.length Pv St) (hS : S ∉ fp) (hb : ks.length < 300) (hk : ∀ i v, Pv i v → ∃ p, ks[i]? = some p ∧ v = .ref p.1) (tu : ∀ p ∈ ks, TK P w s0.heap p.2 p.1) (ap : ∀ p ∈ ks, p.1 ∉ S :: wr) (hu : A.in1.units < cLine)
    (fin : ∀ s' L, Moved (S :: wr) G s0 s' → InS P w s'.heap S L → Met ks ks.length L → R (.ok (.ret .none)) s') :
    ∀ (d i : Nat) (s : Shared) (L : List Row), i + d = ks.length → St i s → Moved (S :: wr) G s0 s → InS P w s.heap S L → Met ks i L →
      codeAny (model P w) A (.builtin "set.update.loop" ⟨[.ref S, .ref I], []⟩) R s := by
  have out : S ∉ wr := fun h => hS (W.sub _ h)
  have more : ∀ {s1 s2 : Shared}, Moved wr G s1 s2 → Moved (S :: wr) G s1 s2 := fun m => m.mono fun b hb => List.mem_cons_of_mem _ hb
  have now : ∀ {s1 : Shared}, Moved (S :: wr) G s0 s1 → ∀ p ∈ ks, TK P w s1.heap p.2 p.1 := fun m p hp => (tu p hp).at fun o e => m.heap _ o (ap p hp) e
  intro d
  induction d with
  | zero =>
    intro i s L e st mv so me
    have ei : i = ks.length := by omega
    rw [ei] at st me
    refine codeAny_builtin PyProof.Rows.F.entry_set_update_loop ?_
    rw [Around.under_plainId PyProof.Rows.F.plain_set_update_loop _]
    exact wpAny_bind (m := pyNext (.ref I)) (W.done s _ _ st fun s1 m1 => wpAny_pure (fin s1 L (Moved.trans W.gtrans mv (more m1)) (so.at fun o e => m1.heap _ o out e) me))
  | succ d ih =>
    intro i s L e st mv so me
    refine codeAny_builtin PyProof.Rows.F.entry_set_update_loop ?_
    rw [Around.under_plainId PyProof.Rows.F.plain_set_update_loop _]
    refine wpAny_bind (m := pyNext (.ref I)) (W.item i s _ _ (by omega) st fun v s1 pv st1 m1 => ?_)
    obtain ⟨p, hp, rfl⟩ := hk i v pv
    have mv1 := Moved.trans W.gtrans mv (more m1)
    have tu1 := now mv1
    have so1 := so.at (h' := s1.heap) fun o e => m1.heap _ o out e
    have pk := tu1 p (List.mem_of_getElem? hp)
    have sub : ∀ q ∈ L, q ∈ ks := fun q hq => List.mem_of_mem_take (me.sub q hq)
    have hl := me.len
    refine wpAny_bind (m := holding [Value.ref p.1] (setAdd S (.ref p.1))) (wpAny_holding (wpAny_holding (wpAny_bind (wpAny_pyHash_tuple hu pk (add_tup (s := { s1 with toks := s1.toks + (p.2.length + 1) }) so1 (fun q hq => tu1 q (sub q hq)) pk hu (by omega) fun b h2 L2 sb so2 c1 c2 => ?_)))))
    have other : ∀ b o, b ≠ S → s1.heap.get? b = some o → h2.get? b = some o := fun b o n g => by rw [sb.2 b n]; exact g
    exact wpAny_pure ⟨plainId_quiet PyProof.Rows.F.plain_set_update_loop _, ih (i + 1) _ L2 (by omega) (W.frame _ s1 _ _ st1 (Nat.le_add_right _ _) fun b hb o g => other b o (fun h => hS (h ▸ hb)) g) (Moved.trans W.gtrans mv ((more m1).then_heap (Nat.le_add_right _ _) fun b o hb g => other b o (fun h => hb (h ▸ List.mem_cons_self)) g)) so2 (me.next hp c1 c2)⟩
end
end Fh

set_option Elab.async false
set_option linter.all false
set_option maxRecDepth 100000
set_option maxHeartbeats 4000000
namespace Fh
open PySem PySem.Spec PyProof.Rows L2
section
variable {P : Program} {w : World} {A : Around} {ks : List Row}
abbrev noSet (w : World) : Obj := { cls := .type "set", dict := none, data := .set #[] 0 (.fresh 0 0 (!w.params.followText "set-order")) }
theorem InS.new {h : Heap} {a : Addr} (ho : h.get? a = some (noSet w)) : InS P w h a [] := by
  refine ⟨_, _, _, _, ho, ⟨rfl, rfl, rfl⟩, rfl, ⟨rfl, ⟨List.Pairwise.nil, rfl, rfl, .inl rfl, fun x hx => (by cases hx), fun i h j hi => (by simp at hi)⟩, ?_, Nat.zero_le _⟩, ?_⟩
  · show _ ∨ (!w.params.followText "set-order") = true
    cases w.params.followText "set-order"
    · exact .inr rfl
    · exact .inl rfl
  · show 0 * 5 < 7 * 3
    decide
theorem initT {R : Value → Shared → Prop} {E : Value → Shared → Prop} {s : Shared} {S l : Addr} {items : Array Value} (hh : A.handled = none) (hl : s.heap.IsList l items) (hS : s.heap.get? S = some (noSet w))
    (hn : items.size = ks.length) (hb : ks.length < 300) (hk : ∀ (i : Nat) (v : Value), items[i]? = some v → ∃ p, ks[i]? = some p ∧ v = Value.ref p.1) (tu : ∀ p ∈ ks, TK P w s.heap p.2 p.1) (hu : A.units + 3 < cLine)
    (fin : ∀ (h' : Heap) (tk : Nat) L, InS P w h' S L → Met ks ks.length L → (∀ b o, b ≠ S → s.heap.get? b = some o → h'.get? b = some o) → R .none { s with heap := h', toks := tk }) :
    codeAny (model P w) A (.call (.builtin "set.__init__") ⟨[.ref S, .ref l], []⟩) (wants R E) s := by
  refine codeAny_call_builtin F.called_set.init.plain F.entry_set_init (check_set_init_1 ⟨_, hS, rfl⟩ ?_)
  have hl0 := hl
  obtain ⟨⟨oc, od, odt, osl⟩, hol, hcl, nl, hdl⟩ := hl
  dsimp only at hcl hdl
  subst hcl
  subst hdl
  have q1 := F.sub_list_set
  have q2 := F.sub_list_frozenset
  have q3 : (Value.type "list" == Value.type "dict") = false := by decide
  have lS : l ≠ S := fun e => by
    rw [e, hS] at hol
    have c := congrArg Obj.cls (Option.some.inj hol)
    exact absurd (show Value.type "set" = Value.type "list" from c) (by decide)
  unfold Builtin.«set.__init__» noKeywords Builtin.Frozenset.updateFrom
  generalize hit : pyIter = it
  wp_walk
  subst hit
  refine wpAny_pyIter_list hl0 (wpAny_bind (wpAny_runValue ?_))
  have n1 : l ≠ s.heap.objs.size := Nat.ne_of_lt (Heap.lt_size hol)
  have n2 : S ≠ s.heap.objs.size := Nat.ne_of_lt (Heap.lt_size hS)
  have h3 : A.in1.in1.handled = none := by simp [hh]
  have keep : ∀ {b : Addr} {o : Obj}, s.heap.get? b = some o → (s.heap.push { cls := .type "list_iterator", data := .fields #[.ref l, .int 0 0] }).get? b = some o := fun e => Heap.get?_push_of_some _ e
  have W := (Walks.list (prog := P) (w := w) h3 s.heap.objs.size l n1 items).toS
  rw [hn] at W
  refine fillT (s0 := { s with heap := s.heap.push { cls := .type "list_iterator", data := .fields #[.ref l, .int 0 0] } }) W (S := S) (by simp [n2, lS.symm]) hb hk (fun p hp => (tu p hp).at fun o e => keep e) (fun p hp => ?_) (show A.units + 1 + 1 < cLine by omega) (fun s' L mv so me => ?_) ks.length 0 _ [] (Nat.zero_add _) ⟨⟨_, Heap.get?_push_size _ rfl, rfl, rfl⟩, hl0.push _⟩ ⟨fun _ _ _ e => e, W.grefl _, rfl, rfl, Nat.le_refl _⟩ (InS.new (keep hS)) (Met.zero ks)
  · obtain ⟨o, its, n, ho, hc, _⟩ := tu p hp
    have a1 : p.1 ≠ s.heap.objs.size := Nat.ne_of_lt (Heap.lt_size ho)
    have a2 : p.1 ≠ S := fun e => by
      rw [e, hS] at ho
      rw [← Option.some.inj ho] at hc
      exact absurd (show Value.type "set" = Value.type "tuple" from hc) (by decide)
    simp [a1, a2]
  · obtain ⟨h', g', d', tk', os'⟩ := s'
    have eg : g' = s.gens := mv.gens
    have ed : d' = s.drawn := mv.drawn
    have eo : os' = s.os := mv.os
    subst eg
    subst ed
    subst eo
    exact wpAny_pure (wpAny_pure (fin h' tk' L so me fun b o nb e => mv.heap b o (by simp only [List.mem_cons, List.not_mem_nil, or_false, not_or]; exact ⟨nb, Nat.ne_of_lt (Heap.lt_size e)⟩) (keep e)))
/-- set(a list of tuples) -/
theorem call_setT {E : Value → Shared → Prop} {s : Shared} {l : Addr} {items : Array Value} {Q : Value → Shared → Prop} (hh : A.handled = none) (hl : s.heap.IsList l items) (hn : items.size = ks.length) (hb : ks.length < 300) (hk : ∀ (i : Nat) (v : Value), items[i]? = some v → ∃ p, ks[i]? = some p ∧ v = Value.ref p.1)
    (tu : ∀ p ∈ ks, TK P w s.heap p.2 p.1) (hu : A.units + 9 < cLine)
    (h : ∀ (h' : Heap) (tk : Nat) L, InS P w h' s.heap.objs.size L → Met ks ks.length L → (∀ b o, s.heap.get? b = some o → h'.get? b = some o) → Q (.ref s.heap.objs.size) { s with heap := h', toks := tk }) : wpAny (model P w) A (call (.type "set") [.ref l]) Q E s := by
  obtain ⟨c, tl, m1⟩ := F.called_set.mro
  have m2 := F.called_set.made
  have m3 := F.called_set.sub
  have m4 := F.called_set.notType
  have m5 := F.called_set.canCreate
  have m6 := F.typeCall_set_1 (.ref l)
  refine wpAny_call (codeAny_of_tree (wpAny_pure ⟨Code.quiet_builtin _ (by decide +kernel), codeAny_builtin F.entry_type_call ?_⟩))
  rw [Around.under_plain (weight_type_call_type "set" [.ref l] []) rfl]
  repeat (any_goals (first | assumption | wp_step))
  refine codeAny_mono (code_set_led1 (.ref l) (E := E) (Q₁ := fun v s1 => v = .ref s.heap.objs.size ∧ s1 = { s with heap := s.heap.push (noSet w) }) ⟨rfl, rfl⟩) fun r s1 hr => ?_
  rcases r with e | fl
  · exact hr
  · cases fl with
    | ret obj =>
      obtain ⟨rfl, rfl⟩ := hr
      have at0 : (s.heap.push (noSet w)).get? s.heap.objs.size = some (noSet w) := Heap.get?_push_size _ rfl
      have ty0 : Shared.TypeIs { s with heap := s.heap.push (noSet w) } (.ref s.heap.objs.size) "set" := ⟨_, at0, rfl⟩
      have i1 := F.called_set.init.lookup
      have i2 := F.called_set.init.bind (.ref s.heap.objs.size)
      repeat (any_goals (first | assumption | wp_step))
      refine codeAny_mono (initT (ks := ks) (E := E) (R := fun v s2 => v = .none ∧ ∃ h' tk L, s2 = { s with heap := h', toks := tk } ∧ InS P w h' s.heap.objs.size L ∧ Met ks ks.length L ∧ ∀ b o, s.heap.get? b = some o → h'.get? b = some o) (by simp [hh]) (hl.push _) at0 hn hb hk (fun p hp => (tu p hp).at fun o e => Heap.get?_push_of_some _ e) (show A.units + 1 + 3 < cLine by omega) fun h' tk L so me keep => ⟨rfl, h', tk, L, rfl, so, me, fun b o e => keep b o (Nat.ne_of_lt (Heap.lt_size e)) (Heap.get?_push_of_some _ e)⟩) fun r2 s2 hr2 => ?_
      rcases r2 with e | fl2
      · exact hr2
      · cases fl2 with
        | ret v =>
          obtain ⟨rfl, h', tk, L, rfl, so, me, keep⟩ := hr2
          repeat (any_goals (first | assumption | wp_step))
          exact h h' tk L so me keep
        | _ => exact hr2.elim
    | _ => exact hr.elim
end
end Fh

set_option Elab.async false
set_option linter.all false
set_option maxRecDepth 100000
set_option maxHeartbeats 4000000
namespace Fh
open PySem PySem.Spec PyProof.Rows L2
/-! ### sorted, of tuples of texts -/
/-- an address, and the texts of the tuple there -/
abbrev TxR := Addr × List Str
def tr (p : TxR) : Row := (p.1, p.2.map Sum.inr)
def txD (p : TxR) : PyData := .tuple (p.2.map .str)
/-- Python's order of tuples of texts -/
def slLe (x y : List Str) : Bool := !(PyProof.Rows.listOrd PyProof.Rows.itemOrd).blt (PySem.W.keyToks (.tuple (y.map .str))) (PySem.W.keyToks (.tuple (x.map .str)))
theorem txLe_eq : PySem.W.dataLe false txD = fun p q => slLe p.2 q.2 := rfl
theorem toks_inj : ∀ {x y : List Str}, PySem.W.keyToksAll (x.map .str) = PySem.W.keyToksAll (y.map .str) → x = y
  | [], [], _ => rfl
  | [], _ :: _, h => by simp [PySem.W.keyToksAll] at h
  | _ :: _, [], h => by simp [PySem.W.keyToksAll] at h
  | a :: x, b :: y, h => by
    simp only [List.map_cons, PySem.W.keyToksAll, PySem.W.keyToks, List.cons_append, List.nil_append, List.cons.injEq, true_and, Sum.inr.injEq] at h
    have e : a = b := by
      cases a; cases b
      exact congrArg Str.mk (Array.toList_inj.mp h.1)
    rw [e, toks_inj h.2]
theorem sl_total : PySem.W.TotalLe (fun p q : TxR => slLe p.2 q.2) := PySem.W.sortLe_total (PyProof.Rows.listOrd PyProof.Rows.itemOrd) false fun b : TxR => PySem.W.keyToks (txD b)
theorem not_t {b : Bool} (h : (!b) = true) : b = false := by cases b <;> first | rfl | cases h
theorem sl_anti {x y : List Str} (h1 : slLe x y = true) (h2 : slLe y x = true) : x = y := by
  have e := (PyProof.Rows.listOrd PyProof.Rows.itemOrd).total _ _ (not_t h1) (not_t h2)
  exact (toks_inj e).symm
theorem perm_unmap {α β : Type} {f : α → β} : ∀ {l : List β} {T : List α}, l.Perm (T.map f) → ∃ T' : List α, T'.Perm T ∧ l = T'.map f
  | [], T, h => by
    have e : T = [] := List.map_eq_nil_iff.mp h.symm.eq_nil
    subst e
    exact ⟨[], .nil, rfl⟩
  | v :: r, T, h => by
    obtain ⟨t, ht, rfl⟩ := List.mem_map.mp (h.mem_iff.mp List.mem_cons_self)
    obtain ⟨T1, T2, rfl⟩ := List.append_of_mem ht
    have h2 : (f t :: r).Perm (f t :: (T1 ++ T2).map f) := by
      refine h.trans ?_
      rw [List.map_append, List.map_cons, List.map_append]
      exact List.perm_middle
    obtain ⟨T', p, e⟩ := perm_unmap h2.cons_inv
    exact ⟨t :: T', (p.cons t).trans List.perm_middle.symm, by rw [e]; rfl⟩
/-- texts sorted as tuples stand in one way -/
theorem sl_one {l m : List (List Str)} (h : l.Perm m) (h1 : l.Pairwise fun x y => slLe x y = true) (h2 : m.Pairwise fun x y => slLe x y = true) : l = m := by
  have tot := sl_total
  have tt : ∀ x y : List Str, (slLe x y || slLe y x) = true := fun x y => by
    rcases tot.total (0, x) (0, y) with e | e
    · exact Bool.or_eq_true _ _ ▸ .inl e
    · exact Bool.or_eq_true _ _ ▸ .inr e
  have tn : ∀ x y z : List Str, slLe x y = true → slLe y z = true → slLe x z = true := fun x y z => tot.trans (0, x) (0, y) (0, z)
  have an : ∀ x y : List Str, slLe x y = true → slLe y x = true → x = y := fun x y => sl_anti
  exact (PySem.W.Srt.the_of_perm slLe tn tt an h h1).trans (PySem.W.Srt.the_of_perm slLe tn tt an (List.Perm.refl m) h2).symm
theorem alike_strs : ∀ x y : List Str, PySem.W.alikeAll (x.map .str) (y.map .str) = true
  | [], _ => by simp [PySem.W.alikeAll]
  | _ :: _, [] => by simp [PySem.W.alikeAll]
  | a :: x, b :: y => by simp [PySem.W.alikeAll, PySem.W.alike, alike_strs x y]
theorem depth_strs : ∀ x : List Str, PyData.depthAll (x.map .str) = 0
  | [] => rfl
  | a :: x => by simp [PyData.depthAll, PyData.depth, depth_strs x]
section
variable {P : Program} {w : World} {A : Around} {E : Value → Shared → Prop} {s : Shared}
theorem reads_strs {h : Heap} : ∀ {x : List Str} {vs : List Value}, PySem.ItemsAre (mixKind P w) (x.map Sum.inr) vs → ReadsAll h vs (x.map .str) []
  | [], _, .nil => .nil
  | a :: x, _, .cons h1 r => by
    rcases keyIs_shape (show keyIs (Sum.inr a) _ = true from h1) with ⟨i, t, e, _⟩ | ⟨y, t, e, rfl⟩
    · cases e
    · cases e
      exact .cons (.str a t) (reads_strs r)
theorem reads_tx {h : Heap} {p : TxR} (k : TK P w h (tr p).2 (tr p).1) : Reads h (.ref p.1) (txD p) [] := by
  obtain ⟨o, its, n, ho, hc, hd, hi⟩ := k
  exact .tuple ho hc hd (reads_strs hi)
theorem each_refs (R : Value → TxR → Prop) : ∀ T : List TxR, (∀ p ∈ T, R (.ref p.1) p) → PySem.W.EachIs R (T.map fun p => Value.ref p.1) T
  | [], _ => .nil
  | p :: T, h => .cons (h p List.mem_cons_self) (each_refs R T fun q hq => h q (List.mem_cons_of_mem _ hq))
theorem refs_each : ∀ {vs : List Value} {T : List TxR}, PySem.W.EachIs (fun v (p : TxR) => v = .ref p.1) vs T → vs = T.map fun p => Value.ref p.1
  | _, _, .nil => rfl
  | _, _, .cons e r => by rw [e, refs_each r]; rfl
theorem sorted_pw (T : List TxR) : ((T.mergeSort (PySem.W.dataLe false txD)).map (·.2)).Pairwise fun x y => slLe x y = true := by
  rw [txLe_eq]
  exact List.pairwise_map.mpr (PySem.W.sort_pairwise sl_total T)
/-- sorted(a set of tuples of texts) -/
theorem call_sortedT {a : Addr} {T : List TxR} {Q : Value → Shared → Prop} (hs : InS P w s.heap a (T.map tr)) (tup : ∀ p ∈ T, TK P w s.heap (tr p).2 (tr p).1) (ne : ∀ p ∈ T, p.2 ≠ []) (few : T.length < 300) (hh : A.handled = none) (hu : A.units + 9 < cLine)
    (hQ : ∀ s' q (out : Array Value) (c : Nat) (T' : List TxR), (∀ b o, s.heap.get? b = some o → s'.heap.get? b = some o) → s'.gens = s.gens → s'.os = s.os → s.heap.objs.size ≤ q → s'.heap.get? q = some (seqObj "list" out c) →
      out.toList = T'.map (fun p => Value.ref p.1) → T'.Perm T → (T'.map (·.2)).Pairwise (fun x y => slLe x y = true) → Q (.ref q) s') : wpAny (model P w) A (call (.builtin "sorted") [.ref a]) Q E s := by
  obtain ⟨o, es, ep, t, ho, hex, hd, F, room⟩ := hs
  have sz := F.size
  rw [List.length_map] at sz
  refine Calls.call_function_entry kind_sorted plain_sorted entry_sorted (args_sorted1 _) ?_
  unfold Builtin.«sorted»
  refine wpAny_bind (m := checkCount "sorted" 1 1 _) (wpAny_pure ?_)
  refine wpAny_bind (collect_set (A := A.in1) hh ⟨o, ho, hex.1, hd⟩ F.fits (by unfold scanBound; omega) F.tab.ris F.led fun s1 vs k1 hz g1 o1 pm => ?_)
  have ev : es.toList.map (·.2) = T.map fun p => Value.ref p.1 := by
    rw [F.rows, List.map_map, List.map_map]
    rfl
  rw [ev] at pm
  obtain ⟨T1, pT, rfl⟩ := perm_unmap pm
  have l1 : T1.length < 300 := by rw [pT.length_eq]; exact few
  refine wpAny_bind (wpAny_newList ?_ (by rw [List.length_map, sizeLine_eq]; omega))
  have at1 : (s1.heap.push (seqObj "list" (T1.map fun p => Value.ref p.1).toArray 0)).get? s1.heap.objs.size = some (seqObj "list" (T1.map fun p => Value.ref p.1).toArray 0) := Heap.get?_push_size _ rfl
  refine wpAny_bind (wpAny_holding (PySem.W.list_sort_data (s := { s1 with heap := s1.heap.push (seqObj "list" (T1.map fun p => Value.ref p.1).toArray 0) }) (R := fun v (p : TxR) => v = .ref p.1) (enc := txD) (bs := T1) at1 (each_refs _ T1 fun _ _ => rfl) (each_refs _ T1 fun p hp => ⟨[], reads_tx ((tup p (pT.mem_iff.mp hp)).at fun o e => Heap.get?_push_of_some _ (k1 _ o e)), fun h => nomatch h⟩) (PySem.W.AllAlike.of fun b b' => by unfold txD PySem.W.alike; exact alike_strs _ _) (.inl fun d hd => ?_) (by rw [sizeLine_eq]; omega) (fun b hb => ?_) fun out ol eo => ?_))
  · obtain ⟨p, hp, rfl⟩ := List.mem_map.mp hd
    have n0 := ne p (pT.mem_iff.mp hp)
    unfold txD
    cases e : p.2 with
    | nil => exact absurd e n0
    | cons y r => exact ⟨.str y, r.map .str, rfl⟩
  · unfold txD PyData.depth
    rw [depth_strs]
    show A.units + 1 + 1 + _ < cLine
    omega
  · obtain ⟨c, hc⟩ := sortedHeap_at (vs := T1.map fun p => Value.ref p.1) (out := out.toArray) at1
    refine wpAny_pure ⟨_, rfl, hQ _ s1.heap.objs.size out.toArray c (T1.mergeSort (PySem.W.dataLe false txD)) (fun b u e => ?_) g1 o1 hz hc (by simpa using refs_each eo) ((List.mergeSort_perm T1 _).trans pT) (sorted_pw T1)⟩
    have q := k1 b u e
    have lt := Heap.lt_size q
    show (sortedHeap _ s1.heap.objs.size _ _).get? b = some u
    rw [sortedHeap_old (Nat.ne_of_lt lt) (by rw [size_push']; exact Nat.lt_succ_of_lt lt)]
    exact Heap.get?_push_of_some _ q
end
end Fh

set_option Elab.async false
set_option linter.all false
set_option maxRecDepth 100000
set_option maxHeartbeats 4000000
namespace Fh
open PySem PySem.Spec PyProof.Rows L2
/-! ### set(xs), sorted(set), sorted(xs): tuples of texts -/
def SetTx (P : Program) (w : World) (a : Addr) (T : List TxR) : HO := .ext fun h => InS P w h a (T.map tr)
theorem setTx_new {P : Program} {w : World} {H : Hp} {h : Heap} {a : Addr} {T : List TxR} (R : InS P w h a (T.map tr)) : ObjOk P w H h a (SetTx P w a T) := by
  have ⟨o, es, ep, t, ho, r⟩ := R
  exact ⟨R, ⟨o, ho⟩, fun h1 h2 p k => InS.at p fun o e => k o e⟩
theorem items_strs {P : Program} {w : World} : ∀ {x : List Str} {us : List Value}, Vals (x.map V.str) us → PySem.ItemsAre (mixKind P w) (x.map Sum.inr) us
  | [], _, .nil => .nil
  | y :: x, _, .cons r t => by
    obtain ⟨tk, rfl⟩ := r
    exact .cons (mixKind_str P w y tk) (items_strs t)
theorem refs_vals : ∀ {T : List TxR} {us : List Value}, Vals (T.map fun p => V.ref p.1) us → us = T.map fun p => Value.ref p.1
  | [], _, .nil => rfl
  | p :: T, _, .cons r t => by
    cases r
    rw [refs_vals t]
    rfl
theorem vals_refs : ∀ (T : List TxR), Vals (T.map fun p => V.ref p.1) (T.map fun p => Value.ref p.1)
  | [] => .nil
  | p :: T => .cons rfl (vals_refs T)
/-- those of some rows that are rows of texts -/
theorem tr_back : ∀ {L : List Row} {T : List TxR}, (∀ p ∈ L, p ∈ T.map tr) → ∃ T' : List TxR, L = T'.map tr ∧ ∀ p ∈ T', p ∈ T
  | [], _, _ => ⟨[], rfl, fun p h => (by cases h)⟩
  | p :: L, T, h => by
    obtain ⟨t, ht, e⟩ := List.mem_map.mp (h p List.mem_cons_self)
    obtain ⟨T', e2, s2⟩ := tr_back (L := L) fun q hq => h q (List.mem_cons_of_mem _ hq)
    refine ⟨t :: T', by rw [e2, ← e]; rfl, fun q hq => ?_⟩
    rcases List.mem_cons.mp hq with z | z
    · rw [z]; exact ht
    · exact s2 q z
theorem inr_inj {x y : List Str} (h : x.map (Sum.inr : Str → Key) = y.map Sum.inr) : x = y := List.map_inj_right (fun a b e => Sum.inr.inj e) |>.mp h
section
variable {X : Cx}
theorem Inv.tx {pins : List (Addr × Obj)} {σ : L2.St} {H : Hp} {s : Shared} {p : TxR} (I : Inv X pins σ H s) (h : SqT X.K H p.1 (p.2.map V.str)) : TK X.prog X.w s.heap (tr p).2 (tr p).1 := by
  obtain ⟨its, r, ⟨o, ho, hc, n, hd⟩, _⟩ := I.tuple h
  exact ⟨o, its.toArray, n, ho, hc, hd, by show PySem.ItemsAre _ _ its.toArray.toList; simpa [tr] using items_strs r⟩
def rSetTx (K : PySem.W.Frag) (P : Program) (w : World) : List V → Hp → VK → Prop := fun xs H Q => ∃ (l : Addr) (T : List TxR), xs = [V.ref l] ∧ SqL K H l (T.map fun p => V.ref p.1) ∧ (∀ p ∈ T, SqT K H p.1 (p.2.map V.str)) ∧ T.length < 300 ∧
  ∀ (a : Addr) (T' : List TxR), H a = none → (∀ p ∈ T', p ∈ T) → (∀ p ∈ T, p.2 ∈ T'.map (·.2)) → (T'.map (·.2)).Nodup → T'.length < 300 → Q (.ref a) (upd H a (SetTx P w a T'))
theorem cr_setTx (hc : X.calm = true) (hu : X.A.units + 64 < cLine) : CallR X (.type "set") (rSetTx X.K X.prog X.w) := by
  intro pins s σ H xs us Q I r h
  obtain ⟨l, T, rfl, hl, hk, few, q⟩ := h
  rw [Vals.ref1 r]
  obtain ⟨its, rv, pl, hz⟩ := I.list hl
  have hn : H s.heap.objs.size = none := I.hok.fresh (Nat.le_refl _)
  have ei : its = T.map fun p => Value.ref p.1 := refs_vals rv
  have tu : ∀ p ∈ T.map tr, TK X.prog X.w s.heap p.2 p.1 := fun p hp => by
    obtain ⟨t, ht, rfl⟩ := List.mem_map.mp hp
    exact Inv.tx I (hk t ht)
  refine call_setT (P := X.prog) (w := X.w) (ks := T.map tr) (I.ok.hd hc) pl.isList (by simp [ei]) (by rw [List.length_map]; exact few) (fun i v hv => ?_) tu (by omega) fun h' tk L so me k => ?_
  · rw [ei] at hv
    have hv2 : (T.map fun p => Value.ref p.1)[i]? = some v := by simpa using hv
    rw [List.getElem?_map] at hv2 ⊢
    cases e : T[i]? with
    | none => rw [e] at hv2; cases hv2
    | some t =>
      rw [e] at hv2
      exact ⟨tr t, rfl, (Option.some.inj hv2).symm⟩
  · have sub : ∀ p ∈ L, p ∈ T.map tr := fun p hp => List.mem_of_mem_take (me.sub p hp)
    obtain ⟨T', rfl, s2⟩ := tr_back sub
    have kk : (T'.map tr).map (·.2) = (T'.map (·.2)).map fun x => x.map (Sum.inr : Str → Key) := by
      rw [List.map_map, List.map_map]
      rfl
    refine ⟨.ref s.heap.objs.size, upd H s.heap.objs.size (SetTx X.prog X.w s.heap.objs.size T'), I.laid (t' := tk) k (Nat.le_refl _) (setTx_new so), rfl, q _ T' hn s2 (fun p hp => ?_) ?_ ?_⟩
    · have z := me.all (tr p) (by rw [List.take_length]; exact List.mem_map.mpr ⟨p, hp, rfl⟩)
      rw [kk] at z
      obtain ⟨x, hx, e⟩ := List.mem_map.mp z
      rw [← inr_inj e]
      exact hx
    · have z := me.nd
      rw [kk] at z
      exact L2.nodup_of_map z
    · have z := me.len
      rw [List.length_map, List.length_map] at z
      omega
def rSortedSTx (K : PySem.W.Frag) (P : Program) (w : World) : List V → Hp → VK → Prop := fun vs H Q => ∃ (a : Addr) (T : List TxR), vs = [V.ref a] ∧ H a = some (SetTx P w a T) ∧ (∀ p ∈ T, SqT K H p.1 (p.2.map V.str)) ∧ (∀ p ∈ T, p.2 ≠ []) ∧ T.length < 300 ∧
  ∀ (T' : List TxR) (q : Addr), T'.Perm T → (T'.map (·.2)).Pairwise (fun x y => slLe x y = true) → H q = none → Q (.ref q) (upd H q (.lst (T'.map fun p => V.ref p.1)))
theorem cr_sortedSTx (hc : X.calm = true) (hu : X.A.units + 64 < cLine) : CallR X (.builtin "sorted") (rSortedSTx X.K X.prog X.w) := by
  intro pins s σ H vs us Q I r h
  obtain ⟨a, T, rfl, ha, hk, ne, few, q⟩ := h
  have R0 : InS X.prog X.w s.heap a (T.map tr) := (I.hok a _ ha).1
  rw [Vals.ref1 r]
  refine call_sortedT R0 (fun p hp => Inv.tx I (hk p hp)) ne few (I.ok.hd hc) (by omega) fun s' p out c T' k g o hp hg hout pm pw => ?_
  have few' : T'.length < 300 := by rw [pm.length_eq]; exact few
  have hlen : (T'.map fun q => V.ref q.1).length ≤ sizeLine := by rw [List.length_map, sizeLine_eq]; omega
  have hn : H p = none := I.hok.fresh hp
  have hv : Vals (T'.map fun q => V.ref q.1) out.toList := by rw [hout]; exact vals_refs T'
  have J : Inv X pins σ (upd H p (.lst (T'.map fun q => V.ref q.1))) { s with heap := s'.heap, gens := s'.gens, drawn := s'.drawn, toks := s'.toks } :=
    I.call (ch := []) (Un.laid k hp hn) (I.hok.laid k hp ⟨hlen, out.toList, c, hv, hg⟩) (by rw [g]; exact I.bare) (fun _ z => nomatch z)
  have e : s' = { s with heap := s'.heap, gens := s'.gens, drawn := s'.drawn, toks := s'.toks } := by
    cases s'
    cases s
    cases o
    rfl
  rw [e]
  exact ⟨.ref p, _, J, rfl, q T' p pm pw hn⟩
def rSortedTx (K : PySem.W.Frag) : List V → Hp → VK → Prop := fun vs H Q => ∃ (l : Addr) (T : List TxR), vs = [V.ref l] ∧ SqL K H l (T.map fun p => V.ref p.1) ∧ (∀ p ∈ T, SqT K H p.1 (p.2.map V.str)) ∧ (∀ p ∈ T, p.2 ≠ []) ∧ T.length < 300 ∧
  ∀ (T' : List TxR) (q : Addr), T'.Perm T → (T'.map (·.2)).Pairwise (fun x y => slLe x y = true) → H q = none → Q (.ref q) (upd H q (.lst (T'.map fun p => V.ref p.1)))
theorem cr_sortedTx (hu : X.A.units + 64 < cLine) : CallR X (.builtin "sorted") (rSortedTx X.K) := by
  intro pins s σ H vs us Q I r h
  obtain ⟨l, T, rfl, hl, hk, ne, few, q⟩ := h
  obtain ⟨its, rv, pl, _⟩ := I.list hl
  rw [Vals.ref1 r]
  have ei : its = T.map fun p => Value.ref p.1 := refs_vals rv
  subst ei
  refine PySem.W.sorted_data (R := fun v (p : TxR) => v = .ref p.1) (enc := txD) (bs := T) pl.isList (each_refs _ T fun _ _ => rfl) (each_refs _ T fun p hp => ⟨[], reads_tx (Inv.tx I (hk p hp))⟩) (PySem.W.AllAlike.of fun b b' => by unfold txD PySem.W.alike; exact alike_strs _ _) (.inl fun d hd => ?_) (by rw [sizeLine_eq]; omega) (fun b hb => ?_) fun out ol eo => ?_
  · obtain ⟨p, hp, rfl⟩ := List.mem_map.mp hd
    have n0 := ne p hp
    unfold txD
    cases e : p.2 with
    | nil => exact absurd e n0
    | cons y r => exact ⟨.str y, r.map .str, rfl⟩
  · unfold txD PyData.depth
    rw [depth_strs]
    omega
  · obtain ⟨ep, he⟩ := PyProof.Rows.sortedAll_at s.heap (T.map fun p => Value.ref p.1) out.toArray
    have pm : (T.mergeSort (PySem.W.dataLe false txD)).Perm T := List.mergeSort_perm T _
    have hlen : ((T.mergeSort (PySem.W.dataLe false txD)).map fun q => V.ref q.1).length ≤ sizeLine := by rw [List.length_map, pm.length_eq, sizeLine_eq]; omega
    have hv : Vals ((T.mergeSort (PySem.W.dataLe false txD)).map fun q => V.ref q.1) out.toArray.toList := by
      have z := refs_each eo
      rw [List.toList_toArray, z]
      exact vals_refs _
    exact ⟨.ref _, upd H (s.heap.objs.size + 1) (.lst ((T.mergeSort (PySem.W.dataLe false txD)).map fun q => V.ref q.1)), I.laid (t' := s.toks) (fun _ _ => PyProof.Rows.sortedAll_old) (Nat.le_succ _) ⟨hlen, out.toArray.toList, ep, hv, he⟩, rfl, q _ _ pm (sorted_pw T) (I.hok.fresh (Nat.le_succ _))⟩
end
end Fh

set_option Elab.async false
set_option linter.all false
set_option maxRecDepth 100000
set_option maxHeartbeats 4000000
namespace Fh
open PySem L2 PyProof.Rows
abbrev sStr : Stmt := top 22
abbrev sEnd : Stmt := top 23
abbrev nStr : List Str := ["face", "found", "record", "fields", "kinds", "number", "name", "kind", "need"]
abbrev nEnd : List Str := ["face", "sizes", "names", "record", "fields", "name"]
/-- a list of tuples of texts -/
structure TxL (H : Hp) (p : Addr) (T : List TxR) : Prop where
  l : H p = some (.lst (T.map fun q => V.ref q.1))
  t : ∀ q ∈ T, H q.1 = some (.tup (q.2.map V.str))
def Nob (x : List Str) : Prop := ∃ y z : Str, x = [("nobody" : Str), y, z]
def bad : Option Int → Bool
  | none => true
  | some v => decide (60 < v)
def endL (D : Szs) (recs : List Rec) : List (List Str) := (recs.filter fun r => bad (D r.1)).map fun r => [("endless" : Str), r.1]
def spStr (C : Addr) : Sp := fun vs H Q _ => ∃ (a : Addr) (cs : List (Str × PyData)) (recs : List Rec), vs = [.ref a] ∧ FaceR C H a cs (recs.map rD) ∧ cs.length ≤ 100 ∧ RecsOk recs ∧
  ∀ (p : Addr) (T : List TxR) (H' : Hp), Same H H' → H p = none → TxL H' p T → (∀ q ∈ T, Nob q.2) → T.length ≤ 30 → Q (.ref p) H'
def spEnd (C : Addr) : Sp := fun vs H Q _ => ∃ (a : Addr) (cs : List (Str × PyData)) (recs : List Rec), vs = [.ref a] ∧ FaceR C H a cs (recs.map rD) ∧ cs.length ≤ 100 ∧ Cs1 cs ∧ RecsOk recs ∧
  ∀ (p : Addr) (T : List TxR) (H' : Hp), Same H H' → H p = none → TxL H' p T → T.map (·.2) = endL (turns cs (recs.map rD) recs recs.length) recs → Q (.ref p) H'
theorem nob_name {cs rs : List (Str × PyData)} {k : Kn} (h : nobK cs rs k = true) : ∃ z, k.nm = some z := by
  cases k with
  | one b => cases b with
    | whole => cases h
    | truth => cases h
    | text => cases h
    | rc z => exact ⟨z, rfl⟩
    | ch z => exact ⟨z, rfl⟩
  | lst b => cases b with
    | whole => cases h
    | truth => cases h
    | text => cases h
    | rc z => exact ⟨z, rfl⟩
    | ch z => exact ⟨z, rfl⟩
section
variable {P : Program} {w : World} {K : PySem.W.Frag} {mg : Str → Option Value} {base : Heap}
theorem scStr : FnScope nStr ["face"] (defScope sStr) := ⟨rfl, rfl, rfl, by decide +kernel, rfl, by decide +kernel, by decide +kernel⟩
theorem scEnd : FnScope nEnd ["face"] (defScope sEnd) := ⟨rfl, rfl, rfl, by decide +kernel, rfl, by decide +kernel, by decide +kernel⟩
theorem ok_str {C f : Addr} {fd : FuncData} (F : Fun K "strangers_in_kinds" "strangers_in_kinds" sStr f fd) (G : Glb mg) (cl : Cls K C) (n4 : NoAttr K C "records") (DN : Has P w K mg base "names_nobody" 3 ["face", "kind"] (spNob C fun _ => True)) (DI : Has P w K mg base "name_in" 3 ["kind"] (spNin fun _ => True)) : FnOk P w K mg base CX0 4 f fd ["face"] (spStr C) := by
  refine F.ok scStr (fun vs H Q E h => ?_) (fun cdv A outer s H vs Q E hr h => ?_)
  · obtain ⟨a, cs, recs, rfl, _⟩ := h
    rfl
  · obtain ⟨a, cs, recs, rfl, hF, lc, ok, q⟩ := h
    have ok6 := ok.len
    refine ⟨_, pss_cons (ps_set (i := 1) scStr.nd rfl (Or.inl rfl) (pe_lst pa_nil))
      (pss_cons (ps_for PassesOwn.never rfl (pi_tup (pe_fld (pv 0) rfl)) (pg_tup rfl (pgs_cons (pg_name (i := 2) scStr.nd rfl (.inr rfl)) (pgs_cons (pg_name (i := 3) scStr.nd rfl (.inl rfl)) pgs_nil)))
        (pss_cons (ps_setLc (i := 4) (own := [("number", 5), ("name", 6), ("kind", 7), ("need", 8)]) (g := gTup K 4 (gCons (gName 5) (gCons (gName 6) (gCons (gName 7) (gCons (gName 8) gNil))))) (tt := tYes) (te := tVar 7) rfl scStr.nd rfl rfl (sw_true rfl rfl rfl (by decide +kernel)) (pi_tup (pv 3)) (blkOk_by (N := nStr) (sc := defScope sStr) (by decide +kernel))
            (fun _ _ _ _ _ => pg_tup rfl (pgs_cons (pg_name (i := 5) scStr.nd rfl (.inl rfl)) (pgs_cons (pg_name (i := 6) scStr.nd rfl (.inl rfl)) (pgs_cons (pg_name (i := 7) scStr.nd rfl (.inl rfl)) (pgs_cons (pg_name (i := 8) scStr.nd rfl (.inl rfl)) pgs_nil))))) (fun _ _ _ _ _ => pts_nil) (fun _ _ _ _ _ => pv 7))
        (pss_one (ps_expr (pe_bm PySem.F.plainAttrs_list PySem.F.slot_list_extend PySem.F.type_list_extend mt_extend (pv 1) (pa_cons (pe_lc (own := [("kind", 7)]) (g := gName 7) (te := tTup (tCons (tC (.str "nobody")) (tCons (tVar 2) (tCons (tCall (spNin fun _ => True) [] E0 (tCons (tVar 7) tNil)) tNil)))) rfl scStr.nd (pi_list (pv 4)) (blkOk_by (N := nStr) (sc := defScope sStr) (by decide +kernel))
            (fun _ _ _ _ _ => pg_name (i := 7) scStr.nd rfl (Or.inl rfl)) (fun _ _ _ _ _ => pts_one (pt_val (pe_has DN (hr.mono (by decide)) rfl (pa_cons (pv 0) (pa_cons (pv 7) pa_nil))))) (fun _ _ _ _ _ => pe_tup (pa_cons pe_str (pa_cons (pv 2) (pa_cons (pe_has DI (hr.mono (by decide)) rfl (pa_cons (pv 7) pa_nil)) pa_nil))))) pa_nil))))))
      (pss_one (ps_ret (pv 1)))), ?_⟩
    obtain ⟨dx, v1, v2, v3, v4, v5, hA, t3, t4⟩ := id hF
    obtain ⟨b, xs, rfl, hb, tq⟩ := TpR.inv t4
    have el : xs.length = recs.length := by rw [tq.length, List.length_map, List.length_map]
    refine ⟨Nat.zero_le _, fun p hp => ?_⟩
    have S0 : Same H (upd H p (.lst [])) := Same.new hp
    refine ⟨_, rfl, a, C, dx, _, _, rfl, S0 _ _ hA, cl, n4, ff_records, b, rfl, ⟨_, .inl (Rd.same hb S0)⟩, ?_⟩
    refine for_tup (xs := xs) (fun i σ H3 => ∃ T, (∃ a2 a3 a4 a5 a6 a7 a8, σ = [some (.ref a), some (.ref p), a2, a3, a4, a5, a6, a7, a8]) ∧ Same H H3 ∧ TxL H3 p T ∧ (∀ q ∈ T, Nob q.2) ∧ T.length ≤ 5 * i) ?_ ?_ ?_ ?_
    · exact ⟨[], ⟨_, _, _, _, _, _, _, rfl⟩, S0, ⟨upd_same, fun q h => nomatch h⟩, (fun q h => nomatch h), Nat.le_refl _⟩
    · rintro i σ H3 _ ⟨T, _, S3, _⟩
      exact .inl (Rd.same hb S3)
    · rintro i x σ H3 hx ⟨T, ⟨a2, a3, a4, a5, a6, a7, a8, rfl⟩, S3, X3, N3, l3⟩
      obtain ⟨r, tp, u, hr', rfl, htp, tu⟩ := recs_at tq hx
      have hi := (List.getElem?_eq_some_iff.mp hr').1
      have lf := ok.fl r (List.mem_of_getElem? hr')
      refine ⟨tp, _, rfl, SqT.of (S3 _ _ htp), rfl, _, _, rfl, _, _, rfl, rfl, ?_⟩
      obtain ⟨c, ys, rfl, hc, tys⟩ := Tp.inv tu
      have ly : ys.length = r.2.length := by rw [tys.length, List.length_map]
      refine ⟨_, rfl, c, rfl, ⟨_, SqT.of (S3 _ _ hc)⟩, fun D hD => ?_⟩
      refine lc_tup (xs := ys) (fun j H4 => Same H3 H4 ∧ ∃ us : List V, H4 D = some (.lst us) ∧ us.length ≤ j ∧ ∀ u ∈ us, ∃ k : Kn, Tp H u k.d) ?_ ?_ ?_ ?_
      · exact ⟨Same.new hD, [], upd_same, Nat.le_refl _, fun u h => nomatch h⟩
      · rintro j H4 _ ⟨S4, _⟩
        exact SqT.of (S4 _ _ (S3 _ _ hc))
      · rintro j y H4 hy ⟨S4, us, h4, lu, hu4⟩
        obtain ⟨f2, t2, u2, hf2, rfl, ht2, tu2⟩ := flds_at (fs := r.2) tys hy
        have hj : j < 5 := by
          have := (List.getElem?_eq_some_iff.mp hf2).1
          omega
        refine ⟨t2, _, rfl, SqT.of (S4 _ _ (S3 _ _ ht2)), rfl, _, _, rfl, _, _, rfl, _, _, rfl, _, _, rfl, rfl, rfl, yes (iteT ?_)⟩
        refine ⟨_, rfl, _, h4, Nat.lt_of_le_of_lt lu (Nat.lt_of_lt_of_le hj (by decide)), Same.wr S4 hD, us ++ [u2], upd_same, ?_, fun u hu => ?_⟩
        · rw [List.length_append]
          exact Nat.succ_le_succ lu
        · rcases List.mem_append.mp hu with h | h
          · exact hu4 u h
          · rw [List.mem_singleton.mp h]
            exact ⟨_, tu2⟩
      · rintro H4 ⟨S4, us, h4, lu, hu4⟩
        rw [ly] at lu
        have S04 : Same H H4 := fun b o e => S4 b o (S3 b o e)
        have hp4 := S4 _ _ X3.l
        refine ⟨_, rfl, .inl ⟨rfl, _, SqL.of hp4⟩, ?_⟩
        refine ⟨_, rfl, D, rfl, ⟨_, SqL.of h4⟩, fun D2 hD2 => ?_⟩
        refine lc_list (xs := us) (fun j H5 => Same H4 H5 ∧ ∃ T2, TxL H5 D2 T2 ∧ (∀ q ∈ T2, Nob q.2) ∧ T2.length ≤ j) ?_ ?_ ?_ ?_
        · exact ⟨Same.new hD2, [], ⟨upd_same, fun q h => nomatch h⟩, (fun q h => nomatch h), Nat.le_refl _⟩
        · rintro j H5 _ ⟨S5, _⟩
          exact SqL.of (S5 _ _ h4)
        · rintro j y H5 hy ⟨S5, T2, X5, N5, l5⟩
          have hj : j < 5 := by
            have := (List.getElem?_eq_some_iff.mp hy).1
            omega
          obtain ⟨k, tk⟩ := hu4 y (List.mem_of_getElem? hy)
          have S05 : Same H H5 := fun b o e => S5 b o (S04 b o e)
          refine ⟨rfl, ?_⟩
          refine ⟨_, rfl, _, rfl, a, y, k, cs, recs.map rD, rfl, hF.same S05, lc, (by rw [List.length_map]; omega), Tp.keep (Same.tk S05) _ _ tk, trivial, fun H6 S6 => ?_⟩
          have S56 : Same H4 H6 := fun b o e => S6 b o (S5 b o e)
          have S06 : Same H H6 := fun b o e => S6 b o (S05 b o e)
          cases hnk : nobK cs (recs.map rD) k with
          | false => exact ⟨false, rfl, iteF ⟨S56, T2, ⟨S6 _ _ X5.l, fun q h => S6 _ _ (X5.t q h)⟩, N5, Nat.le_succ_of_le l5⟩⟩
          | true =>
            obtain ⟨z, hz⟩ := nob_name hnk
            refine ⟨true, rfl, iteT ?_⟩
            refine ⟨_, rfl, _, rfl, y, k, z, rfl, Tp.keep (Same.tk S06) _ _ tk, hz, trivial, (by show 3 ≤ sizeLine; decide), fun t ht => ?_⟩
            have l6 := S6 _ _ X5.l
            have nD : t ≠ D2 := fun e => by rw [e, l6] at ht; cases ht
            refine ⟨_, by rw [upd_ne (Ne.symm nD)]; exact l6, ?_, ?_, T2 ++ [(t, [("nobody" : Str), r.1, z])], ⟨?_, fun q hq => ?_⟩, fun q hq => ?_, ?_⟩
            · rw [List.length_map]
              exact Nat.lt_of_le_of_lt l5 (Nat.lt_of_lt_of_le hj (by decide))
            · intro b o e
              have nb : b ≠ D2 := ne_of_none e hD2
              rw [upd_ne nb, upd_ne (ne_of_none (S56 b o e) ht)]
              exact S56 b o e
            · rw [upd_same, List.map_append]
              rfl
            · rcases List.mem_append.mp hq with h | h
              · have e6 := S6 _ _ (X5.t q h)
                have nb : q.1 ≠ D2 := fun e => by rw [e, l6] at e6; cases e6
                rw [upd_ne nb, upd_ne (ne_of_none e6 ht)]
                exact e6
              · rw [List.mem_singleton.mp h]
                show (upd _ D2 _) t = _
                rw [upd_ne nD, upd_same]
                rfl
            · rcases List.mem_append.mp hq with h | h
              · exact N5 q h
              · rw [List.mem_singleton.mp h]
                exact ⟨_, _, rfl⟩
            · rw [List.length_append]
              exact Nat.succ_le_succ l5
        · rintro H5 ⟨S5, T2, X5, N5, l5⟩
          have hp5 := S5 _ _ hp4
          have lt2 : T2.length ≤ 5 := by omega
          refine ⟨p, D2, _, _, rfl, rfl, hp5, X5.l, ?_, ?_⟩
          · rw [List.length_map, List.length_map, sizeLine_eq]
            omega
          · refine ⟨T ++ T2, ⟨_, _, _, _, _, _, _, rfl⟩, Same.wr (fun b o e => S5 b o (S04 b o e)) hp, ⟨by rw [upd_same, List.map_append], fun q hq => ?_⟩, fun q hq => ?_, ?_⟩
            · have e5 : H5 q.1 = some (.tup (q.2.map V.str)) := by
                rcases List.mem_append.mp hq with h | h
                · exact S5 _ _ (S4 _ _ (X3.t q h))
                · exact X5.t q h
              rw [upd_ne (fun e => by rw [e, hp5] at e5; cases e5)]
              exact e5
            · rcases List.mem_append.mp hq with h | h
              · exact N3 q h
              · exact N5 q h
            · rw [List.length_append]
              omega
    · rintro σ H3 ⟨T, ⟨a2, a3, a4, a5, a6, a7, a8, rfl⟩, S3, X3, N3, l3⟩
      exact ⟨_, rfl, q p T H3 S3 hp X3 N3 (by omega)⟩
end
end Fh

set_option Elab.async false
set_option linter.all false
set_option maxRecDepth 100000
set_option maxHeartbeats 4000000
namespace Fh
open PySem L2 PyProof.Rows
theorem endL_add (D : Szs) (a b : List Rec) : endL D (a ++ b) = endL D a ++ endL D b := by unfold endL; rw [List.filter_append, List.map_append]
theorem TxL.same {H H' : Hp} {p : Addr} {T : List TxR} (x : TxL H p T) (s : Same H H') : TxL H' p T := ⟨s _ _ x.l, fun q h => s _ _ (x.t q h)⟩
/-- one more tuple -/
theorem TxL.more {H : Hp} {p t : Addr} {T : List TxR} {y : List Str} (x : TxL H p T) (ht : H t = none) : TxL (upd (upd H t (.tup (y.map V.str))) p (.lst (T.map (fun q => V.ref q.1) ++ [.ref t]))) p (T ++ [(t, y)]) := by
  have nD : t ≠ p := fun e => by rw [e, x.l] at ht; cases ht
  refine ⟨by rw [upd_same, List.map_append]; rfl, fun q hq => ?_⟩
  rcases List.mem_append.mp hq with h | h
  · have e := x.t q h
    have nb : q.1 ≠ p := fun z => by rw [z, x.l] at e; cases e
    rw [upd_ne nb, upd_ne (ne_of_none e ht)]
    exact e
  · rw [List.mem_singleton.mp h]
    show (upd _ p _) t = _
    rw [upd_ne nD, upd_same]
theorem Same.two {H H1 : Hp} {p t : Addr} {o o' : HO} (s : Same H H1) (hp : H p = none) (ht : H1 t = none) : Same H (upd (upd H1 t o) p o') := fun b u e => by
  rw [upd_ne (ne_of_none e hp), upd_ne (ne_of_none (s b u e) ht)]
  exact s b u e
section
variable {P : Program} {w : World} {K : PySem.W.Frag} {mg : Str → Option Value} {base : Heap}
theorem ok_end {C f : Addr} {fd : FuncData} (F : Fun K "endless_records" "endless_records" sEnd f fd) (N : Nums mg) (cl : Cls K C) (n4 : NoAttr K C "records") (DS : Has P w K mg base "least_sizes" 5 ["face"] (spLSizes C)) : FnOk P w K mg base CX0 6 f fd ["face"] (spEnd C) := by
  obtain ⟨tL, hL⟩ := N.least
  refine F.ok scEnd (fun vs H Q E h => ?_) (fun cdv A outer s H vs Q E hr h => ?_)
  · obtain ⟨a, cs, recs, rfl, _⟩ := h
    rfl
  · obtain ⟨a, cs, recs, rfl, hF, lc, c1, ok, q⟩ := h
    have ok6 := ok.len
    have hu := hu_of hr
    refine ⟨_, pss_cons (ps_set (i := 1) scEnd.nd rfl (Or.inr rfl) (pe_has DS hr rfl (pa_cons (pv 0) pa_nil)))
      (pss_cons (ps_setLc (i := 2) (own := [("record", 3), ("fields", 4)]) (g := gTup K 2 (gCons (gName 3) (gCons (gName 4) gNil))) (tt := tYes) (te := tVar 3) rfl scEnd.nd rfl rfl (sw_true rfl rfl rfl (by decide +kernel)) (pi_tup (pe_fld (pv 0) rfl)) (blkOk_by (N := nEnd) (sc := defScope sEnd) (by decide +kernel))
          (fun _ _ _ _ _ => pg_tup rfl (pgs_cons (pg_name (i := 3) scEnd.nd rfl (.inl rfl)) (pgs_cons (pg_name (i := 4) scEnd.nd rfl (.inl rfl)) pgs_nil))) (fun _ _ _ _ _ => pts_nil) (fun _ _ _ _ _ => pv 3))
      (pss_one (ps_ret (pe_lc (own := [("name", 5)]) (g := gName 5) (te := tTup (tCons (tC (.str "endless")) (tCons (tVar 5) tNil))) rfl scEnd.nd (pi_list (pv 2)) (blkOk_by (N := nEnd) (sc := defScope sEnd) (by decide +kernel))
          (fun _ _ _ _ _ => pg_name (i := 5) scEnd.nd rfl (Or.inl rfl)) (fun _ _ _ _ _ => pts_one (PW.pt (pw_or (pt_cmp (pc_dnotin hu (pv 5) (pv 1))) (pw_or1 (pt_cmpR op_gt (pe_dget hu (pv 1) (pv 5) (fun _ _ => rfl)) (pe_glob (v := .int 60) rfl hL ⟨_, rfl⟩) (nomark _)))))) (fun _ _ _ _ _ => pe_tup (pa_cons pe_str (pa_cons (pv 5) pa_nil))))))), ?_⟩
    obtain ⟨dx, v1, v2, v3, v4, v5, hA, t3, t4⟩ := id hF
    refine ⟨_, rfl, a, cs, recs, rfl, hF, lc, c1, ok, fun d kvs H1 S1 hdn hd1 D1 => ?_⟩
    generalize turns cs (recs.map rD) recs recs.length = Dm at *
    obtain ⟨b, xs, rfl, hb, tq⟩ := TpR.inv t4
    have el : xs.length = recs.length := by rw [tq.length, List.length_map, List.length_map]
    refine ⟨_, rfl, a, C, dx, _, _, rfl, S1 _ _ hA, cl, n4, ff_records, b, rfl, ⟨_, .inl (Rd.same hb S1)⟩, fun D hD0 => ?_⟩
    refine lc_tup (xs := xs) (fun i H3 => Same H1 H3 ∧ H3 D = some (.lst (((recs.take i).map (·.1)).map V.str))) ?_ ?_ ?_ ?_
    · exact ⟨Same.new hD0, upd_same⟩
    · rintro i H3 _ ⟨S3, _⟩
      exact .inl (Rd.same (Rd.same hb S1) S3)
    · rintro i z H3 hz ⟨S3, h3⟩
      obtain ⟨r, t, u, hr', rfl, ht, tu⟩ := recs_at tq hz
      have hlt := (List.getElem?_eq_some_iff.mp hr').1
      refine ⟨t, _, rfl, SqT.of (S3 _ _ (S1 _ _ ht)), rfl, _, _, rfl, _, _, rfl, rfl, rfl, yes (iteT ?_)⟩
      refine ⟨_, rfl, _, h3, ?_, Same.wr S3 hD0, ?_⟩
      · rw [List.length_map, List.length_map, List.length_take]
        exact Nat.lt_of_le_of_lt (Nat.min_le_left _ _) (Nat.lt_of_lt_of_le (show i < 6 by omega) (by decide))
      · rw [upd_same, List.take_add_one, hr']
        simp
    rintro H2 ⟨S2, hD⟩
    rw [el, List.take_length] at hD
    have S02 : Same H H2 := fun b o e => S2 b o (S1 b o e)
    have hd2 := S2 _ _ hd1
    refine ⟨_, rfl, D, rfl, ⟨_, SqL.of hD⟩, fun D2 hD2 => ?_⟩
    refine lc_list (xs := (recs.map (·.1)).map V.str) (fun j H5 => Same H2 H5 ∧ ∃ T, TxL H5 D2 T ∧ T.map (·.2) = endL Dm (recs.take j) ∧ T.length ≤ j) ?_ ?_ ?_ ?_
    · exact ⟨Same.new hD2, [], ⟨upd_same, fun q h => nomatch h⟩, rfl, Nat.le_refl _⟩
    · rintro j H5 _ ⟨S5, _⟩
      exact SqL.of (S5 _ _ hD)
    · rintro j y H5 hy ⟨S5, T, X5, e5, l5⟩
      rw [List.getElem?_map, List.getElem?_map] at hy
      cases hrj : recs[j]? with
      | none => rw [hrj] at hy; cases hy
      | some r =>
        rw [hrj] at hy
        cases hy
        have hj := (List.getElem?_eq_some_iff.mp hrj).1
        have hd5 := S5 _ _ hd2
        have e1 : endL Dm (recs.take (j + 1)) = endL Dm (recs.take j) ++ endL Dm [r] := by
          rw [List.take_add_one, hrj, endL_add]
          rfl
        have yes1 : bad (Dm r.1) = true → ∀ t, H5 t = none → ∃ acc, (upd H5 t (.tup [.str "endless", .str r.1])) D2 = some (.lst acc) ∧ acc.length < sizeLine ∧ (Same H2 (upd (upd H5 t (.tup [.str "endless", .str r.1])) D2 (.lst (acc ++ [.ref t]))) ∧ ∃ T, TxL (upd (upd H5 t (.tup [.str "endless", .str r.1])) D2 (.lst (acc ++ [.ref t]))) D2 T ∧ T.map (·.2) = endL Dm (recs.take (j + 1)) ∧ T.length ≤ j + 1) := fun hb t ht => by
          have nD : D2 ≠ t := fun e => by rw [← e, X5.l] at ht; cases ht
          refine ⟨_, by rw [upd_ne nD]; exact X5.l, ?_, Same.two S5 hD2 ht, _, TxL.more (y := [("endless" : Str), r.1]) X5 ht, ?_, ?_⟩
          · rw [List.length_map]
            exact Nat.lt_of_le_of_lt l5 (Nat.lt_of_lt_of_le (show j < 6 by omega) (by decide))
          · rw [List.map_append, e5, e1]
            congr 1
            unfold endL
            rw [List.filter_cons, if_pos hb]
            rfl
          · rw [List.length_append]
            exact Nat.succ_le_succ l5
        refine ⟨rfl, ?_⟩
        refine ⟨_, rfl, _, rfl, d, _, rfl, DGet.k (k := Sum.inr r.1) hd5, _, rfl, ?_⟩
        have ev := D1 r.1
        cases hv : Dm r.1 with
        | none =>
          rw [hv] at ev
          rw [ev]
          refine iteT (iteT ?_)
          exact ⟨_, rfl, (by show 2 ≤ sizeLine; decide), fun t ht => yes1 (by rw [hv]; rfl) t ht⟩
        | some v =>
          rw [hv] at ev
          rw [ev]
          refine iteF ?_
          refine ⟨_, rfl, _, rfl, d, .int v, rfl, by have z := DGet.k (k := Sum.inr r.1) hd5; rw [ev] at z; exact z, _, _, rfl, rfl, _, rfl, ?_⟩
          refine ite2 (fun h => ?_) (fun h => ?_)
          · exact ⟨_, rfl, (by show 2 ≤ sizeLine; decide), fun t ht => yes1 (by rw [hv]; exact h) t ht⟩
          · refine ⟨S5, T, X5, ?_, Nat.le_succ_of_le l5⟩
            rw [e5, e1]
            have e0 : endL Dm [r] = [] := by
              unfold endL
              rw [List.filter_cons, if_neg (by rw [hv]; exact h)]
              rfl
            rw [e0, List.append_nil]
    · rintro H5 ⟨S5, T, X5, e5, l5⟩
      rw [List.length_map, List.length_map, List.take_length] at e5
      exact q D2 T H5 (fun b o e => S5 b o (S02 b o e)) (Same.free S02 hD2) X5 e5
end
end Fh

set_option Elab.async false
set_option linter.all false
set_option maxRecDepth 100000
set_option maxHeartbeats 4000000
namespace Fh
open PySem PySem.Spec PyProof.Rows L2
/-! ### rows of ints and texts in python's order -/
def tok : Key → Int ⊕ List Nat
  | .inl i => .inl i
  | .inr z => .inr z.cps.toList
theorem tok_inj {a b : Key} (h : tok a = tok b) : a = b := by
  cases a <;> cases b
  · exact congrArg Sum.inl (Sum.inl.inj h)
  · cases h
  · cases h
  · have e := Sum.inr.inj h
    rename_i x y
    cases x; cases y
    exact congrArg Sum.inr (congrArg Str.mk (Array.toList_inj.mp e))
theorem toks_injK : ∀ {x y : List Key}, x.map tok = y.map tok → x = y
  | [], [], _ => rfl
  | [], _ :: _, h => by cases h
  | _ :: _, [], h => by cases h
  | a :: x, b :: y, h => by
    rw [List.map_cons, List.map_cons] at h
    injection h with h1 h2
    rw [tok_inj h1, toks_injK h2]
def rowLt (x y : List Key) : Bool := (PyProof.Rows.listOrd PyProof.Rows.itemOrd).blt (x.map tok) (y.map tok)
/-- where two rows part, both have an int or both a text -/
def Cm : List Key → List Key → Prop
  | a :: x, b :: y => (a = b ∧ Cm x y) ∨ (a ≠ b ∧ ((∃ i j, a = .inl i ∧ b = .inl j) ∨ ∃ s t, a = .inr s ∧ b = .inr t))
  | _, _ => True
theorem rowLt_same (a : Key) (x y : List Key) : rowLt (a :: x) (a :: y) = rowLt x y := by
  show (PyProof.Rows.itemOrd.blt (tok a) (tok a) || (!PyProof.Rows.itemOrd.blt (tok a) (tok a) && rowLt x y)) = rowLt x y
  rw [PyProof.Rows.itemOrd.irrefl]
  rfl
theorem rowLt_part {a b : Key} (ne : a ≠ b) (x y : List Key) : rowLt (a :: x) (b :: y) = PyProof.Rows.itemOrd.blt (tok a) (tok b) := by
  show (PyProof.Rows.itemOrd.blt (tok a) (tok b) || (!PyProof.Rows.itemOrd.blt (tok b) (tok a) && rowLt x y)) = _
  cases h : PyProof.Rows.itemOrd.blt (tok a) (tok b) with
  | true => rfl
  | false =>
    cases h2 : PyProof.Rows.itemOrd.blt (tok b) (tok a) with
    | true => rfl
    | false => exact absurd (tok_inj (PyProof.Rows.itemOrd.total _ _ h h2)) ne
theorem rowLt_asym {x y : List Key} (h : rowLt x y = true) : rowLt y x = false := by
  cases h2 : rowLt y x with
  | false => rfl
  | true =>
    have := (PyProof.Rows.listOrd PyProof.Rows.itemOrd).trans _ _ _ h h2
    rw [(PyProof.Rows.listOrd PyProof.Rows.itemOrd).irrefl] at this
    cases this
theorem rowLt_tr {x y z : List Key} (h1 : rowLt y x = false) (h2 : rowLt z y = false) : rowLt z x = false := by
  cases h : rowLt z x with
  | false => rfl
  | true =>
    rcases (PyProof.Rows.listOrd PyProof.Rows.itemOrd).negTrans _ (y.map tok) _ h with q | q
    · exact absurd (show rowLt z y = true from q) (by rw [h2]; exact Bool.false_ne_true)
    · exact absurd (show rowLt y x = true from q) (by rw [h1]; exact Bool.false_ne_true)
theorem rowLt_tot {x y : List Key} (h1 : rowLt x y = false) (h2 : rowLt y x = false) : x = y := toks_injK ((PyProof.Rows.listOrd PyProof.Rows.itemOrd).total _ _ h1 h2)
def rowLe (x y : List Key) : Bool := !rowLt y x
/-- sorted rows stand in one way -/
theorem rows_one {l m : List (List Key)} (h : l.Perm m) (h1 : l.Pairwise fun x y => rowLe x y = true) (h2 : m.Pairwise fun x y => rowLe x y = true) : l = m := by
  have no : ∀ {b : Bool}, (!b) = true → b = false := fun {b} h => by cases b <;> first | rfl | cases h
  have tt : ∀ x y : List Key, (rowLe x y || rowLe y x) = true := fun x y => by
    unfold rowLe
    cases e : rowLt y x with
    | false => rfl
    | true => rw [rowLt_asym e]; rfl
  have tn : ∀ x y z : List Key, rowLe x y = true → rowLe y z = true → rowLe x z = true := fun x y z a b => by
    show (!rowLt z x) = true
    rw [rowLt_tr (no a) (no b)]
    rfl
  have an : ∀ x y : List Key, rowLe x y = true → rowLe y x = true → x = y := fun x y a b => rowLt_tot (no b) (no a)
  exact (PySem.W.Srt.the_of_perm rowLe tn tt an h h1).trans (PySem.W.Srt.the_of_perm rowLe tn tt an (List.Perm.refl m) h2).symm
section
variable {P : Program} {w : World} {A : Around} {E : Value → Shared → Prop} {s : Shared}
theorem items_len {k : List Key} {vs : List Value} (h : PySem.ItemsAre (mixKind P w) k vs) : vs.length = k.length := by
  induction h with
  | nil => rfl
  | cons _ _ ih => rw [List.length_cons, List.length_cons, ih]
theorem items_inj : ∀ {k k' : List Key} {vs : List Value}, PySem.ItemsAre (mixKind P w) k vs → PySem.ItemsAre (mixKind P w) k' vs → k = k'
  | _, _, _, .nil, .nil => rfl
  | a :: k, b :: k', _, .cons h1 r1, .cons h2 r2 => by
    rw [items_inj r1 r2]
    congr 1
    rcases keyIs_shape (show keyIs a _ = true from h1) with ⟨i, t, rfl, e⟩ | ⟨z, t, rfl, e⟩ <;> rcases keyIs_shape (show keyIs b _ = true from h2) with ⟨j, u, rfl, e2⟩ | ⟨y, u, rfl, e2⟩ <;> rw [e] at e2 <;> cases e2 <;> rfl
theorem TK.inj {h : Heap} {k k' : List Key} {x : Addr} (h1 : TK P w h k x) (h2 : TK P w h k' x) : k = k' := by
  obtain ⟨o, its, n, ho, _, hd, hi⟩ := h1
  obtain ⟨o2, its2, n2, ho2, _, hd2, hi2⟩ := h2
  rw [ho] at ho2
  cases ho2
  rw [hd] at hd2
  cases hd2
  exact items_inj hi hi2
/-- two rows compared -/
theorem kat_rows {b fin : Bool} {Q : Bool → Shared → Prop} (hu : A.units < cLine) : ∀ {x y : List Key} {vs ws : List Value} (i : Nat), PySem.ItemsAre (mixKind P w) x vs → PySem.ItemsAre (mixKind P w) y ws → Cm x y → fin = decide (x.length < y.length) → Q (rowLt x y) s → PySem.W.KatLex P w A b fin Q (vs.zip ws) i s
  | [], [], _, _, i, .nil, .nil, _, e, q => PySem.W.kat_nil (by rw [e]; exact q)
  | [], _ :: _, _, _, i, .nil, .cons _ _, _, e, q => PySem.W.kat_nil (by rw [e]; exact q)
  | _ :: _, [], _, _, i, .cons _ _, .nil, _, e, q => PySem.W.kat_nil (by rw [e]; exact q)
  | a :: x, c :: y, _, _, i, .cons h1 r1, .cons h2 r2, cm, e, q => by
    have e' : fin = decide (x.length < y.length) := by
      rw [e]
      simp
    refine PySem.W.kat_cons ?_
    rcases cm with ⟨rfl, cm⟩ | ⟨ne, cm⟩
    · have go := kat_rows (b := b) (Q := Q) hu (i + 1) r1 r2 cm e' (by rw [← rowLt_same a]; exact q)
      rcases keyIs_shape (show keyIs a _ = true from h1) with ⟨i1, t, rfl, rfl⟩ | ⟨z, t, rfl, rfl⟩
      · rcases keyIs_shape (show keyIs (Sum.inl i1) _ = true from h2) with ⟨j, u, e2, rfl⟩ | ⟨_, _, e2, _⟩ <;> cases e2
        refine PySem.wpAny_eqBool_int ?_
        rw [show (i1 == i1) = true from beq_self_eq_true i1]
        exact PySem.W.kat_yes go
      · rcases keyIs_shape (show keyIs (Sum.inr z) _ = true from h2) with ⟨_, _, e2, _⟩ | ⟨y2, u, e2, rfl⟩ <;> cases e2
        refine PySem.wpAny_eqBool_str ?_
        rw [decide_eq_true rfl]
        exact PySem.W.kat_yes go
    · rw [rowLt_part ne] at q
      rcases cm with ⟨i1, j, rfl, rfl⟩ | ⟨z, y2, rfl, rfl⟩
      · rcases keyIs_shape (show keyIs (Sum.inl i1) _ = true from h1) with ⟨i2, t, e2, rfl⟩ | ⟨_, _, e2, _⟩ <;> cases e2
        rcases keyIs_shape (show keyIs (Sum.inl j) _ = true from h2) with ⟨j2, u, e2, rfl⟩ | ⟨_, _, e2, _⟩ <;> cases e2
        refine PySem.wpAny_eqBool_int ?_
        rw [show (i1 == j) = false from beq_eq_false_iff_ne.mpr fun h => ne (by rw [h])]
        refine PySem.W.kat_no (PySem.W.oneLt_alike (da := .int i1) (db := .int j) (fun _ _ h => nomatch h) (.int i1 t) (.int j u) (by simp [PySem.W.alike]) (fun h => nomatch h) (by simp [PyData.depth]; exact hu) ?_)
        have : PySem.W.dataLt (.int i1) (.int j) = PyProof.Rows.itemOrd.blt (tok (.inl i1)) (tok (.inl j)) := by
          show (PyProof.Rows.itemOrd.blt (.inl i1) (.inl j) || (!PyProof.Rows.itemOrd.blt (.inl j) (.inl i1) && false)) = _
          rw [Bool.and_false, Bool.or_false]
          rfl
        rw [this]
        exact q
      · rcases keyIs_shape (show keyIs (Sum.inr z) _ = true from h1) with ⟨_, _, e2, _⟩ | ⟨z2, t, e2, rfl⟩ <;> cases e2
        rcases keyIs_shape (show keyIs (Sum.inr y2) _ = true from h2) with ⟨_, _, e2, _⟩ | ⟨y3, u, e2, rfl⟩ <;> cases e2
        refine PySem.wpAny_eqBool_str ?_
        rw [decide_eq_false fun h => ne (by rw [h])]
        refine PySem.W.kat_no (PySem.W.oneLt_alike (da := .str z) (db := .str y2) (fun _ _ h => nomatch h) (.str z t) (.str y2 u) (by simp [PySem.W.alike]) (fun h => nomatch h) (by simp [PyData.depth]; exact hu) ?_)
        have : PySem.W.dataLt (.str z) (.str y2) = PyProof.Rows.itemOrd.blt (tok (.inr z)) (tok (.inr y2)) := by
          show (PyProof.Rows.itemOrd.blt (.inr z.cps.toList) (.inr y2.cps.toList) || (!PyProof.Rows.itemOrd.blt (.inr y2.cps.toList) (.inr z.cps.toList) && false)) = _
          rw [Bool.and_false, Bool.or_false]
          rfl
        rw [this]
        exact q
/-- what row stands at a value -/
noncomputable def decR (T : List Row) (v : Value) : List Key := by
  classical
  exact if h : ∃ p ∈ T, v = .ref p.1 then (Classical.choose h).2 else []
noncomputable def ltvR (T : List Row) (v u : Value) : Bool := rowLt (decR T v) (decR T u)
theorem decR_at {T : List Row} (tup : ∀ p ∈ T, TK P w s.heap p.2 p.1) {p : Row} (hp : p ∈ T) : decR T (.ref p.1) = p.2 := by
  have h : ∃ q ∈ T, Value.ref p.1 = .ref q.1 := ⟨p, hp, rfl⟩
  unfold decR
  rw [dif_pos h]
  obtain ⟨h1, h2⟩ := Classical.choose_spec h
  have e : (Classical.choose h).1 = p.1 := (Value.ref.inj h2).symm
  have t1 := tup _ h1
  rw [e] at t1
  exact TK.inj t1 (tup p hp)
theorem swoR (T : List Row) : SrtO.Swo (ltvR T) := ⟨fun _ _ h => rowLt_asym h, fun _ _ _ h1 h2 => rowLt_tr h1 h2⟩
theorem kat_tups {h : Heap} : ∀ (T : List Row), (∀ p ∈ T, TK P w h p.2 p.1) → (∀ p ∈ T, ∃ z r, p.2 = .inr z :: r) → ∃ fs, PySem.W.KatTups h (T.map fun p => .ref p.1) fs ∧ fs.length = T.length ∧ ∀ v ∈ fs, ∃ z t, v = Value.str z t
  | [], _, _ => ⟨[], .nil, rfl, fun v h => nomatch h⟩
  | p :: T, tup, fst => by
    obtain ⟨fs, f1, f2, f3⟩ := kat_tups T (fun q hq => tup q (List.mem_cons_of_mem _ hq)) fun q hq => fst q (List.mem_cons_of_mem _ hq)
    obtain ⟨o, its, n, ho, hc, hd, hi⟩ := tup p List.mem_cons_self
    obtain ⟨z, r, e⟩ := fst p List.mem_cons_self
    rw [e] at hi
    obtain ⟨v, vr, ev, h1⟩ : ∃ v vr, its.toList = v :: vr ∧ (mixKind P w).is (.inr z) v = true := by
      generalize its.toList = l at hi
      cases hi with
      | cons h1 _ => exact ⟨_, _, rfl, h1⟩
    rcases keyIs_shape (show keyIs (Sum.inr z) v = true from h1) with ⟨_, _, e2, _⟩ | ⟨z2, t, e2, rfl⟩ <;> cases e2
    refine ⟨.str z t :: fs, .cons ho hc hd ?_ f1, by rw [List.length_cons, List.length_cons, f2], fun v hv => ?_⟩
    · rw [← Array.getElem?_toList, ev]
      rfl
    · rcases List.mem_cons.mp hv with rfl | hv
      · exact ⟨z, t, rfl⟩
      · exact f3 v hv
theorem rows_sortable {a : Addr} {T : List Row} {vs : Array Value} {n : Nat} (ha : s.heap.get? a = some (seqObj "list" vs n)) (tup : ∀ p ∈ T, TK P w s.heap p.2 p.1) (cm : ∀ p ∈ T, ∀ q ∈ T, Cm p.2 q.2) (fst : ∀ p ∈ T, ∃ z r, p.2 = .inr z :: r) (two : 0 < T.length) (hu : A.units < cLine) :
    SrtO.SortableO P w A s a (T.map fun p => .ref p.1) (ltvR T) := fun h' keep => by
  have tup' : ∀ p ∈ T, TK P w h' p.2 p.1 := fun p hp => (tup p hp).at fun o ho => keep _ _ (fun e => by
    obtain ⟨o2, its, m, ho2, hc, _⟩ := tup p hp
    rw [e, ha] at ho2
    cases ho2
    exact absurd (show Value.type "list" = Value.type "tuple" from hc) (by decide)) ho
  obtain ⟨fs, f1, f2, f3⟩ := kat_tups T tup' fst
  refine ⟨tuples' (Value.type "str" != Value.type "tuple"), fun Q E q => PySem.W.kat_kind (s := { s with heap := h' }) f1 (by omega) (fun v hv => ?_) (by decide) q, fun p q hp hq => ?_⟩
  · obtain ⟨z, t, rfl⟩ := f3 v hv
    exact PySem.W.looks_reads (.str z t)
  · obtain ⟨x, hx, e1⟩ := List.mem_map.mp hp
    obtain ⟨y, hy, e2⟩ := List.mem_map.mp hq
    obtain ⟨o, its, n1, ho, hc, hd, hi⟩ := tup' x hx
    obtain ⟨o2, its2, n2, ho2, hc2, hd2, hi2⟩ := tup' y hy
    rw [← e1, ← e2]
    refine PySem.W.kat_lt (s := { s with heap := h' }) ho hd ho2 hd2 (kat_rows hu 0 hi hi2 (cm x hx y hy) ?_ ⟨rfl, ?_⟩)
    · have l1 := items_len hi
      have l2 := items_len hi2
      rw [Array.length_toList] at l1 l2
      rw [l1, l2]
    · show rowLt x.2 y.2 = rowLt (decR T p.1) (decR T q.1)
      rw [← e1, ← e2, decR_at tup hx, decR_at tup hy]
theorem refs_unmap : ∀ {vs : List Value} {T : List Row}, vs.Perm (T.map fun p => Value.ref p.1) → ∃ T' : List Row, T'.Perm T ∧ vs = T'.map fun p => Value.ref p.1 := fun h => perm_unmap h
/-- sorted(a set of rows) -/
theorem call_sortedR {a : Addr} {T : List Row} {Q : Value → Shared → Prop} (hs : InS P w s.heap a T) (tup : ∀ p ∈ T, TK P w s.heap p.2 p.1) (cm : ∀ p ∈ T, ∀ q ∈ T, Cm p.2 q.2) (fst : ∀ p ∈ T, ∃ z r, p.2 = .inr z :: r) (few : T.length < 300) (hh : A.handled = none) (hu : A.units + 9 < cLine)
    (hQ : ∀ s' q (out : Array Value) (c : Nat) (T' : List Row), (∀ b o, s.heap.get? b = some o → s'.heap.get? b = some o) → s'.gens = s.gens → s'.os = s.os → s.heap.objs.size ≤ q → s'.heap.get? q = some (seqObj "list" out c) →
      out.toList = T'.map (fun p => Value.ref p.1) → T'.Perm T → (T'.map (·.2)).Pairwise (fun x y => rowLe x y = true) → Q (.ref q) s') : wpAny (model P w) A (call (.builtin "sorted") [.ref a]) Q E s := by
  obtain ⟨o, es, ep, t, ho, hex, hd, F, room⟩ := hs
  have sz := F.size
  refine Calls.call_function_entry kind_sorted plain_sorted entry_sorted (args_sorted1 _) ?_
  unfold Builtin.«sorted»
  refine wpAny_bind (m := checkCount "sorted" 1 1 _) (wpAny_pure ?_)
  refine wpAny_bind (collect_set (A := A.in1) hh ⟨o, ho, hex.1, hd⟩ F.fits (by unfold scanBound; omega) F.tab.ris F.led fun s1 vs k1 hz g1 o1 pm => ?_)
  have ev : es.toList.map (·.2) = T.map fun p => Value.ref p.1 := by
    rw [F.rows, List.map_map]
    rfl
  rw [ev] at pm
  obtain ⟨T1, pT, rfl⟩ := refs_unmap pm
  have l1 : T1.length < 300 := by rw [pT.length_eq]; exact few
  refine wpAny_bind (wpAny_newList ?_ (by rw [List.length_map, sizeLine_eq]; omega))
  have at1 : (s1.heap.push (seqObj "list" (T1.map fun p => Value.ref p.1).toArray 0)).get? s1.heap.objs.size = some (seqObj "list" (T1.map fun p => Value.ref p.1).toArray 0) := Heap.get?_push_size _ rfl
  have tup1 : ∀ p ∈ T1, TK P w (s1.heap.push (seqObj "list" (T1.map fun p => Value.ref p.1).toArray 0)) p.2 p.1 := fun p hp => (tup p (pT.mem_iff.mp hp)).at fun o e => Heap.get?_push_of_some _ (k1 _ o e)
  refine wpAny_bind (wpAny_holding (wpAny_call (codeAny_call_builtin (by decide +kernel) PySem.F.entry_list_sort (PySem.F.slot_list_sort.check _ _ _ _ _ _ _ _ ⟨_, at1, rfl⟩ (PyProof.Rows.args_list_sort _) (SrtO.list_sort_ord (s := { s1 with heap := s1.heap.push (seqObj "list" (T1.map fun p => Value.ref p.1).toArray 0) }) (swoR T1) at1 (by rw [List.length_map, sizeLine_eq]; omega) (fun two => ?_) fun out so st => ?_)))))
  · exact rows_sortable (s := { s1 with heap := s1.heap.push (seqObj "list" (T1.map fun p => Value.ref p.1).toArray 0) }) at1 tup1 (fun p hp q hq => cm p (pT.mem_iff.mp hp) q (pT.mem_iff.mp hq)) (fun p hp => fst p (pT.mem_iff.mp hp)) (by rw [List.length_map] at two; omega) (by show A.units + 1 + 1 < cLine; omega)
  · obtain ⟨T2, p2, rfl⟩ := refs_unmap st.perm
    obtain ⟨c, hc⟩ := sortedHeap_at (vs := T1.map fun p => Value.ref p.1) (out := (T2.map fun p => Value.ref p.1).toArray) at1
    refine wpAny_pure ⟨_, rfl, hQ _ s1.heap.objs.size (T2.map fun p => Value.ref p.1).toArray c T2 (fun b u e => ?_) g1 o1 hz hc (by simp) (p2.trans pT) ?_⟩
    · have q := k1 b u e
      have lt := Heap.lt_size q
      show (sortedHeap _ s1.heap.objs.size _ _).get? b = some u
      rw [sortedHeap_old (Nat.ne_of_lt lt) (by rw [size_push']; exact Nat.lt_succ_of_lt lt)]
      exact Heap.get?_push_of_some _ q
    · have so : (T2.map fun p => Value.ref p.1).Pairwise fun x y => ltvR T1 y x = false := so
      rw [List.pairwise_map] at so ⊢
      refine so.imp_of_mem fun {x y} hx hy h => ?_
      have h : rowLt (decR T1 (.ref y.1)) (decR T1 (.ref x.1)) = false := h
      rw [decR_at (s := { s1 with heap := s1.heap.push (seqObj "list" (T1.map fun p => Value.ref p.1).toArray 0) }) tup1 (p2.mem_iff.mp hx), decR_at (s := { s1 with heap := s1.heap.push (seqObj "list" (T1.map fun p => Value.ref p.1).toArray 0) }) tup1 (p2.mem_iff.mp hy)] at h
      show (!rowLt y.2 x.2) = true
      rw [h]
      rfl
end
end Fh

set_option Elab.async false
set_option linter.all false
set_option maxRecDepth 100000
set_option maxHeartbeats 4000000
namespace Fh
open PySem PySem.Spec PyProof.Rows L2
/-! ### set(xs), sorted(set): rows of ints and texts -/
def SetKx (P : Program) (w : World) (a : Addr) (T : List Row) : HO := .ext fun h => InS P w h a T
theorem setKx_new {P : Program} {w : World} {H : Hp} {h : Heap} {a : Addr} {T : List Row} (R : InS P w h a T) : ObjOk P w H h a (SetKx P w a T) := by
  have ⟨o, es, ep, t, ho, r⟩ := R
  exact ⟨R, ⟨o, ho⟩, fun h1 h2 p k => InS.at p fun o e => k o e⟩
theorem items_keys {P : Program} {w : World} : ∀ {x : List Key} {us : List Value}, Vals (x.map kV) us → PySem.ItemsAre (mixKind P w) x us
  | [], [], .nil => .nil
  | .inr y :: x, _, .cons r t => by
    obtain ⟨tk, rfl⟩ := r
    exact .cons (mixKind_str P w y tk) (items_keys t)
  | .inl i :: x, _, .cons r t => by
    obtain ⟨tk, rfl⟩ := r
    exact .cons (mixKind_int P w i tk) (items_keys t)
theorem refs_valsK : ∀ {T : List Row} {us : List Value}, Vals (T.map fun p => V.ref p.1) us → us = T.map fun p => Value.ref p.1
  | [], _, .nil => rfl
  | p :: T, _, .cons r t => by
    cases r
    rw [refs_valsK t]
    rfl
theorem vals_refsK : ∀ (T : List Row), Vals (T.map fun p => V.ref p.1) (T.map fun p => Value.ref p.1)
  | [] => .nil
  | p :: T => .cons rfl (vals_refsK T)
section
variable {X : Cx}
theorem Inv.key {pins : List (Addr × Obj)} {σ : L2.St} {H : Hp} {s : Shared} {p : Row} (I : Inv X pins σ H s) (h : SqT X.K H p.1 (p.2.map kV)) : TK X.prog X.w s.heap p.2 p.1 := by
  obtain ⟨its, r, ⟨o, ho, hc, n, hd⟩, _⟩ := I.tuple h
  exact ⟨o, its.toArray, n, ho, hc, hd, by show PySem.ItemsAre _ _ its.toArray.toList; simpa using items_keys r⟩
def rSetKx (K : PySem.W.Frag) (P : Program) (w : World) : List V → Hp → VK → Prop := fun xs H Q => ∃ (l : Addr) (T : List Row), xs = [V.ref l] ∧ SqL K H l (T.map fun p => V.ref p.1) ∧ (∀ p ∈ T, SqT K H p.1 (p.2.map kV)) ∧ T.length < 300 ∧
  ∀ (a : Addr) (T' : List Row), H a = none → (∀ p ∈ T', p ∈ T) → (∀ p ∈ T, p.2 ∈ T'.map (·.2)) → (T'.map (·.2)).Nodup → T'.length < 300 → Q (.ref a) (upd H a (SetKx P w a T'))
theorem cr_setKx (hc : X.calm = true) (hu : X.A.units + 64 < cLine) : CallR X (.type "set") (rSetKx X.K X.prog X.w) := by
  intro pins s σ H xs us Q I r h
  obtain ⟨l, T, rfl, hl, hk, few, q⟩ := h
  rw [Vals.ref1 r]
  obtain ⟨its, rv, pl, hz⟩ := I.list hl
  have hn : H s.heap.objs.size = none := I.hok.fresh (Nat.le_refl _)
  have ei : its = T.map fun p => Value.ref p.1 := refs_valsK rv
  have tu : ∀ p ∈ T, TK X.prog X.w s.heap p.2 p.1 := fun p hp => Inv.key I (hk p hp)
  refine call_setT (P := X.prog) (w := X.w) (ks := T) (I.ok.hd hc) pl.isList (by simp [ei]) few (fun i v hv => ?_) tu (by omega) fun h' tk L so me k => ?_
  · rw [ei] at hv
    have hv2 : (T.map fun p => Value.ref p.1)[i]? = some v := by simpa using hv
    rw [List.getElem?_map] at hv2
    cases e : T[i]? with
    | none => rw [e] at hv2; cases hv2
    | some t =>
      rw [e] at hv2
      exact ⟨t, rfl, (Option.some.inj hv2).symm⟩
  · have sub : ∀ p ∈ L, p ∈ T := fun p hp => List.mem_of_mem_take (me.sub p hp)
    refine ⟨.ref s.heap.objs.size, upd H s.heap.objs.size (SetKx X.prog X.w s.heap.objs.size L), I.laid (t' := tk) k (Nat.le_refl _) (setKx_new so), rfl, q _ L hn sub (fun p hp => me.all p (by rw [List.take_length]; exact hp)) me.nd ?_⟩
    have := me.len
    omega
def rSortedSKx (K : PySem.W.Frag) (P : Program) (w : World) : List V → Hp → VK → Prop := fun vs H Q => ∃ (a : Addr) (T : List Row), vs = [V.ref a] ∧ H a = some (SetKx P w a T) ∧ (∀ p ∈ T, SqT K H p.1 (p.2.map kV)) ∧ (∀ p ∈ T, ∀ q ∈ T, Cm p.2 q.2) ∧ (∀ p ∈ T, ∃ z r, p.2 = .inr z :: r) ∧ T.length < 300 ∧
  ∀ (T' : List Row) (q : Addr), T'.Perm T → (T'.map (·.2)).Pairwise (fun x y => rowLe x y = true) → H q = none → Q (.ref q) (upd H q (.lst (T'.map fun p => V.ref p.1)))
theorem cr_sortedSKx (hc : X.calm = true) (hu : X.A.units + 64 < cLine) : CallR X (.builtin "sorted") (rSortedSKx X.K X.prog X.w) := by
  intro pins s σ H vs us Q I r h
  obtain ⟨a, T, rfl, ha, hk, cm, fst, few, q⟩ := h
  have R0 : InS X.prog X.w s.heap a T := (I.hok a _ ha).1
  rw [Vals.ref1 r]
  refine call_sortedR R0 (fun p hp => Inv.key I (hk p hp)) cm fst few (I.ok.hd hc) (by omega) fun s' p out c T' k g o hp hg hout pm pw => ?_
  have few' : T'.length < 300 := by rw [pm.length_eq]; exact few
  have hlen : (T'.map fun q => V.ref q.1).length ≤ sizeLine := by rw [List.length_map, sizeLine_eq]; omega
  have hn : H p = none := I.hok.fresh hp
  have hv : Vals (T'.map fun q => V.ref q.1) out.toList := by rw [hout]; exact vals_refsK T'
  have J : Inv X pins σ (upd H p (.lst (T'.map fun q => V.ref q.1))) { s with heap := s'.heap, gens := s'.gens, drawn := s'.drawn, toks := s'.toks } :=
    I.call (ch := []) (Un.laid k hp hn) (I.hok.laid k hp ⟨hlen, out.toList, c, hv, hg⟩) (by rw [g]; exact I.bare) (fun _ z => nomatch z)
  have e : s' = { s with heap := s'.heap, gens := s'.gens, drawn := s'.drawn, toks := s'.toks } := by
    cases s'
    cases s
    cases o
    rfl
  rw [e]
  exact ⟨.ref p, _, J, rfl, q T' p pm pw hn⟩
end
end Fh

set_option Elab.async false
set_option linter.all false
set_option maxRecDepth 100000
set_option maxHeartbeats 4000000
namespace Fh
open PySem L2 PyProof.Rows
abbrev nRis : List Str := ["_law_bag_here", "_law_size", "_law_most", "_law_found", "_law_last", "_law_spot", "_law_wide"]
def Rise (last : Int) (ns : List Int) : Prop := (∀ x ∈ ns, 1 ≤ x ∧ x ≤ last) ∧ ns.Pairwise (· < ·)
theorem Rise.nil {last : Int} : Rise last [] := ⟨(fun x h => by cases h), List.Pairwise.nil⟩
theorem Rise.more {last d : Int} {ns : List Int} (h : Rise last ns) (l0 : 0 ≤ last) (d0 : 0 ≤ d) : Rise (last + 1 + d) (ns ++ [last + 1 + d]) := by
  refine ⟨fun x hx => ?_, ?_⟩
  · rcases List.mem_append.mp hx with hx | hx
    · have := h.1 x hx
      omega
    · rw [List.mem_singleton.mp hx]
      omega
  · rw [List.pairwise_append]
    refine ⟨h.2, List.pairwise_singleton _ _, fun a ha b hb => ?_⟩
    rw [List.mem_singleton.mp hb]
    have := h.1 a ha
    omega
def spRis : Sp := fun vs H Q _ => ∃ (b : Addr) (size : Nat) (n : Nat), vs = [.ref b, .int size, .int 30] ∧ size ≤ 20 ∧ Bag H b n ∧ n + 50 ≤ most ∧
  ∀ (p : Addr) (ns : List Int) (H' : Hp), H p = none → H' p = some (.lst (ns.map V.int)) → ns.length = size → Kp b H H' → Bag H' b (n + 40) → ns.Pairwise (· < ·) → (∀ x ∈ ns, 1 ≤ x ∧ x ≤ 30) → Q (.ref p) H'
section
variable {P : Program} {w : World} {K : PySem.W.Frag} {mg : Str → Option Value} {base : Heap}
end
end Fh


set_option Elab.async false
set_option linter.all false
set_option maxRecDepth 100000
set_option maxHeartbeats 4000000
namespace Fh
open PySem L2 PyProof.Rows
/-! ### what is right of a call's deeds -/
abbrev sFbn9 : Stmt := top 26
abbrev sFields : Stmt := inClass (top 34) 3
theorem at0 {x : V} {l : List V} : atI (x :: l) 0 = some x := by
  unfold atI ixN
  rw [if_pos (Int.le_refl 0), if_pos (by show (0 : Int) < ((x :: l).length : Int); rw [List.length_cons]; omega)]
  rfl
theorem at1 {x y : V} {l : List V} : atI (x :: y :: l) 1 = some y := by
  unfold atI ixN
  rw [if_pos (by decide), if_pos (by show (1 : Int) < ((x :: y :: l).length : Int); rw [List.length_cons, List.length_cons]; omega)]
  rfl
theorem at2 {x y z : V} {l : List V} : atI (x :: y :: z :: l) 2 = some z := by
  unfold atI ixN
  rw [if_pos (by decide), if_pos (by show (2 : Int) < ((x :: y :: z :: l).length : Int); rw [List.length_cons, List.length_cons, List.length_cons]; omega)]
  rfl
def spFields (C : Addr) : Sp := fun vs H Q _ => ∃ (a : Addr) (z : Str) (cs rs : List (Str × PyData)) (d : PyData), vs = [.ref a, .str z] ∧ FaceR C H a cs rs ∧ rs.lookup z = some d ∧ ∀ v, Tp H v d → Q v H
abbrev nFields : List Str := ["self", "record", "name", "fields"]
theorem ff_fields {v1 v2 v3 v4 v5 : V} : (ff v1 v2 v3 v4 v5).lookup ("fields_of" : Str) = none := ff_meth (by decide +kernel) (by decide +kernel) (by decide +kernel) (by decide +kernel) (by decide +kernel)
theorem putK_new {κ : Type} [DecidableEq κ] {kvs : List (κ × V)} {k : κ} {v : V} (h : k ∉ kvs.map Prod.fst) : putK kvs k v = kvs ++ [(k, v)] := by
  unfold putK
  rw [if_neg]
  intro a
  rw [List.any_eq_true] at a
  obtain ⟨kv, m, e⟩ := a
  exact h (List.mem_map.mpr ⟨kv, m, of_decide_eq_true e⟩)
theorem tk_wr {H : Hp} {a : Addr} {kvs : List (Key × V)} {o : HO} (h : H a = some (.dK kvs)) : Tk H (upd H a o) := fun b xs e => by
  rw [upd_ne (fun q => by rw [q, h] at e; cases e)]
  exact e
abbrev nFbn9 : List Str := ["face", "record", "number", "name", "kind", "need"]
def FbN (H : Hp) (D : Addr) (fl : List Fl) : Prop := ∃ kvs : List (Key × V), H D = some (.dK kvs) ∧ kvs.map Prod.fst = fl.map (fun f => (Sum.inr f.nam : Key)) ∧
  ∀ f ∈ fl, ∃ (t : Addr) (u : V), valV kvs (Sum.inr f.nam) = some (.ref t) ∧ H t = some (.tup [u, .str (needS f.must)]) ∧ Tp H u f.kd.d
theorem FbN.same {H H' : Hp} {D : Addr} {fl : List Fl} (h : FbN H D fl) (s : Same H H') : FbN H' D fl := by
  obtain ⟨kvs, h1, h2, h3⟩ := h
  refine ⟨kvs, s _ _ h1, h2, fun f hf => ?_⟩
  obtain ⟨t, u, a, b, c⟩ := h3 f hf
  exact ⟨t, u, a, s _ _ b, Tp.keep (Same.tk s) _ _ c⟩
def spFbn9 (C : Addr) : Sp := fun vs H Q _ => ∃ (a : Addr) (z : Str) (cs rs : List (Str × PyData)) (fl : List Fl), vs = [.ref a, .str z] ∧ FaceR C H a cs rs ∧ rs.lookup z = some (.tuple (fl.map Fl.d)) ∧ (fl.map Fl.nam).Nodup ∧ fl.length ≤ 100 ∧
  ∀ (D : Addr) (H' : Hp), H D = none → Same H H' → FbN H' D fl → Q (.ref D) H'
theorem kd_dp9 (k : Kn) : k.d.depth ≤ 2 := by
  cases k with
  | one b => cases b <;> simp [Kn.d, Kb.d, PyData.depth, PyData.depthAll]
  | lst b => cases b <;> simp [Kn.d, Kb.d, PyData.depth, PyData.depthAll]
theorem shaped2 {k : Kn} {b : Bool} (h : SeqAt.shaped k.d = true) : SeqAt.shaped (.tuple [k.d, .str (needS b)]) = true := by
  have s1 : Sh 2 k.d := ⟨SeqAt.canLay_of_shaped h, kd_dp9 k⟩
  have s2 : Sh 2 (.str (needS b)) := by cases b <;> exact ⟨by decide +kernel, Nat.zero_le _⟩
  refine (Sh.tup (n := 2) fun d hd => ?_).shaped (by decide)
  rcases List.mem_cons.mp hd with e | hd
  · rw [e]
    exact s1
  · rw [List.mem_singleton.mp hd]
    exact s2
theorem need_eqv (a b : Bool) : PyData.eqv (.str (needS a)) (.str (needS b)) = (a == b) := by cases a <;> cases b <;> rfl
theorem fbn_dget {H : Hp} {D : Addr} {own : List Fl} (h : FbN H D own) (z : Str) : ∃ kvs : List (Key × V), H D = some (.dK kvs) ∧ ((own.find? (fun g => decide (g.nam = z)) = none ∧ valV kvs (Sum.inr z) = none) ∨
    ∃ g t u, own.find? (fun g => decide (g.nam = z)) = some g ∧ g ∈ own ∧ valV kvs (Sum.inr z) = some (.ref t) ∧ H t = some (.tup [u, .str (needS g.must)]) ∧ Tp H u g.kd.d) := by
  obtain ⟨kvs, h1, h2, h3⟩ := h
  refine ⟨kvs, h1, ?_⟩
  cases q : own.find? (fun g => decide (g.nam = z)) with
  | none =>
    refine .inl ⟨rfl, ?_⟩
    cases q2 : valV kvs (Sum.inr z) with
    | none => rfl
    | some v =>
      have hm := valV_in q2
      have h2 : kvs.map (·.1) = own.map (fun f => (Sum.inr f.nam : Key)) := h2
      rw [h2] at hm
      obtain ⟨g, hg, e⟩ := List.mem_map.mp hm
      exact absurd (decide_eq_true (Sum.inr.inj e)) (List.find?_eq_none.mp q g hg)
  | some g =>
    have m := List.mem_of_find?_eq_some q
    have e : g.nam = z := of_decide_eq_true (p := g.nam = z) (List.find?_some (p := fun g : Fl => decide (g.nam = z)) q)
    obtain ⟨t, u, a, b, c⟩ := h3 g m
    rw [e] at a
    exact .inr ⟨g, t, u, rfl, m, a, b, c⟩

def eqG (own : List Fl) (z k : Str) : Bool := PyData.eqv (match own.find? (fun g => decide (g.nam = z)) with
  | some g => .tuple [g.kd.d, .str (needS g.must)]
  | none => .none) (.tuple [.str k, .str "must"])
def inN (fl : List Fl) (z : Str) : Bool := (fl.find? (fun g => decide (g.nam = z))).isSome
/-- a goal may be a copy of a source -/
def ccB (g s : Fl) : Bool := PyData.eqv g.kd.d s.kd.d && (s.must || !g.must)
def setB (an : List Fl) (a b : Str) : Bool := inV (.str a) [.str "tell", .str "copy", .str "get"] && inN an b
def astB (nm : Str) (own an : List Fl) (d : List Str) (ahead : List (List Str)) : Bool := match d with
  | a :: b :: c :: _ =>
    if inV (.str a) [.str "take", .str "add"] = true then eqG own b "text" && eqG own c "whole"
    else if a = "tell" then (match an.find? (fun g => decide (g.nam = b)) with
      | some g => PyData.eqv g.kd.d (.str "whole") && eqG own c "text"
      | none => false)
    else if a = "copy" then (match an.find? (fun g => decide (g.nam = b)), own.find? (fun g => decide (g.nam = c)) with
      | some g, some s => ccB g s
      | _, _ => false)
    else if a = "ask" then !decide (b = nm)
    else inN an b && inV (.str "ask") (ahead.map fun e => V.str (e.headD ""))
  | _ => false
def dD (d : List Str) : PyData := .tuple (d.map .str)
structure FOkR (fl : List Fl) : Prop where
  nd : (fl.map Fl.nam).Nodup
  l : fl.length ≤ 100
  sh : ∀ f ∈ fl, SeqAt.shaped f.kd.d = true
  ns : ∀ f ∈ fl, Sh 0 (.str f.nam)
structure SetW (K : PySem.W.Frag) (mg : Str → Option Value) : Prop where
  ex : ∃ M : Addr, mg "SETTING_WORDS" = some (.ref M) ∧ ∀ H : Hp, SqT K H M [.str "tell", .str "copy", .str "get"]
abbrev sCan : Stmt := top 28
abbrev nCan : List Str := ["goal", "source"]
abbrev sEff : Stmt := top 29
abbrev nEff : List Str := ["deed", "answered"]
abbrev sAst : Stmt := top 27
abbrev nAst : List Str := ["face", "deed", "asked", "answered", "ahead", "word", "other"]
abbrev pAst : List Str := ["face", "deed", "asked", "answered", "ahead"]
def spCan : Sp := fun vs H Q _ => ∃ (t s : Addr) (u v : V) (g f : Fl), vs = [.ref t, .ref s] ∧ H t = some (.tup [u, .str (needS g.must)]) ∧ H s = some (.tup [v, .str (needS f.must)]) ∧ Tp H u g.kd.d ∧ Tp H v f.kd.d ∧ SeqAt.shaped g.kd.d = true ∧ SeqAt.shaped f.kd.d = true ∧ Q (.bl (ccB g f)) H
def spEff : Sp := fun vs H Q _ => ∃ (t D : Addr) (an : List Fl) (a b c : Str) (r : List Str), vs = [.ref t, .ref D] ∧ H t = some (.tup ((a :: b :: c :: r).map V.str)) ∧ FbN H D an ∧
  (a = "ask" → Q (.ref t) H) ∧ (a ≠ "ask" → setB an a b = true → ∀ p, H p = none → Q (.ref p) (upd H p (.tup [.str "set", .str b]))) ∧ (a ≠ "ask" → setB an a b = false → Q .non H)
def spAst (C : Addr) : Sp := fun vs H Q _ => ∃ (fa t D E s dx : Addr) (nm : Str) (v2 v3 v4 v5 : V) (own an : List Fl) (a b c : Str) (r : List Str) (xs : List V) (ahead : List (List Str)), vs = [.ref fa, .ref t, .ref D, .ref E, .ref s] ∧ H fa = some (.ins C dx (ff (.str nm) v2 v3 v4 v5)) ∧ H t = some (.tup ((a :: b :: c :: r).map V.str)) ∧ FbN H D own ∧ FbN H E an ∧ FOkR own ∧ FOkR an ∧
  H s = some (.tup xs) ∧ TpAll H xs (ahead.map dD) ∧ (∀ e ∈ ahead, e ≠ []) ∧ ahead.length ≤ 100 ∧ ∀ H', Same H H' → Q (.bl (astB nm own an (a :: b :: c :: r) ahead)) H'
section
variable {P : Program} {w : World} {K : PySem.W.Frag} {mg : Str → Option Value} {base : Heap}
theorem scFields : FnScope nFields ["self", "record"] (defScope sFields) := ⟨rfl, rfl, rfl, by decide +kernel, rfl, by decide +kernel, by decide +kernel⟩
theorem ok_fields {C f : Addr} {fd : FuncData} (F : Fun K "fields_of" "Face.fields_of" sFields f fd) (cl : Cls K C) (n4 : NoAttr K C "records") : FnOk P w K mg base CX0 1 f fd ["self", "record"] (spFields C) := by
  refine F.ok scFields (fun vs H Q E h => ?_) (fun cdv A outer s H vs Q E hr h => ?_)
  · obtain ⟨a, z, cs, rs, d, rfl, _⟩ := h
    rfl
  · obtain ⟨a, z, cs, rs, d, rfl, ⟨dx, v1, v2, v3, v4, v5, hA, t3, t4⟩, hl, k⟩ := h
    refine ⟨_, pss_cons (ps_for PassesOwn.never rfl (pi_tup (pe_fld (pv 0) rfl)) (pg_tup rfl (pgs_cons (pg_name (i := 2) scFields.nd rfl (.inl rfl)) (pgs_cons (pg_name (i := 3) scFields.nd rfl (.inl rfl)) pgs_nil)))
        (pss_one (ps_if (pt_cmpR op_eq (pv 2) (pv 1) (nomark _)) (pss_one (ps_ret (pv 3))) pss_nil))) (pss_one ps_never), ?_⟩
    obtain ⟨b, xs, rfl, hb, q⟩ := TpR.inv t4
    refine ⟨_, rfl, a, C, dx, _, _, rfl, hA, cl, n4, ff_records, b, rfl, ⟨_, .inl hb⟩, ?_⟩
    refine for_tup (xs := xs) (fun i σ H3 => H3 = H ∧ (∃ a2 a3, σ = [some (.ref a), some (.str z), a2, a3]) ∧ ∀ (j : Nat) (r : Str × PyData), j < i → rs[j]? = some r → r.1 ≠ z) ?_ ?_ ?_ ?_
    · exact ⟨rfl, ⟨_, _, rfl⟩, fun j r hj => absurd hj (Nat.not_lt_zero _)⟩
    · rintro i σ H3 _ ⟨rfl, _⟩
      exact .inl hb
    · rintro i x σ H3 hx ⟨rfl, ⟨a2, a3, rfl⟩, hB⟩
      obtain ⟨r, t, u, hr', rfl, ht, tu⟩ := rows_at q hx
      refine ⟨t, _, rfl, SqT.of ht, rfl, _, _, rfl, _, _, rfl, rfl, ?_⟩
      refine ⟨_, rfl, _, rfl, rfl, _, rfl, ?_⟩
      refine ite2 (fun h => ?_) (fun h => ?_)
      · have e : r.1 = z := by
          have := of_decide_eq_true h
          cases this
          rfl
        have e2 := look_first hl hr' e hB
        rw [e2] at tu
        exact ⟨_, rfl, k _ tu⟩
      · have e : r.1 ≠ z := fun q => h (decide_eq_true (by rw [q]))
        refine ⟨rfl, ⟨_, _, rfl⟩, fun j s hj hs => ?_⟩
        by_cases ej : j = i
        · rw [ej, hr'] at hs
          cases hs
          exact e
        · exact hB j s (by omega) hs
    · rintro σ H3 ⟨rfl, _, hB⟩
      obtain ⟨i, hi, e⟩ := look_at hl
      have el : xs.length = rs.length := by rw [q.length, List.length_map]
      exact hB i rs[i] (by omega) (List.getElem?_eq_getElem hi) e
theorem scFbn9 : FnScope nFbn9 ["face", "record"] (defScope sFbn9) := ⟨rfl, rfl, rfl, by decide +kernel, rfl, by decide +kernel, by decide +kernel⟩
theorem ok_fbn9 {C f : Addr} {fd : FuncData} (F : Fun K "fields_by_name" "fields_by_name" sFbn9 f fd) (DF : HasM P w K mg base C "fields_of" 1 ["self", "record"] (spFields C)) : FnOk P w K mg base CX0 2 f fd ["face", "record"] (spFbn9 C) := by
  refine F.ok scFbn9 (fun vs H Q E h => ?_) (fun cdv A outer s H vs Q E hr h => ?_)
  · obtain ⟨a, z, cs, rs, fl, rfl, _⟩ := h
    rfl
  · obtain ⟨a, z, cs, rs, fl, rfl, hF, lk, ndf, lf, q⟩ := h
    refine ⟨_, (pss_one (ps_ret (pe_dc (own := [("number", 2), ("name", 3), ("kind", 4), ("need", 5)]) (g := (gTup K 4 (gCons (gName 2) (gCons (gName 3) (gCons (gName 4) (gCons (gName 5) gNil)))))) (tt := tYes) rfl scFbn9.nd (pi_tup (pe_hasM DF (hr.mono (by omega)) (pv 0) (pa_cons (pv 1) pa_nil))) (blkOk_by (N := nFbn9) (sc := defScope sFbn9) (by decide +kernel)) (fun _ _ _ _ _ => (pg_tup rfl (pgs_cons (pg_name (i := 2) scFbn9.nd rfl (Or.inl rfl)) (pgs_cons (pg_name (i := 3) scFbn9.nd rfl (Or.inl rfl)) (pgs_cons (pg_name (i := 4) scFbn9.nd rfl (Or.inl rfl)) (pgs_cons (pg_name (i := 5) scFbn9.nd rfl (Or.inl rfl)) pgs_nil)))))) (fun _ _ _ _ _ => pts_nil) (fun _ _ _ _ _ => (pv 3)) (fun _ _ _ _ _ => (pe_tup (pa_cons (pv 4) (pa_cons (pv 5) pa_nil))))))), ?_⟩
    obtain ⟨dx, v1, v2, v3, v4, v5, hA, t3, t4⟩ := id hF
    refine ⟨_, rfl, a, dx, _, rfl, hA, ff_fields, _, rfl, a, z, cs, rs, _, rfl, hF, lk, fun ov tv => ?_⟩
    obtain ⟨c, xs, rfl, hc, tq⟩ := Tp.inv tv
    have lx : xs.length = fl.length := by rw [tq.length, List.length_map]
    refine ⟨c, rfl, ⟨_, SqT.of hc⟩, fun D hD => ?_⟩
    refine dc_tup (xs := xs) (fun i H3 => Same H H3 ∧ FbN H3 D (fl.take i)) ?_ ?_ ?_ ?_
    · exact ⟨Same.new hD, [], upd_same, rfl, fun f h => nomatch h⟩
    · rintro i H3 _ ⟨S3, _⟩
      exact SqT.of (S3 _ _ hc)
    · rintro i x H3 hx ⟨S3, kvs, h3, ek3, ye3⟩
      obtain ⟨g, t2, u2, hg, rfl, ht2, tu2⟩ := flds_at (fs := fl) tq hx
      have hi := (List.getElem?_eq_some_iff.mp hg).1
      have et : fl.take (i + 1) = fl.take i ++ [g] := by rw [List.take_add_one, hg]; rfl
      refine ⟨t2, _, rfl, SqT.of (S3 _ _ ht2), rfl, _, _, rfl, _, _, rfl, _, _, rfl, _, _, rfl, rfl, rfl, yes (iteT ?_)⟩
      refine ⟨_, rfl, _, rfl, _, rfl, (by show 2 ≤ sizeLine; decide), fun t ht => ?_⟩
      have S4 := Same.new (H := H3) (o := .tup [u2, .str (needS g.must)]) ht
      have h4 := S4 _ _ h3
      have ht4 : (upd H3 t (.tup [u2, .str (needS g.must)])) t = some (.tup [u2, .str (needS g.must)]) := upd_same
      have tu4 := Tp.keep (Same.tk (S3.trans S4)) _ _ tu2
      generalize upd H3 t (.tup [u2, .str (needS g.must)]) = H4 at *
      have gnew : (Sum.inr g.nam : Key) ∉ kvs.map Prod.fst := fun hm => by
        rw [ek3] at hm
        obtain ⟨f, hf, e⟩ := List.mem_map.mp hm
        have e : f.nam = g.nam := Sum.inr.inj e
        have nd2 : ((fl.take i ++ [g]).map Fl.nam).Nodup := by
          rw [← et]
          exact ndf.sublist (List.Sublist.map _ (List.take_sublist _ _))
        rw [List.map_append, List.nodup_append] at nd2
        exact nd2.2.2 _ (List.mem_map.mpr ⟨f, hf, rfl⟩) _ (List.mem_singleton.mpr rfl) e
      have lk3 : kvs.length = (fl.take i).length := by
        have := congrArg List.length ek3
        rwa [List.length_map, List.length_map] at this
      have T5 := tk_wr (o := .dK (putK kvs (Sum.inr g.nam) (.ref t))) h4
      refine ⟨kvs, Sum.inr g.nam, rfl, h4, ?_, Same.wr (S3.trans S4) hD, _, upd_same, ?_, fun f hf => ?_⟩
      · rw [lk3, List.length_take]
        exact Nat.lt_of_le_of_lt (show _ ≤ 100 by omega) (by decide)
      · rw [Fh.putK_new gnew, List.map_append, ek3, et, List.map_append]
        rfl
      · rw [et] at hf
        rcases List.mem_append.mp hf with hf | hf
        · obtain ⟨t', u', a1, a2, a3⟩ := ye3 f hf
          refine ⟨t', u', ?_, T5 _ _ (S4 _ _ a2), Tp.keep T5 _ _ (Tp.keep (Same.tk S4) _ _ a3)⟩
          rw [valV_put, if_neg, a1]
          intro e
          refine gnew ?_
          rw [ek3, ← e]
          exact List.mem_map.mpr ⟨f, hf, rfl⟩
        · rw [List.mem_singleton.mp hf]
          exact ⟨t, u2, by rw [valV_put, if_pos rfl], T5 _ _ ht4, Tp.keep T5 _ _ tu4⟩
    · rintro H3 ⟨S3, fb⟩
      rw [lx, List.take_length] at fb
      exact q D H3 hD S3 fb

theorem scCan : FnScope nCan nCan (defScope sCan) := ⟨rfl, rfl, rfl, by decide +kernel, rfl, by decide +kernel, by decide +kernel⟩
theorem scEff : FnScope nEff nEff (defScope sEff) := ⟨rfl, rfl, rfl, by decide +kernel, rfl, by decide +kernel, by decide +kernel⟩
theorem scAst : FnScope nAst pAst (defScope sAst) := ⟨rfl, rfl, rfl, by decide +kernel, rfl, by decide +kernel, by decide +kernel⟩
theorem ok_can {f : Addr} {fd : FuncData} (F : Fun K "can_copy" "can_copy" sCan f fd) : FnOk P w K mg base CX0 1 f fd nCan spCan := by
  refine F.ok scCan (fun vs H Q E h => ?_) (fun cdv A outer s H vs Q E hr h => ?_)
  · obtain ⟨t, s, u, v, g, f, rfl, _⟩ := h
    rfl
  · obtain ⟨t, s, u, v, g, f, rfl, ht, hs, tu, tv, sg, sf, q⟩ := h
    refine ⟨_, (pss_one (ps_ret (pe_and (pe_cmpR (op_eqD hr.units) (pe_ix ix_tup (pv 0) pe_int (fun _ _ => rfl)) (pe_ix ix_tup (pv 1) pe_int (fun _ _ => rfl)) (nomark _)) (pe_one (pe_or (pe_cmpR op_eq (pe_ix ix_tup (pv 1) pe_int (fun _ _ => rfl)) pe_str (nomark _)) (pe_one (pe_cmpR op_eq (pe_ix ix_tup (pv 0) pe_int (fun _ _ => rfl)) pe_str (nomark _)))))))), ?_⟩
    refine ⟨_, rfl, t, _, _, _, rfl, rfl, SqT.of ht, rfl, _, rfl, s, _, _, _, rfl, rfl, SqT.of hs, rfl, _, _, tu.dp, tv.dp, sg, sf, _, rfl, ?_⟩
    unfold ccB at q
    cases he : PyData.eqv g.kd.d f.kd.d with
    | false =>
      rw [he] at q
      exact iteF q
    | true =>
      rw [he, Bool.true_and] at q
      refine iteT ?_
      refine ⟨_, rfl, s, _, _, _, rfl, rfl, SqT.of hs, rfl, rfl, _, rfl, ?_⟩
      rw [need_must]
      cases hm : f.must with
      | true =>
        rw [hm] at q
        exact iteT q
      | false =>
        rw [hm] at q
        refine iteF ?_
        refine ⟨_, rfl, t, _, _, _, rfl, rfl, SqT.of ht, rfl, rfl, ?_⟩
        rw [need_may]
        exact q
theorem ok_eff {f : Addr} {fd : FuncData} (F : Fun K "effect_of" "effect_of" sEff f fd) (SW : SetW K mg) : FnOk P w K mg base CX0 1 f fd nEff spEff := by
  obtain ⟨M, mS, hM⟩ := SW.ex
  refine F.ok scEff (fun vs H Q E h => ?_) (fun cdv A outer s H vs Q E hr h => ?_)
  · obtain ⟨t, D, an, a, b, c, r, rfl, _⟩ := h
    rfl
  · obtain ⟨t, D, an, a, b, c, r, rfl, ht, hD, q1, q2, q3⟩ := h
    have hu := hu_of hr
    refine ⟨_, (pss_cons (ps_if (pt_cmpR op_eq (pe_ix ix_tup (pv 0) pe_int (fun _ _ => rfl)) pe_str (nomark _))
      (pss_one (ps_ret (pv 0)))
      pss_nil)
      (pss_cons (ps_if (PW.pt (pw_and (pt_cmpR op_in_seq (pe_ix ix_tup (pv 0) pe_int (fun _ _ => rfl)) (pe_glob (v := .ref M) rfl mS rfl) rfl) (pw_and1 (pt_cmp (pc_din hu (pe_ix ix_tup (pv 0) pe_int (fun _ _ => rfl)) (pv 1))))))
      (pss_one (ps_ret (pe_tup (pa_cons pe_str (pa_cons (pe_ix ix_tup (pv 0) pe_int (fun _ _ => rfl)) pa_nil)))))
      pss_nil)
      (pss_one (ps_ret pe_non)))), ?_⟩
    refine ⟨_, rfl, t, _, _, _, rfl, rfl, SqT.of ht, at0, rfl, _, rfl, ite2 (fun h => ?_) (fun h => ?_)⟩
    · have h := of_decide_eq_true h
      have h : a = "ask" := by injection h
      exact ⟨_, rfl, q1 h⟩
    · have na : a ≠ "ask" := fun e => h (by rw [e]; exact decide_eq_true rfl)
      refine ⟨_, rfl, t, _, _, _, rfl, rfl, SqT.of ht, at0, M, _, rfl, .inr (hM H), rfl, rfl, _, rfl, ?_⟩
      cases h1 : inV (.str a) [.str "tell", .str "copy", .str "get"] with
      | false =>
        refine iteF (iteF ?_)
        exact q3 na (by unfold setB; rw [h1]; rfl)
      | true =>
        refine iteT ?_
        obtain ⟨kvs, hk, od⟩ := fbn_dget hD b
        have dg : DGet H D (.str b) (valV kvs (Sum.inr b)) := DGet.k (k := Sum.inr b) hk
        refine ⟨_, rfl, t, _, _, _, rfl, rfl, SqT.of ht, at1, _, rfl, D, _, rfl, dg, _, rfl, ?_⟩
        rcases od with ⟨e1, e2⟩ | ⟨g, t2, u2, e1, _, e2, _⟩
        · rw [e2]
          refine iteF ?_
          exact q3 na (by unfold setB inN; rw [h1, e1]; rfl)
        · rw [e2]
          refine iteT ?_
          refine ⟨_, rfl, t, _, _, _, rfl, rfl, SqT.of ht, at1, (by show 2 ≤ sizeLine; decide), fun p hp => ?_⟩
          exact q2 na (by unfold setB inN; rw [h1, e1]; rfl) p hp
theorem dD_at {H : Hp} {v : V} {d : List Str} (h : Tp H v (dD d)) : ∃ t, v = .ref t ∧ H t = some (.tup (d.map V.str)) := by
  obtain ⟨t, xs, rfl, ht, tx⟩ := Tp.inv h
  refine ⟨t, rfl, ?_⟩
  have e : xs = d.map V.str := by
    clear ht h
    induction d generalizing xs with
    | nil => exact tx.inil
    | cons z d ih =>
      obtain ⟨v, r, rfl, t1, t2⟩ := TpAll.icons tx
      rw [t1.istr, ih r t2]
      rfl
  rw [← e]
  exact ht
theorem ok_ast {C f : Addr} {fd : FuncData} (F : Fun K "is_as_told" "is_as_told" sAst f fd) (cl : Cls K C) (n1 : NoAttr K C "name") (DC : Has P w K mg base "can_copy" 1 nCan spCan) : FnOk P w K mg base CX0 2 f fd pAst (spAst C) := by
  refine F.ok scAst (fun vs H Q E h => ?_) (fun cdv A outer s H vs Q E hr h => ?_)
  · obtain ⟨fa, t, D, E, s, dx, nm, v2, v3, v4, v5, own, an, a, b, c, r, xs, ahead, rfl, _⟩ := h
    rfl
  · obtain ⟨fa, t, D, E, sl, dx, nm, v2, v3, v4, v5, own, an, a, b, c, r, xs, ahead, rfl, hfa, ht, hD, hE, okD, okE, hs, ths, nes, la, q⟩ := h
    have hu := hu_of hr
    refine ⟨_, (pss_cons (ps_set (i := 5) scAst.nd rfl (Or.inl rfl) (pe_ix ix_tup (pv 1) pe_int (fun _ _ => rfl)))
      (pss_cons (ps_if (pt_cmpR op_in_seq (pv 5) (pe_tup (pa_cons pe_str (pa_cons pe_str pa_nil))) rfl)
      (pss_one (ps_ret (pe_and (pe_cmpR (op_eqD hr.units) (pe_dget1 hu (pv 2) (pe_ix ix_tup (pv 1) pe_int (fun _ _ => rfl)) ⟨rfl, rfl, rfl, rfl⟩) (pe_tup (pa_cons pe_str (pa_cons pe_str pa_nil))) (nomark _)) (pe_one (pe_cmpR (op_eqD hr.units) (pe_dget1 hu (pv 2) (pe_ix ix_tup (pv 1) pe_int (fun _ _ => rfl)) ⟨rfl, rfl, rfl, rfl⟩) (pe_tup (pa_cons pe_str (pa_cons pe_str pa_nil))) (nomark _))))))
      pss_nil)
      (pss_cons (ps_if (pt_cmpR op_eq (pv 5) pe_str (nomark _))
      (pss_one (ps_ret (pe_and (pe_cmp (pc_din hu (pe_ix ix_tup (pv 1) pe_int (fun _ _ => rfl)) (pv 3)) rfl) (pe_and (pe_cmpR (op_eqD hr.units) (pe_ix ix_tup (pe_dget hu (pv 3) (pe_ix ix_tup (pv 1) pe_int (fun _ _ => rfl)) (fun _ _ => rfl)) pe_int (fun _ _ => rfl)) pe_str (nomark _)) (pe_one (pe_cmpR (op_eqD hr.units) (pe_dget1 hu (pv 2) (pe_ix ix_tup (pv 1) pe_int (fun _ _ => rfl)) ⟨rfl, rfl, rfl, rfl⟩) (pe_tup (pa_cons pe_str (pa_cons pe_str pa_nil))) (nomark _)))))))
      pss_nil)
      (pss_cons (ps_if (pt_cmpR op_eq (pv 5) pe_str (nomark _))
      (pss_one (ps_ret (pe_and (pe_cmp (pc_din hu (pe_ix ix_tup (pv 1) pe_int (fun _ _ => rfl)) (pv 3)) rfl) (pe_and (pe_cmp (pc_din hu (pe_ix ix_tup (pv 1) pe_int (fun _ _ => rfl)) (pv 2)) rfl) (pe_one (pe_has DC (hr.mono (by omega)) rfl (pa_cons (pe_dget hu (pv 3) (pe_ix ix_tup (pv 1) pe_int (fun _ _ => rfl)) (fun _ _ => rfl)) (pa_cons (pe_dget hu (pv 2) (pe_ix ix_tup (pv 1) pe_int (fun _ _ => rfl)) (fun _ _ => rfl)) pa_nil))))))))
      pss_nil)
      (pss_cons (ps_if (pt_cmpR op_eq (pv 5) pe_str (nomark _))
      (pss_one (ps_ret (pe_cmpR op_ne (pe_ix ix_tup (pv 1) pe_int (fun _ _ => rfl)) (pe_fld (pv 0) rfl) (nomark _))))
      pss_nil)
      (pss_one (ps_ret (pe_and (pe_cmp (pc_din hu (pe_ix ix_tup (pv 1) pe_int (fun _ _ => rfl)) (pv 3)) rfl) (pe_one (pe_cmpR op_in_seq pe_str (pe_lc (own := [("other", 6)]) (g := (gName 6)) (tt := tYes) (te := tOp (rIxT K) (tVar 6) (tC (.int 0))) rfl scAst.nd (pi_tup (pv 4)) (blkOk_by (N := nAst) (sc := defScope sAst) (by decide +kernel)) (fun _ _ _ _ _ => (pg_name (i := 6) scAst.nd rfl (Or.inl rfl))) (fun _ _ _ _ _ => pts_nil) (fun _ _ _ _ _ => (pe_ix ix_tup (pv 6) pe_int (fun _ _ => rfl)))) rfl)))))))))), ?_⟩
    -- d.get(name) == (kind, "must")
    have get : ∀ {H1 : Hp} (z k : Str) (own : List Fl) (D : Addr), FbN H D own → FOkR own → SeqAt.shaped (.tuple [.str k, .str "must"]) = true → Same H H1 → ∃ kvs : List (Key × V), H1 D = some (.dK kvs) ∧ ∀ (t1 : Addr), H1 t1 = none → ∃ d e, Dp K (upd H1 t1 (.tup [.str k, .str "must"])) ((valV kvs (Sum.inr z)).getD .non) d ∧ Dp K (upd H1 t1 (.tup [.str k, .str "must"])) (.ref t1) e ∧ SeqAt.shaped d = true ∧ SeqAt.shaped e = true ∧ PyData.eqv d e = eqG own z k := fun {H1} z k own D hD ok sk S => by
      obtain ⟨kvs, hk, od⟩ := fbn_dget (hD.same S) z
      refine ⟨kvs, hk, fun t1 ht1 => ?_⟩
      have S1 := Same.new (H := H1) (o := .tup [.str k, .str "must"]) ht1
      have d1 : Tp (upd H1 t1 (.tup [.str k, .str "must"])) (.ref t1) (.tuple [.str k, .str "must"]) := .tup upd_same (.cons (.str _) (.cons (.str _) .nil))
      rcases od with ⟨e1, e2⟩ | ⟨g, t2, u2, e1, gm, e2, ht2, tu2⟩
      · rw [e2]
        exact ⟨.none, _, .non, d1.dp, rfl, sk, by unfold eqG; rw [e1]⟩
      · rw [e2]
        have d2 : Tp (upd H1 t1 (.tup [.str k, .str "must"])) (.ref t2) (.tuple [g.kd.d, .str (needS g.must)]) := .tup (S1 _ _ ht2) (.cons (Tp.keep (Same.tk S1) _ _ tu2) (.cons (.str _) .nil))
        exact ⟨_, _, d2.dp, d1.dp, shaped2 (ok.sh g gm), sk, by unfold eqG; rw [e1]⟩
    refine ⟨_, rfl, t, _, _, _, rfl, rfl, SqT.of ht, at0, ?_⟩
    try dsimp only [List.set_cons_succ, List.set_cons_zero]
    refine ⟨_, rfl, (by show 2 ≤ sizeLine; decide), fun t0 ht0 => ?_⟩
    have S0 := Same.new (H := H) (o := .tup [.str "take", .str "add"]) ht0
    have e0 : (upd H t0 (.tup [.str "take", .str "add"])) t0 = some (.tup [.str "take", .str "add"]) := upd_same
    generalize (upd H t0 (.tup [.str "take", .str "add"])) = H0 at *
    refine ⟨t0, _, rfl, .inr (SqT.of e0), rfl, rfl, _, rfl, ?_⟩
    have ht1 := S0 _ _ ht
    have hE0 := hE.same S0
    have hD0 := hD.same S0
    show if inV (.str a) [.str "take", .str "add"] = true then _ else _
    unfold astB at q
    dsimp only at q
    cases hw : inV (.str a) [.str "take", .str "add"] with
    | true =>
      refine iteT ?_
      rw [if_pos hw] at q
      obtain ⟨kvs, hk, g1⟩ := get b "text" own D hD okD (by decide +kernel) S0
      refine ⟨_, rfl, D, rfl, .inl ⟨kvs, .inl hk⟩, _, rfl, t, _, _, _, rfl, rfl, SqT.of ht1, at1, _, DGet.k (k := Sum.inr b) hk, (by show 2 ≤ sizeLine; decide), fun t2 ht2 => ?_⟩
      obtain ⟨d, e, x1, x2, x3, x4, x5⟩ := g1 t2 ht2
      refine ⟨d, e, x1, x2, x3, x4, _, rfl, ?_⟩
      have S2 := S0.trans (Same.new (o := .tup [.str "text", .str "must"]) ht2)
      generalize (upd H0 t2 (.tup [.str "text", .str "must"])) = H2 at *
      rw [x5]
      cases he : eqG own b "text" with
      | false =>
        rw [he] at q
        exact iteF (q _ S2)
      | true =>
        rw [he, Bool.true_and] at q
        refine iteT ?_
        obtain ⟨kvs, hk, g1⟩ := get c "whole" own D hD okD (by decide +kernel) S2
        refine ⟨_, rfl, D, rfl, .inl ⟨kvs, .inl hk⟩, _, rfl, t, _, _, _, rfl, rfl, SqT.of (S2 _ _ ht), at2, _, DGet.k (k := Sum.inr c) hk, (by show 2 ≤ sizeLine; decide), fun t3 ht3 => ?_⟩
        obtain ⟨d, e, x1, x2, x3, x4, x5⟩ := g1 t3 ht3
        refine ⟨d, e, x1, x2, x3, x4, ?_⟩
        rw [x5]
        exact q _ (S2.trans (Same.new ht3))
    | false =>
      refine iteF ?_
      rw [if_neg (by rw [hw]; exact Bool.false_ne_true)] at q
      have str_ne : ∀ {x y : Str}, ¬ decide (V.str x = V.str y) = true → x ≠ y := fun h e => h (by rw [e]; exact decide_eq_true rfl)
      have str_eq : ∀ {x y : Str}, decide (V.str x = V.str y) = true → x = y := fun h => by
        have := of_decide_eq_true h
        injection this
      refine ⟨_, rfl, rfl, _, rfl, ite2 (fun h => ?_) (fun h => ?_)⟩
      · -- tell
        rw [if_pos (str_eq h)] at q
        obtain ⟨kvs, hk, od⟩ := fbn_dget hE0 b
        have dg : DGet H0 E (.str b) (valV kvs (Sum.inr b)) := DGet.k (k := Sum.inr b) hk
        refine ⟨_, rfl, t, _, _, _, rfl, rfl, SqT.of ht1, at1, _, rfl, E, _, rfl, dg, _, rfl, ?_⟩
        rcases od with ⟨e1, e2⟩ | ⟨g, t2, u2, e1, gm, e2, ht2, tu2⟩
        · rw [e2]
          rw [e1] at q
          exact iteF (q _ S0)
        · rw [e2] at dg ⊢
          rw [e1] at q
          refine iteT ?_
          refine ⟨_, rfl, _, rfl, t, _, _, _, rfl, rfl, SqT.of ht1, at1, E, .ref t2, rfl, dg, t2, _, _, _, rfl, rfl, SqT.of ht2, rfl, ?_⟩
          refine ⟨g.kd.d, .str "whole", tu2.dp, .str _, okE.sh g gm, by decide +kernel, _, rfl, ?_⟩
          dsimp only at q
          cases he : PyData.eqv g.kd.d (.str "whole") with
          | false =>
            rw [he] at q
            exact iteF (q _ S0)
          | true =>
            rw [he, Bool.true_and] at q
            refine iteT ?_
            obtain ⟨kvs, hk, g1⟩ := get c "text" own D hD okD (by decide +kernel) S0
            refine ⟨_, rfl, D, rfl, .inl ⟨kvs, .inl hk⟩, _, rfl, t, _, _, _, rfl, rfl, SqT.of ht1, at2, _, DGet.k (k := Sum.inr c) hk, (by show 2 ≤ sizeLine; decide), fun t3 ht3 => ?_⟩
            obtain ⟨d, e, x1, x2, x3, x4, x5⟩ := g1 t3 ht3
            refine ⟨d, e, x1, x2, x3, x4, ?_⟩
            rw [x5]
            exact q _ (S0.trans (Same.new ht3))
      rw [if_neg (str_ne h)] at q
      refine ⟨_, rfl, rfl, _, rfl, ite2 (fun h => ?_) (fun h => ?_)⟩
      · -- copy
        rw [if_pos (str_eq h)] at q
        obtain ⟨kvs, hk, od⟩ := fbn_dget hE0 b
        have dg : DGet H0 E (.str b) (valV kvs (Sum.inr b)) := DGet.k (k := Sum.inr b) hk
        refine ⟨_, rfl, t, _, _, _, rfl, rfl, SqT.of ht1, at1, _, rfl, E, _, rfl, dg, _, rfl, ?_⟩
        rcases od with ⟨e1, e2⟩ | ⟨g, t2, u2, e1, gm, e2, ht2, tu2⟩
        · rw [e2]
          rw [e1] at q
          exact iteF (q _ S0)
        · rw [e2] at dg ⊢
          rw [e1] at q
          refine iteT ?_
          obtain ⟨kvs2, hk2, od2⟩ := fbn_dget hD0 c
          have dg2 : DGet H0 D (.str c) (valV kvs2 (Sum.inr c)) := DGet.k (k := Sum.inr c) hk2
          refine ⟨_, rfl, t, _, _, _, rfl, rfl, SqT.of ht1, at2, _, rfl, D, _, rfl, dg2, _, rfl, ?_⟩
          rcases od2 with ⟨e3, e4⟩ | ⟨g2, t3, u3, e3, gm3, e4, ht3, tu3⟩
          · rw [e4]
            rw [e3] at q
            exact iteF (q _ S0)
          · rw [e4] at dg2 ⊢
            rw [e3] at q
            refine iteT ?_
            refine ⟨_, rfl, _, rfl, t, _, _, _, rfl, rfl, SqT.of ht1, at1, E, .ref t2, rfl, dg, _, rfl, _, rfl, t, _, _, _, rfl, rfl, SqT.of ht1, at2, D, .ref t3, rfl, dg2, t2, t3, u2, u3, g, g2, rfl, ht2, ht3, tu2, tu3, okE.sh g gm, okD.sh g2 gm3, ?_⟩
            exact q _ S0
      rw [if_neg (str_ne h)] at q
      refine ⟨_, rfl, rfl, _, rfl, ite2 (fun h => ?_) (fun h => ?_)⟩
      · -- ask
        rw [if_pos (str_eq h)] at q
        refine ⟨_, rfl, t, _, _, _, rfl, rfl, SqT.of ht1, at1, _, rfl, fa, C, dx, _, _, rfl, S0 _ _ hfa, cl, n1, ff_name, rfl, ?_⟩
        have e : decide (V.str b = V.str nm) = decide (b = nm) := by
          by_cases e : b = nm
          · rw [e, decide_eq_true rfl, decide_eq_true rfl]
          · rw [decide_eq_false e, decide_eq_false fun h => e (by injection h)]
        rw [e]
        exact q _ S0
      rw [if_neg (str_ne h)] at q
      -- get, and what is no deed
      obtain ⟨kvs, hk, od⟩ := fbn_dget hE0 b
      have dg : DGet H0 E (.str b) (valV kvs (Sum.inr b)) := DGet.k (k := Sum.inr b) hk
      refine ⟨_, rfl, t, _, _, _, rfl, rfl, SqT.of ht1, at1, _, rfl, E, _, rfl, dg, _, rfl, ?_⟩
      unfold inN at q
      rcases od with ⟨e1, e2⟩ | ⟨g, t2, u2, e1, gm, e2, _⟩
      · rw [e2]
        rw [e1] at q
        exact iteF (q _ S0)
      rw [e2]
      rw [e1] at q
      refine iteT ?_
      refine ⟨_, rfl, sl, rfl, ⟨_, SqT.of (S0 _ _ hs)⟩, fun L hL => ?_⟩
      have lx : xs.length = ahead.length := by rw [ths.length, List.length_map]
      refine lc_tup (xs := xs) (fun k H4 => Same H0 H4 ∧ H4 L = some (.lst ((ahead.take k).map fun e => V.str (e.headD "")))) ?_ ?_ ?_ ?_
      · exact ⟨Same.new hL, upd_same⟩
      · rintro k H4 _ ⟨S4, _⟩
        exact SqT.of (S4 _ _ (S0 _ _ hs))
      · rintro k x H4 hx4 ⟨S4, h4L⟩
        obtain ⟨dd, hd, td⟩ := ths.get' hx4
        rw [List.getElem?_map] at hd
        cases hq : ahead[k]? with
        | none => rw [hq] at hd; cases hd
        | some e =>
          rw [hq] at hd
          cases hd
          obtain ⟨t4, rfl, ht4⟩ := dD_at td
          have ne := nes e (List.mem_of_getElem? hq)
          obtain ⟨z, e', rfl⟩ : ∃ z e', e = z :: e' := by
            cases e with
            | nil => exact absurd rfl ne
            | cons z e' => exact ⟨z, e', rfl⟩
          refine ⟨rfl, yes (iteT ⟨_, rfl, t4, _, _, _, rfl, rfl, SqT.of (S4 _ _ (S0 _ _ ht4)), at0, _, h4L, ?_, Same.wr S4 hL, ?_⟩)⟩
          · rw [List.length_map, List.length_take]
            exact Nat.lt_of_le_of_lt (show _ ≤ 100 by omega) (by decide)
          · rw [upd_same, List.take_add_one, hq, List.map_append]
            rfl
      · rintro H4 ⟨S4, h4L⟩
        rw [lx, List.take_length] at h4L
        refine ⟨L, _, rfl, .inl (SqL.of h4L), rfl, (by rw [List.all_map]; exact List.all_eq_true.mpr fun _ _ => rfl), ?_⟩
        exact q _ (S0.trans S4)

end
end Fh

set_option Elab.async false
set_option linter.all false
set_option maxRecDepth 100000
set_option maxHeartbeats 4000000
namespace Fh
open PySem L2 PyProof.Rows
/-! ### rows of what is wrong, calls -/
structure RwL (H : Hp) (p : Addr) (T : List Row) : Prop where
  l : H p = some (.lst (T.map fun q => V.ref q.1))
  t : ∀ q ∈ T, H q.1 = some (.tup (q.2.map kV))
theorem RwL.same {H H' : Hp} {p : Addr} {T : List Row} (x : RwL H p T) (s : Same H H') : RwL H' p T := ⟨s _ _ x.l, fun q h => s _ _ (x.t q h)⟩
theorem RwL.nil {H : Hp} {p : Addr} (h : H p = some (.lst [])) : RwL H p [] := ⟨h, fun q h => nomatch h⟩
theorem RwL.more {H : Hp} {p t : Addr} {T : List Row} {y : List Key} (x : RwL H p T) (ht : H t = none) : RwL (upd (upd H t (.tup (y.map kV))) p (.lst (T.map (fun q => V.ref q.1) ++ [.ref t]))) p (T ++ [(t, y)]) := by
  have nt : t ≠ p := fun e => by rw [e, x.l] at ht; cases ht
  refine ⟨by rw [upd_same, List.map_append]; rfl, fun q hq => ?_⟩
  rcases List.mem_append.mp hq with h | h
  · have h1 := x.t q h
    have n1 : q.1 ≠ p := fun e => by rw [e, x.l] at h1; cases h1
    rw [upd_ne n1, upd_ne fun e => by rw [e, ht] at h1; cases h1]
    exact h1
  · rw [List.mem_singleton.mp h]
    show upd _ _ _ t = _
    rw [upd_ne nt, upd_same]
structure Cw where
  num : Int
  nam : Str
  ask : Str
  ans : Str
  ds : List (List Str)
def Cw.d (c : Cw) : PyData := .tuple [.int c.num, .str c.nam, .str c.ask, .str c.ans, .tuple (c.ds.map dD)]
theorem cw_at {H : Hp} {v : V} {c : Cw} (h : Tp H v c.d) : ∃ (t e : Addr) (xs : List V), v = .ref t ∧ H t = some (.tup [.int c.num, .str c.nam, .str c.ask, .str c.ans, .ref e]) ∧ H e = some (.tup xs) ∧ TpAll H xs (c.ds.map dD) := by
  obtain ⟨t, xs, rfl, ht, q⟩ := Tp.inv h
  obtain ⟨v1, r1, rfl, t1, q⟩ := TpAll.icons q
  obtain ⟨v2, r2, rfl, t2, q⟩ := TpAll.icons q
  obtain ⟨v3, r3, rfl, t3, q⟩ := TpAll.icons q
  obtain ⟨v4, r4, rfl, t4, q⟩ := TpAll.icons q
  obtain ⟨v5, r5, rfl, t5, q⟩ := TpAll.icons q
  rw [q.inil] at ht
  obtain ⟨e, xs, rfl, he, tx⟩ := Tp.inv t5
  rw [t1.iint, t2.istr, t3.istr, t4.istr] at ht
  exact ⟨t, e, xs, rfl, ht, he, tx⟩
def kNob (a b : Str) : List Key := [.inr "nobody", .inr a, .inr b]
def stoL (recs : List Rec) (c : Cw) (zs : List Str) : List (List Key) := (zs.filter fun z => !decide (z ∈ recs.map (·.1))).map fun z => kNob c.nam z
theorem inV_names {zs : List Str} {z : Str} : inV (.str z) (zs.map V.str) = decide (z ∈ zs) := by
  induction zs with
  | nil => rfl
  | cons y zs ih =>
    show (decide _ || inV (.str z) (zs.map V.str)) = _
    rw [ih]
    by_cases e : z = y
    · subst e
      simp
    · have : decide (V.str y = V.str z) = false := decide_eq_false fun h => e (by injection h with h; exact h.symm)
      simp [e, this]
      exact fun h => absurd h.symm e
abbrev sSto : Stmt := top 24
abbrev nSto : List Str := ["face", "call", "number", "name", "ask", "answer", "deeds", "records", "record", "fields", "asked"]
def spSto (C : Addr) : Sp := fun vs H Q _ => ∃ (fa t : Addr) (cs : List (Str × PyData)) (recs : List Rec) (c : Cw), vs = [.ref fa, .ref t] ∧ FaceR C H fa cs (recs.map rD) ∧ recs.length ≤ 100 ∧ Tp H (.ref t) c.d ∧
  ∀ (p : Addr) (T : List Row) (H' : Hp), Same H H' → H p = none → RwL H' p T → T.map (·.2) = stoL recs c [c.ask, c.ans] → Q (.ref p) H'
section
variable {P : Program} {w : World} {K : PySem.W.Frag} {mg : Str → Option Value} {base : Heap}
theorem scSto : FnScope nSto ["face", "call"] (defScope sSto) := ⟨rfl, rfl, rfl, by decide +kernel, rfl, by decide +kernel, by decide +kernel⟩
theorem ok_sto {C f : Addr} {fd : FuncData} (F : Fun K "strangers_of" "strangers_of" sSto f fd) (cl : Cls K C) (n4 : NoAttr K C "records") : FnOk P w K mg base CX0 1 f fd ["face", "call"] (spSto C) := by
  refine F.ok scSto (fun vs H Q E h => ?_) (fun cdv A outer s H vs Q E hr h => ?_)
  · obtain ⟨fa, t, cs, recs, c, rfl, _⟩ := h
    rfl
  · obtain ⟨fa, t, cs, recs, c, rfl, hF, lr, tc, q⟩ := h
    have hu := hu_of hr
    refine ⟨_, (pss_cons (ps_asg (pv 1) (pg_tup rfl (pgs_cons (pg_name (i := 2) scSto.nd rfl (Or.inl rfl)) (pgs_cons (pg_name (i := 3) scSto.nd rfl (Or.inr rfl)) (pgs_cons (pg_name (i := 4) scSto.nd rfl (Or.inl rfl)) (pgs_cons (pg_name (i := 5) scSto.nd rfl (Or.inl rfl)) (pgs_cons (pg_name (i := 6) scSto.nd rfl (Or.inl rfl)) pgs_nil)))))))
      (pss_cons (ps_set (i := 7) scSto.nd rfl (Or.inr rfl) (pe_lc (own := [("record", 8), ("fields", 9)]) (g := (gTup K 2 (gCons (gName 8) (gCons (gName 9) gNil)))) (tt := tYes) (te := tVar 8) rfl scSto.nd (pi_tup (pe_fld (pv 0) rfl)) (blkOk_by (N := nSto) (sc := defScope sSto) (by decide +kernel)) (fun _ _ _ _ _ => (pg_tup rfl (pgs_cons (pg_name (i := 8) scSto.nd rfl (Or.inl rfl)) (pgs_cons (pg_name (i := 9) scSto.nd rfl (Or.inl rfl)) pgs_nil)))) (fun _ _ _ _ _ => pts_nil) (fun _ _ _ _ _ => (pv 8))))
      (pss_one (ps_ret (pe_lc (own := [("asked", 10)]) (g := (gName 10)) (tt := tTest (tOp (rIn K true) (tVar 10) (tVar 7))) (te := tTup (tCons (tC (.str "nobody")) (tCons (tVar 3) (tCons (tVar 10) tNil)))) rfl scSto.nd (pi_tup (pe_tup (pa_cons (pv 4) (pa_cons (pv 5) pa_nil)))) (blkOk_by (N := nSto) (sc := defScope sSto) (by decide +kernel)) (fun _ _ _ _ _ => (pg_name (i := 10) scSto.nd rfl (Or.inl rfl))) (fun _ _ _ _ _ => pts_one (pt_cmpR op_notIn_seq (pv 10) (pv 7) rfl)) (fun _ _ _ _ _ => (pe_tup (pa_cons pe_str (pa_cons (pv 3) (pa_cons (pv 10) pa_nil)))))))))), ?_⟩
    obtain ⟨dx, v1, v2, v3, v4, v5, hA, t3, t4⟩ := id hF
    obtain ⟨t', e, ys, et, ht, he, tys⟩ := cw_at tc
    cases et
    obtain ⟨b, xs, rfl, hb, tq⟩ := TpR.inv t4
    have el : xs.length = recs.length := by rw [tq.length, List.length_map, List.length_map]
    refine ⟨_, rfl, t, _, rfl, SqT.of ht, rfl, _, _, rfl, _, _, rfl, _, _, rfl, _, _, rfl, _, _, rfl, rfl, ?_⟩
    try dsimp only [List.set_cons_succ, List.set_cons_zero]
    refine ⟨_, rfl, fa, C, dx, _, _, rfl, hA, cl, n4, ff_records, b, rfl, ⟨_, .inl hb⟩, fun D hD0 => ?_⟩
    refine lc_tup (xs := xs) (fun i H3 => Same H H3 ∧ H3 D = some (.lst (((recs.take i).map (·.1)).map V.str))) ?_ ?_ ?_ ?_
    · exact ⟨Same.new hD0, upd_same⟩
    · rintro i H3 _ ⟨S3, _⟩
      exact .inl (Rd.same hb S3)
    · rintro i z H3 hz ⟨S3, h3⟩
      obtain ⟨r, t2, u, hr', rfl, ht2, tu⟩ := recs_at tq hz
      have hlt := (List.getElem?_eq_some_iff.mp hr').1
      refine ⟨t2, _, rfl, SqT.of (S3 _ _ ht2), rfl, _, _, rfl, _, _, rfl, rfl, rfl, yes (iteT ?_)⟩
      refine ⟨_, rfl, _, h3, ?_, Same.wr S3 hD0, ?_⟩
      · rw [List.length_map, List.length_map, List.length_take]
        exact Nat.lt_of_le_of_lt (Nat.min_le_left _ _) (Nat.lt_of_lt_of_le (show i < 101 by omega) (by decide))
      · rw [upd_same, List.take_add_one, hr']
        simp
    rintro H2 ⟨S2, hD⟩
    rw [el, List.take_length] at hD
    try dsimp only [List.set_cons_succ, List.set_cons_zero]
    refine ⟨_, rfl, _, rfl, (by show 2 ≤ sizeLine; decide), fun t5 ht5 => ?_⟩
    have S5 := Same.new (H := H2) (o := .tup [.str c.ask, .str c.ans]) ht5
    have e5 : (upd H2 t5 (.tup [.str c.ask, .str c.ans])) t5 = some (.tup [.str c.ask, .str c.ans]) := upd_same
    generalize (upd H2 t5 (.tup [.str c.ask, .str c.ans])) = H5 at *
    have S05 := S2.trans S5
    have hD5 := S5 _ _ hD
    refine ⟨t5, rfl, ⟨_, SqT.of e5⟩, fun D2 hD2 => ?_⟩
    refine lc_tup (xs := [V.str c.ask, V.str c.ans]) (fun k H6 => Same H5 H6 ∧ ∃ T, RwL H6 D2 T ∧ T.map (·.2) = stoL recs c (([c.ask, c.ans] : List Str).take k)) ?_ ?_ ?_ ?_
    · exact ⟨Same.new hD2, [], RwL.nil upd_same, rfl⟩
    · rintro k H6 _ ⟨S6, _⟩
      exact SqT.of (S6 _ _ e5)
    · rintro k y H6 hy ⟨S6, T, X6, e6⟩
      obtain ⟨z, rfl, hz⟩ : ∃ z, y = .str z ∧ ([c.ask, c.ans] : List Str)[k]? = some z := by
        match k, hy with
        | 0, hy => cases hy; exact ⟨_, rfl, rfl⟩
        | 1, hy => cases hy; exact ⟨_, rfl, rfl⟩
      have et : ([c.ask, c.ans] : List Str).take (k + 1) = ([c.ask, c.ans] : List Str).take k ++ [z] := by rw [List.take_add_one, hz]; rfl
      refine ⟨rfl, ?_⟩
      refine ⟨_, rfl, _, rfl, D, _, rfl, .inl (SqL.of (S6 _ _ hD5)), rfl, (by rw [List.all_map]; exact List.all_eq_true.mpr fun _ _ => rfl), _, rfl, ?_⟩
      rw [if_pos rfl, inV_names, et]
      have ea : stoL recs c (([c.ask, c.ans] : List Str).take k ++ [z]) = stoL recs c (([c.ask, c.ans] : List Str).take k) ++ stoL recs c [z] := by
        unfold stoL
        rw [List.filter_append, List.map_append]
      rw [ea, ← e6]
      refine ite2 (fun hy => ?_) (fun hy => ?_)
      · refine ⟨_, rfl, _, rfl, (by show 3 ≤ sizeLine; decide), fun t7 ht7 => ?_⟩
        have nD : t7 ≠ D2 := fun e => by rw [e, X6.l] at ht7; cases ht7
        have nD' : D2 ≠ t7 := fun e => nD e.symm
        refine ⟨_, by rw [upd_ne nD']; exact X6.l, ?_, Same.two S6 hD2 ht7, _, RwL.more (y := kNob c.nam z) X6 ht7, ?_⟩
        · rw [List.length_map]
          have := congrArg List.length e6
          rw [List.length_map] at this
          rw [this]
          unfold stoL
          rw [List.length_map]
          refine Nat.lt_of_le_of_lt (List.length_filter_le _ _) ?_
          rw [List.length_take]
          exact Nat.lt_of_le_of_lt (Nat.min_le_right _ _) (show 2 < sizeLine by decide)
        · rw [List.map_append]
          congr 1
          unfold stoL
          rw [List.filter_cons, if_pos hy]
          rfl
      · refine ⟨S6, T, X6, ?_⟩
        have e0 : stoL recs c [z] = [] := by
          unfold stoL
          rw [List.filter_cons, if_neg hy]
          rfl
        rw [e0, List.append_nil]
    · rintro H6 ⟨S6, T, X6, e6⟩
      exact q D2 T H6 (S05.trans S6) (S05.free hD2) X6 e6
end
end Fh

set_option Elab.async false
set_option linter.all false
set_option maxRecDepth 100000
set_option maxHeartbeats 4000000
namespace Fh
open PySem PySem.Spec PyProof.Rows L2
/-! ### enumerate(what begins an iterator), from 0 on -/
theorem enum_new {v : Value} {o : Obj} {S : Heap → Prop} (B : PySem.Begins v o S) : Meets (Builtin.«enumerate.__new__» ⟨[.type "enumerate", v], []⟩) (fun _ R s => S s.heap ∧
    R (.ok (.ret (.ref (s.heap.push o).objs.size))) { s with heap := (s.heap.push o).push { cls := .type "enumerate", data := .fields #[.none, .bool false, .ref s.heap.objs.size, rawInt 0, .none, .none] } }) :=
  .of_wp fun prog w A R ⟨hp, g, d, tk, os⟩ ⟨hS, h⟩ => by
    have q0 := sub_enumerate
    have it : ∀ {A1 : Around} {E : Value → Shared → Prop} {Q : Value → Shared → Prop}, Q (.ref hp.objs.size) ⟨hp.push o, g, d, tk, os⟩ → wpAny (model prog w) A1 (pyIter v) Q E ⟨hp, g, d, tk, os⟩ := fun q => B.iter prog w _ _ ⟨hp, g, d, tk, os⟩ _ hS q
    wp_walk using it
    refine wpAny_stack_any fun st => wpAny_pure ?_
    split
    · rename_i c _ _ _ _ _
      cases (c == Value.type "enumerate") <;> (wp_walk using it; exact ⟨_, rfl, h⟩)
    · wp_walk using it
      exact ⟨_, rfl, h⟩
section
variable {prog : Program} {w : World} {A : Around} {E : Value → Shared → Prop} {s : Shared}
theorem call_enum {v : Value} {o : Obj} {S : Heap → Prop} {Q : Value → Shared → Prop} (B : PySem.Begins v o S) (hS : S s.heap)
    (h : ∀ h', IsEnum h' (s.heap.objs.size + 1) s.heap.objs.size 0 .none → h'.get? s.heap.objs.size = some o → (∀ b u, s.heap.get? b = some u → h'.get? b = some u) → Q (.ref (s.heap.objs.size + 1)) { s with heap := h' }) :
    wpAny (model prog w) A (call (.type "enumerate") [v]) Q E s := by
  refine callType_new F.called_enumerate (by decide) (F.typeCall_enumerate_1 _) (F.newCall_enumerate_1 _) (fun obj => F.args_object_init_2 obj _) F.entry_enumerate_new (enum_new B) ⟨hS, ?_⟩
  have z : (s.heap.push o).objs.size = s.heap.objs.size + 1 := Heap.size_push _ _
  have e1 := Heap.get?_push_size (s.heap.push o) (o := { cls := .type "enumerate", data := .fields #[.none, .bool false, .ref s.heap.objs.size, rawInt 0, .none, .none] }) rfl
  rw [z] at e1
  show _ ∧ _
  rw [z]
  exact ⟨⟨_, e1, rfl⟩, h _ e1 (Heap.get?_push_of_some _ (Heap.get?_push_size _ B.free)) fun b u q => Heap.get?_push_of_some _ (Heap.get?_push_of_some _ q)⟩
end
/-! ### for i, x in enumerate(tuple) -/
/-- the tuple xs at a, each item in a new pair -/
def IteT (K : PySem.W.Frag) (a : Addr) (xs : List V) : It :=
  ⟨fun i H => SqT K H a xs ∧ i < xs.length, fun i H v H' => ∃ T x, v = .ref T ∧ H T = none ∧ H' = upd H T (.tup [.int (i : Nat), x]) ∧ xs[i]? = some x, fun i H => SqT K H a xs ∧ xs.length = i⟩
theorem turn_enumT {P : Program} {w : World} {K : PySem.W.Frag} {elts : List Expr} {kk : Nat} {tpos : Pos} (a e it : Addr) (xs : List V) :
    Turn P w K (.Tuple elts kk tpos) (IteT K a xs) [e, it] e (fun i h => (∃ old, IsEnum h e it ((i : Nat) : Int) old) ∧ h.IsTupleIter it a i ∧ e ≠ it) where
  mem := List.mem_cons_self
  obj := fun i h ⟨⟨old, he⟩, ⟨o, ho, hc, hd⟩, _⟩ b hb => by
    rcases List.mem_cons.mp hb with rfl | hb
    · exact ⟨_, he, fun v q => nomatch q⟩
    · rw [List.mem_singleton.mp hb]
      exact ⟨o, ho, fun v q => by rw [hd] at q; cases q⟩
  keep := fun i h h' ⟨⟨old, he⟩, hi, ne⟩ k => ⟨⟨old, k e List.mem_cons_self _ he⟩, hi.at fun o q => k it (List.mem_cons_of_mem _ List.mem_cons_self) o q, ne⟩
  item := by
    intro X hP hw hK hc i pins s σ H E I hf st hg
    subst hP hw hK
    obtain ⟨⟨old, he⟩, hit, ne⟩ := st
    obtain ⟨hq, hlt⟩ := hg
    obtain ⟨its, rv, p, _⟩ := I.tuple hq
    have hlen : its.toArray.size = xs.length := by rw [List.size_toArray]; exact rv.length.symm
    have lte : e < s.heap.objs.size := Heap.lt_size he
    have lti : it < s.heap.objs.size := by obtain ⟨_, q, _⟩ := hit; exact Heap.lt_size q
    have nea : e ≠ a := fun q => by
      obtain ⟨o, ho, hcl, _⟩ := p
      rw [← q, he] at ho
      cases ho
      exact absurd (show Value.type "enumerate" = Value.type "tuple" from hcl) (by decide)
    have nia : a ≠ it := fun q => by
      obtain ⟨o, ho, hcl, _⟩ := p
      obtain ⟨o2, ho2, hcl2, _⟩ := hit
      rw [q, ho2] at ho
      cases ho
      rw [hcl] at hcl2
      exact absurd hcl2 (by decide)
    have D := PySem.Draws.tuple (prog := X.prog) (w := X.w) (A := X.A.in1) (by simpa using I.ok.hd hc) it a nia its.toArray
    refine wpAny_pyNext_enum_itemD D he ⟨hit, p⟩ (by rw [hlen]; exact hlt) ne (by simp [ne, nea]) fun u h' tk hu ho hst hT hsz hk => ?_
    refine ⟨_, rfl, wpAny_letOwnedTupleGo_enum (s := { s with heap := h', toks := tk + 1 }) ho fun h2 he2 sb => ?_⟩
    obtain ⟨x, hx, ru⟩ : ∃ x, xs[i]? = some x ∧ RelV x u := by
      obtain ⟨u2, hu2, r2⟩ := rv.get (List.getElem?_eq_getElem hlt)
      have hu' : its.toArray[i]? = some u := hu
      rw [List.getElem?_toArray, hu2] at hu'
      cases hu'
      exact ⟨_, List.getElem?_eq_getElem hlt, r2⟩
    have nT : s.heap.objs.size ≠ e := Nat.ne_of_gt lte
    have at2 : h2.get? s.heap.objs.size = some { cls := .type "tuple", data := .seq #[.int i tk, u] } := (sb.2 _ nT).trans hT
    have fresh := I.hok.fresh (Nat.le_refl s.heap.objs.size)
    have I1 : Inv X pins σ (upd H s.heap.objs.size (.tup [.int (i : Nat), x])) { s with heap := h2, toks := tk + 1 } :=
      I.turnedNew (ch := [e, it]) (fun b o hb q => by
        have b1 : b ≠ e := fun z => hb (by simp [z])
        have b2 : b ≠ it := fun z => hb (by simp [z])
        exact (sb.2 b b1).trans (hk b o b1 b2 q)) hf (Nat.le_refl _) ⟨by show 2 ≤ sizeLine; decide, [.int i tk, u], .cons ⟨_, rfl⟩ (.cons ru .nil), ⟨_, at2, rfl, _, rfl⟩⟩
    refine ⟨.ref s.heap.objs.size, _, I1, rfl, ⟨_, x, rfl, fresh, rfl, hx⟩, ⟨⟨u, ?_⟩, hst.1.at fun o q => (sb.2 it (Ne.symm ne)).trans q, ne⟩, fun b hb => ?_⟩
    · have e1 : ((i + 1 : Nat) : Int) = (i : Int) + 1 := by omega
      rw [e1]
      exact he2
    · have lb : b < s.heap.objs.size := by
        rcases List.mem_cons.mp hb with rfl | hb
        · exact lte
        · rw [List.mem_singleton.mp hb]; exact lti
      rw [upd_ne (Nat.ne_of_lt lb)]
      exact (hf b hb).1
  done := by
    intro X hP hw hK hc i pins s σ H E I hf st hg
    subst hP hw hK
    obtain ⟨⟨old, he⟩, hit, ne⟩ := st
    obtain ⟨hq, hn⟩ := hg
    obtain ⟨its, rv, p, _⟩ := I.tuple hq
    have hlen : its.toArray.size = i := by rw [List.size_toArray, ← hn]; exact rv.length.symm
    have nia : a ≠ it := fun q => by
      obtain ⟨o, ho, hcl, _⟩ := p
      obtain ⟨o2, ho2, hcl2, _⟩ := hit
      rw [q, ho2] at ho
      cases ho
      rw [hcl] at hcl2
      exact absurd hcl2 (by decide)
    have D := PySem.Draws.tuple (prog := X.prog) (w := X.w) (A := X.A.in1) (by simpa using I.ok.hd hc) it a nia its.toArray
    obtain ⟨f0, f1, f2, f3, f4, f5⟩ := hf it (by simp)
    rw [hlen] at D
    exact wpAny_pyNext_enum_endD D he ⟨hit, p⟩ fun h' eb => ⟨rfl, I.turned (t' := s.toks) (fun b o hb q => eb b o hb q) f0 f1 f3 f4 f5⟩
  self := fun A i s Q E ⟨⟨_, he⟩, _⟩ h => wpAny_pyIter_enum he h
def iEnumT (K : PySem.W.Frag) (ta : TA) : TI := fun σ H R => ta σ H fun vs H1 => ∃ a xs, vs = [.ref a] ∧ SqT K H1 a xs ∧ R (IteT K a xs) H1
theorem pi_enumT {X : Cx} {e : Expr} {ta : TA} {p pos tpos : Pos} {elts : List Expr} {kk : Nat} (hg : Gl X "enumerate") (hm : X.mg "enumerate" = none) (ha : PA X [e] ta) (hs : starEach [e] X.env = [(false, eval e X.env)] := by rfl) : PI X (.Tuple elts kk tpos) (.Call (.Name "enumerate" p) [e] [] pos) (iEnumT X.K ta) := by
  refine ⟨fun pins s σ H R I h => Call_ (ld_blt I hg hm boot_enumerate (PyProof.Rows.callWith_type1 (thn (ha.run pos pins s σ H _ I h) fun us s1 ⟨vs, H1, I1, r1, q1⟩ => ?_) hs rfl))⟩
  obtain ⟨a, xs, rfl, hq, q⟩ := q1
  obtain ⟨u, rfl, ru⟩ := vals1 r1
  cases ru
  obtain ⟨its, rv, pt, _⟩ := I1.tuple hq
  refine call_enum (PySem.begins_tuple a its.toArray) pt fun h' he hit hk => wpAny_pyIter_enum he ?_
  have I2 : Inv X pins σ H1 { s1 with heap := h' } := I1.kept (t' := s1.toks) hk
  refine ⟨s1.heap.objs.size + 1, [s1.heap.objs.size + 1, s1.heap.objs.size], _, _, H1, rfl, I2, turn_enumT a (s1.heap.objs.size + 1) s1.heap.objs.size xs, ⟨⟨.none, he⟩, ⟨_, hit, rfl, rfl⟩, Nat.succ_ne_self _⟩, fun b hb => ?_, q⟩
  have le : s1.heap.objs.size ≤ b := by
    rcases List.mem_cons.mp hb with rfl | hb
    · exact Nat.le_succ _
    · rw [List.mem_singleton.mp hb]; exact Nat.le_refl _
  exact I1.fpOk le (I1.hok.fresh le)
theorem walk_enumT {K : PySem.W.Frag} {a : Addr} {xs : List V} : Walk (IteT K a xs) xs.length (fun H => SqT K H a xs) (YPair (fun i => some (.int (i : Nat))) (fun i => xs[i]?)) :=
  ⟨fun i H hi q => ⟨q, hi⟩, fun H q => ⟨q, rfl⟩, fun i H x H' hi q ⟨T, y, e, hT, eH, hy⟩ => ⟨T, _, y, e, hT, eH, rfl, hy⟩⟩
end Fh

set_option Elab.async false
set_option linter.all false
set_option maxRecDepth 100000
set_option maxHeartbeats 4000000
namespace Fh
open PySem L2 PyProof.Rows
/-! ### x in a list of data, x not in one -/
def rInDL (K : PySem.W.Frag) (neg : Bool) : R2 := fun x y H Q => ∃ d ds, Dp K H x d ∧ Dp K H y (.list ds) ∧ SeqAt.shaped d = true ∧ SeqAt.shaped (.list ds) = true ∧ PyData.depthAll ds ≤ 2 ∧ Q (.bl (if neg = true then !(ds.any fun z => PyData.eqv z d) else ds.any fun z => PyData.eqv z d)) H
theorem op_inDL {X : Cx} (hu : X.A.units + 64 < cLine) : OpR X (compareOp .In) (rInDL X.K false) := by
  intro pins s σ H x y v u Q I rx ry h
  obtain ⟨d, ds, hd, he, sd, se, dp, q⟩ := h
  obtain ⟨as, r1⟩ := Dp.reads I d x v hd rx
  obtain ⟨bs, r2⟩ := Dp.reads I (.list ds) y u he ry
  exact SeqAt.in_list_reads r2 r1 (SeqAt.canLay_of_shaped se) (SeqAt.canLay_of_shaped sd) (Nat.lt_of_le_of_lt (Nat.add_le_add_left (Nat.le_trans (Nat.min_le_left _ _) dp) _) (by omega)) ⟨.bl _, H, I, rfl, q⟩
theorem op_notInDL {X : Cx} (hu : X.A.units + 64 < cLine) : OpR X (compareOp .NotIn) (rInDL X.K true) := by
  intro pins s σ H x y v u Q I rx ry h
  obtain ⟨d, ds, hd, he, sd, se, dp, q⟩ := h
  obtain ⟨as, r1⟩ := Dp.reads I d x v hd rx
  obtain ⟨bs, r2⟩ := Dp.reads I (.list ds) y u he ry
  exact SeqAt.notIn_list_reads r2 r1 (SeqAt.canLay_of_shaped se) (SeqAt.canLay_of_shaped sd) (Nat.lt_of_le_of_lt (Nat.add_le_add_left (Nat.le_trans (Nat.min_le_left _ _) dp) _) (by omega)) ⟨.bl _, H, I, rfl, q⟩
/-! ### effects -/
def effD (an : List Fl) : List Str → PyData
  | a :: b :: c :: r => if a = "ask" then dD (a :: b :: c :: r) else if setB an a b = true then .tuple [.str "set", .str b] else .none
  | _ => .none
def isNo : PyData → Bool
  | .none => true
  | _ => false
structure DdOk (d : List Str) : Prop where
  l : 3 ≤ d.length
  sh : ∀ z ∈ d, Sh 0 (.str z)
structure CwOk (c : Cw) : Prop where
  l : c.ds.length ≤ 12
  ok : ∀ d ∈ c.ds, DdOk d
theorem DdOk.cut {d : List Str} (h : DdOk d) : ∃ a b c r, d = a :: b :: c :: r := by
  match d, h.l with
  | a :: b :: c :: r, _ => exact ⟨a, b, c, r, rfl⟩
theorem eff_sh {an : List Fl} {d : List Str} (h : DdOk d) : Sh 1 (effD an d) := by
  obtain ⟨a, b, c, r, rfl⟩ := h.cut
  have sb := h.sh b (by simp)
  have st : Sh 0 (.str "set") := ⟨by decide +kernel, Nat.zero_le _⟩
  show Sh 1 (if a = "ask" then dD (a :: b :: c :: r) else if setB an a b = true then .tuple [.str "set", .str b] else .none)
  by_cases h1 : a = "ask"
  · rw [if_pos h1]
    exact Sh.tup fun e he => by
      obtain ⟨z, hz, rfl⟩ := List.mem_map.mp he
      exact h.sh z hz
  · rw [if_neg h1]
    by_cases h2 : setB an a b = true
    · rw [if_pos h2]
      exact Sh.tup fun e he => by
        rcases List.mem_cons.mp he with e1 | he
        · rw [e1]; exact st
        · rw [List.mem_singleton.mp he]; exact sb
    · rw [if_neg h2]
      exact ⟨rfl, Nat.zero_le _⟩
def EfV (H : Hp) (v : V) (d : PyData) : Prop := (v = .non ∧ d = .none) ∨ (v ≠ .non ∧ isNo d = false ∧ Tp H v d)
theorem EfV.same {H H' : Hp} {v : V} {d : PyData} (h : EfV H v d) (s : Tk H H') : EfV H' v d := by
  rcases h with h | ⟨h1, h2, h3⟩
  · exact .inl h
  · exact .inr ⟨h1, h2, Tp.keep s _ _ h3⟩
theorem EfV.dp {K : PySem.W.Frag} {H : Hp} {v : V} {d : PyData} (h : EfV H v d) : Dp K H v d := by
  rcases h with ⟨rfl, rfl⟩ | ⟨_, _, h3⟩
  · exact .non
  · exact h3.dp
inductive EfAll (H : Hp) : List V → List PyData → Prop
  | nil : EfAll H [] []
  | cons {v d vs ds} : EfV H v d → EfAll H vs ds → EfAll H (v :: vs) (d :: ds)
theorem EfAll.same {H H' : Hp} (s : Tk H H') : ∀ {vs : List V} {ds : List PyData}, EfAll H vs ds → EfAll H' vs ds
  | _, _, .nil => .nil
  | _, _, .cons h r => .cons (h.same s) (r.same s)
theorem EfAll.dp {K : PySem.W.Frag} {H : Hp} : ∀ {vs : List V} {ds : List PyData}, EfAll H vs ds → DpAll K H vs ds
  | _, _, .nil => .nil
  | _, _, .cons h r => .cons h.dp r.dp
theorem EfAll.len {H : Hp} : ∀ {vs : List V} {ds : List PyData}, EfAll H vs ds → vs.length = ds.length
  | _, _, .nil => rfl
  | _, _, .cons _ r => by rw [List.length_cons, List.length_cons, r.len]
theorem EfAll.snoc {H : Hp} {v : V} {d : PyData} (h : EfV H v d) : ∀ {vs : List V} {ds : List PyData}, EfAll H vs ds → EfAll H (vs ++ [v]) (ds ++ [d])
  | _, _, .nil => .cons h .nil
  | _, _, .cons h1 r => .cons h1 (EfAll.snoc h r)
theorem EfAll.snoc' {H : Hp} {v : V} {d : PyData} {vs : List V} {ds : List PyData} (r : EfAll H vs ds) (h : EfV H v d) : EfAll H (vs ++ [v]) (ds ++ [d]) := EfAll.snoc h r
theorem effs_sh {an : List Fl} {ds : List (List Str)} (h : ∀ d ∈ ds, DdOk d) : SeqAt.shaped (.list (ds.map (effD an))) = true ∧ PyData.depthAll (ds.map (effD an)) ≤ 2 := by
  have a : ∀ e ∈ ds.map (effD an), Sh 1 e := fun e he => by
    obtain ⟨d, hd, rfl⟩ := List.mem_map.mp he
    exact eff_sh (h d hd)
  exact ⟨(Sh.lst a).shaped (by decide), Nat.le_trans (depth_all _ fun e he => (a e he).2) (by decide)⟩
/-! ### rows of deeds -/
def kAt (w z : Str) (j : Nat) : List Key := [.inr w, .inr z, .inl j]
def wde1 (nm : Str) (c : Cw) (own an : List Fl) (j : Nat) (d : List Str) : List (List Key) :=
  (if astB nm own an d (c.ds.take j) = true then [] else [kAt "deed" c.nam j]) ++ (if (!isNo (effD an d) && ((c.ds.take j).map (effD an)).any fun z => PyData.eqv z (effD an d)) = true then [kAt "twice" c.nam j] else [])
def wdeR (nm : Str) (c : Cw) (own an : List Fl) : Nat → List (List Key)
  | 0 => []
  | j + 1 => wdeR nm c own an j ++ (match c.ds[j]? with
    | some d => wde1 nm c own an j d
    | none => [])
theorem wde_len {nm : Str} {c : Cw} {own an : List Fl} : ∀ j, (wdeR nm c own an j).length ≤ 2 * j
  | 0 => Nat.le_refl _
  | j + 1 => by
    have ih := wde_len (nm := nm) (c := c) (own := own) (an := an) j
    unfold wdeR
    rw [List.length_append]
    have : (match c.ds[j]? with
      | some d => wde1 nm c own an j d
      | none => []).length ≤ 2 := by
      cases c.ds[j]? with
      | none => exact Nat.zero_le _
      | some d =>
        show (wde1 nm c own an j d).length ≤ 2
        unfold wde1
        rw [List.length_append]
        have a1 : (if astB nm own an d (c.ds.take j) = true then [] else [kAt "deed" c.nam j]).length ≤ 1 := by split <;> simp
        have a2 : (if (!isNo (effD an d) && ((c.ds.take j).map (effD an)).any fun z => PyData.eqv z (effD an d)) = true then [kAt "twice" c.nam j] else []).length ≤ 1 := by split <;> simp
        omega
    omega
def FaceN (C : Addr) (H : Hp) (fa : Addr) (nm : Str) (cs rs : List (Str × PyData)) : Prop := ∃ (dx : Addr) (v2 v3 v4 v5 : V), H fa = some (.ins C dx (ff (.str nm) v2 v3 v4 v5)) ∧ TpR H v3 (rowsD cs) ∧ TpR H v4 (rowsD rs)
theorem FaceN.r {C : Addr} {H : Hp} {fa : Addr} {nm : Str} {cs rs : List (Str × PyData)} (h : FaceN C H fa nm cs rs) : FaceR C H fa cs rs := by
  obtain ⟨dx, v2, v3, v4, v5, h1, h2, h3⟩ := h
  exact ⟨dx, _, v2, v3, v4, v5, h1, h2, h3⟩
theorem FaceN.same {C : Addr} {H H' : Hp} {fa : Addr} {nm : Str} {cs rs : List (Str × PyData)} (h : FaceN C H fa nm cs rs) (s : Same H H') : FaceN C H' fa nm cs rs := by
  obtain ⟨dx, v2, v3, v4, v5, h1, h2, h3⟩ := h
  exact ⟨dx, v2, v3, v4, v5, s _ _ h1, h2.same s, h3.same s⟩
theorem cut_take {xs : List V} {j : Nat} (h : j ≤ xs.length) : cutV xs none (some (j : Int)) = xs.take j := by
  unfold cutV
  have e0 : HT.sIx xs.length 0 none = 0 := rfl
  have e1 : HT.sIx xs.length xs.length (some (j : Int)) = j := by
    show (if (j : Int) < 0 then ((j : Int) + (xs.length : Nat)).toNat else min (j : Int).toNat xs.length) = j
    rw [if_neg (by omega)]
    show min j xs.length = j
    omega
  rw [e0, e1]
  rfl
theorem npW {σ : L2.St} {H : Hp} {Q : Option Int → Hp → Prop} (h : Q none H) : tNoPart σ H Q := h
theorem TpAll.take {H : Hp} : ∀ {vs : List V} {ds : List PyData} (k : Nat), TpAll H vs ds → TpAll H (vs.take k) (ds.take k)
  | _, _, 0, _ => .nil
  | _, _, _ + 1, .nil => .nil
  | _, _, k + 1, .cons h r => .cons h (r.take k)
abbrev sWde : Stmt := top 25
abbrev nWde : List Str := ["face", "call", "number", "name", "ask", "answer", "deeds", "asked", "answered", "found", "done", "place", "deed", "effect"]
def spWde (C : Addr) : Sp := fun vs H Q _ => ∃ (fa t : Addr) (nm : Str) (cs rs : List (Str × PyData)) (c : Cw) (own an : List Fl), vs = [.ref fa, .ref t] ∧ FaceN C H fa nm cs rs ∧ Tp H (.ref t) c.d ∧ CwOk c ∧ rs.lookup c.ask = some (.tuple (own.map Fl.d)) ∧ rs.lookup c.ans = some (.tuple (an.map Fl.d)) ∧ FOkR own ∧ FOkR an ∧
  ∀ (p : Addr) (T : List Row) (H' : Hp), Same H H' → H p = none → RwL H' p T → T.map (·.2) = wdeR nm c own an c.ds.length → Q (.ref p) H'
section
variable {P : Program} {w : World} {K : PySem.W.Frag} {mg : Str → Option Value} {base : Heap}
theorem scWde : FnScope nWde ["face", "call"] (defScope sWde) := ⟨rfl, rfl, rfl, by decide +kernel, rfl, by decide +kernel, by decide +kernel⟩
theorem ok_wde {C f : Addr} {fd : FuncData} (F : Fun K "wrong_deeds" "wrong_deeds" sWde f fd) (G : Glb mg) (ge : mg "enumerate" = none) (DB : Has P w K mg base "fields_by_name" 2 ["face", "record"] (spFbn9 C)) (DA : Has P w K mg base "is_as_told" 2 pAst (spAst C)) (DE : Has P w K mg base "effect_of" 1 nEff spEff) : FnOk P w K mg base CX0 3 f fd ["face", "call"] (spWde C) := by
  refine F.ok scWde (fun vs H Q E h => ?_) (fun cdv A outer s H vs Q E hr h => ?_)
  · obtain ⟨fa, t, nm, cs, rs, c, own, an, rfl, _⟩ := h
    rfl
  · obtain ⟨fa, t, nm, cs, rs, c, own, an, rfl, hF, tc, cok, r1, r2, okD, okE, q⟩ := h
    have hu := hu_of hr
    refine ⟨_, (pss_cons (ps_asg (pv 1) (pg_tup rfl (pgs_cons (pg_name (i := 2) scWde.nd rfl (Or.inl rfl)) (pgs_cons (pg_name (i := 3) scWde.nd rfl (Or.inl rfl)) (pgs_cons (pg_name (i := 4) scWde.nd rfl (Or.inl rfl)) (pgs_cons (pg_name (i := 5) scWde.nd rfl (Or.inl rfl)) (pgs_cons (pg_name (i := 6) scWde.nd rfl (Or.inl rfl)) pgs_nil)))))))
      (pss_cons (ps_set (i := 7) scWde.nd rfl (Or.inl rfl) (pe_has DB (hr.mono (by omega)) rfl (pa_cons (pv 0) (pa_cons (pv 4) pa_nil))))
      (pss_cons (ps_set (i := 8) scWde.nd rfl (Or.inl rfl) (pe_has DB (hr.mono (by omega)) rfl (pa_cons (pv 0) (pa_cons (pv 5) pa_nil))))
      (pss_cons (ps_set (i := 9) scWde.nd rfl (Or.inl rfl) (pe_lst pa_nil))
      (pss_cons (ps_set (i := 10) scWde.nd rfl (Or.inl rfl) (pe_lst pa_nil))
      (pss_cons (ps_for PassesOwn.never rfl (pi_enumT rfl G.enumerate (pa_cons (pv 6) pa_nil)) (pg_tup rfl (pgs_cons (pg_name (i := 11) scWde.nd rfl (Or.inl rfl)) (pgs_cons (pg_name (i := 12) scWde.nd rfl (Or.inl rfl)) pgs_nil)))
      (C8.pss_cut (ps_if (pt_not (pt_val (pe_has DA (hr.mono (by omega)) rfl (pa_cons (pv 0) (pa_cons (pv 12) (pa_cons (pv 7) (pa_cons (pv 8) (pa_cons (pe_slice sl_tup (pv 6) po_none (po_some (pv 11))) pa_nil))))))))
      (pss_one (ps_expr (pe_bm PySem.F.plainAttrs_list PySem.F.slot_list_append PySem.F.type_list_append mt_append (pv 9) (pa_cons (pe_tup (pa_cons pe_str (pa_cons (pv 3) (pa_cons (pv 11) pa_nil)))) pa_nil))))
      pss_nil)
      (C8.pss_cut (ps_set (i := 13) scWde.nd rfl (Or.inl rfl) (pe_has DE (hr.mono (by omega)) rfl (pa_cons (pv 12) (pa_cons (pv 8) pa_nil))))
      (C8.pss_cut (ps_if (PW.pt (pw_and (pt_cmpR op_notN (pv 13) pe_non (nomark _)) (pw_and1 (pt_cmpR (op_inDL hr.units) (pv 13) (pv 10) rfl))))
      (pss_one (ps_expr (pe_bm PySem.F.plainAttrs_list PySem.F.slot_list_append PySem.F.type_list_append mt_append (pv 9) (pa_cons (pe_tup (pa_cons pe_str (pa_cons (pv 3) (pa_cons (pv 11) pa_nil)))) pa_nil))))
      pss_nil)
      (pss_one (ps_expr (pe_bm PySem.F.plainAttrs_list PySem.F.slot_list_append PySem.F.type_list_append mt_append (pv 10) (pa_cons (pv 13) pa_nil))))))))
      (pss_one (ps_ret (pv 9))))))))), ?_⟩
    obtain ⟨t', e, xs, et, ht, he, txs⟩ := cw_at tc
    cases et
    have lx : xs.length = c.ds.length := by rw [txs.length, List.length_map]
    have l20 : c.ds.length ≤ 20 := Nat.le_trans cok.l (by decide)
    refine ⟨_, rfl, t, _, rfl, SqT.of ht, rfl, _, _, rfl, _, _, rfl, _, _, rfl, _, _, rfl, _, _, rfl, rfl, ?_⟩
    try dsimp only [List.set_cons_succ, List.set_cons_zero]
    refine ⟨_, rfl, _, rfl, fa, c.ask, cs, rs, own, rfl, hF.r, r1, okD.nd, okD.l, fun D H1 hD S1 fb1 => ?_⟩
    try dsimp only [List.set_cons_succ, List.set_cons_zero]
    refine ⟨_, rfl, _, rfl, fa, c.ans, cs, rs, an, rfl, hF.r.same S1, r2, okE.nd, okE.l, fun E2 H2 hE2 S2 fb2 => ?_⟩
    try dsimp only [List.set_cons_succ, List.set_cons_zero]
    have fb1 := fb1.same S2
    have S02 := S1.trans S2
    refine ⟨Nat.zero_le _, fun Fo hFo => ?_⟩
    have S3 : Same H2 (upd H2 Fo (.lst [])) := Same.new hFo
    have e3 : (upd H2 Fo (.lst [])) Fo = some (.lst []) := upd_same
    generalize (upd H2 Fo (.lst [])) = H3 at *
    try dsimp only [List.set_cons_succ, List.set_cons_zero]
    refine ⟨Nat.zero_le _, fun Dn hDn => ?_⟩
    have S4 : Same H3 (upd H3 Dn (.lst [])) := Same.new hDn
    have e4 : (upd H3 Dn (.lst [])) Dn = some (.lst []) := upd_same
    have e3' := S4 _ _ e3
    have nFD : Fo ≠ Dn := fun h => by rw [← h, e3] at hDn; cases hDn
    have Dn0 : H2 Dn = none := S3.free hDn
    have S24 := S3.trans S4
    generalize (upd H3 Dn (.lst [])) = H4 at *
    try dsimp only [List.set_cons_succ, List.set_cons_zero]
    refine ⟨_, rfl, e, xs, rfl, SqT.of (S24 _ _ (S02 _ _ he)), ?_⟩
    refine L2.for_it walk_enumT (fun j σ H5 => ∃ (T : List Row) (vs : List V), (∃ a11 a12 a13, σ = [some (.ref fa), some (.ref t), some (.int c.num), some (.str c.nam), some (.str c.ask), some (.str c.ans), some (.ref e), some (.ref D), some (.ref E2), some (.ref Fo), some (.ref Dn), a11, a12, a13]) ∧ Same H2 H5 ∧ RwL H5 Fo T ∧ T.map (·.2) = wdeR nm c own an j ∧ H5 Dn = some (.lst vs) ∧ EfAll H5 vs ((c.ds.take j).map (effD an))) ?_ ?_ ?_ ?_
    · exact ⟨[], [], ⟨_, _, _, rfl⟩, S24, RwL.nil e3', rfl, e4, .nil⟩
    · rintro j σ H5 _ ⟨T, vs, _, S5, _⟩
      exact SqT.of (S5 _ _ (S02 _ _ he))
    · rintro j x σ H5 H6 hj ⟨T, vs, ⟨a11, a12, a13, rfl⟩, S5, X5, eT5, h5D, ef5⟩ ⟨Tt, y1, y2, rfl, hT, rfl, g1, g2⟩
      cases g1
      obtain ⟨dd, hd1, td⟩ := txs.get' g2
      obtain ⟨d, hdd, rfl⟩ : ∃ d, c.ds[j]? = some d ∧ dd = dD d := by
        rw [List.getElem?_map] at hd1
        cases q : c.ds[j]? with
        | none => rw [q] at hd1; cases hd1
        | some dd => rw [q] at hd1; exact ⟨dd, rfl, (Option.some.inj hd1).symm⟩
      have dok := cok.ok d (List.mem_of_getElem? hdd)
      have hj20 : j < c.ds.length := (List.getElem?_eq_some_iff.mp hdd).1
      obtain ⟨td1, rfl, htd⟩ := dD_at td
      obtain ⟨a, b, c3, r, rfl⟩ := dok.cut
      have S6 : Same H5 (upd H5 Tt (.tup [.int (j : Nat), .ref td1])) := Same.new hT
      have eT : (upd H5 Tt (.tup [.int (j : Nat), .ref td1])) Tt = some (.tup [.int (j : Nat), .ref td1]) := upd_same
      have X6 := X5.same S6
      have h6D := S6 _ _ h5D
      have ef6 := ef5.same (Same.tk S6)
      have S26 := S5.trans S6
      generalize (upd H5 Tt (.tup [.int (j : Nat), .ref td1])) = H6 at *
      refine ⟨Tt, _, rfl, SqT.of eT, rfl, _, _, rfl, _, _, rfl, rfl, ?_⟩
      try dsimp only [List.set_cons_succ, List.set_cons_zero]
      obtain ⟨dx, w2, w3, w4, w5, hA, _⟩ := id hF
      have S06 := S02.trans S26
      have htd6 := S06 _ _ htd
      have two : ∀ {H' : Hp} {T' : List Row} {t9 : Addr} {y : List Key}, Same H2 H' → RwL H' Fo T' → H' Dn = some (.lst vs) → EfAll H' vs ((c.ds.take j).map (effD an)) → H' t9 = none →
          Same H2 (upd (upd H' t9 (.tup (y.map kV))) Fo (.lst (T'.map (fun q => V.ref q.1) ++ [.ref t9]))) ∧ RwL (upd (upd H' t9 (.tup (y.map kV))) Fo (.lst (T'.map (fun q => V.ref q.1) ++ [.ref t9]))) Fo (T' ++ [(t9, y)]) ∧ (upd (upd H' t9 (.tup (y.map kV))) Fo (.lst (T'.map (fun q => V.ref q.1) ++ [.ref t9]))) Dn = some (.lst vs) ∧ Tk H' (upd (upd H' t9 (.tup (y.map kV))) Fo (.lst (T'.map (fun q => V.ref q.1) ++ [.ref t9]))) := fun {H' T' t9 y} S' X' hD' ef' ht9 => by
        have n1 : Dn ≠ t9 := fun h => by rw [← h, hD'] at ht9; cases ht9
        have hFo' : (upd H' t9 (.tup (y.map kV))) Fo = some (.lst (T'.map fun q => V.ref q.1)) := Same.new ht9 _ _ X'.l
        exact ⟨Same.two S' hFo ht9, RwL.more X' ht9, by rw [upd_ne (Ne.symm nFD), upd_ne n1]; exact hD', (Same.tk (Same.new ht9)).trans (Tk.wr hFo')⟩
      have small : ∀ {T' : List Row}, T'.length ≤ 100 → (T'.map fun q => V.ref q.1).length < sizeLine := fun {T'} h => by
        rw [List.length_map]
        exact Nat.lt_of_le_of_lt h (by decide)
      have lT : T.length ≤ 2 * j := by
        have := congrArg List.length eT5
        rw [List.length_map] at this
        rw [this]
        exact wde_len j
      refine ⟨fun σ H' => ∃ T', σ = [some (.ref fa), some (.ref t), some (.int c.num), some (.str c.nam), some (.str c.ask), some (.str c.ans), some (.ref e), some (.ref D), some (.ref E2), some (.ref Fo), some (.ref Dn), some (.int (j : Nat)), some (.ref td1), a13] ∧ Same H2 H' ∧ RwL H' Fo T' ∧ T'.map (·.2) = wdeR nm c own an j ++ (if astB nm own an (a :: b :: c3 :: r) (c.ds.take j) = true then [] else [kAt "deed" c.nam j]) ∧ H' Dn = some (.lst vs) ∧ EfAll H' vs ((c.ds.take j).map (effD an)) ∧ T'.length ≤ 2 * j + 1, ?_, ?_⟩
      · refine ⟨_, rfl, _, rfl, _, rfl, _, rfl, _, rfl, npW ⟨_, rfl, _, rfl, ?_⟩⟩
        refine ⟨e, xs, rfl, SqT.of (S06 _ _ he), fun h => ?_, fun p hp => ?_⟩
        · have e1 : HT.sIx xs.length xs.length (some ((j : Nat) : Int)) = j := by
            show (if (j : Int) < 0 then ((j : Int) + (xs.length : Nat)).toNat else min (j : Int).toNat xs.length) = j
            rw [if_neg (by omega)]
            show min j xs.length = j
            omega
          rw [e1] at h
          omega
        rw [cut_take (by omega)]
        have S7 := Same.new (H := H6) (o := .tup (xs.take j)) hp
        have e7 : (upd H6 p (.tup (xs.take j))) p = some (.tup (xs.take j)) := upd_same
        generalize (upd H6 p (.tup (xs.take j))) = H7 at *
        have S07 := S06.trans S7
        refine ⟨fa, td1, D, E2, p, dx, nm, w2, w3, w4, w5, own, an, a, b, c3, r, xs.take j, c.ds.take j, rfl, S07 _ _ hA, S07 _ _ htd, fb1.same (S26.trans S7), fb2.same (S26.trans S7), okD, okE, e7, ?_, fun d hd => ?_, ?_, fun H8 S8 => ?_⟩
        · have := TpAll.keep (Same.tk S07) _ _ (txs.take j)
          rw [← List.map_take] at this
          exact this
        · intro h0
          have := (cok.ok d (List.mem_of_mem_take hd)).l
          rw [h0] at this
          exact absurd this (by decide)
        · rw [List.length_take]
          omega
        · have S28 := S26.trans (S7.trans S8)
          have S68 := S7.trans S8
          refine ⟨_, rfl, ?_⟩
          cases hb : astB nm own an (a :: b :: c3 :: r) (c.ds.take j) with
          | true =>
            refine iteF ?_
            exact ⟨T, rfl, S28, X6.same S68, by rw [if_pos rfl, List.append_nil]; exact eT5, S68 _ _ h6D, ef6.same (Same.tk S68), by omega⟩
          | false =>
            refine iteT ?_
            refine ⟨_, rfl, .inl ⟨rfl, _, SqL.of (X6.same S68).l⟩, ?_⟩
            refine ⟨_, rfl, _, rfl, (by show 3 ≤ sizeLine; decide), fun t9 ht9 => ?_⟩
            have hFo' : (upd H8 t9 (.tup ((kAt "deed" c.nam j).map kV))) Fo = some (.lst (T.map fun q => V.ref q.1)) := Same.new ht9 _ _ (X6.same S68).l
            refine ⟨Fo, _, _, rfl, rfl, hFo', small (by omega), ?_⟩
            obtain ⟨z1, z2, z3, z4⟩ := two (y := kAt "deed" c.nam j) S28 (X6.same S68) (S68 _ _ h6D) (ef6.same (Same.tk S68)) ht9
            refine ⟨_, rfl, z1, z2, ?_, z3, (ef6.same (Same.tk S68)).same z4, ?_⟩
            · rw [List.map_append, eT5, if_neg Bool.false_ne_true]
              rfl
            · rw [List.length_append]
              show T.length + 1 ≤ _
              omega
      rintro σ H7 ⟨T7, rfl, S7, X7, eT7, h7D, ef7, lT7⟩
      try dsimp only [List.set_cons_succ, List.set_cons_zero]
      -- its effect
      refine ⟨fun σ H' => ∃ v, σ = [some (.ref fa), some (.ref t), some (.int c.num), some (.str c.nam), some (.str c.ask), some (.str c.ans), some (.ref e), some (.ref D), some (.ref E2), some (.ref Fo), some (.ref Dn), some (.int (j : Nat)), some (.ref td1), some v] ∧ Same H7 H' ∧ EfV H' v (effD an (a :: b :: c3 :: r)), ?_, ?_⟩
      · have htd7 := S7 _ _ (S02 _ _ htd)
        have tdT : Tp H7 (.ref td1) (dD (a :: b :: c3 :: r)) := Tp.keep (Same.tk (S02.trans S7)) _ _ td
        refine ⟨_, rfl, _, rfl, td1, E2, an, a, b, c3, r, rfl, htd7, fb2.same S7, fun h => ?_, fun h1 h2 p hp => ?_, fun h1 h2 => ?_⟩
        · refine ⟨_, rfl, Same.refl _, .inr ⟨(fun h => nomatch h), ?_, ?_⟩⟩
          · show isNo (if a = "ask" then dD (a :: b :: c3 :: r) else _) = false
            rw [if_pos h]
            rfl
          · show Tp H7 _ (if a = "ask" then dD (a :: b :: c3 :: r) else _)
            rw [if_pos h]
            exact tdT
        · refine ⟨_, rfl, Same.new hp, .inr ⟨(fun h => nomatch h), ?_, ?_⟩⟩
          · show isNo (if a = "ask" then dD (a :: b :: c3 :: r) else if setB an a b = true then .tuple [.str "set", .str b] else .none) = false
            rw [if_neg h1, if_pos h2]
            rfl
          · show Tp _ _ (if a = "ask" then dD (a :: b :: c3 :: r) else if setB an a b = true then .tuple [.str "set", .str b] else .none)
            rw [if_neg h1, if_pos h2]
            exact .tup upd_same (.cons (.str _) (.cons (.str _) .nil))
        · refine ⟨_, rfl, Same.refl _, .inl ⟨rfl, ?_⟩⟩
          show (if a = "ask" then dD (a :: b :: c3 :: r) else if setB an a b = true then .tuple [.str "set", .str b] else .none) = PyData.none
          rw [if_neg h1, if_neg (by rw [h2]; exact Bool.false_ne_true)]
      rintro σ H8 ⟨v, rfl, S78, efv⟩
      have S8 := S7.trans S78
      have X8 := X7.same S78
      have h8D := S78 _ _ h7D
      have ef8 := ef7.same (Same.tk S78)
      try dsimp only [List.set_cons_succ, List.set_cons_zero]
      have effsh := effs_sh (an := an) (ds := c.ds.take j) fun d hd => cok.ok d (List.mem_of_mem_take hd)
      have dsh : SeqAt.shaped (effD an (a :: b :: c3 :: r)) = true := (eff_sh dok).shaped (by decide)
      -- twice
      refine ⟨fun σ H' => ∃ T', σ = [some (.ref fa), some (.ref t), some (.int c.num), some (.str c.nam), some (.str c.ask), some (.str c.ans), some (.ref e), some (.ref D), some (.ref E2), some (.ref Fo), some (.ref Dn), some (.int (j : Nat)), some (.ref td1), some v] ∧ Same H2 H' ∧ RwL H' Fo T' ∧ T'.map (·.2) = wdeR nm c own an j ++ wde1 nm c own an j (a :: b :: c3 :: r) ∧ H' Dn = some (.lst vs) ∧ EfAll H' vs ((c.ds.take j).map (effD an)) ∧ EfV H' v (effD an (a :: b :: c3 :: r)), ?_, ?_⟩
      · refine ⟨_, rfl, rfl, _, rfl, ?_⟩
        have ew : ∀ {tw : Bool}, (!isNo (effD an (a :: b :: c3 :: r)) && ((c.ds.take j).map (effD an)).any fun z => PyData.eqv z (effD an (a :: b :: c3 :: r))) = tw → wdeR nm c own an j ++ wde1 nm c own an j (a :: b :: c3 :: r) = T7.map (·.2) ++ (if tw = true then [kAt "twice" c.nam j] else []) := fun {tw} h => by
          rw [eT7, List.append_assoc]
          unfold wde1
          rw [h]
        rcases id efv with ⟨rfl, e0⟩ | ⟨nv, e0, tv⟩
        · refine iteF (iteF ?_)
          refine ⟨T7, rfl, S8, X8, ?_, h8D, ef8, efv⟩
          rw [ew (tw := false) (by rw [e0]; rfl)]
          simp
        · rw [show (!decide (v = V.non)) = true by rw [decide_eq_false nv]; rfl]
          refine iteT ?_
          refine ⟨_, rfl, _, rfl, _, _, efv.dp, Dp.lst (SqL.of h8D) ef8.dp, dsh, effsh.1, effsh.2, _, rfl, ?_⟩
          rw [if_neg Bool.false_ne_true]
          cases hany : ((c.ds.take j).map (effD an)).any fun z => PyData.eqv z (effD an (a :: b :: c3 :: r)) with
          | false =>
            refine iteF ?_
            refine ⟨T7, rfl, S8, X8, ?_, h8D, ef8, efv⟩
            rw [ew (tw := false) (by rw [e0, hany]; rfl)]
            simp
          | true =>
            refine iteT ?_
            refine ⟨_, rfl, .inl ⟨rfl, _, SqL.of X8.l⟩, ?_⟩
            refine ⟨_, rfl, _, rfl, (by show 3 ≤ sizeLine; decide), fun t9 ht9 => ?_⟩
            have hFo' : (upd H8 t9 (.tup ((kAt "twice" c.nam j).map kV))) Fo = some (.lst (T7.map fun q => V.ref q.1)) := Same.new ht9 _ _ X8.l
            refine ⟨Fo, _, _, rfl, rfl, hFo', small (by omega), ?_⟩
            obtain ⟨z1, z2, z3, z4⟩ := two (y := kAt "twice" c.nam j) S8 X8 h8D ef8 ht9
            refine ⟨_, rfl, z1, z2, ?_, z3, ef8.same z4, efv.same z4⟩
            rw [ew (tw := true) (by rw [e0, hany]; rfl), List.map_append]
            rfl
      rintro σ H9 ⟨T9, rfl, S9, X9, eT9, h9D, ef9, efv9⟩
      -- done
      refine ⟨_, rfl, .inl ⟨rfl, _, SqL.of h9D⟩, _, rfl, Dn, _, _, rfl, rfl, h9D, ?_, ?_⟩
      · rw [ef9.len, List.length_map, List.length_take]
        exact Nat.lt_of_le_of_lt (show _ ≤ 20 by omega) (by decide)
      have W := Tk.wr (o := .lst (vs ++ [v])) h9D
      refine ⟨T9, vs ++ [v], ⟨_, _, _, rfl⟩, Same.wr S9 Dn0, ⟨by rw [upd_ne nFD]; exact X9.l, fun q hq => W _ _ (X9.t q hq)⟩, ?_, upd_same, ?_⟩
      · rw [eT9]
        show _ = wdeR nm c own an j ++ (match c.ds[j]? with
          | some d => wde1 nm c own an j d
          | none => [])
        rw [hdd]
      · rw [List.take_add_one, hdd, List.map_append]
        exact (ef9.same W).snoc' (efv9.same W)
    · rintro σ H5 ⟨T, vs, ⟨a11, a12, a13, rfl⟩, S5, X5, eT5, h5D, ef5⟩
      rw [lx] at eT5
      exact ⟨_, rfl, q Fo T H5 (S02.trans S5) (S02.free hFo) X5 eT5⟩
end
end Fh

set_option Elab.async false
set_option linter.all false
set_option maxRecDepth 100000
set_option maxHeartbeats 4000000
namespace Fh
open PySem L2 PyProof.Rows
/-! ### fields that no deed sets -/
theorem FbN.upd {H : Hp} {D R : Addr} {fl : List Fl} {kr : List (Key × V)} {o : HO} (h : FbN H D fl) (hR : H R = some (.dK kr)) (n : D ≠ R) : FbN (upd H R o) D fl := by
  obtain ⟨kvs, h1, h2, h3⟩ := h
  refine ⟨kvs, by rw [upd_ne n]; exact h1, h2, fun f hf => ?_⟩
  obtain ⟨t, u, a, b, c⟩ := h3 f hf
  have nt : t ≠ R := fun e => by rw [e, hR] at b; cases b
  exact ⟨t, u, a, by rw [upd_ne nt]; exact b, Tp.keep (tk_wr hR) _ _ c⟩

def unsB (c : Cw) (an : List Fl) (f : Fl) : Bool := !((c.ds.map (effD an)).any fun z => PyData.eqv z (.tuple [.str "set", .str f.nam]))
def kUns (a b : Str) : List Key := [.inr "unset", .inr a, .inr b]
def unsF (c : Cw) (an : List Fl) (fl : List Fl) : List (List Key) := (fl.filter (unsB c an)).map fun f => kUns c.nam f.nam
def unsL (c : Cw) (an : List Fl) : List (List Key) := unsF c an (an.filter fun f => f.must)
abbrev sUns : Stmt := top 30
abbrev nUns : List Str := ["face", "call", "number", "name", "ask", "answer", "deeds", "answered", "effects", "deed", "musts", "field"]
def spUns (C : Addr) : Sp := fun vs H Q _ => ∃ (fa t : Addr) (cs rs : List (Str × PyData)) (c : Cw) (an : List Fl), vs = [.ref fa, .ref t] ∧ FaceR C H fa cs rs ∧ Tp H (.ref t) c.d ∧ CwOk c ∧ rs.lookup c.ans = some (.tuple (an.map Fl.d)) ∧ FOkR an ∧
  ∀ (p : Addr) (T : List Row) (H' : Hp), Same H H' → H p = none → RwL H' p T → T.map (·.2) = unsL c an → Q (.ref p) H'
section
variable {P : Program} {w : World} {K : PySem.W.Frag} {mg : Str → Option Value} {base : Heap}
theorem scUns : FnScope nUns ["face", "call"] (defScope sUns) := ⟨rfl, rfl, rfl, by decide +kernel, rfl, by decide +kernel, by decide +kernel⟩
theorem ok_uns {C f : Addr} {fd : FuncData} (F : Fun K "unset_fields" "unset_fields" sUns f fd) (DB : Has P w K mg base "fields_by_name" 2 ["face", "record"] (spFbn9 C)) (DE : Has P w K mg base "effect_of" 1 nEff spEff) : FnOk P w K mg base CX0 3 f fd ["face", "call"] (spUns C) := by
  refine F.ok scUns (fun vs H Q E h => ?_) (fun cdv A outer s H vs Q E hr h => ?_)
  · obtain ⟨fa, t, cs, rs, c, an, rfl, _⟩ := h
    rfl
  · obtain ⟨fa, t, cs, rs, c, an, rfl, hF, tc, cok, r2, okE, q⟩ := h
    have hu := hu_of hr
    refine ⟨_, (pss_cons (ps_asg (pv 1) (pg_tup rfl (pgs_cons (pg_name (i := 2) scUns.nd rfl (Or.inl rfl)) (pgs_cons (pg_name (i := 3) scUns.nd rfl (Or.inr rfl)) (pgs_cons (pg_name (i := 4) scUns.nd rfl (Or.inl rfl)) (pgs_cons (pg_name (i := 5) scUns.nd rfl (Or.inl rfl)) (pgs_cons (pg_name (i := 6) scUns.nd rfl (Or.inl rfl)) pgs_nil)))))))
      (pss_cons (ps_set (i := 7) scUns.nd rfl (Or.inr rfl) (pe_has DB (hr.mono (by omega)) rfl (pa_cons (pv 0) (pa_cons (pv 5) pa_nil))))
      (pss_cons (ps_set (i := 8) scUns.nd rfl (Or.inr rfl) (pe_lc (own := [("deed", 9)]) (g := (gName 9)) (tt := tYes) (te := tCall spEff [] E0 (tCons (tVar 9) (tCons (tVar 7) tNil))) rfl scUns.nd (pi_tup (pv 6)) (blkOk_by (N := nUns) (sc := defScope sUns) (by decide +kernel)) (fun _ _ _ _ _ => (pg_name (i := 9) scUns.nd rfl (Or.inl rfl))) (fun _ _ _ _ _ => pts_nil) (fun _ _ _ _ _ => (pe_has DE (hr.mono (by omega)) rfl (pa_cons (pv 9) (pa_cons (pv 7) pa_nil))))))
      (C8.pss_cut (ps_lock (ps_setLc (i := 10) (own := [("field", 11)]) (g := (gName 11)) (tt := tTest (tOp rEq (tOp (rIxT K) (tDGet (tVar 7) (tVar 11)) (tC (.int 1))) (tC (.str "must")))) (te := tVar 11) rfl scUns.nd rfl rfl (sw_true rfl rfl rfl (by decide +kernel)) (pi_keys (pv 7)) (blkOk_by (N := nUns) (sc := defScope sUns) (by decide +kernel)) (fun _ _ _ _ _ => (pg_name (i := 11) scUns.nd rfl (Or.inl rfl))) (fun _ _ _ _ _ => pts_one (pt_cmpR op_eq (pe_ix ix_tup (pe_dget hu (pv 7) (pv 11) (fun _ _ => rfl)) pe_int (fun _ _ => rfl)) pe_str (nomark _))) (fun _ _ _ _ _ => (pv 11))))
      (pss_one (ps_ret (pe_lc (own := [("field", 11)]) (g := (gName 11)) (tt := tTest (tOp (rInDL K true) (tTup (tCons (tC (.str "set")) (tCons (tVar 11) tNil))) (tVar 8))) (te := tTup (tCons (tC (.str "unset")) (tCons (tVar 3) (tCons (tVar 11) tNil)))) rfl scUns.nd (pi_list (pv 10)) (blkOk_by (N := nUns) (sc := defScope sUns) (by decide +kernel)) (fun _ _ _ _ _ => (pg_name (i := 11) scUns.nd rfl (Or.inl rfl))) (fun _ _ _ _ _ => pts_one (pt_cmpR (op_notInDL hr.units) (pe_tup (pa_cons pe_str (pa_cons (pv 11) pa_nil))) (pv 8) rfl)) (fun _ _ _ _ _ => (pe_tup (pa_cons pe_str (pa_cons (pv 3) (pa_cons (pv 11) pa_nil)))))))))))), ?_⟩
    obtain ⟨t', e, xs, et, ht, he, txs⟩ := cw_at tc
    cases et
    have lx : xs.length = c.ds.length := by rw [txs.length, List.length_map]
    have l20 : c.ds.length ≤ 20 := Nat.le_trans cok.l (by decide)
    refine ⟨_, rfl, t, _, rfl, SqT.of ht, rfl, _, _, rfl, _, _, rfl, _, _, rfl, _, _, rfl, _, _, rfl, rfl, ?_⟩
    try dsimp only [List.set_cons_succ, List.set_cons_zero]
    refine ⟨_, rfl, _, rfl, fa, c.ans, cs, rs, an, rfl, hF, r2, okE.nd, okE.l, fun E2 H2 hE2 S2 fb2 => ?_⟩
    try dsimp only [List.set_cons_succ, List.set_cons_zero]
    -- effects
    refine ⟨_, rfl, e, rfl, ⟨_, SqT.of (S2 _ _ he)⟩, fun L hL => ?_⟩
    refine lc_tup (xs := xs) (fun k H4 => Same H2 H4 ∧ ∃ vs, H4 L = some (.lst vs) ∧ EfAll H4 vs ((c.ds.take k).map (effD an))) ?_ ?_ ?_ ?_
    · exact ⟨Same.new hL, [], upd_same, .nil⟩
    · rintro k H4 _ ⟨S4, _⟩
      exact SqT.of (S4 _ _ (S2 _ _ he))
    · rintro k x H4 hx4 ⟨S4, vs, h4, ef4⟩
      obtain ⟨dd, hd1, td⟩ := txs.get' hx4
      obtain ⟨d, hdd, rfl⟩ : ∃ d, c.ds[k]? = some d ∧ dd = dD d := by
        rw [List.getElem?_map] at hd1
        cases q : c.ds[k]? with
        | none => rw [q] at hd1; cases hd1
        | some dd => rw [q] at hd1; exact ⟨dd, rfl, (Option.some.inj hd1).symm⟩
      have dok := cok.ok d (List.mem_of_getElem? hdd)
      have hk20 : k < c.ds.length := (List.getElem?_eq_some_iff.mp hdd).1
      obtain ⟨td1, rfl, htd⟩ := dD_at td
      obtain ⟨a, b, c3, r, rfl⟩ := dok.cut
      have S04 := S2.trans S4
      have fin : ∀ (y : V) (H5 : Hp), Same H4 H5 → EfV H5 y (effD an (a :: b :: c3 :: r)) → ∃ acc, H5 L = some (.lst acc) ∧ acc.length < sizeLine ∧ Same H2 (upd H5 L (.lst (acc ++ [y]))) ∧ ∃ vs, (upd H5 L (.lst (acc ++ [y]))) L = some (.lst vs) ∧ EfAll (upd H5 L (.lst (acc ++ [y]))) vs ((c.ds.take (k + 1)).map (effD an)) := fun y H5 S5 ev => by
        have h5 := S5 _ _ h4
        have W := Tk.wr (o := .lst (vs ++ [y])) h5
        refine ⟨vs, h5, ?_, Same.wr (S4.trans S5) hL, _, upd_same, ?_⟩
        · rw [ef4.len, List.length_map, List.length_take]
          exact Nat.lt_of_le_of_lt (show _ ≤ 20 by omega) (by decide)
        · rw [List.take_add_one, hdd, List.map_append]
          exact ((ef4.same (Same.tk S5)).same W).snoc' (ev.same W)
      refine ⟨rfl, yes (iteT ?_)⟩
      try dsimp only [List.set_cons_succ, List.set_cons_zero]
      refine ⟨_, rfl, _, rfl, td1, E2, an, a, b, c3, r, rfl, S04 _ _ htd, fb2.same S4, fun h => ?_, fun h1 h2 p hp => ?_, fun h1 h2 => ?_⟩
      · refine fin _ _ (Same.refl _) (.inr ⟨(fun h => nomatch h), ?_, ?_⟩)
        · show isNo (if a = "ask" then dD (a :: b :: c3 :: r) else if setB an a b = true then .tuple [.str "set", .str b] else .none) = false
          rw [if_pos h]
          rfl
        · show Tp H4 _ (if a = "ask" then dD (a :: b :: c3 :: r) else if setB an a b = true then .tuple [.str "set", .str b] else .none)
          rw [if_pos h]
          exact Tp.keep (Same.tk S04) _ _ td
      · refine fin _ _ (Same.new hp) (.inr ⟨(fun h => nomatch h), ?_, ?_⟩)
        · show isNo (if a = "ask" then dD (a :: b :: c3 :: r) else if setB an a b = true then .tuple [.str "set", .str b] else .none) = false
          rw [if_neg h1, if_pos h2]
          rfl
        · show Tp _ _ (if a = "ask" then dD (a :: b :: c3 :: r) else if setB an a b = true then .tuple [.str "set", .str b] else .none)
          rw [if_neg h1, if_pos h2]
          exact .tup upd_same (.cons (.str _) (.cons (.str _) .nil))
      · refine fin _ _ (Same.refl _) (.inl ⟨rfl, ?_⟩)
        show (if a = "ask" then dD (a :: b :: c3 :: r) else if setB an a b = true then .tuple [.str "set", .str b] else .none) = PyData.none
        rw [if_neg h1, if_neg (by rw [h2]; exact Bool.false_ne_true)]
    rintro H4 ⟨S4, vs, h4, ef4⟩
    rw [lx, List.take_length] at ef4
    try dsimp only [List.set_cons_succ, List.set_cons_zero]
    have S04 := S2.trans S4
    have fb4 := fb2.same S4
    -- those that must be
    refine ⟨fun σ H' => ∃ l, σ = [some (.ref fa), some (.ref t), some (.int c.num), some (.str c.nam), some (.str c.ask), some (.str c.ans), some (.ref e), some (.ref E2), some (.ref L), none, some (.ref l), none] ∧ Same H4 H' ∧ H' l = some (.lst ((an.filter fun f => f.must).map fun f => V.str f.nam)), ?_, ?_⟩
    · obtain ⟨kr, hkr, ekr, ykr⟩ := id fb4
      refine ⟨E2, .dK kr, hkr, True.intro, fun od => ?_⟩
      refine ⟨_, rfl, E2, od, rfl, .inl ⟨kr, upd_same, fun D hD => ?_⟩⟩
      have nD : D ≠ E2 := fun e => by rw [e, upd_same] at hD; cases hD
      have hRz : (upd H4 E2 (.frz od (.dK kr))) E2 = some (.frz od (.dK kr)) := upd_same
      have ktz : ∀ g ∈ an, ∃ (t5 : Addr) (u5 : V), valV kr (Sum.inr g.nam) = some (.ref t5) ∧ (upd H4 E2 (.frz od (.dK kr))) t5 = some (.tup [u5, .str (needS g.must)]) := fun g hg => by
        obtain ⟨t5, u5, v5, ht5, tu5⟩ := ykr g hg
        have nt5 : t5 ≠ E2 := fun e => by rw [e, hkr] at ht5; cases ht5
        exact ⟨t5, u5, v5, by rw [upd_ne nt5]; exact ht5⟩
      have bck : ∀ b o, H4 b = some o → b ≠ E2 → (upd H4 E2 (.frz od (.dK kr))) b = some o := fun b o e q => by rw [upd_ne q]; exact e
      obtain ⟨Hz, eHz⟩ : ∃ Hz, Hz = (upd H4 E2 (.frz od (.dK kr))) := ⟨_, rfl⟩
      rw [← eHz] at hRz ktz bck hD
      rw [← eHz]
      refine L2.lc_it walk_keys (fun i H7 => Same Hz H7 ∧ H7 D = some (.lst (((an.take i).filter fun f => f.must).map fun f => V.str f.nam))) ?_ ?_ ?_ ?_
      · exact ⟨Same.new hD, upd_same⟩
      · rintro i H7 _ ⟨S7, _⟩
        exact S7 _ _ hRz
      · rintro i x H7' H7 hi ⟨S7, h7⟩ ⟨rfl, kk, vv, hkk, rfl⟩
        have h1 : (kr.map Prod.fst)[i]? = some kk := by rw [List.getElem?_map, hkk]; rfl
        rw [ekr, List.getElem?_map] at h1
        cases hg : an[i]? with
        | none => rw [hg] at h1; cases h1
        | some g =>
          rw [hg] at h1
          cases h1
          have gm := List.mem_of_getElem? hg
          obtain ⟨t5, u5, v5, ht5⟩ := ktz g gm
          have hR7 := S7 _ _ hRz
          have st : (an.take (i + 1)).filter (fun f => f.must) = (an.take i).filter (fun f => f.must) ++ (if g.must = true then [g] else []) := by
            rw [List.take_add_one, hg, List.filter_append]
            congr 1
            show List.filter (fun f : Fl => f.must) [g] = _
            cases hm : g.must <;> simp [List.filter, hm]
          refine ⟨rfl, ?_⟩
          try dsimp only [List.set_cons_succ, List.set_cons_zero]
          refine ⟨_, rfl, _, rfl, E2, _, rfl, .inl ⟨kr, Sum.inr g.nam, .inr ⟨od, hR7⟩, rfl, v5.symm⟩, t5, _, _, _, rfl, rfl, SqT.of (S7 _ _ ht5), rfl, rfl, _, rfl, ?_⟩
          rw [need_must]
          cases q2 : g.must with
          | false =>
            refine iteF ⟨S7, ?_⟩
            rw [st, q2, if_neg Bool.false_ne_true, List.append_nil]
            exact h7
          | true =>
            refine iteT ⟨_, rfl, _, h7, ?_, Same.wr S7 hD, ?_⟩
            · rw [List.length_map]
              have := List.length_filter_le (fun f : Fl => f.must) (an.take i)
              rw [List.length_take] at this
              have := okE.l
              exact Nat.lt_of_le_of_lt (show _ ≤ 100 by omega) (by decide)
            · rw [upd_same, st, q2, if_pos rfl, List.map_append]
              rfl
      · rintro H7 ⟨S7, h7⟩
        have lk : kr.length = an.length := by
          have := congrArg List.length ekr
          rwa [List.length_map, List.length_map] at this
        rw [lk, List.take_length] at h7
        refine ⟨S7 _ _ hRz, D, rfl, fun b o e => ?_, by rw [upd_ne nD]; exact h7⟩
        by_cases q : b = E2
        · rw [q] at e ⊢
          rw [upd_same, ← e, hkr]
        · rw [upd_ne q]
          exact S7 _ _ (bck b o e q)
    rintro σ H7 ⟨l, rfl, S7, h7⟩
    have h7L := S7 _ _ h4
    have ef7 := ef4.same (Same.tk S7)
    have effsh := effs_sh (an := an) (ds := c.ds) cok.ok
    have S07 := S04.trans S7
    obtain ⟨FL, eFL⟩ : ∃ FL, FL = an.filter fun f => f.must := ⟨_, rfl⟩
    have lFL : FL.length ≤ 100 := by
      rw [eFL]
      exact Nat.le_trans (List.length_filter_le _ _) okE.l
    have nFL : ∀ f ∈ FL, Sh 0 (.str f.nam) := fun f hf => by
      rw [eFL] at hf
      exact okE.ns f (List.mem_filter.mp hf).1
    unfold unsL at q
    rw [← eFL] at h7 q
    try dsimp only [List.set_cons_succ, List.set_cons_zero]
    refine ⟨_, rfl, l, rfl, ⟨_, SqL.of h7⟩, fun D2 hD2 => ?_⟩
    refine lc_list (xs := FL.map fun f => V.str f.nam) (fun k H8 => Same H7 H8 ∧ ∃ T, RwL H8 D2 T ∧ T.map (·.2) = unsF c an (FL.take k)) ?_ ?_ ?_ ?_
    · exact ⟨Same.new hD2, [], RwL.nil upd_same, rfl⟩
    · rintro k H8 _ ⟨S8, _⟩
      exact SqL.of (S8 _ _ h7)
    · rintro k y H8 hy ⟨S8, T, X8, e8⟩
      rw [List.getElem?_map] at hy
      cases hg : FL[k]? with
      | none => rw [hg] at hy; cases hy
      | some g =>
        rw [hg] at hy
        cases hy
        have gm := List.mem_of_getElem? hg
        have ea : unsF c an (FL.take (k + 1)) = unsF c an (FL.take k) ++ (if unsB c an g = true then [kUns c.nam g.nam] else []) := by
          unfold unsF
          rw [List.take_add_one, hg, List.filter_append, List.map_append]
          congr 1
          show ((List.filter (unsB c an) [g]).map fun f => kUns c.nam f.nam) = _
          cases hb : unsB c an g <;> simp [List.filter, hb]
        refine ⟨rfl, ?_⟩
        try dsimp only [List.set_cons_succ, List.set_cons_zero]
        refine ⟨_, rfl, (by show 2 ≤ sizeLine; decide), fun t9 ht9 => ?_⟩
        have S9 := Same.new (H := H8) (o := .tup [.str "set", .str g.nam]) ht9
        have d9 : Tp (upd H8 t9 (.tup [.str "set", .str g.nam])) (.ref t9) (.tuple [.str "set", .str g.nam]) := .tup upd_same (.cons (.str _) (.cons (.str _) .nil))
        have X9 := X8.same S9
        generalize (upd H8 t9 (.tup [.str "set", .str g.nam])) = H9 at *
        have S79 := S8.trans S9
        have s2 : SeqAt.shaped (.tuple [.str "set", .str g.nam]) = true := by
          refine (Sh.tup (n := 0) fun d hd => ?_).shaped (by decide)
          rcases List.mem_cons.mp hd with e1 | hd
          · rw [e1]; exact ⟨by decide +kernel, Nat.zero_le _⟩
          · rw [List.mem_singleton.mp hd]; exact nFL g gm
        refine ⟨_, rfl, _, _, d9.dp, Dp.lst (SqL.of (S79 _ _ h7L)) (ef7.same (Same.tk S79)).dp, s2, effsh.1, effsh.2, _, rfl, ?_⟩
        rw [if_pos rfl]
        show if unsB c an g = true then _ else _
        rw [ea, ← e8]
        cases hb : unsB c an g with
        | false =>
          refine iteF ⟨S79, T, X9, ?_⟩
          rw [if_neg Bool.false_ne_true, List.append_nil]
        | true =>
          refine iteT ?_
          refine ⟨_, rfl, _, rfl, (by show 3 ≤ sizeLine; decide), fun t7 ht7 => ?_⟩
          have nD' : D2 ≠ t7 := fun e => by rw [← e, X9.l] at ht7; cases ht7
          refine ⟨_, by rw [upd_ne nD']; exact X9.l, ?_, Same.two S79 hD2 ht7, _, RwL.more (y := kUns c.nam g.nam) X9 ht7, ?_⟩
          · rw [List.length_map]
            have := congrArg List.length e8
            rw [List.length_map] at this
            rw [this]
            unfold unsF
            rw [List.length_map]
            refine Nat.lt_of_le_of_lt (List.length_filter_le _ _) ?_
            rw [List.length_take]
            exact Nat.lt_of_le_of_lt (show _ ≤ 100 by omega) (by decide)
          · rw [List.map_append, if_pos rfl]
            rfl
    · rintro H8 ⟨S8, T, X8, e8⟩
      rw [List.length_map, List.take_length] at e8
      exact q D2 T H8 (S07.trans S8) (S07.free hD2) X8 e8
end
end Fh

set_option Elab.async false
set_option linter.all false
set_option maxRecDepth 100000
set_option maxHeartbeats 4000000
namespace Fh
open PySem L2 PyProof.Rows
/-! ### wrong -/
def flO (recs : List Rec) (z : Str) : List Fl := match recs.find? (fun r => decide (r.1 = z)) with
  | some r => r.2
  | none => []
theorem look_flO : ∀ {recs : List Rec} {z : Str}, z ∈ recs.map (·.1) → (recs.map rD).lookup z = some (.tuple ((flO recs z).map Fl.d))
  | [], _, h => by cases h
  | r :: recs, z, h => by
    rw [List.map_cons, List.lookup_cons]
    by_cases e : z = r.1
    · subst e
      have : (r.1 == (rD r).1) = true := beq_self_eq_true _
      rw [this]
      unfold flO
      rw [List.find?_cons, decide_eq_true rfl]
      rfl
    · have h1 : (z == (rD r).1) = false := beq_eq_false_iff_ne.mpr e
      rw [h1]
      have h2 : z ∈ recs.map (·.1) := by
        rcases List.mem_cons.mp h with h | h
        · exact absurd h e
        · exact h
      have := look_flO h2
      unfold flO at this ⊢
      rw [List.find?_cons, decide_eq_false fun h => e h.symm]
      exact this
theorem flO_mem {recs : List Rec} {z : Str} : flO recs z = [] ∨ ∃ r ∈ recs, flO recs z = r.2 := by
  unfold flO
  cases q : recs.find? (fun r => decide (r.1 = z)) with
  | none => exact .inl rfl
  | some r => exact .inr ⟨r, List.mem_of_find?_eq_some q, rfl⟩
def wroC (nm : Str) (recs : List Rec) (c : Cw) : List (List Key) := if (stoL recs c [c.ask, c.ans]).isEmpty = true then wdeR nm c (flO recs c.ask) (flO recs c.ans) c.ds.length ++ unsL c (flO recs c.ans) else stoL recs c [c.ask, c.ans]
def txK (x : List Str) : List Key := x.map Sum.inr
def nobL (cs : List (Str × PyData)) (recs : List Rec) : List (List Str) := recs.flatMap fun r => (r.2.filter fun f => nobK cs (recs.map rD) f.kd).map fun f => [("nobody" : Str), r.1, f.kd.nm.getD ""]
def wroL (nm : Str) (cs : List (Str × PyData)) (recs : List Rec) (cws : List Cw) : List (List Key) := ((nobL cs recs).map txK ++ (endL (turns cs (recs.map rD) recs recs.length) recs).map txK) ++ cws.flatMap (wroC nm recs)
/-- what a row of what is wrong looks like -/
def WrK (x : List Key) : Prop := ∃ (w a : Str) (r : List Key), x = .inr w :: .inr a :: r ∧ (((w = "nobody" ∨ w = "unset") ∧ ∃ b : Str, r = [.inr b]) ∨ (w = "endless" ∧ r = []) ∨ ((w = "deed" ∨ w = "twice") ∧ ∃ j : Int, r = [.inl j]))
theorem WrK.cm {x y : List Key} (h : WrK x) (g : WrK y) : Cm x y := by
  obtain ⟨w, a, r, rfl, hr⟩ := h
  obtain ⟨w2, a2, r2, rfl, hr2⟩ := g
  by_cases e : w = w2
  · refine .inl ⟨by rw [e], ?_⟩
    by_cases e2 : a = a2
    · refine .inl ⟨by rw [e2], ?_⟩
      subst e
      rcases hr with ⟨hw, b, rfl⟩ | ⟨hw, rfl⟩ | ⟨hw, j, rfl⟩ <;> rcases hr2 with ⟨hw2, b2, rfl⟩ | ⟨hw2, rfl⟩ | ⟨hw2, j2, rfl⟩
      · by_cases eb : b = b2
        · exact .inl ⟨by rw [eb], True.intro⟩
        · exact .inr ⟨fun h => eb (Sum.inr.inj h), .inr ⟨b, b2, rfl, rfl⟩⟩
      · exact True.intro
      · rcases hw with rfl | rfl <;> rcases hw2 with h | h <;> exact absurd h (by decide +kernel)
      · exact True.intro
      · exact True.intro
      · exact True.intro
      · rcases hw with rfl | rfl <;> rcases hw2 with h | h <;> exact absurd h (by decide +kernel)
      · exact True.intro
      · by_cases eb : j = j2
        · exact .inl ⟨by rw [eb], True.intro⟩
        · exact .inr ⟨fun h => eb (Sum.inl.inj h), .inl ⟨j, j2, rfl, rfl⟩⟩
    · exact .inr ⟨fun h => e2 (Sum.inr.inj h), .inr ⟨a, a2, rfl, rfl⟩⟩
  · exact .inr ⟨fun h => e (Sum.inr.inj h), .inr ⟨w, w2, rfl, rfl⟩⟩
theorem WrK.fst {x : List Key} (h : WrK x) : ∃ z r, x = .inr z :: r := by
  obtain ⟨w, a, r, rfl, _⟩ := h
  exact ⟨w, _, rfl⟩
theorem sto_wrk {recs : List Rec} {c : Cw} {zs : List Str} : ∀ x ∈ stoL recs c zs, WrK x := fun x hx => by
  obtain ⟨z, _, rfl⟩ := List.mem_map.mp hx
  exact ⟨_, _, _, rfl, .inl ⟨.inl rfl, _, rfl⟩⟩
theorem uns_wrk {c : Cw} {an : List Fl} : ∀ x ∈ unsL c an, WrK x := fun x hx => by
  obtain ⟨z, _, rfl⟩ := List.mem_map.mp hx
  exact ⟨_, _, _, rfl, .inl ⟨.inr rfl, _, rfl⟩⟩
theorem wde1_wrk {nm : Str} {c : Cw} {own an : List Fl} {j : Nat} {d : List Str} : ∀ x ∈ wde1 nm c own an j d, WrK x := fun x hx => by
  rcases List.mem_append.mp hx with h | h
  · split at h
    · cases h
    · rw [List.mem_singleton.mp h]
      exact ⟨_, _, _, rfl, .inr (.inr ⟨.inl rfl, _, rfl⟩)⟩
  · split at h
    · rw [List.mem_singleton.mp h]
      exact ⟨_, _, _, rfl, .inr (.inr ⟨.inr rfl, _, rfl⟩)⟩
    · cases h
theorem wdeR_wrk {nm : Str} {c : Cw} {own an : List Fl} : ∀ j, ∀ x ∈ wdeR nm c own an j, WrK x
  | 0, x, hx => by cases hx
  | j + 1, x, hx => by
    rcases List.mem_append.mp hx with h | h
    · exact wdeR_wrk j x h
    · cases q : c.ds[j]? with
      | none => rw [q] at h; cases h
      | some d =>
        rw [q] at h
        exact wde1_wrk x h
theorem wroC_wrk {nm : Str} {recs : List Rec} {c : Cw} : ∀ x ∈ wroC nm recs c, WrK x := fun x hx => by
  unfold wroC at hx
  split at hx
  · rcases List.mem_append.mp hx with h | h
    · exact wdeR_wrk _ x h
    · exact uns_wrk x h
  · exact sto_wrk x hx
theorem wroL_wrk {nm : Str} {cs : List (Str × PyData)} {recs : List Rec} {cws : List Cw} : ∀ x ∈ wroL nm cs recs cws, WrK x := fun x hx => by
  rcases List.mem_append.mp hx with h | h
  · rcases List.mem_append.mp h with h | h
    · obtain ⟨y, hy, rfl⟩ := List.mem_map.mp h
      obtain ⟨r, _, hr⟩ := List.mem_flatMap.mp hy
      obtain ⟨f, _, rfl⟩ := List.mem_map.mp hr
      exact ⟨_, _, _, rfl, .inl ⟨.inl rfl, _, rfl⟩⟩
    · obtain ⟨y, hy, rfl⟩ := List.mem_map.mp h
      obtain ⟨r, _, rfl⟩ := List.mem_map.mp hy
      exact ⟨_, _, _, rfl, .inr (.inl ⟨rfl, rfl⟩)⟩
  · obtain ⟨c, _, hc⟩ := List.mem_flatMap.mp h
    exact wroC_wrk x hc
theorem wroC_len {nm : Str} {recs : List Rec} (ok : RecsOk recs) {c : Cw} (l : c.ds.length ≤ 12) : (wroC nm recs c).length ≤ 29 := by
  unfold wroC
  split
  · rw [List.length_append]
    have a := wde_len (nm := nm) (c := c) (own := flO recs c.ask) (an := flO recs c.ans) c.ds.length
    have b : (unsL c (flO recs c.ans)).length ≤ 5 := by
      unfold unsL unsF
      rw [List.length_map]
      refine Nat.le_trans (List.length_filter_le _ _) (Nat.le_trans (List.length_filter_le _ _) ?_)
      rcases flO_mem (recs := recs) (z := c.ans) with h | ⟨r, hr, h⟩
      · rw [h]; exact Nat.zero_le _
      · rw [h]; exact ok.fl r hr
    omega
  · unfold stoL
    rw [List.length_map]
    exact Nat.le_trans (List.length_filter_le _ _) (by show 2 ≤ 29; decide)
theorem wroF_len {nm : Str} {recs : List Rec} (ok : RecsOk recs) : ∀ {cws : List Cw}, (∀ c ∈ cws, c.ds.length ≤ 12) → (cws.flatMap (wroC nm recs)).length ≤ 29 * cws.length
  | [], _ => Nat.zero_le _
  | c :: cws, h => by
    have a := wroC_len (nm := nm) ok (h c List.mem_cons_self)
    have b := wroF_len (nm := nm) ok (cws := cws) fun d hd => h d (List.mem_cons_of_mem _ hd)
    rw [List.flatMap_cons, List.length_append, List.length_cons]
    omega
theorem TxL.rw {H : Hp} {p : Addr} {T : List TxR} (x : TxL H p T) : RwL H p (T.map tr) := by
  refine ⟨by rw [x.l, List.map_map]; rfl, fun q hq => ?_⟩
  obtain ⟨r, hr, rfl⟩ := List.mem_map.mp hq
  have := x.t r hr
  show H r.1 = some (.tup ((r.2.map Sum.inr).map kV))
  rw [List.map_map]
  exact this
abbrev sWro : Stmt := top 21
abbrev nWro : List Str := ["face", "found", "call", "strangers"]
def spStrX (C : Addr) : Sp := fun vs H Q _ => ∃ (a : Addr) (cs : List (Str × PyData)) (recs : List Rec), vs = [.ref a] ∧ FaceR C H a cs (recs.map rD) ∧ cs.length ≤ 100 ∧ RecsOk recs ∧
  ∀ (p : Addr) (T : List TxR) (H' : Hp), Same H H' → H p = none → TxL H' p T → T.map (·.2) = nobL cs recs → T.length ≤ 30 → Q (.ref p) H'
def spWro (C : Addr) : Sp := fun vs H Q _ => ∃ (fa dx e : Addr) (nm : Str) (v2 v3 v4 : V) (cs : List (Str × PyData)) (recs : List Rec) (xs : List V) (cws : List Cw), vs = [.ref fa] ∧ H fa = some (.ins C dx (ff (.str nm) v2 v3 v4 (.ref e))) ∧ TpR H v3 (rowsD cs) ∧ TpR H v4 (rowsD (recs.map rD)) ∧ H e = some (.tup xs) ∧ TpAll H xs (cws.map Cw.d) ∧
  cs.length ≤ 100 ∧ Cs1 cs ∧ RecsOk recs ∧ (∀ z, FOkR (flO recs z)) ∧ cws.length ≤ 7 ∧ (∀ c ∈ cws, CwOk c) ∧
  ∀ (p : Addr) (T : List Row) (H' : Hp), Same H H' → H p = none → RwL H' p T → T.length < 300 → (T.map (·.2)).Pairwise (fun x y => rowLe x y = true) → (T.map (·.2)).Nodup → (∀ x, x ∈ T.map (·.2) ↔ x ∈ wroL nm cs recs cws) → Q (.ref p) H'
section
variable {P : Program} {w : World} {K : PySem.W.Frag} {mg : Str → Option Value} {base : Heap}
theorem scWro : FnScope nWro ["face"] (defScope sWro) := ⟨rfl, rfl, rfl, by decide +kernel, rfl, by decide +kernel, by decide +kernel⟩
theorem ok_wro {C f : Addr} {fd : FuncData} (F : Fun K "wrong" "wrong" sWro f fd) (G : Glb mg) (cl : Cls K C) (n5 : NoAttr K C "calls") (DA : Has P w K mg base "strangers_in_kinds" 4 ["face"] (spStrX C)) (DB : Has P w K mg base "endless_records" 6 ["face"] (spEnd C)) (DS : Has P w K mg base "strangers_of" 1 ["face", "call"] (spSto C)) (DW : Has P w K mg base "wrong_deeds" 3 ["face", "call"] (spWde C)) (DU : Has P w K mg base "unset_fields" 3 ["face", "call"] (spUns C)) : FnOk P w K mg base CX0 7 f fd ["face"] (spWro C) := by
  refine F.ok scWro (fun vs H Q E h => ?_) (fun cdv A outer s H vs Q E hr h => ?_)
  · obtain ⟨fa, dx, e, nm, v2, v3, v4, cs, recs, xs, cws, rfl, _⟩ := h
    rfl
  · obtain ⟨fa, dx, e, nm, v2, v3, v4, cs, recs, xs, cws, rfl, hA, t3, t4, he, txs, lc, c1, ok, fok, l7, cok, q⟩ := h
    have hu := hu_of hr
    refine ⟨_, (pss_cons (ps_set (i := 1) scWro.nd rfl (Or.inl rfl) (pe_op op_cat (pe_has DA (hr.mono (by omega)) rfl (pa_cons (pv 0) pa_nil)) (pe_has DB (hr.mono (by omega)) rfl (pa_cons (pv 0) pa_nil))))
      (pss_cons (ps_for PassesOwn.never rfl (pi_tup (pe_fld (pv 0) rfl)) (pg_name (i := 2) scWro.nd rfl (Or.inl rfl))
      (pss_cons (ps_set (i := 3) scWro.nd rfl (Or.inl rfl) (pe_has DS (hr.mono (by omega)) rfl (pa_cons (pv 0) (pa_cons (pv 2) pa_nil))))
      (pss_one (ps_expr (pe_bm PySem.F.plainAttrs_list PySem.F.slot_list_extend PySem.F.type_list_extend mt_extend (pv 1) (pa_cons (pe_mid (pe_ifExp (pt_truth (pv 3) (fun _ => rfl)) (pv 3) (pe_op op_cat (pe_has DW (hr.mono (by omega)) rfl (pa_cons (pv 0) (pa_cons (pv 2) pa_nil))) (pe_has DU (hr.mono (by omega)) rfl (pa_cons (pv 0) (pa_cons (pv 2) pa_nil)))))) pa_nil))))))
      (pss_one (ps_ret (pe_callB (cr_sortedSKx rfl hr.units) (by rfl) G.sorted (by decide +kernel) (pa_cons (pe_callTy (cr_setKx rfl hr.units) (by rfl) G.set (by decide +kernel) (pa_cons (pv 1) pa_nil)) pa_nil)))))), ?_⟩
    have lx : xs.length = cws.length := by rw [txs.length, List.length_map]
    have hF : FaceR C H fa cs (recs.map rD) := ⟨dx, _, v2, v3, v4, _, hA, t3, t4⟩
    have hN : FaceN C H fa nm cs (recs.map rD) := ⟨dx, v2, v3, v4, _, hA, t3, t4⟩
    have l6 := ok.len
    refine ⟨_, rfl, fa, cs, recs, rfl, hF, lc, ok, fun p1 T1 H1 S1 hp1 X1 N1 l1 => ?_⟩
    refine ⟨_, rfl, fa, cs, recs, rfl, hF.same S1, lc, c1, ok, fun p2 T2 H2 S2 hp2 X2 e2 => ?_⟩
    have l2 : T2.length ≤ 6 := by
      have z := congrArg List.length e2
      rw [List.length_map] at z
      rw [z]
      unfold endL
      rw [List.length_map]
      exact Nat.le_trans (List.length_filter_le _ _) l6
    have X12 := (X1.same S2).rw
    have X22 := X2.rw
    refine ⟨p1, p2, _, _, rfl, rfl, X12.l, X22.l, ?_, fun p hp => ?_⟩
    · rw [List.length_map, List.length_map, List.length_map, List.length_map, sizeLine_eq]
      omega
    have S02 := S1.trans S2
    have S3 : Same H2 (upd H2 p (.lst ((T1.map tr).map (fun q => V.ref q.1) ++ (T2.map tr).map fun q => V.ref q.1))) := Same.new hp
    have X3 : RwL (upd H2 p (.lst ((T1.map tr).map (fun q => V.ref q.1) ++ (T2.map tr).map fun q => V.ref q.1))) p (T1.map tr ++ T2.map tr) := ⟨by rw [upd_same, List.map_append], fun q hq => by
      rcases List.mem_append.mp hq with h | h
      · exact S3 _ _ (X12.t q h)
      · exact S3 _ _ (X22.t q h)⟩
    have e3 : (T1.map tr ++ T2.map tr).map (·.2) = (nobL cs recs).map txK ++ (endL (turns cs (recs.map rD) recs recs.length) recs).map txK := by
      rw [List.map_append, ← N1, ← e2, List.map_map, List.map_map, List.map_map, List.map_map]
      rfl
    have l3 : (T1.map tr ++ T2.map tr).length ≤ 36 := by
      rw [List.length_append, List.length_map, List.length_map]
      omega
    generalize (upd H2 p (.lst ((T1.map tr).map (fun q => V.ref q.1) ++ (T2.map tr).map fun q => V.ref q.1))) = H3 at *
    generalize (T1.map tr ++ T2.map tr) = T3 at *
    have S03 := S02.trans S3
    have hpn : H p = none := S02.free hp
    try dsimp only [List.set_cons_succ, List.set_cons_zero]
    refine ⟨_, rfl, fa, C, dx, _, _, rfl, S03 _ _ hA, cl, n5, ff_calls, e, rfl, ⟨_, SqT.of (S03 _ _ he)⟩, ?_⟩
    refine for_tup (xs := xs) (fun i σ H4 => ∃ T, (∃ a2 a3, σ = [some (.ref fa), some (.ref p), a2, a3]) ∧ Same H H4 ∧ RwL H4 p T ∧ T.map (·.2) = ((nobL cs recs).map txK ++ (endL (turns cs (recs.map rD) recs recs.length) recs).map txK) ++ (cws.take i).flatMap (wroC nm recs)) ?_ ?_ ?_ ?_
    · exact ⟨T3, ⟨_, _, rfl⟩, S03, X3, by rw [e3]; simp⟩
    · rintro i σ H4 _ ⟨T, _, S4, _⟩
      exact SqT.of (S4 _ _ he)
    · rintro i x σ H4 hx ⟨T, ⟨a2, a3, rfl⟩, S4, X4, e4⟩
      obtain ⟨dd, hd, td⟩ := txs.get' hx
      obtain ⟨c, hc, rfl⟩ : ∃ c, cws[i]? = some c ∧ dd = c.d := by
        rw [List.getElem?_map] at hd
        cases q : cws[i]? with
        | none => rw [q] at hd; cases hd
        | some c => rw [q] at hd; exact ⟨c, rfl, (Option.some.inj hd).symm⟩
      have co := cok c (List.mem_of_getElem? hc)
      have hi : i < cws.length := (List.getElem?_eq_some_iff.mp hc).1
      obtain ⟨t, _, _, rfl, _⟩ := cw_at td
      have lT : T.length ≤ 240 := by
        have z := congrArg List.length e4
        rw [List.length_map, List.length_append] at z
        have a := congrArg List.length e3
        rw [List.length_map] at a
        rw [← a] at z
        have b := wroF_len (nm := nm) ok (cws := cws.take i) fun c hc => (cok c (List.mem_of_mem_take hc)).l
        rw [List.length_take] at b
        omega
      try dsimp only [List.set_cons_succ, List.set_cons_zero]
      refine ⟨_, rfl, _, rfl, fa, t, cs, recs, c, rfl, hF.same S4, by omega, Tp.keep (Same.tk S4) _ _ td, fun p5 T5 H5 S5 hp5 X5 e5 => ?_⟩
      try dsimp only [List.set_cons_succ, List.set_cons_zero]
      have S05 := S4.trans S5
      have X45 := X4.same S5
      refine ⟨_, rfl, .inl ⟨rfl, _, SqL.of X45.l⟩, ?_⟩
      refine ⟨fun v H' => ∃ (b : Addr) (T6 : List Row), v = .ref b ∧ Same H5 H' ∧ RwL H' b T6 ∧ T6.map (·.2) = wroC nm recs c, ?_, ?_⟩
      · refine ⟨_, rfl, _, .inl ⟨_, SqL.of X5.l, rfl⟩, ?_⟩
        cases hT5 : T5 with
        | nil =>
          rw [hT5] at e5
          have e5 : stoL recs c [c.ask, c.ans] = [] := e5.symm
          refine iteF ?_
          have nms : ∀ z ∈ [c.ask, c.ans], z ∈ recs.map (·.1) := fun z hz => by
            have h1 := List.map_eq_nil_iff.mp e5
            have h2 := List.filter_eq_nil_iff.mp h1 z hz
            exact Classical.byContradiction fun h => h2 (by rw [decide_eq_false h]; rfl)
          have k1 := look_flO (nms c.ask (by simp))
          have k2 := look_flO (nms c.ans (by simp))
          refine ⟨_, rfl, _, rfl, fa, t, nm, cs, recs.map rD, c, flO recs c.ask, flO recs c.ans, rfl, hN.same S05, Tp.keep (Same.tk S05) _ _ td, co, k1, k2, fok _, fok _, fun p6 T6 H6 S6 hp6 X6 e6 => ?_⟩
          have S06 := S05.trans S6
          refine ⟨_, rfl, _, rfl, fa, t, cs, recs.map rD, c, flO recs c.ans, rfl, hF.same S06, Tp.keep (Same.tk S06) _ _ td, co, k2, fok _, fun p7 T7 H7 S7 hp7 X7 e7 => ?_⟩
          have X67 := X6.same S7
          have ew : wroC nm recs c = wdeR nm c (flO recs c.ask) (flO recs c.ans) c.ds.length ++ unsL c (flO recs c.ans) := by
            unfold wroC
            rw [e5]
            rfl
          have lw := wroC_len (nm := nm) ok co.l
          rw [ew, List.length_append, ← e6, ← e7, List.length_map, List.length_map] at lw
          refine ⟨p6, p7, _, _, rfl, rfl, X67.l, X7.l, ?_, fun p8 hp8 => ?_⟩
          · rw [List.length_map, List.length_map, sizeLine_eq]
            omega
          have S8 := Same.new (H := H7) (o := .lst (T6.map (fun q => V.ref q.1) ++ T7.map fun q => V.ref q.1)) hp8
          refine ⟨p8, T6 ++ T7, rfl, (S6.trans S7).trans S8, ⟨by rw [upd_same, List.map_append], fun q hq => ?_⟩, ?_⟩
          · rcases List.mem_append.mp hq with h | h
            · exact S8 _ _ (X67.t q h)
            · exact S8 _ _ (X7.t q h)
          · rw [List.map_append, e6, e7, ew]
        | cons q5 r5 =>
          refine iteT ?_
          refine ⟨_, rfl, p5, T5, rfl, Same.refl _, X5, ?_⟩
          have ne : (stoL recs c [c.ask, c.ans]).isEmpty = false := by
            rw [← e5, hT5]
            rfl
          unfold wroC
          rw [ne, if_neg Bool.false_ne_true]
          exact e5
      rintro v H6 ⟨b, T6, rfl, S6, X6, e6⟩
      have X46 := X45.same S6
      have lw := wroC_len (nm := nm) ok co.l
      rw [← e6, List.length_map] at lw
      refine ⟨p, b, _, _, rfl, rfl, X46.l, X6.l, ?_, ?_⟩
      · rw [List.length_map, List.length_map, sizeLine_eq]
        omega
      have away : ∀ {q : Row}, H6 q.1 = some (.tup (q.2.map kV)) → (upd H6 p (.lst (T.map (fun q => V.ref q.1) ++ T6.map fun q => V.ref q.1))) q.1 = some (.tup (q.2.map kV)) := fun {q} h => by
        rw [upd_ne fun h2 => by rw [h2, X46.l] at h; cases h]
        exact h
      refine ⟨T ++ T6, ⟨_, _, rfl⟩, Same.wr (S05.trans S6) hpn, ⟨by rw [upd_same, List.map_append], fun q hq => ?_⟩, ?_⟩
      · rcases List.mem_append.mp hq with h | h
        · exact away (X46.t q h)
        · exact away (X6.t q h)
      · rw [List.map_append, e4, e6, List.take_add_one, hc, List.flatMap_append, List.append_assoc]
        congr 1
        congr 1
        show _ = [c].flatMap (wroC nm recs)
        rw [List.flatMap_cons, List.flatMap_nil, List.append_nil]
    · rintro σ H4 ⟨T, ⟨a2, a3, rfl⟩, S4, X4, e4⟩
      rw [lx, List.take_length] at e4
      have e4 : T.map (·.2) = wroL nm cs recs cws := e4
      have wk : ∀ q ∈ T, WrK q.2 := fun q hq => wroL_wrk q.2 (by rw [← e4]; exact List.mem_map.mpr ⟨q, hq, rfl⟩)
      have lT : T.length < 300 := by
        have z := congrArg List.length e4
        rw [List.length_map] at z
        rw [z]
        unfold wroL
        rw [List.length_append]
        have a := congrArg List.length e3
        rw [List.length_map] at a
        rw [← a]
        have b := wroF_len (nm := nm) ok (cws := cws) fun c hc => (cok c hc).l
        omega
      refine ⟨_, rfl, p, T, rfl, SqL.of X4.l, fun q hq => SqT.of (X4.t q hq), lT, fun S T' hS s1 s2 nd lT' => ?_⟩
      have S5 : Same H4 (upd H4 S (SetKx P w S T')) := Same.new hS
      refine ⟨S, T', rfl, upd_same, fun q hq => SqT.of (S5 _ _ (X4.t q (s1 q hq))), fun q hq q2 hq2 => (wk q (s1 q hq)).cm (wk q2 (s1 q2 hq2)), fun q hq => (wk q (s1 q hq)).fst, lT', fun T4 r pm pw hr' => ?_⟩
      have S6 : Same (upd H4 S (SetKx P w S T')) (upd (upd H4 S (SetKx P w S T')) r (.lst (T4.map fun q => V.ref q.1))) := Same.new hr'
      have sub4 : ∀ q ∈ T4, q ∈ T := fun q hq => s1 q (pm.mem_iff.mp hq)
      have S56 := S5.trans S6
      refine q r T4 _ (S4.trans S56) ((S4.trans S5).free hr') ⟨upd_same, fun q hq => S56 _ _ (X4.t q (sub4 q hq))⟩ (by rw [pm.length_eq]; exact lT') pw (((pm.map (·.2)).nodup_iff).mpr nd) fun x => ?_
      rw [← e4]
      constructor
      · intro hx
        obtain ⟨q, hq, rfl⟩ := List.mem_map.mp hx
        exact List.mem_map.mpr ⟨q, sub4 q hq, rfl⟩
      · intro hx
        obtain ⟨q, hq, rfl⟩ := List.mem_map.mp hx
        exact ((pm.map (·.2)).mem_iff).mpr (s2 q hq)
end
end Fh

set_option Elab.async false
set_option linter.all false
set_option maxRecDepth 100000
set_option maxHeartbeats 4000000
namespace Fh
open PySem L2 PyProof.Rows
/-! ### strangers in kinds, exactly -/
def nobP (cs rs : List (Str × PyData)) (z : Str) (fl : List Fl) : List (List Str) := (fl.filter fun f => nobK cs rs f.kd).map fun f => [("nobody" : Str), z, f.kd.nm.getD ""]
def nobR (cs rs : List (Str × PyData)) (r : Rec) : List (List Str) := nobP cs rs r.1 r.2
section
variable {P : Program} {w : World} {K : PySem.W.Frag} {mg : Str → Option Value} {base : Heap}
theorem ok_strX {C f : Addr} {fd : FuncData} (F : Fun K "strangers_in_kinds" "strangers_in_kinds" sStr f fd) (G : Glb mg) (cl : Cls K C) (n4 : NoAttr K C "records") (DN : Has P w K mg base "names_nobody" 3 ["face", "kind"] (spNob C fun _ => True)) (DI : Has P w K mg base "name_in" 3 ["kind"] (spNin fun _ => True)) : FnOk P w K mg base CX0 4 f fd ["face"] (spStrX C) := by
  refine F.ok scStr (fun vs H Q E h => ?_) (fun cdv A outer s H vs Q E hr h => ?_)
  · obtain ⟨a, cs, recs, rfl, _⟩ := h
    rfl
  · obtain ⟨a, cs, recs, rfl, hF, lc, ok, q⟩ := h
    have ok6 := ok.len
    refine ⟨_, pss_cons (ps_set (i := 1) scStr.nd rfl (Or.inl rfl) (pe_lst pa_nil))
      (pss_cons (ps_for PassesOwn.never rfl (pi_tup (pe_fld (pv 0) rfl)) (pg_tup rfl (pgs_cons (pg_name (i := 2) scStr.nd rfl (.inr rfl)) (pgs_cons (pg_name (i := 3) scStr.nd rfl (.inl rfl)) pgs_nil)))
        (pss_cons (ps_setLc (i := 4) (own := [("number", 5), ("name", 6), ("kind", 7), ("need", 8)]) (g := gTup K 4 (gCons (gName 5) (gCons (gName 6) (gCons (gName 7) (gCons (gName 8) gNil))))) (tt := tYes) (te := tVar 7) rfl scStr.nd rfl rfl (sw_true rfl rfl rfl (by decide +kernel)) (pi_tup (pv 3)) (blkOk_by (N := nStr) (sc := defScope sStr) (by decide +kernel))
            (fun _ _ _ _ _ => pg_tup rfl (pgs_cons (pg_name (i := 5) scStr.nd rfl (.inl rfl)) (pgs_cons (pg_name (i := 6) scStr.nd rfl (.inl rfl)) (pgs_cons (pg_name (i := 7) scStr.nd rfl (.inl rfl)) (pgs_cons (pg_name (i := 8) scStr.nd rfl (.inl rfl)) pgs_nil))))) (fun _ _ _ _ _ => pts_nil) (fun _ _ _ _ _ => pv 7))
        (pss_one (ps_expr (pe_bm PySem.F.plainAttrs_list PySem.F.slot_list_extend PySem.F.type_list_extend mt_extend (pv 1) (pa_cons (pe_lc (own := [("kind", 7)]) (g := gName 7) (te := tTup (tCons (tC (.str "nobody")) (tCons (tVar 2) (tCons (tCall (spNin fun _ => True) [] E0 (tCons (tVar 7) tNil)) tNil)))) rfl scStr.nd (pi_list (pv 4)) (blkOk_by (N := nStr) (sc := defScope sStr) (by decide +kernel))
            (fun _ _ _ _ _ => pg_name (i := 7) scStr.nd rfl (Or.inl rfl)) (fun _ _ _ _ _ => pts_one (pt_val (pe_has DN (hr.mono (by decide)) rfl (pa_cons (pv 0) (pa_cons (pv 7) pa_nil))))) (fun _ _ _ _ _ => pe_tup (pa_cons pe_str (pa_cons (pv 2) (pa_cons (pe_has DI (hr.mono (by decide)) rfl (pa_cons (pv 7) pa_nil)) pa_nil))))) pa_nil))))))
      (pss_one (ps_ret (pv 1)))), ?_⟩
    obtain ⟨dx, v1, v2, v3, v4, v5, hA, t3, t4⟩ := id hF
    obtain ⟨b, xs, rfl, hb, tq⟩ := TpR.inv t4
    have el : xs.length = recs.length := by rw [tq.length, List.length_map, List.length_map]
    refine ⟨Nat.zero_le _, fun p hp => ?_⟩
    have S0 : Same H (upd H p (.lst [])) := Same.new hp
    refine ⟨_, rfl, a, C, dx, _, _, rfl, S0 _ _ hA, cl, n4, ff_records, b, rfl, ⟨_, .inl (Rd.same hb S0)⟩, ?_⟩
    refine for_tup (xs := xs) (fun i σ H3 => ∃ T, (∃ a2 a3 a4 a5 a6 a7 a8, σ = [some (.ref a), some (.ref p), a2, a3, a4, a5, a6, a7, a8]) ∧ Same H H3 ∧ TxL H3 p T ∧ T.map (·.2) = (recs.take i).flatMap (nobR cs (recs.map rD)) ∧ T.length ≤ 5 * i) ?_ ?_ ?_ ?_
    · exact ⟨[], ⟨_, _, _, _, _, _, _, rfl⟩, S0, ⟨upd_same, fun q h => nomatch h⟩, rfl, Nat.le_refl _⟩
    · rintro i σ H3 _ ⟨T, _, S3, _⟩
      exact .inl (Rd.same hb S3)
    · rintro i x σ H3 hx ⟨T, ⟨a2, a3, a4, a5, a6, a7, a8, rfl⟩, S3, X3, N3, l3⟩
      obtain ⟨r, tp, u, hr', rfl, htp, tu⟩ := recs_at tq hx
      have hi := (List.getElem?_eq_some_iff.mp hr').1
      have lf := ok.fl r (List.mem_of_getElem? hr')
      refine ⟨tp, _, rfl, SqT.of (S3 _ _ htp), rfl, _, _, rfl, _, _, rfl, rfl, ?_⟩
      obtain ⟨c, ys, rfl, hc, tys⟩ := Tp.inv tu
      have ly : ys.length = r.2.length := by rw [tys.length, List.length_map]
      refine ⟨_, rfl, c, rfl, ⟨_, SqT.of (S3 _ _ hc)⟩, fun D hD => ?_⟩
      refine lc_tup (xs := ys) (fun j H4 => Same H3 H4 ∧ ∃ us : List V, H4 D = some (.lst us) ∧ us.length = (r.2.take j).length ∧ TpAll H us ((r.2.take j).map fun f => f.kd.d)) ?_ ?_ ?_ ?_
      · exact ⟨Same.new hD, [], upd_same, rfl, .nil⟩
      · rintro j H4 _ ⟨S4, _⟩
        exact SqT.of (S4 _ _ (S3 _ _ hc))
      · rintro j y H4 hy ⟨S4, us, h4, lu, hu4⟩
        obtain ⟨f2, t2, u2, hf2, rfl, ht2, tu2⟩ := flds_at (fs := r.2) tys hy
        have hj : j < 5 := by
          have := (List.getElem?_eq_some_iff.mp hf2).1
          omega
        refine ⟨t2, _, rfl, SqT.of (S4 _ _ (S3 _ _ ht2)), rfl, _, _, rfl, _, _, rfl, _, _, rfl, _, _, rfl, rfl, rfl, yes (iteT ?_)⟩
        have et : r.2.take (j + 1) = r.2.take j ++ [f2] := by rw [List.take_add_one, hf2]; rfl
        refine ⟨_, rfl, _, h4, ?_, Same.wr S4 hD, us ++ [u2], upd_same, ?_, ?_⟩
        · rw [lu, List.length_take]
          exact Nat.lt_of_le_of_lt (Nat.min_le_left _ _) (Nat.lt_of_lt_of_le hj (by decide))
        · rw [et, List.length_append, List.length_append, lu]
          rfl
        · rw [et, List.map_append]
          exact hu4.app (TpAll.one tu2)
      · rintro H4 ⟨S4, us, h4, lu, hu4⟩
        rw [ly, List.take_length] at lu hu4
        have S04 : Same H H4 := fun b o e => S4 b o (S3 b o e)
        have hp4 := S4 _ _ X3.l
        refine ⟨_, rfl, .inl ⟨rfl, _, SqL.of hp4⟩, ?_⟩
        refine ⟨_, rfl, D, rfl, ⟨_, SqL.of h4⟩, fun D2 hD2 => ?_⟩
        refine lc_list (xs := us) (fun j H5 => Same H4 H5 ∧ ∃ T2, TxL H5 D2 T2 ∧ T2.map (·.2) = nobP cs (recs.map rD) r.1 (r.2.take j) ∧ T2.length ≤ j) ?_ ?_ ?_ ?_
        · exact ⟨Same.new hD2, [], ⟨upd_same, fun q h => nomatch h⟩, rfl, Nat.le_refl _⟩
        · rintro j H5 _ ⟨S5, _⟩
          exact SqL.of (S5 _ _ h4)
        · rintro j y H5 hy ⟨S5, T2, X5, N5, l5⟩
          have hj : j < 5 := by
            have := (List.getElem?_eq_some_iff.mp hy).1
            omega
          obtain ⟨dd, hd, tk⟩ := hu4.get' hy
          obtain ⟨f3, hf3, ek3⟩ : ∃ f3, r.2[j]? = some f3 ∧ f3.kd.d = dd := by
            rw [List.getElem?_map] at hd
            cases q : r.2[j]? with
            | none => rw [q] at hd; cases hd
            | some f3 => rw [q] at hd; exact ⟨f3, rfl, Option.some.inj hd⟩
          subst ek3
          have stp : nobP cs (recs.map rD) r.1 (r.2.take (j + 1)) = nobP cs (recs.map rD) r.1 (r.2.take j) ++ (if nobK cs (recs.map rD) f3.kd = true then [[("nobody" : Str), r.1, f3.kd.nm.getD ""]] else []) := by
            unfold nobP
            rw [List.take_add_one, hf3, List.filter_append, List.map_append]
            congr 1
            show (List.filter (fun f : Fl => nobK cs (recs.map rD) f.kd) [f3]).map _ = _
            cases hb : nobK cs (recs.map rD) f3.kd <;> simp [List.filter, hb]
          obtain ⟨k, ek⟩ : ∃ k, k = f3.kd := ⟨_, rfl⟩
          rw [← ek] at tk stp
          have S05 : Same H H5 := fun b o e => S5 b o (S04 b o e)
          refine ⟨rfl, ?_⟩
          refine ⟨_, rfl, _, rfl, a, y, k, cs, recs.map rD, rfl, hF.same S05, lc, (by rw [List.length_map]; omega), Tp.keep (Same.tk S05) _ _ tk, trivial, fun H6 S6 => ?_⟩
          have S56 : Same H4 H6 := fun b o e => S6 b o (S5 b o e)
          have S06 : Same H H6 := fun b o e => S6 b o (S05 b o e)
          cases hnk : nobK cs (recs.map rD) k with
          | false => exact ⟨false, rfl, iteF ⟨S56, T2, ⟨S6 _ _ X5.l, fun q h => S6 _ _ (X5.t q h)⟩, by rw [stp, hnk, if_neg Bool.false_ne_true, List.append_nil]; exact N5, Nat.le_succ_of_le l5⟩⟩
          | true =>
            obtain ⟨z, hz⟩ := nob_name hnk
            refine ⟨true, rfl, iteT ?_⟩
            refine ⟨_, rfl, _, rfl, y, k, z, rfl, Tp.keep (Same.tk S06) _ _ tk, hz, trivial, (by show 3 ≤ sizeLine; decide), fun t ht => ?_⟩
            have l6 := S6 _ _ X5.l
            have nD : t ≠ D2 := fun e => by rw [e, l6] at ht; cases ht
            refine ⟨_, by rw [upd_ne (Ne.symm nD)]; exact l6, ?_, ?_, T2 ++ [(t, [("nobody" : Str), r.1, z])], ⟨?_, fun q hq => ?_⟩, ?_, ?_⟩
            · rw [List.length_map]
              exact Nat.lt_of_le_of_lt l5 (Nat.lt_of_lt_of_le hj (by decide))
            · intro b o e
              have nb : b ≠ D2 := ne_of_none e hD2
              rw [upd_ne nb, upd_ne (ne_of_none (S56 b o e) ht)]
              exact S56 b o e
            · rw [upd_same, List.map_append]
              rfl
            · rcases List.mem_append.mp hq with h | h
              · have e6 := S6 _ _ (X5.t q h)
                have nb : q.1 ≠ D2 := fun e => by rw [e, l6] at e6; cases e6
                rw [upd_ne nb, upd_ne (ne_of_none e6 ht)]
                exact e6
              · rw [List.mem_singleton.mp h]
                show (upd _ D2 _) t = _
                rw [upd_ne nD, upd_same]
                rfl
            · rw [stp, hnk, if_pos rfl, hz, List.map_append, N5]
              rfl
            · rw [List.length_append]
              exact Nat.succ_le_succ l5
        · rintro H5 ⟨S5, T2, X5, N5, l5⟩
          have hp5 := S5 _ _ hp4
          have lt2 : T2.length ≤ 5 := by omega
          refine ⟨p, D2, _, _, rfl, rfl, hp5, X5.l, ?_, ?_⟩
          · rw [List.length_map, List.length_map, sizeLine_eq]
            omega
          · refine ⟨T ++ T2, ⟨_, _, _, _, _, _, _, rfl⟩, Same.wr (fun b o e => S5 b o (S04 b o e)) hp, ⟨by rw [upd_same, List.map_append], fun q hq => ?_⟩, ?_, ?_⟩
            · have e5 : H5 q.1 = some (.tup (q.2.map V.str)) := by
                rcases List.mem_append.mp hq with h | h
                · exact S5 _ _ (S4 _ _ (X3.t q h))
                · exact X5.t q h
              rw [upd_ne (fun e => by rw [e, hp5] at e5; cases e5)]
              exact e5
            · rw [lu, List.take_length] at N5
              rw [List.map_append, N3, N5, List.take_add_one, hr', List.flatMap_append]
              congr 1
              show _ = [r].flatMap (nobR cs (recs.map rD))
              rw [List.flatMap_cons, List.flatMap_nil, List.append_nil]
              rfl
            · rw [List.length_append]
              omega
    · rintro σ H3 ⟨T, ⟨a2, a3, a4, a5, a6, a7, a8, rfl⟩, S3, X3, N3, l3⟩
      exact ⟨_, rfl, q p T H3 S3 hp X3 (by rw [el, List.take_length] at N3; exact N3) (by omega)⟩
end
end Fh

set_option Elab.async false
set_option linter.all false
set_option maxRecDepth 100000
set_option maxHeartbeats 4000000
namespace Fh
open PySem L2 PyProof.Rows
/-! ### the drawing: a word picked -/
def rEqM9 (K : PySem.W.Frag) : R2 := fun x y H Q => ∃ (a b : Addr) (xs : List V), x = .ref a ∧ y = .ref b ∧ SqL K H a xs ∧ SqL K H b [] ∧ Q (.bl xs.isEmpty) H
section
variable {X : Cx}
theorem op_eqM9 (hu : X.A.units + 64 < cLine) : OpR X (compareOp .Eq) (rEqM9 X.K) := by
  intro pins s σ H x y v u Q I rx ry want
  obtain ⟨a, b, xs, rfl, rfl, ha, hb, q⟩ := want
  cases (show v = Value.ref a from rx)
  cases (show u = Value.ref b from ry)
  obtain ⟨us, r1, p1, _⟩ := I.list ha
  obtain ⟨ws, r2, p2, _⟩ := I.list hb
  have l2 : ws = [] := List.eq_nil_of_length_eq_zero r2.length.symm
  subst l2
  cases xs with
  | nil =>
    have l1 : us = [] := List.eq_nil_of_length_eq_zero r1.length.symm
    subst l1
    exact SeqAt.RcAt.lists (e := fun _ => true) p1.isList p2.isList rfl (by omega) (fun j h1 h2 => absurd h2 (Nat.not_lt_zero j)) _ _ _ _ ⟨.bl true, H, I, rfl, q⟩
  | cons x xs =>
    have ne : (us.toArray.size != ([] : List Value).toArray.size) = true := by
      rw [List.size_toArray, ← r1.length]
      simp
    exact SeqAt.RcAt.lists_lengths p1.isList p2.isList ne (by omega) _ _ _ _ ⟨.bl false, H, I, rfl, q⟩
end

abbrev nPik : List Str := ["_law_bag_here", "_law_pool", "_law_strange", "_law_some"]
abbrev pPik : List Str := ["_law_bag_here", "_law_pool", "_law_strange"]
def spPik : Sp := fun vs H Q _ => ∃ (b l : Addr) (zs : List Str) (s : Str) (n : Nat), vs = [.ref b, .ref l, .str s] ∧ Bag H b n ∧ n + 10 ≤ most ∧ H l = some (.lst (zs.map V.str)) ∧ zs.length ≤ 100 ∧
  ∀ (z : Str) (H' : Hp), (z ∈ zs ∨ z = s) → Kp b H H' → Bag H' b (n + 2) → Q (.str z) H'
section
variable {P : Program} {w : World} {K : PySem.W.Frag} {mg : Str → Option Value} {base : Heap}
end
end Fh

set_option Elab.async false
set_option linter.all false
set_option maxRecDepth 100000
set_option maxHeartbeats 4000000
namespace Fh
open PySem L2 PyProof.Rows
/-! ### a kind drawn -/
abbrev nKnd : List Str := ["_law_bag_here", "_law_menus", "_law_forms", "_law_way", "_law_kind"]
abbrev pKnd : List Str := ["_law_bag_here", "_law_menus", "_law_forms"]
def Kb.nm1 (k : Kb) : Option Str := (Kn.one k).nm
def spKnd : Sp := fun vs H Q _ => ∃ (b lm lf : Addr) (ms fs : List Str) (n : Nat), vs = [.ref b, .ref lm, .ref lf] ∧ Bag H b n ∧ n + 30 ≤ most ∧ H lm = some (.lst (ms.map V.str)) ∧ H lf = some (.lst (fs.map V.str)) ∧ ms.length ≤ 100 ∧ fs.length ≤ 100 ∧ (∀ z ∈ ms, Nm z) ∧ (∀ z ∈ fs, Nm z) ∧
  ∀ (v : V) (k : Kn) (H' : Hp), Tp H' v k.d → (∀ z, k.nm = some z → Nm z) → Kp b H H' → Bag H' b (n + 6) → Q v H'
theorem ls_ne {H : Hp} {a b : Addr} {zs : List Str} {n : Nat} (h : H a = some (.lst (zs.map V.str))) (hB : Bag H b n) : a ≠ b := fun e => by
  obtain ⟨x, y, z, hb, _⟩ := hB
  rw [e, hb] at h
  cases zs with
  | nil => cases h
  | cons z r => cases h
section
variable {P : Program} {w : World} {K : PySem.W.Frag} {mg : Str → Option Value} {base : Heap}
end
end Fh

set_option Elab.async false
set_option linter.all false
set_option maxRecDepth 100000
set_option maxHeartbeats 4000000
namespace Fh
open PySem L2 PyProof.Rows
/-! ### unlike names -/
abbrev nUlk : List Str := ["_law_bag_here", "_law_size", "_law_few", "_law_spot"]
def spUlk : Sp := fun vs H Q _ => ∃ (b : Addr) (size n : Nat), vs = [.ref b, .int size] ∧ Bag H b n ∧ size ≤ 7 ∧ n + 300 ≤ most ∧
  ∀ (p : Addr) (zs : List Str) (H' : Hp), H p = none → H' p = some (.lst (zs.map V.str)) → zs.length = size → zs.Nodup → (∀ z ∈ zs, Nm z) → Kp b H H' → Bag H' b (n + 130) → Q (.ref p) H'
def fewL : List Str := ["a", "b", "c", "id", "sum", "who", "note", "longname"]
theorem nm_lit {z : Str} (h1 : (decide (1 ≤ z.length) && decide (z.length ≤ 8) && z.cps.toList.all fun c => decide (97 ≤ c) && decide (c ≤ 122)) = true) : Nm z := by
  rw [Bool.and_eq_true, Bool.and_eq_true] at h1
  refine ⟨of_decide_eq_true h1.1.1, of_decide_eq_true h1.1.2, fun c hc => ?_⟩
  have := List.all_eq_true.mp h1.2 c hc
  rw [Bool.and_eq_true] at this
  exact ⟨of_decide_eq_true this.1, of_decide_eq_true this.2⟩
theorem few_nm : ∀ z ∈ fewL, Nm z := fun z hz => by
  unfold fewL at hz
  simp only [List.mem_cons, List.not_mem_nil, or_false] at hz
  rcases hz with rfl | rfl | rfl | rfl | rfl | rfl | rfl | rfl <;> exact nm_lit (by decide +kernel)
theorem few_nd : fewL.Nodup := by decide +kernel
theorem ix_at {y : Int} {n : Nat} (h0 : 0 ≤ y) (h1 : y < (n : Int)) : seqIndex? y n = some y.toNat := by
  unfold seqIndex?
  have a : ¬ y < 0 := by omega
  simp only [if_neg a]
  rw [if_pos]
  simp [h0, h1]
def rLenQ (K : PySem.W.Frag) : List V → Hp → VK → Prop := fun xs H Q => ∃ (p : Addr) (ys : List V), xs = [V.ref p] ∧ (SqL K H p ys ∨ SqT K H p ys) ∧ Q (V.int ys.length) H
theorem map_eraseQ {α β : Type} (f : α → β) : ∀ (l : List α) (k : Nat), (l.eraseIdx k).map f = (l.map f).eraseIdx k
  | [], _ => rfl
  | _ :: _, 0 => rfl
  | x :: l, k + 1 => by
    show f x :: (l.eraseIdx k).map f = f x :: (l.map f).eraseIdx k
    rw [map_eraseQ f l k]
theorem erase_perm {α : Type} : ∀ {l : List α} {k : Nat} {z : α}, l[k]? = some z → (z :: l.eraseIdx k).Perm l
  | [], _, _, h => by cases h
  | x :: l, 0, z, h => by
    cases h
    exact .refl _
  | x :: l, k + 1, z, h => (List.Perm.swap x z (l.eraseIdx k)).trans ((erase_perm (l := l) (k := k) h).cons x)
section
variable {P : Program} {w : World} {K : PySem.W.Frag} {mg : Str → Option Value} {base : Heap}
end
end Fh

set_option Elab.async false
set_option linter.all false
set_option maxRecDepth 100000
set_option maxHeartbeats 4000000
namespace Fh
open PySem L2 PyProof.Rows
/-! ### a deed drawn -/
def six : List Str := ["take", "add", "tell", "copy", "ask", "get"]
abbrev nDed : List Str := ["_law_bag_here", "_law_own", "_law_ins", "_law_outs", "_law_way"]
abbrev pDed : List Str := ["_law_bag_here", "_law_own", "_law_ins", "_law_outs"]
def spDed : Sp := fun vs H Q _ => ∃ (b li lo : Addr) (own : Str) (is os : List Str) (n : Nat), vs = [.ref b, .str own, .ref li, .ref lo] ∧ Bag H b n ∧ n + 40 ≤ most ∧ Nm own ∧ H li = some (.lst (is.map V.str)) ∧ H lo = some (.lst (os.map V.str)) ∧ is.length ≤ 100 ∧ os.length ≤ 100 ∧ (∀ z ∈ is, Nm z) ∧ (∀ z ∈ os, Nm z) ∧
  ∀ (t : Addr) (d : List Str) (H' : Hp), H' t = some (.tup (d.map V.str)) → 3 ≤ d.length → d.length ≤ 4 → d.headD "" ∈ six → (∀ z ∈ d, Nm z) → Kp b H H' → Bag H' b (n + 20) → Q (.ref t) H'
section
variable {P : Program} {w : World} {K : PySem.W.Frag} {mg : Str → Option Value} {base : Heap}
end
end Fh

set_option Elab.async false
set_option linter.all false
set_option maxRecDepth 100000
set_option maxHeartbeats 4000000
namespace Fh
open PySem L2 PyProof.Rows
/-! ### fields drawn -/
theorem nm_shQ {z : Str} (h : Nm z) : Sh 0 (.str z) := ⟨strOk_of fun c hc => by have := h.sg c hc; unfold Lt at this; omega, Nat.le_refl _⟩
theorem kb_shQ {k : Kb} (h : ∀ z, (Kn.one k).nm = some z → Nm z) : Sh 1 k.d := by
  cases k with
  | whole => exact ⟨by decide +kernel, by decide +kernel⟩
  | truth => exact ⟨by decide +kernel, by decide +kernel⟩
  | text => exact ⟨by decide +kernel, by decide +kernel⟩
  | rc z =>
    refine Sh.tup fun d hd => ?_
    rcases List.mem_cons.mp hd with e | hd
    · rw [e]; exact ⟨by decide +kernel, Nat.zero_le _⟩
    · rw [List.mem_singleton.mp hd]; exact nm_shQ (h z rfl)
  | ch z =>
    refine Sh.tup fun d hd => ?_
    rcases List.mem_cons.mp hd with e | hd
    · rw [e]; exact ⟨by decide +kernel, Nat.zero_le _⟩
    · rw [List.mem_singleton.mp hd]; exact nm_shQ (h z rfl)
theorem kn_shQ {k : Kn} (h : ∀ z, k.nm = some z → Nm z) : SeqAt.shaped k.d = true := by
  cases k with
  | one b => exact (kb_shQ h).shaped (by decide)
  | lst b =>
    have hb : Sh 1 b.d := kb_shQ (k := b) fun z hz => h z hz
    refine (Sh.tup (n := 1) fun d hd => ?_).shaped (by decide)
    rcases List.mem_cons.mp hd with e | hd
    · rw [e]; exact ⟨by decide +kernel, Nat.zero_le _⟩
    · rw [List.mem_singleton.mp hd]; exact hb
/-- fields as they are drawn, or changed -/
structure FlW (fl : List Fl) : Prop where
  l5 : fl.length ≤ 5
  nd : (fl.map Fl.nam).Nodup
  nm : ∀ f ∈ fl, Nm f.nam
  nk : ∀ f ∈ fl, ∀ z, f.kd.nm = some z → Nm z
  rise : (fl.map Fl.num).Pairwise (· < ·)
  rg : ∀ f ∈ fl, 1 ≤ f.num ∧ f.num ≤ 30
theorem FlW.ok {fl : List Fl} (h : FlW fl) : FOkR fl := ⟨h.nd, Nat.le_trans h.l5 (by decide), fun f hf => kn_shQ (h.nk f hf), fun f hf => nm_shQ (h.nm f hf)⟩
structure RecsW (recs : List Rec) : Prop where
  l6 : recs.length ≤ 6
  nd : (recs.map (·.1)).Nodup
  nm : ∀ r ∈ recs, Nm r.1
  fl : ∀ r ∈ recs, FlW r.2
theorem RecsW.ok {recs : List Rec} (h : RecsW recs) : RecsOk recs := ⟨h.l6, fun r hr => (h.fl r hr).l5⟩
theorem flw_nil : FlW [] := ⟨by decide, List.nodup_nil, (fun f h => by cases h), (fun f h => by cases h), List.Pairwise.nil, fun f h => by cases h⟩
theorem RecsW.at {recs : List Rec} (h : RecsW recs) (z : Str) : FlW (flO recs z) := by
  rcases flO_mem (recs := recs) (z := z) with e | ⟨r, hr, e⟩
  · rw [e]; exact flw_nil
  · rw [e]; exact h.fl r hr
abbrev nFrm : List Str := ["_law_bag_here", "_law_menus", "_law_forms", "_law_size", "_law_marks", "_law_found", "_law_mark", "_law_word"]
def spFrm : Sp := fun vs H Q _ => ∃ (b lm lf : Addr) (ms fs : List Str) (n : Nat), vs = [.ref b, .ref lm, .ref lf] ∧ Bag H b n ∧ n + 600 ≤ most ∧ H lm = some (.lst (ms.map V.str)) ∧ H lf = some (.lst (fs.map V.str)) ∧ ms.length ≤ 100 ∧ fs.length ≤ 100 ∧ (∀ z ∈ ms, Nm z) ∧ (∀ z ∈ fs, Nm z) ∧
  ∀ (v : V) (fl : List Fl) (H' : Hp), Tp H' v (.tuple (fl.map Fl.d)) → FlW fl → Kp b H H' → Bag H' b (n + 300) → Q v H'
section
variable {P : Program} {w : World} {K : PySem.W.Frag} {mg : Str → Option Value} {base : Heap}
end
end Fh

set_option Elab.async false
set_option linter.all false
set_option maxRecDepth 100000
set_option maxHeartbeats 4000000
namespace Fh
open PySem L2 PyProof.Rows
/-! ### comprehensions by what they stand for -/
section
variable {K : PySem.W.Frag} {a : Addr} {β : Type} {xs : List V} {l : List β} {dx val : β → PyData} {keep : β → Bool} {g : TG} {ws : List Nat} {tt : TT} {te : TE} {σ : L2.St} {H : Hp} {D : Addr} {Qd : Hp → Prop}
theorem filt_stepG {α : Type} (p : α → Bool) {l : List α} {i : Nat} {x : α} (e : l[i]? = some x) : (l.take (i + 1)).filter p = (l.take i).filter p ++ (if p x = true then [x] else []) := by
  rw [List.take_add_one, e, List.filter_append]
  show _ ++ [x].filter p = _
  cases q : p x with
  | true => rw [List.filter_cons_of_pos q]; rfl
  | false => rw [List.filter_cons_of_neg (by rw [q]; exact Bool.false_ne_true)]; rfl
theorem mapAt {α γ : Type} {f : α → γ} {l : List α} {j : Nat} {y : γ} (h : (l.map f)[j]? = some y) : ∃ b, l[j]? = some b ∧ f b = y := by
  rw [List.getElem?_map] at h
  cases q : l[j]? with
  | none => rw [q] at h; cases h
  | some b => rw [q] at h; exact ⟨b, rfl, Option.some.inj h⟩
/-- what stands in a comprehension over data that draws nothing -/
def StepG (dx val : β → PyData) (keep : β → Bool) (l : List β) (g : TG) (ws : List Nat) (tt : TT) (te : TE) (σ : L2.St) (H : Hp) : Prop :=
  ∀ (j : Nat) (b : β) (x : V) (H' : Hp), l[j]? = some b → Same H H' → Tp H' x (dx b) → ∀ (N : Hp → Prop) (M : V → Hp → Prop), (keep b = false → ∀ H'', Same H' H'' → N H'') → (keep b = true → ∀ y H'', Same H' H'' → Tp H'' y (val b) → M y H'') →
    g x (wipe σ ws) H' fun σ2 H2 => wipe σ2 ws = wipe σ ws ∧ tt σ2 H2 fun b H3 => if b = true then te σ2 H3 M else N H3
theorem lcG_tup (hA : ∀ H', Same H H' → SqT K H' a xs) (tx : TpAll H xs (l.map dx)) (hl : l.length < sizeLine) (hD : H D = none) (st : StepG dx val keep l g ws tt te σ H)
    (hd : ∀ H' zs, Same H H' → H' D = some (.lst zs) → TpAll H' zs ((l.filter keep).map val) → Qd H') :
    ∃ W : Nat → Nat → Hp → Prop, (∃ m, W 0 m (upd H D (.lst []))) ∧ ∀ k m H, W k m H →
      ((Itt K a).stop k H ∧ Qd H) ∨ ((Itt K a).go k H ∧ ∃ Nx : Hp → Prop, (∀ H', Nx H' → ∃ m', m' < m ∧ W (k + 1) m' H') ∧ ∀ x H', (Itt K a).yld k H x H' → g x (wipe σ ws) H' fun σ2 H2 => wipe σ2 ws = wipe σ ws ∧ tt σ2 H2 fun b H3 =>
        if b = true then te σ2 H3 fun y H4 => ∃ acc, H4 D = some (.lst acc) ∧ acc.length < sizeLine ∧ Nx (upd H4 D (.lst (acc ++ [y]))) else Nx H3) := by
  have lx : xs.length = l.length := by rw [tx.length, List.length_map]
  refine lc_tup (xs := xs) (fun j H' => Same H H' ∧ ∃ zs, H' D = some (.lst zs) ∧ TpAll H' zs (((l.take j).filter keep).map val)) ⟨Same.new hD, [], upd_same, .nil⟩ (fun j H' _ ⟨s, _⟩ => hA H' s) (fun j x H' hx ⟨s, zs, h, tz⟩ => ?_) (fun H' ⟨s, zs, h, tz⟩ => ?_)
  · obtain ⟨d, hd2, td⟩ := tx.get' hx
    obtain ⟨b, hb, rfl⟩ := mapAt hd2
    have e := filt_stepG keep hb
    refine st j b x H' hb s (Tp.keep (Same.tk s) _ _ td) _ _ (fun hk H3 s3 => ?_) (fun hk y H3 s3 ty => ?_)
    · rw [hk, if_neg Bool.false_ne_true, List.append_nil] at e
      refine ⟨s.trans s3, zs, s3 _ _ h, ?_⟩
      rw [e]
      exact TpAll.keep (Same.tk s3) _ _ tz
    · rw [hk, if_pos rfl] at e
      refine ⟨_, s3 _ _ h, ?_, Same.wr (s.trans s3) hD, _, upd_same, ?_⟩
      · rw [tz.length, List.length_map]
        exact Nat.lt_of_le_of_lt (Nat.le_trans (List.length_filter_le _ _) (by rw [List.length_take]; omega)) hl
      · have W : Tk H3 (upd H3 D (.lst (zs ++ [y]))) := Tk.wr (s3 _ _ h)
        rw [e, List.map_append]
        exact (TpAll.keep W _ _ (TpAll.keep (Same.tk s3) _ _ tz)).app (TpAll.one (Tp.keep W _ _ ty))
  · rw [lx, List.take_length] at tz
    exact hd H' zs s h tz
theorem lcG_list (hA : ∀ H', Same H H' → SqL K H' a xs) (tx : TpAll H xs (l.map dx)) (hl : l.length < sizeLine) (hD : H D = none) (st : StepG dx val keep l g ws tt te σ H)
    (hd : ∀ H' zs, Same H H' → H' D = some (.lst zs) → TpAll H' zs ((l.filter keep).map val) → Qd H') :
    ∃ W : Nat → Nat → Hp → Prop, (∃ m, W 0 m (upd H D (.lst []))) ∧ ∀ k m H, W k m H →
      ((Itl K a).stop k H ∧ Qd H) ∨ ((Itl K a).go k H ∧ ∃ Nx : Hp → Prop, (∀ H', Nx H' → ∃ m', m' < m ∧ W (k + 1) m' H') ∧ ∀ x H', (Itl K a).yld k H x H' → g x (wipe σ ws) H' fun σ2 H2 => wipe σ2 ws = wipe σ ws ∧ tt σ2 H2 fun b H3 =>
        if b = true then te σ2 H3 fun y H4 => ∃ acc, H4 D = some (.lst acc) ∧ acc.length < sizeLine ∧ Nx (upd H4 D (.lst (acc ++ [y]))) else Nx H3) := by
  have lx : xs.length = l.length := by rw [tx.length, List.length_map]
  refine lc_list (xs := xs) (fun j H' => Same H H' ∧ ∃ zs, H' D = some (.lst zs) ∧ TpAll H' zs (((l.take j).filter keep).map val)) ⟨Same.new hD, [], upd_same, .nil⟩ (fun j H' _ ⟨s, _⟩ => hA H' s) (fun j x H' hx ⟨s, zs, h, tz⟩ => ?_) (fun H' ⟨s, zs, h, tz⟩ => ?_)
  · obtain ⟨d, hd2, td⟩ := tx.get' hx
    obtain ⟨b, hb, rfl⟩ := mapAt hd2
    have e := filt_stepG keep hb
    refine st j b x H' hb s (Tp.keep (Same.tk s) _ _ td) _ _ (fun hk H3 s3 => ?_) (fun hk y H3 s3 ty => ?_)
    · rw [hk, if_neg Bool.false_ne_true, List.append_nil] at e
      refine ⟨s.trans s3, zs, s3 _ _ h, ?_⟩
      rw [e]
      exact TpAll.keep (Same.tk s3) _ _ tz
    · rw [hk, if_pos rfl] at e
      refine ⟨_, s3 _ _ h, ?_, Same.wr (s.trans s3) hD, _, upd_same, ?_⟩
      · rw [tz.length, List.length_map]
        exact Nat.lt_of_le_of_lt (Nat.le_trans (List.length_filter_le _ _) (by rw [List.length_take]; omega)) hl
      · have W : Tk H3 (upd H3 D (.lst (zs ++ [y]))) := Tk.wr (s3 _ _ h)
        rw [e, List.map_append]
        exact (TpAll.keep W _ _ (TpAll.keep (Same.tk s3) _ _ tz)).app (TpAll.one (Tp.keep W _ _ ty))
  · rw [lx, List.take_length] at tz
    exact hd H' zs s h tz
theorem filt_all {β : Type} {l : List β} : l.filter (fun _ => true) = l := List.filter_eq_self.mpr fun _ _ => rfl
theorem tp_strs {H : Hp} : ∀ {zs : List V} {ts : List Str}, TpAll H zs (ts.map PyData.str) → zs = ts.map V.str
  | zs, [], h => h.inil
  | zs, t :: ts, h => by
    obtain ⟨v, r, rfl, t1, q⟩ := TpAll.icons h
    rw [t1.istr, tp_strs q]
    rfl
theorem tp_strsM {H : Hp} {β : Type} {f : β → Str} {zs : List V} {l : List β} (h : TpAll H zs (l.map fun b => PyData.str (f b))) : zs = (l.map f).map V.str := tp_strs (by rw [List.map_map]; exact h)
end
/-- dict(a list of rows): by name the rows' second -/
theorem recs_dict {K : PySem.W.Frag} {H : Hp} : ∀ {xs : List V} {recs : List Rec}, TpAll H xs ((recs.map rD).map fun r => .tuple [.str r.1, r.2]) → (recs.map (·.1)).Nodup →
    ∃ (ps : List Addr) (kvs : List (Key × V)), xs = ps.map V.ref ∧ Paired (fun p kv => SqT K H p [kV kv.1, kv.2]) ps kvs ∧ kvs.map Prod.fst = recs.map (fun r => (Sum.inr r.1 : Key)) ∧ (∀ z, z ∉ recs.map (·.1) → valV kvs (.inr z) = none) ∧ (∀ z, z ∈ recs.map (·.1) → ∃ v, valV kvs (.inr z) = some v ∧ Tp H v (fieldsD (flO recs z)))
  | xs, [], q, _ => by
    rw [List.map_nil, List.map_nil] at q
    cases q.inil
    exact ⟨[], [], rfl, .nil, rfl, fun _ _ => rfl, fun z h => by cases h⟩
  | xs, r :: recs, q, nd => by
    rw [List.map_cons, List.map_cons] at q
    rw [List.map_cons, List.nodup_cons] at nd
    obtain ⟨x, rest, rfl, hx, q2⟩ := q.icons
    obtain ⟨a, y, u, rfl, ha, hy, hu⟩ := Tp.pair hx
    cases hy.istr
    obtain ⟨ps, kvs, rfl, pr, e, h1, h2⟩ := recs_dict (K := K) q2 nd.2
    refine ⟨a :: ps, (Sum.inr r.1, u) :: kvs, rfl, .cons (SqT.of ha) pr, by rw [List.map_cons, List.map_cons, e], fun z hz => ?_, fun z hz => ?_⟩
    · rw [List.map_cons, List.mem_cons] at hz
      rw [valV_neg fun e => hz (.inl (by exact (Sum.inr.inj e).symm))]
      exact h1 z fun h => hz (.inr h)
    · by_cases e : z = r.1
      · subst e
        refine ⟨u, valV_pos rfl, ?_⟩
        unfold flO
        rw [List.find?_cons, decide_eq_true rfl]
        exact hu
      · rw [List.map_cons, List.mem_cons] at hz
        obtain ⟨v, hv, tv⟩ := h2 z (hz.resolve_left e)
        refine ⟨v, by rw [valV_neg fun h => e (by exact (Sum.inr.inj h).symm)]; exact hv, ?_⟩
        unfold flO at tv ⊢
        rw [List.find?_cons, decide_eq_false fun h => e h.symm]
        exact tv
theorem put_newG {kvs : List (Key × V)} {k : Key} {v : V} (h : k ∉ kvs.map Prod.fst) : putK kvs k v = kvs ++ [(k, v)] := by
  exact putK_new h
theorem merge_ndG : ∀ (l acc : List (Key × V)), ((acc ++ l).map Prod.fst).Nodup → mergeK acc l = acc ++ l
  | [], acc, _ => (List.append_nil acc).symm
  | p :: l, acc, h => by
    show mergeK (putK acc p.1 p.2) l = _
    have hn : p.1 ∉ acc.map Prod.fst := by
      rw [List.map_append, List.nodup_append] at h
      exact fun m => h.2.2 _ m _ (by rw [List.map_cons]; exact List.mem_cons_self) rfl
    rw [put_newG hn, merge_ndG l (acc ++ [(p.1, p.2)]) (by rw [List.append_assoc]; exact h), List.append_assoc]
    rfl
theorem merge_recs {recs : List Rec} {kvs : List (Key × V)} (nd : (recs.map (·.1)).Nodup) (e : kvs.map Prod.fst = recs.map (fun r => (Sum.inr r.1 : Key))) : mergeK [] kvs = kvs := by
  refine merge_ndG kvs [] ?_
  rw [List.nil_append, e]
  have : recs.map (fun r => (Sum.inr r.1 : Key)) = (recs.map (·.1)).map (Sum.inr : Str → Key) := by rw [List.map_map]; rfl
  rw [this]
  exact List.Pairwise.map _ (fun a b h e => h (Sum.inr.inj e)) nd
/-- dict(a list of pairs), by name -/
def rDpL (K : PySem.W.Frag) : List V → Hp → VK → Prop := fun xs H Q => ∃ (a : Addr) (ps : List Addr) (kvs : List (Key × V)), xs = [.ref a] ∧ SqL K H a (ps.map V.ref) ∧ Paired (fun p kv => SqT K H p [kV kv.1, kv.2]) ps kvs ∧ ∀ p, H p = none → Q (.ref p) (upd H p (.dK (mergeK [] kvs)))
theorem call_dpL {X : Cx} (hc : X.calm = true) : CallR X (.type "dict") (rDpL X.K) := call_dictP hc
theorem blk_in {N : List Str} {sc scope : Scope} {own : List (Str × Nat)} (h : blkC N ⟨.function, [], false, false, []⟩ scope own = true) : BlkOk N sc scope own := by
  have h := blkOk_by h
  exact ⟨h.kind, h.uniq, h.ix, fun y hy e => absurd (h.free y hy e) (by intro z; rcases z with z | z <;> cases z), h.own⟩
end Fh

set_option Elab.async false
set_option linter.all false
set_option maxRecDepth 100000
set_option maxHeartbeats 4000000
namespace Fh
open PySem L2 PyProof.Rows
/-! ### calls drawn -/
abbrev DdW (d : List Str) : Prop := 3 ≤ d.length ∧ d.length ≤ 4 ∧ (∀ z ∈ d, Nm z) ∧ d.headD "" ∈ six
structure CwW (c : Cw) : Prop where
  nm : Nm c.nam
  na : Nm c.ask
  nb : Nm c.ans
  l : c.ds.length ≤ 6
  ds : ∀ d ∈ c.ds, DdW d
theorem CwW.ok {c : Cw} (h : CwW c) : CwOk c := ⟨Nat.le_trans h.l (by decide), fun d hd => ⟨(h.ds d hd).1, fun z hz => nm_shQ ((h.ds d hd).2.2.1 z hz)⟩⟩
structure CwsW (cws : List Cw) : Prop where
  l6 : cws.length ≤ 6
  nd : (cws.map Cw.nam).Nodup
  ok : ∀ c ∈ cws, CwW c
  rise : (cws.map Cw.num).Pairwise (· < ·)
  rg : ∀ c ∈ cws, 1 ≤ c.num ∧ c.num ≤ 30
theorem flO_none {recs : List Rec} {z : Str} (h : z ∉ recs.map (·.1)) : flO recs z = [] := by
  unfold flO
  cases q : recs.find? (fun r => decide (r.1 = z)) with
  | none => rfl
  | some r => exact absurd (List.mem_map.mpr ⟨r, List.mem_of_find?_eq_some q, by have := List.find?_some q; exact of_decide_eq_true this⟩) h
abbrev nAct : List Str := ["_law_bag_here", "_law_own", "_law_found_forms", "_law_size", "_law_forms", "_law_found", "_law_one", "_law_fields", "_law_mark", "_law_word", "_law_ask", "_law_back", "_law_sides", "_law_field", "_law_deeds", "_law_turn"]
abbrev pAct : List Str := ["_law_bag_here", "_law_own", "_law_found_forms"]
def spAct : Sp := fun vs H Q _ => ∃ (b l : Addr) (own : Str) (recs : List Rec) (xs : List V) (n : Nat), vs = [.ref b, .str own, .ref l] ∧ Bag H b n ∧ n + 1100 ≤ most ∧ Nm own ∧ H l = some (.lst xs) ∧ l ≠ b ∧ TpAll H xs ((recs.map rD).map fun r => .tuple [.str r.1, r.2]) ∧ RecsW recs ∧
  ∀ (v : V) (cws : List Cw) (H' : Hp), Tp H' v (.tuple (cws.map Cw.d)) → CwsW cws → Kp b H H' → Bag H' b (n + 1000) → Q v H'
section
variable {P : Program} {w : World} {K : PySem.W.Frag} {mg : Str → Option Value} {base : Heap}
end
end Fh

set_option Elab.async false
set_option linter.all false
set_option maxRecDepth 100000
set_option maxHeartbeats 4000000
/-! tuple(zip(a, b)) of two lists of one length -/
namespace Fh
open PySem PySem.Spec PyProof.Rows L2
/-- the zip ahead of turn i -/
structure ZAt (h : Heap) (z TI TO i1 i2 l1 l2 S : Addr) (xs ys : Array Value) (i : Nat) : Prop where
  ti : PySem.IsPair h TI (.ref i1) (.ref i2)
  a1 : h.IsListIter i1 l1 i
  a2 : h.IsListIter i2 l2 i
  b1 : h.IsList l1 xs
  b2 : h.IsList l2 ys
  tt : ∃ a b, PySem.IsPair h TO a b
  zp : IsZip h z TI TO .none ∨ ∃ T f oT, IsZipHeld h z TI TO T f ∧ h.get? T = some oT ∧ T ≠ z ∧ T ≠ i1 ∧ T ≠ i2 ∧ T ≠ S
/-- the pairs given out so far -/
def Outs (h : Heap) (xs ys : Array Value) (bad : List Addr) (ps : List Addr) : Prop := ∀ (j : Nat) (p : Addr), ps[j]? = some p → p ∉ bad ∧ ∃ x y, xs[j]? = some x ∧ ys[j]? = some y ∧ PySem.IsPair h p x y
def lstO (ps : List Addr) (c : Nat) : Obj := { cls := .type "list", dict := none, data := .seq (ps.map Value.ref).toArray c, slots := #[] }
structure OffS (S z TI TO i1 i2 l1 l2 : Addr) : Prop where
  z : S ≠ z
  ti : S ≠ TI
  to : S ≠ TO
  a1 : S ≠ i1
  a2 : S ≠ i2
  b1 : S ≠ l1
  b2 : S ≠ l2
section
variable {prog : Program} {w : World} {A : Around} {R : Result → Shared → Prop} {z TI TO i1 i2 l1 l2 S : Addr} {xs ys : Array Value}
theorem ZAt.off {h h' : Heap} {i : Nat} (Z : ZAt h z TI TO i1 i2 l1 l2 S xs ys i) (o : OffS S z TI TO i1 i2 l1 l2) (k : ∀ b ob, b ≠ S → h.get? b = some ob → h'.get? b = some ob) : ZAt h' z TI TO i1 i2 l1 l2 S xs ys i := by
  refine ⟨k _ _ (Ne.symm o.ti) Z.ti, Z.a1.at fun ob e => k _ ob (Ne.symm o.a1) e, Z.a2.at fun ob e => k _ ob (Ne.symm o.a2) e, Z.b1.at fun ob e => k _ ob (Ne.symm o.b1) e, Z.b2.at fun ob e => k _ ob (Ne.symm o.b2) e, let ⟨a, b, q⟩ := Z.tt; ⟨a, b, k _ _ (Ne.symm o.to) q⟩, ?_⟩
  rcases Z.zp with hz | ⟨T, f, oT, hz, hT, r1, r2, r3, r4⟩
  · exact .inl (k _ _ (Ne.symm o.z) hz)
  · exact .inr ⟨T, f, oT, k _ _ (Ne.symm o.z) hz, k _ _ r4 hT, r1, r2, r3, r4⟩
theorem ext_zip (hA : A.in1.handled = none) (D : ZipApart z TI TO i1 i2 l1 l2) (o : OffS S z TI TO i1 i2 l1 l2) (hsz : xs.size = ys.size) (hn : xs.size < sizeLine) (res : Value) (B0 : Nat) :
    ∀ (k i : Nat) (s : Shared) (ps : List Addr) (c : Nat), xs.size - i = k → i ≤ xs.size → ZAt s.heap z TI TO i1 i2 l1 l2 S xs ys i → s.heap.get? S = some (lstO ps c) → ps.length = i → ps.Nodup → Outs s.heap xs ys [S, z, TO, i1, i2] ps → (∀ p ∈ ps, B0 ≤ p) → B0 ≤ s.heap.objs.size →
      (∀ (h' : Heap) (ps' : List Addr) (c' : Nat), (∀ b ob, b ∉ [S, z, TO, i1, i2] → s.heap.get? b = some ob → h'.get? b = some ob) → h'.get? S = some (lstO ps' c') → ps'.length = xs.size → ps'.Nodup → Outs h' xs ys [S, z, TO, i1, i2] ps' → (∀ p ∈ ps', B0 ≤ p) → R (.ok (.ret res)) { s with heap := h' }) →
      codeAny (model prog w) A (.builtin "list.extend.loop" ⟨[.ref S, .ref z, res], []⟩) R s := by
  intro k
  induction k with
  | zero =>
    intro i s ps c hk hi Z hS hl hnd hO hB hB0 hR
    have hin : i = xs.size := by omega
    (refine codeAny_builtin F.entry_extend_loop ?_; rw [Around.under_plainId F.plain_extend_loop _]; show wpAny _ A.in1 (pyNext (.ref z) >>= _) _ _ s; refine wpAny_bind ?_)
    have hend : xs[i]? = none ∨ ys[i]? = none := .inl (Array.getElem?_eq_none (by omega))
    have fin : ∀ h' : Heap, (∀ b ob, b ≠ z → b ≠ TO → b ≠ i1 → b ≠ i2 → s.heap.get? b = some ob → h'.get? b = some ob) → R (.ok (.ret res)) { s with heap := h' } := fun h' hk' => by
      refine hR h' ps c (fun b ob hb e => ?_) (hk' _ _ o.z o.to o.a1 o.a2 hS) (by omega) hnd (fun j p hp => ?_) hB
      · simp only [List.mem_cons, List.not_mem_nil, or_false, not_or] at hb
        exact hk' b ob hb.2.1 hb.2.2.1 hb.2.2.2.1 hb.2.2.2.2 e
      · obtain ⟨nb, x, y, hx, hy, hp'⟩ := hO j p hp
        refine ⟨nb, x, y, hx, hy, ?_⟩
        simp only [List.mem_cons, List.not_mem_nil, or_false, not_or] at nb
        exact hk' _ _ nb.2.1 nb.2.2.1 nb.2.2.2.1 nb.2.2.2.2 hp'
    obtain ⟨ta, tb, hTO⟩ := Z.tt
    rcases Z.zp with hz | ⟨T, f, oT, hz, hT, r1, r2, r3, r4⟩
    · exact wpAny_pyNext_zip_end hA D hz Z.ti hTO Z.a1 Z.a2 Z.b1 Z.b2 hend fun h' hk' => wpAny_pure (fin h' hk')
    · exact wpAny_pyNext_zip_end_held hA D hz hT Z.ti Z.a1 Z.a2 Z.b1 Z.b2 hend fun h' hk' => wpAny_pure (fin h' fun b ob n1 _ n3 n4 e => hk' b ob n1 n3 n4 e)
  | succ k ih =>
    intro i s ps c hk hi Z hS hl hnd hO hB hB0 hR
    have hlt : i < xs.size := by omega
    have hlt2 : i < ys.size := by omega
    have ex := Array.getElem?_eq_getElem hlt
    have ey := Array.getElem?_eq_getElem hlt2
    (refine codeAny_builtin F.entry_extend_loop ?_; rw [Around.under_plainId F.plain_extend_loop _]; show wpAny _ A.in1 (pyNext (.ref z) >>= _) _ _ s; refine wpAny_bind ?_)
    have lt : ∀ {c ob}, s.heap.get? c = some ob → s.heap.objs.size ≠ c := fun e => Nat.ne_of_gt (Heap.lt_size e)
    have n1 : s.heap.objs.size ≠ i1 := let ⟨_, e, _⟩ := Z.a1; lt e
    have n2 : s.heap.objs.size ≠ i2 := let ⟨_, e, _⟩ := Z.a2; lt e
    have nS : s.heap.objs.size ≠ S := lt hS
    have nz : s.heap.objs.size ≠ z := by
      rcases Z.zp with hz | ⟨T, f, oT, hz, _⟩
      · exact lt hz
      · exact lt hz
    have go : ∀ h' : Heap, s.heap.objs.size ≠ TO → ZAt h' z TI TO i1 i2 l1 l2 S xs ys (i + 1) → PySem.IsPair h' s.heap.objs.size xs[i] ys[i] → h'.objs.size = s.heap.objs.size + 1 →
        (∀ b ob, b ≠ z → b ≠ TO → b ≠ i1 → b ≠ i2 → s.heap.get? b = some ob → h'.get? b = some ob) →
        wpAny (model prog w) A.in1 (updateSeq S (·.push (.ref s.heap.objs.size)) >>= fun _ => again (.builtin "list.extend.loop" ⟨[.ref S, .ref z, res], []⟩)) (fun fin s' => match fin with
          | .done f => R (.ok f) s'
          | .again c' => c'.quiet = true ∧ codeAny (model prog w) A c' R s') (fun e s' => R (.error e) s') { s with heap := h' } := by
      intro h' nTO Z' hp' hsz' hk'
      have hS' : h'.get? S = some (lstO ps c) := hk' _ _ o.z o.to o.a1 o.a2 hS
      have szl : ((ps.map Value.ref).toArray).size = i := by simp [hl]
      refine wpAny_bind (wpAny_updateSeq (s := { s with heap := h' }) hS' rfl (wpAny_pure ⟨plainId_quiet F.plain_extend_loop _, ?_⟩) (by rw [szl]; omega) (by show (((ps.map Value.ref).toArray).push _).size ≤ sizeLine + 1; rw [Array.size_push, szl]; omega))
      have oth : ∀ b ob, b ≠ S → h'.get? b = some ob → (h'.update S (Obj.mapSeq (·.push (.ref s.heap.objs.size)))).get? b = some ob := fun b ob hb e => (Heap.get?_update_other _ _ (Ne.symm hb)).trans e
      have hS2 := Heap.get?_update_self (Obj.mapSeq (·.push (Value.ref s.heap.objs.size))) hS' rfl
      have eA : ((ps.map Value.ref).toArray.push (Value.ref s.heap.objs.size)) = ((ps ++ [s.heap.objs.size]).map Value.ref).toArray := by simp
      have hS3 : ∃ c', (h'.update S (Obj.mapSeq (·.push (Value.ref s.heap.objs.size)))).get? S = some (lstO (ps ++ [s.heap.objs.size]) c') := by
        rw [hS2]
        unfold lstO
        rw [← eA]
        exact ⟨_, rfl⟩
      obtain ⟨c', hS4⟩ := hS3
      have sz2 : (h'.update S (Obj.mapSeq (·.push (Value.ref s.heap.objs.size)))).objs.size = h'.objs.size := by simp
      have kept : ∀ b ob, b ∉ [S, z, TO, i1, i2] → s.heap.get? b = some ob → (h'.update S (Obj.mapSeq (·.push (Value.ref s.heap.objs.size)))).get? b = some ob := fun b ob hb e => by
        simp only [List.mem_cons, List.not_mem_nil, or_false, not_or] at hb
        exact oth b ob hb.1 (hk' b ob hb.2.1 hb.2.2.1 hb.2.2.2.1 hb.2.2.2.2 e)
      refine ih (i + 1) { s with heap := h'.update S (Obj.mapSeq (·.push (Value.ref s.heap.objs.size))) } (ps ++ [s.heap.objs.size]) c' (by omega) hlt (Z'.off o oth) hS4 (by rw [List.length_append, hl]; rfl) ?_ ?_ ?_ ?_ ?_
      · rw [List.nodup_append]
        refine ⟨hnd, List.nodup_cons.mpr ⟨fun h => (nomatch h), List.nodup_nil⟩, fun a ha b hb e => ?_⟩
        rw [List.mem_singleton.mp hb] at e
        obtain ⟨j, hj⟩ := List.getElem?_of_mem ha
        obtain ⟨_, x, y, _, _, hp⟩ := hO j a hj
        exact lt hp e.symm
      · intro j p hp
        rw [List.getElem?_append] at hp
        split at hp
        · obtain ⟨nb, x, y, hx, hy, hp2⟩ := hO j p hp
          exact ⟨nb, x, y, hx, hy, kept p _ nb hp2⟩
        · rename_i hj
          have hj' : j - ps.length = 0 := by
            by_cases e : j - ps.length = 0
            · exact e
            · rw [List.getElem?_eq_none (by simp; omega)] at hp
              cases hp
          rw [hj'] at hp
          have hjj : j = i := by omega
          subst hjj
          cases hp
          refine ⟨?_, xs[j], ys[j], ex, ey, oth _ _ nS hp'⟩
          simp only [List.mem_cons, List.not_mem_nil, or_false, not_or]
          exact ⟨nS, nz, nTO, n1, n2⟩
      · intro p hp
        rcases List.mem_append.mp hp with h | h
        · exact hB p h
        · rw [List.mem_singleton.mp h]; exact hB0
      · show B0 ≤ (h'.update S (Obj.mapSeq (·.push (Value.ref s.heap.objs.size)))).objs.size
        rw [sz2, hsz']
        omega
      · intro h'' ps' c'' hk'' hS'' hl'' hnd'' hO'' hB''
        exact hR h'' ps' c'' (fun b ob hb e => hk'' b ob hb (kept b ob hb e)) hS'' hl'' hnd'' hO'' hB''
    obtain ⟨ta, tb, hTO⟩ := Z.tt
    rcases Z.zp with hz | ⟨T, f, oT, hz, hT, r1, r2, r3, r4⟩
    · refine wpAny_pyNext_zip_item D hz Z.ti hTO Z.a1 Z.a2 Z.b1 Z.b2 ex ey fun h' q1 q2 q3 q4 q5 q6 hk' => ?_
      exact go h' (lt hTO) ⟨hk' _ _ D.TIz D.TITO D.TIi1 D.TIi2 Z.ti, q3, q4, Z.b1.at fun ob e => hk' _ ob D.l1z D.l1TO D.l1i1 D.l1i2 e, Z.b2.at fun ob e => hk' _ ob D.l2z D.l2TO D.l2i1 D.l2i2 e, ⟨_, _, q2⟩, .inr ⟨s.heap.objs.size, false, _, q1, q5, nz, n1, n2, nS⟩⟩ q5 q6 hk'
    · refine wpAny_pyNext_zip_item_held D hz hT Z.ti Z.a1 Z.a2 Z.b1 Z.b2 ex ey fun h' q1 q3 q4 q5 q6 hk' => ?_
      exact go h' (lt hTO) ⟨hk' _ _ D.TIz D.TIi1 D.TIi2 Z.ti, q3, q4, Z.b1.at fun ob e => hk' _ ob D.l1z D.l1i1 D.l1i2 e, Z.b2.at fun ob e => hk' _ ob D.l2z D.l2i1 D.l2i2 e, ⟨_, _, hk' _ _ D.TOz D.TOi1 D.TOi2 hTO⟩, .inr ⟨T, true, oT, q1, hk' _ _ r1 r2 r3 hT, r1, r2, r3, r4⟩⟩ q5 q6 (fun b ob n1 _ n3 n4 e => hk' b ob n1 n3 n4 e)
end
/-! ### the tuple of it -/
theorem zip_nolen : typeLookup (.type "zip") "__len__" = pure none := am_miss_of_fast (by decide +kernel)
theorem zip_nohint : typeLookup (.type "zip") "__length_hint__" = pure none := am_miss_of_fast (by decide +kernel)
def emptyL : Obj := { cls := .type "list", data := .seq ([] : List Value).toArray }
section
variable {prog : Program} {w : World} {A : Around} {E : Value → Shared → Prop} {s : Shared} {z TI TO i1 i2 l1 l2 : Addr} {xs ys : Array Value}
theorem collect_zip {Q : List Value → Shared → Prop} (hA : A.handled = none) (D : ZipApart z TI TO i1 i2 l1 l2) (hsz : xs.size = ys.size) (hn : xs.size < sizeLine)
    (ti : PySem.IsPair s.heap TI (.ref i1) (.ref i2)) (a1 : s.heap.IsListIter i1 l1 0) (a2 : s.heap.IsListIter i2 l2 0) (b1 : s.heap.IsList l1 xs) (b2 : s.heap.IsList l2 ys) (hz : IsZip s.heap z TI TO .none) (tt : ∃ a b, PySem.IsPair s.heap TO a b)
    (hQ : ∀ (h' : Heap) (ps : List Addr), (∀ b ob, b ∉ [z, TO, i1, i2] → s.heap.get? b = some ob → h'.get? b = some ob) → ps.length = xs.size → ps.Nodup → Outs h' xs ys [] ps → (∀ p ∈ ps, s.heap.objs.size ≤ p) → Q (ps.map Value.ref) { s with heap := h' }) :
    wpAny (model prog w) A (collect (.ref z)) Q E s := by
  have lt : ∀ {c ob}, s.heap.get? c = some ob → s.heap.objs.size ≠ c := fun e => Nat.ne_of_gt (Heap.lt_size e)
  have o : OffS s.heap.objs.size z TI TO i1 i2 l1 l2 := ⟨lt hz, lt ti, let ⟨_, _, q⟩ := tt; lt q, let ⟨_, e, _⟩ := a1; lt e, let ⟨_, e, _⟩ := a2; lt e, let ⟨_, e, _⟩ := b1; lt e, let ⟨_, e, _⟩ := b2; lt e⟩
  have hT1 : ({ s with heap := s.heap.push emptyL } : Shared).TypeIs (.ref z) "zip" := ⟨_, Heap.get?_push_of_some _ hz, rfl⟩
  unfold collect
  (refine wpAny_bind (wpAny_runValue (codeAny_builtin F.entry_proto_collect ?_)); rw [Around.under_plainId F.plain_proto_collect _])
  (show wpAny _ A.in1 (newList [] >>= fun l' => again (.builtin "list.__iadd__" ⟨[l', .ref z], []⟩)) _ _ s; refine wpAny_bind (wpAny_newObj_type ?_))
  (refine wpAny_pure ⟨plainId_quiet F.plain_list_iadd _, codeAny_builtin F.entry_list_iadd ?_⟩; rw [Around.under_plainId F.plain_list_iadd _])
  show wpAny _ A.in1 (Builtin.List.listExtendWith (.ref s.heap.objs.size) (.ref z) (.ref s.heap.objs.size)) _ _ { s with heap := s.heap.push emptyL }
  unfold Builtin.List.listExtendWith
  refine wpAny_bind (wpAny_typeOf hT1 ?_)
  have g1 : Builtin.List.listSameRef (.ref s.heap.objs.size) (.ref z) = false := by simp [Builtin.List.listSameRef, o.z]
  have g2 : (Value.type "zip" == Value.type "list") = false := by decide
  have g3 : (Value.type "zip" == Value.type "tuple") = false := by decide
  simp only [g1, g2, g3, Bool.or_false, Bool.false_eq_true, if_false]
  refine wpAny_bind (wpAny_pyIter_zip (s := { s with heap := s.heap.push emptyL }) (Heap.get?_push_of_some _ hz) ?_)
  (refine wpAny_bind (wpAny_holding ?_); unfold Builtin.List.listLengthHint; refine wpAny_bind (wpAny_specialOf hT1 zip_nolen ?_))
  (show wpAny _ A.in1 (specialOf (Value.ref z) (Str.ofString "__length_hint__") >>= _) _ _ _; refine wpAny_bind (wpAny_specialOf hT1 zip_nohint ?_); refine wpAny_pure ?_)
  show wpAny _ A.in1 (rule "list.extend.makes-room" >>= fun _ => Builtin.List.listTouch (.ref s.heap.objs.size) >>= fun _ => again (.builtin "list.extend.loop" ⟨[.ref s.heap.objs.size, .ref z, .ref s.heap.objs.size], []⟩)) _ _ _
  refine wpAny_bind (wpAny_rule ?_)
  have t1 : (s.heap.push emptyL).get? s.heap.objs.size = some emptyL := Heap.get?_push_size _ rfl
  refine wpAny_bind ?_
  show wpAny _ A.in1 (updateSeq s.heap.objs.size (·.push .none) >>= fun _ => updateSeq s.heap.objs.size (·.pop)) _ _ { s with heap := s.heap.push emptyL }
  refine wpAny_bind (wpAny_updateSeq (s := { s with heap := s.heap.push emptyL }) t1 rfl ?_)
  have t2 := Heap.get?_update_self (Obj.mapSeq (·.push Value.none)) t1 rfl
  refine wpAny_updateSeq (s := { s with heap := (s.heap.push emptyL).update s.heap.objs.size (Obj.mapSeq (·.push Value.none)) }) t2 rfl ?_
  have t3 := Heap.get?_update_self (Obj.mapSeq (·.pop)) t2 rfl
  have oth : ∀ b ob, b ≠ s.heap.objs.size → s.heap.get? b = some ob → (((s.heap.push emptyL).update s.heap.objs.size (Obj.mapSeq (·.push Value.none))).update s.heap.objs.size (Obj.mapSeq (·.pop))).get? b = some ob := fun b ob hb e =>
    (Heap.get?_update_other _ _ (Ne.symm hb)).trans ((Heap.get?_update_other _ _ (Ne.symm hb)).trans (Heap.get?_push_of_some _ e))
  have Z0 : ZAt s.heap z TI TO i1 i2 l1 l2 s.heap.objs.size xs ys 0 := ⟨ti, a1, a2, b1, b2, tt, .inl hz⟩
  have t4 : ∃ c, (((s.heap.push emptyL).update s.heap.objs.size (Obj.mapSeq (·.push Value.none))).update s.heap.objs.size (Obj.mapSeq (·.pop))).get? s.heap.objs.size = some (lstO [] c) := ⟨_, t3⟩
  obtain ⟨c, t5⟩ := t4
  have bsz : s.heap.objs.size ≤ (((s.heap.push emptyL).update s.heap.objs.size (Obj.mapSeq (·.push Value.none))).update s.heap.objs.size (Obj.mapSeq (·.pop))).objs.size := by simp
  refine wpAny_pure ⟨plainId_quiet F.plain_extend_loop _, ext_zip (S := s.heap.objs.size) hA D o hsz hn _ s.heap.objs.size xs.size 0 { s with heap := ((s.heap.push emptyL).update s.heap.objs.size (Obj.mapSeq (·.push Value.none))).update s.heap.objs.size (Obj.mapSeq (·.pop)) } [] c (by omega) (Nat.zero_le _) (Z0.off o oth) t5 rfl List.nodup_nil (fun j p h => by simp at h) (fun p h => by cases h) bsz fun h' ps c' hk' hS' hl hnd hO hB => ?_⟩
  (show wpAny _ A (load s.heap.objs.size >>= _) _ _ _; refine wpAny_bind (wpAny_load (s := { s with heap := h' }) hS' ?_); refine wpAny_pure ?_)
  have e : ((ps.map Value.ref).toArray).toList = ps.map Value.ref := by simp
  show Q ((ps.map Value.ref).toArray).toList { s with heap := h' }
  rw [e]
  refine hQ h' ps (fun b ob hb q => ?_) hl hnd (fun j p hp => ⟨fun h => (nomatch h), (hO j p hp).2⟩) hB
  have nS : b ≠ s.heap.objs.size := fun e => lt q e.symm
  refine hk' b ob (fun hm => ?_) (oth b ob nS q)
  rcases List.mem_cons.mp hm with h | h
  · exact nS h
  · exact hb h
theorem code_tuple_zip {Q1 : Value → Shared → Prop} (hA : A.handled = none) (D : ZipApart z TI TO i1 i2 l1 l2) (hsz : xs.size = ys.size) (hn : xs.size < sizeLine)
    (ti : PySem.IsPair s.heap TI (.ref i1) (.ref i2)) (a1 : s.heap.IsListIter i1 l1 0) (a2 : s.heap.IsListIter i2 l2 0) (b1 : s.heap.IsList l1 xs) (b2 : s.heap.IsList l2 ys) (hz : IsZip s.heap z TI TO .none) (tt : ∃ a b, PySem.IsPair s.heap TO a b)
    (hQ : ∀ (h' : Heap) (ps : List Addr), (∀ b ob, b ∉ [z, TO, i1, i2] → s.heap.get? b = some ob → h'.get? b = some ob) → ps.length = xs.size → ps.Nodup → Outs h' xs ys [] ps → (∀ p ∈ ps, s.heap.objs.size ≤ p) → Q1 (.ref h'.objs.size) { s with heap := h'.push { cls := .type "tuple", data := .seq (ps.map Value.ref).toArray } }) :
    codeAny (model prog w) A (.call (.builtin "tuple.__new__") ⟨[.type "tuple", .ref z], []⟩) (wants Q1 E) s := by
  refine codeAny_of_tree ?_
  show wpAny _ A.in1 (do checkBuiltinCall "tuple.__new__" ⟨[.type "tuple", .ref z], []⟩; again (.builtin "tuple.__new__" ⟨[.type "tuple", .ref z], []⟩)) _ _ s
  (refine wpAny_bind (wpAny_of_eq (F.newCall_tuple_1 _) (wpAny_pure ⟨plainId_quiet F.plain_tuple_new _, codeAny_builtin F.entry_tuple_new ?_⟩)); rw [Around.under_plainId F.plain_tuple_new _])
  have f1 := sub_tuple_self
  have f2 := init_tuple_lookup
  have f3 := madeHere_tuple
  have f4 : s.TypeIs (.ref z) "zip" := ⟨_, hz, rfl⟩
  have hA1 : A.in1.handled = none := hA
  wp_walk using wpAny_typeOf f4, collect_zip (A := A.in1) hA1 D hsz hn ti a1 a2 b1 b2 hz tt
  intro h' ps hk hl hnd hO hB
  show wpAny _ _ (Builtin.Tuple.tupleExact (ps.map Value.ref).toArray >>= fun v => ret v) _ _ { s with heap := h' }
  unfold Builtin.Tuple.tupleExact
  refine wpAny_bind (wpAny_newObj_type ?_ (by show ((ps.map Value.ref).toArray).size ≤ sizeLine; simp; omega))
  exact wpAny_pure (hQ h' ps hk hl hnd hO hB)
theorem call_tuple_zip {Q : Value → Shared → Prop} (hA : A.handled = none) (D : ZipApart z TI TO i1 i2 l1 l2) (hsz : xs.size = ys.size) (hn : xs.size < sizeLine)
    (ti : PySem.IsPair s.heap TI (.ref i1) (.ref i2)) (a1 : s.heap.IsListIter i1 l1 0) (a2 : s.heap.IsListIter i2 l2 0) (b1 : s.heap.IsList l1 xs) (b2 : s.heap.IsList l2 ys) (hz : IsZip s.heap z TI TO .none) (tt : ∃ a b, PySem.IsPair s.heap TO a b)
    (hQ : ∀ (h' : Heap) (ps : List Addr), (∀ b ob, b ∉ [z, TO, i1, i2] → s.heap.get? b = some ob → h'.get? b = some ob) → ps.length = xs.size → ps.Nodup → Outs h' xs ys [] ps → (∀ p ∈ ps, s.heap.objs.size ≤ p) → Q (.ref h'.objs.size) { s with heap := h'.push { cls := .type "tuple", data := .seq (ps.map Value.ref).toArray } }) :
    wpAny (model prog w) A (call (.type "tuple") [.ref z]) Q E s := by
  refine callType_codes (Q₁ := fun obj s1 => s1.TypeIs obj "tuple" ∧ Q obj s1) F.called_tuple (F.typeCall_tuple_1 _) F.entry_object_init
    (code_tuple_zip (A := A.in1) hA D hsz hn ti a1 a2 b1 b2 hz tt fun h' ps hk hl hnd hO hB => ⟨⟨_, Heap.get?_push_size _ rfl, rfl⟩, hQ h' ps hk hl hnd hO hB⟩) fun obj s1 q => ?_
  exact ⟨q.1, F.args_object_init_2 obj _, object_init_meets F.called_tuple.init.lookup F.called_tuple.made (by decide) prog w A.in1 _ s1 ⟨q.1, rfl, q.2⟩⟩
end
end Fh

set_option Elab.async false
set_option linter.all false
set_option maxRecDepth 100000
set_option maxHeartbeats 4000000
namespace Fh
open PySem PySem.Spec PyProof.Rows L2
theorem hok_add {P : Program} {w : World} {H : Hp} {h : Heap} {a : Addr} {xs : List V} {its : List Value} (ok : HOk P w H h) (hn : H a = none) (hz : xs.length ≤ sizeLine) (r : Vals xs its) (ht : IsTup h a its.toArray) : HOk P w (upd H a (.tup xs)) h := fun b u e => by
  by_cases hb : b = a
  · subst hb
    rw [upd_same] at e
    cases e
    exact ⟨hz, its, r, ht⟩
  · rw [upd_ne hb] at e
    exact (ok b u e).stay (fun c v _ q => q) (fun c q => by rw [upd_ne (ne_of_none q hn)]; exact q) fun c ys q => by rw [upd_ne (ne_of_none q hn)]; exact q
theorem inv_grow {X : Cx} {pins : List (Addr × Obj)} {σ : L2.St} {H H' : Hp} {s : Shared} {h' : Heap} {t' : Nat} (I : Inv X pins σ H s) (k : ∀ b u, s.heap.get? b = some u → h'.get? b = some u) (hs : Same H H')
    (hf : ∀ b o, s.heap.get? b = some o → H b = none → H' b = none) (hok : HOk X.prog X.w H' h') : Inv X pins σ H' { s with heap := h', toks := t' } :=
  I.un ⟨fun b ob q _ _ _ => k b ob q, fun b ob q _ _ _ => ⟨ob.slots, k b ob q⟩, fun b ob q n _ => hf b ob q n, fun b ob q _ => ⟨ob, k b ob q⟩, fun b xs q => hs _ _ q, fun b o u q => hs _ _ q, fun b ps q => ⟨#[], by rw [hs _ _ q]; simp⟩⟩ hok
/-- pairs laid one after another -/
def putP (H : Hp) : List (Addr × V × V) → Hp
  | [] => H
  | (p, x, y) :: r => upd (putP H r) p (.tup [x, y])
theorem putP_out {H : Hp} {a : Addr} : ∀ {l : List (Addr × V × V)}, a ∉ l.map (·.1) → putP H l a = H a
  | [], _ => rfl
  | (p, x, y) :: r, h => by
    have h1 : a ≠ p := fun e => h (by rw [e]; exact List.mem_cons_self)
    have h2 : a ∉ r.map (·.1) := fun e => h (List.mem_cons_of_mem _ e)
    show upd (putP H r) p (.tup [x, y]) a = _
    rw [upd_ne h1, putP_out h2]
theorem putP_at {H : Hp} : ∀ {l : List (Addr × V × V)} {q : Addr × V × V}, (l.map (·.1)).Nodup → q ∈ l → putP H l q.1 = some (.tup [q.2.1, q.2.2])
  | (p, x, y) :: r, q, hn, hq => by
    obtain ⟨h1, h2⟩ := List.nodup_cons.mp hn
    show upd (putP H r) p (.tup [x, y]) q.1 = _
    rcases List.mem_cons.mp hq with rfl | hq
    · rw [upd_same]
    · have hne : q.1 ≠ p := fun e => h1 (by rw [← e]; exact List.mem_map.mpr ⟨q, hq, rfl⟩)
      rw [upd_ne hne, putP_at h2 hq]
theorem hok_putP {P : Program} {w : World} {H : Hp} {h : Heap} (ok : HOk P w H h) : ∀ {l : List (Addr × V × V)}, (l.map (·.1)).Nodup → (∀ q ∈ l, H q.1 = none ∧ ∃ u v, RelV q.2.1 u ∧ RelV q.2.2 v ∧ PySem.IsPair h q.1 u v) → HOk P w (putP H l) h
  | [], _, _ => ok
  | (p, x, y) :: r, hn, hq => by
    obtain ⟨h1, h2⟩ := List.nodup_cons.mp hn
    obtain ⟨hp, u, v, ru, rv, hpr⟩ := hq (p, x, y) List.mem_cons_self
    refine hok_add (its := [u, v]) (hok_putP ok h2 fun q h => hq q (List.mem_cons_of_mem _ h)) (by rw [putP_out h1]; exact hp) (by show 2 ≤ sizeLine; decide) (.cons ru (.cons rv .nil)) ⟨_, hpr, rfl, _, rfl⟩
def tTupZip (K : PySem.W.Frag) (ta : TA) : TE := fun σ H Q => ta σ H fun vs H1 => ∃ (a b : Addr) (xs ys : List V), vs = [.ref a, .ref b] ∧ SqL K H1 a xs ∧ SqL K H1 b ys ∧ xs.length = ys.length ∧ xs.length < sizeLine ∧
  ∀ (R : Addr) (ps : List Addr) (H2 : Hp), Same H1 H2 → H1 R = none → H2 R = some (.tup (ps.map V.ref)) → ps.length = xs.length → (∀ (j : Nat) (p : Addr) (x y : V), ps[j]? = some p → xs[j]? = some x → ys[j]? = some y → H2 p = some (.tup [x, y])) → Q (.ref R) H2
theorem vals_refs9 : ∀ ps : List Addr, Vals (ps.map V.ref) (ps.map Value.ref)
  | [] => .nil
  | p :: r => .cons rfl (vals_refs9 r)
theorem pe_tupZip {X : Cx} {e e2 : Expr} {ta : TA} {p p2 pos pos2 : Pos} (hc : X.calm = true) (hg : Gl X "tuple") (hm : X.mg "tuple" = none) (hg2 : Gl X "zip") (hm2 : X.mg "zip" = none) (ha : PA X [e, e2] ta)
    (hs : starEach [e, e2] X.env = (false, eval e X.env) :: starEach [e2] X.env := by rfl) (hpl : (backTo pos2 (starEach [e2] X.env)).any (·.1) = false := by rfl)
    (hs2 : starEach [.Call (.Name "zip" p2) [e, e2] [] pos2] X.env = (false, eval (.Call (.Name "zip" p2) [e, e2] [] pos2) X.env) :: starEach [] X.env := by rfl) :
    PE X (.Call (.Name "tuple" p) [.Call (.Name "zip" p2) [e, e2] [] pos2] [] pos) (tTupZip X.K ta) := by
  refine ⟨fun pins s σ H Q I h => ?_⟩
  refine Call_ (ld_blt I hg hm boot_tuple (PyProof.Rows.callWith_type1 (args_cons (Call_ (ld_blt I hg2 hm2 PyProof.Rows.boot_zip (PyProof.Rows.callWith_type1 (thn (ha.run pos2 pins s σ H _ I h) fun us s1 ⟨vs, H1, I1, r1, q1⟩ => ?_) hs hpl))) hs2) hs2 rfl))
  obtain ⟨a, b, xs, ys, ex, hqx, hqy, hlen, hlt, q⟩ := q1
  subst ex
  cases r1 with
  | cons r rr =>
    cases rr with
    | cons r' rr =>
      cases rr
      cases r
      cases r'
      obtain ⟨its, rv, pl, _⟩ := I1.list hqx
      obtain ⟨its2, rv2, pl2, _⟩ := I1.list hqy
      refine call_zip_2 pl.isList pl2.isList fun h' hz hTI hTO h1 h2 hsz hk => args_nil ?_
      have l1 := rv.length
      have l2 := rv2.length
      refine call_tuple_zip (s := { s1 with heap := h' }) (xs := its.toArray) (ys := its2.toArray) (I1.ok.hd hc) (PySem.W.ktu_apart s1.heap.objs.size a b pl.lt pl2.lt) (by simp; omega) (by simp; omega) hTI h1 h2
        (pl.isList.at fun o e => hk _ o e) (pl2.isList.at fun o e => hk _ o e) hz ⟨_, _, hTO⟩ fun h'' ps hk2 hl hnd hO hB => ?_
      have hl' : ps.length = xs.length := by rw [hl]; simp; omega
      have kept : ∀ c ob, s1.heap.get? c = some ob → h''.get? c = some ob := fun c ob e => hk2 c ob (fun hm => by
        have hlt := Heap.lt_size e
        simp only [List.mem_cons, List.not_mem_nil, or_false] at hm
        have hlt' : c < s1.heap.objs.size := hlt
        have key : ∀ (m n : Nat), m < n → (m = n + 4 ∨ m = n + 3 ∨ m = n ∨ m = n + 1) → False := fun m n h1 h2 => by omega
        exact key c s1.heap.objs.size hlt' hm) (hk c ob e)
      have new : ∀ p' ∈ ps, s1.heap.objs.size ≤ p' := fun p' hp' => Nat.le_trans (by rw [hsz]; exact Nat.le_add_right _ _) (hB p' hp')
      have none1 : ∀ p' ∈ ps, H1 p' = none := fun p' hp' => I1.hok.fresh (new p' hp')
      have hfst : (ps.zip (xs.zip ys)).map (·.1) = ps := by
        rw [List.map_fst_zip]
        rw [List.length_zip]
        omega
      have hnd' : ((ps.zip (xs.zip ys)).map (·.1)).Nodup := by rw [hfst]; exact hnd
      have hmem : ∀ (j : Nat) (p' : Addr) (x y : V), ps[j]? = some p' → xs[j]? = some x → ys[j]? = some y → (p', x, y) ∈ ps.zip (xs.zip ys) := fun j p' x y e1 e2 e3 => by
        refine List.mem_of_getElem? (i := j) ?_
        rw [List.getElem?_zip_eq_some]
        refine ⟨e1, ?_⟩
        rw [List.getElem?_zip_eq_some]
        exact ⟨e2, e3⟩
      have okP : HOk X.prog X.w (putP H1 (ps.zip (xs.zip ys))) h'' := by
        refine hok_putP (I1.hok.kept kept) hnd' fun t ht => ?_
        obtain ⟨j, hj⟩ := List.getElem?_of_mem ht
        rw [List.getElem?_zip_eq_some] at hj
        obtain ⟨e1, e2⟩ := hj
        rw [List.getElem?_zip_eq_some] at e2
        obtain ⟨_, u, v, hu, hv, hp'⟩ := hO j _ e1
        obtain ⟨u', hu', ru⟩ := rv.get e2.1
        obtain ⟨v', hv', rv'⟩ := rv2.get e2.2
        have eu : u = u' := by
          have : its[j]? = some u := by simpa using hu
          rw [hu'] at this
          exact (Option.some.inj this).symm
        have ev : v = v' := by
          have : its2[j]? = some v := by simpa using hv
          rw [hv'] at this
          exact (Option.some.inj this).symm
        exact ⟨none1 _ (List.mem_of_getElem? e1), u, v, by rw [eu]; exact ru, by rw [ev]; exact rv', hp'⟩
      have kp : ∀ c ob, h''.get? c = some ob → (h''.push { cls := .type "tuple", data := .seq (ps.map Value.ref).toArray }).get? c = some ob := fun c ob e => Heap.get?_push_of_some _ e
      have nR : putP H1 (ps.zip (xs.zip ys)) h''.objs.size = none := okP.fresh (Nat.le_refl _)
      have okR : HOk X.prog X.w (upd (putP H1 (ps.zip (xs.zip ys))) h''.objs.size (.tup (ps.map V.ref))) (h''.push { cls := .type "tuple", data := .seq (ps.map Value.ref).toArray }) :=
        hok_add (its := ps.map Value.ref) (okP.kept kp) nR (by rw [List.length_map]; omega) (vals_refs9 ps) (IsTup.new _ _)
      have sm : Same H1 (upd (putP H1 (ps.zip (xs.zip ys))) h''.objs.size (.tup (ps.map V.ref))) := fun c o ec => by
        have hc1 : c ∉ (ps.zip (xs.zip ys)).map (·.1) := fun hm => by
          rw [hfst] at hm
          rw [none1 c hm] at ec
          cases ec
        have hc2 : putP H1 (ps.zip (xs.zip ys)) c = some o := by rw [putP_out hc1]; exact ec
        rw [upd_ne (ne_of_none hc2 nR)]
        exact hc2
      have free : ∀ c o, s1.heap.get? c = some o → H1 c = none → upd (putP H1 (ps.zip (xs.zip ys))) h''.objs.size (.tup (ps.map V.ref)) c = none := fun c o ec hn => by
        have hlt : c < s1.heap.objs.size := Heap.lt_size ec
        have hc1 : c ∉ (ps.zip (xs.zip ys)).map (·.1) := fun hm => by
          rw [hfst] at hm
          exact absurd (Nat.lt_of_lt_of_le hlt (new c hm)) (Nat.lt_irrefl _)
        have hc3 : c ≠ h''.objs.size := Nat.ne_of_lt (Heap.lt_size (kept c o ec))
        rw [upd_ne hc3, putP_out hc1]
        exact hn
      have I3 : Inv X pins σ (upd (putP H1 (ps.zip (xs.zip ys))) h''.objs.size (.tup (ps.map V.ref))) { s1 with heap := h''.push { cls := .type "tuple", data := .seq (ps.map Value.ref).toArray } } :=
        inv_grow (t' := s1.toks) I1 (fun c ob e => kp c ob (kept c ob e)) sm free okR
      have hR1 : H1 h''.objs.size = none := by
        cases eR : H1 h''.objs.size with
        | none => rfl
        | some o =>
          have hc1 : h''.objs.size ∉ (ps.zip (xs.zip ys)).map (·.1) := fun hm => by
            rw [hfst] at hm
            rw [none1 _ hm] at eR
            cases eR
          rw [putP_out hc1, eR] at nR
          cases nR
      refine ⟨.ref h''.objs.size, _, I3, rfl, q h''.objs.size ps _ sm hR1 upd_same hl' fun j p' x y e1 e2 e3 => ?_⟩
      have := putP_at (H := H1) hnd' (hmem j p' x y e1 e2 e3)
      rw [upd_ne (ne_of_none this nR)]
      exact this
end Fh

set_option Elab.async false
set_option linter.all false
set_option maxRecDepth 100000
set_option maxHeartbeats 4000000
namespace Fh
open PySem L2 PyProof.Rows
/-! ### the parts of a face, drawn -/
abbrev Opt := List (Int × Str)
structure OpW (os : Opt) : Prop where
  l1 : 1 ≤ os.length
  l6 : os.length ≤ 6
  nd : (os.map (·.2)).Nodup
  nm : ∀ o ∈ os, Nm o.2
  rise : (os.map (·.1)).Pairwise (· < ·)
  rg : ∀ o ∈ os, 1 ≤ o.1 ∧ o.1 ≤ 30
abbrev Cho := Str × Opt
structure CsW (cs : List Cho) : Prop where
  l6 : cs.length ≤ 6
  nd : (cs.map (·.1)).Nodup
  nm : ∀ c ∈ cs, Nm c.1
  op : ∀ c ∈ cs, OpW c.2
def csP (cs : List Cho) : List (Str × PyData) := cs.map fun c => (c.1, optsD c.2)
theorem look_csP : ∀ {cs : List Cho} {z : Str}, z ∈ cs.map (·.1) → ∃ c ∈ cs, (csP cs).lookup z = some (optsD c.2)
  | [], _, h => by cases h
  | c :: cs, z, h => by
    unfold csP
    rw [List.map_cons, List.lookup_cons]
    by_cases e : z = c.1
    · have : (z == c.1) = true := by rw [e]; exact beq_self_eq_true _
      rw [this]
      exact ⟨c, List.mem_cons_self, rfl⟩
    · have h1 : (z == c.1) = false := beq_eq_false_iff_ne.mpr e
      rw [h1]
      have h2 : z ∈ cs.map (·.1) := by
        rcases List.mem_cons.mp h with h | h
        · exact absurd h e
        · exact h
      obtain ⟨c2, hc, e2⟩ := look_csP h2
      exact ⟨c2, List.mem_cons_of_mem _ hc, e2⟩
theorem csP_names {cs : List Cho} : (csP cs).map (·.1) = cs.map (·.1) := by
  unfold csP
  rw [List.map_map]
  rfl
theorem CsW.cs1 {cs : List Cho} (h : CsW cs) : Cs1 (csP cs) := fun z hz => by
  have hz2 : z ∈ cs.map (·.1) := by
    rw [← csP_names]
    exact of_decide_eq_true hz
  obtain ⟨c, hc, e⟩ := look_csP hz2
  have o := h.op c hc
  have l1 := o.l1
  obtain ⟨cn, os⟩ := c
  match os, o, l1, e with
  | (n, u) :: os, o, _, e =>
    have r := o.rg (n, u) List.mem_cons_self
    exact ⟨n, u, os, e, r.1, Int.le_trans r.2 (by decide), ⟨(fun h => nomatch h), Nat.le_trans o.l6 (by decide), o.nd, fun q hq => ⟨(o.rg q hq).1, Int.le_trans (o.rg q hq).2 (by decide)⟩⟩⟩
structure PtW (own : Str) (age : Int) (cs : List Cho) (recs : List Rec) (cws : List Cw) : Prop where
  on : Nm own
  a1 : 1 ≤ age
  a2 : age ≤ 100
  co : CsW cs
  rc : RecsW recs
  cw : CwsW cws
  nd : (cs.map (·.1) ++ recs.map (·.1)).Nodup
def ptD (own : Str) (age : Int) (cs : List Cho) (recs : List Rec) (cws : List Cw) : PyData := .tuple [.str own, .int age, rowsD (csP cs), rowsD (recs.map rD), .tuple (cws.map Cw.d)]
theorem zip_tp {H : Hp} : ∀ {ps : List Addr} {ns : List Int} {zs : List Str}, ps.length = ns.length → zs.length = ns.length → (∀ (j : Nat) (p : Addr) (x y : V), ps[j]? = some p → (ns.map V.int)[j]? = some x → (zs.map V.str)[j]? = some y → H p = some (.tup [x, y])) → TpAll H (ps.map V.ref) ((ns.zip zs).map fun o => .tuple [.int o.1, .str o.2])
  | [], [], [], _, _, _ => .nil
  | p :: ps, n :: ns, z :: zs, l1, l2, h => .cons (.tup (h 0 p _ _ rfl rfl rfl) (.cons (.int _) (.cons (.str _) .nil))) (zip_tp (by simpa using l1) (by simpa using l2) fun j p x y e1 e2 e3 => h (j + 1) p x y e1 e2 e3)
theorem op_zip {ns : List Int} {zs : List Str} (l : zs.length = ns.length) (l1 : 1 ≤ ns.length) (l6 : ns.length ≤ 6) (nd : zs.Nodup) (nm : ∀ z ∈ zs, Nm z) (rise : ns.Pairwise (· < ·)) (rg : ∀ x ∈ ns, 1 ≤ x ∧ x ≤ 30) : OpW (ns.zip zs) := by
  have e1 : (ns.zip zs).map (·.1) = ns := List.map_fst_zip (by omega)
  have e2 : (ns.zip zs).map (·.2) = zs := List.map_snd_zip (by omega)
  have el : (ns.zip zs).length = ns.length := by rw [List.length_zip]; omega
  exact ⟨by omega, by omega, by rw [e2]; exact nd, fun o ho => nm _ (by rw [← e2]; exact List.mem_map.mpr ⟨o, ho, rfl⟩), by rw [e1]; exact rise, fun o ho => rg _ (by rw [← e1]; exact List.mem_map.mpr ⟨o, ho, rfl⟩)⟩
abbrev nAll : List Str := ["_law_bag_here", "_law_own", "_law_age", "_law_size", "_law_many", "_law_some", "_law_menus", "_law_spot", "_law_forms", "_law_opts", "_law_one", "_law_marks", "_law_recs"]
def spAll : Sp := fun vs H Q _ => ∃ (b : Addr) (n : Nat), vs = [.ref b] ∧ Bag H b n ∧ n + 5000 ≤ most ∧
  ∀ (v : V) (own : Str) (age : Int) (cs : List Cho) (recs : List Rec) (cws : List Cw) (H' : Hp), Tp H' v (ptD own age cs recs cws) → PtW own age cs recs cws → Kp b H H' → Bag H' b (n + 4000) → Q v H'
section
variable {P : Program} {w : World} {K : PySem.W.Frag} {mg : Str → Option Value} {base : Heap}
end
end Fh

set_option Elab.async false
set_option linter.all false
set_option maxRecDepth 100000
set_option maxHeartbeats 4000000
namespace Fh
open PySem PySem.Spec PyProof.Rows L2
open AutoSeq1 (wpAny_loadPart')
section
variable {prog : Program} {w : World} {A : Around} {E : Value → Shared → Prop} {s : Shared}
/-- tuples whose items are equal as far as both go -/
theorem tup_neq {l b : Addr} {xs ys : Array Value} {Q : Value → Shared → Prop} (hl : s.heap.IsTuple l xs) (hb : s.heap.IsTuple b ys) (hu : A.units < cLine)
    (eq : ∀ p ∈ xs.toList.zip ys.toList, SeqAt.EqP prog w A.in1 s p.1 p.2 true) (h : Q (.bool (xs.size != ys.size)) s) : wpAny (model prog w) A (richCompare .NotEq (.ref l) (.ref b)) Q E s := by
  obtain ⟨⟨c1, dd, d1, sl⟩, ho, hc, n, hd⟩ := hl
  obtain ⟨⟨c2, dd2, d2, sl2⟩, ho2, hc2, n2, hd2⟩ := hb
  dsimp only at hc hd hc2 hd2
  subst hc hd hc2 hd2
  refine wpAny_richCompare_same_room (op := .NotEq) ⟨_, ho, rfl⟩ ⟨_, ho2, rfl⟩ F.slot_tuple_ne (GQ.call_here F.slot_tuple_ne ⟨_, ho, rfl⟩ F.entry_tuple_ne (F.args_tuple_ne_2 _ _) ?_) hu
  have q0 := AutoSeq1.sub_tuple_tuple
  obtain ⟨hp, g, d, tk, os⟩ := s
  have fin : wants (fun v s' => v ≠ .notImplemented ∧ Q v s') E (.ok (.ret (.bool (xs.size != ys.size)))) ⟨hp, g, d, tk, os⟩ := ⟨(fun x => nomatch x), h⟩
  wp_walk using wpAny_loadPart' ho, wpAny_loadPart' ho2, wpAny_forIn_list _ (fun rest r s' => r.1 = none ∧ s' = ⟨hp, g, d, tk, os⟩ ∧ ∀ p ∈ rest, SeqAt.EqP prog w A.in1 ⟨hp, g, d, tk, os⟩ p.1 p.2 true) _
  case turn =>
    rintro ⟨y, x⟩ rest r s' ⟨hr, rfl, all⟩
    refine wpAny_bind (all (y, x) List.mem_cons_self _ _ ?_)
    wp_walk
    exact ⟨rfl, rfl, fun p hp' => all p (List.mem_cons_of_mem _ hp')⟩
  case fin =>
    rintro ⟨r1, r2⟩ s' ⟨hr, rfl, _⟩
    dsimp only at hr
    subst hr
    wp_walk
    simpa [Builtin.Tuple.tupleCompareSizes] using fin
  case h => exact ⟨rfl, rfl, eq⟩
end
section
variable {X : Cx}
/-- t == () -/
def rEqMt (K : PySem.W.Frag) : R2 := fun x y H Q => ∃ (a b : Addr) (xs : List V), x = .ref a ∧ y = .ref b ∧ SqT K H a xs ∧ SqT K H b [] ∧ Q (.bl xs.isEmpty) H
theorem op_eqMt (hu : X.A.units + 64 < cLine) : OpR X (compareOp .Eq) (rEqMt X.K) := by
  intro pins s σ H x y v u Q I rx ry want
  obtain ⟨a, b, xs, rfl, rfl, ha, hb, q⟩ := want
  cases (show v = Value.ref a from rx)
  cases (show u = Value.ref b from ry)
  obtain ⟨us, r1, p1, _⟩ := I.tuple ha
  obtain ⟨ws, r2, p2, _⟩ := I.tuple hb
  have l2 : ws = [] := List.eq_nil_of_length_eq_zero r2.length.symm
  subst l2
  refine PySem.W.eq_tuplesT (n := 0) (e := fun _ => true) p1 p2 (fun j h1 h2 => absurd h2 (Nat.not_lt_zero j)) (by omega) ?_
  have e1 : ((List.range (min us.toArray.size ([] : List Value).toArray.size)).all (fun _ => true) && us.toArray.size == ([] : List Value).toArray.size) = xs.isEmpty := by
    rw [List.size_toArray, ← r1.length]
    cases xs <;> simp
  rw [e1]
  exact ⟨.bl _, H, I, rfl, q⟩
/-- t != () -/
def rNeMt (K : PySem.W.Frag) : R2 := fun x y H Q => ∃ (a b : Addr) (xs : List V), x = .ref a ∧ y = .ref b ∧ SqT K H a xs ∧ SqT K H b [] ∧ Q (.bl (!xs.isEmpty)) H
theorem op_neMt (hu : X.A.units + 64 < cLine) : OpR X (compareOp .NotEq) (rNeMt X.K) := by
  intro pins s σ H x y v u Q I rx ry want
  obtain ⟨a, b, xs, rfl, rfl, ha, hb, q⟩ := want
  cases (show v = Value.ref a from rx)
  cases (show u = Value.ref b from ry)
  obtain ⟨us, r1, p1, _⟩ := I.tuple ha
  obtain ⟨ws, r2, p2, _⟩ := I.tuple hb
  have l2 : ws = [] := List.eq_nil_of_length_eq_zero r2.length.symm
  subst l2
  show wpAny (model X.prog X.w) X.A (richCompare .NotEq (.ref a) (.ref b)) (EP X pins σ Q) X.xe s
  refine tup_neq p1 p2 (by omega) (by simp) ?_
  have e1 : (us.toArray.size != ([] : List Value).toArray.size) = !xs.isEmpty := by
    rw [List.size_toArray, ← r1.length]
    cases xs <;> simp
  rw [e1]
  exact ⟨.bl _, H, I, rfl, q⟩
end
end Fh

set_option Elab.async false
set_option linter.all false
set_option maxRecDepth 100000
set_option maxHeartbeats 4000000
namespace Fh
open PySem L2 PyProof.Rows
/-! ### tracked data cut, joined, set -/
section
variable {X : Cx}
def rNeM9 (K : PySem.W.Frag) : R2 := fun x y H Q => ∃ (a b : Addr) (xs : List V), x = .ref a ∧ y = .ref b ∧ SqL K H a xs ∧ SqL K H b [] ∧ Q (.bl (!xs.isEmpty)) H
theorem op_neM9 (hu : X.A.units + 64 < cLine) : OpR X (compareOp .NotEq) (rNeM9 X.K) := by
  intro pins s σ H x y v u Q I rx ry want
  obtain ⟨a, b, xs, rfl, rfl, ha, hb, q⟩ := want
  cases (show v = Value.ref a from rx)
  cases (show u = Value.ref b from ry)
  obtain ⟨us, r1, p1, _⟩ := I.list ha
  obtain ⟨ws, r2, p2, _⟩ := I.list hb
  have l2 : ws = [] := List.eq_nil_of_length_eq_zero r2.length.symm
  subst l2
  cases xs with
  | nil =>
    have l1 : us = [] := List.eq_nil_of_length_eq_zero r1.length.symm
    subst l1
    exact SeqAt.RcNeAt.lists (e := fun _ => true) p1.isList p2.isList rfl (by omega) (fun j h1 h2 => absurd h2 (Nat.not_lt_zero j)) _ _ _ _ ⟨.bl false, H, I, rfl, q⟩
  | cons x xs =>
    have ne : (us.toArray.size != ([] : List Value).toArray.size) = true := by
      rw [List.size_toArray, ← r1.length]
      simp
    exact SeqAt.RcNeAt.lists_lengths p1.isList p2.isList ne (by omega) _ _ _ _ ⟨.bl true, H, I, rfl, q⟩
end
theorem atI_nat {α : Type} {xs : List α} {i : Nat} {x : α} (h : xs[i]? = some x) : atI xs (i : Int) = some x := by
  have hl := (List.getElem?_eq_some_iff.mp h).1
  unfold atI ixN
  rw [if_pos (by omega), if_pos (by omega)]
  show xs[(i : Int).toNat]? = _
  rw [Int.toNat_natCast]
  exact h
/-- a test, by a word between it and what follows -/
def tMidT (t : TT) : TT := fun σ H Q => ∃ Mid : Bool → Hp → Prop, t σ H Mid ∧ ∀ c H', Mid c H' → Q c H'
theorem pt_mid {X : Cx} {e : Expr} {t : TT} (h : PT X e t) : PT X e (tMidT t) := ⟨fun pins s σ H Q I hq => by
  obtain ⟨Mid, hm, hu⟩ := hq
  exact thn (h.run pins s σ H Mid I hm) fun c s1 ⟨H1, I1, q1⟩ => ⟨H1, I1, hu c H1 q1⟩⟩
theorem tpAt {H : Hp} {v : V} {ds : List PyData} {i : Nat} {d : PyData} (h : Tp H v (.tuple ds)) (e : ds[i]? = some d) : ∃ a xs x, v = .ref a ∧ H a = some (.tup xs) ∧ atI xs (i : Int) = some x ∧ Tp H x d := by
  obtain ⟨a, xs, rfl, ha, tx⟩ := Tp.inv h
  obtain ⟨x, hx, td⟩ := tx.get e
  exact ⟨a, xs, x, rfl, ha, atI_nat hx, td⟩
def cutG {α : Type} (xs : List α) (lo hi : Option Int) : List α := (xs.drop (HT.sIx xs.length 0 lo)).take (HT.sIx xs.length xs.length hi - HT.sIx xs.length 0 lo)
theorem cutG_to {α : Type} (xs : List α) (k : Nat) : cutG xs none (some (k : Int)) = xs.take k := by
  unfold cutG
  rw [HT.sIx_none, HT.sIx_nat, List.drop_zero, Nat.sub_zero]
  by_cases h : k ≤ xs.length
  · rw [Nat.min_eq_left h]
  · rw [Nat.min_eq_right (by omega), List.take_of_length_le (Nat.le_refl _), List.take_of_length_le (by omega)]
theorem cutG_from {α : Type} (xs : List α) (k : Nat) : cutG xs (some (k : Int)) none = xs.drop k := by
  unfold cutG
  rw [HT.sIx_none, HT.sIx_nat]
  by_cases h : k ≤ xs.length
  · rw [Nat.min_eq_left h, List.take_of_length_le (by rw [List.length_drop]; omega)]
  · rw [Nat.min_eq_right (by omega), Nat.sub_self, List.take_zero, List.drop_eq_nil_of_le (by omega)]
theorem cutG_mid {α : Type} (xs : List α) (k l : Nat) : cutG xs (some (k : Int)) (some (l : Int)) = (xs.take l).drop k := by
  unfold cutG
  rw [HT.sIx_nat, HT.sIx_nat]
  by_cases h : k ≤ xs.length
  · by_cases h2 : l ≤ xs.length
    · rw [Nat.min_eq_left h, Nat.min_eq_left h2, List.drop_take]
    · rw [Nat.min_eq_left h, Nat.min_eq_right (by omega), List.take_of_length_le (l := xs) (by omega), List.take_of_length_le (by rw [List.length_drop]; omega)]
  · rw [Nat.min_eq_right (a := k) (by omega), List.drop_eq_nil_of_le (Nat.le_refl _), List.take_nil, List.drop_eq_nil_of_le (by rw [List.length_take]; omega)]
theorem TpAll.dropG {H : Hp} : ∀ {vs : List V} {ds : List PyData} (k : Nat), TpAll H vs ds → TpAll H (vs.drop k) (ds.drop k)
  | _, _, 0, h => h
  | _, _, _ + 1, .nil => .nil
  | _, _, k + 1, .cons _ t => TpAll.dropG k t
theorem TpAll.takeG {H : Hp} : ∀ {vs : List V} {ds : List PyData} (k : Nat), TpAll H vs ds → TpAll H (vs.take k) (ds.take k)
  | _, _, 0, h => by rw [List.take_zero, List.take_zero]; exact .nil
  | _, _, _ + 1, .nil => .nil
  | _, _, k + 1, .cons h t => .cons h (TpAll.takeG k t)
theorem TpAll.setG {H : Hp} : ∀ {vs : List V} {ds : List PyData} (k : Nat) {v : V} {d : PyData}, TpAll H vs ds → Tp H v d → TpAll H (vs.set k v) (ds.set k d)
  | _, _, _, _, _, .nil, _ => .nil
  | _, _, 0, _, _, .cons _ t, hd => .cons hd t
  | _, _, k + 1, _, _, .cons h t, hd => .cons h (TpAll.setG k t hd)
theorem TpAll.cut {H : Hp} {vs : List V} {ds : List PyData} {lo hi : Option Int} (h : TpAll H vs ds) : TpAll H (cutV vs lo hi) (cutG ds lo hi) := by
  unfold cutV cutG
  rw [h.length]
  exact (h.dropG _).takeG _
section
variable {K : PySem.W.Frag} {H : Hp} {v u : V} {ds es : List PyData} {Q : V → Hp → Prop}
theorem tpIx {i : Nat} {d : PyData} (h : Tp H v (.tuple ds)) (e : ds[i]? = some d) (q : ∀ x, Tp H x d → Q x H) : rIxT K v (.int (i : Int)) H Q := by
  obtain ⟨a, xs, rfl, ha, tx⟩ := Tp.inv h
  obtain ⟨x, hx, td⟩ := tx.get e
  exact ⟨a, xs, _, x, rfl, rfl, SqT.of ha, atI_nat hx, q x td⟩
theorem tpIxL {a : Addr} {xs : List V} {i : Nat} {d : PyData} (ha : H a = some (.lst xs)) (tx : TpAll H xs ds) (e : ds[i]? = some d) (q : ∀ x, Tp H x d → Q x H) : rIxL K (.ref a) (.int (i : Int)) H Q := by
  obtain ⟨x, hx, td⟩ := tx.get e
  exact ⟨a, xs, _, x, rfl, rfl, SqL.of ha, atI_nat hx, q x td⟩
theorem tpSl {lo hi : Option Int} (h : Tp H v (.tuple ds)) (q : ∀ r H', Same H H' → Tp H' r (.tuple (cutG ds lo hi)) → Q r H') : rSlA K v lo hi H Q := by
  obtain ⟨a, xs, rfl, ha, tx⟩ := Tp.inv h
  refine ⟨a, xs, rfl, SqT.of ha, fun h => ?_, fun _ p hp => ?_⟩
  · have e : cutG ds lo hi = ds := by
      unfold cutG
      rw [← tx.length, h.1, h.2, List.drop_zero, Nat.sub_zero, tx.length, List.take_length]
    refine q _ H (Same.refl H) ?_
    rw [e]
    exact .tup ha tx
  · exact q _ _ (Same.new hp) (.tup upd_same (TpAll.keep (Same.tk (Same.new hp)) _ _ tx.cut))
theorem tpSlL {a : Addr} {xs : List V} {lo hi : Option Int} (ha : H a = some (.lst xs)) (tx : TpAll H xs ds) (q : ∀ r ys H', Same H H' → H r = none → H' r = some (.lst ys) → TpAll H' ys (cutG ds lo hi) → Q (.ref r) H') : rSlL K (.ref a) lo hi H Q :=
  ⟨a, xs, rfl, SqL.of ha, fun p hp => q p _ _ (Same.new hp) hp upd_same (TpAll.keep (Same.tk (Same.new hp)) _ _ tx.cut)⟩
theorem tpCat (h : Tp H v (.tuple ds)) (g : Tp H u (.tuple es)) (l : ds.length + es.length ≤ 10000) (q : ∀ r H', Same H H' → Tp H' r (.tuple (ds ++ es)) → Q r H') : rCatA K v u H Q := by
  obtain ⟨a, xs, rfl, ha, tx⟩ := Tp.inv h
  obtain ⟨b, ys, rfl, hb, ty⟩ := Tp.inv g
  refine ⟨a, b, xs, ys, rfl, rfl, SqT.of ha, SqT.of hb, by rw [tx.length, ty.length]; exact Nat.le_trans l (by decide), fun e => ?_, fun _ e => ?_, fun _ _ p hp => ?_⟩
  · have l0 := tx.length
    rw [e] at l0
    refine q _ H (Same.refl H) ?_
    rw [List.eq_nil_of_length_eq_zero l0.symm, List.nil_append]
    exact .tup hb ty
  · have l0 := ty.length
    rw [e] at l0
    refine q _ H (Same.refl H) ?_
    rw [List.eq_nil_of_length_eq_zero l0.symm, List.append_nil]
    exact .tup ha tx
  · exact q _ _ (Same.new hp) (.tup upd_same (TpAll.keep (Same.tk (Same.new hp)) _ _ (tx.app ty)))
theorem tpTup {xs : List V} (tx : TpAll H xs ds) (l : ds.length ≤ 10000) (q : ∀ r H', Same H H' → Tp H' r (.tuple ds) → Q r H') : xs.length ≤ sizeLine ∧ ∀ p, H p = none → Q (.ref p) (upd H p (.tup xs)) :=
  ⟨by rw [tx.length]; exact Nat.le_trans l (by decide), fun p hp => q _ _ (Same.new hp) (.tup upd_same (TpAll.keep (Same.tk (Same.new hp)) _ _ tx))⟩
theorem tupNew {xs : List V} {p : Addr} (hp : H p = none) (tx : TpAll H xs ds) : Same H (upd H p (.tup xs)) ∧ Tp (upd H p (.tup xs)) (.ref p) (.tuple ds) := ⟨Same.new hp, .tup upd_same (TpAll.keep (Same.tk (Same.new hp)) _ _ tx)⟩
theorem tpSet {a : Addr} {xs : List V} {i : Nat} {N : Hp → Prop} (ha : H a = some (.lst xs)) (tx : TpAll H xs ds) (hi : i < ds.length) {d : PyData} (td : Tp H v d) (q : ∀ H', H' = upd H a (.lst (xs.set i v)) → Tk H H' → TpAll H' (xs.set i v) (ds.set i d) → N H') : rSetL (.ref a) (.int (i : Int)) v H N := by
  have hl : i < xs.length := by rw [tx.length]; exact hi
  refine ⟨a, xs, _, i, rfl, rfl, ha, ?_, q _ rfl (Tk.wr ha) (TpAll.keep (Tk.wr ha) _ _ (tx.setG i td))⟩
  unfold ixN
  rw [if_pos (by omega), if_pos (by omega), Int.toNat_natCast]
end
theorem npT {σ : L2.St} {H : Hp} {Q : Option Int → Hp → Prop} (h : Q none H) : tNoPart σ H Q := h
theorem set_cut {α : Type} {l : List α} {i : Nat} {x : α} (h : i < l.length) : l.take i ++ [x] ++ l.drop (i + 1) = l.set i x := by
  rw [List.set_eq_take_append_cons_drop, if_pos h, List.append_assoc]
  rfl
/-! ### fields, records, calls with one of them otherwise -/
theorem map_setG {α β : Type} {f : α → β} {l : List α} {i : Nat} {x y : α} (h : l[i]? = some y) (e : f x = f y) : (l.set i x).map f = l.map f := by
  rw [List.map_set, e]
  have h2 : (l.map f)[i]? = some (f y) := by rw [List.getElem?_map, h]; rfl
  exact List.ext_getElem? fun j => by
    rw [List.getElem?_set]
    split
    · rename_i ej
      subst ej
      split
      · exact h2.symm
      · rename_i hn
        rw [List.getElem?_eq_none (by omega)]
    · rfl
theorem mem_setG {α : Type} {l : List α} {i : Nat} {x z : α} (h : z ∈ l.set i x) : z ∈ l ∨ z = x := List.mem_or_eq_of_mem_set h
theorem FlW.set {fl : List Fl} (h : FlW fl) {i : Nat} {f g : Fl} (hf : fl[i]? = some f) (en : g.nam = f.nam) (eu : g.num = f.num) (nk : ∀ z, g.kd.nm = some z → Nm z) : FlW (fl.set i g) := by
  have hm := List.mem_of_getElem? hf
  refine ⟨by rw [List.length_set]; exact h.l5, by rw [map_setG hf en]; exact h.nd, fun q hq => ?_, fun q hq => ?_, by rw [map_setG hf eu]; exact h.rise, fun q hq => ?_⟩
  · rcases mem_setG hq with h1 | h1
    · exact h.nm q h1
    · rw [h1, en]; exact h.nm f hm
  · rcases mem_setG hq with h1 | h1
    · exact h.nk q h1
    · rw [h1]; exact nk
  · rcases mem_setG hq with h1 | h1
    · exact h.rg q h1
    · rw [h1, eu]; exact h.rg f hm
theorem RecsW.set {recs : List Rec} (h : RecsW recs) {i : Nat} {r : Rec} (hr : recs[i]? = some r) {fl : List Fl} (hf : FlW fl) : RecsW (recs.set i (r.1, fl)) := by
  have hm := List.mem_of_getElem? hr
  refine ⟨by rw [List.length_set]; exact h.l6, by rw [map_setG (f := fun q : Rec => q.1) (x := (r.1, fl)) hr rfl]; exact h.nd, fun q hq => ?_, fun q hq => ?_⟩
  · rcases mem_setG hq with h1 | h1
    · exact h.nm q h1
    · rw [h1]; exact h.nm r hm
  · rcases mem_setG hq with h1 | h1
    · exact h.fl q h1
    · rw [h1]; exact hf
theorem CwsW.set {cws : List Cw} (h : CwsW cws) {i : Nat} {c d : Cw} (hc : cws[i]? = some c) (en : d.nam = c.nam) (eu : d.num = c.num) (hd : CwW d) : CwsW (cws.set i d) := by
  have hm := List.mem_of_getElem? hc
  refine ⟨by rw [List.length_set]; exact h.l6, by rw [map_setG hc en]; exact h.nd, fun q hq => ?_, by rw [map_setG hc eu]; exact h.rise, fun q hq => ?_⟩
  · rcases mem_setG hq with h1 | h1
    · exact h.ok q h1
    · rw [h1]; exact hd
  · rcases mem_setG hq with h1 | h1
    · exact h.rg q h1
    · rw [h1, eu]; exact h.rg c hm
theorem PtW.setR {own : Str} {age : Int} {cs : List Cho} {recs : List Rec} {cws : List Cw} (h : PtW own age cs recs cws) {i : Nat} {r : Rec} (hr : recs[i]? = some r) {fl : List Fl} (hf : FlW fl) : PtW own age cs (recs.set i (r.1, fl)) cws :=
  ⟨h.on, h.a1, h.a2, h.co, h.rc.set hr hf, h.cw, by rw [map_setG (f := fun q : Rec => q.1) (x := (r.1, fl)) hr rfl]; exact h.nd⟩
theorem PtW.setC {own : Str} {age : Int} {cs : List Cho} {recs : List Rec} {cws : List Cw} (h : PtW own age cs recs cws) {i : Nat} {c d : Cw} (hc : cws[i]? = some c) (en : d.nam = c.nam) (eu : d.num = c.num) (hd : CwW d) : PtW own age cs recs (cws.set i d) :=
  ⟨h.on, h.a1, h.a2, h.co, h.rc, h.cw.set hc en eu hd, h.nd⟩
theorem PtW.names {own : Str} {age : Int} {cs : List Cho} {recs : List Rec} {cws : List Cw} (h : PtW own age cs recs cws) : ∀ z ∈ cs.map (·.1) ++ recs.map (·.1), Nm z := fun z hz => by
  rcases List.mem_append.mp hz with hz | hz
  · obtain ⟨c, hc, rfl⟩ := List.mem_map.mp hz
    exact h.co.nm c hc
  · obtain ⟨c, hc, rfl⟩ := List.mem_map.mp hz
    exact h.rc.nm c hc
end Fh

set_option Elab.async false
set_option linter.all false
set_option maxRecDepth 100000
set_option maxHeartbeats 4000000
namespace Fh
open PySem PySem.Spec PyProof.Rows L2
/-! ### set(a list of whole numbers) -/
section
variable {P : Program} {w : World} {A : Around}
theorem ints_at9 : ∀ {us : List Value} {ns : List Int}, IntsAre us ns → ∀ (i : Nat) (v : Value), us[i]? = some v → ∃ k t, ns[i]? = some k ∧ v = .int k t
  | _, _, .nil, i, v, h => by simp at h
  | _, _, .cons _ _ q, 0, v, h => by simp at h; subst h; exact ⟨_, _, rfl, rfl⟩
  | _, _, .cons _ _ q, i + 1, v, h => by
    obtain ⟨k, t, h1, h2⟩ := ints_at9 q i v (by simpa using h)
    exact ⟨k, t, by simpa using h1, h2⟩
theorem initI {R : Value → Shared → Prop} {E : Value → Shared → Prop} {s : Shared} {S l : Addr} {items : Array Value} {ns : List Int} (hh : A.handled = none) (hl : s.heap.IsList l items) (hS : s.heap.get? S = some (noSet w))
    (hn : items.size = ns.length) (hb : ns.length + 1 < scanBound) (hk : ∀ (i : Nat) (v : Value), items[i]? = some v → ∃ k t, ns[i]? = some k ∧ v = .int k t)
    (fin : ∀ (h' : Heap) (tk c : Nat), SetR w h' S (fun j => decide (j ∈ ns)) c → c ≤ ns.length → (∀ b o, b ≠ S → s.heap.get? b = some o → h'.get? b = some o) → R .none { s with heap := h', toks := tk }) :
    codeAny (model P w) A (.call (.builtin "set.__init__") ⟨[.ref S, .ref l], []⟩) (wants R E) s := by
  refine codeAny_call_builtin F.called_set.init.plain F.entry_set_init (check_set_init_1 ⟨_, hS, rfl⟩ ?_)
  have hl0 := hl
  obtain ⟨⟨oc, od, odt, osl⟩, hol, hcl, nl, hdl⟩ := hl
  dsimp only at hcl hdl
  subst hcl
  subst hdl
  have q1 := F.sub_list_set
  have q2 := F.sub_list_frozenset
  have q3 : (Value.type "list" == Value.type "dict") = false := by decide
  have lS : l ≠ S := fun e => by
    rw [e, hS] at hol
    have c := congrArg Obj.cls (Option.some.inj hol)
    exact absurd (show Value.type "set" = Value.type "list" from c) (by decide)
  unfold Builtin.«set.__init__» noKeywords Builtin.Frozenset.updateFrom
  generalize hit : pyIter = it
  wp_walk
  subst hit
  refine wpAny_pyIter_list hl0 (wpAny_bind (wpAny_runValue ?_))
  have n1 : l ≠ s.heap.objs.size := Nat.ne_of_lt (Heap.lt_size hol)
  have n2 : S ≠ s.heap.objs.size := Nat.ne_of_lt (Heap.lt_size hS)
  have h3 : A.in1.in1.handled = none := by simp [hh]
  have keep : ∀ {b : Addr} {o : Obj}, s.heap.get? b = some o → (s.heap.push { cls := .type "list_iterator", data := .fields #[.ref l, .int 0 0] }).get? b = some o := fun e => Heap.get?_push_of_some _ e
  have W := (Walks.list (prog := P) (w := w) h3 s.heap.objs.size l n1 items).toS
  refine set_update_ints W S (by simp [n2, lS.symm]) ns hn hb hk (items.size - 0) 0 { s with heap := s.heap.push { cls := .type "list_iterator", data := .fields #[.ref l, .int 0 0] } } rfl (Nat.zero_le _) ⟨⟨_, Heap.get?_push_size _ rfl, rfl, rfl⟩, hl0.push _⟩ ⟨0, Nat.le_refl _, setR_new_at (keep hS)⟩ (fun s' c mv cl so => ?_)
  obtain ⟨h', g', d', tk', os'⟩ := s'
  have eg : g' = s.gens := mv.gens
  have ed : d' = s.drawn := mv.drawn
  have eo : os' = s.os := mv.os
  subst eg
  subst ed
  subst eo
  exact wpAny_pure (wpAny_pure (fin h' tk' c so (by omega) fun b o nb e => mv.heap b o (by simp only [List.mem_cons, List.not_mem_nil, or_false, not_or]; exact ⟨nb, Nat.ne_of_lt (Heap.lt_size e)⟩) (keep e)))
theorem call_setI {E : Value → Shared → Prop} {s : Shared} {l : Addr} {items : Array Value} {ns : List Int} {Q : Value → Shared → Prop} (hh : A.handled = none) (hl : s.heap.IsList l items) (hn : items.size = ns.length) (hb : ns.length + 1 < scanBound) (hk : ∀ (i : Nat) (v : Value), items[i]? = some v → ∃ k t, ns[i]? = some k ∧ v = .int k t)
    (h : ∀ (h' : Heap) (tk c : Nat), SetR w h' s.heap.objs.size (fun j => decide (j ∈ ns)) c → c ≤ ns.length → (∀ b o, s.heap.get? b = some o → h'.get? b = some o) → Q (.ref s.heap.objs.size) { s with heap := h', toks := tk }) : wpAny (model P w) A (call (.type "set") [.ref l]) Q E s := by
  obtain ⟨c, tl, m1⟩ := F.called_set.mro
  have m2 := F.called_set.made
  have m3 := F.called_set.sub
  have m4 := F.called_set.notType
  have m5 := F.called_set.canCreate
  have m6 := F.typeCall_set_1 (.ref l)
  refine wpAny_call (codeAny_of_tree (wpAny_pure ⟨Code.quiet_builtin _ (by decide +kernel), codeAny_builtin F.entry_type_call ?_⟩))
  rw [Around.under_plain (weight_type_call_type "set" [.ref l] []) rfl]
  repeat (any_goals (first | assumption | wp_step))
  refine codeAny_mono (code_set_led1 (.ref l) (E := E) (Q₁ := fun v s1 => v = .ref s.heap.objs.size ∧ s1 = { s with heap := s.heap.push (noSet w) }) ⟨rfl, rfl⟩) fun r s1 hr => ?_
  rcases r with e | fl
  · exact hr
  · cases fl with
    | ret obj =>
      obtain ⟨rfl, rfl⟩ := hr
      have at0 : (s.heap.push (noSet w)).get? s.heap.objs.size = some (noSet w) := Heap.get?_push_size _ rfl
      have ty0 : Shared.TypeIs { s with heap := s.heap.push (noSet w) } (.ref s.heap.objs.size) "set" := ⟨_, at0, rfl⟩
      have i1 := F.called_set.init.lookup
      have i2 := F.called_set.init.bind (.ref s.heap.objs.size)
      repeat (any_goals (first | assumption | wp_step))
      refine codeAny_mono (initI (ns := ns) (E := E) (R := fun v s2 => v = .none ∧ ∃ h' tk c, s2 = { s with heap := h', toks := tk } ∧ SetR w h' s.heap.objs.size (fun j => decide (j ∈ ns)) c ∧ c ≤ ns.length ∧ ∀ b o, s.heap.get? b = some o → h'.get? b = some o) (by simp [hh]) (hl.push _) at0 hn hb hk fun h' tk c so cl keep => ⟨rfl, h', tk, c, rfl, so, cl, fun b o e => keep b o (Nat.ne_of_lt (Heap.lt_size e)) (Heap.get?_push_of_some _ e)⟩) fun r2 s2 hr2 => ?_
      rcases r2 with e | fl2
      · exact hr2
      · cases fl2 with
        | ret v =>
          obtain ⟨rfl, h', tk, c, rfl, so, cl, keep⟩ := hr2
          repeat (any_goals (first | assumption | wp_step))
          exact h h' tk c so cl keep
        | _ => exact hr2.elim
    | _ => exact hr.elim
end
def rSetI9 (K : PySem.W.Frag) (w : World) : List V → Hp → VK → Prop := fun xs H Q => ∃ (l : Addr) (ns : List Int), xs = [V.ref l] ∧ SqL K H l (ns.map V.int) ∧ ns.length < 60 ∧
  ∀ (a : Addr) (c : Nat), H a = none → c ≤ ns.length → Q (.ref a) (upd H a (SetO w a (fun j => decide (j ∈ ns)) c))
theorem cr_setI9 {X : Cx} (hc : X.calm = true) : CallR X (.type "set") (rSetI9 X.K X.w) := by
  intro pins s σ H xs us Q I r h
  obtain ⟨l, ns, rfl, hl, few, q⟩ := h
  rw [Vals.ref1 r]
  obtain ⟨its, rv, pl, hz⟩ := I.list hl
  have hn : H s.heap.objs.size = none := I.hok.fresh (Nat.le_refl _)
  have li : its.length = ns.length := by rw [← rv.length, List.length_map]
  refine call_setI (P := X.prog) (w := X.w) (ns := ns) (I.ok.hd hc) pl.isList (by simp [li]) (by unfold scanBound; omega) (fun i v hv => ints_at9 (intsAre_of rv) i v (by simpa using hv)) fun h' tk c so cl k => ?_
  exact ⟨.ref s.heap.objs.size, upd H s.heap.objs.size (SetO X.w s.heap.objs.size (fun j => decide (j ∈ ns)) c), I.laid (t' := tk) k (Nat.le_refl _) (setO_new so), rfl, q _ c hn cl⟩
end Fh

set_option Elab.async false
set_option linter.all false
set_option maxRecDepth 100000
set_option maxHeartbeats 4000000
namespace Fh
open PySem L2 PyProof.Rows
theorem hup {p a : Addr} {o u : HO} {H : Hp} (hp : H p = none) (e : H a = some u) : (upd H p o) a = some u := by rw [upd_ne (ne_of_none e hp)]; exact e
theorem ints_at {ns : List Int} {i : Nat} {x : V} (h : (ns.map V.int)[i]? = some x) : ∃ z, ns[i]? = some z ∧ x = .int z := by
  rw [List.getElem?_map] at h
  cases e : ns[i]? with
  | none => rw [e] at h; cases h
  | some z => rw [e] at h; exact ⟨z, rfl, (Option.some.inj h).symm⟩
def rInt1 : List V → Hp → (V → Hp → Prop) → Prop := fun xs H Q => (∃ i, xs = [.int i] ∧ Q (.int i) H) ∨ ∃ k, xs = [.bl k] ∧ Q (.int (if k = true then 1 else 0)) H
theorem call_intK {X : Cx} : CallR X (.type "int") rInt1 := call_int1
abbrev sNum9 : Stmt := top 41
abbrev sPlk : Stmt := top 42
abbrev sDrk : Stmt := top 43
abbrev nNum9 : List Str := ["_law_bag_here", "_law_size", "_law_found", "_law_spot", "_law_rest", "_law_one", "_law_risen"]
abbrev nPlk : List Str := ["_law_bag_here", "_law_one"]
abbrev nDrk : List Str := ["_law_bag_here", "_law_picks_here", "_law_words", "_law_way", "_law_kind"]
abbrev pTk9 : List Str := ["_law_bag_here", "_law_size"]
theorem in_ints9 (z : Int) (zs : List Int) : inV (.int z) (zs.map V.int) = decide (z ∈ zs) := by
  unfold inV
  rw [List.any_map]
  by_cases h : z ∈ zs
  · rw [decide_eq_true h, List.any_eq_true]
    exact ⟨z, h, by simp [eqV]⟩
  · rw [decide_eq_false h, List.any_eq_false]
    intro y hy e
    simp [eqV] at e
    exact h (e ▸ hy)
theorem flat_ints9 (zs : List Int) : (zs.map V.int).all flatV = true := by
  rw [List.all_eq_true]
  intro x hx
  obtain ⟨z, _, rfl⟩ := List.mem_map.mp hx
  rfl
/-- the first n of 1, 2, .. that are not in ns -/
def rest9 (ns : List Int) (n : Nat) : List Int := ((List.range n).map fun i : Nat => 1 + (i : Int)).filter fun x => decide (x ∉ ns)
theorem rest9_succ (ns : List Int) (n : Nat) : rest9 ns (n + 1) = rest9 ns n ++ (if 1 + (n : Int) ∈ ns then [] else [1 + (n : Int)]) := by
  unfold rest9
  rw [List.range_succ, List.map_append, List.filter_append]
  congr 1
  show [1 + (n : Int)].filter _ = _
  by_cases h : 1 + (n : Int) ∈ ns
  · rw [if_pos h, List.filter_cons_of_neg (by simpa using h)]
    rfl
  · rw [if_neg h, List.filter_cons_of_pos (by simpa using h)]
    rfl
theorem rest9_len (ns : List Int) (n : Nat) : (rest9 ns n).length ≤ n := Nat.le_trans (List.length_filter_le _ _) (by rw [List.length_map, List.length_range]; exact Nat.le_refl _)
theorem rest9_all (ns rs : List Int) (h : ∀ x, x ∈ ns → x ∈ rs) : 30 ≤ rs.length + (rest9 ns 30).length := by
  have nd : ((List.range 30).map fun i : Nat => 1 + (i : Int)).Nodup := by decide
  have := sub_len _ (rs ++ rest9 ns 30) nd fun x hx => by
    by_cases m : x ∈ ns
    · exact List.mem_append_left _ (h x m)
    · exact List.mem_append_right _ (List.mem_filter.mpr ⟨hx, decide_eq_true m⟩)
  rw [List.length_map, List.length_range, List.length_append] at this
  exact this
theorem rest9_nd (ns : List Int) (n : Nat) : (rest9 ns n).Nodup := by
  unfold rest9
  refine List.Nodup.sublist List.filter_sublist ?_
  exact List.pairwise_map.mpr (List.nodup_range.imp fun {a b} e h => e (by omega))
theorem rest9_in {ns : List Int} {n : Nat} {x : Int} (h : x ∈ rest9 ns n) : x ∉ ns ∧ 1 ≤ x ∧ x ≤ n := by
  unfold rest9 at h
  obtain ⟨h1, h2⟩ := List.mem_filter.mp h
  obtain ⟨i, hi, rfl⟩ := List.mem_map.mp h1
  have := List.mem_range.mp hi
  exact ⟨of_decide_eq_true h2, by omega, by omega⟩
theorem cutV_ints (xs : List Int) (k : Int) (h : 0 ≤ k) : ∃ ys : List Int, cutV (xs.map V.int) none (some k) = ys.map V.int ∧ ys.length = min k.toNat xs.length ∧ ys.Sublist xs := by
  refine ⟨(xs.drop (HT.sIx (xs.map V.int).length 0 none)).take (HT.sIx (xs.map V.int).length (xs.map V.int).length (some k) - HT.sIx (xs.map V.int).length 0 none), ?_, ?_, (List.take_sublist _ _).trans (List.drop_sublist _ _)⟩
  · unfold cutV
    rw [List.map_take, List.map_drop]
  · have e0 : HT.sIx (xs.map V.int).length 0 none = 0 := rfl
    have e1 : HT.sIx (xs.map V.int).length (xs.map V.int).length (some k) = min k.toNat xs.length := by
      have := HT.sIx_nat (xs.map V.int).length (xs.map V.int).length k.toNat
      rw [show ((k.toNat : Nat) : Int) = k by omega] at this
      rw [this, List.length_map]
      all_goals omega
    rw [e0, e1, List.drop_zero, List.length_take]
    omega
def spNum9 : Sp := fun vs H Q _ => ∃ (b : Addr) (size : Int) (n : Nat), vs = [.ref b, .int size] ∧ Bag H b n ∧ 0 ≤ size ∧ size ≤ 12 ∧ n + 100 ≤ most ∧
  ∀ (p : Addr) (ns : List Int) (H' : Hp), H p = none → H' p = some (.lst (ns.map V.int)) → (ns.length : Int) = size → ns.Pairwise (· < ·) → (∀ x ∈ ns, 1 ≤ x ∧ x ≤ 30) → Kp b H H' → Bag H' b (n + 30) → Q (.ref p) H'
/-- kinds that a field of an ask may have -/
def Gb9 (cs : List Str) : Kb → Prop
  | .rc _ => False
  | .ch c => c ∈ cs
  | _ => True
def GK9 (cs : List Str) : Kn → Prop
  | .one b => Gb9 cs b
  | .lst b => Gb9 cs b
theorem GK9.mono {k : Kn} {cs : List Str} (h : GK9 [] k) : GK9 cs k := by
  cases k with
  | one b => cases b with
    | rc _ => exact h.elim
    | ch _ => cases h
    | _ => exact True.intro
  | lst b => cases b with
    | rc _ => exact h.elim
    | ch _ => cases h
    | _ => exact True.intro
def spPlk : Sp := fun vs H Q _ => ∃ (b : Addr) (n : Nat), vs = [.ref b] ∧ Bag H b n ∧ n + 10 ≤ most ∧ ∀ (kv : V) (k : Kn) (H' : Hp), Tp H' kv k.d → GK9 [] k → Kp b H H' → Bag H' b (n + 2) → Q kv H'
def spDrk : Sp := fun vs H Q _ => ∃ (b p w : Addr) (n : Nat) (pv : List V) (cs : List (Str × PyData)), vs = [.ref b, .ref p, .ref w] ∧ Bag H b n ∧ n + 20 ≤ most ∧ H p = some (.lst pv) ∧ p ≠ b ∧ TpAll H pv (cs.map fun r => .tuple [.str r.1, r.2]) ∧ cs.length ≤ 10 ∧ H w = some (.lst []) ∧ w ≠ b ∧
  ∀ (kv : V) (k : Kn) (H' : Hp), Tp H' kv k.d → GK9 (cs.map Prod.fst) k → Kp b H H' → Bag H' b (n + 6) → Q kv H'
section
variable {P : Program} {w : World} {K : PySem.W.Frag} {mg : Str → Option Value} {base : Heap}
theorem scPlk : FnScope nPlk ["_law_bag_here"] (defScope sPlk) := ⟨rfl, rfl, rfl, by decide +kernel, rfl, by decide +kernel, by decide +kernel⟩
theorem ok_plk {f : Addr} {fd : FuncData} (F : Fun K "_law_plain_kind" "_law_plain_kind" sPlk f fd) (DT : Has P w K mg base "_law_take" 1 pTk9 spTake) : FnOk P w K mg base CX0 2 f fd ["_law_bag_here"] spPlk := by
  refine F.ok scPlk (fun vs H Q E h => ?_) (fun cdv A outer s H vs Q E hr h => ?_)
  · obtain ⟨b, n, rfl, _⟩ := h
    rfl
  · obtain ⟨b, n, rfl, hB, hn, q⟩ := h
    have hm : most = 1000000 := rfl
    refine ⟨_, (pss_cons (ps_set (i := 1) scPlk.nd rfl (Or.inl rfl) (pe_ix ix_list (pe_lst (pa_cons pe_str (pa_cons pe_str (pa_cons pe_str (pa_cons pe_str (pa_cons pe_str pa_nil)))))) (pe_has DT (hr.mono (by omega)) rfl (pa_cons (pv 0) (pa_cons pe_int pa_nil))) (fun _ _ => rfl)))
      (pss_one (ps_ret (pe_ifExp (pt_cmpR op_eq (pe_has DT (hr.mono (by omega)) rfl (pa_cons (pv 0) (pa_cons pe_int pa_nil))) pe_int (nomark _)) (pe_tup (pa_cons pe_str (pa_cons (pv 1) pa_nil))) (pv 1))))), ?_⟩
    refine ⟨(by show 5 ≤ sizeLine; decide), fun l1 hl1 => ?_⟩
    have nl1 : l1 ≠ b := new_ne hl1 hB
    refine ⟨_, rfl, b, 5, n, rfl, by decide, by decide, hB.new hl1, by omega, fun d0 H1 d00 d01 k1 b1 => ?_⟩
    have hl1' := k1 _ _ nl1 upd_same
    have K1 : Kp b H H1 := (Kp.refl.new hl1).trans k1
    have pick : ∃ k0 : Kb, atI [V.str "whole", .str "truth", .str "text", .str "whole", .str "text"] d0 = some (.str k0.word) ∧ Gb9 [] k0 ∧ k0.d = .str k0.word := by
      rcases (by omega : d0 = 0 ∨ d0 = 1 ∨ d0 = 2 ∨ d0 = 3 ∨ d0 = 4) with rfl | rfl | rfl | rfl | rfl
      · exact ⟨.whole, rfl, trivial, rfl⟩
      · exact ⟨.truth, rfl, trivial, rfl⟩
      · exact ⟨.text, rfl, trivial, rfl⟩
      · exact ⟨.whole, rfl, trivial, rfl⟩
      · exact ⟨.text, rfl, trivial, rfl⟩
    obtain ⟨k0, e0, g0, dk0⟩ := pick
    refine ⟨l1, _, _, _, rfl, rfl, SqL.of hl1', e0, ?_⟩
    refine ⟨_, rfl, b, 5, n + 1, rfl, by decide, by decide, b1, by omega, fun d1 H2 d10 d11 k2 b2 => ?_⟩
    have K2 : Kp b H H2 := K1.trans k2
    refine ⟨rfl, _, rfl, ite2 (fun _ => ?_) (fun _ => ?_)⟩
    · refine ⟨_, rfl, (by show 2 ≤ sizeLine; decide), fun t ht => ?_⟩
      refine q (.ref t) (.lst k0) _ (.tup upd_same (.cons (.str _) (.cons ?_ .nil))) g0 (K2.new ht) (b2.new ht)
      rw [dk0]
      exact .str _
    · refine ⟨_, rfl, q _ (.one k0) _ ?_ g0 K2 b2⟩
      show Tp H2 _ k0.d
      rw [dk0]
      exact .str _
theorem scNum9 : FnScope nNum9 pTk9 (defScope sNum9) := ⟨rfl, rfl, rfl, by decide +kernel, rfl, by decide +kernel, by decide +kernel⟩
theorem ok_num9 {f : Addr} {fd : FuncData} (F : Fun K "_law_numbers" "_law_numbers" sNum9 f fd) (G : Glb mg) (DT : Has P w K mg base "_law_take" 1 pTk9 spTake) : FnOk P w K mg base CX0 2 f fd pTk9 spNum9 := by
  refine F.ok scNum9 (fun vs H Q E h => ?_) (fun cdv A outer s H vs Q E hr h => ?_)
  · obtain ⟨b, size, n, rfl, _⟩ := h
    rfl
  · obtain ⟨b, size, n, rfl, hB, s0, s1, hn, q⟩ := h
    have hm : most = 1000000 := rfl
    refine ⟨_, (pss_cons (ps_set (i := 2) scNum9.nd rfl (Or.inr rfl) (pe_lc (own := [("_law_spot", 3)]) (g := (gName 3)) (tt := tYes) (te := tOp (rI0 fun i j => .int (i + j)) (tC (.int 1)) (tCall spTake [] E0 (tCons (tVar 0) (tCons (tMid (tOp (rIxL K) (tLst (tCons (tC (.int 12)) (tCons (tC (.int 30)) tNil))) (tCB rInt1 (tCons (tOp rEq (tCall spTake [] E0 (tCons (tVar 0) (tCons (tC (.int 4)) tNil))) (tC (.int 0))) tNil)))) tNil)))) rfl scNum9.nd (pi_range1 rfl G.range (pa_cons (pv 1) pa_nil)) (blkOk_by (N := nNum9) (sc := defScope sNum9) (by decide +kernel)) (fun _ _ _ _ _ => (pg_name (i := 3) scNum9.nd rfl (Or.inl rfl))) (fun _ _ _ _ _ => pts_nil) (fun _ _ _ _ _ => (pe_op op_add pe_int (pe_has DT (hr.mono (by omega)) rfl (pa_cons (pv 0) (pa_cons (pe_mid (pe_ix ix_list (pe_lst (pa_cons pe_int (pa_cons pe_int pa_nil))) (pe_callTy call_intK (by rfl) G.int (by decide +kernel) (pa_cons (pe_cmpR op_eq (pe_has DT (hr.mono (by omega)) rfl (pa_cons (pv 0) (pa_cons pe_int pa_nil))) pe_int (nomark _)) pa_nil)) (fun _ _ => rfl))) pa_nil)))))))
      (pss_cons (ps_setLc (i := 4) (own := [("_law_one", 5)]) (g := (gName 5)) (tt := tTest (tOp (rIn K true) (tVar 5) (tVar 2))) (te := tVar 5) rfl scNum9.nd rfl rfl (sw_true rfl rfl rfl (by decide +kernel)) (pi_range2 rfl G.range (pa_cons pe_int (pa_cons pe_int pa_nil))) (blkOk_by (N := nNum9) (sc := defScope sNum9) (by decide +kernel)) (fun _ _ _ _ _ => (pg_name (i := 5) scNum9.nd rfl (Or.inl rfl))) (fun _ _ _ _ _ => pts_one (pt_cmpR op_notIn_seq (pv 5) (pv 2) rfl)) (fun _ _ _ _ _ => (pv 5)))
      (pss_cons (ps_set (i := 6) scNum9.nd rfl (Or.inl rfl) (pe_callB (cr_sortedSet rfl) (by rfl) G.sorted (by decide +kernel) (pa_cons (pe_callTy (cr_setI9 rfl) (by rfl) G.set (by decide +kernel) (pa_cons (pv 2) pa_nil)) pa_nil)))
      (pss_one (ps_ret (pe_callB cr_sorted (by rfl) G.sorted (by decide +kernel) (pa_cons (pe_op op_cat (pv 6) (pe_slice sl_list (pv 4) po_none (po_some (pe_op op_sub (pv 1) (pe_callB call_len_seq (by rfl) G.len (by decide +kernel) (pa_cons (pv 6) pa_nil)))))) pa_nil))))))), ?_⟩
    refine ⟨_, rfl, size, rfl, by omega, by omega, fun D hD => ?_⟩
    have nDb : D ≠ b := new_ne hD hB
    refine lc_range (lo := 0) (n := size.toNat) (fun i H3 => Kp b H H3 ∧ Bag H3 b (n + 2 * i) ∧ ∃ ns : List Int, H3 D = some (.lst (ns.map V.int)) ∧ ns.length = i ∧ ∀ x ∈ ns, 1 ≤ x ∧ x ≤ 30) ?_ ?_ ?_
    · exact ⟨Kp.refl.new hD, hB.new hD, [], upd_same, rfl, fun x h => nomatch h⟩
    · rintro i H3 hi ⟨K3, B3, ns, h3, ln, rg⟩
      refine ⟨rfl, yes (iteT ?_)⟩
      refine ⟨_, rfl, fun v H4 => ∃ m : Int, v = .int m ∧ 1 ≤ m ∧ m ≤ 30 ∧ Kp b H3 H4 ∧ Bag H4 b (n + 2 * i + 1), ?_, ?_⟩
      · refine ⟨(by show 2 ≤ sizeLine; decide), fun q hq => ?_⟩
        refine ⟨_, rfl, b, 4, n + 2 * i, rfl, by decide, by decide, B3.new hq, by omega, fun d H4 d0 d1 K4 B4 => ?_⟩
        have nqb : q ≠ b := new_ne hq B3
        have hq4 := K4 q _ nqb upd_same
        have kp4 : Kp b H3 H4 := (Kp.refl.new hq).trans K4
        refine ⟨rfl, .inr ⟨_, rfl, ?_⟩⟩
        cases decide (V.int d = V.int 0) with
        | true => exact ⟨q, _, _, _, rfl, rfl, SqL.of hq4, rfl, 30, rfl, by decide, by decide, kp4, B4⟩
        | false => exact ⟨q, _, _, _, rfl, rfl, SqL.of hq4, rfl, 12, rfl, by decide, by decide, kp4, B4⟩
      · rintro v H4 ⟨m, rfl, m0, m1, K4, B4⟩
        refine ⟨b, m, _, rfl, by omega, by omega, B4, by omega, fun d H5 d0 d1 K5 B5 => ?_⟩
        refine ⟨_, _, rfl, rfl, ?_⟩
        have h5 := K5 D _ nDb (K4 D _ nDb h3)
        refine ⟨_, h5, ?_, ((K3.trans K4).trans K5).wr hD, (B5.mono (by omega)).ne nDb, ns ++ [1 + d], ?_, by rw [List.length_append, ln]; rfl, fun x hx => ?_⟩
        · rw [List.length_map, ln]
          exact Nat.lt_trans (show i < 12 by omega) (by decide)
        · rw [upd_same, List.map_append]
          rfl
        · rcases List.mem_append.mp hx with h | h
          · exact rg x h
          · rw [List.mem_singleton.mp h]
            omega
    rintro H3 ⟨K3, B3, ns, h3, ln, rg⟩
    refine ⟨1, 31, rfl, ⟨by decide, by decide, by decide, by decide⟩, fun R hR => ?_⟩
    have nRb : R ≠ b := new_ne hR B3
    refine lc_range (lo := 1) (n := 30) (fun j H6 => Same H3 H6 ∧ H6 R = some (.lst ((rest9 ns j).map V.int))) ?_ ?_ ?_
    · exact ⟨Same.new hR, upd_same⟩
    · rintro j H6 hj ⟨S6, h6⟩
      refine ⟨rfl, ?_⟩
      refine ⟨_, rfl, _, rfl, D, _, rfl, .inl (SqL.of (S6 _ _ h3)), rfl, flat_ints9 _, _, rfl, ?_⟩
      rw [in_ints9]
      refine ite2 (fun hh => ?_) (fun hh => ?_)
      · have ho : (1 + (j : Int)) ∉ ns := fun m => by
          rw [decide_eq_true m] at hh
          cases hh
        refine ⟨_, rfl, _, h6, ?_, Same.wr S6 hR, ?_⟩
        · rw [List.length_map]
          exact Nat.lt_of_le_of_lt (rest9_len _ _) (Nat.lt_of_lt_of_le hj (by decide))
        · rw [upd_same, rest9_succ, if_neg ho, List.map_append]
          rfl
      · have hin : (1 + (j : Int)) ∈ ns := Classical.byContradiction fun m => hh (by rw [decide_eq_false m]; rfl)
        refine ⟨S6, ?_⟩
        rw [rest9_succ, if_pos hin, List.append_nil]
        exact h6
    rintro H6 ⟨S6, h6⟩
    have h63 := S6 _ _ h3
    refine ⟨_, rfl, D, ns, rfl, SqL.of h63, by omega, fun sa c hsa hc => ?_⟩
    refine ⟨sa, _, c, rfl, upd_same, by omega, fun rs p1 up mem lrs hp1 => ?_⟩
    have S8 := Same.new (o := .lst (rs.map V.int)) hp1
    have S9 := (Same.new hsa).trans S8
    have h8R := S9 _ _ h6
    have h81 : ∀ {G : Hp}, (upd G p1 (.lst (rs.map V.int))) p1 = some (.lst (rs.map V.int)) := upd_same
    have all30 := rest9_all ns rs fun x hx => (mem x).mpr (decide_eq_true hx)
    have lr : (rs.length : Int) ≤ size := by omega
    obtain ⟨ys, ey, ly, sub⟩ := cutV_ints (rest9 ns 30) (size - (rs.length : Int)) (by omega)
    refine ⟨_, rfl, _, rfl, _, rfl, _, rfl, p1, _, rfl, .inl (SqL.of h81), _, _, rfl, rfl, ?_⟩
    rw [List.length_map]
    refine ⟨_, rfl, R, _, rfl, SqL.of h8R, fun u hu => ?_⟩
    rw [ey]
    refine ⟨p1, u, _, _, rfl, rfl, hup hu h81, upd_same, ?_, fun x hx => ?_⟩
    · rw [List.length_map, List.length_map]
      exact Nat.le_trans (show rs.length + ys.length ≤ 24 by omega) (by decide)
    rw [← List.map_append]
    refine ⟨x, rs ++ ys, rfl, SqL.of upd_same, by rw [List.length_append]; omega, fun zs pz perm le hpz => ?_⟩
    have ndy : ys.Nodup := (rest9_nd ns 30).sublist sub
    have mrg : ∀ x ∈ rs, 1 ≤ x ∧ x ≤ 30 := fun x hx => rg x (of_decide_eq_true ((mem x).mp hx))
    have myg : ∀ x ∈ ys, x ∉ ns ∧ 1 ≤ x ∧ x ≤ 30 := fun x hx => by have := rest9_in (sub.subset hx); exact ⟨this.1, this.2.1, by have := this.2.2; omega⟩
    have ndz : zs.Nodup := perm.nodup_iff.mpr (List.nodup_append.mpr ⟨up.imp (fun h => Int.ne_of_lt h), ndy, fun x hx y hy e => (myg y hy).1 (e ▸ of_decide_eq_true ((mem x).mp hx))⟩)
    have SH := S6.trans S9
    have Su := Same.new (o := .lst (ys.map V.int)) hu
    have Sx := Same.new (o := .lst ((rs ++ ys).map V.int)) hx
    have SF := (SH.trans (Su.trans Sx)).trans (Same.new (o := .lst (zs.map V.int)) hpz)
    refine q pz zs _ ?_ upd_same ?_ ((le.and ndz).imp fun h => Int.lt_iff_le_and_ne.mpr h) (fun x hx => ?_) (K3.same SF) ((B3.same SF).mono (by omega))
    · exact K3.free B3.at ((SH.trans (Su.trans Sx)).free hpz)
    · rw [perm.length_eq, List.length_append]
      omega
    · rcases List.mem_append.mp (perm.mem_iff.mp hx) with h | h
      · exact mrg x h
      · exact (myg x h).2
end
end Fh

set_option Elab.async false
set_option linter.all false
set_option maxRecDepth 100000
set_option maxHeartbeats 4000000
namespace Fh
open PySem PySem.Spec PyProof.Rows L2
/-! ### list(zip(a, b)) of two lists of one length -/
section
variable {prog : Program} {w : World} {A : Around} {E : Value → Shared → Prop} {s : Shared} {z TI TO i1 i2 l1 l2 : Addr} {xs ys : Array Value}
theorem call_list_zip {Q : Value → Shared → Prop} (hA : A.handled = none) (D : ZipApart z TI TO i1 i2 l1 l2) (hsz : xs.size = ys.size) (hn : xs.size < sizeLine)
    (ti : PySem.IsPair s.heap TI (.ref i1) (.ref i2)) (a1 : s.heap.IsListIter i1 l1 0) (a2 : s.heap.IsListIter i2 l2 0) (b1 : s.heap.IsList l1 xs) (b2 : s.heap.IsList l2 ys) (hz : IsZip s.heap z TI TO .none) (tt : ∃ a b, PySem.IsPair s.heap TO a b)
    (hQ : ∀ (h' : Heap) (ps : List Addr) (c : Nat), (∀ b ob, b ∉ [z, TO, i1, i2] → s.heap.get? b = some ob → h'.get? b = some ob) → h'.get? s.heap.objs.size = some (lstO ps c) → ps.length = xs.size → ps.Nodup → Outs h' xs ys [] ps → (∀ p ∈ ps, s.heap.objs.size < p) → Q (.ref s.heap.objs.size) { s with heap := h' }) :
    wpAny (model prog w) A (call (.type "list") [.ref z]) Q E s := by
  have lt : ∀ {c ob}, s.heap.get? c = some ob → s.heap.objs.size ≠ c := fun e => Nat.ne_of_gt (Heap.lt_size e)
  have o : OffS s.heap.objs.size z TI TO i1 i2 l1 l2 := ⟨lt hz, lt ti, let ⟨_, _, q⟩ := tt; lt q, let ⟨_, e, _⟩ := a1; lt e, let ⟨_, e, _⟩ := a2; lt e, let ⟨_, e, _⟩ := b1; lt e, let ⟨_, e, _⟩ := b2; lt e⟩
  have hT1 : ({ s with heap := s.heap.push emptyL } : Shared).TypeIs (.ref z) "zip" := ⟨_, Heap.get?_push_of_some _ hz, rfl⟩
  have t0 : (s.heap.push emptyL).get? s.heap.objs.size = some emptyL := Heap.get?_push_size _ rfl
  refine callType_codes (Q₁ := fun obj s₁ => obj = .ref s.heap.objs.size ∧ s₁ = { s with heap := s.heap.push emptyL }) F.called_list (F.typeCall_list_1 _) F.entry_list_init (code_list_new _ ⟨rfl, rfl⟩) fun obj s₁ h₁ => ?_
  obtain ⟨rfl, rfl⟩ := h₁
  refine ⟨⟨_, t0, rfl⟩, F.args_list_init_2 _ _, ?_⟩
  show wpAny _ A.in1.in1 (Builtin.List.listItems (.ref s.heap.objs.size) >>= fun old => Builtin.List.listUpdate (.ref s.heap.objs.size) (fun _ => #[]) >>= fun _ => letGo old.toList.reverse >>= fun _ => Builtin.List.listExtendWith (.ref s.heap.objs.size) (.ref z) .none) _ _ { s with heap := s.heap.push emptyL }
  refine wpAny_bind ?_
  unfold Builtin.List.listItems
  refine wpAny_bind (wpAny_seqItems (s := { s with heap := s.heap.push emptyL }) t0 rfl (wpAny_pure ?_))
  refine wpAny_bind (m := updateSeq s.heap.objs.size (fun _ => #[])) (wpAny_updateSeq (s := { s with heap := s.heap.push emptyL }) t0 rfl ?_)
  have t1 := Heap.get?_update_self (Obj.mapSeq (fun _ => (#[] : Array Value))) t0 rfl
  have oth0 : ∀ b ob, b ≠ s.heap.objs.size → s.heap.get? b = some ob → ((s.heap.push emptyL).update s.heap.objs.size (Obj.mapSeq (fun _ => (#[] : Array Value)))).get? b = some ob := fun b ob hb e => (Heap.get?_update_other _ _ (Ne.symm hb)).trans (Heap.get?_push_of_some _ e)
  have sz0 : ((s.heap.push emptyL).update s.heap.objs.size (Obj.mapSeq (fun _ => (#[] : Array Value)))).objs.size = s.heap.objs.size + 1 := by simp
  generalize (s.heap.push emptyL).update s.heap.objs.size (Obj.mapSeq (fun _ => (#[] : Array Value))) = hp0 at *
  refine wpAny_bind (wpAny_letGo ?_)
  have hT2 : ({ s with heap := hp0 } : Shared).TypeIs (.ref z) "zip" := ⟨_, oth0 _ _ o.z.symm hz, rfl⟩
  unfold Builtin.List.listExtendWith
  refine wpAny_bind (wpAny_typeOf hT2 ?_)
  have g1 : Builtin.List.listSameRef (.ref s.heap.objs.size) (.ref z) = false := by simp [Builtin.List.listSameRef, o.z]
  have g2 : (Value.type "zip" == Value.type "list") = false := by decide
  have g3 : (Value.type "zip" == Value.type "tuple") = false := by decide
  simp only [g1, g2, g3, Bool.or_false, Bool.false_eq_true, if_false]
  refine wpAny_bind (wpAny_pyIter_zip (s := { s with heap := hp0 }) (oth0 _ _ o.z.symm hz) ?_)
  (refine wpAny_bind (wpAny_holding ?_); unfold Builtin.List.listLengthHint; refine wpAny_bind (wpAny_specialOf hT2 zip_nolen ?_))
  (show wpAny _ A.in1.in1 (specialOf (Value.ref z) (Str.ofString "__length_hint__") >>= _) _ _ _; refine wpAny_bind (wpAny_specialOf hT2 zip_nohint ?_); refine wpAny_pure ?_)
  show wpAny _ A.in1.in1 (rule "list.extend.makes-room" >>= fun _ => Builtin.List.listTouch (.ref s.heap.objs.size) >>= fun _ => again (.builtin "list.extend.loop" ⟨[.ref s.heap.objs.size, .ref z, .none], []⟩)) _ _ _
  refine wpAny_bind (wpAny_rule ?_)
  refine wpAny_bind ?_
  show wpAny _ A.in1.in1 (updateSeq s.heap.objs.size (·.push .none) >>= fun _ => updateSeq s.heap.objs.size (·.pop)) _ _ { s with heap := hp0 }
  refine wpAny_bind (wpAny_updateSeq (s := { s with heap := hp0 }) t1 rfl ?_)
  have t2 := Heap.get?_update_self (Obj.mapSeq (·.push Value.none)) t1 rfl
  refine wpAny_updateSeq (s := { s with heap := hp0.update s.heap.objs.size (Obj.mapSeq (·.push Value.none)) }) t2 rfl ?_
  have t3 := Heap.get?_update_self (Obj.mapSeq (·.pop)) t2 rfl
  have oth : ∀ b ob, b ≠ s.heap.objs.size → s.heap.get? b = some ob → ((hp0.update s.heap.objs.size (Obj.mapSeq (·.push Value.none))).update s.heap.objs.size (Obj.mapSeq (·.pop))).get? b = some ob := fun b ob hb e =>
    (Heap.get?_update_other _ _ (Ne.symm hb)).trans ((Heap.get?_update_other _ _ (Ne.symm hb)).trans (oth0 b ob hb e))
  have Z0 : ZAt s.heap z TI TO i1 i2 l1 l2 s.heap.objs.size xs ys 0 := ⟨ti, a1, a2, b1, b2, tt, .inl hz⟩
  have t4 : ∃ c, ((hp0.update s.heap.objs.size (Obj.mapSeq (·.push Value.none))).update s.heap.objs.size (Obj.mapSeq (·.pop))).get? s.heap.objs.size = some (lstO [] c) := ⟨_, t3⟩
  obtain ⟨c, t5⟩ := t4
  have bsz : s.heap.objs.size + 1 ≤ ((hp0.update s.heap.objs.size (Obj.mapSeq (·.push Value.none))).update s.heap.objs.size (Obj.mapSeq (·.pop))).objs.size := by simp [sz0]
  refine wpAny_pure ⟨plainId_quiet F.plain_extend_loop _, ext_zip (A := A.in1) (S := s.heap.objs.size) (by simp [hA]) D o hsz hn _ (s.heap.objs.size + 1) xs.size 0 { s with heap := (hp0.update s.heap.objs.size (Obj.mapSeq (·.push Value.none))).update s.heap.objs.size (Obj.mapSeq (·.pop)) } [] c (by omega) (Nat.zero_le _) (Z0.off o oth) t5 rfl List.nodup_nil (fun j p h => by simp at h) (fun p h => by cases h) bsz fun h' ps c' hk' hS' hl hnd hO hB => ?_⟩
  refine ⟨rfl, hQ h' ps c' (fun b ob hb q => ?_) hS' hl hnd (fun j p hp => ⟨fun h => (nomatch h), (hO j p hp).2⟩) hB⟩
  have nS : b ≠ s.heap.objs.size := fun e => lt q e.symm
  refine hk' b ob (fun hm => ?_) (oth b ob nS q)
  rcases List.mem_cons.mp hm with h | h
  · exact nS h
  · exact hb h
end
def tLstZip (K : PySem.W.Frag) (ta : TA) : TE := fun σ H Q => ta σ H fun vs H1 => ∃ (a b : Addr) (xs ys : List V), vs = [.ref a, .ref b] ∧ SqL K H1 a xs ∧ SqL K H1 b ys ∧ xs.length = ys.length ∧ xs.length < sizeLine ∧
  ∀ (R : Addr) (ps : List Addr) (H2 : Hp), Same H1 H2 → H1 R = none → H2 R = some (.lst (ps.map V.ref)) → ps.length = xs.length → (∀ (j : Nat) (p : Addr) (x y : V), ps[j]? = some p → xs[j]? = some x → ys[j]? = some y → H2 p = some (.tup [x, y])) → Q (.ref R) H2
theorem hok_addL {P : Program} {w : World} {H : Hp} {h : Heap} {a : Addr} {xs : List V} {its : List Value} {c : Nat} (ok : HOk P w H h) (hn : H a = none) (hz : xs.length ≤ sizeLine) (r : Vals xs its) (ht : h.get? a = some (seqObj "list" its.toArray c)) : HOk P w (upd H a (.lst xs)) h := fun b u e => by
  by_cases hb : b = a
  · subst hb
    rw [upd_same] at e
    cases e
    exact ⟨hz, its, c, r, ht⟩
  · rw [upd_ne hb] at e
    exact (ok b u e).stay (fun c v _ q => q) (fun c q => by rw [upd_ne (ne_of_none q hn)]; exact q) fun c ys q => by rw [upd_ne (ne_of_none q hn)]; exact q
theorem pe_lstZip {X : Cx} {e e2 : Expr} {ta : TA} {p p2 pos pos2 : Pos} (hc : X.calm = true) (hg : Gl X "list") (hm : X.mg "list" = none) (hg2 : Gl X "zip") (hm2 : X.mg "zip" = none) (ha : PA X [e, e2] ta)
    (hs : starEach [e, e2] X.env = (false, eval e X.env) :: starEach [e2] X.env := by rfl) (hpl : (backTo pos2 (starEach [e2] X.env)).any (·.1) = false := by rfl)
    (hs2 : starEach [.Call (.Name "zip" p2) [e, e2] [] pos2] X.env = (false, eval (.Call (.Name "zip" p2) [e, e2] [] pos2) X.env) :: starEach [] X.env := by rfl) :
    PE X (.Call (.Name "list" p) [.Call (.Name "zip" p2) [e, e2] [] pos2] [] pos) (tLstZip X.K ta) := by
  refine ⟨fun pins s σ H Q I h => ?_⟩
  refine Call_ (ld_blt I hg hm boot_list (PyProof.Rows.callWith_type1 (args_cons (Call_ (ld_blt I hg2 hm2 PyProof.Rows.boot_zip (PyProof.Rows.callWith_type1 (thn (ha.run pos2 pins s σ H _ I h) fun us s1 ⟨vs, H1, I1, r1, q1⟩ => ?_) hs hpl))) hs2) hs2 rfl))
  obtain ⟨a, b, xs, ys, ex, hqx, hqy, hlen, hlt, q⟩ := q1
  subst ex
  cases r1 with
  | cons r rr =>
    cases rr with
    | cons r' rr =>
      cases rr
      cases r
      cases r'
      obtain ⟨its, rv, pl, _⟩ := I1.list hqx
      obtain ⟨its2, rv2, pl2, _⟩ := I1.list hqy
      refine call_zip_2 pl.isList pl2.isList fun h' hz hTI hTO h1 h2 hsz hk => args_nil ?_
      have l1 := rv.length
      have l2 := rv2.length
      refine call_list_zip (s := { s1 with heap := h' }) (xs := its.toArray) (ys := its2.toArray) (I1.ok.hd hc) (PySem.W.ktu_apart s1.heap.objs.size a b pl.lt pl2.lt) (by simp; omega) (by simp; omega) hTI h1 h2
        (pl.isList.at fun o e => hk _ o e) (pl2.isList.at fun o e => hk _ o e) hz ⟨_, _, hTO⟩ fun h'' ps c hk2 hS hl hnd hO hB => ?_
      have hl' : ps.length = xs.length := by rw [hl]; simp; omega
      have kept : ∀ c ob, s1.heap.get? c = some ob → h''.get? c = some ob := fun c ob e => hk2 c ob (fun hm => by
        have hlt := Heap.lt_size e
        simp only [List.mem_cons, List.not_mem_nil, or_false] at hm
        have hlt' : c < s1.heap.objs.size := hlt
        have key : ∀ (m n : Nat), m < n → (m = n + 4 ∨ m = n + 3 ∨ m = n ∨ m = n + 1) → False := fun m n h1 h2 => by omega
        exact key c s1.heap.objs.size hlt' hm) (hk c ob e)
      have szS : s1.heap.objs.size ≤ h'.objs.size := by rw [hsz]; exact Nat.le_add_right _ _
      have new : ∀ p' ∈ ps, s1.heap.objs.size ≤ p' := fun p' hp' => Nat.le_trans szS (Nat.le_of_lt (hB p' hp'))
      have none1 : ∀ p' ∈ ps, H1 p' = none := fun p' hp' => I1.hok.fresh (new p' hp')
      have hfst : (ps.zip (xs.zip ys)).map (·.1) = ps := by
        rw [List.map_fst_zip]
        rw [List.length_zip]
        omega
      have hnd' : ((ps.zip (xs.zip ys)).map (·.1)).Nodup := by rw [hfst]; exact hnd
      have hmem : ∀ (j : Nat) (p' : Addr) (x y : V), ps[j]? = some p' → xs[j]? = some x → ys[j]? = some y → (p', x, y) ∈ ps.zip (xs.zip ys) := fun j p' x y e1 e2 e3 => by
        refine List.mem_of_getElem? (i := j) ?_
        rw [List.getElem?_zip_eq_some]
        refine ⟨e1, ?_⟩
        rw [List.getElem?_zip_eq_some]
        exact ⟨e2, e3⟩
      have okP : HOk X.prog X.w (putP H1 (ps.zip (xs.zip ys))) h'' := by
        refine hok_putP (I1.hok.kept kept) hnd' fun t ht => ?_
        obtain ⟨j, hj⟩ := List.getElem?_of_mem ht
        rw [List.getElem?_zip_eq_some] at hj
        obtain ⟨e1, e2⟩ := hj
        rw [List.getElem?_zip_eq_some] at e2
        obtain ⟨_, u, v, hu, hv, hp'⟩ := hO j _ e1
        obtain ⟨u', hu', ru⟩ := rv.get e2.1
        obtain ⟨v', hv', rv'⟩ := rv2.get e2.2
        have eu : u = u' := by
          have : its[j]? = some u := by simpa using hu
          rw [hu'] at this
          exact (Option.some.inj this).symm
        have ev : v = v' := by
          have : its2[j]? = some v := by simpa using hv
          rw [hv'] at this
          exact (Option.some.inj this).symm
        exact ⟨none1 _ (List.mem_of_getElem? e1), u, v, by rw [eu]; exact ru, by rw [ev]; exact rv', hp'⟩
      have hR1 : H1 h'.objs.size = none := I1.hok.fresh szS
      have nin : h'.objs.size ∉ (ps.zip (xs.zip ys)).map (·.1) := fun hm => by
        rw [hfst] at hm
        exact Nat.lt_irrefl _ (hB _ hm)
      have nR : putP H1 (ps.zip (xs.zip ys)) h'.objs.size = none := by rw [putP_out nin]; exact hR1
      have okR : HOk X.prog X.w (upd (putP H1 (ps.zip (xs.zip ys))) h'.objs.size (.lst (ps.map V.ref))) h'' := hok_addL (its := ps.map Value.ref) (c := c) okP nR (by rw [List.length_map]; omega) (vals_refs9 ps) hS
      have sm : Same H1 (upd (putP H1 (ps.zip (xs.zip ys))) h'.objs.size (.lst (ps.map V.ref))) := fun c o ec => by
        have hc1 : c ∉ (ps.zip (xs.zip ys)).map (·.1) := fun hm => by
          rw [hfst] at hm
          rw [none1 c hm] at ec
          cases ec
        have hc2 : putP H1 (ps.zip (xs.zip ys)) c = some o := by rw [putP_out hc1]; exact ec
        rw [upd_ne (ne_of_none hc2 nR)]
        exact hc2
      have free : ∀ c o, s1.heap.get? c = some o → H1 c = none → upd (putP H1 (ps.zip (xs.zip ys))) h'.objs.size (.lst (ps.map V.ref)) c = none := fun c o ec hn => by
        have hlt : c < s1.heap.objs.size := Heap.lt_size ec
        have hc1 : c ∉ (ps.zip (xs.zip ys)).map (·.1) := fun hm => by
          rw [hfst] at hm
          exact absurd (Nat.lt_of_lt_of_le hlt (new c hm)) (Nat.lt_irrefl _)
        have hc3 : c ≠ h'.objs.size := Nat.ne_of_lt (Nat.lt_of_lt_of_le hlt szS)
        rw [upd_ne hc3, putP_out hc1]
        exact hn
      have I3 : Inv X pins σ (upd (putP H1 (ps.zip (xs.zip ys))) h'.objs.size (.lst (ps.map V.ref))) { s1 with heap := h'' } :=
        inv_grow (t' := s1.toks) I1 kept sm free okR
      refine ⟨.ref h'.objs.size, _, I3, rfl, q h'.objs.size ps _ sm hR1 upd_same hl' fun j p' x y e1 e2 e3 => ?_⟩
      have := putP_at (H := H1) hnd' (hmem j p' x y e1 e2 e3)
      rw [upd_ne (ne_of_none this nR)]
      exact this
end Fh

set_option Elab.async false
set_option linter.all false
set_option maxRecDepth 100000
set_option maxHeartbeats 4000000
namespace Fh
open PySem L2 PyProof.Rows
abbrev sPck : Stmt := top 44
abbrev nPck : List Str := ["_law_bag_here", "_law_size", "_law_taken", "_law_found", "_law_word", "_law_numbers_here"]
theorem TpAll.ofget {H : Hp} : ∀ {vs : List V} {ds : List PyData}, vs.length = ds.length → (∀ (j : Nat) (v : V) (d : PyData), vs[j]? = some v → ds[j]? = some d → Tp H v d) → TpAll H vs ds
  | [], [], _, _ => .nil
  | [], _ :: _, l, _ => by simp at l
  | _ :: _, [], l, _ => by simp at l
  | v :: vs, d :: ds, l, h => .cons (h 0 v d rfl rfl) (TpAll.ofget (by simpa using l) fun j v' d' e1 e2 => h (j + 1) v' d' (by simpa using e1) (by simpa using e2))
theorem pairs_tp {H : Hp} {ps : List Addr} {ns : List Int} {zs : List Str} (l1 : ps.length = ns.length) (l2 : ns.length = zs.length) (h : ∀ (j : Nat) (p : Addr) (x y : V), ps[j]? = some p → (ns.map V.int)[j]? = some x → (zs.map V.str)[j]? = some y → H p = some (.tup [x, y])) :
    TpAll H (ps.map V.ref) ((ns.zip zs).map fun o => .tuple [.int o.1, .str o.2]) := by
  refine TpAll.ofget (by rw [List.length_map, List.length_map, List.length_zip]; omega) fun j v d e1 e2 => ?_
  rw [List.getElem?_map] at e1 e2
  cases hp : ps[j]? with
  | none => rw [hp] at e1; cases e1
  | some p =>
    cases hz : (ns.zip zs)[j]? with
    | none => rw [hz] at e2; cases e2
    | some o =>
      rw [hp] at e1
      rw [hz] at e2
      cases e1
      cases e2
      rw [List.getElem?_zip_eq_some] at hz
      have := h j p (.int o.1) (.str o.2) hp (by rw [List.getElem?_map, hz.1]; rfl) (by rw [List.getElem?_map, hz.2]; rfl)
      exact .tup this (.cons (.int _) (.cons (.str _) .nil))
def spPck : Sp := fun vs H Q _ => ∃ (b t : Addr) (size : Int) (tk : List Str) (n : Nat), vs = [.ref b, .int size, .ref t] ∧ Bag H b n ∧ 0 ≤ size ∧ size ≤ 3 ∧ H t = some (.lst (tk.map V.str)) ∧ tk.length ≤ 12 ∧ n + 1000 ≤ most ∧
  ∀ (p : Addr) (pv : List V) (cs : (List Cho)) (H' : Hp), H p = none → H' p = some (.lst pv) → TpAll H' pv ((csP cs).map fun r => .tuple [.str r.1, r.2]) → CsW cs → cs.length ≤ 3 → (∀ c ∈ cs, c.1 ∉ tk) → Kp b H H' → Bag H' b (n + 600) → Q (.ref p) H'
section
variable {P : Program} {w : World} {K : PySem.W.Frag} {mg : Str → Option Value} {base : Heap}
theorem scPck : FnScope nPck ["_law_bag_here", "_law_size", "_law_taken"] (defScope sPck) := ⟨rfl, rfl, rfl, by decide +kernel, rfl, by decide +kernel, by decide +kernel⟩
theorem ok_pck {f : Addr} {fd : FuncData} (F : Fun K "_law_picks" "_law_picks" sPck f fd) (G : Glb mg) (DT : Has P w K mg base "_law_take" 1 pTk9 spTake) (DM : Has P w K mg base "_law_numbers" 2 pTk9 spNum9) (DN : Has P w K mg base "_law_unlike_names" 3 ["_law_bag_here", "_law_size", "_law_taken"] spUnlikeN) :
    FnOk P w K mg base CX0 4 f fd ["_law_bag_here", "_law_size", "_law_taken"] spPck := by
  refine F.ok scPck (fun vs H Q E h => ?_) (fun cdv A outer s H vs Q E hr h => ?_)
  · obtain ⟨b, t, size, tk, n, rfl, _⟩ := h
    rfl
  · obtain ⟨b, t, size, tk, n, rfl, hB, s0, s1, ht, ltk, hn, q⟩ := h
    have hm : most = 1000000 := rfl
    refine ⟨_, (pss_cons (ps_set (i := 3) scPck.nd rfl (Or.inl rfl) (pe_lst pa_nil))
      (pss_cons (ps_for PassesOwn.never rfl (pi_list (pe_callB cr_sortedS (by rfl) G.sorted (by decide +kernel) (pa_cons (pe_has DN (hr.mono (by omega)) rfl (pa_cons (pv 0) (pa_cons (pv 1) (pa_cons (pv 2) pa_nil)))) pa_nil))) (pg_name (i := 4) scPck.nd rfl (Or.inl rfl))
      (pss_cons (ps_set (i := 5) scPck.nd rfl (Or.inl rfl) (pe_has DM (hr.mono (by omega)) rfl (pa_cons (pv 0) (pa_cons (pe_op op_add pe_int (pe_has DT (hr.mono (by omega)) rfl (pa_cons (pv 0) (pa_cons pe_int pa_nil)))) pa_nil))))
      (pss_one (ps_expr (pe_bm PySem.F.plainAttrs_list PySem.F.slot_list_append PySem.F.type_list_append mt_append (pv 3) (pa_cons (pe_tup (pa_cons (pv 4) (pa_cons (pe_callTy call_tuple_of (by rfl) G.tuple (by decide +kernel) (pa_cons (pe_lstZip rfl (by rfl) G.list (by rfl) G.zip (pa_cons (pv 5) (pa_cons (pe_has DN (hr.mono (by omega)) rfl (pa_cons (pv 0) (pa_cons (pe_callB call_len_seq (by rfl) G.len (by decide +kernel) (pa_cons (pv 5) pa_nil)) (pa_cons (pe_lst pa_nil) pa_nil)))) pa_nil))) pa_nil)) pa_nil))) pa_nil))))))
      (pss_one (ps_ret (pv 3))))), ?_⟩
    refine ⟨Nat.zero_le _, fun D hD => ?_⟩
    have nDb : D ≠ b := new_ne hD hB
    refine ⟨_, rfl, _, rfl, _, rfl, b, t, size, tk, n, rfl, hB.new hD, s0, by omega, hup hD ht, ltk, by omega, fun wl ws H1 hwl h1 lws ndw nmw K1 B1 => ?_⟩
    have nwb : wl ≠ b := new_ne hwl (hB.new hD)
    refine ⟨wl, ws, rfl, SqL.of h1, by omega, fun ys wo perm _ hwo => ?_⟩
    have h2o : (upd H1 wo (.lst (ys.map V.str))) wo = some (.lst (ys.map V.str)) := upd_same
    have lys : ys.length ≤ 3 := by rw [perm.length_eq]; omega
    have K2 : Kp b H (upd H1 wo (.lst (ys.map V.str))) := ((Kp.refl.new hD).trans K1).new hwo
    have B2 := B1.new (o := .lst (ys.map V.str)) hwo
    have h2D : (upd H1 wo (.lst (ys.map V.str))) D = some (.lst []) := hup hwo (K1 _ _ nDb upd_same)
    have nwob : wo ≠ b := new_ne hwo B1
    have nwoD : wo ≠ D := fun e => by
      rw [e, K1 _ _ nDb upd_same] at hwo
      cases hwo
    generalize upd H1 wo (.lst (ys.map V.str)) = H2 at *
    refine ⟨wo, rfl, ⟨_, SqL.of h2o⟩, ?_⟩
    refine for_list (K := K) (a := wo) (xs := ys.map V.str) (fun i σ H3 => (∃ a4 a5, σ = [some (.ref b), some (.int size), some (.ref t), some (.ref D), a4, a5]) ∧ Kp b H H3 ∧ Bag H3 b (n + 120 + 151 * i) ∧ H3 wo = some (.lst (ys.map V.str)) ∧ ∃ (pv : List V) (cs : (List Cho)), H3 D = some (.lst pv) ∧ TpAll H3 pv ((csP cs).map fun r => .tuple [.str r.1, r.2]) ∧ cs.map (·.1) = ys.take i ∧ ∀ c ∈ cs, OpW c.2) ?_ ?_ ?_ ?_
    · exact ⟨⟨_, _, rfl⟩, K2, B2, h2o, [], [], h2D, .nil, rfl, fun c h => nomatch h⟩
    · rintro i σ H3 _ ⟨_, _, _, h3o, _⟩
      exact SqL.of h3o
    · rintro i x σ H3 hx ⟨⟨a4, a5, rfl⟩, K3, B3, h3o, pv, cs, h3D, tp3, ec, ow⟩
      have hi : i < 3 := by
        have := (List.getElem?_eq_some_iff.mp hx).1
        rw [List.length_map] at this
        omega
      rw [List.getElem?_map] at hx
      obtain ⟨z, hz, rfl⟩ := Option.map_eq_some_iff.mp hx
      refine ⟨_, rfl, _, rfl, b, 6, _, rfl, by decide, by decide, B3, by omega, fun d H4 d0 d1 K4 B4 => ?_⟩
      refine ⟨_, _, rfl, rfl, b, 1 + d, _, rfl, B4, by omega, by omega, by omega, fun np ns H5 hnp h5 lns rise rg K5 B5 => ?_⟩
      have K45 := K4.trans K5
      have nnp : np ≠ b := new_ne hnp B4
      have h5D := K45 _ _ nDb h3D
      refine ⟨_, rfl, .inl ⟨rfl, _, SqL.of h5D⟩, ?_⟩
      refine ⟨_, rfl, _, rfl, _, rfl, _, rfl, np, _, rfl, .inl (SqL.of h5), ?_⟩
      rw [List.length_map]
      refine ⟨Nat.zero_le _, fun e he => ?_⟩
      refine ⟨b, e, (ns.length : Nat), [], _, rfl, B5.new he, by omega, by omega, upd_same, Nat.zero_le _, by omega, fun zl zs H6 hzl h6 lzs ndz nmz K6 B6 => ?_⟩
      have K56 : Kp b H5 H6 := (Kp.refl.new he).trans K6
      have h6n := K56 _ _ nnp h5
      have nzl : zl ≠ b := new_ne hzl (B5.new he)
      have lz : ns.length = zs.length := by omega
      refine ⟨np, zl, _, _, rfl, SqL.of h6n, SqL.of h6, by rw [List.length_map, List.length_map]; exact lz, ?_, fun R ps H7 S7 hR h7 lps pr => ?_⟩
      · rw [List.length_map]
        exact Nat.lt_of_le_of_lt (show ns.length ≤ 6 by omega) (by decide)
      rw [List.length_map] at lps
      refine ⟨R, _, rfl, .inl ⟨SqL.of h7, fun T hT => ?_⟩⟩
      refine ⟨(by show 2 ≤ sizeLine; decide), fun t2 ht2 => ?_⟩
      have S8 : Same H7 (upd (upd H7 T (.tup (ps.map V.ref))) t2 (.tup [.str z, .ref T])) := (Same.new hT).trans (Same.new ht2)
      have h8t : (upd (upd H7 T (.tup (ps.map V.ref))) t2 (.tup [.str z, .ref T])) t2 = some (.tup [.str z, .ref T]) := upd_same
      have h8T : (upd (upd H7 T (.tup (ps.map V.ref))) t2 (.tup [.str z, .ref T])) T = some (.tup (ps.map V.ref)) := hup ht2 upd_same
      generalize (upd (upd H7 T (.tup (ps.map V.ref))) t2 (.tup [.str z, .ref T])) = H8 at *
      have K58 : Kp b H5 H8 := (K56.same S7).same S8
      have K38 : Kp b H3 H8 := K45.trans K58
      have h8D := K58 _ _ nDb h5D
      have B8 := (B6.same S7).same S8
      have tpz : TpAll H8 (ps.map V.ref) ((ns.zip zs).map fun o => .tuple [.int o.1, .str o.2]) := TpAll.keep (Same.tk S8) _ _ (pairs_tp lps lz pr)
      have lc : cs.length = i := by
        have := congrArg List.length ec
        rw [List.length_map, List.length_take] at this
        have := (List.getElem?_eq_some_iff.mp hz).1
        omega
      refine ⟨D, _, _, rfl, rfl, h8D, ?_, ?_⟩
      · have := tp3.length
        rw [List.length_map] at this
        have e2 : (csP cs).length = cs.length := by unfold csP; rw [List.length_map]
        rw [this, e2, lc]
        exact Nat.lt_trans hi (by decide)
      have K9 : Kp b H (upd H8 D (.lst (pv ++ [.ref t2]))) := (K3.trans K38).wr hD
      have T9 : Tk H8 (upd H8 D (.lst (pv ++ [.ref t2]))) := Tk.wr h8D
      have npl : ns.length = (1 + d).toNat := by omega
      refine ⟨⟨_, _, rfl⟩, K9, (B8.mono (by omega)).ne nDb, ?_, pv ++ [.ref t2], cs ++ [(z, ns.zip zs)], upd_same, ?_, ?_, fun c hc => ?_⟩
      · rw [upd_ne nwoD]
        exact K38 _ _ nwob h3o
      · rw [show csP (cs ++ [(z, ns.zip zs)]) = csP cs ++ [(z, optsD (ns.zip zs))] by unfold csP; rw [List.map_append]; rfl, List.map_append]
        refine TpAll.app (TpAll.keep T9 _ _ (TpAll.keep (K38.tk B3) _ _ tp3)) (TpAll.one (Tp.keep T9 _ _ ?_))
        exact .tup h8t (.cons (.str _) (.cons (.tup h8T tpz) .nil))
      · rw [List.map_append, ec, List.take_add_one, hz]
        rfl
      · rcases List.mem_append.mp hc with h | h
        · exact ow c h
        · rw [List.mem_singleton.mp h]
          exact op_zip (by omega) (by omega) (by omega) ndz (fun u hu => (nmz u hu).1) rise rg
    · rintro σ H3 ⟨⟨a4, a5, rfl⟩, K3, B3, h3o, pv, cs, h3D, tp3, ec, ow⟩
      rw [List.length_map] at ec B3
      rw [List.take_length] at ec
      have lc : cs.length = ys.length := by rw [← ec, List.length_map]
      have nmy : ∀ c ∈ cs, Nm c.1 ∧ c.1 ∉ tk := fun c hc => nmw _ (perm.mem_iff.mp (by rw [← ec]; exact List.mem_map.mpr ⟨c, hc, rfl⟩))
      exact ⟨_, rfl, q D pv cs H3 hD h3D tp3 ⟨by omega, by rw [ec]; exact perm.nodup_iff.mpr ndw, fun c hc => (nmy c hc).1, ow⟩ (by omega) (fun c hc => (nmy c hc).2) K3 (B3.mono (by omega))⟩
theorem scDrk : FnScope nDrk ["_law_bag_here", "_law_picks_here", "_law_words"] (defScope sDrk) := ⟨rfl, rfl, rfl, by decide +kernel, rfl, by decide +kernel, by decide +kernel⟩
theorem ok_drk {f : Addr} {fd : FuncData} (F : Fun K "_law_drawn_kind" "_law_drawn_kind" sDrk f fd) (G : Glb mg) (DT : Has P w K mg base "_law_take" 1 pTk9 spTake) (DP : Has P w K mg base "_law_plain_kind" 2 ["_law_bag_here"] spPlk) : FnOk P w K mg base CX0 3 f fd ["_law_bag_here", "_law_picks_here", "_law_words"] spDrk := by
  refine F.ok scDrk (fun vs H Q E h => ?_) (fun cdv A outer s H vs Q E hr h => ?_)
  · obtain ⟨b, p, w, n, pc, cs, rfl, _⟩ := h
    rfl
  · obtain ⟨b, p, w, n, pc, cs, rfl, hB, hn, hp, npb, tp, lc, hw, nwb, q⟩ := h
    have hm : most = 1000000 := rfl
    have lpv : pc.length = cs.length := by rw [tp.length, List.length_map]
    refine ⟨_, (pss_cons (ps_set (i := 3) scDrk.nd rfl (Or.inl rfl) (pe_has DT (hr.mono (by omega)) rfl (pa_cons (pv 0) (pa_cons pe_int pa_nil))))
      (pss_cons (ps_set (i := 4) scDrk.nd rfl (Or.inl rfl) (pe_has DP (hr.mono (by omega)) rfl (pa_cons (pv 0) pa_nil)))
      (C8.pss_cut (ps_if (PW.pt (pw_and (pt_cmpR op_eq (pv 3) pe_int (nomark _)) (pw_and1 (pt_cmpR (op_neM9 hr.units) (pv 1) (pe_lst pa_nil) (nomark _)))))
      (pss_one (ps_set (i := 4) scDrk.nd rfl (Or.inl rfl) (pe_tup (pa_cons pe_str (pa_cons (pe_ix ix_tup (pe_ix ix_list (pv 1) (pe_has DT (hr.mono (by omega)) rfl (pa_cons (pv 0) (pa_cons (pe_callB call_len_seq (by rfl) G.len (by decide +kernel) (pa_cons (pv 1) pa_nil)) pa_nil))) (fun _ _ => rfl)) pe_int (fun _ _ => rfl)) pa_nil)))))
      pss_nil)
      (C8.pss_cut (ps_if (PW.pt (pw_and (pt_cmpR op_gt (pv 3) pe_int (nomark _)) (pw_and1 (pt_cmpR (op_neM9 hr.units) (pv 2) (pe_lst pa_nil) (nomark _)))))
      (pss_one (ps_set (i := 4) scDrk.nd rfl (Or.inl rfl) (pe_tup (pa_cons pe_str (pa_cons (pe_ix ix_list (pv 2) (pe_has DT (hr.mono (by omega)) rfl (pa_cons (pv 0) (pa_cons (pe_callB call_len_seq (by rfl) G.len (by decide +kernel) (pa_cons (pv 2) pa_nil)) pa_nil))) (fun _ _ => rfl)) pa_nil)))))
      pss_nil)
      (pss_one (ps_ret (pe_ifExp (PW.pt (pw_and (pt_cmpR op_eq (pv 3) pe_int (nomark _)) (pw_and1 (pt_cmpR op_ne (pe_ix ix_seq (pv 4) pe_int (fun _ _ => rfl)) pe_str (nomark _))))) (pe_tup (pa_cons pe_str (pa_cons (pv 4) pa_nil))) (pv 4)))))))), ?_⟩
    refine ⟨_, rfl, b, 8, n, rfl, by decide, by decide, hB, by omega, fun d H1 d0 d1 K1 B1 => ?_⟩
    refine ⟨_, rfl, b, n + 1, rfl, B1, by omega, fun kv k H2 tk gk K2 B2 => ?_⟩
    have K12 := K1.trans K2
    refine ⟨fun σ H' => ∃ (kv : V) (k : Kn), σ = [some (.ref b), some (.ref p), some (.ref w), some (.int d), some kv] ∧ Tp H' kv k.d ∧ GK9 (cs.map Prod.fst) k ∧ Kp b H H' ∧ Bag H' b (n + 5), ?_, ?_⟩
    · refine ⟨_, rfl, rfl, _, rfl, ite2 (fun _ => ?_) (fun _ => iteF ⟨kv, k, rfl, tk, gk.mono, K12, B2.mono (by omega)⟩)⟩
      refine ⟨_, rfl, Nat.zero_le _, fun e he => ?_⟩
      have h3p := hup (o := .lst []) he (K12 _ _ npb hp)
      refine ⟨p, e, pc, rfl, rfl, SqL.of h3p, SqL.of upd_same, _, rfl, ?_⟩
      have K3 : Kp b H (upd H2 e (.lst [])) := K12.new he
      have B3 := B2.new (o := .lst []) he
      have tk3 := Tp.keep (Tk.new (o := .lst []) he) _ _ tk
      generalize upd H2 e (.lst []) = H3 at *
      cases pc with
      | nil => exact iteF ⟨kv, k, rfl, tk3, gk.mono, K3, B3.mono (by omega)⟩
      | cons x0 pr =>
        refine iteT ?_
        refine ⟨_, rfl, _, rfl, _, rfl, p, _, rfl, .inl (SqL.of h3p), b, _, _, rfl, by rw [List.length_cons]; omega, by omega, B3, by omega, fun d2 H4 e0 e1 K4 B4 => ?_⟩
        obtain ⟨v, ev, ev2, hv⟩ := atI_in (xs := x0 :: pr) e0 e1
        obtain ⟨r, t, u, hr1, rfl, ht, tu⟩ := rows_at (H := H4) (TpAll.keep ((K3.trans K4).tk hB) _ _ tp) ev2
        have h4p := K4 _ _ npb h3p
        refine ⟨p, _, _, _, rfl, rfl, SqL.of h4p, ev, t, _, _, _, rfl, rfl, SqT.of ht, rfl, (by show 2 ≤ sizeLine; decide), fun t2 ht2 => ?_⟩
        exact ⟨.ref t2, .one (.ch r.1), rfl, .tup upd_same (.cons (.str _) (.cons (.str _) .nil)), List.mem_map.mpr ⟨r, List.mem_of_getElem? hr1, rfl⟩, (K3.trans K4).new ht2, (B4.new ht2).mono (by omega)⟩
    rintro σ H3 ⟨kv3, k3, rfl, tk3, gk3, K3, B3⟩
    refine ⟨fun σ H' => ∃ (kv : V) (k : Kn), σ = [some (.ref b), some (.ref p), some (.ref w), some (.int d), some kv] ∧ Tp H' kv k.d ∧ GK9 (cs.map Prod.fst) k ∧ Kp b H H' ∧ Bag H' b (n + 5), ?_, ?_⟩
    · refine ⟨_, rfl, d, 4, rfl, rfl, _, rfl, ite2 (fun _ => ?_) (fun _ => iteF ⟨kv3, k3, rfl, tk3, gk3, K3, B3⟩)⟩
      refine ⟨_, rfl, Nat.zero_le _, fun e he => ?_⟩
      have h3w := hup (o := .lst []) he (K3 _ _ nwb hw)
      refine ⟨w, e, [], rfl, rfl, SqL.of h3w, SqL.of upd_same, _, rfl, iteF ?_⟩
      exact ⟨kv3, k3, rfl, Tp.keep (Tk.new he) _ _ tk3, gk3, K3.new he, B3.new he⟩
    rintro σ H4 ⟨kv4, k4, rfl, tk4, gk4, K4, B4⟩
    have keep : Q kv4 H4 := q kv4 k4 H4 tk4 gk4 K4 (B4.mono (by omega))
    refine ⟨_, rfl, rfl, _, rfl, ite2 (fun _ => ?_) (fun _ => iteF ⟨_, rfl, keep⟩)⟩
    rcases kn_inv tk4 with ⟨rfl, hk⟩ | ⟨a, u, rfl, ha, tu⟩
    · have fin : ∀ b0 : Kb, k4 = .one b0 → (∀ t, H4 t = none → Q (.ref t) (upd H4 t (.tup [.str "list", .str k4.word]))) := fun b0 eb t ht => by
        subst eb
        refine q _ (.lst b0) _ (.tup upd_same (.cons (.str _) (.cons ?_ .nil))) gk4 (K4.new ht) ((B4.new ht).mono (by omega))
        exact Tp.keep (Tk.new ht) _ _ tk4
      rcases hk with rfl | rfl | rfl
      · exact ⟨_, rfl, .inr (.inr ⟨_, _, 119, rfl, rfl, by decide +kernel, by decide +kernel, rfl, _, rfl, iteT ⟨_, rfl, (by show 2 ≤ sizeLine; decide), fun t ht => fin _ rfl t ht⟩⟩)⟩
      · exact ⟨_, rfl, .inr (.inr ⟨_, _, 116, rfl, rfl, by decide +kernel, by decide +kernel, rfl, _, rfl, iteT ⟨_, rfl, (by show 2 ≤ sizeLine; decide), fun t ht => fin _ rfl t ht⟩⟩)⟩
      · exact ⟨_, rfl, .inr (.inr ⟨_, _, 116, rfl, rfl, by decide +kernel, by decide +kernel, rfl, _, rfl, iteT ⟨_, rfl, (by show 2 ≤ sizeLine; decide), fun t ht => fin _ rfl t ht⟩⟩)⟩
    · refine ⟨_, rfl, .inr (.inl ⟨a, _, 0, _, rfl, rfl, SqT.of ha, rfl, rfl, _, rfl, ?_⟩)⟩
      cases k4 with
      | lst b0 => exact iteF ⟨_, rfl, keep⟩
      | one b0 =>
        cases b0 with
        | rc z => exact gk4.elim
        | whole => exact nomatch tk4
        | truth => exact nomatch tk4
        | text => exact nomatch tk4
        | ch z =>
          refine iteT ⟨_, rfl, (by show 2 ≤ sizeLine; decide), fun t ht => ?_⟩
          exact q _ (.lst (.ch z)) _ (.tup upd_same (.cons (.str _) (.cons (Tp.keep (Tk.new ht) _ _ tk4) .nil))) gk4 (K4.new ht) ((B4.new ht).mono (by omega))
end
end Fh

set_option Elab.async false
set_option linter.all false
set_option maxRecDepth 100000
set_option maxHeartbeats 4000000
namespace Fh
open PySem L2 PyProof.Rows
abbrev sCde : Stmt := top 45
abbrev nCde : List Str := ["_law_bag_here", "_law_asks", "_law_answer_names", "_law_below", "_law_deeds", "_law_found", "_law_turn", "_law_names", "_law_face", "_law_call", "_law_left", "_law_number", "_law_word", "_law_kind", "_law_need", "_law_at"]
abbrev pCde : List Str := ["_law_bag_here", "_law_asks", "_law_answer_names", "_law_below"]
inductive Dd9 where
  | take
  | add
  | tell (f : Str)
  | copy (f g : Str)
def Dd9.ps : Dd9 → List Str
  | .take => ["take", "who", "sum", "short"]
  | .add => ["add", "who", "sum"]
  | .tell f => ["tell", f, "who"]
  | .copy f g => ["copy", f, g]
def Dd9.d (d : Dd9) : PyData := .tuple (d.ps.map PyData.str)
theorem TpAll.istrs9 {H : Hp} : ∀ {zs : List Str} {vs : List V}, TpAll H vs (zs.map PyData.str) → vs = zs.map V.str
  | [], _, h => h.inil
  | z :: zs, _, h => by
    obtain ⟨v, r, rfl, t, q⟩ := TpAll.icons h
    rw [t.istr, TpAll.istrs9 q]
    rfl
theorem Dd9.inv {H : Hp} {v : V} {d : Dd9} (h : Tp H v d.d) : ∃ t, v = .ref t ∧ H t = some (.tup (d.ps.map V.str)) := by
  obtain ⟨a, xs, rfl, ha, q⟩ := h.inv
  rw [TpAll.istrs9 q] at ha
  exact ⟨a, rfl, ha⟩
def Dd9.sets : Dd9 → Option Str
  | .tell f => some f
  | .copy f _ => some f
  | _ => none
/-- a field to be told, without its number -/
structure Gd9 where
  nam : Str
  kd : Kn
  must : Bool
def Gd9.d (g : Gd9) : PyData := .tuple [.str g.nam, g.kd.d, .str (needS g.must)]
theorem seq_at9 {y : Int} {n : Nat} (h0 : 0 ≤ y) (h1 : y < (n : Int)) : seqIndex? y n = some y.toNat := by
  unfold seqIndex?
  have a : ¬ y < 0 := by omega
  simp only [if_neg a]
  rw [if_pos]
  simp [h0, h1]
theorem map_erase9 {α β : Type} (f : α → β) : ∀ (l : List α) (k : Nat), (l.eraseIdx k).map f = (l.map f).eraseIdx k
  | [], _ => rfl
  | _ :: _, 0 => rfl
  | x :: l, k + 1 => by
    show f x :: (l.eraseIdx k).map f = f x :: (l.map f).eraseIdx k
    rw [map_erase9 f l k]
theorem TpAll.erase {H : Hp} : ∀ {vs : List V} {ds : List PyData}, TpAll H vs ds → ∀ k, TpAll H (vs.eraseIdx k) (ds.eraseIdx k)
  | _, _, .nil, _ => .nil
  | _, _, .cons _ q, 0 => q
  | _, _, .cons a q, k + 1 => .cons a (TpAll.erase q k)
/-- a deed that is right -/
def DdR (fl : List Fl) (gs : List Gd9) : Dd9 → Prop
  | .tell f => ∃ g ∈ gs, g.nam = f ∧ g.kd = .one .whole
  | .copy f h => ∃ g ∈ gs, g.nam = f ∧ ∃ s ∈ fl, s.nam = h ∧ g.kd = s.kd ∧ (s.must = true ∨ g.must = false)
  | _ => True
theorem DdR.app {fl : List Fl} {gs hs : List Gd9} {d : Dd9} (h : DdR fl gs d) : DdR fl (gs ++ hs) d := by
  cases d with
  | take => exact True.intro
  | add => exact True.intro
  | tell f =>
    obtain ⟨g, hg, e⟩ := h
    exact ⟨g, List.mem_append_left _ hg, e⟩
  | copy f z =>
    obtain ⟨g, hg, e⟩ := h
    exact ⟨g, List.mem_append_left _ hg, e⟩
structure CdOk (fl : List Fl) (ds : List Dd9) (gs : List Gd9) : Prop where
  set : ds.filterMap Dd9.sets = gs.map Gd9.nam
  ok : ∀ d ∈ ds, DdR fl gs d
  kd : ∀ g ∈ gs, g.kd = .one .whole ∨ ∃ s ∈ fl, g.kd = s.kd
  ne : gs ≠ []
theorem fm_erase {α β : Type} {f : α → Option β} {x : α} : ∀ {l : List α} {k : Nat}, l[k]? = some x → f x = none → (l.eraseIdx k).filterMap f = l.filterMap f
  | [], _, h, _ => by cases h
  | y :: l, 0, h, e => by
    have ey : y = x := Option.some.inj h
    rw [← ey] at e
    show l.filterMap f = (y :: l).filterMap f
    rw [List.filterMap_cons, e]
  | y :: l, k + 1, h, e => by
    show (y :: l.eraseIdx k).filterMap f = (y :: l).filterMap f
    rw [List.filterMap_cons, List.filterMap_cons, fm_erase (by simpa using h) e]
/-- what is drawn so far -/
structure Drw (H0 H : Hp) (b D Fo : Addr) (m : Nat) (ds : List Dd9) (gs : List Gd9) : Prop where
  kp : Kp b H0 H
  bg : Bag H b m
  nDF : D ≠ Fo
  nDb : D ≠ b
  nFb : Fo ≠ b
  d0 : H0 D = none
  f0 : H0 Fo = none
  dl : ∃ dv, H D = some (.lst dv) ∧ TpAll H dv (ds.map Dd9.d)
  fl : ∃ fv, H Fo = some (.lst fv) ∧ TpAll H fv (gs.map Gd9.d)
section
variable {H0 H H1 : Hp} {b D Fo : Addr} {m m1 : Nat} {ds : List Dd9} {gs : List Gd9}
theorem Drw.same (h : Drw H0 H b D Fo m ds gs) (s : Same H H1) : Drw H0 H1 b D Fo m ds gs := by
  obtain ⟨kp, bg, n1, n2, n3, d0, f0, ⟨dv, hd, td⟩, ⟨fv, hf, tf⟩⟩ := h
  exact ⟨kp.same s, bg.same s, n1, n2, n3, d0, f0, ⟨dv, s _ _ hd, TpAll.keep (Same.tk s) _ _ td⟩, ⟨fv, s _ _ hf, TpAll.keep (Same.tk s) _ _ tf⟩⟩
theorem Drw.take (h : Drw H0 H b D Fo m ds gs) (k : Kp b H H1) (b1 : Bag H1 b m1) : Drw H0 H1 b D Fo m1 ds gs := by
  obtain ⟨kp, bg, n1, n2, n3, d0, f0, ⟨dv, hd, td⟩, ⟨fv, hf, tf⟩⟩ := h
  exact ⟨kp.trans k, b1, n1, n2, n3, d0, f0, ⟨dv, k _ _ n2 hd, TpAll.keep (k.tk bg) _ _ td⟩, ⟨fv, k _ _ n3 hf, TpAll.keep (k.tk bg) _ _ tf⟩⟩
theorem Drw.mono (h : Drw H0 H b D Fo m ds gs) (hm : m ≤ m1) : Drw H0 H b D Fo m1 ds gs := ⟨h.kp, h.bg.mono hm, h.nDF, h.nDb, h.nFb, h.d0, h.f0, h.dl, h.fl⟩
/-- a list of one's own is written -/
theorem Drw.wr (h : Drw H0 H b D Fo m ds gs) {N : Addr} {xs : List V} {o : HO} (hN : H N = some (.lst xs)) (n0 : H0 N = none) (a1 : N ≠ D) (a2 : N ≠ Fo) (a3 : N ≠ b) : Drw H0 (upd H N o) b D Fo m ds gs := by
  obtain ⟨kp, bg, n1, n2, n3, d0, f0, ⟨dv, hd, td⟩, ⟨fv, hf, tf⟩⟩ := h
  exact ⟨kp.wr n0, bg.ne a3, n1, n2, n3, d0, f0, ⟨dv, by rw [upd_ne a1.symm]; exact hd, TpAll.keep (Tk.wr hN) _ _ td⟩, ⟨fv, by rw [upd_ne a2.symm]; exact hf, TpAll.keep (Tk.wr hN) _ _ tf⟩⟩
theorem Drw.setD (h : Drw H0 H b D Fo m ds gs) {dv dv1 : List V} {ds1 : List Dd9} (hd : H D = some (.lst dv)) (t : TpAll H dv1 (ds1.map Dd9.d)) : Drw H0 (upd H D (.lst dv1)) b D Fo m ds1 gs := by
  obtain ⟨kp, bg, n1, n2, n3, d0, f0, _, ⟨fv, hf, tf⟩⟩ := h
  exact ⟨kp.wr d0, bg.ne n2, n1, n2, n3, d0, f0, ⟨dv1, upd_same, TpAll.keep (Tk.wr hd) _ _ t⟩, ⟨fv, by rw [upd_ne n1.symm]; exact hf, TpAll.keep (Tk.wr hd) _ _ tf⟩⟩
theorem Drw.setF (h : Drw H0 H b D Fo m ds gs) {fv fv1 : List V} {gs1 : List Gd9} (hf : H Fo = some (.lst fv)) (t : TpAll H fv1 (gs1.map Gd9.d)) : Drw H0 (upd H Fo (.lst fv1)) b D Fo m ds gs1 := by
  obtain ⟨kp, bg, n1, n2, n3, d0, f0, ⟨dv, hd, td⟩, _⟩ := h
  exact ⟨kp.wr f0, bg.ne n3, n1, n2, n3, d0, f0, ⟨dv, by rw [upd_ne n1]; exact hd, TpAll.keep (Tk.wr hf) _ _ td⟩, ⟨fv1, upd_same, TpAll.keep (Tk.wr hf) _ _ t⟩⟩
end
theorem lst_ne {H : Hp} {a b : Addr} {n : Nat} {zs : List Str} (h : H a = some (.lst (zs.map V.str))) (hB : Bag H b n) : a ≠ b := strs_ne_bag h hB
def spCde : Sp := fun vs H Q _ => ∃ (b la na w : Addr) (n : Nat) (av : List V) (fl : List Fl) (zs : List Str), vs = [.ref b, .ref la, .ref na, .ref w] ∧ Bag H b n ∧ n + 100 ≤ most ∧ H la = some (.lst av) ∧ la ≠ b ∧ TpAll H av (fl.map Fl.d) ∧ fl.length ≤ 6 ∧ H na = some (.lst (zs.map V.str)) ∧ zs ≠ [] ∧ zs.length ≤ 12 ∧ H w = some (.lst []) ∧ w ≠ b ∧
  ∀ (t dt fo : Addr) (fv : List V) (ds : List Dd9) (gs : List Gd9) (H' : Hp), H' t = some (.tup [.ref dt, .ref fo]) → Tp H' (.ref dt) (.tuple (ds.map Dd9.d)) → H fo = none → H' fo = some (.lst fv) → TpAll H' fv (gs.map Gd9.d) → ds.length ≤ 6 → 1 ≤ ds.length → CdOk fl ds gs → (∃ r, zs = gs.map Gd9.nam ++ r) → Kp b H H' → Bag H' b (n + 40) → Q (.ref t) H'
section
variable {P : Program} {w : World} {K : PySem.W.Frag} {mg : Str → Option Value} {base : Heap}
theorem scCde : FnScope nCde pCde (defScope sCde) := ⟨rfl, rfl, rfl, by decide +kernel, rfl, by decide +kernel, by decide +kernel⟩
theorem ok_cde {f : Addr} {fd : FuncData} (F : Fun K "_law_call_deeds" "_law_call_deeds" sCde f fd) (G : Glb mg) (DT : Has P w K mg base "_law_take" 1 pTk9 spTake) : FnOk P w K mg base CX0 2 f fd pCde spCde := by
  refine F.ok scCde (fun vs H Q E h => ?_) (fun cdv A outer s H vs Q E hr h => ?_)
  · obtain ⟨b, la, na, w, n, av, fl, zs, rfl, _⟩ := h
    rfl
  · obtain ⟨b, la, na, w, n, av, fl, zs, rfl, hB, hn, hla, nla, tav, lfl, hna, zne, lzs, hw, nw, q⟩ := h
    have hm : most = 1000000 := rfl
    have nna : na ≠ b := strs_ne_bag hna hB
    have lav : av.length = fl.length := by rw [tav.length, List.length_map]
    refine ⟨_, (pss_cons (ps_par (i := 4) (j := 5) rfl scCde.nd rfl rfl (by decide) rfl rfl (pa_cons (pe_lst pa_nil) (pa_cons (pe_lst pa_nil) pa_nil)) (by rfl))
      (C8.pss_cut (ps_for PassesOwn.never rfl (pi_range1 rfl G.range (pa_cons (pe_has DT (hr.mono (by omega)) rfl (pa_cons (pv 0) (pa_cons pe_int pa_nil))) pa_nil)) (pg_name (i := 6) scCde.nd rfl (Or.inl rfl))
      (pss_one (ps_expr (pe_bm PySem.F.plainAttrs_list PySem.F.slot_list_append PySem.F.type_list_append mt_append (pv 4) (pa_cons (pe_mid (pe_ix ix_list (pe_lst (pa_cons (pe_tup (pa_cons pe_str (pa_cons pe_str (pa_cons pe_str pa_nil)))) (pa_cons (pe_tup (pa_cons pe_str (pa_cons pe_str (pa_cons pe_str (pa_cons pe_str pa_nil))))) pa_nil))) (pe_has DT (hr.mono (by omega)) rfl (pa_cons (pv 0) (pa_cons pe_int pa_nil))) (fun _ _ => rfl))) pa_nil)))))
      (pss_cons (ps_set (i := 7) scCde.nd rfl (Or.inl rfl) (pe_callTy call_list_of (by rfl) G.list (by decide +kernel) (pa_cons (pv 2) pa_nil)))
      (pss_cons (ps_if (PW.pt (pw_and (pt_cmpR (op_neM9 hr.units) (pv 3) (pe_lst pa_nil) (nomark _)) (pw_and1 (pt_cmpR op_gt (pe_has DT (hr.mono (by omega)) rfl (pa_cons (pv 0) (pa_cons pe_int pa_nil))) pe_int (nomark _)))))
      pss_never
      pss_nil)
      (pss_cons (ps_expr (pe_bm PySem.F.plainAttrs_list PySem.F.slot_list_append PySem.F.type_list_append mt_append (pv 5) (pa_cons (pe_tup (pa_cons (pe_ix ix_list (pv 7) pe_int (fun _ _ => rfl)) (pa_cons pe_str (pa_cons pe_str pa_nil)))) pa_nil)))
      (pss_cons (ps_expr (pe_bm PySem.F.plainAttrs_list PySem.F.slot_list_append PySem.F.type_list_append mt_append (pv 4) (pa_cons (pe_tup (pa_cons pe_str (pa_cons (pe_bm PySem.F.plainAttrs_list PySem.F.slot_list_pop PySem.F.type_list_pop mt_popAt (pv 7) (pa_cons pe_int pa_nil)) (pa_cons pe_str pa_nil)))) pa_nil)))
      (C8.pss_cut (ps_for PassesOwn.never rfl (pi_list (pv 1)) (pg_tup rfl (pgs_cons (pg_name (i := 11) scCde.nd rfl (Or.inl rfl)) (pgs_cons (pg_name (i := 12) scCde.nd rfl (Or.inl rfl)) (pgs_cons (pg_name (i := 13) scCde.nd rfl (Or.inl rfl)) (pgs_cons (pg_name (i := 14) scCde.nd rfl (Or.inl rfl)) pgs_nil)))))
      (pss_one (ps_if (PW.pt (pw_and (pt_cmpR op_lt (pe_callB call_len_seq (by rfl) G.len (by decide +kernel) (pa_cons (pv 4) pa_nil)) pe_int (nomark _)) (pw_and (pt_cmpR (op_neM9 hr.units) (pv 7) (pe_lst pa_nil) (nomark _)) (pw_and1 (pt_cmpR op_eq (pe_has DT (hr.mono (by omega)) rfl (pa_cons (pv 0) (pa_cons pe_int pa_nil))) pe_int (nomark _))))))
      (pss_cons (ps_expr (pe_bm PySem.F.plainAttrs_list PySem.F.slot_list_append PySem.F.type_list_append mt_append (pv 5) (pa_cons (pe_tup (pa_cons (pe_ix ix_list (pv 7) pe_int (fun _ _ => rfl)) (pa_cons (pv 13) (pa_cons (pe_mid (pe_ifExp (pt_cmpR op_eq (pv 14) pe_str (nomark _)) pe_str (pe_ix ix_list (pe_lst (pa_cons pe_str (pa_cons pe_str pa_nil))) (pe_has DT (hr.mono (by omega)) rfl (pa_cons (pv 0) (pa_cons pe_int pa_nil))) (fun _ _ => rfl)))) pa_nil)))) pa_nil)))
      (pss_one (ps_expr (pe_bm PySem.F.plainAttrs_list PySem.F.slot_list_append PySem.F.type_list_append mt_append (pv 4) (pa_cons (pe_tup (pa_cons pe_str (pa_cons (pe_bm PySem.F.plainAttrs_list PySem.F.slot_list_pop PySem.F.type_list_pop mt_popAt (pv 7) (pa_cons pe_int pa_nil)) (pa_cons (pv 12) pa_nil)))) pa_nil)))))
      pss_nil)))
      (pss_cons (ps_set (i := 15) scCde.nd rfl (Or.inl rfl) (pe_has DT (hr.mono (by omega)) rfl (pa_cons (pv 0) (pa_cons (pe_callB call_len_seq (by rfl) G.len (by decide +kernel) (pa_cons (pv 4) pa_nil)) pa_nil))))
      (C8.pss_cut (ps_if (PW.pt (pw_and (pt_cmpR op_in_seq (pe_ix ix_tup (pe_ix ix_list (pv 4) (pv 15) (fun _ _ => rfl)) pe_int (fun _ _ => rfl)) (pe_tup (pa_cons pe_str (pa_cons pe_str pa_nil))) rfl) (pw_and1 (pt_cmpR op_eq (pe_has DT (hr.mono (by omega)) rfl (pa_cons (pv 0) (pa_cons pe_int pa_nil))) pe_int (nomark _)))))
      (pss_one (ps_expr (pe_bm PySem.F.plainAttrs_list PySem.F.slot_list_append PySem.F.type_list_append mt_append (pv 4) (pa_cons (pe_bm PySem.F.plainAttrs_list PySem.F.slot_list_pop PySem.F.type_list_pop mt_popAt (pv 4) (pa_cons (pv 15) pa_nil)) pa_nil))))
      pss_nil)
      (pss_one (ps_ret (pe_tup (pa_cons (pe_callTy call_tuple_of (by rfl) G.tuple (by decide +kernel) (pa_cons (pv 4) pa_nil)) (pa_cons (pv 5) pa_nil)))))))))))))), ?_⟩
    refine ⟨Nat.zero_le _, fun D hD => ⟨Nat.zero_le _, fun Fo hFo => ⟨_, _, rfl, ?_⟩⟩⟩
    have hFo0 : H Fo = none := (Same.new hD).free hFo
    have nDF : D ≠ Fo := ne_of_none upd_same hFo
    have dr0 : Drw H (upd (upd H D (.lst [])) Fo (.lst [])) b D Fo n [] [] := ⟨(Kp.refl.new hD).new hFo, (hB.new hD).new hFo, nDF, new_ne hD hB, new_ne hFo0 hB, hD, hFo0, ⟨[], hup hFo upd_same, .nil⟩, ⟨[], upd_same, .nil⟩⟩
    generalize (upd (upd H D (.lst [])) Fo (.lst [])) = H1 at *
    refine ⟨fun σ H' => ∃ (ds : List Dd9) (a6 : Option V), σ = [some (.ref b), some (.ref la), some (.ref na), some (.ref w), some (.ref D), some (.ref Fo), a6, none, none, none, none, none, none, none, none, none] ∧ Drw H H' b D Fo (n + 5) ds [] ∧ ds.length ≤ 2 ∧ ∀ d ∈ ds, d.sets = none, ?_, ?_⟩
    · refine ⟨_, rfl, b, 3, n, rfl, by decide, by decide, dr0.bg, by omega, fun d H2 d0 d1 k2 b2 => ?_⟩
      refine ⟨d, rfl, by omega, by omega, ?_⟩
      refine for_range (lo := 0) (n := d.toNat) (fun i σ H3 => ∃ (ds : List Dd9) (a6 : Option V), σ = [some (.ref b), some (.ref la), some (.ref na), some (.ref w), some (.ref D), some (.ref Fo), a6, none, none, none, none, none, none, none, none, none] ∧ Drw H H3 b D Fo (n + 1 + i) ds [] ∧ ds.length = i ∧ ∀ d ∈ ds, d.sets = none) ?_ ?_ ?_
      · exact ⟨[], _, rfl, dr0.take k2 b2, rfl, fun d h => nomatch h⟩
      · rintro i σ H3 hi ⟨ds, a6, rfl, dr, lds, sn⟩
        obtain ⟨dv, hdv, tdv⟩ := dr.dl
        refine ⟨_, rfl, .inl ⟨rfl, _, SqL.of hdv⟩, fun v H4 => ∃ dd : Dd9, Tp H4 v dd.d ∧ dd.sets = none ∧ Drw H H4 b D Fo (n + 1 + (i + 1)) ds [], ?_, ?_⟩
        · refine ⟨(by show 3 ≤ sizeLine; decide), fun t1 ht1 => ⟨(by show 4 ≤ sizeLine; decide), fun t2 ht2 => ⟨(by show 2 ≤ sizeLine; decide), fun l hl => ?_⟩⟩⟩
          have S3 : Same H3 (upd (upd (upd H3 t1 (.tup [.str "add", .str "who", .str "sum"])) t2 (.tup [.str "take", .str "who", .str "sum", .str "short"])) l (.lst [.ref t1, .ref t2])) := ((Same.new ht1).trans (Same.new ht2)).trans (Same.new hl)
          have e1 : (upd (upd (upd H3 t1 (.tup [.str "add", .str "who", .str "sum"])) t2 (.tup [.str "take", .str "who", .str "sum", .str "short"])) l (.lst [.ref t1, .ref t2])) t1 = some (.tup [.str "add", .str "who", .str "sum"]) := hup hl (hup ht2 upd_same)
          have e2 : (upd (upd (upd H3 t1 (.tup [.str "add", .str "who", .str "sum"])) t2 (.tup [.str "take", .str "who", .str "sum", .str "short"])) l (.lst [.ref t1, .ref t2])) t2 = some (.tup [.str "take", .str "who", .str "sum", .str "short"]) := hup hl upd_same
          have e3 : (upd (upd (upd H3 t1 (.tup [.str "add", .str "who", .str "sum"])) t2 (.tup [.str "take", .str "who", .str "sum", .str "short"])) l (.lst [.ref t1, .ref t2])) l = some (.lst [.ref t1, .ref t2]) := upd_same
          generalize (upd (upd (upd H3 t1 (.tup [.str "add", .str "who", .str "sum"])) t2 (.tup [.str "take", .str "who", .str "sum", .str "short"])) l (.lst [.ref t1, .ref t2])) = H4 at *
          have dr4 := dr.same S3
          refine ⟨_, rfl, b, 2, _, rfl, by decide, by decide, dr4.bg, by omega, fun x H5 x0 x1 k5 b5 => ?_⟩
          have nlb : l ≠ b := fun e => by
            obtain ⟨_, _, _, z, _⟩ := dr4.bg
            rw [← e, e3] at z
            cases z
          have dr5 := dr4.take k5 b5
          have f3 := k5 _ _ nlb e3
          have tk5 := k5.tk dr4.bg
          rcases (by omega : x = 0 ∨ x = 1) with rfl | rfl
          · exact ⟨l, _, _, _, rfl, rfl, SqL.of f3, rfl, .add, .tup (tk5 _ _ e1) (.cons (.str _) (.cons (.str _) (.cons (.str _) .nil))), rfl, dr5⟩
          · exact ⟨l, _, _, _, rfl, rfl, SqL.of f3, rfl, .take, .tup (tk5 _ _ e2) (.cons (.str _) (.cons (.str _) (.cons (.str _) (.cons (.str _) .nil)))), rfl, dr5⟩
        · rintro v H4 ⟨dd, tv, sd, dr4⟩
          obtain ⟨dv, hdv, tdv⟩ := dr4.dl
          have ldv : dv.length = ds.length := by rw [tdv.length, List.length_map]
          refine ⟨D, _, _, rfl, rfl, hdv, Nat.lt_of_le_of_lt (show dv.length ≤ 100 by omega) (by decide), ds ++ [dd], _, rfl, ?_, by rw [List.length_append, lds]; rfl, fun d hd => (List.mem_append.mp hd).elim (sn d) fun h => by rw [List.mem_singleton.mp h]; exact sd⟩
          refine dr4.setD hdv ?_
          rw [List.map_append]
          exact TpAll.app tdv (TpAll.one tv)
      · rintro σ H3 ⟨ds, a6, rfl, dr, lds, sn⟩
        exact ⟨ds, a6, rfl, dr.mono (by omega), by omega, sn⟩
    rintro σ H2 ⟨ds, a6, rfl, dr2, lds, sn⟩
    have hna2 := dr2.kp _ _ nna hna
    refine ⟨_, rfl, na, _, rfl, .inl (SqL.of hna2), fun N hN => ?_⟩
    have dr3 := dr2.same (Same.new (o := .lst (zs.map V.str)) hN)
    have h3N : (upd H2 N (.lst (zs.map V.str))) N = some (.lst (zs.map V.str)) := upd_same
    have nN0 : H N = none := dr2.kp.free dr2.bg.at hN
    have nNb : N ≠ b := new_ne hN dr2.bg
    have nND : N ≠ D := fun e => by
      obtain ⟨dv, hdv, _⟩ := dr2.dl
      rw [e, hdv] at hN
      cases hN
    have nNF : N ≠ Fo := fun e => by
      obtain ⟨dv, hdv, _⟩ := dr2.fl
      rw [e, hdv] at hN
      cases hN
    generalize upd H2 N (.lst (zs.map V.str)) = H3 at *
    refine ⟨_, rfl, Nat.zero_le _, fun e he => ?_⟩
    have dr4 := dr3.same (Same.new (o := .lst []) he)
    have h4N := hup (o := .lst []) he h3N
    have h4w := hup (o := .lst []) he (dr3.kp _ _ nw hw)
    refine ⟨w, e, [], rfl, rfl, SqL.of h4w, SqL.of upd_same, _, rfl, iteF ?_⟩
    generalize upd H3 e (.lst []) = H4 at *
    obtain ⟨z0, zr, rfl⟩ : ∃ z0 zr, zs = z0 :: zr := by
      cases zs with
      | nil => exact absurd rfl zne
      | cons z0 zr => exact ⟨z0, zr, rfl⟩
    -- the first field is told
    obtain ⟨fv, hfv, tfv⟩ := dr4.fl
    have lfv : fv = [] := tfv.inil
    subst lfv
    refine ⟨_, rfl, .inl ⟨rfl, _, SqL.of hfv⟩, _, rfl, N, _, _, _, rfl, rfl, SqL.of h4N, atI_nat (xs := (z0 :: zr).map V.str) (i := 0) rfl, (by show 3 ≤ sizeLine; decide), fun t ht => ?_⟩
    have S5 := Same.new (H := H4) (o := .tup [.str z0, .str "whole", .str "must"]) ht
    have dr5 := dr4.same S5
    have h5N := S5 _ _ h4N
    have h5F := S5 _ _ hfv
    have h5t : (upd H4 t (.tup [.str z0, .str "whole", .str "must"])) t = some (.tup [.str z0, .str "whole", .str "must"]) := upd_same
    generalize (upd H4 t (.tup [.str z0, .str "whole", .str "must"])) = H5 at *
    refine ⟨Fo, _, _, rfl, rfl, h5F, (by show 0 < sizeLine; decide), ?_⟩
    have dr6 : Drw H (upd H5 Fo (.lst ([] ++ [.ref t]))) b D Fo (n + 5) ds [⟨z0, .one .whole, true⟩] := dr5.setF h5F (.cons (.tup h5t (.cons (.str _) (.cons (.str _) (.cons (.str _) .nil)))) .nil)
    have h6N : (upd H5 Fo (.lst ([] ++ [.ref t]))) N = some (.lst ((z0 :: zr).map V.str)) := by rw [upd_ne nNF]; exact h5N
    generalize upd H5 Fo (.lst ([] ++ [.ref t])) = H6 at *
    -- and the deed that tells it
    obtain ⟨dv, hdv, tdv⟩ := dr6.dl
    refine ⟨_, rfl, .inl ⟨rfl, _, SqL.of hdv⟩, _, rfl, .inl ⟨rfl, _, SqL.of h6N⟩, N, _, 0, 0, _, rfl, rfl, h6N, by decide, by decide, seq_at9 (by decide) (by rw [List.length_map, List.length_cons]; omega), rfl, (by show 3 ≤ sizeLine; decide), fun t2 ht2 => ?_⟩
    have dr7 : Drw H (upd H6 N (.lst (((z0 :: zr).map V.str).eraseIdx 0))) b D Fo (n + 5) ds [⟨z0, .one .whole, true⟩] := dr6.wr h6N nN0 nND nNF nNb
    have h7N : (upd H6 N (.lst (((z0 :: zr).map V.str).eraseIdx 0))) N = some (.lst (zr.map V.str)) := upd_same
    generalize (upd H6 N (.lst (((z0 :: zr).map V.str).eraseIdx 0))) = H7 at *
    have S8 := Same.new (H := H7) (o := .tup [.str "tell", .str z0, .str "who"]) ht2
    have dr8 := dr7.same S8
    have h8N := S8 _ _ h7N
    have h8t : (upd H7 t2 (.tup [.str "tell", .str z0, .str "who"])) t2 = some (.tup [.str "tell", .str z0, .str "who"]) := upd_same
    generalize (upd H7 t2 (.tup [.str "tell", .str z0, .str "who"])) = H8 at *
    obtain ⟨dv8, hdv8, tdv8⟩ := dr8.dl
    have ldv8 : dv8.length = ds.length := by rw [tdv8.length, List.length_map]
    refine ⟨D, _, _, rfl, rfl, hdv8, Nat.lt_of_le_of_lt (show dv8.length ≤ 100 by omega) (by decide), ?_⟩
    have dr9 : Drw H (upd H8 D (.lst (dv8 ++ [.ref t2]))) b D Fo (n + 5) (ds ++ [.tell z0]) [⟨z0, .one .whole, true⟩] := dr8.setD hdv8 (by
      rw [List.map_append]
      exact TpAll.app tdv8 (TpAll.one (.tup h8t (.cons (.str _) (.cons (.str _) (.cons (.str _) .nil))))))
    have h9N : (upd H8 D (.lst (dv8 ++ [.ref t2]))) N = some (.lst (zr.map V.str)) := by rw [upd_ne nND]; exact h8N
    generalize (upd H8 D (.lst (dv8 ++ [.ref t2]))) = H9 at *
    have lds3 : 1 ≤ (ds ++ [Dd9.tell z0]).length ∧ (ds ++ [Dd9.tell z0]).length ≤ 3 := by
      rw [List.length_append]
      show 1 ≤ ds.length + 1 ∧ ds.length + 1 ≤ 3
      omega
    have ok9 : CdOk fl (ds ++ [Dd9.tell z0]) [⟨z0, .one .whole, true⟩] := by
      refine ⟨?_, fun d hd => ?_, fun g hg => ?_, (fun e => nomatch e)⟩
      · rw [List.filterMap_append, List.filterMap_eq_nil_iff.mpr sn]
        rfl
      · rcases List.mem_append.mp hd with h | h
        · have e := sn d h
          cases d with
          | take => exact True.intro
          | add => exact True.intro
          | tell f => cases e
          | copy f g => cases e
        · rw [List.mem_singleton.mp h]
          exact ⟨_, List.mem_singleton.mpr rfl, rfl, rfl⟩
      · rw [List.mem_singleton.mp hg]
        exact .inl rfl
    generalize ds ++ [Dd9.tell z0] = ds9 at *
    have lzr : zr.length ≤ 12 := by
      rw [List.length_cons] at lzs
      omega
    -- copies
    generalize ezs : z0 :: zr = zs at *
    refine ⟨fun σ H' => ∃ (ds : List Dd9) (gs : List Gd9) (a6 a11 a12 a13 a14 : Option V), σ = [some (.ref b), some (.ref la), some (.ref na), some (.ref w), some (.ref D), some (.ref Fo), a6, some (.ref N), none, none, none, a11, a12, a13, a14, none] ∧ Drw H H' b D Fo (n + 25) ds gs ∧ 1 ≤ ds.length ∧ ds.length ≤ 6 ∧ gs.length ≤ 10 ∧ CdOk fl ds gs ∧ (∃ r, zs = gs.map Gd9.nam ++ r), ?_, ?_⟩
    · refine ⟨_, rfl, la, rfl, ⟨_, SqL.of (dr9.kp _ _ nla hla)⟩, ?_⟩
      refine for_list (K := K) (a := la) (xs := av) (fun i σ H' => ∃ (ds : List Dd9) (gs : List Gd9) (zr : List Str) (a11 a12 a13 a14 : Option V), σ = [some (.ref b), some (.ref la), some (.ref na), some (.ref w), some (.ref D), some (.ref Fo), a6, some (.ref N), none, none, none, a11, a12, a13, a14, none] ∧ Drw H H' b D Fo (n + 5 + 2 * i) ds gs ∧ H' N = some (.lst (zr.map V.str)) ∧ zr.length ≤ 12 ∧ 1 ≤ ds.length ∧ ds.length ≤ 6 ∧ gs.length ≤ 1 + i ∧ CdOk fl ds gs ∧ zs = gs.map Gd9.nam ++ zr) ?_ ?_ ?_ ?_
      · exact ⟨ds9, _, zr, _, _, _, _, rfl, dr9, h9N, lzr, lds3.1, by omega, Nat.le_refl _, ok9, ezs.symm⟩
      · rintro i σ H3 _ ⟨_, _, _, _, _, _, _, _, dr, _⟩
        exact SqL.of (dr.kp _ _ nla hla)
      · rintro i x σ HA hx ⟨ds, gs, zr, a11, a12, a13, a14, rfl, drA, hAN, lzr, l1, l6, lgs, okA, ezA⟩
        have hi6 : i < 6 := by
          have := (List.getElem?_eq_some_iff.mp hx).1
          omega
        obtain ⟨g, t, u, hg, rfl, ht, tu⟩ := flds_at (TpAll.keep (drA.kp.tk hB) _ _ tav) hx
        refine ⟨t, _, rfl, SqT.of ht, rfl, _, _, rfl, _, _, rfl, _, _, rfl, _, _, rfl, rfl, ?_⟩
        obtain ⟨dv, hdv, tdv⟩ := drA.dl
        have ldv : dv.length = ds.length := by rw [tdv.length, List.length_map]
        refine ⟨_, rfl, D, _, rfl, .inl (SqL.of hdv), _, _, rfl, rfl, _, rfl, ite2 (fun c1 => ?_) (fun _ => iteF ⟨ds, gs, zr, _, _, _, _, rfl, drA.mono (by omega), hAN, lzr, l1, l6, by omega, okA, ezA⟩)⟩
        have c1' : (dv.length : Int) < 6 := of_decide_eq_true c1
        have l5 : ds.length < 6 := by omega
        refine ⟨_, rfl, Nat.zero_le _, fun e he => ?_⟩
        have SB := Same.new (H := HA) (o := .lst []) he
        have drB := drA.same SB
        have hBN := SB _ _ hAN
        have htB := SB _ _ ht
        have tuB := Tp.keep (Same.tk SB) _ _ tu
        refine ⟨N, e, _, rfl, rfl, SqL.of hBN, SqL.of upd_same, _, rfl, ?_⟩
        generalize upd HA e (.lst []) = HB at *
        cases zr with
        | nil => exact iteF (iteF ⟨ds, gs, [], _, _, _, _, rfl, drB.mono (by omega), hBN, lzr, l1, l6, by omega, okA, ezA⟩)
        | cons z0 zr =>
          refine iteT ?_
          refine ⟨_, rfl, b, 3, _, rfl, by decide, by decide, drB.bg, by omega, fun y HC y0 y1 kC bC => ?_⟩
          have drC := drB.take kC bC
          have hCN := kC _ _ nNb hBN
          have htC := kC.tk drB.bg _ _ htB
          have tuC := Tp.keep (kC.tk drB.bg) _ _ tuB
          refine ⟨rfl, _, rfl, ite2 (fun _ => ?_) (fun _ => ⟨ds, gs, z0 :: zr, _, _, _, _, rfl, drC.mono (by omega), hCN, lzr, l1, l6, by omega, okA, ezA⟩)⟩
          obtain ⟨fv, hfv, tfv⟩ := drC.fl
          refine ⟨_, rfl, .inl ⟨rfl, _, SqL.of hfv⟩, _, rfl, N, _, _, _, rfl, rfl, SqL.of hCN, atI_nat (xs := (z0 :: zr).map V.str) (i := 0) rfl, _, rfl, fun v HD => ∃ bb : Bool, v = .str (needS bb) ∧ (g.must = true ∨ bb = false) ∧ Kp b HC HD ∧ Bag HD b (n + 5 + 2 * i + 2), ?_, ?_⟩
          · refine ⟨_, rfl, rfl, _, rfl, ite2 (fun _ => ?_) (fun nm => ?_)⟩
            · exact ⟨false, rfl, .inr rfl, Kp.refl, drC.bg.mono (by omega)⟩
            · have gm : g.must = true := by
                cases e : g.must with
                | true => rfl
                | false => rw [e] at nm; exact absurd (by decide : decide (V.str (needS false) = V.str "may") = true) nm
              refine ⟨(by show 2 ≤ sizeLine; decide), fun l hl => ?_⟩
              refine ⟨_, rfl, b, 2, _, rfl, by decide, by decide, drC.bg.new hl, by omega, fun x HE x0 x1 kE bE => ?_⟩
              have eE := kE _ _ (new_ne hl drC.bg) upd_same
              rcases (by omega : x = 0 ∨ x = 1) with rfl | rfl
              · exact ⟨l, _, _, _, rfl, rfl, SqL.of eE, rfl, true, rfl, .inl gm, (Kp.refl.new hl).trans kE, bE⟩
              · exact ⟨l, _, _, _, rfl, rfl, SqL.of eE, rfl, false, rfl, .inr rfl, (Kp.refl.new hl).trans kE, bE⟩
          · rintro v HD ⟨bb, rfl, hbb, kD, bD⟩
            have drD := drC.take kD bD
            have hDN := kD _ _ nNb hCN
            have tuD := Tp.keep (kD.tk drC.bg) _ _ tuC
            obtain ⟨fv, hfv, tfv⟩ := drD.fl
            have lfv : fv.length = gs.length := by rw [tfv.length, List.length_map]
            refine ⟨(by show 3 ≤ sizeLine; decide), fun t3 ht3 => ?_⟩
            have SE := Same.new (H := HD) (o := .tup [.str z0, u, .str (needS bb)]) ht3
            have drE := drD.same SE
            have hEN := SE _ _ hDN
            have hEF := SE _ _ hfv
            have tfE := TpAll.keep (Same.tk SE) _ _ tfv
            have tuE := Tp.keep (Same.tk SE) _ _ tuD
            have hEt : (upd HD t3 (.tup [.str z0, u, .str (needS bb)])) t3 = some (.tup [.str z0, u, .str (needS bb)]) := upd_same
            generalize (upd HD t3 (.tup [.str z0, u, .str (needS bb)])) = HE at *
            refine ⟨Fo, _, _, rfl, rfl, hEF, Nat.lt_of_le_of_lt (show fv.length ≤ 100 by omega) (by decide), ?_⟩
            have drF : Drw H (upd HE Fo (.lst (fv ++ [.ref t3]))) b D Fo (n + 5 + 2 * i + 2) ds (gs ++ [⟨z0, g.kd, bb⟩]) := drE.setF hEF (by
              rw [List.map_append]
              exact TpAll.app tfE (TpAll.one (.tup hEt (.cons (.str _) (.cons tuE (.cons (.str _) .nil))))))
            have hFN : (upd HE Fo (.lst (fv ++ [.ref t3]))) N = some (.lst ((z0 :: zr).map V.str)) := by rw [upd_ne nNF]; exact hEN
            generalize (upd HE Fo (.lst (fv ++ [.ref t3]))) = HF at *
            obtain ⟨dv, hdv, tdv⟩ := drF.dl
            refine ⟨_, rfl, .inl ⟨rfl, _, SqL.of hdv⟩, _, rfl, .inl ⟨rfl, _, SqL.of hFN⟩, N, _, 0, 0, _, rfl, rfl, hFN, by decide, by decide, seq_at9 (by decide) (by rw [List.length_map, List.length_cons]; omega), rfl, _, rfl, (by show 3 ≤ sizeLine; decide), fun t4 ht4 => ?_⟩
            have drG : Drw H (upd HF N (.lst (((z0 :: zr).map V.str).eraseIdx 0))) b D Fo (n + 5 + 2 * i + 2) ds (gs ++ [⟨z0, g.kd, bb⟩]) := drF.wr hFN nN0 nND nNF nNb
            have hGN : (upd HF N (.lst (((z0 :: zr).map V.str).eraseIdx 0))) N = some (.lst (zr.map V.str)) := upd_same
            generalize (upd HF N (.lst (((z0 :: zr).map V.str).eraseIdx 0))) = HG at *
            have SI := Same.new (H := HG) (o := .tup [.str "copy", .str z0, .str g.nam]) ht4
            have drI := drG.same SI
            have hIN := SI _ _ hGN
            have hIt : (upd HG t4 (.tup [.str "copy", .str z0, .str g.nam])) t4 = some (.tup [.str "copy", .str z0, .str g.nam]) := upd_same
            generalize (upd HG t4 (.tup [.str "copy", .str z0, .str g.nam])) = HI at *
            obtain ⟨dvI, hdvI, tdvI⟩ := drI.dl
            have ldvI : dvI.length = ds.length := by rw [tdvI.length, List.length_map]
            refine ⟨D, _, _, rfl, rfl, hdvI, Nat.lt_of_le_of_lt (show dvI.length ≤ 100 by omega) (by decide), ?_⟩
            refine ⟨ds ++ [.copy z0 g.nam], gs ++ [⟨z0, g.kd, bb⟩], zr, _, _, _, _, rfl, ?_, ?_, by rw [List.length_cons] at lzr; omega, by rw [List.length_append]; omega, by rw [List.length_append]; show ds.length + 1 ≤ 6; omega, by rw [List.length_append]; show gs.length + 1 ≤ 1 + (i + 1); omega, ?_, by rw [ezA, List.map_append, List.append_assoc]; rfl⟩
            · exact (drI.setD hdvI (by
                rw [List.map_append]
                exact TpAll.app tdvI (TpAll.one (.tup hIt (.cons (.str _) (.cons (.str _) (.cons (.str _) .nil))))))).mono (by omega)
            · rw [upd_ne nND]
              exact hIN
            · have hgm : g ∈ fl := List.mem_of_getElem? hg
              refine ⟨?_, fun d hd => ?_, fun q hq => ?_, (fun e => List.cons_ne_nil _ _ (List.append_eq_nil_iff.mp e).2)⟩
              · rw [List.filterMap_append, okA.set, List.map_append]
                rfl
              · rcases List.mem_append.mp hd with h | h
                · exact (okA.ok d h).app
                · rw [List.mem_singleton.mp h]
                  exact ⟨_, List.mem_append_right _ (List.mem_singleton.mpr rfl), rfl, g, hgm, rfl, rfl, hbb⟩
              · rcases List.mem_append.mp hq with h | h
                · exact okA.kd q h
                · rw [List.mem_singleton.mp h]
                  exact .inr ⟨g, hgm, rfl⟩
      · rintro σ H' ⟨ds, gs, zr, a11, a12, a13, a14, rfl, dr, _, _, l1, l6, lgs, okA, ezA⟩
        exact ⟨ds, gs, _, _, _, _, _, rfl, dr.mono (by omega), l1, l6, by omega, okA, _, ezA⟩
    rintro σ HA ⟨ds, gs, b6, b11, b12, b13, b14, rfl, drA, l1, l6, lgs, okA, ezA⟩
    obtain ⟨dv, hdv, tdv⟩ := drA.dl
    have ldv : dv.length = ds.length := by rw [tdv.length, List.length_map]
    refine ⟨_, rfl, _, rfl, D, _, rfl, .inl (SqL.of hdv), b, _, _, rfl, by omega, by omega, drA.bg, by omega, fun y HB y0 y1 kB bB => ?_⟩
    have drB := drA.take kB bB
    refine ⟨fun σ H' => ∃ (ds : List Dd9) (a6 a11 a12 a13 a14 a15 : Option V), σ = [some (.ref b), some (.ref la), some (.ref na), some (.ref w), some (.ref D), some (.ref Fo), a6, some (.ref N), none, none, none, a11, a12, a13, a14, a15] ∧ Drw H H' b D Fo (n + 30) ds gs ∧ ds.length ≤ 6 ∧ 1 ≤ ds.length ∧ CdOk fl ds gs, ?_, ?_⟩
    · obtain ⟨dvB, hdvB, tdvB⟩ := drB.dl
      have ldvB : dvB.length = ds.length := by rw [tdvB.length, List.length_map]
      obtain ⟨v, ev, ev2, hv⟩ := atI_in (xs := dvB) (i := y) y0 (by omega)
      obtain ⟨dd, hd1, td⟩ := tdvB.get' ev2
      obtain ⟨d1, hd2, rfl⟩ : ∃ d1, ds[y.toNat]? = some d1 ∧ dd = d1.d := by
        rw [List.getElem?_map] at hd1
        cases e : ds[y.toNat]? with
        | none => rw [e] at hd1; cases hd1
        | some d1 => rw [e] at hd1; exact ⟨d1, rfl, (Option.some.inj hd1).symm⟩
      obtain ⟨t, rfl, ht⟩ := Dd9.inv td
      refine ⟨_, rfl, _, rfl, D, _, _, _, rfl, rfl, SqL.of hdvB, ev, t, _, _, _, rfl, rfl, SqT.of ht, (by cases d1 <;> rfl : atI (d1.ps.map V.str) 0 = some (.str (d1.ps.headD ""))), (by show 2 ≤ sizeLine; decide), fun t2 ht2 => ?_⟩
      have SC := Same.new (H := HB) (o := .tup [.str "add", .str "take"]) ht2
      have drC := drB.same SC
      have hCD := SC _ _ hdvB
      have hCt : (upd HB t2 (.tup [.str "add", .str "take"])) t2 = some (.tup [.str "add", .str "take"]) := upd_same
      have tdC := TpAll.keep (Same.tk SC) _ _ tdvB
      generalize (upd HB t2 (.tup [.str "add", .str "take"])) = HC at *
      refine ⟨t2, _, rfl, .inr (SqT.of hCt), rfl, rfl, _, rfl, ite2 (fun hin => ?_) (fun _ => iteF ⟨ds, _, _, _, _, _, _, rfl, drC.mono (by omega), l6, l1, okA⟩)⟩
      refine ⟨_, rfl, b, 2, _, rfl, by decide, by decide, drC.bg, by omega, fun x HE x0 x1 kE bE => ?_⟩
      have drE := drC.take kE bE
      have hED := kE _ _ drC.nDb hCD
      have tdE := TpAll.keep (kE.tk drC.bg) _ _ tdC
      refine ⟨rfl, _, rfl, ite2 (fun _ => ?_) (fun _ => ⟨ds, _, _, _, _, _, _, rfl, drE.mono (by omega), l6, l1, okA⟩)⟩
      have tt : Tp HE (.ref t) d1.d := by
        obtain ⟨d', h1, h2⟩ := tdE.get' ev2
        rw [List.getElem?_map, hd2] at h1
        cases h1
        exact h2
      refine ⟨_, rfl, .inl ⟨rfl, _, SqL.of hED⟩, _, rfl, .inl ⟨rfl, _, SqL.of hED⟩, _, rfl, D, _, y, y.toNat, _, rfl, rfl, hED, by omega, by omega, ?_, ev2, D, _, _, rfl, rfl, upd_same, ?_, ?_⟩
      · exact seq_at9 y0 (by omega)
      · rw [List.length_eraseIdx]
        refine Nat.lt_of_le_of_lt (show _ ≤ 100 from ?_) (by decide)
        split <;> omega
      · rw [upd_upd]
        refine ⟨ds.eraseIdx y.toNat ++ [d1], _, _, _, _, _, _, rfl, (drE.setD hED ?_).mono (by omega), ?_, ?_, ?_⟩
        · rw [List.map_append]
          refine TpAll.app ?_ (TpAll.one tt)
          rw [map_erase9]
          exact tdE.erase _
        · rw [List.length_append, List.length_eraseIdx]
          have := (List.getElem?_eq_some_iff.mp hd2).1
          rw [if_pos this]
          show ds.length - 1 + 1 ≤ 6
          omega
        · rw [List.length_append]
          exact Nat.le_add_left _ _
        · have s1 : d1.sets = none := by
            cases d1 with
            | take => rfl
            | add => rfl
            | tell f => exact absurd (show inV (.str "tell") [.str "add", .str "take"] = true from hin) (by decide)
            | copy f g => exact absurd (show inV (.str "copy") [.str "add", .str "take"] = true from hin) (by decide)
          refine ⟨?_, fun d hd => ?_, okA.kd, okA.ne⟩
          · rw [List.filterMap_append, fm_erase hd2 s1, okA.set]
            show _ ++ [d1].filterMap Dd9.sets = _
            rw [List.filterMap_cons, s1]
            exact List.append_nil _
          · rcases List.mem_append.mp hd with h | h
            · exact okA.ok d (List.mem_of_mem_eraseIdx h)
            · rw [List.mem_singleton.mp h]
              exact okA.ok d1 (List.mem_of_getElem? hd2)
    rintro σ HC ⟨ds, c6, c11, c12, c13, c14, c15, rfl, drC, l6, l1, okA⟩
    obtain ⟨dvC, hdvC, tdvC⟩ := drC.dl
    obtain ⟨fvC, hfvC, tfvC⟩ := drC.fl
    refine ⟨_, rfl, D, _, rfl, .inl ⟨SqL.of hdvC, fun T hT => ⟨_, rfl, (by show 2 ≤ sizeLine; decide), fun t ht => ?_⟩⟩⟩
    have S1 := Same.new (H := HC) (o := .tup dvC) hT
    have S2 := Same.new (H := upd HC T (.tup dvC)) (o := .tup [.ref T, .ref Fo]) ht
    have S := S1.trans S2
    exact q t T Fo fvC ds gs _ upd_same (.tup (S2 _ _ upd_same) (TpAll.keep (Same.tk S) _ _ tdvC)) hFo0 (S _ _ hfvC) (TpAll.keep (Same.tk S) _ _ tfvC) l6 l1 okA ezA (drC.kp.same S) ((drC.bg.same S).mono (by omega))
end
end Fh

set_option Elab.async false
set_option linter.all false
set_option maxRecDepth 100000
set_option maxHeartbeats 4000000
namespace Fh
open PySem PySem.Spec PyProof.Rows L2
/-! ### zip of three: two lists and a range, or two lists and a text -/
section
variable {prog : Program} {w : World} {A : Around}
theorem draws_range (hh : A.handled = none) (it : Addr) (n : Nat) :
    Draws prog w A it [it] n (fun i v => ∃ t, v = .int (0 + (i : Nat) * 1) t) (fun i h => IsRangeIter h it (0 + (i : Nat) * 1) ((n : Int) - (i : Nat)) 1) where
  live := fun _ _ st => ⟨_, st⟩
  frame := fun _ _ _ st hk => hk it (by simp) _ st
  item := fun i s Q E hi st hQ => by
    unfold Builtin.SmallTypes.nextOf
    refine wpAny_bind (CpRep.range_item st (by omega) fun h' st' sb => ?_)
    refine wpAny_pure (hQ _ h' _ ⟨_, rfl⟩ ?_ sb)
    have e1 : (0 : Int) + ((i + 1 : Nat) : Int) * 1 = 0 + (i : Nat) * 1 + 1 := by omega
    have e2 : (n : Int) - ((i + 1 : Nat) : Int) = (n : Int) - (i : Nat) - 1 := by omega
    rw [e1, e2]
    exact st'
  done := fun s Q E st hE => by
    unfold Builtin.SmallTypes.nextOf
    refine wpAny_bind (CpRep.range_end hh st (by omega) fun e h' he hk => ?_)
    obtain ⟨a, o, _, rfl, ho, hc, _⟩ := he
    exact hE h' a hk ⟨o, ho, hc⟩
theorem begins_range (r : Addr) (n : Int) (t u v : Tok) (hs : Builtin.Range.small 0 n 1 = true) : Begins (.ref r) { cls := .type "range_iterator", data := .fields #[rawInt 0, rawInt (Builtin.Range.rangeSize 0 n 1), rawInt 1] } (fun h => IsRange h r 0 n 1 t u v) where
  iter := fun prog w A E s Q hr h => wpAny_pyIter_range hr hs h
  keeps := fun h h' x hk => hk r _ x
  free := rfl
end
/-- what an iterator of a zip is over: its own record it, the things that H tells -/
structure Src (P : Program) (w : World) (K : PySem.W.Frag) (it : Addr) (n : Nat) (G : Hp → Prop) (f : Nat → Option V) (St : Nat → Heap → Prop) : Prop where
  obj : ∀ i h, St i h → ∃ o, h.get? it = some o ∧ ∀ v, o.data ≠ .cell v
  keep : ∀ i h h', St i h → (∀ o, h.get? it = some o → h'.get? it = some o) → St i h'
  draws : ∀ (X : Cx), X.prog = P → X.w = w → X.K = K → X.A.in1.handled = none → ∀ pins s σ H, Inv X pins σ H s → H it = none → G H → ∃ fp Pv St', Draws P w X.A.in1 it fp n Pv St' ∧ it ∈ fp ∧ (∀ b ∈ fp, b = it ∨ H b ≠ none) ∧
    (∀ i, St i s.heap → St' i s.heap) ∧ (∀ i h, St' i h → St i h) ∧ ∀ i u, Pv i u → ∃ x, f i = some x ∧ RelV x u
theorem src_list {P : Program} {w : World} {K : PySem.W.Frag} (it a : Addr) (xs : List V) : Src P w K it xs.length (fun H => H a = some (.lst xs)) (fun i => xs[i]?) (fun i h => h.IsListIter it a i) where
  obj := fun i h ⟨o, ho, _, hd⟩ => ⟨o, ho, fun v q => by rw [hd] at q; cases q⟩
  keep := fun i h h' st k => st.at fun o q => k o q
  draws := fun X hP hw hK hh pins s σ H I hn hq => by
    subst hP hw hK
    obtain ⟨its, rv, p, _⟩ := I.list (SqL.of hq)
    have hlen : its.toArray.size = xs.length := by rw [List.size_toArray]; exact rv.length.symm
    have ne : a ≠ it := fun e => by
      rw [e, hn] at hq
      cases hq
    have D := PySem.Draws.list (prog := X.prog) (w := X.w) (A := X.A.in1) hh it a ne its.toArray
    rw [hlen] at D
    refine ⟨_, _, _, D, by simp, fun b hb => ?_, fun i st => ⟨st, p.isList⟩, fun i h st => st.1, fun i u hu => ?_⟩
    · rcases List.mem_cons.mp hb with rfl | hb
      · exact .inl rfl
      · rw [List.mem_singleton.mp hb]
        exact .inr (by rw [hq]; exact fun z => nomatch z)
    · have hu' : its.toArray[i]? = some u := hu
      rw [List.getElem?_toArray] at hu'
      have hlt : i < xs.length := by rw [rv.length]; exact (List.getElem?_eq_some_iff.mp hu').1
      obtain ⟨u2, hu2, r2⟩ := rv.get (List.getElem?_eq_getElem hlt)
      rw [hu2] at hu'
      cases hu'
      exact ⟨_, List.getElem?_eq_getElem hlt, r2⟩
theorem src_range {P : Program} {w : World} {K : PySem.W.Frag} (it : Addr) (n : Nat) : Src P w K it n (fun _ => True) (fun i => some (.int (i : Nat))) (fun i h => IsRangeIter h it (0 + (i : Nat) * 1) ((n : Int) - (i : Nat)) 1) where
  obj := fun i h st => ⟨_, st, fun v q => nomatch q⟩
  keep := fun i h h' st k => k _ st
  draws := fun X hP hw hK hh pins s σ H I hn hq => by
    subst hP hw hK
    refine ⟨_, _, _, draws_range hh it n, by simp, fun b hb => .inl (List.mem_singleton.mp hb), fun i st => st, fun i h st => st, fun i u ⟨t, e⟩ => ⟨_, rfl, ?_⟩⟩
    subst e
    have e1 : (0 : Int) + ((i : Nat) : Int) * 1 = (i : Nat) := by omega
    rw [e1]
    exact ⟨t, rfl⟩
theorem src_text {P : Program} {w : World} {K : PySem.W.Frag} (it : Addr) (x : Str) (t : Tok) : Src P w K it x.cps.size (fun _ => True) (fun i => (x.cps[i]?).map fun c => .str ⟨#[c]⟩) (fun i h => h.IsStrIter it (strIterType x) x t i) where
  obj := fun i h ⟨o, ho, _, hd⟩ => ⟨o, ho, fun v q => by rw [hd] at q; cases q⟩
  keep := fun i h h' ⟨o, ho, hc⟩ k => ⟨o, k o ho, hc⟩
  draws := fun X hP hw hK hh pins s σ H I hn hq => by
    subst hP hw hK
    refine ⟨_, _, _, PySem.Draws.text (prog := X.prog) (w := X.w) (A := X.A.in1) hh it x t, by simp, fun b hb => .inl (List.mem_singleton.mp hb), fun i st => st, fun i h st => st, fun i u ⟨c, tk, hc, e⟩ => ?_⟩
    subst e
    exact ⟨.str ⟨#[c]⟩, by rw [hc]; rfl, ⟨tk, rfl⟩⟩
/-- three at a time, in a new tuple -/
def It3 (G : Hp → Prop) (n : Nat) (f1 f2 f3 : Nat → Option V) : It :=
  ⟨fun i H => G H ∧ i < n, fun i H v H' => ∃ T x y z, v = .ref T ∧ H T = none ∧ H' = upd H T (.tup [x, y, z]) ∧ f1 i = some x ∧ f2 i = some y ∧ f3 i = some z, fun i H => G H ∧ i = n⟩
def YTri (f1 f2 f3 : Nat → Option V) : Nat → Hp → V → Hp → Prop := fun i H v H' => ∃ T x y z, v = .ref T ∧ H T = none ∧ H' = upd H T (.tup [x, y, z]) ∧ f1 i = some x ∧ f2 i = some y ∧ f3 i = some z
theorem walk_3 {G : Hp → Prop} {n : Nat} {f1 f2 f3 : Nat → Option V} : Walk (It3 G n f1 f2 f3) n G (YTri f1 f2 f3) :=
  ⟨fun i H hi q => ⟨q, hi⟩, fun H q => ⟨q, rfl⟩, fun i H x H' hi q y => y⟩
section
variable {P : Program} {w : World} {K : PySem.W.Frag} {elts : List Expr} {kk : Nat} {tpos : Pos} {z TI TO i1 i2 i3 : Addr} {n n1 n2 n3 : Nat} {G1 G2 G3 : Hp → Prop} {f1 f2 f3 : Nat → Option V} {St1 St2 St3 : Nat → Heap → Prop}
theorem turn_3 (D : [z, TI, TO, i1, i2, i3].Nodup) (S1 : Src P w K i1 n1 G1 f1 St1) (S2 : Src P w K i2 n2 G2 f2 St2) (S3 : Src P w K i3 n3 G3 f3 St3) (h1 : n ≤ n1) (h2 : n ≤ n2) (h3 : n ≤ n3) (hn : n = n1 ∨ n = n2 ∨ n = n3) :
    Turn P w K (.Tuple elts kk tpos) (It3 (fun H => G1 H ∧ G2 H ∧ G3 H) n f1 f2 f3) [z, TI, TO, i1, i2, i3] z (fun i h => IsZip h z TI TO .none ∧ IsTupOf3 h TI (.ref i1) (.ref i2) (.ref i3) ∧ (∃ a b c, IsTupOf3 h TO a b c) ∧ St1 i h ∧ St2 i h ∧ St3 i h) where
  mem := List.mem_cons_self
  obj := fun i h ⟨hz, hTI, ⟨a, b, c, hTO⟩, s1, s2, s3⟩ d hd => by
    have e : d = z ∨ d = TI ∨ d = TO ∨ d = i1 ∨ d = i2 ∨ d = i3 := by simpa using hd
    rcases e with rfl | rfl | rfl | rfl | rfl | rfl
    · exact ⟨_, hz, fun v q => nomatch q⟩
    · exact ⟨_, hTI, fun v q => nomatch q⟩
    · exact ⟨_, hTO, fun v q => nomatch q⟩
    · exact S1.obj _ _ s1
    · exact S2.obj _ _ s2
    · exact S3.obj _ _ s3
  keep := fun i h h' ⟨hz, hTI, ⟨a, b, c, hTO⟩, s1, s2, s3⟩ k =>
    ⟨k z (by simp) _ hz, k TI (by simp) _ hTI, ⟨a, b, c, k TO (by simp) _ hTO⟩, S1.keep _ _ _ s1 (k i1 (by simp)), S2.keep _ _ _ s2 (k i2 (by simp)), S3.keep _ _ _ s3 (k i3 (by simp))⟩
  item := by
    intro X hP hw hK hc i pins s σ H E I hf ⟨hz, hTI, ⟨a, b, c, hTO⟩, s1, s2, s3⟩ ⟨⟨g1, g2, g3⟩, hlt⟩
    have hh : X.A.in1.handled = none := by simpa using I.ok.hd hc
    have fr : ∀ d ∈ [z, TI, TO, i1, i2, i3], H d = none := fun d hd => (hf d hd).1
    obtain ⟨fp1, P1, T1, D1, m1, o1, in1, ou1, v1⟩ := S1.draws X hP hw hK hh pins s σ H I (fr i1 (by simp)) g1
    obtain ⟨fp2, P2, T2, D2, m2, o2, in2, ou2, v2⟩ := S2.draws X hP hw hK hh pins s σ H I (fr i2 (by simp)) g2
    obtain ⟨fp3, P3, T3, D3, m3, o3, in3, ou3, v3⟩ := S3.draws X hP hw hK hh pins s σ H I (fr i3 (by simp)) g3
    subst hP hw hK
    simp only [List.nodup_cons, List.mem_cons, List.not_mem_nil, or_false, not_or] at D
    obtain ⟨⟨d1, d2, d3, d4, d5⟩, ⟨d6, d7, d8, d9⟩, ⟨d10, d11, d12⟩, ⟨d13, d14⟩, d15, _⟩ := D
    have off : ∀ {fp : List Addr} {it d : Addr}, (∀ b ∈ fp, b = it ∨ H b ≠ none) → H d = none → d ≠ it → d ∉ fp := fun o hd ne hm => by
      rcases o _ hm with e | e
      · exact ne e
      · exact e hd
    have Z : ZipSep3 z TI TO i1 i2 i3 fp1 fp2 fp3 := ⟨Ne.symm d1, Ne.symm d2, d6, d7, m1, off o1 (fr z (by simp)) d3, off o1 (fr TO (by simp)) d10, d8, m2, off o2 (fr z (by simp)) d4, off o2 (fr TO (by simp)) d11, d9, m3, off o3 (fr z (by simp)) d5, off o3 (fr TO (by simp)) d12,
      off o2 (fr i1 (by simp)) d13, off o3 (fr i1 (by simp)) d14, off o1 (fr i2 (by simp)) (Ne.symm d13), off o3 (fr i2 (by simp)) d15, off o1 (fr i3 (by simp)) (Ne.symm d14), off o2 (fr i3 (by simp)) (Ne.symm d15)⟩
    have hzl : z < s.heap.objs.size := Heap.lt_size hz
    refine wpAny_pyNext_zipD3_item Z D1 D2 D3 hz hTI hTO (in1 i s1) (in2 i s2) (in3 i s3) (by omega) (by omega) (by omega) fun x1 x2 x3 h' tk p1 p2 p3 z' TO' t1 t2 t3 hT hsz hk => ?_
    refine ⟨_, rfl, wpAny_letOwnedTupleGo_zip (s := { s with heap := h', toks := tk }) z' fun h'' z'' sb => ?_⟩
    obtain ⟨y1, fy1, r1⟩ := v1 i x1 p1
    obtain ⟨y2, fy2, r2⟩ := v2 i x2 p2
    obtain ⟨y3, fy3, r3⟩ := v3 i x3 p3
    have hT2 : h''.get? s.heap.objs.size = some { cls := .type "tuple", data := .seq #[x1, x2, x3] } := (sb.2 _ (Nat.ne_of_gt hzl)).trans hT
    have I1 : Inv X pins σ (upd H s.heap.objs.size (.tup [y1, y2, y3])) { s with heap := h'', toks := tk } :=
      I.turnedNew (t' := tk) (ch := [z, TI, TO, i1, i2, i3]) (fun c o hb q => (sb.2 c (fun q' => hb (by simp [q']))).trans (hk c o (fun q' => hb (by simp [q'])) (fun q' => hb (by simp [q'])) (fun q' => hb (by simp [q'])) (fun q' => hb (by simp [q'])) (fun q' => hb (by simp [q'])) q)) hf (Nat.le_refl _)
        ⟨by show 3 ≤ sizeLine; decide, [x1, x2, x3], .cons r1 (.cons r2 (.cons r3 .nil)), ⟨_, hT2, rfl, _, rfl⟩⟩
    refine ⟨.ref s.heap.objs.size, _, I1, rfl, ⟨_, y1, y2, y3, rfl, I.hok.fresh (Nat.le_refl _), rfl, fy1, fy2, fy3⟩, ⟨z'', ?_, ⟨x1, x2, x3, ?_⟩, ?_, ?_, ?_⟩, fun c hcm => ?_⟩
    · exact (sb.2 _ (Ne.symm d1)).trans (hk _ _ (Ne.symm d1) d6 d7 d8 d9 hTI)
    · exact (sb.2 _ (Ne.symm d2)).trans TO'
    · exact S1.keep _ _ _ (ou1 _ _ t1) fun o q => (sb.2 _ (Ne.symm d3)).trans q
    · exact S2.keep _ _ _ (ou2 _ _ t2) fun o q => (sb.2 _ (Ne.symm d4)).trans q
    · exact S3.keep _ _ _ (ou3 _ _ t3) fun o q => (sb.2 _ (Ne.symm d5)).trans q
    · have hlt : c < s.heap.objs.size := by
        have e : c = z ∨ c = TI ∨ c = TO ∨ c = i1 ∨ c = i2 ∨ c = i3 := by simpa using hcm
        rcases e with q | q | q | q | q | q
        · rw [q]; exact hzl
        · rw [q]; exact Heap.lt_size hTI
        · rw [q]; exact Heap.lt_size hTO
        · rw [q]; obtain ⟨_, e, _⟩ := S1.obj _ _ s1; exact Heap.lt_size e
        · rw [q]; obtain ⟨_, e, _⟩ := S2.obj _ _ s2; exact Heap.lt_size e
        · rw [q]; obtain ⟨_, e, _⟩ := S3.obj _ _ s3; exact Heap.lt_size e
      rw [upd_ne (Nat.ne_of_lt hlt)]
      exact (hf c hcm).1
  done := by
    intro X hP hw hK hc i pins s σ H E I hf ⟨hz, hTI, ⟨a, b, c, hTO⟩, s1, s2, s3⟩ ⟨⟨g1, g2, g3⟩, hlt⟩
    have hh : X.A.in1.handled = none := by simpa using I.ok.hd hc
    have fr : ∀ d ∈ [z, TI, TO, i1, i2, i3], H d = none := fun d hd => (hf d hd).1
    obtain ⟨fp1, P1, T1, D1, m1, o1, in1, ou1, v1⟩ := S1.draws X hP hw hK hh pins s σ H I (fr i1 (by simp)) g1
    obtain ⟨fp2, P2, T2, D2, m2, o2, in2, ou2, v2⟩ := S2.draws X hP hw hK hh pins s σ H I (fr i2 (by simp)) g2
    obtain ⟨fp3, P3, T3, D3, m3, o3, in3, ou3, v3⟩ := S3.draws X hP hw hK hh pins s σ H I (fr i3 (by simp)) g3
    subst hP hw hK
    simp only [List.nodup_cons, List.mem_cons, List.not_mem_nil, or_false, not_or] at D
    obtain ⟨⟨d1, d2, d3, d4, d5⟩, ⟨d6, d7, d8, d9⟩, ⟨d10, d11, d12⟩, ⟨d13, d14⟩, d15, _⟩ := D
    have off : ∀ {fp : List Addr} {it d : Addr}, (∀ b ∈ fp, b = it ∨ H b ≠ none) → H d = none → d ≠ it → d ∉ fp := fun o hd ne hm => by
      rcases o _ hm with e | e
      · exact ne e
      · exact e hd
    have Z : ZipSep3 z TI TO i1 i2 i3 fp1 fp2 fp3 := ⟨Ne.symm d1, Ne.symm d2, d6, d7, m1, off o1 (fr z (by simp)) d3, off o1 (fr TO (by simp)) d10, d8, m2, off o2 (fr z (by simp)) d4, off o2 (fr TO (by simp)) d11, d9, m3, off o3 (fr z (by simp)) d5, off o3 (fr TO (by simp)) d12,
      off o2 (fr i1 (by simp)) d13, off o3 (fr i1 (by simp)) d14, off o1 (fr i2 (by simp)) (Ne.symm d13), off o3 (fr i2 (by simp)) d15, off o1 (fr i3 (by simp)) (Ne.symm d14), off o2 (fr i3 (by simp)) (Ne.symm d15)⟩
    exact wpAny_pyNext_zipD3_end Z D1 D2 D3 hz hTI hTO (in1 i s1) (in2 i s2) (in3 i s3) (by omega) (by omega) (by omega) (by omega) fun h' tk hk => ⟨rfl, I.turnedL (t' := tk) (ch := [z, TI, TO, i1, i2, i3]) (fun c o hb q =>
      hk c o (fun q' => hb (by simp [q'])) (fun q' => hb (by simp [q'])) (fun q' => hb (by simp [q'])) (fun q' => hb (by simp [q'])) (fun q' => hb (by simp [q'])) q) hf⟩
  self := fun A i s Q E st h => wpAny_pyIter_zip st.1 h
end
/-- zip(list, list, range(n)) -/
def iZip3r (ta tb tc : TE) : TI := fun σ H R => ta σ H fun v1 H1 => tb σ H1 fun v2 H2 => tc σ H2 fun v3 H3 => ∃ (a b : Addr) (xs ys : List V) (n : Int), v1 = .ref a ∧ v2 = .ref b ∧ v3 = .int n ∧ 0 ≤ n ∧ n < 2 ^ 62 ∧ H3 a = some (.lst xs) ∧ H3 b = some (.lst ys) ∧
  R (It3 (fun H => H a = some (.lst xs) ∧ H b = some (.lst ys) ∧ True) (min (min xs.length ys.length) n.toNat) (fun i => xs[i]?) (fun i => ys[i]?) (fun i => some (.int (i : Nat)))) H3
theorem nd6 (m : Nat) : [m + 5, m + 3, m + 4, m, m + 1, m + 2].Nodup := by
  simp only [List.nodup_cons, List.mem_cons, List.not_mem_nil, or_false, not_or, not_false_eq_true, List.nodup_nil, and_true]
  omega
theorem pi_zip3r {X : Cx} {e1 e2 e3 : Expr} {ta tb tc : TE} {p p2 pos pos2 tpos : Pos} {elts : List Expr} {kk : Nat} (hg : Gl X "zip") (hm : X.mg "zip" = none) (hg2 : Gl X "range") (hm2 : X.mg "range" = none) (h1 : PE X e1 ta) (h2 : PE X e2 tb) (h3 : PE X e3 tc)
    (hs : starEach [e1, e2, .Call (.Name "range" p2) [e3] [] pos2] X.env = (false, eval e1 X.env) :: starEach [e2, .Call (.Name "range" p2) [e3] [] pos2] X.env := by rfl)
    (hs2 : starEach [e2, .Call (.Name "range" p2) [e3] [] pos2] X.env = [(false, eval e2 X.env), (false, eval (.Call (.Name "range" p2) [e3] [] pos2) X.env)] := by rfl) (hs3 : starEach [e3] X.env = [(false, eval e3 X.env)] := by rfl) :
    PI X (.Tuple elts kk tpos) (.Call (.Name "zip" p) [e1, e2, .Call (.Name "range" p2) [e3] [] pos2] [] pos) (iZip3r ta tb tc) := by
  refine ⟨fun pins s σ H R I h => ?_⟩
  refine Call_ (ld_blt I hg hm PyProof.Rows.boot_zip (PyProof.Rows.callWith_type1 ?_ hs (by rw [hs2]; rfl)))
  rw [hs, hs2]
  refine Calls.spliced_cons (thn (h1.run pins s σ H _ I h) fun u1 s1 ⟨v1, H1, I1, r1, q1⟩ => ?_)
  refine Calls.spliced_cons (thn (h2.run pins s1 σ H1 _ I1 q1) fun u2 s2 ⟨v2, H2, I2, r2, q2⟩ => ?_)
  refine Calls.spliced_cons ?_
  refine Call_ (ld_blt I2 hg2 hm2 boot_range (PyProof.Rows.callWith_type1 ?_ hs3 rfl))
  rw [hs3]
  refine Calls.spliced_cons (thn (h3.run pins s2 σ H2 _ I2 q2) fun u3 s3 ⟨v3, H3, I3, r3, q3⟩ => Calls.spliced_nil ?_)
  obtain ⟨a, b, xs, ys, n, e1, e2, e3, n0, n1, ha, hb, q⟩ := q3
  subst e1 e2 e3
  obtain ⟨t, rfl⟩ := r3
  cases (show u1 = Value.ref a from r1)
  cases (show u2 = Value.ref b from r2)
  refine call_range_1 (Calls.spliced_nil ?_)
  have I4 : Inv X pins σ H3 { s3 with heap := s3.heap.push { cls := .type "range", data := .fields #[.int 0 s3.toks, .int n t, .int 1 (s3.toks + 1)] }, toks := s3.toks + 1 + 1 } := I3.kept fun b o e => Heap.get?_push_of_some _ e
  have rg : IsRange (s3.heap.push { cls := .type "range", data := .fields #[.int 0 s3.toks, .int n t, .int 1 (s3.toks + 1)] }) s3.heap.objs.size 0 n 1 s3.toks t (s3.toks + 1) := IsRange.new ..
  generalize (s3.heap.push { cls := .type "range", data := .fields #[.int 0 s3.toks, .int n t, .int 1 (s3.toks + 1)] }) = h4 at *
  generalize s3.heap.objs.size = r at *
  obtain ⟨its, rv, pa, _⟩ := I4.list (SqL.of ha)
  obtain ⟨its2, rv2, pb, _⟩ := I4.list (SqL.of hb)
  have sm : Builtin.Range.small 0 n 1 = true := small_one (by decide) (by decide) (by omega) n1
  refine zip_begins3 (s := { s3 with heap := h4, toks := s3.toks + 1 + 1 }) (begins_list a its.toArray) (begins_list b its2.toArray) (begins_range r n s3.toks t (s3.toks + 1) sm) pa.isList pb.isList rg fun h' hz hTI hTO g1 g2 g3 hsz hk => wpAny_pyIter_zip hz ?_
  have I5 : Inv X pins σ H3 { s3 with heap := h', toks := s3.toks + 1 + 1 } := I4.kept (t' := s3.toks + 1 + 1) hk
  have rsz : Builtin.Range.rangeSize 0 n 1 = ((n.toNat : Nat) : Int) := by rw [rangeSize_one]; split <;> omega
  refine ⟨h4.objs.size + 5, [h4.objs.size + 5, h4.objs.size + 3, h4.objs.size + 4, h4.objs.size, h4.objs.size + 1, h4.objs.size + 2], _, _, H3, rfl, I5,
    turn_3 (n := min (min xs.length ys.length) n.toNat) (nd6 _) (src_list _ a xs) (src_list _ b ys) (src_range _ n.toNat) (by omega) (by omega) (by omega) (by omega), ⟨hz, hTI, ⟨_, _, _, hTO⟩, ?_, ?_, ?_⟩, fun c hc => ?_, q⟩
  · exact ⟨_, g1, rfl, rfl⟩
  · exact ⟨_, g2, rfl, rfl⟩
  · have e1 : (0 : Int) + ((0 : Nat) : Int) * 1 = 0 := by decide
    have e2 : ((n.toNat : Nat) : Int) - ((0 : Nat) : Int) = ((n.toNat : Nat) : Int) := by omega
    rw [e1, e2, ← rsz]
    exact g3
  · have hle : h4.objs.size ≤ c := by
      have e : c = h4.objs.size + 5 ∨ c = h4.objs.size + 3 ∨ c = h4.objs.size + 4 ∨ c = h4.objs.size ∨ c = h4.objs.size + 1 ∨ c = h4.objs.size + 2 := by simpa using hc
      rcases e with z | z | z | z | z | z
      · rw [z]; exact Nat.le_add_right _ _
      · rw [z]; exact Nat.le_add_right _ _
      · rw [z]; exact Nat.le_add_right _ _
      · rw [z]; exact Nat.le_refl _
      · rw [z]; exact Nat.le_add_right _ _
      · rw [z]; exact Nat.le_add_right _ _
    exact I4.fpOk hle (I4.hok.fresh hle)
end Fh

set_option Elab.async false
set_option linter.all false
set_option maxRecDepth 100000
set_option maxHeartbeats 4000000
namespace Fh
open PySem L2 PyProof.Rows
/-! ### names gone astray -/
def rowsL (recs : List Rec) : List PyData := (recs.map rD).map fun r => .tuple [.str r.1, r.2]
theorem rowsL_at {recs : List Rec} {i : Nat} {r : Rec} (h : recs[i]? = some r) : (rowsL recs)[i]? = some (.tuple [.str r.1, fieldsD r.2]) := by
  unfold rowsL
  rw [List.getElem?_map, List.getElem?_map, h]
  rfl
theorem rowsL_set {recs : List Rec} {i : Nat} {r : Rec} : (rowsL recs).set i (.tuple [.str r.1, fieldsD r.2]) = rowsL (recs.set i r) := by
  unfold rowsL
  rw [List.map_set, List.map_set]
  rfl
theorem rowsL_len {recs : List Rec} : (rowsL recs).length = recs.length := by
  unfold rowsL
  rw [List.length_map, List.length_map]
abbrev nStr9 : List Str := ["_law_bag_here", "_law_parts", "_law_recs", "_law_acts", "_law_pool", "_law_one", "_law_some", "_law_turn", "_law_word", "_law_spot", "_law_at", "_law_fields", "_law_kind"]
abbrev pStr9 : List Str := ["_law_bag_here", "_law_parts"]
def spStr9 : Sp := fun vs H Q _ => ∃ (b : Addr) (v : V) (own : Str) (age : Int) (cs : List Cho) (recs : List Rec) (cws : List Cw) (n : Nat), vs = [.ref b, v] ∧ Bag H b n ∧ n + 100 ≤ most ∧ Tp H v (ptD own age cs recs cws) ∧ PtW own age cs recs cws ∧
  ∀ (v' : V) (recs' : List Rec) (cws' : List Cw) (H' : Hp), Tp H' v' (ptD own age cs recs' cws') → PtW own age cs recs' cws' → Kp b H H' → Bag H' b (n + 50) → Q v' H'
section
variable {P : Program} {w : World} {K : PySem.W.Frag} {mg : Str → Option Value} {base : Heap}
end
end Fh

set_option Elab.async false
set_option linter.all false
set_option maxRecDepth 100000
set_option maxHeartbeats 4000000
namespace Fh
open PySem L2 PyProof.Rows
/-! ### what is due -/
theorem sortset {P : Program} {w : World} {K : PySem.W.Frag} {H : Hp} {p : Addr} {T : List Row} {Q : V → Hp → Prop} (X : RwL H p T) (wk : ∀ q ∈ T, WrK q.2) (l : T.length < 300)
    (q : ∀ (r : Addr) (T4 : List Row) (H' : Hp), Same H H' → H r = none → RwL H' r T4 → T4.length < 300 → (T4.map (·.2)).Pairwise (fun x y => rowLe x y = true) → (T4.map (·.2)).Nodup → (∀ x, x ∈ T4.map (·.2) ↔ x ∈ T.map (·.2)) → Q (.ref r) H') :
    rSetKx K P w [.ref p] H fun y H1 => rSortedSKx K P w [y] H1 Q := by
  refine ⟨p, T, rfl, SqL.of X.l, fun q hq => SqT.of (X.t q hq), l, fun S T' hS s1 s2 nd lT' => ?_⟩
  have S5 : Same H (upd H S (SetKx P w S T')) := Same.new hS
  refine ⟨S, T', rfl, upd_same, fun q hq => SqT.of (S5 _ _ (X.t q (s1 q hq))), fun q hq q2 hq2 => (wk q (s1 q hq)).cm (wk q2 (s1 q2 hq2)), fun q hq => (wk q (s1 q hq)).fst, lT', fun T4 r pm pw hr' => ?_⟩
  have S6 : Same (upd H S (SetKx P w S T')) (upd (upd H S (SetKx P w S T')) r (.lst (T4.map fun q => V.ref q.1))) := Same.new hr'
  have sub4 : ∀ q ∈ T4, q ∈ T := fun q hq => s1 q (pm.mem_iff.mp hq)
  have S56 := S5.trans S6
  refine q r T4 _ S56 (S5.free hr') ⟨upd_same, fun q hq => S56 _ _ (X.t q (sub4 q hq))⟩ (by rw [pm.length_eq]; exact lT') pw (((pm.map (·.2)).nodup_iff).mpr nd) fun x => ?_
  constructor
  · intro hx
    obtain ⟨q, hq, rfl⟩ := List.mem_map.mp hx
    exact List.mem_map.mpr ⟨q, sub4 q hq, rfl⟩
  · intro hx
    obtain ⟨q, hq, rfl⟩ := List.mem_map.mp hx
    exact ((pm.map (·.2)).mem_iff).mpr (s2 q hq)
/-- x[i] of a text or a tuple -/
theorem ix_both {X : Cx} {r1 r2 : R2} (h1 : IxR X r1) (h2 : IxR X r2) : IxR X (fun x y H Q => r1 x y H Q ∨ r2 x y H Q) := by
  intro value slice pins s σ H x y v u Q I rx ry h hs
  rcases h with h | h
  · exact h1 value slice pins s σ H x y v u Q I rx ry h hs
  · exact h2 value slice pins s σ H x y v u Q I rx ry h hs
/-- [x for x, y in rows] over a tuple -/
theorem lc_fst {K : PySem.W.Frag} {a i j : Nat} {p : Addr} {xs : List V} {rows : List (Str × PyData)} {σ : L2.St} {H : Hp} {D : Addr} {Qd : Hp → Prop} (hij : i ≠ j) (hi : i < σ.length) (hw : ∀ x y : Option V, wipe (((wipe σ [i, j]).set i x).set j y) [i, j] = wipe σ [i, j]) (hp : H p = some (.tup xs)) (tx : TpAll H xs (rows.map fun r => .tuple [.str r.1, r.2])) (l : rows.length ≤ 100) (hD : H D = none)
    (hd : ∀ H', Same H H' → H' D = some (.lst ((rows.map (·.1)).map V.str)) → Qd H') :
    ∃ W : Nat → Nat → Hp → Prop, (∃ m, W 0 m (upd H D (.lst []))) ∧ ∀ k m H, W k m H →
      ((Itt K p).stop k H ∧ Qd H) ∨ ((Itt K p).go k H ∧ ∃ Nx : Hp → Prop, (∀ H', Nx H' → ∃ m', m' < m ∧ W (k + 1) m' H') ∧ ∀ x H', (Itt K p).yld k H x H' → gTup K 2 (gCons (gName i) (gCons (gName j) gNil)) x (wipe σ [i, j]) H' fun σ2 H2 => wipe σ2 [i, j] = wipe σ [i, j] ∧ tYes σ2 H2 fun b H3 =>
        if b = true then tVar i σ2 H3 fun y H4 => ∃ acc, H4 D = some (.lst acc) ∧ acc.length < sizeLine ∧ Nx (upd H4 D (.lst (acc ++ [y]))) else Nx H3) := by
  refine lcG_tup (xs := xs) (l := rows) (dx := fun r => .tuple [.str r.1, r.2]) (val := fun r => .str r.1) (keep := fun _ => true) (fun H' S => SqT.of (S _ _ hp)) tx (Nat.lt_of_le_of_lt l (by decide)) hD ?_ ?_
  · intro k r x H' hk S' tr N M hN hM
    obtain ⟨a, y, u, rfl, ha, hy, hu2⟩ := Tp.pair tr
    rw [hy.istr] at ha
    refine ⟨a, _, rfl, SqT.of ha, rfl, _, _, rfl, _, _, rfl, rfl, ?_, yes (iteT ⟨.str r.1, ?_, hM rfl _ _ (Same.refl _) (.str _)⟩)⟩
    · exact hw _ _
    · show (((wipe σ [i, j]).set i (some (.str r.1))).set j (some u))[i]? = some (some (.str r.1))
      rw [List.getElem?_set_ne (Ne.symm hij), List.getElem?_set_self]
      rw [wipe_length]
      exact hi
  intro H' zs S' hD' tz
  rw [filt_all] at tz
  have ez := tp_strsM tz
  subst ez
  exact hd H' S' hD'
def dueL (cs : List Cho) (recs : List Rec) (cws : List Cw) : List (List Key) := (nobL (csP cs) recs).map txK ++ cws.flatMap fun c => stoL recs c [c.ask, c.ans]
theorem due_wrk {cs : List Cho} {recs : List Rec} {cws : List Cw} : ∀ x ∈ dueL cs recs cws, WrK x := fun x hx => by
  rcases List.mem_append.mp hx with h | h
  · obtain ⟨y, hy, rfl⟩ := List.mem_map.mp h
    obtain ⟨r, _, hr⟩ := List.mem_flatMap.mp hy
    obtain ⟨f, _, rfl⟩ := List.mem_map.mp hr
    exact ⟨_, _, _, rfl, .inl ⟨.inl rfl, _, rfl⟩⟩
  · obtain ⟨c, _, hc⟩ := List.mem_flatMap.mp h
    exact sto_wrk x hc
abbrev nDue : List Str := ["_law_parts", "_law_menus", "_law_forms", "_law_one", "_law_some", "_law_found", "_law_fields", "_law_mark", "_law_word", "_law_kind", "_law_need", "_law_inner", "_law_ask", "_law_back", "_law_deeds"]
def spDue : Sp := fun vs H Q _ => ∃ (v : V) (own : Str) (age : Int) (cs : List Cho) (recs : List Rec) (cws : List Cw), vs = [v] ∧ Tp H v (ptD own age cs recs cws) ∧ PtW own age cs recs cws ∧
  ∀ (r : Addr) (T : List Row) (H' : Hp), Same H H' → H r = none → RwL H' r T → T.length < 300 → (T.map (·.2)).Pairwise (fun x y => rowLe x y = true) → (T.map (·.2)).Nodup → (∀ x, x ∈ T.map (·.2) ↔ x ∈ dueL cs recs cws) → Q (.ref r) H'
section
variable {P : Program} {w : World} {K : PySem.W.Frag} {mg : Str → Option Value} {base : Heap}
end
end Fh

set_option Elab.async false
set_option linter.all false
set_option maxRecDepth 100000
set_option maxHeartbeats 4000000
namespace Fh
open PySem L2 PyProof.Rows
/-! ### told right -/
def keyK : Key → PyData
  | .inl i => .int i
  | .inr z => .str z
def rowK (x : List Key) : PyData := .tuple (x.map keyK)
def rowsK (xs : List (List Key)) : PyData := .list (xs.map rowK)
theorem eqv_key : ∀ k : Key, PyData.eqv (keyK k) (keyK k) = true
  | .inl i => beq_self_eq_true i
  | .inr z => beq_self_eq_true z
theorem eqv_all {α : Type} {f : α → PyData} (h : ∀ x, PyData.eqv (f x) (f x) = true) : ∀ l : List α, PyData.eqvAll (l.map f) (l.map f) = true
  | [] => rfl
  | x :: l => by
    show (PyData.eqv (f x) (f x) && PyData.eqvAll (l.map f) (l.map f)) = true
    rw [h x, eqv_all h l]
    rfl
theorem eqv_rows (xs : List (List Key)) : PyData.eqv (rowsK xs) (rowsK xs) = true := eqv_all (f := rowK) (fun x => eqv_all (f := keyK) eqv_key x) xs
/-- every text of a row is a name -/
def RwNm (x : List Key) : Prop := ∀ z, (Sum.inr z : Key) ∈ x → Nm z
theorem sh_rows {xs : List (List Key)} (h : ∀ x ∈ xs, RwNm x) : SeqAt.shaped (rowsK xs) = true := by
  refine (Sh.lst (n := 1) fun d hd => ?_).shaped (by decide)
  obtain ⟨x, hx, rfl⟩ := List.mem_map.mp hd
  refine Sh.tup fun e he => ?_
  obtain ⟨k, hk, rfl⟩ := List.mem_map.mp he
  cases k with
  | inl i => exact Sh.int i
  | inr z => exact nm_shQ (h x hx z hk)
theorem dp_keys {K : PySem.W.Frag} {H : Hp} : ∀ x : List Key, DpAll K H (x.map kV) (x.map keyK)
  | [] => .nil
  | .inl i :: x => .cons (.int i) (dp_keys x)
  | .inr z :: x => .cons (.str z) (dp_keys x)
theorem dp_rowsA {K : PySem.W.Frag} {H : Hp} : ∀ {T : List Row}, (∀ q ∈ T, H q.1 = some (.tup (q.2.map kV))) → DpAll K H (T.map fun q => V.ref q.1) ((T.map (·.2)).map rowK)
  | [], _ => .nil
  | q :: T, h => .cons (.tup (SqT.of (h q List.mem_cons_self)) (dp_keys q.2)) (dp_rowsA fun r hr => h r (List.mem_cons_of_mem _ hr))
theorem dp_rows {K : PySem.W.Frag} {H : Hp} {p : Addr} {T : List Row} (X : RwL H p T) : Dp K H (.ref p) (rowsK (T.map (·.2))) := .lst (SqL.of X.l) (dp_rowsA X.t)
theorem nm_w {w : Str} (h : w = "nobody" ∨ w = "unset" ∨ w = "endless" ∨ w = "deed" ∨ w = "twice") : Nm w := by
  rcases h with rfl | rfl | rfl | rfl | rfl <;> exact nm_lit (by decide +kernel)
theorem rw3 {w a b : Str} (h1 : Nm w) (h2 : Nm a) (h3 : Nm b) : RwNm [.inr w, .inr a, .inr b] := fun z hz => by
  simp only [List.mem_cons, List.not_mem_nil, or_false, Sum.inr.injEq] at hz
  rcases hz with rfl | rfl | rfl
  · exact h1
  · exact h2
  · exact h3
theorem rw3i {w a : Str} {j : Int} (h1 : Nm w) (h2 : Nm a) : RwNm [.inr w, .inr a, .inl j] := fun z hz => by
  simp only [List.mem_cons, List.not_mem_nil, or_false, Sum.inr.injEq, reduceCtorEq] at hz
  rcases hz with rfl | rfl
  · exact h1
  · exact h2
theorem rw2 {w a : Str} (h1 : Nm w) (h2 : Nm a) : RwNm [.inr w, .inr a] := fun z hz => by
  simp only [List.mem_cons, List.not_mem_nil, or_false, Sum.inr.injEq] at hz
  rcases hz with rfl | rfl
  · exact h1
  · exact h2
theorem nob_nm {cs : List (Str × PyData)} {recs : List Rec} (h : RecsW recs) : ∀ x ∈ (nobL cs recs).map txK, RwNm x := fun x hx => by
  obtain ⟨y, hy, rfl⟩ := List.mem_map.mp hx
  obtain ⟨r, hr, hy⟩ := List.mem_flatMap.mp hy
  obtain ⟨f, hf, rfl⟩ := List.mem_map.mp hy
  obtain ⟨hf, hk⟩ := List.mem_filter.mp hf
  obtain ⟨z, hz⟩ := nob_name hk
  have nz : Nm (f.kd.nm.getD "") := by rw [hz]; exact (h.fl r hr).nk f hf z hz
  exact rw3 (nm_w (.inl rfl)) (h.nm r hr) nz
theorem sto_nm {recs : List Rec} {c : Cw} (h : CwW c) : ∀ x ∈ stoL recs c [c.ask, c.ans], RwNm x := fun x hx => by
  obtain ⟨z, hz, rfl⟩ := List.mem_map.mp hx
  have hz := (List.mem_filter.mp hz).1
  refine rw3 (nm_w (.inl rfl)) h.nm ?_
  simp only [List.mem_cons, List.not_mem_nil, or_false] at hz
  rcases hz with rfl | rfl
  · exact h.na
  · exact h.nb
theorem wde1_nm {nm : Str} {c : Cw} (h : CwW c) {own an : List Fl} {j : Nat} {d : List Str} : ∀ x ∈ wde1 nm c own an j d, RwNm x := fun x hx => by
  rcases List.mem_append.mp hx with g | g
  · split at g
    · cases g
    · rw [List.mem_singleton.mp g]; exact rw3i (nm_w (.inr (.inr (.inr (.inl rfl))))) h.nm
  · split at g
    · rw [List.mem_singleton.mp g]; exact rw3i (nm_w (.inr (.inr (.inr (.inr rfl))))) h.nm
    · cases g
theorem wdeR_nm {nm : Str} {c : Cw} (h : CwW c) {own an : List Fl} : ∀ j, ∀ x ∈ wdeR nm c own an j, RwNm x
  | 0, x, hx => by cases hx
  | j + 1, x, hx => by
    rcases List.mem_append.mp hx with g | g
    · exact wdeR_nm h j x g
    · cases q : c.ds[j]? with
      | none => rw [q] at g; cases g
      | some d =>
        rw [q] at g
        exact wde1_nm h x g
theorem uns_nm {c : Cw} (h : CwW c) {an : List Fl} (ha : FlW an) : ∀ x ∈ unsL c an, RwNm x := fun x hx => by
  obtain ⟨f, hf, rfl⟩ := List.mem_map.mp hx
  exact rw3 (nm_w (.inr (.inl rfl))) h.nm (ha.nm f (List.mem_filter.mp (List.mem_filter.mp hf).1).1)
theorem wroC_nm {nm : Str} {recs : List Rec} {c : Cw} (hr : RecsW recs) (h : CwW c) : ∀ x ∈ wroC nm recs c, RwNm x := fun x hx => by
  unfold wroC at hx
  split at hx
  · rcases List.mem_append.mp hx with g | g
    · exact wdeR_nm h _ x g
    · exact uns_nm h (hr.at _) x g
  · exact sto_nm h x hx
theorem wroL_nm {nm : Str} {cs : List (Str × PyData)} {recs : List Rec} {cws : List Cw} (hr : RecsW recs) (h : CwsW cws) : ∀ x ∈ wroL nm cs recs cws, RwNm x := fun x hx => by
  rcases List.mem_append.mp hx with g | g
  · rcases List.mem_append.mp g with g | g
    · exact nob_nm hr x g
    · obtain ⟨y, hy, rfl⟩ := List.mem_map.mp g
      obtain ⟨r, hr2, rfl⟩ := List.mem_map.mp hy
      exact rw2 (nm_w (.inr (.inr (.inl rfl)))) (hr.nm r (List.mem_filter.mp hr2).1)
  · obtain ⟨c, hc, hx⟩ := List.mem_flatMap.mp g
    exact wroC_nm hr (h.ok c hc) x hx
theorem due_nm {cs : List Cho} {recs : List Rec} {cws : List Cw} (hr : RecsW recs) (h : CwsW cws) : ∀ x ∈ dueL cs recs cws, RwNm x := fun x hx => by
  rcases List.mem_append.mp hx with g | g
  · exact nob_nm hr x g
  · obtain ⟨c, hc, hx⟩ := List.mem_flatMap.mp g
    exact sto_nm (h.ok c hc) x hx
/-- sorted rows without two alike that have the same members are the same -/
theorem rows_same {l m : List (List Key)} (n1 : l.Nodup) (n2 : m.Nodup) (h : ∀ x, x ∈ l ↔ x ∈ m) (p1 : l.Pairwise fun x y => rowLe x y = true) (p2 : m.Pairwise fun x y => rowLe x y = true) : l = m :=
  rows_one ((List.perm_ext_iff_of_nodup n1 n2).mpr h) p1 p2
abbrev nTrt : List Str := ["_law_told", "_law_one"]
def spTrt : Sp := fun vs H Q _ => ∃ (p : Addr) (T : List Row), vs = [.ref p] ∧ RwL H p T ∧ T.length < 300 ∧ (∀ q ∈ T, WrK q.2 ∧ RwNm q.2) ∧ (T.map (·.2)).Pairwise (fun x y => rowLe x y = true) ∧ (T.map (·.2)).Nodup ∧
  ∀ H', Same H H' → Q (.bl true) H'
section
variable {P : Program} {w : World} {K : PySem.W.Frag} {mg : Str → Option Value} {base : Heap}
end
end Fh

set_option Elab.async false
set_option linter.all false
set_option maxRecDepth 100000
set_option maxHeartbeats 4000000
namespace Fh
open PySem L2 PyProof.Rows
abbrev sInit : Stmt := inClass (top 34) 0
abbrev sFace : Stmt := top 40
structure ClsF (K : PySem.W.Frag) (mg : Str → Option Value) (C : Addr) : Prop where
  cl : Cls K C
  n1 : NoAttr K C "name"
  n2 : NoAttr K C "edition"
  n3 : NoAttr K C "choices"
  n4 : NoAttr K C "records"
  n5 : NoAttr K C "calls"
  mgC : mg "Face" = some (.ref C)
def spInitF (C : Addr) : Sp := fun vs H Q _ => ∃ (x dx : Addr) (v1 v2 v3 v4 v5 : V), vs = [.ref x, v1, v2, v3, v4, v5] ∧ H x = some (.ins C dx []) ∧ Q .non (upd H x (.ins C dx (ff v1 v2 v3 v4 v5)))
section
variable {P : Program} {w : World} {K : PySem.W.Frag} {mg : Str → Option Value} {base : Heap}
abbrev pInit : List Str := ["self", "name", "edition", "choices", "records", "calls"]
theorem scInit : FnScope pInit pInit (defScope sInit) := ⟨rfl, rfl, rfl, by decide +kernel, rfl, by decide +kernel, by decide +kernel⟩
theorem ok_init {f C : Addr} {fd : FuncData} {kws : List (Str × V)} (F : FunD K "__init__" "Face.__init__" (defArgs sInit) (defBody sInit) (defScope sInit) [] kws f fd) (T : ClsF K mg C) : FnOk P w K mg base CX0 1 f fd pInit (spInitF C) := by
  refine F.ok scInit (fun vs H Q E h => ?_) (fun cdv A outer s H vs Q E hr h => ?_)
  · obtain ⟨x, dx, v1, v2, v3, v4, v5, rfl, _⟩ := h
    rfl
  · obtain ⟨x, dx, v1, v2, v3, v4, v5, rfl, hx, k⟩ := h
    refine ⟨_, PSs.nox (pss_cons (ps_fld (pv 0) (pv 1) rfl) (pss_cons (ps_fld (pv 0) (pv 2) rfl) (pss_cons (ps_fld (pv 0) (pv 3) rfl) (pss_cons (ps_fld (pv 0) (pv 4) rfl) (pss_one (ps_fld (pv 0) (pv 5) rfl)))))), ?_⟩
    refine ⟨_, rfl, _, rfl, x, C, dx, _, rfl, hx, T.cl, T.n1, (by show 0 < 1000; decide), ?_⟩
    refine ⟨_, rfl, _, rfl, x, C, dx, _, rfl, upd_same, T.cl, T.n2, ?_, ?_⟩
    · exact Nat.lt_of_le_of_lt (putF_len _ _ _) (by show 0 + 1 < 1000; decide)
    refine ⟨_, rfl, _, rfl, x, C, dx, _, rfl, upd_same, T.cl, T.n3, ?_, ?_⟩
    · exact Nat.lt_of_le_of_lt (Nat.le_trans (putF_len _ _ _) (Nat.succ_le_succ (putF_len _ _ _))) (by show 0 + 1 + 1 < 1000; decide)
    refine ⟨_, rfl, _, rfl, x, C, dx, _, rfl, upd_same, T.cl, T.n4, ?_, ?_⟩
    · exact Nat.lt_of_le_of_lt (Nat.le_trans (putF_len _ _ _) (Nat.succ_le_succ (Nat.le_trans (putF_len _ _ _) (Nat.succ_le_succ (putF_len _ _ _))))) (by show 0 + 1 + 1 + 1 < 1000; decide)
    refine ⟨_, rfl, _, rfl, x, C, dx, _, rfl, upd_same, T.cl, T.n5, ?_, ?_⟩
    · exact Nat.lt_of_le_of_lt (Nat.le_trans (putF_len _ _ _) (Nat.succ_le_succ (Nat.le_trans (putF_len _ _ _) (Nat.succ_le_succ (Nat.le_trans (putF_len _ _ _) (Nat.succ_le_succ (putF_len _ _ _))))))) (by show 0 + 1 + 1 + 1 + 1 < 1000; decide)
    have e : upd (upd (upd (upd (upd H x (.ins C dx (putF "name" v1 []))) x (.ins C dx (putF "edition" v2 (putF "name" v1 [])))) x (.ins C dx (putF "choices" v3 (putF "edition" v2 (putF "name" v1 []))))) x (.ins C dx (putF "records" v4 (putF "choices" v3 (putF "edition" v2 (putF "name" v1 [])))))) x (.ins C dx (ff v1 v2 v3 v4 v5)) = upd H x (.ins C dx (ff v1 v2 v3 v4 v5)) := by
      rw [upd_upd, upd_upd, upd_upd, upd_upd]
    rw [← e] at k
    exact k
end
structure MkF (P : Program) (w : World) (K : PySem.W.Frag) (mg : Str → Option Value) (base : Heap) (C : Addr) : Prop where
  ex : ∃ (f : Addr) (fd : FuncData) (e1 e2 e3 : Addr), Mk K C f ∧ FnOk P w K mg base CX0 1 f fd pInit (spInitF C) ∧ FunD K "__init__" "Face.__init__" (defArgs sInit) (defBody sInit) (defScope sInit) [] [("choices", .ref e1), ("records", .ref e2), ("calls", .ref e3)] f fd
  mgC : mg "Face" = some (.ref C)
def g0 {α : Type} (us mv ws : List α) : List α := us ++ ws
section
variable {K : PySem.W.Frag} {f : Addr} {fd : FuncData} {e1 e2 e3 : Addr}
abbrev DInit (K : PySem.W.Frag) (e1 e2 e3 f : Addr) (fd : FuncData) : Prop := FunD K "__init__" "Face.__init__" (defArgs sInit) (defBody sInit) (defScope sInit) [] [("choices", .ref e1), ("records", .ref e2), ("calls", .ref e3)] f fd
theorem kb0 (F : DInit K e1 e2 e3 f fd) : ∃ mv : List Value, KBn K fd pInit 3 ["choices", "records", "calls"] (fun us ws => g0 us mv ws) (fun vs zs => g0 vs [] zs) :=
  FunD.kbinds0 F 3 ["choices", "records", "calls"] [] (fun {α} us mv ws => g0 us mv ws) (by simp) (fun q h => by cases h) (fun r1 _ r3 => r1.append r3) fun D doc pm an cdv ct us mv ws h1 h2 h3 => by
    match us, h1, ws, h3, mv, h2 with
    | [_, _, _], _, [_, _, _], _, [], _ => exact rfl
end
def spFace (C : Addr) : Sp := fun vs H Q _ => ∃ (p : Addr) (v1 v2 v3 v4 v5 : V), vs = [.ref p] ∧ H p = some (.tup [v1, v2, v3, v4, v5]) ∧
  ∀ (x dx : Addr) (H' : Hp), Same H H' → H x = none → H' x = some (.ins C dx (ff v1 v2 v3 v4 v5)) → Q (.ref x) H'
section
variable {P : Program} {w : World} {K : PySem.W.Frag} {mg : Str → Option Value} {base : Heap}
theorem scFace : FnScope ["_law_parts"] ["_law_parts"] (defScope sFace) := ⟨rfl, rfl, rfl, by decide +kernel, rfl, by decide +kernel, by decide +kernel⟩
theorem ok_face {f C : Addr} {fd : FuncData} (F : Fun K "_law_made_face" "_law_made_face" sFace f fd) (M : MkF P w K mg base C) : FnOk P w K mg base CX0 3 f fd ["_law_parts"] (spFace C) := by
  obtain ⟨fi, fdi, e1, e2, e3, mk, FI, DI⟩ := M.ex
  obtain ⟨mv, hb⟩ := kb0 DI
  refine F.ok scFace (fun vs H Q E h => ?_) (fun cdv A outer s H vs Q E hr h => ?_)
  · obtain ⟨p, v1, v2, v3, v4, v5, rfl, _⟩ := h
    rfl
  · obtain ⟨p, v1, v2, v3, v4, v5, rfl, hp, k⟩ := h
    refine ⟨_, pss_one (ps_ret (pe_makeK mk FI hr rfl M.mgC hb pass0 (pa_cons (pe_ix ix_tup (pv 0) pe_int (fun _ _ => rfl)) (pa_cons (pe_ix ix_tup (pv 0) pe_int (fun _ _ => rfl)) pa_nil))
      (pk_cons (pe_ix ix_tup (pv 0) pe_int (fun _ _ => rfl)) (pk_cons (pe_ix ix_tup (pv 0) pe_int (fun _ _ => rfl)) (pk_cons (pe_ix ix_tup (pv 0) pe_int (fun _ _ => rfl)) pk_nil))))), ?_⟩
    refine ⟨_, rfl, p, _, _, _, rfl, rfl, SqT.of hp, rfl, _, rfl, p, _, _, _, rfl, rfl, SqT.of hp, rfl, _, rfl, p, _, _, _, rfl, rfl, SqT.of hp, rfl, _, rfl, p, _, _, _, rfl, rfl, SqT.of hp, rfl, _, rfl, p, _, _, _, rfl, rfl, SqT.of hp, rfl, rfl, rfl, fun x dx hx hdx hne => ?_⟩
    refine ⟨x, dx, v1, v2, v3, v4, v5, rfl, upd_same, rfl, k x dx _ ?_ hx upd_same⟩
    refine Same.wr (Same.wr (Same.new hdx) hx) hx
end

end Fh

set_option Elab.async false
set_option linter.all false
set_option maxRecDepth 100000
set_option maxHeartbeats 4000000
namespace Fh
open PySem L2 PyProof.Rows
/-! ### the law -/
theorem ptD_inv {H : Hp} {v : V} {own : Str} {age : Int} {cs : List Cho} {recs : List Rec} {cws : List Cw} (h : Tp H v (ptD own age cs recs cws)) :
    ∃ (p e : Addr) (v3 v4 : V) (xs : List V), v = .ref p ∧ H p = some (.tup [.str own, .int age, v3, v4, .ref e]) ∧ TpR H v3 (rowsD (csP cs)) ∧ TpR H v4 (rowsD (recs.map rD)) ∧ H e = some (.tup xs) ∧ TpAll H xs (cws.map Cw.d) := by
  obtain ⟨p, ys, rfl, hp, q⟩ := Tp.inv h
  obtain ⟨v1, r1, rfl, t1, q⟩ := TpAll.icons q
  obtain ⟨v2, r2, rfl, t2, q⟩ := TpAll.icons q
  obtain ⟨v3, r3, rfl, t3, q⟩ := TpAll.icons q
  obtain ⟨v4, r4, rfl, t4, q⟩ := TpAll.icons q
  obtain ⟨v5, r5, rfl, t5, q⟩ := TpAll.icons q
  rw [q.inil] at hp
  obtain ⟨e, xs, rfl, he, tx⟩ := Tp.inv t5
  rw [t1.istr, t2.iint] at hp
  obtain ⟨a3, y3, rfl, h3, s3⟩ := Tp.inv t3
  obtain ⟨a4, y4, rfl, h4, s4⟩ := Tp.inv t4
  exact ⟨p, e, _, _, xs, rfl, hp, ⟨a3, y3, _, rfl, rfl, .inl h3, s3⟩, ⟨a4, y4, _, rfl, rfl, .inl h4, s4⟩, he, tx⟩
theorem wro_facts {own : Str} {age : Int} {cs : List Cho} {recs : List Rec} {cws : List Cw} (pw : PtW own age cs recs cws) : (csP cs).length ≤ 100 ∧ Cs1 (csP cs) ∧ RecsOk recs ∧ (∀ z, FOkR (flO recs z)) ∧ cws.length ≤ 7 ∧ (∀ c ∈ cws, CwOk c) := by
  refine ⟨?_, pw.co.cs1, pw.rc.ok, fun z => (pw.rc.at z).ok, Nat.le_trans pw.cw.l6 (by decide), fun c hc => (pw.cw.ok c hc).ok⟩
  unfold csP
  rw [List.length_map]
  exact Nat.le_trans pw.co.l6 (by decide)
def hdK : List Key → Str
  | .inr w :: _ => w
  | _ => ""
def sdK : List Key → Str
  | _ :: .inr a :: _ => a
  | _ => ""
theorem sto_hd {recs : List Rec} {c : Cw} {zs : List Str} : ∀ x ∈ stoL recs c zs, hdK x = "nobody" ∧ sdK x = c.nam := fun x hx => by
  obtain ⟨z, _, rfl⟩ := List.mem_map.mp hx
  exact ⟨rfl, rfl⟩
theorem uns_hd {c : Cw} {an : List Fl} : ∀ x ∈ unsL c an, hdK x = "unset" ∧ sdK x = c.nam := fun x hx => by
  obtain ⟨z, _, rfl⟩ := List.mem_map.mp hx
  exact ⟨rfl, rfl⟩
theorem wde_hd {nm : Str} {c : Cw} {own an : List Fl} : ∀ j, ∀ x ∈ wdeR nm c own an j, (hdK x = "deed" ∨ hdK x = "twice") ∧ sdK x = c.nam
  | 0, x, hx => by cases hx
  | j + 1, x, hx => by
    rcases List.mem_append.mp hx with g | g
    · exact wde_hd j x g
    · cases q : c.ds[j]? with
      | none => rw [q] at g; cases g
      | some d =>
        rw [q] at g
        rcases List.mem_append.mp g with g | g
        · split at g
          · cases g
          · rw [List.mem_singleton.mp g]; exact ⟨.inl rfl, rfl⟩
        · split at g
          · rw [List.mem_singleton.mp g]; exact ⟨.inr rfl, rfl⟩
          · cases g
theorem wroC_hd {nm : Str} {recs : List Rec} {c : Cw} {x : List Key} (hx : x ∈ wroC nm recs c) : sdK x = c.nam ∧ ((hdK x = "nobody" ∧ x ∈ stoL recs c [c.ask, c.ans]) ∨ ((hdK x = "deed" ∨ hdK x = "twice" ∨ hdK x = "unset") ∧ stoL recs c [c.ask, c.ans] = [])) := by
  unfold wroC at hx
  split at hx
  · rename_i h
    have h0 := List.isEmpty_iff.mp h
    rcases List.mem_append.mp hx with g | g
    · obtain ⟨h1, h2⟩ := wde_hd _ x g
      exact ⟨h2, .inr ⟨h1.elim .inl fun h => .inr (.inl h), h0⟩⟩
    · obtain ⟨h1, h2⟩ := uns_hd x g
      exact ⟨h2, .inr ⟨.inr (.inr h1), h0⟩⟩
  · obtain ⟨h1, h2⟩ := sto_hd x hx
    exact ⟨h2, .inl ⟨h1, hx⟩⟩
theorem nob_hd {cs : List (Str × PyData)} {recs : List Rec} : ∀ x ∈ (nobL cs recs).map txK, hdK x = "nobody" := fun x hx => by
  obtain ⟨y, hy, rfl⟩ := List.mem_map.mp hx
  obtain ⟨r, _, hr⟩ := List.mem_flatMap.mp hy
  obtain ⟨f, _, rfl⟩ := List.mem_map.mp hr
  rfl
theorem end_hd {D : Szs} {recs : List Rec} : ∀ x ∈ (endL D recs).map txK, hdK x = "endless" := fun x hx => by
  obtain ⟨y, hy, rfl⟩ := List.mem_map.mp hx
  obtain ⟨r, _, rfl⟩ := List.mem_map.mp hy
  rfl
theorem due_iff {nm : Str} {cs : List Cho} {recs : List Rec} {cws : List Cw} {x : List Key} : (x ∈ wroL nm (csP cs) recs cws ∧ hdK x = "nobody") ↔ x ∈ dueL cs recs cws := by
  constructor
  · rintro ⟨h, e⟩
    rcases List.mem_append.mp h with h | h
    · rcases List.mem_append.mp h with h | h
      · exact List.mem_append_left _ h
      · rw [end_hd x h] at e
        exact absurd e (by decide +kernel)
    · obtain ⟨c, hc, h⟩ := List.mem_flatMap.mp h
      rcases (wroC_hd h).2 with ⟨_, g⟩ | ⟨g, _⟩
      · exact List.mem_append_right _ (List.mem_flatMap.mpr ⟨c, hc, g⟩)
      · rw [e] at g
        rcases g with g | g | g <;> exact absurd g (by decide +kernel)
  · intro h
    rcases List.mem_append.mp h with h | h
    · exact ⟨List.mem_append_left _ (List.mem_append_left _ h), nob_hd x h⟩
    · obtain ⟨c, hc, h⟩ := List.mem_flatMap.mp h
      refine ⟨List.mem_append_right _ (List.mem_flatMap.mpr ⟨c, hc, ?_⟩), (sto_hd x h).1⟩
      unfold wroC
      rw [if_neg]
      · exact h
      · intro he
        rw [List.isEmpty_iff.mp he] at h
        cases h
def goneB (recs : List Rec) (c : Cw) : Bool := (!decide (c.ask ∈ recs.map (·.1))) || !decide (c.ans ∈ recs.map (·.1))
theorem gone_sto {recs : List Rec} {c : Cw} (h : goneB recs c = true) : stoL recs c [c.ask, c.ans] ≠ [] := fun e => by
  have h1 := List.map_eq_nil_iff.mp e
  have h2 := List.filter_eq_nil_iff.mp h1
  have a := h2 c.ask (by simp)
  have b := h2 c.ans (by simp)
  unfold goneB at h
  rw [Bool.or_eq_true] at h
  rcases h with h | h
  · exact a h
  · exact b h
theorem nd_same {cws : List Cw} (nd : (cws.map Cw.nam).Nodup) {c d : Cw} (hc : c ∈ cws) (hd : d ∈ cws) (e : c.nam = d.nam) : c = d := by
  induction cws with
  | nil => cases hc
  | cons a r ih =>
    rw [List.map_cons, List.nodup_cons] at nd
    rcases List.mem_cons.mp hc with h1 | hc2
    · rcases List.mem_cons.mp hd with h2 | hd2
      · rw [h1, h2]
      · exact absurd (List.mem_map.mpr ⟨d, hd2, by rw [← e, h1]⟩) nd.1
    · rcases List.mem_cons.mp hd with h2 | hd2
      · exact absurd (List.mem_map.mpr ⟨c, hc2, by rw [e, h2]⟩) nd.1
      · exact ih nd.2 hc2 hd2
def goneL (recs : List Rec) (cws : List Cw) : List Str := (cws.filter (goneB recs)).map Cw.nam
theorem none_gone {nm : Str} {cs : List Cho} {recs : List Rec} {cws : List Cw} (cw : CwsW cws) {x : List Key} (hx : x ∈ wroL nm (csP cs) recs cws) (hh : hdK x ∈ (["deed", "twice", "unset"] : List Str)) : sdK x ∉ goneL recs cws := fun hg => by
  simp only [List.mem_cons, List.not_mem_nil, or_false] at hh
  rcases List.mem_append.mp hx with h | h
  · rcases List.mem_append.mp h with h | h
    · rw [nob_hd x h] at hh
      exact absurd hh (by decide +kernel)
    · rw [end_hd x h] at hh
      exact absurd hh (by decide +kernel)
  · obtain ⟨c, hc, h⟩ := List.mem_flatMap.mp h
    obtain ⟨h1, h2⟩ := wroC_hd h
    rcases h2 with ⟨e, _⟩ | ⟨_, e⟩
    · rw [e] at hh
      exact absurd hh (by decide +kernel)
    · obtain ⟨d, hd, ed⟩ := List.mem_map.mp hg
      obtain ⟨hd, gd⟩ := List.mem_filter.mp hd
      have := nd_same cw.nd hc hd (by rw [ed, h1])
      subst this
      exact gone_sto gd e
theorem tp_rows {H : Hp} {p : Addr} {T : List Row} (X : RwL H p T) : TpAll H (T.map fun q => V.ref q.1) ((T.map (·.2)).map rowK) := by
  have go : ∀ x : List Key, TpAll H (x.map kV) (x.map keyK) := fun x => by
    induction x with
    | nil => exact .nil
    | cons k x ih => cases k with
      | inl i => exact .cons (.int i) ih
      | inr z => exact .cons (.str z) ih
  have go2 : ∀ {T : List Row}, (∀ q ∈ T, H q.1 = some (.tup (q.2.map kV))) → TpAll H (T.map fun q => V.ref q.1) ((T.map (·.2)).map rowK) := fun {T} => by
    induction T with
    | nil => exact fun _ => .nil
    | cons q T ih => exact fun h => .cons (.tup (h q List.mem_cons_self) (go q.2)) (ih fun r hr => h r (List.mem_cons_of_mem _ hr))
  exact go2 X.t
/-- a row of what is wrong, at hand -/
theorem wrk_at {H : Hp} {v : V} {x : List Key} (h : Tp H v (rowK x)) (w : WrK x) : ∃ (a : Addr) (r : List V), v = .ref a ∧ H a = some (.tup (.str (hdK x) :: .str (sdK x) :: r)) := by
  obtain ⟨wd, a, r, rfl, _⟩ := w
  obtain ⟨p, xs, rfl, hp, q⟩ := Tp.inv h
  obtain ⟨v1, r1, rfl, t1, q⟩ := TpAll.icons q
  obtain ⟨v2, r2, rfl, t2, q⟩ := TpAll.icons q
  have e1 : v1 = .str wd := t1.istr
  have e2 : v2 = .str a := t2.istr
  rw [e1, e2] at hp
  exact ⟨p, r2, rfl, hp⟩
abbrev nLaw : List Str := ["_law_script", "_law_k", "_law_bag_here", "_law_parts", "_law_due", "_law_told", "_law_one", "_law_forms", "_law_some", "_law_gone"]
def spLaw (K : PySem.W.Frag) : Sp := fun vs H Q _ => ∃ (a : Addr) (ns : List Int), vs = [.ref a] ∧ SqL K H a (ns.map V.int) ∧ ∀ H', Q (.bl true) H'
section
variable {P : Program} {w : World} {K : PySem.W.Frag} {mg : Str → Option Value} {base : Heap}
end
end Fh

set_option Elab.async false
set_option linter.all false
set_option maxRecDepth 100000
set_option maxHeartbeats 4000000
namespace Fh
open PySem PySem.Spec PyProof.Rows L2
/-! ### dict(a tuple of pairs) -/
theorem tup_no_keys : typeLookup (.type "tuple") "keys" = pure none := am_miss_of_fast (by first | decide +kernel | rfl)
section
variable {P : Program} {w : World} {A : Around} {E : Value → Shared → Prop}
theorem asks_keys {s : Shared} {a : Addr} {xs : Array Value} {k : Nat} {sl : Array (Option Value)} {Q : Option Value → Shared → Prop} (hx : s.heap.get? a = some { cls := .type "tuple", dict := none, data := .seq xs k, slots := sl }) (hA : A.handled = none)
    (h : ∀ h' tk, (∀ b ob, s.heap.get? b = some ob → h'.get? b = some ob) → Q none { s with heap := h', toks := tk }) : wpAny (model P w) A (getAttr? (.ref a) "keys") Q E s := by
  obtain ⟨hp, g, d, tk, os⟩ := s
  have ty : ∀ tk', (⟨hp, g, d, tk', os⟩ : Shared).TypeIs (.ref a) "tuple" := fun _ => ⟨_, hx, rfl⟩
  have f1 := sub_AttributeError
  have f2 := F.slot_tuple_getattribute.lookup
  have f3 := F.slot_tuple_getattribute.bind (.ref a)
  have f4 := am_tuple_getattr_none
  have nm : (["__module__", "__name__", "__qualname__", "__doc__", "__annotations__"] : List Str).contains "keys" = false := by decide +kernel
  have sz : ("keys" : Str).length + 100 ≤ sizeLine := by first | size_fits | decide +kernel
  unfold getAttr? getAttrBy? getAttrBy
  repeat (any_goals (first | assumption | exact ty _ | ((with_reducible show wpAny _ _ (call (Value.builtin "tuple.__getattribute__") _ _) _ _ _); refine call_meets F.slot_tuple_getattribute (ty _) am_entry_tuple_getattribute (F.args_tuple_getattribute_2 _ _) (meets_getattribute_miss_tuple a xs k sl "keys" _ tup_no_keys nm sz) ⟨hx, hA, fun h' tk' e ne => ?_⟩) | wp_step))
  obtain ⟨t', u', he⟩ := ne.there
  show wpAny _ _ (getattributeRaised _ _ _ _ _ _ _) _ _ _
  unfold getattributeRaised
  repeat (any_goals (first | assumption | wp_step))
  all_goals first | exact h _ _ ne.keeps | (dsimp only; repeat (any_goals (first | assumption | exact h _ _ ne.keeps | wp_step)))
end
end Fh

set_option Elab.async false
set_option linter.all false
set_option maxRecDepth 100000
set_option maxHeartbeats 4000000
namespace Fh
open PySem PySem.Spec PyProof.Rows L2
section
variable {P : Program} {w : World} {A : Around} {E : Value → Shared → Prop} {prs : List (Key × Value)}
/-- a pair with a key at b -/
def PairAt (h : Heap) (b : Addr) (q : Key × Value) : Prop := ∃ u, IsTup h b #[u, q.2] ∧ keyIs q.1 u = true
theorem PairAt.at {h h' : Heap} {b : Addr} {q : Key × Value} (p : PairAt h b q) (e : ∀ o, h.get? b = some o → h'.get? b = some o) : PairAt h' b q := by
  obtain ⟨u, ⟨o, ho, r⟩, k⟩ := p
  exact ⟨u, ⟨o, e o ho, r⟩, k⟩
theorem fillD {R : Result → Shared → Prop} {I S : Addr} {fp wr : List Addr} {G : Array GenState → Array GenState → Prop} {Pv : Nat → Value → Prop} {St : Nat → Shared → Prop} {s0 : Shared} {res : Value}
    (W : WalksS P w A.in1 I fp wr G prs.length Pv St) (hS : S ∉ fp) (hb : prs.length < 1000) (hk : ∀ i v, Pv i v → ∃ q b, prs[i]? = some q ∧ v = .ref b ∧ b ∉ S :: wr ∧ PairAt s0.heap b q)
    (fin : ∀ s', Moved (S :: wr) G s0 s' → s'.heap.DictOf (mixKind P w) S (merged [] prs) → R (.ok (.ret res)) s') :
    ∀ (d i : Nat) (s : Shared) (n : Int) (t : Tok), i + d = prs.length → St i s → Moved (S :: wr) G s0 s → s.heap.DictOf (mixKind P w) S (merged [] (prs.take i)) →
      codeAny (model P w) A (.builtin "dict.update.loop" ⟨[.ref S, .ref I, .int n t, res], []⟩) R s := by
  have out : S ∉ wr := fun h => hS (W.sub _ h)
  have more : ∀ {s1 s2 : Shared}, Moved wr G s1 s2 → Moved (S :: wr) G s1 s2 := fun m => m.mono fun b hb => List.mem_cons_of_mem _ hb
  intro d
  induction d with
  | zero =>
    intro i s n t e st mv so
    have ei : i = prs.length := by omega
    rw [ei] at st so
    rw [List.take_length] at so
    refine codeAny_builtin ud_entry ?_
    rw [Around.under_plainId ud_plain _]
    refine wpAny_bind (m := pyNext (.ref I)) (W.done s _ _ st fun s1 m1 => ?_)
    refine wpAny_bind (m := Builtin.Dict.addKeywords S []) (wpAny_pure (wpAny_pure ?_))
    exact fin s1 (Moved.trans W.gtrans mv (more m1)) (so.at fun o e => m1.heap _ o out e)
  | succ d ih =>
    intro i s n t e st mv so
    refine codeAny_builtin ud_entry ?_
    rw [Around.under_plainId ud_plain _]
    refine wpAny_bind (m := pyNext (.ref I)) (W.item i s _ _ (by omega) st fun v s1 pv st1 m1 => ?_)
    obtain ⟨q, b, hq, rfl, nb, pq⟩ := hk i v pv
    have mv1 := Moved.trans W.gtrans mv (more m1)
    obtain ⟨u, tup, ku⟩ := pq.at (h' := s1.heap) fun o e => mv1.heap _ o nb e
    have so1 : s1.heap.DictOf (mixKind P w) S (merged [] (prs.take i)) := so.at fun o e => m1.heap _ o out e
    obtain ⟨o, ho, hc, n', hd⟩ := id tup
    have ln : (merged [] (prs.take i)).length + 1 ≤ sizeLine := by
      have z : (merged [] (prs.take i)).length ≤ i := by
        have gen : ∀ l : List (Key × Value), ∀ acc, (merged acc l).length ≤ acc.length + l.length := by
          intro l
          induction l with
          | nil => intro acc; exact Nat.le_refl _
          | cons x l ih2 =>
            intro acc
            have z1 := ih2 (stored acc x.1 x.2)
            have z2 := stored_length_le acc x.1 x.2
            show (merged (stored acc x.1 x.2) l).length ≤ _
            rw [List.length_cons]
            omega
        have z1 := gen (prs.take i) []
        rw [List.length_take, List.length_nil] at z1
        omega
      rw [sizeLine_eq]
      omega
    refine wpAny_bind (m := holding [Value.ref b] _) (wpAny_holding ?_)
    refine wpAny_bind (wpAny_tryCatch ?_)
    unfold Builtin.Dict.pairItems
    refine wpAny_bind (wpAny_typeOf (T := "tuple") ⟨o, ho, hc⟩ ?_)
    rw [if_pos (by first | decide | rfl | simp)]
    refine wpAny_bind (wpAny_seqItems ho hd (wpAny_pure ?_))
    refine wpAny_holding (wpAny_dictSet_pairs (knd := mixKind P w) (k := q.1) ku so1 (fun h2 so2 sb => ?_) (by omega))
    rw [← merged_take_succ _ _ _ _ hq] at so2
    have other : ∀ b o, b ≠ S → s1.heap.get? b = some o → h2.get? b = some o := fun b o n g => sb.extBut b o n g
    exact wpAny_pure ⟨plainId_quiet ud_plain _, ih (i + 1) _ (n + 1) 0 (by omega) (W.frame _ s1 _ _ st1 (by first | exact Nat.le_succ _ | exact Nat.le_add_right _ _ | exact Nat.le_refl _) fun b hb o g => other b o (fun h => hS (h ▸ hb)) g) (Moved.trans W.gtrans mv ((more m1).then_heap (by first | exact Nat.le_succ _ | exact Nat.le_add_right _ _ | exact Nat.le_refl _) fun b o hb g => other b o (fun h => hb (h ▸ List.mem_cons_self)) g)) so2⟩
end
end Fh

set_option Elab.async false
set_option linter.all false
set_option maxRecDepth 100000
set_option maxHeartbeats 4000000
namespace Fh
open PySem PySem.Spec PyProof.Rows L2
section
variable {P : Program} {w : World} {A : Around} {E : Value → Shared → Prop} {prs : List (Key × Value)}
/-- dict(a tuple of pairs) -/
theorem call_dictTup {s : Shared} {l : Addr} {items : Array Value} {n : Nat} {sl : Array (Option Value)} {Q : Value → Shared → Prop} (hh : A.handled = none) (hl : s.heap.get? l = some { cls := .type "tuple", dict := none, data := .seq items n, slots := sl }) (hn : items.size = prs.length) (hb : prs.length < 1000)
    (hk : ∀ (i : Nat) (v : Value), items[i]? = some v → ∃ q b, prs[i]? = some q ∧ v = Value.ref b ∧ PairAt s.heap b q)
    (h : ∀ h' tk, h'.DictOf (mixKind P w) s.heap.objs.size (merged [] prs) → (∀ b o, s.heap.get? b = some o → h'.get? b = some o) → Q (.ref s.heap.objs.size) { s with heap := h', toks := tk }) :
    wpAny (model P w) A (call (.type "dict") [.ref l]) Q E s := by
  refine callType_codes (Q₁ := fun obj s₁ => obj = .ref s.heap.objs.size ∧ s₁ = { s with heap := s.heap.push { cls := .type "dict", data := .dict #[] } }) PySem.F.kt_called_dict (PySem.F.kt_typeCall_dict_1 _) PySem.F.entry_dict_init (kt_code_dict_new _ ⟨rfl, rfl⟩) ?_
  rintro obj s₁ ⟨rfl, rfl⟩
  have new : (s.heap.push { cls := .type "dict", data := .dict #[] }).DictOf (mixKind P w) s.heap.objs.size [] := Heap.DictOf.new s.heap
  have up : ∀ {b : Addr} {o : Obj}, s.heap.get? b = some o → (s.heap.push { cls := .type "dict", data := .dict #[] }).get? b = some o := fun e => Heap.get?_push_of_some _ e
  refine ⟨new.typeIs, PySem.F.args_dict_init_2 _ _, ?_⟩
  unfold Builtin.«dict.__init__»
  refine wpAny_bind ?_
  unfold Builtin.Dict.selfAndRest
  refine wpAny_bind (wpAny_notOrdered_dict new.typeIs ?_)
  show wpAny _ _ (pure (s.heap.objs.size, [Value.ref l])) _ _ _
  refine wpAny_pure ?_
  show wpAny _ _ (Builtin.Dict.updateFrom "dict.__init__" s.heap.objs.size (.ref l) [] .none) _ _ _
  unfold Builtin.Dict.updateFrom
  refine wpAny_bind (wpAny_typeOf (T := "tuple") ⟨_, up hl, rfl⟩ ?_)
  rw [if_pos (by first | decide | rfl | simp)]
  refine wpAny_bind (asks_keys (up hl) hh fun h1 tk1 k1 => ?_)
  rw [if_pos (show (none : Option Value).isNone = true from rfl)]
  refine wpAny_bind (wpAny_rule ?_)
  have at1 : h1.get? l = some { cls := .type "tuple", dict := none, data := .seq items n, slots := sl } := k1 _ _ (up hl)
  have tup1 : h1.IsTuple l items := ⟨_, at1, rfl, n, rfl⟩
  have S1 : s.heap.objs.size < h1.objs.size := by
    have e : (s.heap.push { cls := .type "dict", data := .dict #[] }).get? s.heap.objs.size = some { cls := .type "dict", data := .dict #[] } := Heap.get?_push_size _ rfl
    exact Heap.lt_size (k1 _ _ e)
  have lt : l < s.heap.objs.size := Heap.lt_size hl
  refine wpAny_bind (wpAny_pyIter_tuple (s := { s with heap := h1, toks := tk1 }) tup1 ?_)
  have k2 : ∀ {b : Addr} {o : Obj}, h1.get? b = some o → (h1.push { cls := .type "tuple_iterator", data := .fields #[.ref l, .int 0 0] }).get? b = some o := fun e => Heap.get?_push_of_some _ e
  have h3 : A.in1.in1.handled = none := by simp [hh]
  have W := (Walks.tuple (prog := P) (w := w) h3 h1.objs.size l (Nat.ne_of_lt (Nat.lt_trans lt S1)) items).toS
  rw [hn] at W
  have key := fillD (P := P) (w := w) (A := A.in1) (R := wants (fun r s₂ => r = .none ∧ Q (.ref s.heap.objs.size) s₂) E) (S := s.heap.objs.size) (res := Value.none) (s0 := { s with heap := h1.push { cls := .type "tuple_iterator", data := .fields #[.ref l, .int 0 0] }, toks := tk1 }) W (by simp [Nat.ne_of_lt S1, Nat.ne_of_gt lt]) hb
    (fun i v hv => by
      obtain ⟨q, b, e1, e2, e3⟩ := hk i v hv
      have e4 := e3
      obtain ⟨u, ⟨o, ho, _⟩, _⟩ := e4
      have lb := Heap.lt_size ho
      refine ⟨q, b, e1, e2, ?_, e3.at fun o e => k2 (k1 _ _ (up e))⟩
      simp only [List.mem_cons, List.not_mem_nil, or_false, not_or]
      exact ⟨Nat.ne_of_lt lb, Nat.ne_of_lt (Nat.lt_trans lb S1)⟩)
    (fun s' mv dd => by
      obtain ⟨h', g', d', tk', os'⟩ := s'
      have eg : g' = s.gens := mv.gens
      have ed : d' = s.drawn := mv.drawn
      have eo : os' = s.os := mv.os
      subst eg
      subst ed
      subst eo
      exact ⟨rfl, h h' tk' dd fun b o e => mv.heap b o (by
        simp only [List.mem_cons, List.not_mem_nil, or_false, not_or]
        exact ⟨Nat.ne_of_lt (Heap.lt_size e), Nat.ne_of_lt (Nat.lt_trans (Heap.lt_size e) S1)⟩) (k2 (k1 _ _ (up e)))⟩)
    prs.length 0 { s with heap := h1.push { cls := .type "tuple_iterator", data := .fields #[.ref l, .int 0 0] }, toks := tk1 } 0 0 (Nat.zero_add _) ⟨⟨_, Heap.get?_push_size _ rfl, rfl, rfl⟩, tup1.push _⟩ ⟨fun _ _ _ e => e, W.grefl _, rfl, rfl, Nat.le_refl _⟩ ((new.at fun o e => k1 _ _ e).at fun o e => k2 e)
  first
    | exact wpAny_pure ⟨plainId_quiet ud_plain _, key⟩
    | exact wpAny_bind (wpAny_pure (wpAny_pure ⟨plainId_quiet ud_plain _, key⟩))
end
/-- a tuple with no dict of its own -/
def PlainT (o : Obj) : Prop := ∃ (xs : Array Value) (n : Nat) (sl : Array (Option Value)), o = { cls := .type "tuple", dict := none, data := .seq xs n, slots := sl }
section
variable {X : Cx}
/-- dict(xs) of a frozen tuple of pairs -/
def rDictT (K : PySem.W.Frag) : List V → Hp → VK → Prop := fun xs H Q => ∃ (a : Addr) (o : Obj) (ps : List Addr) (kvs : List (Key × V)), xs = [.ref a] ∧ H a = some (.frz o (.tup (ps.map V.ref))) ∧ PlainT o ∧ Paired (fun p kv => SqT K H p [kV kv.1, kv.2]) ps kvs ∧ ps.length < 1000 ∧
    ∀ p, H p = none → Q (.ref p) (upd H p (.dK (mergeK [] kvs)))
theorem cr_dictT (hcalm : X.calm = true) : CallR X (.type "dict") (rDictT X.K) := by
  intro pins s σ H xs us Q I r q
  obtain ⟨a, o, ps, kvs, rfl, hq, pl, hp, few, q⟩ := q
  rw [Vals.ref1 r]
  obtain ⟨ho, _, its, rv, tp⟩ := I.hok a _ hq
  have ei := refs_at rv
  subst ei
  obtain ⟨prs, rel, hl, hpr⟩ := pairs_of I hp
  obtain ⟨ys, n, sl, rfl⟩ := pl
  obtain ⟨o2, ho2, _, n2, hd2⟩ := tp
  rw [ho] at ho2
  cases Option.some.inj ho2
  cases hd2
  refine call_dictTup (prs := prs) (I.ok.hd hcalm) ho (by simp [hl]) (by rw [hl]; exact few) (fun i v hv => ?_) fun h' tk hd' k => ?_
  · have lt : i < prs.length := by
      have z : i < (ps.map Value.ref).toArray.size := by
        rcases Nat.lt_or_ge i (ps.map Value.ref).toArray.size with h | h
        · exact h
        · rw [Array.getElem?_eq_none h] at hv; cases hv
      simp at z
      omega
    obtain ⟨b, u, e1, e2, e3⟩ := hpr i prs[i] (List.getElem?_eq_getElem lt)
    have ev : v = Value.ref b := by
      have z : (ps.map Value.ref)[i]? = some v := by simpa using hv
      rw [List.getElem?_map, e1] at z
      exact (Option.some.inj z).symm
    exact ⟨prs[i], b, List.getElem?_eq_getElem lt, ev, u, e2, e3⟩
  · have hm : (s.heap.objs.size == sysModules) = false := beq_eq_false_iff_ne.mpr (Nat.ne_of_gt I.big)
    have hlen : (mergeK [] kvs).length ≤ sizeLine := by
      refine Nat.le_trans (length_mergeK kvs []) ?_
      rw [List.length_nil, Nat.zero_add, rel.length, hl, sizeLine_eq]
      omega
    exact ⟨.ref s.heap.objs.size, upd H s.heap.objs.size (.dK (mergeK [] kvs)), I.laid (t' := tk) k (Nat.le_refl _) (show ObjOk X.prog X.w _ _ _ (.dK (mergeK [] kvs)) from ⟨hlen, hm, merged [] prs, KV.merge rel .nil, hd'⟩), rfl, q _ (I.hok.fresh (Nat.le_refl _))⟩
end
end Fh

set_option Elab.async false
set_option linter.all false
set_option maxRecDepth 100000
set_option maxHeartbeats 4000000
namespace Fh
open PySem PySem.Spec PyProof.Rows L2
/-! ### tuples held as the very objects they are -/
section
variable {X : Cx} {es : List Expr} {t : TA} {pos : Pos}
def tTupF (t : TA) : TE := fun σ H Q => t σ H fun xs H1 => xs.length ≤ sizeLine ∧ ∀ p o, H1 p = none → PlainT o → Q (.ref p) (upd H1 p (.frz o (.tup xs)))
theorem pe_tupF {x1} (h : PA X es t) : PE X (.Tuple es x1 pos) (tTupF t) := by
  refine ⟨fun pins s σ H Q I hq => ?_⟩
  refine wpAny_Tuple_spliced (thn (h.run pos pins s σ H _ I hq) fun us s1 ⟨xs, H1, I1, r, z, q⟩ => ⟨by rw [← r.length]; exact z, ?_⟩)
  have fresh : H1 s1.heap.objs.size = none := I1.hok.fresh (Nat.le_refl _)
  exact ⟨.ref s1.heap.objs.size, upd H1 s1.heap.objs.size (.frz _ (.tup xs)), I1.laid (t' := s1.toks) (fun b u e => Heap.get?_push_of_some _ e) (Nat.le_refl _) ⟨Heap.get?_push_size _ rfl, z, us, r, ⟨_, Heap.get?_push_size _ rfl, rfl, _, rfl⟩⟩, rfl, q _ _ fresh ⟨_, _, _, rfl⟩⟩
/-- tuple(a list) -/
def rTupF (K : PySem.W.Frag) : List V → Hp → VK → Prop := fun xs H Q => ∃ p ys, xs = [V.ref p] ∧ SqL K H p ys ∧ ∀ l o, H l = none → PlainT o → Q (.ref l) (upd H l (.frz o (.tup ys)))
theorem cr_tupleF : CallR X (.type "tuple") (rTupF X.K) := by
  intro pins s σ H xs us Q I r h
  obtain ⟨p, ys, rfl, hq, q⟩ := h
  rw [Vals.ref1 r]
  obtain ⟨its, r', pl, hz⟩ := I.list hq
  have hlen := r'.length
  refine call_tuple_list pl.isList (fun h' kp => ?_) (by simp only [List.size_toArray] <;> omega)
  have I1 : Inv X pins σ H { s with heap := h' } := I.kept (t' := s.toks) kp
  exact ⟨.ref h'.objs.size, upd H h'.objs.size (.frz { cls := .type "tuple", data := .seq its.toArray } (.tup ys)), I1.laid (t' := s.toks) (fun b o e => Heap.get?_push_of_some _ e) (Nat.le_refl _) ⟨Heap.get?_push_size _ rfl, hz, its, r', IsTup.new _ _⟩, rfl, q _ _ (I1.hok.fresh (Nat.le_refl _)) ⟨_, _, _, rfl⟩⟩
end
end Fh

set_option Elab.async false
set_option linter.all false
set_option maxRecDepth 100000
set_option maxHeartbeats 4000000
namespace Fh
open PySem L2 PyProof.Rows
/-! ### the parts of a face with rows held as the very objects -/
def Fk (H H' : Hp) : Prop := ∀ a o u, H a = some (.frz o u) → H' a = some (.frz o u)
theorem Fk.refl {H : Hp} : Fk H H := fun _ _ _ h => h
theorem Fk.trans {H H1 H2 : Hp} (a : Fk H H1) (b : Fk H1 H2) : Fk H H2 := fun c o u h => b c o u (a c o u h)
theorem Same.fk {H H' : Hp} (s : Same H H') : Fk H H' := fun a o u h => s a _ h
theorem Kp.fk {b : Addr} {H H' : Hp} {n : Nat} (k : Kp b H H') (hb : Bag H b n) : Fk H H' := fun a o u h => k a _ (fun e => by
  obtain ⟨x, y, z, hb, _⟩ := hb
  rw [e, hb] at h
  cases h) h
theorem Fk.wr {H : Hp} {p : Addr} {ys : List V} {o : HO} (h : H p = some (.lst ys)) : Fk H (upd H p o) := fun a ob u e => by
  rw [upd_ne fun q => by rw [q, h] at e; cases e]
  exact e
theorem Fk.new {H : Hp} {p : Addr} {o : HO} (h : H p = none) : Fk H (upd H p o) := Same.fk (Same.new h)
def TpF (H : Hp) (v : V) (d : PyData) : Prop := ∃ (a : Addr) (o : Obj) (xs : List V) (ds : List PyData), v = .ref a ∧ d = .tuple ds ∧ H a = some (.frz o (.tup xs)) ∧ PlainT o ∧ TpAll H xs ds
theorem TpF.keep {H H' : Hp} {v : V} {d : PyData} (h : TpF H v d) (f : Fk H H') (t : Tk H H') : TpF H' v d := by
  obtain ⟨a, o, xs, ds, e1, e2, h1, h2, h3⟩ := h
  exact ⟨a, o, xs, ds, e1, e2, f _ _ _ h1, h2, TpAll.keep t _ _ h3⟩
theorem TpF.tr {H : Hp} {v : V} {d : PyData} (h : TpF H v d) : TpR H v d := by
  obtain ⟨a, o, xs, ds, e1, e2, h1, h2, h3⟩ := h
  exact ⟨a, xs, ds, e1, e2, .inr ⟨o, h1⟩, h3⟩
theorem TpF.inv {H : Hp} {v : V} {ds : List PyData} (h : TpF H v (.tuple ds)) : ∃ a o xs, v = .ref a ∧ H a = some (.frz o (.tup xs)) ∧ PlainT o ∧ TpAll H xs ds := by
  obtain ⟨a, o, xs, ds', rfl, e, h1, h2, h3⟩ := h
  cases e
  exact ⟨a, o, xs, rfl, h1, h2, h3⟩
theorem SqT.fz {K : PySem.W.Frag} {H : Hp} {a : Addr} {o : Obj} {xs : List V} (h : H a = some (.frz o (.tup xs))) : SqT K H a xs := .inl (.inr ⟨o, h⟩)
def PtF (H : Hp) (v : V) (own : Str) (age : Int) (cs : List Cho) (recs : List Rec) (cws : List Cw) : Prop := ∃ (p : Addr) (v3 v4 v5 : V), v = .ref p ∧ H p = some (.tup [.str own, .int age, v3, v4, v5]) ∧ TpF H v3 (rowsD (csP cs)) ∧ TpF H v4 (rowsD (recs.map rD)) ∧ Tp H v5 (.tuple (cws.map Cw.d))
theorem PtF.keep {H H' : Hp} {v : V} {own : Str} {age : Int} {cs : List Cho} {recs : List Rec} {cws : List Cw} (h : PtF H v own age cs recs cws) (f : Fk H H') (t : Tk H H') : PtF H' v own age cs recs cws := by
  obtain ⟨p, v3, v4, v5, e, hp, t3, t4, t5⟩ := h
  exact ⟨p, v3, v4, v5, e, t _ _ hp, t3.keep f t, t4.keep f t, Tp.keep t _ _ t5⟩
theorem PtF.same {H H' : Hp} {v : V} {own : Str} {age : Int} {cs : List Cho} {recs : List Rec} {cws : List Cw} (h : PtF H v own age cs recs cws) (s : Same H H') : PtF H' v own age cs recs cws := h.keep (Same.fk s) (Same.tk s)
/-- a slice: some tuple of what is cut -/
theorem slA {K : PySem.W.Frag} {H : Hp} {a : Addr} {xs : List V} {lo hi : Option Int} {Q : V → Hp → Prop} (ha : H a = some (.tup xs)) (q : ∀ (r : Addr) (H' : Hp), Same H H' → H' r = some (.tup (cutV xs lo hi)) → Q (.ref r) H') : rSlA K (.ref a) lo hi H Q := by
  refine ⟨a, xs, rfl, SqT.of ha, fun h => q a H (Same.refl H) ?_, fun _ p hp => q p _ (Same.new hp) upd_same⟩
  have e : cutV xs lo hi = xs := by
    unfold cutV
    rw [h.1, h.2, List.drop_zero, Nat.sub_zero, List.take_length]
  rw [e]
  exact ha
theorem catA {K : PySem.W.Frag} {H : Hp} {a b : Addr} {xs ys : List V} {Q : V → Hp → Prop} (ha : H a = some (.tup xs)) (hb : H b = some (.tup ys)) (hl : xs.length + ys.length ≤ sizeLine) (q : ∀ (r : Addr) (H' : Hp), Same H H' → H' r = some (.tup (xs ++ ys)) → Q (.ref r) H') : rCatA K (.ref a) (.ref b) H Q := by
  refine ⟨a, b, xs, ys, rfl, rfl, SqT.of ha, SqT.of hb, hl, fun e => ?_, fun _ e => ?_, fun _ _ p hp => ?_⟩
  · exact q b H (Same.refl H) (by rw [e, List.nil_append]; exact hb)
  · exact q a H (Same.refl H) (by rw [e, List.append_nil]; exact ha)
  · exact q p _ (Same.new hp) upd_same
def spAllF : Sp := fun vs H Q _ => ∃ (b : Addr) (n : Nat), vs = [.ref b] ∧ Bag H b n ∧ n + 5000 ≤ most ∧
  ∀ (v : V) (own : Str) (age : Int) (cs : List Cho) (recs : List Rec) (cws : List Cw) (H' : Hp), PtF H' v own age cs recs cws → PtW own age cs recs cws → Kp b H H' → Bag H' b (n + 4000) → Q v H'
section
variable {P : Program} {w : World} {K : PySem.W.Frag} {mg : Str → Option Value} {base : Heap}
end
end Fh

set_option Elab.async false
set_option linter.all false
set_option maxRecDepth 100000
set_option maxHeartbeats 4000000
namespace Fh
open PySem L2 PyProof.Rows
abbrev sSrv : Stmt := top 46
abbrev nSrv : List Str := ["_law_bag_here", "_law_name", "_law_edition", "_law_below", "_law_many", "_law_words", "_law_picks_here", "_law_rows", "_law_acts", "_law_number", "_law_word", "_law_at", "_law_ask", "_law_answer", "_law_size", "_law_names", "_law_asks", "_law_own", "_law_field", "_law_kind", "_law_need", "_law_deeds", "_law_sets", "_law_tells", "_law_one"]
abbrev pSrv : List Str := ["_law_bag_here", "_law_name", "_law_edition", "_law_below"]
abbrev pNm9 : List Str := ["_law_bag_here", "_law_size", "_law_taken"]
theorem iteY {A B : Prop} {c : Bool} (h : c = true) (a : A) : if c = true then A else B := by
  rw [h]
  exact iteT a
theorem iteN {A B : Prop} {c : Bool} (h : c = false) (b : B) : if c = true then A else B := by
  rw [h]
  exact iteF b
theorem strs_at {ws : List Str} {i : Nat} {x : V} (h : (ws.map V.str)[i]? = some x) : ∃ z, ws[i]? = some z ∧ x = .str z := by
  rw [List.getElem?_map] at h
  cases e : ws[i]? with
  | none => rw [e] at h; cases h
  | some z => rw [e] at h; exact ⟨z, rfl, (Option.some.inj h).symm⟩
def Fl.gd (f : Fl) : Gd9 := ⟨f.nam, f.kd, f.must⟩
abbrev okN (cs : List Cho) : List Str := (csP cs).map Prod.fst
/-- the fields of an ask -/
structure AskOk9 (cs : List Cho) (fl : List Fl) : Prop where
  nd : (fl.map Fl.nam).Nodup
  who : ("who" : Str) ∈ fl.map Fl.nam
  sum : ("sum" : Str) ∈ fl.map Fl.nam
  kw : ∀ f ∈ fl, f.nam = "who" → f.kd = .one .text ∧ f.must = true
  ks : ∀ f ∈ fl, f.nam = "sum" → f.kd = .one .whole ∧ f.must = true
  gk : ∀ f ∈ fl, GK9 ((csP cs).map Prod.fst) f.kd
  l : fl.length ≤ 5
  sn : ∀ z ∈ fl.map Fl.nam, Nm z
  rise : (fl.map Fl.num).Pairwise (· < ·)
  rg : ∀ f ∈ fl, 1 ≤ f.num ∧ f.num ≤ 30
/-- a call that is right -/
def ClOk9 (cs : List Cho) (recs : List Rec) (c : Cw) : Prop := CwW c ∧ ∃ (fl tl : List Fl) (ds : List Dd9), (c.ask, fl) ∈ recs ∧ (c.ans, tl) ∈ recs ∧ c.ds = ds.map Dd9.ps ∧ CdOk fl ds (tl.map Fl.gd) ∧ AskOk9 cs fl ∧ 1 ≤ ds.length
def RcOk9 (cs : List Cho) (r : Rec) : Prop := FlW r.2 ∧ ∀ f ∈ r.2, GK9 (okN cs) f.kd
structure SrvOk9 (cs : List Cho) (recs : List Rec) (cws : List Cw) : Prop where
  ne : cws ≠ []
  l3 : cws.length ≤ 3
  rc : ∀ r ∈ recs, RcOk9 cs r
  ok : ∀ c ∈ cws, ClOk9 cs recs c
theorem gk_nm {cs : List Cho} {k : Kn} (h : GK9 (okN cs) k) (hc : CsW cs) : ∀ z, k.nm = some z → Nm z := by
  intro z e
  have go : ∀ b : Kb, Gb9 (okN cs) b → b.nm = some z → Nm z := fun b hb eb => by
    cases b with
    | rc y => exact hb.elim
    | ch y =>
      have ey : y = z := Option.some.inj eb
      rw [← ey]
      have hb' : y ∈ okN cs := hb
      unfold okN at hb'
      rw [csP_names] at hb'
      obtain ⟨c, hc', e2⟩ := List.mem_map.mp hb'
      rw [← e2]
      exact hc.nm c hc'
    | whole => cases eb
    | truth => cases eb
    | text => cases eb
  cases k with
  | one b => exact go b h e
  | lst b => exact go b h e
theorem gk_whole (cs : List Str) : GK9 cs (.one .whole) := True.intro
theorem nmWho : Nm "who" := nm_lit (by decide +kernel)
theorem nmSum : Nm "sum" := nm_lit (by decide +kernel)
theorem dd_w {d : Dd9} (h : ∀ f, d.sets = some f → Nm f) (h2 : ∀ f g, d = .copy f g → Nm g) : DdW d.ps := by
  cases d with
  | take =>
    refine ⟨by decide, by decide, fun z hz => ?_, by decide +kernel⟩
    have e : z = "take" ∨ z = "who" ∨ z = "sum" ∨ z = "short" := by simpa [Dd9.ps] using hz
    rcases e with rfl | rfl | rfl | rfl <;> exact nm_lit (by decide +kernel)
  | add =>
    refine ⟨by decide, by decide, fun z hz => ?_, by decide +kernel⟩
    have e : z = "add" ∨ z = "who" ∨ z = "sum" := by simpa [Dd9.ps] using hz
    rcases e with rfl | rfl | rfl <;> exact nm_lit (by decide +kernel)
  | tell f =>
    refine ⟨(by show 3 ≤ 3; decide), (by show 3 ≤ 4; decide), fun z hz => ?_, ?_⟩
    · have e : z = "tell" ∨ z = f ∨ z = "who" := by simpa [Dd9.ps] using hz
      rcases e with rfl | rfl | rfl
      · exact nm_lit (by decide +kernel)
      · exact h _ rfl
      · exact nmWho
    · show ("tell" : Str) ∈ six
      decide +kernel
  | copy f g =>
    refine ⟨(by show 3 ≤ 3; decide), (by show 3 ≤ 4; decide), fun z hz => ?_, ?_⟩
    · have e : z = "copy" ∨ z = f ∨ z = g := by simpa [Dd9.ps] using hz
      rcases e with rfl | rfl | rfl
      · exact nm_lit (by decide +kernel)
      · exact h _ rfl
      · exact h2 _ _ rfl
    · show ("copy" : Str) ∈ six
      decide +kernel
theorem dd_ps (ds : List Dd9) : (ds.map Dd9.ps).map dD = ds.map Dd9.d := by
  rw [List.map_map]
  rfl
/-- what is drawn so far: rows at R, calls at D -/
structure SrvI (H0 H : Hp) (b w wo pk R D : Addr) (m : Nat) (ys : List Str) (pv : List V) (cs : List Cho) (rows : List (Str × PyData)) (cl : List Cw) : Prop where
  kp : Kp b H0 H
  bg : Bag H b m
  ww : H w = some (.lst [])
  hw : H wo = some (.lst (ys.map V.str))
  hp : H pk = some (.lst pv)
  tp : TpAll H pv ((csP cs).map fun r => .tuple [.str r.1, r.2])
  d0 : H0 D = none
  rl : ∃ rv, H R = some (.lst rv) ∧ TpAll H rv (rows.map fun r => .tuple [.str r.1, r.2])
  dl : ∃ dv, H D = some (.lst dv) ∧ TpAll H dv (cl.map Cw.d)
  nb : w ≠ b ∧ wo ≠ b ∧ pk ≠ b ∧ R ≠ b ∧ D ≠ b
  nd : D ≠ w ∧ D ≠ wo ∧ D ≠ pk ∧ D ≠ R
section
variable {H0 H H1 : Hp} {b w wo pk R D : Addr} {m m1 : Nat} {ys : List Str} {pv : List V} {cs : List Cho} {rows : List (Str × PyData)} {cl : List Cw}
theorem SrvI.take (h : SrvI H0 H b w wo pk R D m ys pv cs rows cl) (k : Kp b H H1) (b1 : Bag H1 b m1) : SrvI H0 H1 b w wo pk R D m1 ys pv cs rows cl := by
  obtain ⟨kp, bg, ww, hw, hp, tp, d0, ⟨rv, hr, tr⟩, ⟨dv, hd, td⟩, ⟨n1, n2, n3, n4, n5⟩, nd⟩ := h
  exact ⟨kp.trans k, b1, k _ _ n1 ww, k _ _ n2 hw, k _ _ n3 hp, TpAll.keep (k.tk bg) _ _ tp, d0, ⟨rv, k _ _ n4 hr, TpAll.keep (k.tk bg) _ _ tr⟩, ⟨dv, k _ _ n5 hd, TpAll.keep (k.tk bg) _ _ td⟩, ⟨n1, n2, n3, n4, n5⟩, nd⟩
theorem SrvI.same (h : SrvI H0 H b w wo pk R D m ys pv cs rows cl) (s : Same H H1) : SrvI H0 H1 b w wo pk R D m ys pv cs rows cl := h.take (Kp.refl.same s) (h.bg.same s)
theorem SrvI.new (h : SrvI H0 H b w wo pk R D m ys pv cs rows cl) {p : Addr} {o : HO} (s : H p = none) : SrvI H0 (upd H p o) b w wo pk R D m ys pv cs rows cl := h.same (Same.new s)
theorem SrvI.mono (h : SrvI H0 H b w wo pk R D m ys pv cs rows cl) (hm : m ≤ m1) : SrvI H0 H b w wo pk R D m1 ys pv cs rows cl := { h with bg := h.bg.mono hm }
theorem SrvI.free (h : SrvI H0 H b w wo pk R D m ys pv cs rows cl) {p : Addr} (s : H p = none) : H0 p = none ∧ p ≠ b ∧ p ≠ w ∧ p ≠ wo ∧ p ≠ pk ∧ p ≠ R ∧ p ≠ D := by
  refine ⟨h.kp.free h.bg.at s, new_ne s h.bg, fun e => ?_, fun e => ?_, fun e => ?_, fun e => ?_, fun e => ?_⟩
  · rw [e, h.ww] at s; cases s
  · rw [e, h.hw] at s; cases s
  · rw [e, h.hp] at s; cases s
  · obtain ⟨_, hr, _⟩ := h.rl; rw [e, hr] at s; cases s
  · obtain ⟨_, hd, _⟩ := h.dl; rw [e, hd] at s; cases s
/-- a list of one's own is written -/
theorem SrvI.wr (h : SrvI H0 H b w wo pk R D m ys pv cs rows cl) {N : Addr} {xs : List V} {o : HO} (hN : H N = some (.lst xs)) (n0 : H0 N = none) (hb : N ≠ b) (a0 : N ≠ w) (a1 : N ≠ wo) (a2 : N ≠ pk) (a3 : N ≠ R) (a4 : N ≠ D) : SrvI H0 (upd H N o) b w wo pk R D m ys pv cs rows cl := by
  obtain ⟨kp, bg, ww, hw, hp, tp, d0, ⟨rv, hr, tr⟩, ⟨dv, hd, td⟩, nb, nd⟩ := h
  exact ⟨kp.wr n0, bg.ne hb, by rw [upd_ne a0.symm]; exact ww, by rw [upd_ne a1.symm]; exact hw, by rw [upd_ne a2.symm]; exact hp, TpAll.keep (Tk.wr hN) _ _ tp, d0, ⟨rv, by rw [upd_ne a3.symm]; exact hr, TpAll.keep (Tk.wr hN) _ _ tr⟩, ⟨dv, by rw [upd_ne a4.symm]; exact hd, TpAll.keep (Tk.wr hN) _ _ td⟩, nb, nd⟩
theorem SrvI.setD (h : SrvI H0 H b w wo pk R D m ys pv cs rows cl) {dv dv1 : List V} {cl1 : List Cw} (hd : H D = some (.lst dv)) (t : TpAll H dv1 (cl1.map Cw.d)) : SrvI H0 (upd H D (.lst dv1)) b w wo pk R D m ys pv cs rows cl1 := by
  obtain ⟨kp, bg, ww, hw, hp, tp, d0, ⟨rv, hr, tr⟩, _, nb, ⟨n1, n2, n3, n4⟩⟩ := h
  exact ⟨kp.wr d0, bg.ne nb.2.2.2.2, by rw [upd_ne n1.symm]; exact ww, by rw [upd_ne n2.symm]; exact hw, by rw [upd_ne n3.symm]; exact hp, TpAll.keep (Tk.wr hd) _ _ tp, d0, ⟨rv, by rw [upd_ne n4.symm]; exact hr, TpAll.keep (Tk.wr hd) _ _ tr⟩, ⟨dv1, upd_same, TpAll.keep (Tk.wr hd) _ _ t⟩, nb, ⟨n1, n2, n3, n4⟩⟩
theorem SrvI.setR (h : SrvI H0 H b w wo pk R D m ys pv cs rows cl) {R1 : Addr} {rv1 : List V} {rows1 : List (Str × PyData)} (hr : H R1 = some (.lst rv1)) (t : TpAll H rv1 (rows1.map fun r => .tuple [.str r.1, r.2])) (n1 : R1 ≠ b) (n2 : R1 ≠ D) : SrvI H0 H b w wo pk R1 D m ys pv cs rows1 cl := by
  obtain ⟨kp, bg, ww, hw, hp, tp, d0, _, dl, ⟨m1, m2, m3, m4, m5⟩, ⟨d1, d2, d3, d4⟩⟩ := h
  exact ⟨kp, bg, ww, hw, hp, tp, d0, ⟨rv1, hr, t⟩, dl, ⟨m1, m2, m3, n1, m5⟩, ⟨d1, d2, d3, n2.symm⟩⟩
end
theorem take2 {α : Type} {ys : List α} {i : Nat} {a c : α} (h1 : ys[2 * i]? = some a) (h2 : ys[2 * i + 1]? = some c) : ys.take (2 * (i + 1)) = ys.take (2 * i) ++ [a, c] := by
  rw [show 2 * (i + 1) = 2 * i + 1 + 1 by omega, List.take_add_one, List.take_add_one, h1, h2, List.append_assoc]
  rfl
theorem atI_two {xs : List V} {i : Nat} {x : V} (h : xs[2 * i]? = some x) : atI xs (2 * ((i : Nat) : Int)) = some x := by
  rw [show (2 * ((i : Nat) : Int)) = ((2 * i : Nat) : Int) by omega]
  exact atI_nat h
theorem atI_two1 {xs : List V} {i : Nat} {x : V} (h : xs[2 * i + 1]? = some x) : atI xs (2 * ((i : Nat) : Int) + 1) = some x := by
  rw [show (2 * ((i : Nat) : Int) + 1) = ((2 * i + 1 : Nat) : Int) by omega]
  exact atI_nat h
/-- lists that stand, beside the bag -/
def Stand (b : Addr) (l : List (Addr × List V)) (H : Hp) : Prop := ∀ p ∈ l, p.1 ≠ b ∧ H p.1 = some (.lst p.2)
theorem Stand.take {b : Addr} {l : List (Addr × List V)} {H H1 : Hp} (h : Stand b l H) (k : Kp b H H1) : Stand b l H1 := fun p hp => ⟨(h p hp).1, k _ _ (h p hp).1 (h p hp).2⟩
theorem Stand.same {b : Addr} {l : List (Addr × List V)} {H H1 : Hp} (h : Stand b l H) (k : Same H H1) : Stand b l H1 := fun p hp => ⟨(h p hp).1, k _ _ (h p hp).2⟩
theorem Stand.new {b : Addr} {l : List (Addr × List V)} {H : Hp} (h : Stand b l H) {p : Addr} {o : HO} (e : H p = none) : Stand b l (upd H p o) := h.same (Same.new e)
def kwK : List (Key × V) := [(Sum.inr "who", .str "text"), (Sum.inr "sum", .str "whole")]
theorem kw_at9 (z : Str) : ∃ k0 : Kb, (valV kwK (Sum.inr z)).getD (.str "truth") = .str k0.word ∧ k0.d = .str k0.word ∧ (∀ cs, GK9 cs (.one k0)) ∧ (z = "who" → k0 = .text) ∧ (z = "sum" → k0 = .whole) := by
  unfold valV kwK
  by_cases a : z = "who"
  · subst a
    exact ⟨.text, rfl, rfl, fun _ => trivial, fun _ => rfl, fun e => absurd e (by decide)⟩
  by_cases c : z = "sum"
  · subst c
    exact ⟨.whole, rfl, rfl, fun _ => trivial, fun e => absurd e (by decide), fun _ => rfl⟩
  refine ⟨.truth, ?_, rfl, fun _ => trivial, fun e => absurd e a, fun e => absurd e c⟩
  rw [List.find?_cons_of_neg (by simpa using Ne.symm a), List.find?_cons_of_neg (by simpa using Ne.symm c)]
  rfl
theorem notin9 {z : Str} (h1 : z ≠ "who") (h2 : z ≠ "sum") : (!(inV (.str z) [V.str "who", V.str "sum"])) = true := by
  unfold inV
  rw [List.any_cons, List.any_cons, List.any_nil]
  simp only [eqV]
  have a' : (("who" : Str) == z) = false := beq_eq_false_iff_ne.mpr h1.symm
  have c' : (("sum" : Str) == z) = false := beq_eq_false_iff_ne.mpr h2.symm
  simp [a', c']
theorem Stand.off {b : Addr} {l : List (Addr × List V)} {H : Hp} (h : Stand b l H) {N : Addr} (e : H N = none) : ∀ p ∈ l, p.1 ≠ N := fun p hp q => by
  have := (h p hp).2
  rw [q, e] at this
  cases this
theorem Stand.wr {b : Addr} {l : List (Addr × List V)} {H : Hp} (h : Stand b l H) {N : Addr} {o : HO} (e : ∀ p ∈ l, p.1 ≠ N) : Stand b l (upd H N o) := fun p hp => ⟨(h p hp).1, by rw [upd_ne (e p hp)]; exact (h p hp).2⟩
theorem Stand.sub {b : Addr} {l l1 : List (Addr × List V)} {H : Hp} (h : Stand b l H) (e : ∀ p ∈ l1, p ∈ l) : Stand b l1 H := fun p hp => h p (e p hp)
theorem Stand.add {b : Addr} {l : List (Addr × List V)} {H : Hp} (h : Stand b l H) {N : Addr} {xs : List V} (n : N ≠ b) (e : H N = some (.lst xs)) : Stand b ((N, xs) :: l) H := fun p hp => by
  rcases List.mem_cons.mp hp with rfl | hp
  · exact ⟨n, e⟩
  · exact h p hp
theorem gds_at {H : Hp} {xs : List V} {gs : List Gd9} {i : Nat} {x : V} (q : TpAll H xs (gs.map Gd9.d)) (e : xs[i]? = some x) : ∃ g t u, gs[i]? = some g ∧ x = .ref t ∧ H t = some (.tup [.str g.nam, u, .str (needS g.must)]) ∧ Tp H u g.kd.d := by
  obtain ⟨d, hd, tx⟩ := q.get' e
  rw [List.getElem?_map] at hd
  cases hg : gs[i]? with
  | none => rw [hg] at hd; cases hd
  | some g =>
    rw [hg] at hd
    cases hd
    obtain ⟨a, ys, rfl, ha, q⟩ := tx.inv
    obtain ⟨x1, r, rfl, h1, q⟩ := q.icons
    obtain ⟨x2, r, rfl, h2, q⟩ := q.icons
    obtain ⟨x3, r, rfl, h3, q⟩ := q.icons
    rw [q.inil, h1.istr, h3.istr] at ha
    exact ⟨g, a, x2, rfl, rfl, ha, h2⟩
theorem ClOk9.app {cs : List Cho} {rows r2 : List Rec} {c : Cw} (h : ClOk9 cs rows c) : ClOk9 cs (rows ++ r2) c := ⟨h.1, let ⟨fl, tl, ds, m1, m2, o⟩ := h.2; ⟨fl, tl, ds, List.mem_append_left _ m1, List.mem_append_left _ m2, o⟩⟩
def spSrv : Sp := fun vs H Q _ => ∃ (b w : Addr) (nm : Str) (ed : Int) (n : Nat), vs = [.ref b, .str nm, .int ed, .ref w] ∧ Bag H b n ∧ n + 3000 ≤ most ∧ H w = some (.lst []) ∧ w ≠ b ∧ Nm nm ∧ 1 ≤ ed ∧ ed ≤ 100 ∧
  ∀ (p : Addr) (cs : List Cho) (recs : List Rec) (cws : List Cw) (H' : Hp), Kp b H H' → Bag H' b (n + 2200) → PtF H' (.ref p) nm ed cs recs cws → PtW nm ed cs recs cws → SrvOk9 cs recs cws → Q (.ref p) H'
section
variable {P : Program} {w : World} {K : PySem.W.Frag} {mg : Str → Option Value} {base : Heap}
theorem scSrv : FnScope nSrv pSrv (defScope sSrv) := ⟨rfl, rfl, rfl, by decide +kernel, rfl, by decide +kernel, by decide +kernel⟩
theorem ok_srv {f : Addr} {fd : FuncData} (F : Fun K "_law_served" "_law_served" sSrv f fd) (G : Glb mg) (DT : Has P w K mg base "_law_take" 1 pTk9 spTake) (DN : Has P w K mg base "_law_unlike_names" 3 pNm9 spUnlikeN) (DM : Has P w K mg base "_law_numbers" 2 pTk9 spNum9)
    (DP : Has P w K mg base "_law_picks" 4 pNm9 spPck) (DK : Has P w K mg base "_law_drawn_kind" 3 ["_law_bag_here", "_law_picks_here", "_law_words"] spDrk) (DC : Has P w K mg base "_law_call_deeds" 2 pCde spCde) : FnOk P w K mg base CX0 5 f fd pSrv spSrv := by
  refine F.ok scSrv (fun vs H Q E h => ?_) (fun cdv A outer s H vs Q E hr h => ?_)
  · obtain ⟨b, w, nm, ed, n, rfl, _⟩ := h
    rfl
  · obtain ⟨b, w, nm, ed, n, rfl, hB, hn, hw, nw, nmN, ed1, ed2, q⟩ := h
    have hm : most = 1000000 := rfl
    have hu := hu_of hr
    refine ⟨_, (pss_cons (ps_set (i := 4) scSrv.nd rfl (Or.inl rfl) (pe_op op_add pe_int (pe_has DT (hr.mono (by omega)) rfl (pa_cons (pv 0) (pa_cons pe_int pa_nil)))))
      (pss_cons (ps_set (i := 5) scSrv.nd rfl (Or.inl rfl) (pe_callB cr_sortedS (by rfl) G.sorted (by decide +kernel) (pa_cons (pe_has DN (hr.mono (by omega)) rfl (pa_cons (pv 0) (pa_cons (pe_op op_mul pe_int (pv 4)) (pa_cons (pe_lst pa_nil) pa_nil)))) pa_nil)))
      (pss_cons (ps_set (i := 6) scSrv.nd rfl (Or.inl rfl) (pe_has DP (hr.mono (by omega)) rfl (pa_cons (pv 0) (pa_cons (pe_has DT (hr.mono (by omega)) rfl (pa_cons (pv 0) (pa_cons pe_int pa_nil))) (pa_cons (pv 5) pa_nil)))))
      (pss_cons (ps_par (i := 7) (j := 8) rfl scSrv.nd rfl rfl (by decide) rfl rfl (pa_cons (pe_lst pa_nil) (pa_cons (pe_lst pa_nil) pa_nil)) (by rfl))
      (pss_cons (ps_for PassesOwn.never rfl (pi_zip3r rfl G.zip rfl G.range (pe_has DM (hr.mono (by omega)) rfl (pa_cons (pv 0) (pa_cons (pv 4) pa_nil))) (pe_has DN (hr.mono (by omega)) rfl (pa_cons (pv 0) (pa_cons (pv 4) (pa_cons (pe_lst pa_nil) pa_nil)))) (pv 4)) (pg_tup rfl (pgs_cons (pg_name (i := 9) scSrv.nd rfl (Or.inl rfl)) (pgs_cons (pg_name (i := 10) scSrv.nd rfl (Or.inl rfl)) (pgs_cons (pg_name (i := 11) scSrv.nd rfl (Or.inl rfl)) pgs_nil))))
      (pss_cons (ps_par (i := 12) (j := 13) rfl scSrv.nd rfl rfl (by decide) rfl rfl (pa_cons (pe_ix ix_list (pv 5) (pe_op op_mul pe_int (pv 11)) (fun _ _ => rfl)) (pa_cons (pe_ix ix_list (pv 5) (pe_op op_add (pe_op op_mul pe_int (pv 11)) pe_int) (fun _ _ => rfl)) pa_nil)) (by rfl))
      (pss_cons (ps_set (i := 14) scSrv.nd rfl (Or.inl rfl) (pe_has DT (hr.mono (by omega)) rfl (pa_cons (pv 0) (pa_cons pe_int pa_nil))))
      (pss_cons (ps_set (i := 15) scSrv.nd rfl (Or.inl rfl) (pe_op op_cat (pe_lst (pa_cons pe_str (pa_cons pe_str pa_nil))) (pe_has DN (hr.mono (by omega)) rfl (pa_cons (pv 0) (pa_cons (pv 14) (pa_cons (pe_lst (pa_cons pe_str (pa_cons pe_str pa_nil))) pa_nil))))))
      (pss_cons (ps_set (i := 16) scSrv.nd rfl (Or.inl rfl) (pe_lst pa_nil))
      (C8.pss_cut (ps_for PassesOwn.never rfl (pi_zip rfl G.zip (pa_cons (pe_has DM (hr.mono (by omega)) rfl (pa_cons (pv 0) (pa_cons (pe_op op_add (pv 14) pe_int) pa_nil))) (pa_cons (pv 15) pa_nil))) (pg_tup rfl (pgs_cons (pg_name (i := 17) scSrv.nd rfl (Or.inl rfl)) (pgs_cons (pg_name (i := 18) scSrv.nd rfl (Or.inl rfl)) pgs_nil)))
      (pss_cons (ps_set (i := 19) scSrv.nd rfl (Or.inl rfl) (pe_dget2 hu (pe_disp (pps_cons pe_str pe_str (pps_cons pe_str pe_str pps_nil)) (by rfl) (by rfl) (fun z => by cases z) (by decide)) (pv 18) pe_str ⟨rfl, rfl, rfl, rfl⟩))
      (pss_cons (ps_set (i := 20) scSrv.nd rfl (Or.inl rfl) pe_str)
      (C8.pss_cut (ps_if (pt_cmpR op_notIn_seq (pv 18) (pe_tup (pa_cons pe_str (pa_cons pe_str pa_nil))) rfl)
      (pss_one (ps_par (i := 19) (j := 20) rfl scSrv.nd rfl rfl (by decide) rfl rfl (pa_cons (pe_mid (pe_has DK (hr.mono (by omega)) rfl (pa_cons (pv 0) (pa_cons (pv 6) (pa_cons (pe_lst pa_nil) pa_nil))))) (pa_cons (pe_mid (pe_ix ix_list (pe_lst (pa_cons pe_str (pa_cons pe_str pa_nil))) (pe_has DT (hr.mono (by omega)) rfl (pa_cons (pv 0) (pa_cons pe_int pa_nil))) (fun _ _ => rfl))) pa_nil)) (by rfl)))
      pss_nil)
      (pss_one (ps_expr (pe_bm PySem.F.plainAttrs_list PySem.F.slot_list_append PySem.F.type_list_append mt_append (pv 16) (pa_cons (pe_tup (pa_cons (pv 17) (pa_cons (pv 18) (pa_cons (pv 19) (pa_cons (pv 20) pa_nil))))) pa_nil))))))))
      (C8.pss_cut (ps_asg (pe_has DC (hr.mono (by omega)) rfl (pa_cons (pv 0) (pa_cons (pv 16) (pa_cons (pe_has DN (hr.mono (by omega)) rfl (pa_cons (pv 0) (pa_cons pe_int (pa_cons (pe_lst pa_nil) pa_nil)))) (pa_cons (pv 3) pa_nil))))) (pg_tup rfl (pgs_cons (pg_name (i := 21) scSrv.nd rfl (Or.inl rfl)) (pgs_cons (pg_name (i := 22) scSrv.nd rfl (Or.inl rfl)) pgs_nil))))
      (C8.pss_cut (ps_setLc (i := 23) (own := [("_law_own", 17), ("_law_one", 24)]) (g := (gTup K 2 (gCons (gName 17) (gCons (gName 24) gNil)))) (tt := tYes) (te := tOp (rCatT K) (tTup (tCons (tVar 17) tNil)) (tVar 24)) rfl scSrv.nd rfl rfl (sw_true rfl rfl rfl (by decide +kernel)) (pi_zip rfl G.zip (pa_cons (pe_has DM (hr.mono (by omega)) rfl (pa_cons (pv 0) (pa_cons (pe_callB call_len_seq (by rfl) G.len (by decide +kernel) (pa_cons (pv 22) pa_nil)) pa_nil))) (pa_cons (pv 22) pa_nil))) (blkOk_by (N := nSrv) (sc := defScope sSrv) (by decide +kernel)) (fun _ _ _ _ _ => (pg_tup rfl (pgs_cons (pg_name (i := 17) scSrv.nd rfl (Or.inl rfl)) (pgs_cons (pg_name (i := 24) scSrv.nd rfl (Or.inl rfl)) pgs_nil)))) (fun _ _ _ _ _ => pts_nil) (fun _ _ _ _ _ => (pe_op op_catT (pe_tup (pa_cons (pv 17) pa_nil)) (pv 24))))
      (pss_cons (ps_set (i := 7) scSrv.nd rfl (Or.inl rfl) (pe_op op_cat (pv 7) (pe_lst (pa_cons (pe_tup (pa_cons (pv 12) (pa_cons (pe_callTy call_tuple_of (by rfl) G.tuple (by decide +kernel) (pa_cons (pv 16) pa_nil)) pa_nil))) (pa_cons (pe_tup (pa_cons (pv 13) (pa_cons (pe_callTy call_tuple_of (by rfl) G.tuple (by decide +kernel) (pa_cons (pv 23) pa_nil)) pa_nil))) pa_nil)))))
      (pss_one (ps_expr (pe_bm PySem.F.plainAttrs_list PySem.F.slot_list_append PySem.F.type_list_append mt_append (pv 8) (pa_cons (pe_tup (pa_cons (pv 9) (pa_cons (pv 10) (pa_cons (pv 12) (pa_cons (pv 13) (pa_cons (pv 21) pa_nil)))))) pa_nil)))))))))))))
      (pss_one (ps_ret (pe_tup (pa_cons (pv 1) (pa_cons (pv 2) (pa_cons (pe_callTy cr_tupleF (by rfl) G.tuple (by decide +kernel) (pa_cons (pv 6) pa_nil)) (pa_cons (pe_callTy cr_tupleF (by rfl) G.tuple (by decide +kernel) (pa_cons (pv 7) pa_nil)) (pa_cons (pe_callTy call_tuple_of (by rfl) G.tuple (by decide +kernel) (pa_cons (pv 8) pa_nil)) pa_nil))))))))))))), ?_⟩
    refine ⟨_, rfl, b, 3, n, rfl, by decide, by decide, hB, by omega, fun d0 H1 d00 d01 k1 b1 => ?_⟩
    refine ⟨_, _, rfl, rfl, ?_⟩
    obtain ⟨m, em⟩ : ∃ m : Nat, 1 + d0 = (m : Int) := ⟨(1 + d0).toNat, by omega⟩
    simp only [em]
    have hm1 : 1 ≤ m := by omega
    have hm3 : m ≤ 3 := by omega
    -- the words
    refine ⟨_, rfl, _, rfl, _, _, rfl, rfl, .inl ⟨by decide, by decide⟩, Nat.zero_le _, fun e1 he1 => ?_⟩
    refine ⟨b, e1, 2 * (m : Int), [], n + 1, rfl, b1.new he1, by omega, by omega, upd_same, Nat.zero_le _, by omega, fun wl ws H2 hwl h2w lws ndw nmw k2 b2 => ?_⟩
    refine ⟨wl, ws, rfl, SqL.of h2w, by omega, fun ys wo perm _ hwo => ?_⟩
    have K2 : Kp b H (upd H2 wo (.lst (ys.map V.str))) := (((k1.new he1).trans k2)).new hwo
    have B2 := b2.new (o := .lst (ys.map V.str)) hwo
    have h2o : (upd H2 wo (.lst (ys.map V.str))) wo = some (.lst (ys.map V.str)) := upd_same
    have nwo : wo ≠ b := new_ne hwo b2
    have lys : ys.length = 2 * m := by have := perm.length_eq; omega
    have ndy : ys.Nodup := perm.nodup_iff.mpr ndw
    generalize upd H2 wo (.lst (ys.map V.str)) = H3 at *
    -- the choices
    refine ⟨_, rfl, _, rfl, b, 3, _, rfl, by decide, by decide, B2, by omega, fun d4 H4 d40 d41 k4 b4 => ?_⟩
    have h4o := k4 _ _ nwo h2o
    refine ⟨_, rfl, b, wo, d4, ys, _, rfl, b4, d40, by omega, h4o, by omega, by omega, fun pk pv cs H5 hpk h5p tpk okp lcs apart k5 b5 => ?_⟩
    have h5o := k5 _ _ nwo h4o
    have npk : pk ≠ b := new_ne hpk b4
    have K5 := (K2.trans k4).trans k5
    refine ⟨Nat.zero_le _, fun R0 hR0 => ⟨Nat.zero_le _, fun D hD => ⟨_, _, rfl, ?_⟩⟩⟩
    have S0 : Same H5 (upd (upd H5 R0 (.lst [])) D (.lst [])) := (Same.new hR0).trans (Same.new hD)
    have nwb : wo ≠ w := fun e => by
      rw [e, K2 _ _ nw hw] at h2o
      have l := congrArg (fun o : Option HO => match o with | some (HO.lst xs) => xs.length | _ => 0) h2o
      have l2 : (ys.map V.str).length = 0 := l.symm
      rw [List.length_map] at l2
      omega
    have hD5 : H5 D = none := (Same.new (o := .lst []) hR0).free hD
    have nDb : D ≠ b := new_ne hD5 b5
    have nRb : R0 ≠ b := new_ne hR0 b5
    have nDR : D ≠ R0 := fun e => by rw [e, upd_same] at hD; cases hD
    have I0 : SrvI H (upd (upd H5 R0 (.lst [])) D (.lst [])) b w wo pk R0 D (n + 722) ys pv cs (([] : List Rec).map rD) [] := by
      refine ⟨K5.same S0, ((b5.same S0).mono (by omega)), S0 _ _ (K5 _ _ nw hw), S0 _ _ h5o, S0 _ _ h5p, TpAll.keep (Same.tk S0) _ _ tpk, K5.free b5.at hD5, ⟨[], hup hD upd_same, .nil⟩, ⟨[], upd_same, .nil⟩, ⟨nw, nwo, npk, nRb, nDb⟩, fun e => ?_, fun e => ?_, fun e => ?_, nDR⟩
      · rw [e, K5 _ _ nw hw] at hD5; cases hD5
      · rw [e, h5o] at hD5; cases hD5
      · rw [e, h5p] at hD5; cases hD5
    generalize (upd (upd H5 R0 (.lst [])) D (.lst [])) = H6 at *
    -- the loop
    refine ⟨_, rfl, _, rfl, b, m, _, rfl, I0.bg, by omega, by omega, by omega, fun np ns H7 hnp h7 lns rise rg k7 b7 => ?_⟩
    have nnp : np ≠ b := new_ne hnp I0.bg
    have I7 := I0.take k7 b7
    refine ⟨_, rfl, _, rfl, Nat.zero_le _, fun e2 he2 => ?_⟩
    refine ⟨b, e2, m, [], _, rfl, I7.bg.new he2, by omega, by omega, upd_same, Nat.zero_le _, by omega, fun zl zs H8 hzl h8 lzs ndz nmz k8 b8 => ?_⟩
    have I8 := (I7.new (o := .lst []) he2).take k8 b8
    have h8n := k8 _ _ nnp (hup (o := .lst []) he2 h7)
    have nzl : zl ≠ b := new_ne hzl (I7.bg.new he2)
    refine ⟨_, rfl, np, zl, _, _, m, rfl, rfl, rfl, by omega, by omega, h8n, h8, ?_⟩
    refine L2.for_it walk_3 (fun i σ H' => ∃ (R : Addr) (recs : List Rec) (cl : List Cw), (∃ a9 a10 a11 a12 a13 a14 a15 a16 a17 a18 a19 a20 a21 a22 a23, σ = [some (.ref b), some (.str nm), some (.int ed), some (.ref w), some (.int m), some (.ref wo), some (.ref pk), some (.ref R), some (.ref D), a9, a10, a11, a12, a13, a14, a15, a16, a17, a18, a19, a20, a21, a22, a23, none]) ∧ SrvI H H' b w wo pk R D (n + 900 + 400 * i) ys pv cs (recs.map rD) cl ∧ recs.map (·.1) = ys.take (2 * i) ∧ cl.length = i ∧ (∀ c ∈ cl, ClOk9 cs recs c) ∧ (cl.map Cw.nam = zs.take i ∧ cl.map Cw.num = ns.take i ∧ ∀ r ∈ recs, RcOk9 cs r) ∧ H' np = some (.lst (ns.map V.int)) ∧ H' zl = some (.lst (zs.map V.str)) ∧ D ≠ np ∧ D ≠ zl) ?_ ?_ ?_ ?_
    · refine ⟨R0, [], [], ⟨_, _, _, _, _, _, _, _, _, _, _, _, _, _, _, rfl⟩, I8.mono (by omega), rfl, rfl, (fun c h => nomatch h), ⟨rfl, rfl, fun r h => nomatch h⟩, h8n, h8, ?_, ?_⟩
      · exact fun e => (I0.free hnp).2.2.2.2.2.2 e.symm
      · exact fun e => ((I7.new (o := .lst []) he2).free hzl).2.2.2.2.2.2 e.symm
    · rintro i σ H' _ ⟨R, recs, cl, _, _, _, _, _, _, g1, g2, _⟩
      exact ⟨g1, g2, trivial⟩
    · rintro i x σ HA HB hi ⟨R, recs, cl, ⟨a9, a10, a11, a12, a13, a14, a15, a16, a17, a18, a19, a20, a21, a22, a23, rfl⟩, IA, er, lcl, okc, ⟨ecn, ecm, okr⟩, g1, g2, nDn, nDz⟩ ⟨T, x1, x2, x3, rfl, hT, rfl, f1, f2, f3⟩
      have him : i < m := by
        rw [List.length_map, List.length_map] at hi
        omega
      obtain ⟨fig, hfig, rfl⟩ := ints_at f1
      obtain ⟨wd, hwd, rfl⟩ := strs_at f2
      cases f3
      have SB := Same.new (H := HA) (o := .tup [.int fig, .str wd, .int (i : Nat)]) hT
      have IB := IA.same SB
      have g1B := SB _ _ g1
      have g2B := SB _ _ g2
      refine ⟨T, _, rfl, SqT.of upd_same, rfl, _, _, rfl, _, _, rfl, _, _, rfl, rfl, ?_⟩
      generalize upd HA T (.tup [.int fig, .str wd, .int (i : Nat)]) = HB at *
      -- its two records
      obtain ⟨ak, hak⟩ : ∃ z, ys[2 * i]? = some z := ⟨_, List.getElem?_eq_getElem (by omega)⟩
      obtain ⟨an, han⟩ : ∃ z, ys[2 * i + 1]? = some z := ⟨_, List.getElem?_eq_getElem (by omega)⟩
      refine ⟨_, rfl, _, rfl, _, _, rfl, rfl, .inl ⟨by decide, by decide⟩, wo, _, _, _, rfl, rfl, SqL.of IB.hw, atI_two (by rw [List.getElem?_map, hak]; rfl), ?_⟩
      refine ⟨_, rfl, _, rfl, _, _, rfl, rfl, .inl ⟨by decide, by decide⟩, _, _, rfl, rfl, wo, _, _, _, rfl, rfl, SqL.of IB.hw, atI_two1 (by rw [List.getElem?_map, han]; rfl), _, _, rfl, ?_⟩
      refine ⟨_, rfl, b, 4, _, rfl, by decide, by decide, IB.bg, by omega, fun sz HC z0 z1 kC bC => ?_⟩
      have IC := IB.take kC bC
      -- its names
      refine ⟨(by show 2 ≤ sizeLine; decide), fun l1 hl1 => ?_⟩
      have ID := IC.new (o := .lst [.str "who", .str "sum"]) hl1
      have h1D : (upd HC l1 (.lst [.str "who", .str "sum"])) l1 = some (.lst [.str "who", .str "sum"]) := upd_same
      have g1D := hup (o := .lst [.str "who", .str "sum"]) hl1 (kC _ _ nnp g1B)
      have g2D := hup (o := .lst [.str "who", .str "sum"]) hl1 (kC _ _ nzl g2B)
      have fr1 := IC.free hl1
      generalize upd HC l1 (.lst [.str "who", .str "sum"]) = HD at *
      refine ⟨_, rfl, _, rfl, (by show 2 ≤ sizeLine; decide), fun l2 hl2 => ?_⟩
      refine ⟨b, l2, sz, ["who", "sum"], _, rfl, ID.bg.new hl2, z0, by omega, upd_same, by decide, by omega, fun ul us HE hul hEu lus ndu nmu kE bE => ?_⟩
      have IE := (ID.new (o := .lst [.str "who", .str "sum"]) hl2).take kE bE
      have g1E := kE _ _ nnp (hup (o := .lst [.str "who", .str "sum"]) hl2 g1D)
      have g2E := kE _ _ nzl (hup (o := .lst [.str "who", .str "sum"]) hl2 g2D)
      have h1E := kE _ _ fr1.2.1 (hup (o := .lst [.str "who", .str "sum"]) hl2 h1D)
      refine ⟨l1, ul, _, _, rfl, rfl, h1E, hEu, ?_, fun nl hnl => ?_⟩
      · rw [List.length_map]
        exact Nat.le_trans (show 2 + us.length ≤ 100 by omega) (by decide)
      have IF := IE.new (o := .lst ([.str "who", .str "sum"] ++ us.map V.str)) hnl
      have g1F := hup (o := .lst ([.str "who", .str "sum"] ++ us.map V.str)) hnl g1E
      have g2F := hup (o := .lst ([.str "who", .str "sum"] ++ us.map V.str)) hnl g2E
      have frN := IE.free hnl
      have hFn : (upd HE nl (.lst ([.str "who", .str "sum"] ++ us.map V.str))) nl = some (.lst ((("who" : Str) :: ("sum" : Str) :: us).map V.str)) := upd_same
      generalize upd HE nl (.lst ([.str "who", .str "sum"] ++ us.map V.str)) = HF at *
      obtain ⟨nms, enms⟩ : ∃ nms : List Str, nms = ("who" : Str) :: ("sum" : Str) :: us := ⟨_, rfl⟩
      have lnms : (nms.length : Int) = sz + 2 := by rw [enms]; simp; omega
      have ndn : nms.Nodup := by
        rw [enms, List.nodup_cons, List.nodup_cons]
        refine ⟨fun h => ?_, fun h => (nmu _ h).2 (by simp), ndu⟩
        rcases List.mem_cons.mp h with h | h
        · exact absurd h (by decide)
        · exact (nmu _ h).2 (by simp)
      rw [← enms] at hFn
      have whn : ("who" : Str) ∈ nms := by rw [enms]; simp
      have smn : ("sum" : Str) ∈ nms := by rw [enms]; simp
      have nfn : ∀ z ∈ nms, Nm z := fun z hz => by
        rw [enms] at hz
        rcases List.mem_cons.mp hz with rfl | hz
        · exact nmWho
        rcases List.mem_cons.mp hz with rfl | hz
        · exact nmSum
        exact (nmu z hz).1
      clear enms
      -- its fields
      refine ⟨Nat.zero_le _, fun La hLa => ?_⟩
      have IG := IF.new (o := .lst []) hLa
      have frL := IF.free hLa
      have g1G := hup (o := .lst []) hLa g1F
      have g2G := hup (o := .lst []) hLa g2F
      have hGn := hup (o := .lst []) hLa hFn
      have nLn : La ≠ nl := fun e => by rw [e, hFn] at hLa; cases hLa
      have nL1 : La ≠ np := fun e => by rw [e, g1F] at hLa; cases hLa
      have nL2 : La ≠ zl := fun e => by rw [e, g2F] at hLa; cases hLa
      have hGa : (upd HF La (.lst [])) La = some (.lst []) := upd_same
      generalize upd HF La (.lst []) = HG at *
      refine ⟨fun σ H' => ∃ (fl : List Fl) (av : List V) (a17 a18 a19 a20 : Option V), σ = [some (.ref b), some (.str nm), some (.int ed), some (.ref w), some (.int m), some (.ref wo), some (.ref pk), some (.ref R), some (.ref D), some (.int fig), some (.str wd), some (.int (i : Nat)), some (.str ak), some (.str an), some (.int sz), some (.ref nl), some (.ref La), a17, a18, a19, a20, a21, a22, a23, none] ∧ SrvI H H' b w wo pk R D (n + 900 + 400 * i + 200) ys pv cs (recs.map rD) cl ∧ H' La = some (.lst av) ∧ TpAll H' av (fl.map Fl.d) ∧ AskOk9 cs fl ∧ H' np = some (.lst (ns.map V.int)) ∧ H' zl = some (.lst (zs.map V.str)), ?_, ?_⟩
      · refine ⟨_, rfl, _, rfl, _, _, rfl, rfl, b, sz + 2, _, rfl, IG.bg, by omega, by omega, by omega, fun q2 n2 HH hq2 hHq ln2 rise2 rg2 kH bH => ?_⟩
        have IH := IG.take kH bH
        have nq2 : q2 ≠ b := new_ne hq2 IG.bg
        have nLq : La ≠ q2 := fun e => by rw [← e, hGa] at hq2; cases hq2
        have nln : n2.length = nms.length := by omega
        refine ⟨_, rfl, q2, nl, _, _, rfl, SqL.of hHq, SqL.of (kH _ _ frN.2.1 hGn), ?_⟩
        refine L2.for_it (walk_zip (K := K) (a := q2) (b := nl) (xs := n2.map V.int) (ys := nms.map V.str) (n := nms.length) (by rw [List.length_map, List.length_map]; omega)) (fun j σ H' => ∃ (fl : List Fl) (av : List V) (a17 a18 a19 a20 : Option V), σ = [some (.ref b), some (.str nm), some (.int ed), some (.ref w), some (.int m), some (.ref wo), some (.ref pk), some (.ref R), some (.ref D), some (.int fig), some (.str wd), some (.int (i : Nat)), some (.str ak), some (.str an), some (.int sz), some (.ref nl), some (.ref La), a17, a18, a19, a20, a21, a22, a23, none] ∧ SrvI H H' b w wo pk R D (n + 900 + 400 * i + 155 + 8 * j) ys pv cs (recs.map rD) cl ∧ H' La = some (.lst av) ∧ TpAll H' av (fl.map Fl.d) ∧ H' np = some (.lst (ns.map V.int)) ∧ H' zl = some (.lst (zs.map V.str)) ∧ H' q2 = some (.lst (n2.map V.int)) ∧ H' nl = some (.lst (nms.map V.str)) ∧
          fl.map Fl.nam = nms.take j ∧ (∀ f ∈ fl, f.nam = "who" → f.kd = .one .text ∧ f.must = true) ∧ (∀ f ∈ fl, f.nam = "sum" → f.kd = .one .whole ∧ f.must = true) ∧ (∀ f ∈ fl, GK9 ((csP cs).map Prod.fst) f.kd) ∧ fl.map Fl.num = n2.take j) ?_ ?_ ?_ ?_
        · exact ⟨[], [], _, _, _, _, rfl, IH.mono (by omega), kH _ _ frL.2.1 hGa, .nil, kH _ _ nnp g1G, kH _ _ nzl g2G, hHq, kH _ _ frN.2.1 hGn, rfl, (fun f h => nomatch h), (fun f h => nomatch h), (fun f h => nomatch h), rfl⟩
        · rintro j σ H' _ ⟨_, _, _, _, _, _, _, _, _, _, _, _, e1, e2, _⟩
          exact ⟨SqL.of e1, SqL.of e2⟩
        · rintro j x σ H3 H4 hj ⟨fl, av, a17, a18, a19, a20, rfl, I3, h3a, t3, g13, g23, h3q, h3n, enm, kw, ks, gk, enu⟩ ⟨T, x1, x2, rfl, hT, rfl, f1, f2⟩
          obtain ⟨n3, hn3, rfl⟩ := ints_at f1
          obtain ⟨z3, hz3, rfl⟩ := strs_at f2
          have S4 := Same.new (H := H3) (o := .tup [.int n3, .str z3]) hT
          refine ⟨T, _, rfl, SqT.of upd_same, rfl, _, _, rfl, _, _, rfl, rfl, ?_⟩
          have J3 : SrvI H (upd H3 T (.tup [.int n3, .str z3])) b w wo pk R D (n + 900 + 400 * i + 155 + 8 * j) ys pv cs (recs.map rD) cl ∧ Stand b [(La, av), (np, ns.map V.int), (zl, zs.map V.str), (q2, n2.map V.int), (nl, nms.map V.str)] (upd H3 T (.tup [.int n3, .str z3])) ∧ TpAll (upd H3 T (.tup [.int n3, .str z3])) av (fl.map Fl.d) :=
            ⟨I3.same S4, Stand.same (fun p hp => by
              have e : p = (La, av) ∨ p = (np, ns.map V.int) ∨ p = (zl, zs.map V.str) ∨ p = (q2, n2.map V.int) ∨ p = (nl, nms.map V.str) := by simpa using hp
              rcases e with rfl | rfl | rfl | rfl | rfl
              · exact ⟨frL.2.1, h3a⟩
              · exact ⟨nnp, g13⟩
              · exact ⟨nzl, g23⟩
              · exact ⟨nq2, h3q⟩
              · exact ⟨frN.2.1, h3n⟩) S4, TpAll.keep (Same.tk S4) _ _ t3⟩
          clear I3 h3a t3 g13 g23 h3q h3n
          generalize upd H3 T (.tup [.int n3, .str z3]) = H4 at *
          obtain ⟨I4, st4, t4⟩ := J3
          refine fun p hp => ⟨upd_same, kwK, rfl, by decide, ?_⟩
          rw [upd_upd, show mergeK [] kwK = kwK from by decide]
          refine ⟨p, rfl, .inl ⟨_, .inl upd_same⟩, _, rfl, _, DGet.k (k := Sum.inr z3) upd_same, ?_⟩
          obtain ⟨k0, ek0, dk0, gk0, wk0, sk0⟩ := kw_at9 z3
          rw [ek0]
          replace I4 := I4.new (o := .dK kwK) hp
          replace st4 := st4.new (o := .dK kwK) hp
          replace t4 := TpAll.keep (Tk.new (o := .dK kwK) hp) _ _ t4
          generalize upd H4 p (.dK kwK) = H4 at *
          refine ⟨fun σ H' => ∃ (kv : V) (k : Kn) (bb : Bool), σ = [some (.ref b), some (.str nm), some (.int ed), some (.ref w), some (.int m), some (.ref wo), some (.ref pk), some (.ref R), some (.ref D), some (.int fig), some (.str wd), some (.int (i : Nat)), some (.str ak), some (.str an), some (.int sz), some (.ref nl), some (.ref La), some (.int n3), some (.str z3), some kv, some (.str (needS bb)), a21, a22, a23, none] ∧ SrvI H H' b w wo pk R D (n + 900 + 400 * i + 155 + 8 * (j + 1)) ys pv cs (recs.map rD) cl ∧ Stand b [(La, av), (np, ns.map V.int), (zl, zs.map V.str), (q2, n2.map V.int), (nl, nms.map V.str)] H' ∧ TpAll H' av (fl.map Fl.d) ∧ Tp H' kv k.d ∧ GK9 ((csP cs).map Prod.fst) k ∧ (z3 = "who" → k = .one .text ∧ bb = true) ∧ (z3 = "sum" → k = .one .whole ∧ bb = true), ?_, ?_⟩
          · refine ⟨_, rfl, (by show 2 ≤ sizeLine; decide), fun t2 ht2 => ⟨t2, _, rfl, .inr (SqT.of upd_same), rfl, rfl, _, rfl, ?_⟩⟩
            replace I4 := I4.new (o := .tup [.str "who", .str "sum"]) ht2
            replace st4 := st4.new (o := .tup [.str "who", .str "sum"]) ht2
            replace t4 := TpAll.keep (Tk.new (o := .tup [.str "who", .str "sum"]) ht2) _ _ t4
            generalize upd H4 t2 (.tup [.str "who", .str "sum"]) = H4 at *
            by_cases cw : z3 = "who"
            · subst cw
              refine iteN rfl ⟨_, .one k0, true, rfl, I4.mono (by omega), st4, t4, ?_, gk0 _, fun _ => ⟨by rw [wk0 rfl], rfl⟩, fun e => absurd e (by decide)⟩
              show Tp _ _ k0.d
              rw [dk0]
              exact .str _
            by_cases cs' : z3 = "sum"
            · subst cs'
              refine iteN rfl ⟨_, .one k0, true, rfl, I4.mono (by omega), st4, t4, ?_, gk0 _, fun e => absurd e (by decide), fun _ => ⟨by rw [sk0 rfl], rfl⟩⟩
              show Tp _ _ k0.d
              rw [dk0]
              exact .str _
            refine iteY (notin9 cw cs') ?_
            refine ⟨fun v H' => ∃ k : Kn, Tp H' v k.d ∧ GK9 ((csP cs).map Prod.fst) k ∧ SrvI H H' b w wo pk R D (n + 900 + 400 * i + 155 + 8 * j + 6) ys pv cs (recs.map rD) cl ∧ Stand b [(La, av), (np, ns.map V.int), (zl, zs.map V.str), (q2, n2.map V.int), (nl, nms.map V.str)] H' ∧ TpAll H' av (fl.map Fl.d), ?_, ?_⟩
            · refine ⟨_, rfl, _, rfl, Nat.zero_le _, fun e4 he4 => ?_⟩
              have I5 := I4.new (o := .lst []) he4
              refine ⟨b, pk, e4, _, pv, csP cs, rfl, I5.bg, by omega, I5.hp, I5.nb.2.2.1, I5.tp, by unfold csP; rw [List.length_map]; omega, upd_same, (I4.free he4).2.1, fun kv k H7 tk gk k7 b7 => ?_⟩
              exact ⟨k, tk, gk, I5.take k7 b7, (st4.new he4).take k7, TpAll.keep (k7.tk I5.bg) _ _ (TpAll.keep (Tk.new he4) _ _ t4)⟩
            · rintro kv H5 ⟨k, tk, gk5, I5, st5, t5⟩
              refine ⟨fun v H' => ∃ (bb : Bool), v = .str (needS bb) ∧ SrvI H H' b w wo pk R D (n + 900 + 400 * i + 155 + 8 * j + 7) ys pv cs (recs.map rD) cl ∧ Stand b [(La, av), (np, ns.map V.int), (zl, zs.map V.str), (q2, n2.map V.int), (nl, nms.map V.str)] H' ∧ TpAll H' av (fl.map Fl.d) ∧ Tp H' kv k.d, ?_, ?_⟩
              · refine ⟨(by show 2 ≤ sizeLine; decide), fun l hl => ?_⟩
                have I6 := I5.new (o := .lst [.str "must", .str "may"]) hl
                refine ⟨_, rfl, b, 2, _, rfl, by decide, by decide, I6.bg, by omega, fun x HE x0 x1 kE bE => ?_⟩
                have eE := kE _ _ (new_ne hl I5.bg) upd_same
                have fin : ∀ bb : Bool, ∃ bb' : Bool, V.str (needS bb) = .str (needS bb') ∧ SrvI H HE b w wo pk R D (n + 900 + 400 * i + 155 + 8 * j + 7) ys pv cs (recs.map rD) cl ∧ Stand b [(La, av), (np, ns.map V.int), (zl, zs.map V.str), (q2, n2.map V.int), (nl, nms.map V.str)] HE ∧ TpAll HE av (fl.map Fl.d) ∧ Tp HE kv k.d := fun bb =>
                  ⟨bb, rfl, I6.take kE bE, (st5.new hl).take kE, TpAll.keep (kE.tk I6.bg) _ _ (TpAll.keep (Tk.new hl) _ _ t5), Tp.keep (kE.tk I6.bg) _ _ (Tp.keep (Tk.new hl) _ _ tk)⟩
                rcases (by omega : x = 0 ∨ x = 1) with rfl | rfl
                · exact ⟨l, _, _, _, rfl, rfl, SqL.of eE, rfl, fin true⟩
                · exact ⟨l, _, _, _, rfl, rfl, SqL.of eE, rfl, fin false⟩
              · rintro v HE ⟨bb, rfl, IE, stE, tE, tkE⟩
                exact ⟨_, _, rfl, kv, k, bb, rfl, IE.mono (by omega), stE, tE, tkE, gk5, fun e => absurd e cw, fun e => absurd e cs'⟩
          rintro σ H5 ⟨kv, k, bb, rfl, I5, st5, t5, tk, gk5, kw5, ks5⟩
          refine ⟨_, rfl, .inl ⟨rfl, _, SqL.of (st5 (La, av) (by simp)).2⟩, ?_⟩
          refine ⟨_, rfl, _, rfl, _, rfl, _, rfl, (by show 4 ≤ sizeLine; decide), fun t5a ht5 => ?_⟩
          have I6 := I5.new (o := .tup [.int n3, .str z3, kv, .str (needS bb)]) ht5
          have st6 := st5.new (o := .tup [.int n3, .str z3, kv, .str (needS bb)]) ht5
          have t6 := TpAll.keep (Tk.new (o := .tup [.int n3, .str z3, kv, .str (needS bb)]) ht5) _ _ t5
          have td6 : Tp (upd H5 t5a (.tup [.int n3, .str z3, kv, .str (needS bb)])) (.ref t5a) (Fl.d ⟨n3, z3, k, bb⟩) := .tup upd_same (.cons (.int _) (.cons (.str _) (.cons (Tp.keep (Tk.new ht5) _ _ tk) (.cons (.str _) .nil))))
          generalize upd H5 t5a (.tup [.int n3, .str z3, kv, .str (needS bb)]) = H6 at *
          have h6a := (st6 (La, av) (by simp)).2
          have lav : av.length = fl.length := by rw [t6.length, List.length_map]
          have lfl : fl.length = j := by
            have := congrArg List.length enm
            rw [List.length_map, List.length_take] at this
            omega
          have hj5 : j < 5 := by omega
          refine ⟨La, _, _, rfl, rfl, h6a, Nat.lt_of_le_of_lt (show av.length ≤ 100 by omega) (by decide), ?_⟩
          have T7 := Tk.wr (o := .lst (av ++ [.ref t5a])) h6a
          have off : ∀ p l, (p, l) ∈ [(La, av), (np, ns.map V.int), (zl, zs.map V.str), (q2, n2.map V.int), (nl, nms.map V.str)] → p ≠ La → (upd H6 La (.lst (av ++ [.ref t5a]))) p = some (.lst l) := fun p l hm ne => by
            rw [upd_ne ne]
            exact (st6 (p, l) hm).2
          refine ⟨fl ++ [⟨n3, z3, k, bb⟩], av ++ [.ref t5a], _, _, _, _, rfl, I6.wr h6a frL.1 frL.2.1 frL.2.2.1 frL.2.2.2.1 frL.2.2.2.2.1 frL.2.2.2.2.2.1 frL.2.2.2.2.2.2, upd_same, ?_, off np _ (by simp) nL1.symm, off zl _ (by simp) nL2.symm, off q2 _ (by simp) nLq.symm, off nl _ (by simp) nLn.symm, ?_, fun g hg => ?_, fun g hg => ?_, fun g hg => ?_, by rw [List.map_append, enu, List.take_add_one, hn3]; rfl⟩
          · rw [List.map_append]
            exact TpAll.app (TpAll.keep T7 _ _ t6) (TpAll.one (Tp.keep T7 _ _ td6))
          · rw [List.map_append, enm, List.take_add_one, hz3]
            rfl
          · rcases List.mem_append.mp hg with h | h
            · exact kw g h
            · rw [List.mem_singleton.mp h]
              exact kw5
          · rcases List.mem_append.mp hg with h | h
            · exact ks g h
            · rw [List.mem_singleton.mp h]
              exact ks5
          · rcases List.mem_append.mp hg with h | h
            · exact gk g h
            · rw [List.mem_singleton.mp h]
              exact gk5
        · rintro σ H' ⟨fl, av, a17, a18, a19, a20, rfl, I3, h3a, t3, g13, g23, h3q, h3n, enm, kw, ks, gk, enu⟩
          rw [List.take_length] at enm
          rw [← nln, List.take_length] at enu
          refine ⟨fl, av, _, _, _, _, rfl, I3.mono (by omega), h3a, t3, ⟨by rw [enm]; exact ndn, by rw [enm]; exact whn, by rw [enm]; exact smn, kw, ks, gk, ?_, by rw [enm]; exact nfn, by rw [enu]; exact rise2, fun f hf => rg2 _ (by rw [← enu]; exact List.mem_map.mpr ⟨f, hf, rfl⟩)⟩, g13, g23⟩
          have := congrArg List.length enm
          rw [List.length_map] at this
          omega
      rintro σ HH ⟨fl, av, a17, a18, a19, a20, rfl, IH, hHa, tHa, okf, g1H, g2H⟩
      -- its deeds
      refine ⟨fun σ H' => ∃ (dv : V) (Fo : Addr) (fv : List V) (ds : List Dd9) (gs : List Gd9), σ = [some (.ref b), some (.str nm), some (.int ed), some (.ref w), some (.int m), some (.ref wo), some (.ref pk), some (.ref R), some (.ref D), some (.int fig), some (.str wd), some (.int (i : Nat)), some (.str ak), some (.str an), some (.int sz), some (.ref nl), some (.ref La), a17, a18, a19, a20, some dv, some (.ref Fo), a23, none] ∧ SrvI H H' b w wo pk R D (n + 900 + 400 * i + 360) ys pv cs (recs.map rD) cl ∧ Stand b [(La, av), (np, ns.map V.int), (zl, zs.map V.str), (Fo, fv)] H' ∧ TpAll H' av (fl.map Fl.d) ∧ Tp H' dv (.tuple (ds.map Dd9.d)) ∧ TpAll H' fv (gs.map Gd9.d) ∧ ds.length ≤ 6 ∧ (gs.length ≤ 5 ∧ 1 ≤ ds.length ∧ CdOk fl ds gs ∧ (gs.map Gd9.nam).Nodup ∧ ∀ g ∈ gs, Nm g.nam), ?_, ?_⟩
      · refine ⟨_, rfl, _, rfl, _, rfl, Nat.zero_le _, fun e3 he3 => ?_⟩
        have I1 := IH.new (o := .lst []) he3
        refine ⟨b, e3, 5, [], _, rfl, I1.bg, by omega, by omega, upd_same, Nat.zero_le _, by omega, fun na us2 HI hna hIn lus2 nd2 nm2 kI bI => ?_⟩
        have I2 := I1.take kI bI
        have st2 : Stand b [(La, av), (np, ns.map V.int), (zl, zs.map V.str)] HI := Stand.take (Stand.new (fun p hp => by
          have e : p = (La, av) ∨ p = (np, ns.map V.int) ∨ p = (zl, zs.map V.str) := by simpa using hp
          rcases e with rfl | rfl | rfl
          · exact ⟨frL.2.1, hHa⟩
          · exact ⟨nnp, g1H⟩
          · exact ⟨nzl, g2H⟩) he3) kI
        have t2 := TpAll.keep (kI.tk I1.bg) _ _ (TpAll.keep (Tk.new (o := .lst []) he3) _ _ tHa)
        refine ⟨_, rfl, b, La, na, w, _, av, fl, us2, rfl, I2.bg, by omega, (st2 (La, av) (by simp)).2, frL.2.1, t2, by have := okf.l; omega, hIn, (fun e => by rw [e] at lus2; simp at lus2), by omega, I2.ww, nw, fun t dt fo fv ds gs HJ hJt tdt hfo hJf tgs lds l1d okd pre kJ bJ => ?_⟩
        have I3 := I2.take kJ bJ
        refine ⟨t, _, rfl, SqT.of hJt, rfl, _, _, rfl, _, _, rfl, rfl, ?_⟩
        refine ⟨.ref dt, fo, fv, ds, gs, rfl, I3.mono (by omega), fun p hp => ?_, TpAll.keep (kJ.tk I2.bg) _ _ t2, tdt, tgs, lds, ?_⟩
        · have e : p = (La, av) ∨ p = (np, ns.map V.int) ∨ p = (zl, zs.map V.str) ∨ p = (fo, fv) := by simpa using hp
          rcases e with rfl | rfl | rfl | rfl
          · exact st2.take kJ _ (by simp)
          · exact st2.take kJ _ (by simp)
          · exact st2.take kJ _ (by simp)
          · exact ⟨(I2.free hfo).2.1, hJf⟩
        obtain ⟨rest, epre⟩ := pre
        refine ⟨?_, l1d, okd, ?_, fun g hg => ?_⟩
        · have := congrArg List.length epre
          rw [List.length_append, List.length_map] at this
          omega
        · rw [epre] at nd2
          exact (List.nodup_append.mp nd2).1
        · exact (nm2 g.nam (by rw [epre]; exact List.mem_append_left _ (List.mem_map.mpr ⟨g, hg, rfl⟩))).1
      rintro σ HI ⟨dv, Fo, fv, ds, gs, rfl, II, stI, tI, tdI, tgI, lds, ⟨lgs, l1d, okd, ndg, nmg⟩⟩
      -- what it tells
      refine ⟨fun σ H' => ∃ (Tl : Addr) (tv : List V) (tl : List Fl), σ = [some (.ref b), some (.str nm), some (.int ed), some (.ref w), some (.int m), some (.ref wo), some (.ref pk), some (.ref R), some (.ref D), some (.int fig), some (.str wd), some (.int (i : Nat)), some (.str ak), some (.str an), some (.int sz), some (.ref nl), some (.ref La), a17, a18, a19, a20, some dv, some (.ref Fo), some (.ref Tl), none] ∧ SrvI H H' b w wo pk R D (n + 900 + 400 * i + 390) ys pv cs (recs.map rD) cl ∧ Stand b [(La, av), (np, ns.map V.int), (zl, zs.map V.str), (Tl, tv)] H' ∧ TpAll H' av (fl.map Fl.d) ∧ Tp H' dv (.tuple (ds.map Dd9.d)) ∧ TpAll H' tv (tl.map Fl.d) ∧ (tl.map Fl.gd = gs ∧ (tl.map Fl.num).Pairwise (· < ·) ∧ ∀ f ∈ tl, 1 ≤ f.num ∧ f.num ≤ 30), ?_, ?_⟩
      · have lfv : fv.length = gs.length := by rw [tgI.length, List.length_map]
        have hFo : HI Fo = some (.lst fv) := (stI (Fo, fv) (by simp)).2
        refine ⟨_, rfl, _, rfl, Fo, _, rfl, .inl (SqL.of hFo), b, _, _, rfl, II.bg, by omega, by omega, by omega, fun q5 n5 HK hq5 h5 ln5 rise5 rg5 kK bK => ?_⟩
        have IK := (II.take kK bK).mono (m1 := n + 900 + 400 * i + 390) (by omega)
        have tkK := kK.tk II.bg
        have stK := (stI.take kK).add (new_ne hq5 II.bg) h5
        have tK := TpAll.keep tkK _ _ tI
        have tdK := Tp.keep tkK _ _ tdI
        have tgK := TpAll.keep tkK _ _ tgI
        refine ⟨_, rfl, q5, Fo, _, _, rfl, SqL.of h5, SqL.of (stK (Fo, fv) (by simp)).2, fun Dl hDl => ?_⟩
        have offD := stK.off hDl
        have frD := IK.free hDl
        refine L2.lc_it (walk_zip (K := K) (a := q5) (b := Fo) (xs := n5.map V.int) (ys := fv) (n := fv.length) (by rw [List.length_map]; omega)) (fun j H' => SrvI H H' b w wo pk R D (n + 900 + 400 * i + 390) ys pv cs (recs.map rD) cl ∧ Stand b [(q5, n5.map V.int), (La, av), (np, ns.map V.int), (zl, zs.map V.str), (Fo, fv)] H' ∧ TpAll H' av (fl.map Fl.d) ∧ Tp H' dv (.tuple (ds.map Dd9.d)) ∧ TpAll H' fv (gs.map Gd9.d) ∧
          ∃ (ps : List V) (tl : List Fl), H' Dl = some (.lst ps) ∧ TpAll H' ps (tl.map Fl.d) ∧ ps.length = j ∧ tl.map Fl.gd = gs.take j ∧ tl.map Fl.num = n5.take j) ?_ ?_ ?_ ?_
        · exact ⟨IK.new hDl, stK.new hDl, TpAll.keep (Tk.new hDl) _ _ tK, Tp.keep (Tk.new hDl) _ _ tdK, TpAll.keep (Tk.new hDl) _ _ tgK, [], [], upd_same, .nil, rfl, rfl, rfl⟩
        · rintro j H' _ ⟨_, st, _⟩
          exact ⟨SqL.of (st (q5, n5.map V.int) (by simp)).2, SqL.of (st (Fo, fv) (by simp)).2⟩
        · rintro j x H3 H4 hj ⟨I3, st3, t3, td3, tg3, ps, tl, h3, tp3, lps, etg, etn⟩ ⟨T, x1, x2, rfl, hT, rfl, f1, f2⟩
          obtain ⟨n3, hn3, rfl⟩ := ints_at f1
          obtain ⟨g, t', u, hg, rfl, ht', tu⟩ := gds_at tg3 f2
          refine ⟨T, _, rfl, SqT.of upd_same, rfl, _, _, rfl, _, _, rfl, rfl, rfl, yes (iteT ?_)⟩
          have S4 := Same.new (H := H3) (o := .tup [.int n3, .ref t']) hT
          refine ⟨_, rfl, (by show 1 ≤ sizeLine; decide), fun t1 ht1 => ?_⟩
          have S5 := S4.trans (Same.new (o := .tup [.int n3]) ht1)
          refine ⟨_, rfl, t1, t', _, _, rfl, rfl, SqT.of upd_same, SqT.of (S5 _ _ ht'), by simp, (by show 4 ≤ sizeLine; decide), (fun e => nomatch e), fun _ t2 ht2 => ?_⟩
          have S6 := S5.trans (Same.new (o := .tup ([V.int n3] ++ [.str g.nam, u, .str (needS g.must)])) ht2)
          have e6 : (upd (upd (upd H3 T (.tup [.int n3, .ref t'])) t1 (.tup [.int n3])) t2 (.tup ([V.int n3] ++ [.str g.nam, u, .str (needS g.must)]))) t2 = some (.tup [.int n3, .str g.nam, u, .str (needS g.must)]) := upd_same
          generalize (upd (upd (upd H3 T (.tup [.int n3, .ref t'])) t1 (.tup [.int n3])) t2 (.tup ([V.int n3] ++ [.str g.nam, u, .str (needS g.must)]))) = H6 at *
          have h6 := S6 _ _ h3
          have hj10 : j < 10 := by omega
          have T7 := Tk.wr (o := .lst (ps ++ [.ref t2])) h6
          refine ⟨_, h6, Nat.lt_of_le_of_lt (show ps.length ≤ 100 by omega) (by decide), (I3.same S6).wr h6 frD.1 frD.2.1 frD.2.2.1 frD.2.2.2.1 frD.2.2.2.2.1 frD.2.2.2.2.2.1 frD.2.2.2.2.2.2, (st3.same S6).wr offD, TpAll.keep T7 _ _ (TpAll.keep (Same.tk S6) _ _ t3), Tp.keep T7 _ _ (Tp.keep (Same.tk S6) _ _ td3), TpAll.keep T7 _ _ (TpAll.keep (Same.tk S6) _ _ tg3), ps ++ [.ref t2], tl ++ [⟨n3, g.nam, g.kd, g.must⟩], upd_same, ?_, by rw [List.length_append, lps]; rfl, by rw [List.map_append, etg, List.take_add_one, hg]; rfl, by rw [List.map_append, etn, List.take_add_one, hn3]; rfl⟩
          rw [List.map_append]
          exact TpAll.app (TpAll.keep T7 _ _ (TpAll.keep (Same.tk S6) _ _ tp3)) (TpAll.one (Tp.keep T7 _ _ (.tup e6 (.cons (.int _) (.cons (.str _) (.cons (Tp.keep (Same.tk S6) _ _ tu) (.cons (.str _) .nil)))))))
        · rintro H3 ⟨I3, st3, t3, td3, tg3, ps, tl, h3, tp3, lps, etg, etn⟩
          refine ⟨Dl, ps, tl, rfl, I3, fun p hp => ?_, t3, td3, tp3, ?_⟩
          rotate_left
          · have e5 : n5.take fv.length = n5 := List.take_of_length_le (by omega)
            have eg : gs.take fv.length = gs := List.take_of_length_le (by omega)
            rw [e5] at etn
            rw [eg] at etg
            exact ⟨etg, by rw [etn]; exact rise5, fun f hf => rg5 _ (by rw [← etn]; exact List.mem_map.mpr ⟨f, hf, rfl⟩)⟩
          have e : p = (La, av) ∨ p = (np, ns.map V.int) ∨ p = (zl, zs.map V.str) ∨ p = (Dl, ps) := by simpa using hp
          rcases e with rfl | rfl | rfl | rfl
          · exact st3 _ (by simp)
          · exact st3 _ (by simp)
          · exact st3 _ (by simp)
          · exact ⟨frD.2.1, h3⟩
      rintro σ HJ ⟨Tl, tv, tl, rfl, IJ, stJ, tJ, tdJ, ttJ, ⟨etg, riseT, rgT⟩⟩
      -- the rows
      obtain ⟨rv, hR, trv⟩ := IJ.rl
      have lrv : rv.length = 2 * i := by
        have e1 := trv.length
        have e2 := congrArg List.length er
        rw [List.length_map, List.length_map] at e1
        rw [List.length_map, List.length_take] at e2
        omega
      refine ⟨_, rfl, _, rfl, _, rfl, La, _, rfl, .inl ⟨SqL.of (stJ (La, av) (by simp)).2, fun T1 hT1 => ⟨(by show 2 ≤ sizeLine; decide), fun t1 ht1 => ?_⟩⟩⟩
      have S1 := (Same.new (o := .tup av) hT1).trans (Same.new (o := .tup [.str ak, .ref T1]) ht1)
      have tt1 : Tp (upd (upd HJ T1 (.tup av)) t1 (.tup [.str ak, .ref T1])) (.ref t1) (.tuple [.str ak, .tuple (fl.map Fl.d)]) := .tup upd_same (.cons (.str _) (.cons (.tup (hup ht1 upd_same) (TpAll.keep (Same.tk S1) _ _ tJ)) .nil))
      generalize (upd (upd HJ T1 (.tup av)) t1 (.tup [.str ak, .ref T1])) = HK at *
      refine ⟨_, rfl, _, rfl, Tl, _, rfl, .inl ⟨SqL.of (stJ.same S1 (Tl, tv) (by simp)).2, fun T2 hT2 => ⟨(by show 2 ≤ sizeLine; decide), fun t2 ht2 => ?_⟩⟩⟩
      have S2 := (Same.new (o := .tup tv) hT2).trans (Same.new (o := .tup [.str an, .ref T2]) ht2)
      have tt2 : Tp (upd (upd HK T2 (.tup tv)) t2 (.tup [.str an, .ref T2])) (.ref t2) (.tuple [.str an, .tuple (tl.map Fl.d)]) := .tup upd_same (.cons (.str _) (.cons (.tup (hup ht2 upd_same) (TpAll.keep (Same.tk (S1.trans S2)) _ _ ttJ)) .nil))
      replace tt1 := Tp.keep (Same.tk S2) _ _ tt1
      generalize (upd (upd HK T2 (.tup tv)) t2 (.tup [.str an, .ref T2])) = HL at *
      have S12 := S1.trans S2
      refine ⟨(by show 2 ≤ sizeLine; decide), fun l3 hl3 => ?_⟩
      have S3 := S12.trans (Same.new (o := .lst [.ref t1, .ref t2]) hl3)
      refine ⟨R, l3, rv, _, rfl, rfl, S3 _ _ hR, upd_same, Nat.le_trans (show rv.length + 2 ≤ 100 by omega) (by decide), fun R1 hR1 => ?_⟩
      replace tt1 := Tp.keep (Tk.new (o := .lst [.ref t1, .ref t2]) hl3) _ _ tt1
      replace tt2 := Tp.keep (Tk.new (o := .lst [.ref t1, .ref t2]) hl3) _ _ tt2
      have IL := IJ.same S3
      have stL := stJ.same S3
      have tdL := Tp.keep (Same.tk S3) _ _ tdJ
      have trL := TpAll.keep (Same.tk S3) _ _ trv
      generalize (upd HL l3 (.lst [.ref t1, .ref t2])) = HM at *
      have frR := IL.free hR1
      have IM := (IL.new (o := .lst (rv ++ [.ref t1, .ref t2])) hR1).setR (R1 := R1) (rv1 := rv ++ [.ref t1, .ref t2]) (rows1 := (recs ++ [(ak, fl), (an, tl)]).map rD) upd_same (by
        rw [List.map_append, List.map_append]
        exact TpAll.app (TpAll.keep (Tk.new hR1) _ _ trL) (.cons (Tp.keep (Tk.new hR1) _ _ tt1) (.cons (Tp.keep (Tk.new hR1) _ _ tt2) .nil))) frR.2.1 frR.2.2.2.2.2.2
      have stM := stL.new (o := .lst (rv ++ [.ref t1, .ref t2])) hR1
      have tdM := Tp.keep (Tk.new (o := .lst (rv ++ [.ref t1, .ref t2])) hR1) _ _ tdL
      generalize (upd HM R1 (.lst (rv ++ [.ref t1, .ref t2]))) = HN at *
      -- the call
      obtain ⟨dl, hdl, tdl⟩ := IM.dl
      refine ⟨_, rfl, .inl ⟨rfl, _, SqL.of hdl⟩, ?_⟩
      refine ⟨_, rfl, _, rfl, _, rfl, _, rfl, _, rfl, (by show 5 ≤ sizeLine; decide), fun t5 ht5 => ?_⟩
      have IO := IM.new (o := .tup [.int fig, .str wd, .str ak, .str an, dv]) ht5
      have stO := stM.new (o := .tup [.int fig, .str wd, .str ak, .str an, dv]) ht5
      have tcO : Tp (upd HN t5 (.tup [.int fig, .str wd, .str ak, .str an, dv])) (.ref t5) (Cw.d ⟨fig, wd, ak, an, ds.map Dd9.ps⟩) := .tup upd_same (.cons (.int _) (.cons (.str _) (.cons (.str _) (.cons (.str _) (.cons (by show Tp _ _ (.tuple ((ds.map Dd9.ps).map dD)); rw [dd_ps]; exact Tp.keep (Tk.new ht5) _ _ tdM) .nil)))))
      have hdO := hup (o := .tup [.int fig, .str wd, .str ak, .str an, dv]) ht5 hdl
      have tdO := TpAll.keep (Tk.new (o := .tup [.int fig, .str wd, .str ak, .str an, dv]) ht5) _ _ tdl
      generalize (upd HN t5 (.tup [.int fig, .str wd, .str ak, .str an, dv])) = HO' at *
      have ldl : dl.length = cl.length := by rw [tdO.length, List.length_map]
      refine ⟨D, _, _, rfl, rfl, hdO, Nat.lt_of_le_of_lt (show dl.length ≤ 100 by omega) (by decide), ?_⟩
      have okT : FlW tl := by
        have enm : tl.map Fl.nam = gs.map Gd9.nam := by rw [← etg, List.map_map]; rfl
        have ltl : tl.length = gs.length := by rw [← etg, List.length_map]
        have inG : ∀ f ∈ tl, f.gd ∈ gs := fun f hf => by rw [← etg]; exact List.mem_map.mpr ⟨f, hf, rfl⟩
        refine ⟨by omega, by rw [enm]; exact ndg, fun f hf => nmg _ (inG f hf), fun f hf => ?_, riseT, rgT⟩
        rcases okd.kd _ (inG f hf) with e | ⟨s, hs, e⟩
        · intro z ez
          have e' : f.kd = .one .whole := e
          rw [e'] at ez
          cases ez
        · have e' : f.kd = s.kd := e
          rw [e']
          exact gk_nm (okf.gk s hs) okp
      have gkT : ∀ f ∈ tl, GK9 (okN cs) f.kd := fun f hf => by
        rcases okd.kd f.gd (by rw [← etg]; exact List.mem_map.mpr ⟨f, hf, rfl⟩) with e | ⟨s, hs, e⟩
        · rw [show f.kd = .one .whole from e]
          exact gk_whole _
        · rw [show f.kd = s.kd from e]
          exact okf.gk s hs
      have okF : FlW fl := ⟨okf.l, okf.nd, fun f hf => okf.sn _ (List.mem_map.mpr ⟨f, hf, rfl⟩), fun f hf => gk_nm (okf.gk f hf) okp, okf.rise, okf.rg⟩
      have nmy : ∀ z ∈ ys, Nm z := fun z hz => (nmw z (perm.mem_iff.mp hz)).1
      have nset : ∀ d ∈ ds, DdW d.ps := fun d hd => by
        refine dd_w (fun f ef => ?_) (fun f g ed => ?_)
        · have h1 : f ∈ ds.filterMap Dd9.sets := List.mem_filterMap.mpr ⟨d, hd, ef⟩
          rw [okd.set] at h1
          obtain ⟨g, hg, e⟩ := List.mem_map.mp h1
          rw [← e]
          exact nmg g hg
        · have h1 := okd.ok d hd
          rw [ed] at h1
          obtain ⟨_, _, _, s, hs, es, _⟩ := h1
          rw [← es]
          exact okf.sn _ (List.mem_map.mpr ⟨s, hs, rfl⟩)
      have cwN : CwW ⟨fig, wd, ak, an, ds.map Dd9.ps⟩ := by
        refine ⟨(nmz _ (List.mem_of_getElem? hwd)).1, nmy _ (List.mem_of_getElem? hak), nmy _ (List.mem_of_getElem? han), by rw [List.length_map]; exact lds, fun d hd => ?_⟩
        obtain ⟨d1, hd1, rfl⟩ := List.mem_map.mp hd
        exact nset d1 hd1
      refine ⟨R1, recs ++ [(ak, fl), (an, tl)], cl ++ [⟨fig, wd, ak, an, ds.map Dd9.ps⟩], ⟨_, _, _, _, _, _, _, _, _, _, _, _, _, _, _, rfl⟩, (IO.setD hdO (by
        rw [List.map_append]
        exact TpAll.app tdO (TpAll.one tcO))).mono (by omega), ?_, by rw [List.length_append, lcl]; rfl, fun c hc => ?_, ⟨?_, ?_, fun r hr' => ?_⟩, ?_, ?_, nDn, nDz⟩
      · rw [List.map_append, er, take2 hak han]
        rfl
      · rcases List.mem_append.mp hc with h | h
        · exact (okc c h).app
        · rw [List.mem_singleton.mp h]
          exact ⟨cwN, fl, tl, ds, List.mem_append_right _ (List.mem_cons_self), List.mem_append_right _ (List.mem_cons_of_mem _ List.mem_cons_self), rfl, by rw [etg]; exact okd, okf, l1d⟩
      · rw [List.map_append, ecn, List.take_add_one, hwd]
        rfl
      · rw [List.map_append, ecm, List.take_add_one, hfig]
        rfl
      · rcases List.mem_append.mp hr' with h | h
        · exact okr r h
        · have e : r = (ak, fl) ∨ r = (an, tl) := by simpa using h
          rcases e with rfl | rfl
          · exact ⟨okF, okf.gk⟩
          · exact ⟨okT, gkT⟩
      · rw [upd_ne nDn.symm]
        exact (stO (np, ns.map V.int) (by simp)).2
      · rw [upd_ne nDz.symm]
        exact (stO (zl, zs.map V.str) (by simp)).2
    · rintro σ H' ⟨R, recs, cl, ⟨a9, a10, a11, a12, a13, a14, a15, a16, a17, a18, a19, a20, a21, a22, a23, rfl⟩, IA, er, lcl, okc, ⟨ecn, ecm, okr⟩, g1, g2, nDn, nDz⟩
      have emn : min (min (ns.map V.int).length (zs.map V.str).length) ((m : Int)).toNat = m := by
        rw [List.length_map, List.length_map]
        omega
      rw [emn] at lcl IA er ecn ecm
      have ez : zs.take m = zs := List.take_of_length_le (by omega)
      have en : ns.take m = ns := List.take_of_length_le (by omega)
      have ey : ys.take (2 * m) = ys := List.take_of_length_le (by omega)
      rw [ez] at ecn
      rw [en] at ecm
      rw [ey] at er
      obtain ⟨rv, hR, trv⟩ := IA.rl
      obtain ⟨dl, hdl, tdl⟩ := IA.dl
      have nmy : ∀ z ∈ ys, Nm z := fun z hz => (nmw z (perm.mem_iff.mp hz)).1
      have lrec : recs.length = 2 * m := by
        have := congrArg List.length er
        rw [List.length_map] at this
        omega
      refine ⟨_, rfl, _, rfl, _, rfl, pk, _, rfl, SqL.of IA.hp, fun T1 o1 hT1 pl1 => ?_⟩
      have S1 := Same.new (o := .frz o1 (.tup pv)) hT1
      refine ⟨_, rfl, R, _, rfl, SqL.of (S1 _ _ hR), fun T2 o2 hT2 pl2 => ?_⟩
      have S2 := S1.trans (Same.new (o := .frz o2 (.tup rv)) hT2)
      refine ⟨_, rfl, D, _, rfl, .inl ⟨SqL.of (S2 _ _ hdl), fun T3 hT3 => ?_⟩⟩
      have S3 := S2.trans (Same.new (o := .tup dl) hT3)
      refine ⟨(by show 5 ≤ sizeLine; decide), fun t ht => ?_⟩
      have S4 := S3.trans (Same.new (o := .tup [.str nm, .int ed, .ref T1, .ref T2, .ref T3]) ht)
      have I4 := IA.same S4
      refine q t cs recs cl _ I4.kp (I4.bg.mono (by omega)) ⟨t, .ref T1, .ref T2, .ref T3, rfl, upd_same, ?_, ?_, ?_⟩ ⟨nmN, ed1, ed2, okp, ⟨by omega, by rw [er]; exact ndy, fun r hr' => nmy _ (by rw [← er]; exact List.mem_map.mpr ⟨r, hr', rfl⟩), fun r hr' => (okr r hr').1⟩, ⟨by omega, by rw [ecn]; exact ndz, fun c hc => (okc c hc).1, by rw [ecm]; exact rise, fun c hc => rg _ (by rw [← ecm]; exact List.mem_map.mpr ⟨c, hc, rfl⟩)⟩, ?_⟩ ⟨(fun e => by have e' : cl = [] := e; rw [e'] at lcl; simp at lcl; omega), by omega, okr, okc⟩
      · exact ⟨T1, o1, pv, _, rfl, rfl, hup ht (hup hT3 (hup hT2 upd_same)), pl1, TpAll.keep (Same.tk S4) _ _ IA.tp⟩
      · exact ⟨T2, o2, rv, _, rfl, rfl, hup ht (hup hT3 upd_same), pl2, TpAll.keep (Same.tk S4) _ _ trv⟩
      · exact .tup (hup ht upd_same) (TpAll.keep (Same.tk S4) _ _ tdl)
      · rw [er]
        refine List.nodup_append.mpr ⟨okp.nd, ndy, fun x hx y hy e => ?_⟩
        obtain ⟨c, hc, ec⟩ := List.mem_map.mp hx
        exact apart c hc (by rw [ec, e]; exact hy)
end
end Fh

set_option Elab.async false
set_option linter.all false
set_option maxRecDepth 100000
set_option maxHeartbeats 4000000
namespace Fh
open PySem L2 PyProof.Rows
/-! ### deeds that are so -/
theorem eqv_strC (x y : Str) : PyData.eqv (.str x) (.str y) = PyData.eqv (.str y) (.str x) := by
  show (x == y) = (y == x)
  exact Bool.beq_comm
theorem kb_comm (a b : Kb) : PyData.eqv a.d b.d = PyData.eqv b.d a.d := by
  have two : ∀ (w x y z : Str), PyData.eqv (.tuple [.str w, .str x]) (.tuple [.str y, .str z]) = PyData.eqv (.tuple [.str y, .str z]) (.tuple [.str w, .str x]) := fun w x y z => by
    show ((w == y) && ((x == z) && true)) = ((y == w) && ((z == x) && true))
    rw [Bool.beq_comm (a := w), Bool.beq_comm (a := x)]
  cases a <;> cases b <;> first | exact eqv_strC _ _ | rfl | exact two _ _ _ _
theorem kd_comm (a b : Kn) : PyData.eqv a.d b.d = PyData.eqv b.d a.d := by
  have l2 : ∀ (w y : Str) (d e : PyData), PyData.eqv d e = PyData.eqv e d → PyData.eqv (.tuple [.str w, d]) (.tuple [.str y, e]) = PyData.eqv (.tuple [.str y, e]) (.tuple [.str w, d]) := fun w y d e h => by
    show ((w == y) && (PyData.eqv d e && true)) = ((y == w) && (PyData.eqv e d && true))
    rw [Bool.beq_comm (a := w), h]
  cases a with
  | one a => cases b with
    | one b => exact kb_comm a b
    | lst b => cases a with
      | rc z => exact l2 _ _ _ _ (by cases b <;> first | exact eqv_strC _ _ | rfl)
      | ch z => exact l2 _ _ _ _ (by cases b <;> first | exact eqv_strC _ _ | rfl)
      | _ => rfl
  | lst a => cases b with
    | lst b => exact l2 _ _ _ _ (kb_comm a b)
    | one b => cases b with
      | rc z => exact l2 _ _ _ _ (by cases a <;> first | exact eqv_strC _ _ | rfl)
      | ch z => exact l2 _ _ _ _ (by cases a <;> first | exact eqv_strC _ _ | rfl)
      | _ => rfl
def musT (k : Str) (f : Fl) : Bool := PyData.eqv (.tuple [f.kd.d, .str (needS f.must)]) (.tuple [.str k, .str "must"])
def txL (fl : List Fl) (k : Str) : List Str := (fl.filter (musT k)).map Fl.nam
theorem find_self : ∀ {fl : List Fl} {f : Fl}, (fl.map Fl.nam).Nodup → f ∈ fl → fl.find? (fun g => decide (g.nam = f.nam)) = some f
  | [], _, _, h => by cases h
  | g :: fl, f, nd, h => by
    rw [List.map_cons, List.nodup_cons] at nd
    rw [List.find?_cons]
    rcases List.mem_cons.mp h with e | h2
    · rw [e, decide_eq_true rfl]
    · rw [decide_eq_false fun e => nd.1 (by rw [e]; exact List.mem_map.mpr ⟨f, h2, rfl⟩)]
      exact find_self nd.2 h2
theorem tx_eqG {fl : List Fl} {k z : Str} (nd : (fl.map Fl.nam).Nodup) (h : z ∈ txL fl k) : eqG fl z k = true := by
  obtain ⟨f, hf, rfl⟩ := List.mem_map.mp h
  obtain ⟨hf, hk⟩ := List.mem_filter.mp hf
  unfold eqG
  rw [find_self nd hf]
  exact hk
/-- a deed is right wherever an ask is ahead, if asked -/
def GdD (own : Str) (ins outs : List Fl) (asked : Bool) (d : List Str) : Prop := ∀ ahead : List (List Str), (asked = true → inV (.str "ask") (ahead.map fun e => V.str (e.headD "")) = true) → astB own ins outs d ahead = true
theorem ast_cons {own : Str} {ins outs : List Fl} {a b c : Str} {r : List Str} {ahead : List (List Str)} : astB own ins outs (a :: b :: c :: r) ahead =
    if inV (.str a) [.str "take", .str "add"] = true then eqG ins b "text" && eqG ins c "whole"
    else if a = "tell" then (match outs.find? (fun g => decide (g.nam = b)) with
      | some g => PyData.eqv g.kd.d (.str "whole") && eqG ins c "text"
      | none => false)
    else if a = "copy" then (match outs.find? (fun g => decide (g.nam = b)), ins.find? (fun g => decide (g.nam = c)) with
      | some g, some s => ccB g s
      | _, _ => false)
    else if a = "ask" then !decide (b = own)
    else inN outs b && inV (.str "ask") (ahead.map fun e => V.str (e.headD "")) := rfl
theorem inV_ta {w : Str} : inV (.str w) [.str "take", .str "add"] = decide (w ∈ (["take", "add"] : List Str)) := inV_names (zs := ["take", "add"])
theorem gd_take {own : Str} {ins outs : List Fl} {asked : Bool} {w b c : Str} {r : List Str} (hw : w = "take" ∨ w = "add") (h1 : eqG ins b "text" = true) (h2 : eqG ins c "whole" = true) : GdD own ins outs asked (w :: b :: c :: r) := fun ahead _ => by
  rw [ast_cons]
  have e : inV (.str w) [.str "take", .str "add"] = true := by
    rw [inV_ta, decide_eq_true_iff]
    rcases hw with rfl | rfl <;> simp
  rw [if_pos e, h1, h2]
  rfl
theorem not_ta {w : Str} (h : decide (w ∈ (["take", "add"] : List Str)) = false) : inV (.str w) [.str "take", .str "add"] = false := by rw [inV_ta]; exact h
theorem gd_tell {own : Str} {ins outs : List Fl} {asked : Bool} {g : Fl} {c : Str} {r : List Str} (nd : (outs.map Fl.nam).Nodup) (hg : g ∈ outs) (h1 : PyData.eqv g.kd.d (.str "whole") = true) (h2 : eqG ins c "text" = true) : GdD own ins outs asked ("tell" :: g.nam :: c :: r) := fun ahead _ => by
  rw [ast_cons]
  rw [not_ta (by decide +kernel), if_neg Bool.false_ne_true, if_pos rfl, find_self nd hg, h2]
  show (PyData.eqv g.kd.d (.str "whole") && true) = true
  rw [h1]
  rfl
theorem gd_copy {own : Str} {ins outs : List Fl} {asked : Bool} {g f : Fl} {r : List Str} (nd : (outs.map Fl.nam).Nodup) (nd2 : (ins.map Fl.nam).Nodup) (hg : g ∈ outs) (hf : f ∈ ins) (h : ccB g f = true) : GdD own ins outs asked ("copy" :: g.nam :: f.nam :: r) := fun ahead _ => by
  rw [ast_cons]
  rw [not_ta (by decide +kernel), if_neg Bool.false_ne_true, if_neg (by decide +kernel), if_pos rfl, find_self nd hg, find_self nd2 hf]
  exact h
theorem gd_ask {own : Str} {ins outs : List Fl} {asked : Bool} {b c : Str} {r : List Str} (h : b ≠ own) : GdD own ins outs asked ("ask" :: b :: c :: r) := fun ahead _ => by
  rw [ast_cons]
  rw [not_ta (by decide +kernel), if_neg Bool.false_ne_true, if_neg (by decide +kernel), if_neg (by decide +kernel), if_pos rfl, decide_eq_false h]
  rfl
theorem gd_get {own : Str} {ins outs : List Fl} {g : Fl} {c : Str} {r : List Str} (nd : (outs.map Fl.nam).Nodup) (hg : g ∈ outs) : GdD own ins outs true ("get" :: g.nam :: c :: r) := fun ahead ha => by
  rw [ast_cons]
  rw [not_ta (by decide +kernel), if_neg Bool.false_ne_true, if_neg (by decide +kernel), if_neg (by decide +kernel), if_neg (by decide +kernel), ha rfl]
  unfold inN
  rw [find_self nd hg]
  rfl
/-- all deeds of a call are as told -/
def RichOk (own : Str) (recs : List Rec) (c : Cw) : Prop := ∀ (i : Nat) (d : List Str), c.ds[i]? = some d → astB own (flO recs c.ask) (flO recs c.ans) d (c.ds.take i) = true
theorem inV_head {z : Str} {L : List (List Str)} {r : List Str} : inV (.str z) (((z :: r) :: L).map fun e => V.str (e.headD "")) = true := by
  have e : (((z :: r) :: L).map fun e => V.str (e.headD "")) = (z :: L.map fun e => e.headD "").map V.str := by
    rw [List.map_cons, List.map_cons, List.map_map]
    rfl
  rw [e, inV_names, decide_eq_true_iff]
  exact List.mem_cons_self
def askL (asked : Bool) (o : Str) : List (List Str) := if asked = true then [[("ask" : Str), o, ("pay" : Str)]] else []
theorem rich_of {own : Str} {ins outs : List Fl} {asked : Bool} {ds : List (List Str)} {o : Str} (h : ∀ d ∈ ds, GdD own ins outs asked d) (ho : o ≠ own) (i : Nat) (d : List Str)
    (hd : (askL asked o ++ ds)[i]? = some d) : astB own ins outs d ((askL asked o ++ ds).take i) = true := by
  cases asked with
  | false =>
    have e0 : askL false o = [] := rfl
    rw [e0] at hd ⊢
    exact h d (List.mem_of_getElem? hd) _ fun e => absurd e Bool.false_ne_true
  | true =>
    have e0 : askL true o = [[("ask" : Str), o, ("pay" : Str)]] := rfl
    rw [e0] at hd ⊢
    cases i with
    | zero =>
      cases hd
      exact gd_ask (asked := false) ho _ fun e => absurd e Bool.false_ne_true
    | succ i =>
      have hd : ds[i]? = some d := hd
      refine h d (List.mem_of_getElem? hd) _ fun _ => ?_
      exact inV_head (L := ds.take i)
/-- list(x), by name -/
def rLiQ (K : PySem.W.Frag) : List V → Hp → VK → Prop := fun xs H Q => ∃ p ys, xs = [.ref p] ∧ (SqL K H p ys ∨ SqT K H p ys) ∧ ∀ l, H l = none → Q (.ref l) (upd H l (.lst ys))
theorem call_liQ {X : Cx} : CallR X (.type "list") (rLiQ X.K) := call_list_of
end Fh

set_option Elab.async false
set_option linter.all false
set_option maxRecDepth 100000
set_option maxHeartbeats 4000000
namespace Fh
open PySem L2 PyProof.Rows
/-! ### calls whose deeds are so -/
theorem tup_ne {H : Hp} {a b : Addr} {xs : List V} {n : Nat} (h : H a = some (.tup xs)) (hB : Bag H b n) : a ≠ b := fun e => by
  obtain ⟨x, y, z, hb, _⟩ := hB
  rw [e, hb] at h
  cases h
theorem frz_ne {H : Hp} {a b : Addr} {o : Obj} {u : HO} {n : Nat} (h : H a = some (.frz o u)) (hB : Bag H b n) : a ≠ b := fun e => by
  obtain ⟨x, y, z, hb, _⟩ := hB
  rw [e, hb] at h
  cases h
theorem tp_dp2 {K : PySem.W.Frag} {H : Hp} {a : Addr} {x y : V} {d e : PyData} (h : H a = some (.tup [x, y])) (t1 : Tp H x d) (t2 : Tp H y e) : Dp K H (.ref a) (.tuple [d, e]) := .tup (SqT.of h) (.cons (Tp.dp _ _ t1) (.cons (Tp.dp _ _ t2) .nil))
theorem need_nm (b : Bool) : Nm (needS b) := by cases b <;> exact nm_lit (by decide +kernel)
theorem sh_two {k : Kn} {b : Bool} (h : ∀ z, k.nm = some z → Nm z) : SeqAt.shaped (.tuple [k.d, .str (needS b)]) = true := by
  have hk : Sh 2 k.d := by
    cases k with
    | one b => exact (kb_shQ h).mono (by decide)
    | lst b =>
      have hb : Sh 1 b.d := kb_shQ (k := b) fun z hz => h z hz
      refine Sh.tup (n := 1) fun d hd => ?_
      rcases List.mem_cons.mp hd with e | hd
      · rw [e]; exact ⟨by decide +kernel, Nat.zero_le _⟩
      · rw [List.mem_singleton.mp hd]; exact hb
  refine (Sh.tup (n := 2) fun d hd => ?_).shaped (by decide)
  rcases List.mem_cons.mp hd with e | hd
  · rw [e]; exact hk
  · rw [List.mem_singleton.mp hd]; exact (nm_shQ (need_nm b)).mono (by decide)
theorem sh_km {k : Str} (h : Nm k) : SeqAt.shaped (.tuple [.str k, .str "must"]) = true := by
  refine (Sh.tup (n := 0) fun d hd => ?_).shaped (by decide)
  rcases List.mem_cons.mp hd with e | hd
  · rw [e]; exact nm_shQ h
  · rw [List.mem_singleton.mp hd]; exact nm_shQ (nm_lit (by decide +kernel))
theorem tp_erase {H : Hp} : ∀ {vs : List V} {ds : List PyData} {k : Nat}, TpAll H vs ds → TpAll H (vs.eraseIdx k) (ds.eraseIdx k)
  | _, _, _, .nil => .nil
  | _, _, 0, .cons _ t => t
  | _, _, k + 1, .cons h t => .cons h (tp_erase t)
/-- the names of the fields of a kind that must be -/
theorem lc_mus {K : PySem.W.Frag} {k : Str} {a : Addr} {xs : List V} {ins : List Fl} {σ : L2.St} {H : Hp} {D : Addr} {Qd : Hp → Prop} (hk : Nm k) (hl : 12 < σ.length) (ha : H a = some (.lst xs)) (tx : TpAll H xs (ins.map Fl.d)) (fw : FlW ins) (hD : H D = none)
    (hd : ∀ H', Same H H' → H' D = some (.lst ((txL ins k).map V.str)) → Qd H') :
    ∃ W : Nat → Nat → Hp → Prop, (∃ m, W 0 m (upd H D (.lst []))) ∧ ∀ j m H, W j m H →
      ((Itl K a).stop j H ∧ Qd H) ∨ ((Itl K a).go j H ∧ ∃ Nx : Hp → Prop, (∀ H', Nx H' → ∃ m', m' < m ∧ W (j + 1) m' H') ∧ ∀ x H', (Itl K a).yld j H x H' → gName 12 x (wipe σ [12]) H' fun σ2 H2 => wipe σ2 [12] = wipe σ [12] ∧ tTest (tOp (rEqD K) (tSl (rSlA K) (tVar 12) (tPart (tC (.int 2))) tNoPart) (tTup (tCons (tC (.str k)) (tCons (tC (.str "must")) tNil)))) σ2 H2 fun b H3 =>
        if b = true then tOp (rIxT K) (tVar 12) (tC (.int 1)) σ2 H3 fun y H4 => ∃ acc, H4 D = some (.lst acc) ∧ acc.length < sizeLine ∧ Nx (upd H4 D (.lst (acc ++ [y]))) else Nx H3) := by
  refine lcG_list (xs := xs) (l := ins) (dx := Fl.d) (val := fun f => .str f.nam) (keep := musT k) (fun H' S => SqL.of (S _ _ ha)) tx (Nat.lt_of_le_of_lt fw.l5 (by decide)) hD ?_ ?_
  · intro j f x H' hj S' tf N M hN hM
    have hm := List.mem_of_getElem? hj
    have gx : ((wipe σ [12]).set 12 (some x))[12]? = some (some x) := by
      rw [List.getElem?_set_self]
      rw [wipe_length]
      exact hl
    have wx : wipe ((wipe σ [12]).set 12 (some x)) [12] = wipe σ [12] := by
      show ((σ.set 12 none).set 12 (some x)).set 12 none = σ.set 12 none
      rw [List.set_set, List.set_set]
    obtain ⟨t4, x1, x2, x3, x4, rfl, h4, t1, t2, t3, t4'⟩ := Tp.four tf
    rw [t2.istr] at h4
    refine ⟨wx, _, gx, _, rfl, npT ?_⟩
    refine tpSl (lo := some 2) (hi := none) tf fun r H2 S2 tr => ?_
    refine ⟨(by show 2 ≤ sizeLine; decide), fun p2 hp2 => ?_⟩
    obtain ⟨S3, tp2⟩ := tupNew (xs := [.str k, .str "must"]) hp2 (.cons (.str k) (.cons (.str "must") .nil))
    have tr3 := Tp.keep (Same.tk S3) _ _ tr
    have S23 := S2.trans S3
    generalize (upd H2 p2 (.tup [.str k, .str "must"])) = H3 at *
    refine ⟨.tuple [f.kd.d, .str (needS f.must)], .tuple [.str k, .str "must"], Tp.dp _ _ tr3, Tp.dp _ _ tp2, sh_two (fw.nk f hm), sh_km hk, _, rfl, ?_⟩
    show (if musT k f = true then _ else _)
    cases hmk : musT k f with
    | false => exact iteF (hN hmk _ S23)
    | true => exact iteT ⟨_, gx, t4, _, _, _, rfl, rfl, SqT.of (S23 _ _ h4), rfl, hM hmk _ _ S23 (.str _)⟩
  intro H' zs S' hD' tz
  have ez := tp_strsM tz
  subst ez
  exact hd H' S' hD'
abbrev nRch : List Str := ["_law_bag_here", "_law_parts", "_law_found", "_law_mark", "_law_word", "_law_ask", "_law_back", "_law_deeds", "_law_ins", "_law_outs", "_law_side", "_law_texts", "_law_one", "_law_wholes", "_law_some", "_law_way", "_law_source", "_law_many", "_law_is_asked", "_law_own", "_law_fit", "_law_order", "_law_turn", "_law_other"]
abbrev pRch : List Str := ["_law_bag_here", "_law_parts"]
def spRch : Sp := fun vs H Q _ => ∃ (b : Addr) (v : V) (own : Str) (age : Int) (cs : List Cho) (recs : List Rec) (cws : List Cw) (n : Nat), vs = [.ref b, v] ∧ Bag H b n ∧ n + 400 ≤ most ∧ PtF H v own age cs recs cws ∧ PtW own age cs recs cws ∧
  ∀ (v' : V) (cws' : List Cw) (H' : Hp), PtF H' v' own age cs recs cws' → PtW own age cs recs cws' → (∀ c ∈ cws', RichOk own recs c) → Kp b H H' → Bag H' b (n + 300) → Q v' H'
section
variable {P : Program} {w : World} {K : PySem.W.Frag} {mg : Str → Option Value} {base : Heap}
end
end Fh

set_option Elab.async false
set_option linter.all false
set_option maxRecDepth 100000
set_option maxHeartbeats 4000000
namespace Fh
open PySem L2 PyProof.Rows
/-! ### a deed held against the law's own reckoning -/
theorem inV_bl {α : Type} (f : α → Bool) : ∀ L : List α, inV (.bl true) (L.map fun e => .bl (f e)) = L.any f
  | [] => rfl
  | x :: L => by
    unfold inV at *
    rw [List.map_cons, List.any_cons, List.any_cons, ← inV_bl f L]
    unfold inV
    congr 1
    cases f x <;> rfl
theorem asks_eq (L : List (List Str)) : (L.any fun e => decide (V.str (e.headD "") = V.str "ask")) = inV (.str "ask") (L.map fun e => V.str (e.headD "")) := by
  have e : (L.map fun e => V.str (e.headD "")) = (L.map fun e => e.headD "").map V.str := by rw [List.map_map]; rfl
  rw [e, inV_names]
  induction L with
  | nil => rfl
  | cons x L ih =>
    rw [List.any_cons, ih, List.map_cons]
    · by_cases h : x.headD "" = "ask"
      · rw [h, decide_eq_true rfl]
        simp
      · rw [decide_eq_false (sne h), Bool.false_or]
        have : ¬ ("ask" : Str) = x.headD "" := fun q => h q.symm
        simp only [List.mem_cons, this, false_or]
    · rw [List.map_map]; rfl
abbrev sDrt : Stmt := top 49
abbrev nDrt : List Str := ["_law_own", "_law_ins", "_law_outs", "_law_deed", "_law_ahead", "_law_one"]
abbrev pDrt : List Str := ["_law_own", "_law_ins", "_law_outs", "_law_deed", "_law_ahead"]
def spDrt : Sp := fun vs H Q _ => ∃ (t D E s : Addr) (nm : Str) (own an : List Fl) (a b c : Str) (r : List Str) (xs : List V) (ahead : List (List Str)), vs = [.str nm, .ref D, .ref E, .ref t, .ref s] ∧ H t = some (.tup ((a :: b :: c :: r).map V.str)) ∧ a ∈ six ∧ FbN H D own ∧ FbN H E an ∧ FOkR own ∧ FOkR an ∧
  H s = some (.tup xs) ∧ TpAll H xs (ahead.map dD) ∧ (∀ e ∈ ahead, e ≠ []) ∧ ahead.length ≤ 100 ∧ ∀ H', Same H H' → Q (.bl (astB nm own an (a :: b :: c :: r) ahead)) H'
section
variable {P : Program} {w : World} {K : PySem.W.Frag} {mg : Str → Option Value} {base : Heap}
theorem scDrt : FnScope nDrt pDrt (defScope sDrt) := ⟨rfl, rfl, rfl, by decide +kernel, rfl, by decide +kernel, by decide +kernel⟩
theorem ok_drt {f : Addr} {fd : FuncData} (F : Fun K "_law_deed_right" "_law_deed_right" sDrt f fd) : FnOk P w K mg base CX0 1 f fd pDrt spDrt := by
  refine F.ok scDrt (fun vs H Q E h => ?_) (fun cdv A outer s H vs Q E hr h => ?_)
  · obtain ⟨t, D, E, s, nm, own, an, a, b, c, r, xs, ahead, rfl, _⟩ := h
    rfl
  · obtain ⟨t, D, E, sl, nm, own, an, a, b, c, r, xs, ahead, rfl, ht, ha6, hD, hE, okD, okE, hs, ths, nes, la, q⟩ := h
    have hu := hu_of hr
    refine ⟨_, (pss_cons (ps_if (pt_cmpR op_in_seq (pe_ix ix_tup (pv 3) pe_int (fun _ _ => rfl)) (pe_tup (pa_cons pe_str (pa_cons pe_str pa_nil))) rfl)
      (pss_one (ps_ret (pe_and (pe_cmpR (op_eqD hr.units) (pe_dget1 hu (pv 1) (pe_ix ix_tup (pv 3) pe_int (fun _ _ => rfl)) ⟨rfl, rfl, rfl, rfl⟩) (pe_tup (pa_cons pe_str (pa_cons pe_str pa_nil))) (nomark _)) (pe_one (pe_cmpR (op_eqD hr.units) (pe_dget1 hu (pv 1) (pe_ix ix_tup (pv 3) pe_int (fun _ _ => rfl)) ⟨rfl, rfl, rfl, rfl⟩) (pe_tup (pa_cons pe_str (pa_cons pe_str pa_nil))) (nomark _))))))
      pss_nil)
      (pss_cons (ps_if (pt_cmpR op_eq (pe_ix ix_tup (pv 3) pe_int (fun _ _ => rfl)) pe_str (nomark _))
      (pss_one (ps_ret (pe_cmpR op_ne (pe_ix ix_tup (pv 3) pe_int (fun _ _ => rfl)) (pv 0) (nomark _))))
      pss_nil)
      (pss_cons (ps_if (pt_cmp (pc_dnotin hu (pe_ix ix_tup (pv 3) pe_int (fun _ _ => rfl)) (pv 2)))
      (pss_one (ps_ret pe_bl))
      pss_nil)
      (pss_cons (ps_if (pt_cmpR op_eq (pe_ix ix_tup (pv 3) pe_int (fun _ _ => rfl)) pe_str (nomark _))
      (pss_one (ps_ret (pe_cmpR op_in_seq pe_bl (pe_lc (own := [("_law_one", 5)]) (g := (gName 5)) (tt := tYes) (te := tOp rEq (tOp (rIxT K) (tVar 5) (tC (.int 0))) (tC (.str "ask"))) rfl scDrt.nd (pi_tup (pv 4)) (blkOk_by (N := nDrt) (sc := defScope sDrt) (by decide +kernel)) (fun _ _ _ _ _ => (pg_name (i := 5) scDrt.nd rfl (Or.inl rfl))) (fun _ _ _ _ _ => pts_nil) (fun _ _ _ _ _ => (pe_cmpR op_eq (pe_ix ix_tup (pv 5) pe_int (fun _ _ => rfl)) pe_str (nomark _)))) rfl)))
      pss_nil)
      (pss_cons (ps_if (pt_cmpR op_eq (pe_ix ix_tup (pv 3) pe_int (fun _ _ => rfl)) pe_str (nomark _))
      (pss_one (ps_ret (pe_and (pe_cmpR (op_eqD hr.units) (pe_ix ix_tup (pe_dget hu (pv 2) (pe_ix ix_tup (pv 3) pe_int (fun _ _ => rfl)) (fun _ _ => rfl)) pe_int (fun _ _ => rfl)) pe_str (nomark _)) (pe_one (pe_cmpR (op_eqD hr.units) (pe_dget1 hu (pv 1) (pe_ix ix_tup (pv 3) pe_int (fun _ _ => rfl)) ⟨rfl, rfl, rfl, rfl⟩) (pe_tup (pa_cons pe_str (pa_cons pe_str pa_nil))) (nomark _))))))
      pss_nil)
      (pss_cons (ps_if (PW.pt (pw_or (pt_cmp (pc_dnotin hu (pe_ix ix_tup (pv 3) pe_int (fun _ _ => rfl)) (pv 1))) (pw_or1 (pt_cmpR (op_neD hr.units) (pe_ix ix_tup (pe_dget hu (pv 1) (pe_ix ix_tup (pv 3) pe_int (fun _ _ => rfl)) (fun _ _ => rfl)) pe_int (fun _ _ => rfl)) (pe_ix ix_tup (pe_dget hu (pv 2) (pe_ix ix_tup (pv 3) pe_int (fun _ _ => rfl)) (fun _ _ => rfl)) pe_int (fun _ _ => rfl)) (nomark _)))))
      (pss_one (ps_ret pe_bl))
      pss_nil)
      (pss_one (ps_ret (pe_or (pe_cmpR op_eq (pe_ix ix_tup (pe_dget hu (pv 1) (pe_ix ix_tup (pv 3) pe_int (fun _ _ => rfl)) (fun _ _ => rfl)) pe_int (fun _ _ => rfl)) pe_str (nomark _)) (pe_one (pe_cmpR op_eq (pe_ix ix_tup (pe_dget hu (pv 2) (pe_ix ix_tup (pv 3) pe_int (fun _ _ => rfl)) (fun _ _ => rfl)) pe_int (fun _ _ => rfl)) pe_str (nomark _)))))))))))), ?_⟩
    have get : ∀ {H1 : Hp} (z k : Str) (own : List Fl) (D : Addr), FbN H D own → FOkR own → SeqAt.shaped (.tuple [.str k, .str "must"]) = true → Same H H1 → ∃ kvs : List (Key × V), H1 D = some (.dK kvs) ∧ ∀ (t1 : Addr), H1 t1 = none → ∃ d e, Dp K (upd H1 t1 (.tup [.str k, .str "must"])) ((valV kvs (Sum.inr z)).getD .non) d ∧ Dp K (upd H1 t1 (.tup [.str k, .str "must"])) (.ref t1) e ∧ SeqAt.shaped d = true ∧ SeqAt.shaped e = true ∧ PyData.eqv d e = eqG own z k := fun {H1} z k own D hD ok sk S => by
      obtain ⟨kvs, hk, od⟩ := fbn_dget (hD.same S) z
      refine ⟨kvs, hk, fun t1 ht1 => ?_⟩
      have S1 := Same.new (H := H1) (o := .tup [.str k, .str "must"]) ht1
      have d1 : Tp (upd H1 t1 (.tup [.str k, .str "must"])) (.ref t1) (.tuple [.str k, .str "must"]) := .tup upd_same (.cons (.str _) (.cons (.str _) .nil))
      rcases od with ⟨e1, e2⟩ | ⟨g, t2, u2, e1, gm, e2, ht2, tu2⟩
      · rw [e2]
        exact ⟨.none, _, .non, d1.dp, rfl, sk, by unfold eqG; rw [e1]⟩
      · rw [e2]
        have d2 : Tp (upd H1 t1 (.tup [.str k, .str "must"])) (.ref t2) (.tuple [g.kd.d, .str (needS g.must)]) := .tup (S1 _ _ ht2) (.cons (Tp.keep (Same.tk S1) _ _ tu2) (.cons (.str _) .nil))
        exact ⟨_, _, d2.dp, d1.dp, shaped2 (ok.sh g gm), sk, by unfold eqG; rw [e1]⟩
    refine ⟨_, rfl, t, _, _, _, rfl, rfl, SqT.of ht, at0, (by show 2 ≤ sizeLine; decide), fun t0 ht0 => ?_⟩
    have S0 := Same.new (H := H) (o := .tup [.str "take", .str "add"]) ht0
    have e0 : (upd H t0 (.tup [.str "take", .str "add"])) t0 = some (.tup [.str "take", .str "add"]) := upd_same
    generalize (upd H t0 (.tup [.str "take", .str "add"])) = H0 at *
    refine ⟨t0, _, rfl, .inr (SqT.of e0), rfl, rfl, _, rfl, ?_⟩
    have ht1 := S0 _ _ ht
    have hE0 := hE.same S0
    have hD0 := hD.same S0
    show if inV (.str a) [.str "take", .str "add"] = true then _ else _
    rw [ast_cons] at q
    cases hw : inV (.str a) [.str "take", .str "add"] with
    | true =>
      refine iteT ?_
      rw [if_pos hw] at q
      obtain ⟨kvs, hk, g1⟩ := get b "text" own D hD okD (by decide +kernel) S0
      refine ⟨_, rfl, D, rfl, .inl ⟨kvs, .inl hk⟩, _, rfl, t, _, _, _, rfl, rfl, SqT.of ht1, at1, _, DGet.k (k := Sum.inr b) hk, (by show 2 ≤ sizeLine; decide), fun t2 ht2 => ?_⟩
      obtain ⟨d, e, x1, x2, x3, x4, x5⟩ := g1 t2 ht2
      refine ⟨d, e, x1, x2, x3, x4, _, rfl, ?_⟩
      have S2 := S0.trans (Same.new (o := .tup [.str "text", .str "must"]) ht2)
      generalize (upd H0 t2 (.tup [.str "text", .str "must"])) = H2 at *
      rw [x5]
      cases he : eqG own b "text" with
      | false =>
        rw [he] at q
        exact iteF (q _ S2)
      | true =>
        rw [he, Bool.true_and] at q
        refine iteT ?_
        obtain ⟨kvs, hk, g1⟩ := get c "whole" own D hD okD (by decide +kernel) S2
        refine ⟨_, rfl, D, rfl, .inl ⟨kvs, .inl hk⟩, _, rfl, t, _, _, _, rfl, rfl, SqT.of (S2 _ _ ht), at2, _, DGet.k (k := Sum.inr c) hk, (by show 2 ≤ sizeLine; decide), fun t3 ht3 => ?_⟩
        obtain ⟨d, e, x1, x2, x3, x4, x5⟩ := g1 t3 ht3
        refine ⟨d, e, x1, x2, x3, x4, ?_⟩
        rw [x5]
        exact q _ (S2.trans (Same.new ht3))
    | false =>
      refine iteF ?_
      rw [if_neg (by rw [hw]; exact Bool.false_ne_true)] at q
      have str_ne : ∀ {x y : Str}, ¬ decide (V.str x = V.str y) = true → x ≠ y := fun h e => h (by rw [e]; exact decide_eq_true rfl)
      have str_eq : ∀ {x y : Str}, decide (V.str x = V.str y) = true → x = y := fun h => by
        have := of_decide_eq_true h
        injection this
      refine ⟨_, rfl, t, _, _, _, rfl, rfl, SqT.of ht1, at0, rfl, _, rfl, ite2 (fun h => ?_) (fun hask => ?_)⟩
      · -- ask
        have ea := str_eq h
        rw [if_neg (by rw [ea]; decide +kernel), if_neg (by rw [ea]; decide +kernel), if_pos ea] at q
        refine ⟨_, rfl, t, _, _, _, rfl, rfl, SqT.of ht1, at1, _, rfl, rfl, ?_⟩
        have e : decide (V.str b = V.str nm) = decide (b = nm) := by
          by_cases e : b = nm
          · rw [e, decide_eq_true rfl, decide_eq_true rfl]
          · rw [decide_eq_false e, decide_eq_false fun h => e (by injection h)]
        rw [e]
        exact q _ S0
      have nask := str_ne hask
      obtain ⟨kvs, hk, od⟩ := fbn_dget hE0 b
      have dg : DGet H0 E (.str b) (valV kvs (Sum.inr b)) := DGet.k (k := Sum.inr b) hk
      refine ⟨_, rfl, t, _, _, _, rfl, rfl, SqT.of ht1, at1, _, rfl, E, _, rfl, dg, _, rfl, ?_⟩
      have no_out : an.find? (fun g => decide (g.nam = b)) = none → astB nm own an (a :: b :: c :: r) ahead = false := fun e1 => by
        rw [ast_cons, if_neg (by rw [hw]; exact Bool.false_ne_true), e1]
        unfold inN
        rw [e1]
        by_cases h1 : a = "tell"
        · rw [if_pos h1]
        · rw [if_neg h1]
          by_cases h2 : a = "copy"
          · rw [if_pos h2]
          · rw [if_neg h2, if_neg nask]
            rfl
      rcases od with ⟨e1, e2⟩ | ⟨g, t2, u2, e1, gm, e2, ht2, tu2⟩
      · rw [e2]
        refine iteT ?_
        have := no_out e1
        rw [ast_cons, if_neg (by rw [hw]; exact Bool.false_ne_true)] at this
        rw [this] at q
        exact q _ S0
      rw [e2] at dg ⊢
      rw [e1] at q
      refine iteF ?_
      refine ⟨_, rfl, t, _, _, _, rfl, rfl, SqT.of ht1, at0, rfl, _, rfl, ite2 (fun h => ?_) (fun hget => ?_)⟩
      · -- get
        have ea := str_eq h
        rw [if_neg (by rw [ea]; decide +kernel), if_neg (by rw [ea]; decide +kernel), if_neg nask] at q
        unfold inN at q
        rw [e1] at q
        refine ⟨_, rfl, sl, rfl, ⟨_, SqT.of (S0 _ _ hs)⟩, fun L hL => ?_⟩
        have lx : xs.length = ahead.length := by rw [ths.length, List.length_map]
        refine lc_tup (xs := xs) (fun k H4 => Same H0 H4 ∧ H4 L = some (.lst ((ahead.take k).map fun e => .bl (decide (V.str (e.headD "") = V.str "ask"))))) ?_ ?_ ?_ ?_
        · exact ⟨Same.new hL, upd_same⟩
        · rintro k H4 _ ⟨S4, _⟩
          exact SqT.of (S4 _ _ (S0 _ _ hs))
        · rintro k x H4 hx4 ⟨S4, h4L⟩
          obtain ⟨dd, hd, td⟩ := ths.get' hx4
          obtain ⟨e, hq, rfl⟩ := mapAt hd
          obtain ⟨t4, rfl, ht4⟩ := dD_at td
          have ne := nes e (List.mem_of_getElem? hq)
          obtain ⟨z, e', rfl⟩ : ∃ z e', e = z :: e' := by
            cases e with
            | nil => exact absurd rfl ne
            | cons z e' => exact ⟨z, e', rfl⟩
          refine ⟨rfl, yes (iteT ⟨_, rfl, t4, _, _, _, rfl, rfl, SqT.of (S4 _ _ (S0 _ _ ht4)), at0, rfl, _, h4L, ?_, Same.wr S4 hL, ?_⟩)⟩
          · rw [List.length_map, List.length_take]
            exact Nat.lt_of_le_of_lt (show _ ≤ 100 by omega) (by decide)
          · rw [upd_same, List.take_add_one, hq, List.map_append]
            rfl
        · rintro H4 ⟨S4, h4L⟩
          rw [lx, List.take_length] at h4L
          refine ⟨L, _, rfl, .inl (SqL.of h4L), rfl, (by rw [List.all_map]; exact List.all_eq_true.mpr fun _ _ => rfl), ?_⟩
          rw [if_neg Bool.false_ne_true, inV_bl, asks_eq]
          exact q _ (S0.trans S4)
      refine ⟨_, rfl, t, _, _, _, rfl, rfl, SqT.of ht1, at0, rfl, _, rfl, ite2 (fun h => ?_) (fun htell => ?_)⟩
      · -- tell
        rw [if_pos (str_eq h)] at q
        refine ⟨_, rfl, _, rfl, t, _, _, _, rfl, rfl, SqT.of ht1, at1, E, .ref t2, rfl, dg, t2, _, _, _, rfl, rfl, SqT.of ht2, rfl, ?_⟩
        refine ⟨g.kd.d, .str "whole", tu2.dp, .str _, okE.sh g gm, by decide +kernel, _, rfl, ?_⟩
        dsimp only at q
        cases he : PyData.eqv g.kd.d (.str "whole") with
        | false =>
          rw [he] at q
          exact iteF (q _ S0)
        | true =>
          rw [he, Bool.true_and] at q
          refine iteT ?_
          obtain ⟨kvs, hk, g1⟩ := get c "text" own D hD okD (by decide +kernel) S0
          refine ⟨_, rfl, D, rfl, .inl ⟨kvs, .inl hk⟩, _, rfl, t, _, _, _, rfl, rfl, SqT.of ht1, at2, _, DGet.k (k := Sum.inr c) hk, (by show 2 ≤ sizeLine; decide), fun t3 ht3 => ?_⟩
          obtain ⟨d, e, x1, x2, x3, x4, x5⟩ := g1 t3 ht3
          refine ⟨d, e, x1, x2, x3, x4, ?_⟩
          rw [x5]
          exact q _ (S0.trans (Same.new ht3))
      -- copy
      have ea : a = "copy" := by
        unfold six at ha6
        have h0 : decide (a ∈ (["take", "add"] : List Str)) = false := by rw [← inV_ta]; exact hw
        have h0 := of_decide_eq_false h0
        simp only [List.mem_cons, List.not_mem_nil, or_false, not_or] at ha6 h0
        rcases ha6 with h | h | h | h | h | h
        · exact absurd h h0.1
        · exact absurd h h0.2
        · exact absurd h (str_ne htell)
        · exact h
        · exact absurd h nask
        · exact absurd h (str_ne hget)
      rw [if_neg (str_ne htell), if_pos ea] at q
      obtain ⟨kvs2, hk2, od2⟩ := fbn_dget hD0 c
      have dg2 : DGet H0 D (.str c) (valV kvs2 (Sum.inr c)) := DGet.k (k := Sum.inr c) hk2
      refine ⟨_, rfl, t, _, _, _, rfl, rfl, SqT.of ht1, at2, _, rfl, D, _, rfl, dg2, _, rfl, ?_⟩
      rcases od2 with ⟨e3, e4⟩ | ⟨g2, t3, u3, e3, gm3, e4, ht3, tu3⟩
      · rw [e4]
        rw [e3] at q
        exact iteT (iteT (q _ S0))
      · rw [e4] at dg2 ⊢
        rw [e3] at q
        refine iteF ?_
        refine ⟨_, rfl, _, rfl, t, _, _, _, rfl, rfl, SqT.of ht1, at2, D, .ref t3, rfl, dg2, t3, _, _, _, rfl, rfl, SqT.of ht3, rfl, _, rfl, _, rfl, t, _, _, _, rfl, rfl, SqT.of ht1, at1, E, .ref t2, rfl, dg, t2, _, _, _, rfl, rfl, SqT.of ht2, rfl, ?_⟩
        refine ⟨g2.kd.d, g.kd.d, tu3.dp, tu2.dp, okD.sh g2 gm3, okE.sh g gm, _, rfl, ?_⟩
        dsimp only at q
        have ec : ccB g g2 = (PyData.eqv g2.kd.d g.kd.d && (g2.must || !g.must)) := by unfold ccB; rw [kd_comm]
        rw [ec] at q
        cases he : PyData.eqv g2.kd.d g.kd.d with
        | false =>
          rw [he] at q
          exact iteT (q _ S0)
        | true =>
          rw [he, Bool.true_and] at q
          refine iteF ?_
          refine ⟨_, rfl, _, rfl, t, _, _, _, rfl, rfl, SqT.of ht1, at2, D, .ref t3, rfl, dg2, t3, _, _, _, rfl, rfl, SqT.of ht3, rfl, rfl, _, rfl, ?_⟩
          rw [need_must]
          cases hm : g2.must with
          | true =>
            rw [hm] at q
            exact iteT (q _ S0)
          | false =>
            rw [hm, Bool.false_or] at q
            refine iteF ?_
            refine ⟨_, rfl, _, rfl, t, _, _, _, rfl, rfl, SqT.of ht1, at1, E, .ref t2, rfl, dg, t2, _, _, _, rfl, rfl, SqT.of ht2, rfl, rfl, ?_⟩
            rw [need_may]
            exact q _ S0
end
end Fh

set_option Elab.async false
set_option linter.all false
set_option maxRecDepth 100000
set_option maxHeartbeats 4000000
namespace Fh
open PySem PySem.Spec PyProof.Rows L2
abbrev TKd (P : Program) (w : World) (h : Heap) (k : List Key) (x : Addr) : Prop := IsTupleKey (mixKind P w) h k x
/-! ### a dict of ints and texts asked for a tuple: it has none -/
section
variable {P : Program} {w : World} {A : Around} {E : Value → Shared → Prop} {s : Shared}
def PlainK (v : Value) : Prop := (∃ i t, v = Value.int i t) ∨ ∃ x t, v = Value.str x t
theorem PlainK.quiet {v : Value} (h : PlainK v) : eqIsQuiet 8 v = pure true := by
  rcases h with ⟨i, t, rfl⟩ | ⟨x, t, rfl⟩ <;> rfl
theorem PlainK.noref {v : Value} {b : Addr} (h : PlainK v) : (v == Value.ref b) = false := by
  rcases h with ⟨i, t, rfl⟩ | ⟨x, t, rfl⟩ <;> rfl
theorem IsTupleKey.tup {k : List Key} {b : Addr} (h : TKd P w s.heap k b) : ∃ its, s.heap.IsTuple b its := by
  obtain ⟨o, its, n, ho, hc, hd, _⟩ := h
  exact ⟨its, o, ho, hc, n, hd⟩
theorem unlike_tup {k : List Key} {v : Value} {b : Addr} {Q : Bool → Shared → Prop} (hu : A.units < cLine) (hv : PlainK v) (hb : TKd P w s.heap k b) (h : Q false s) : wpAny (model P w) A (eqBool v (.ref b)) Q E s := by
  obtain ⟨its, ht⟩ := IsTupleKey.tup hb
  rcases hv with ⟨i, t, rfl⟩ | ⟨x, t, rfl⟩
  · exact SeqAt.EqAt.int_tuple i t ht hu P w E Q h
  · exact SeqAt.EqAt.str_tuple x t ht hu P w E Q h
theorem tells_not {k : List Key} {b : Addr} {ys : List Value} {Q : Bool → Shared → Prop} (hb : TKd P w s.heap k b) (hy : ∀ y ∈ ys, PlainK y) (h : Q false s) : wpAny (model P w) A (tableMayTell (.ref b) ys) Q E s := by
  unfold tableMayTell
  split
  · exact wpAny_pure h
  · refine wpAny_bind (wpAny_eqIsQuiet_tuple hb ?_)
    simp only [Bool.not_true, Bool.false_eq_true, if_false]
    refine wpAny_bind (wpAny_forIn_list _ (fun rest r s' => r.1 = none ∧ s' = s ∧ ∀ y ∈ rest, PlainK y) _ ?_ ?_ _ _ ⟨rfl, rfl, hy⟩)
    · rintro y rest r s' ⟨_, rfl, all⟩
      rw [(all y List.mem_cons_self).quiet]
      refine wpAny_bind (wpAny_pure ?_)
      simp only [Bool.not_true, Bool.false_eq_true, if_false]
      exact wpAny_pure ⟨rfl, rfl, fun z hz => all z (List.mem_cons_of_mem _ hz)⟩
    · rintro ⟨r1, r2⟩ s' ⟨hr, rfl, _⟩
      cases r1 with
      | none => exact wpAny_pure h
      | some q => cases hr
theorem find_tup {d b : Addr} {o : Obj} {es : Array DictEntry} {ep : Nat} {k : List Key} {n : Int} {Q : Option Nat → Shared → Prop} (hu : A.units < cLine) (ho : s.heap.get? d = some o) (hd : o.data = .dict es ep) (hk : ∀ e ∈ es, PlainK e.key)
    (hb : TKd P w s.heap k b) (h : Q none s) : wpAny (model P w) A (dictFind d (.ref b) n) Q E s := by
  have any0 : ¬ (es.any fun e => e.key == Value.ref b && e.hash != n) = true := fun z => by
    rw [← Array.any_toList, List.any_eq_true] at z
    obtain ⟨e, he, z⟩ := z
    replace he := Array.mem_toList_iff.mp he
    rw [(hk e he).noref] at z
    cases z
  unfold dictFind
  refine wpAny_holding ?_
  refine wpAny_bind (wpAny_dictEntries ho hd ?_)
  dsimp only
  generalize hp : placesWithHash es.size (fun i => es[i]?.map (·.hash)) n = places
  have st : ∀ y ∈ places.filterMap (fun i => es[i]?.map (·.key)), PlainK y := fun y hy => by
    obtain ⟨i, _, hi⟩ := List.mem_filterMap.mp hy
    cases he : es[i]? with
    | none => rw [he] at hi; cases hi
    | some e =>
      rw [he] at hi
      cases hi
      exact hk e (Array.mem_of_getElem? he)
  generalize places.filterMap (fun i => es[i]?.map (·.key)) = stored at *
  have ns : ¬ (stored == [Value.ref b]) = true := fun z => by
    cases stored with
    | nil => cases z
    | cons y r =>
      have z2 : (y == Value.ref b && r == []) = true := z
      rw [(st y List.mem_cons_self).noref] at z2
      cases z2
  have nc : ¬ ((Value.ref b :: stored).all carriedByValue) = true := fun z => by
    rw [List.all_cons] at z
    cases z
  rw [if_neg nc, if_neg any0, if_neg ns]
  refine wpAny_bind (tells_not hb st ?_)
  simp only [Bool.false_and, Bool.false_eq_true, if_false]
  refine wpAny_bind (wpAny_forIn_list _ (fun rest r s' => s' = s ∧ r = (none, none)) _ ?_ ?_ _ _ ⟨rfl, rfl⟩)
  · rintro i rest r s' ⟨rfl, rfl⟩
    cases he : es[i]? with
    | none => exact wpAny_pure ⟨rfl, rfl⟩
    | some e =>
      dsimp only
      split
      · refine wpAny_bind (wpAny_dictEpoch ho hd ?_)
        refine wpAny_bind (unlike_tup hu (hk e (Array.mem_of_getElem? he)) hb ?_)
        refine wpAny_bind (wpAny_dictEpoch ho hd ?_)
        simp only [bne_self_eq_false, Bool.false_eq_true, if_false]
        refine wpAny_bind (wpAny_rule ?_)
        exact wpAny_pure ⟨rfl, rfl⟩
      · exact wpAny_pure ⟨rfl, rfl⟩
  · rintro ⟨r1, r2⟩ s' ⟨rfl, e⟩
    cases e
    exact wpAny_pure h
theorem plainKeys {h : Heap} {a : Addr} {vs : List (Key × Value)} (d : h.DictOf (mixKind P w) a vs) : ∃ o es ep, h.get? a = some o ∧ o.ExactDict ∧ o.data = .dict es ep ∧ ∀ e ∈ es, PlainK e.key := by
  obtain ⟨o, es, ep, ho, hx, hdt, hk, _⟩ := d
  refine ⟨o, es, ep, ho, hx, hdt, fun e he => ?_⟩
  obtain ⟨k, h1, _⟩ := hk e he
  rcases keyIs_shape h1 with ⟨i, t, _, e2⟩ | ⟨x, t, _, e2⟩
  · exact .inl ⟨i, t, e2⟩
  · exact .inr ⟨x, t, e2⟩
theorem meets_getTup {d b : Addr} (hs : (d == sysModules) = false) :
    MeetsIn P w (Builtin.«dict.get» ⟨[.ref d, .ref b], []⟩) (fun A R s => A.units + 1 < cLine ∧ ∃ k vs, TKd P w s.heap k b ∧ s.heap.DictOf (mixKind P w) d vs ∧ R (.ok (.ret .none)) { s with toks := s.toks + (k.length + 1) }) := by
  refine .of_wp fun A R s ⟨hu, k, vs, hb, hm, h⟩ => ?_
  obtain ⟨o, es, ep, ho, _, hdt, hk⟩ := plainKeys hm
  have got : wpAny (model P w) A.in1 (dictGet d (.ref b)) (fun r s' => r = none ∧ s' = { s with toks := s.toks + (k.length + 1) }) (fun _ _ => False) s := by
    unfold dictGet
    refine wpAny_holding ?_
    refine wpAny_bind ((tupleKind (mixKind P w)).pyHash (tupleKind_room_in1 hu) hb ?_)
    refine wpAny_bind (find_tup (show A.in1.units < cLine from hu) ho hdt hk hb ?_)
    exact wpAny_pure ⟨rfl, rfl⟩
  show wpAny _ _ (dictGet d (.ref b) >>= _) _ _ s
  refine wpAny_bind (wpAny_mono got (fun r s' h' => ?_) fun _ _ z => z.elim)
  obtain ⟨rfl, rfl⟩ := h'
  exact wpAny_bind (wpAny_missed_other hs (wpAny_pure ⟨.none, rfl, h⟩))
end
section
variable {X : Cx}
/-- d.get(y): y a key, or a tuple, which a dict of ints and texts never has -/
def rGetT (K : PySem.W.Frag) : V → List V → Hp → VK → Prop := fun x ys H Q => ∃ (a : Addr) (y : V), x = .ref a ∧ ys = [y] ∧
  ((∃ o, DGet H a y o ∧ Q (o.getD .non) H) ∨ ∃ (b : Addr) (k : List Key) (kvs : List (Key × V)), y = .ref b ∧ H b = some (.tup (k.map kV)) ∧ Rd H a (.dK kvs) ∧ Q .non H)
theorem mt_getT (hu : X.A.units + 1 < cLine) : MtR X "dict.get" (rGetT X.K) := by
  intro pins s σ H x xs v us Q I rx rv h
  obtain ⟨a, y, rfl, rfl, h⟩ := h
  cases rx
  obtain ⟨u, rfl, ru⟩ := rv.one
  rcases h with ⟨o, g, q⟩ | ⟨b, k, kvs, rfl, hb, hd, q⟩
  · exact d_get1 hu I g ru fun w' s' I' r' => ⟨_, H, I', r', q⟩
  · cases ru
    obtain ⟨_, hs, vs, _, dd⟩ := dk_rd I.hok hd
    exact call_meetsIn PySem.F.slot_dict_get dd.typeIs PySem.F.entry_dict_get (PySem.F.args_dict_get_2 _ _) (meets_getTup hs) ⟨hu, k, vs, key_of I.hok hb, dd, ⟨.non, H, I.tok _, rfl, q⟩⟩
end
end Fh

set_option Elab.async false
set_option linter.all false
set_option maxRecDepth 100000
set_option maxHeartbeats 4000000
namespace Fh
open PySem PySem.Spec PyProof.Rows L2
/-! ### a tuple is in no dict of ints and texts -/
section
variable {P : Program} {w : World} {A : Around} {E : Value → Shared → Prop} {s : Shared}
theorem in_tup {d b : Addr} {k : List Key} {vs : List (Key × Value)} {Q : Value → Shared → Prop} (hu : A.units + 1 < cLine) (hs : (d == sysModules) = false) (hb : TKd P w s.heap k b) (hm : s.heap.DictOf (mixKind P w) d vs)
    (h : Q (.bool false) { s with toks := s.toks + (k.length + 1) }) : wpAny (model P w) A (compareOp .In (.ref b) (.ref d)) Q E s := by
  obtain ⟨o, es, ep, ho, _, hdt, hk⟩ := plainKeys hm
  have ty : s.TypeIs (.ref d) "dict" := hm.mapOf.typeIs
  show wpAny _ _ (do return .bool (← contains (.ref d) (.ref b))) Q E s
  refine wpAny_bind ?_
  unfold contains
  try with_reducible refine wpAny_holding ?_
  refine wpAny_bind (wpAny_specialOf ty slot_dict_contains.lookup ?_)
  show wpAny _ _ (if (some (Value.builtin "dict.__contains__") == some Value.none) = true then _ else _) _ E s
  rw [if_neg (by rw [beq_builtin_none]; exact Bool.false_ne_true)]
  refine wpAny_bind (wpAny_callSpecialUnlessNone?_slot (name := Str.ofString "__contains__") ty slot_dict_contains
    (wpAny_call_entry slot_dict_contains ty entry_dict_contains ?_ (args_dict_contains _ _)))
  show wpAny _ _ (dictGet d (.ref b) >>= _) _ _ s
  have got : wpAny (model P w) A.in1 (dictGet d (.ref b)) (fun r s' => r = none ∧ s' = { s with toks := s.toks + (k.length + 1) }) (fun _ _ => False) s := by
    unfold dictGet
    refine wpAny_holding ?_
    refine wpAny_bind ((tupleKind (mixKind P w)).pyHash (tupleKind_room_in1 hu) hb ?_)
    refine wpAny_bind (find_tup (show A.in1.units < cLine from hu) ho hdt hk hb ?_)
    exact wpAny_pure ⟨rfl, rfl⟩
  refine wpAny_bind (wpAny_mono got (fun r s' h' => ?_) fun _ _ z => z.elim)
  obtain ⟨rfl, rfl⟩ := h'
  show wpAny _ _ (Builtin.Dict.pendingKey? d (.ref b) >>= _) _ _ _
  exact wpAny_bind (wpAny_pendingKey_other hs (wpAny_pure ⟨_, rfl, wpAny_truthy_bool (wpAny_pure h)⟩))
end
/-- y in d; y may be a tuple (d's keys ints and texts then) -/
def tDInT (ty td : TE) : TE := fun σ H Q => ty σ H fun y H1 => td σ H1 fun x H2 => (∃ a o, x = .ref a ∧ DGet H2 a y o ∧ Q (.bl o.isSome) H2) ∨ ∃ (a b : Addr) (k : List Key) (kvs : List (Key × V)), x = .ref a ∧ y = .ref b ∧ H2 b = some (.tup (k.map kV)) ∧ Rd H2 a (.dK kvs) ∧ Q (.bl false) H2
section
variable {X : Cx} {o i : Expr} {td ty : TE}
theorem pc_dinT (hu : X.A.units + 1 < cLine) (hi : PE X i ty) (ho : PE X o td) : PC X .In i o (tDInT ty td) := by
  refine ⟨fun pins s σ H Q I h => ?_⟩
  refine thn (hi.run pins s σ H _ I h) fun iv s1 ⟨y, H1, I1, ry, q1⟩ => thn (ho.run pins s1 σ H1 _ I1 q1) fun u s2 ⟨x, H2, I2, rx, q2⟩ => ?_
  rcases q2 with ⟨a, ov, ex, g, q2⟩ | ⟨a, b, k, kvs, ex, ey, hb, g, q2⟩
  · subst ex
    obtain rfl : u = Value.ref a := rx
    exact d_in hu I2 g ry fun s3 I3 => ⟨.bl ov.isSome, H2, I3, rfl, q2⟩
  · subst ex ey
    obtain rfl : u = Value.ref a := rx
    obtain rfl : iv = Value.ref b := ry
    obtain ⟨_, hs, vs, _, dd⟩ := dk_rd I2.hok g
    exact in_tup hu hs (key_of I2.hok hb) dd ⟨.bl false, H2, I2.tok _, rfl, q2⟩
end
end Fh

set_option Elab.async false
set_option linter.all false
set_option maxRecDepth 100000
set_option maxHeartbeats 4000000
namespace Fh
open PySem PySem.Spec PyProof.Rows L2
/-! ### sorted(a list of rows of ints and texts) -/
section
variable {X : Cx}
def rSortedLKx (K : PySem.W.Frag) : List V → Hp → VK → Prop := fun vs H Q => ∃ (l : Addr) (T : List Row), vs = [V.ref l] ∧ SqL K H l (T.map fun p => V.ref p.1) ∧ (∀ p ∈ T, SqT K H p.1 (p.2.map kV)) ∧ (∀ p ∈ T, ∀ q ∈ T, Cm p.2 q.2) ∧ (∀ p ∈ T, ∃ z r, p.2 = .inr z :: r) ∧ T.length < 300 ∧
  ∀ (T' : List Row) (q : Addr), T'.Perm T → (T'.map (·.2)).Pairwise (fun x y => rowLe x y = true) → H q = none → Q (.ref q) (upd H q (.lst (T'.map fun p => V.ref p.1)))
theorem cr_sortedLKx (hc : X.calm = true) (hu : X.A.units + 64 < cLine) : CallR X (.builtin "sorted") (rSortedLKx X.K) := by
  intro pins s σ H vs us Q I r h
  obtain ⟨l, T, rfl, hl, hk, cm, fst, few, q⟩ := h
  obtain ⟨its, rv, pl, _⟩ := I.list hl
  rw [Vals.ref1 r]
  have ei : its = T.map fun p => Value.ref p.1 := refs_valsK rv
  subst ei
  have tup : ∀ p ∈ T, TK X.prog X.w s.heap p.2 p.1 := fun p hp => Inv.key I (hk p hp)
  have lz : (T.map fun p => Value.ref p.1).length ≤ sizeLine := by rw [List.length_map, sizeLine_eq]; omega
  refine SrtO.sorted_ord (vs := T.map fun p => Value.ref p.1) (swoR T) pl.isList lz (fun two h1 a at1 k1 => ?_) fun out so st => ?_
  · exact rows_sortable (s := { s with heap := h1 }) at1 (fun p hp => (tup p hp).at fun o e => (k1 _ o e).2) cm fst (by rw [List.length_map] at two; omega) (by show X.A.units + 1 + 1 < cLine; omega)
  · obtain ⟨T2, p2, rfl⟩ := refs_unmap st.perm
    obtain ⟨ep, he⟩ := PyProof.Rows.sortedAll_at s.heap (T.map fun p => Value.ref p.1) (T2.map fun p => Value.ref p.1).toArray
    have l2 : (T2.map fun p => V.ref p.1).length ≤ sizeLine := by rw [List.length_map, p2.length_eq, sizeLine_eq]; omega
    have hv : Vals (T2.map fun p => V.ref p.1) (T2.map fun p => Value.ref p.1).toArray.toList := by
      rw [List.toList_toArray]
      exact vals_refsK T2
    refine ⟨.ref _, upd H (s.heap.objs.size + 1) (.lst (T2.map fun p => V.ref p.1)), I.laid (t' := s.toks) (fun _ _ => PyProof.Rows.sortedAll_old) (Nat.le_succ _) ⟨l2, (T2.map fun p => Value.ref p.1).toArray.toList, ep, hv, he⟩, rfl, q T2 _ p2 ?_ (I.hok.fresh (Nat.le_succ _))⟩
    have so : (T2.map fun p => Value.ref p.1).Pairwise fun x y => ltvR T y x = false := so
    rw [List.pairwise_map] at so ⊢
    refine so.imp_of_mem fun {x y} hx hy h => ?_
    have h : rowLt (decR T (.ref y.1)) (decR T (.ref x.1)) = false := h
    rw [decR_at tup (p2.mem_iff.mp hx), decR_at tup (p2.mem_iff.mp hy)] at h
    show (!rowLt y.2 x.2) = true
    rw [h]
    rfl
end
end Fh

set_option Elab.async false
set_option linter.all false
set_option maxRecDepth 100000
set_option maxHeartbeats 4000000
namespace Fh
open PySem L2 PyProof.Rows
/-! ### what is due: deeds -/
def FmD (H : Hp) (D : Addr) (recs : List Rec) : Prop := ∃ kvs : List (Key × V), H D = some (.dK kvs) ∧ (∀ z, z ∉ recs.map (·.1) → valV kvs (.inr z) = none) ∧ (∀ z, z ∈ recs.map (·.1) → ∃ v, valV kvs (.inr z) = some v ∧ Tp H v (fieldsD (flO recs z)))
theorem FmD.same {H H' : Hp} {D : Addr} {recs : List Rec} (h : FmD H D recs) (s : Same H H') : FmD H' D recs := by
  obtain ⟨kvs, h1, h2, h3⟩ := h
  exact ⟨kvs, s _ _ h1, h2, fun z hz => let ⟨v, a, b⟩ := h3 z hz; ⟨v, a, Tp.keep (Same.tk s) _ _ b⟩⟩
theorem FmD.din {H : Hp} {D : Addr} {recs : List Rec} (h : FmD H D recs) (z : Str) : ∃ o, DGet H D (.str z) o ∧ o.isSome = decide (z ∈ recs.map (·.1)) := by
  obtain ⟨kvs, h1, h2, h3⟩ := h
  refine ⟨valV kvs (.inr z), DGet.k (k := .inr z) h1, ?_⟩
  by_cases hz : z ∈ recs.map (·.1)
  · obtain ⟨v, e, _⟩ := h3 z hz
    rw [e, decide_eq_true hz]
    rfl
  · rw [h2 z hz, decide_eq_false hz]
    rfl
theorem FmD.get {H : Hp} {D : Addr} {recs : List Rec} (h : FmD H D recs) {z : Str} (hz : z ∈ recs.map (·.1)) : ∃ v, DGet H D (.str z) (some v) ∧ Tp H v (fieldsD (flO recs z)) := by
  obtain ⟨kvs, h1, h2, h3⟩ := h
  obtain ⟨v, e, t⟩ := h3 z hz
  exact ⟨v, by rw [← e]; exact DGet.k (k := .inr z) h1, t⟩
def dedL (own : Str) (recs : List Rec) (c : Cw) : Nat → List (List Key)
  | 0 => []
  | j + 1 => dedL own recs c j ++ (match c.ds[j]? with
    | some d => if astB own (flO recs c.ask) (flO recs c.ans) d (c.ds.take j) = true then [] else [kAt "deed" c.nam j]
    | none => [])
def dueD (own : Str) (recs : List Rec) (cws : List Cw) : List (List Key) := cws.flatMap fun c => if goneB recs c = true then [] else dedL own recs c c.ds.length
theorem ded_iff {own : Str} {recs : List Rec} {c : Cw} {x : List Key} : ∀ {j : Nat}, x ∈ dedL own recs c j ↔ ∃ i d, i < j ∧ c.ds[i]? = some d ∧ astB own (flO recs c.ask) (flO recs c.ans) d (c.ds.take i) = false ∧ x = kAt "deed" c.nam i
  | 0 => by
    constructor
    · intro h; cases h
    · rintro ⟨i, d, h, _⟩; exact absurd h (Nat.not_lt_zero _)
  | j + 1 => by
    show x ∈ dedL own recs c j ++ _ ↔ _
    rw [List.mem_append, ded_iff]
    constructor
    · rintro (⟨i, d, h1, h2⟩ | h)
      · exact ⟨i, d, Nat.lt_succ_of_lt h1, h2⟩
      · cases q : c.ds[j]? with
        | none => rw [q] at h; cases h
        | some d =>
          rw [q] at h
          cases e : astB own (flO recs c.ask) (flO recs c.ans) d (c.ds.take j) with
          | true => simp only [e] at h; cases h
          | false =>
            simp only [e] at h
            exact ⟨j, d, Nat.lt_succ_self _, q, e, List.mem_singleton.mp h⟩
    · rintro ⟨i, d, h1, h2, h3, h4⟩
      by_cases e : i = j
      · subst e
        right
        rw [h2]
        simp only [h3]
        exact List.mem_singleton.mpr h4
      · exact .inl ⟨i, d, by omega, h2, h3, h4⟩
theorem wde_iff {own : Str} {c : Cw} {ins an : List Fl} {x : List Key} : ∀ {j : Nat}, x ∈ wdeR own c ins an j ↔ ∃ i d, i < j ∧ c.ds[i]? = some d ∧ x ∈ wde1 own c ins an i d
  | 0 => by
    constructor
    · intro h; cases h
    · rintro ⟨i, d, h, _⟩; exact absurd h (Nat.not_lt_zero _)
  | j + 1 => by
    show x ∈ wdeR own c ins an j ++ _ ↔ _
    rw [List.mem_append, wde_iff]
    constructor
    · rintro (⟨i, d, h1, h2⟩ | h)
      · exact ⟨i, d, Nat.lt_succ_of_lt h1, h2⟩
      · cases q : c.ds[j]? with
        | none => rw [q] at h; cases h
        | some d => rw [q] at h; exact ⟨j, d, Nat.lt_succ_self _, q, h⟩
    · rintro ⟨i, d, h1, h2, h3⟩
      by_cases e : i = j
      · subst e
        right
        rw [h2]
        exact h3
      · exact .inl ⟨i, d, by omega, h2, h3⟩
theorem gone_iff {recs : List Rec} {c : Cw} : goneB recs c = false ↔ stoL recs c [c.ask, c.ans] = [] := by
  constructor
  · intro h
    unfold goneB at h
    rw [Bool.or_eq_false_iff] at h
    unfold stoL
    rw [List.map_eq_nil_iff, List.filter_eq_nil_iff]
    intro z hz
    simp only [List.mem_cons, List.not_mem_nil, or_false] at hz
    rcases hz with rfl | rfl
    · rw [h.1]; exact Bool.false_ne_true
    · rw [h.2]; exact Bool.false_ne_true
  · intro h
    cases g : goneB recs c with
    | false => rfl
    | true => exact absurd h (gone_sto g)
theorem dueD_iff {own : Str} {cs : List Cho} {recs : List Rec} {cws : List Cw} {x : List Key} : (x ∈ wroL own (csP cs) recs cws ∧ hdK x = "deed") ↔ x ∈ dueD own recs cws := by
  constructor
  · rintro ⟨h, e⟩
    rcases List.mem_append.mp h with h | h
    · rcases List.mem_append.mp h with h | h
      · rw [nob_hd x h] at e; exact absurd e (by decide +kernel)
      · rw [end_hd x h] at e; exact absurd e (by decide +kernel)
    · obtain ⟨c, hc, h⟩ := List.mem_flatMap.mp h
      refine List.mem_flatMap.mpr ⟨c, hc, ?_⟩
      unfold wroC at h
      split at h
      · rename_i h0
        rw [if_neg (by rw [gone_iff.mpr (List.isEmpty_iff.mp h0)]; exact Bool.false_ne_true)]
        rcases List.mem_append.mp h with g | g
        · obtain ⟨i, d, h1, h2, h3⟩ := wde_iff.mp g
          refine ded_iff.mpr ⟨i, d, h1, h2, ?_⟩
          rcases List.mem_append.mp h3 with g | g
          · split at g
            · cases g
            · rename_i hf
              exact ⟨Bool.eq_false_iff.mpr hf, List.mem_singleton.mp g⟩
          · split at g
            · rw [List.mem_singleton.mp g] at e
              exact absurd (show ("twice" : Str) = "deed" from e) (by decide +kernel)
            · cases g
        · rw [(uns_hd x g).1] at e; exact absurd e (by decide +kernel)
      · rw [(sto_hd x h).1] at e; exact absurd e (by decide +kernel)
  · intro h
    obtain ⟨c, hc, h⟩ := List.mem_flatMap.mp h
    split at h
    · cases h
    · rename_i hg
      obtain ⟨i, d, h1, h2, h3, rfl⟩ := ded_iff.mp h
      refine ⟨List.mem_append_right _ (List.mem_flatMap.mpr ⟨c, hc, ?_⟩), rfl⟩
      unfold wroC
      rw [if_pos (by rw [gone_iff.mp (Bool.eq_false_iff.mpr hg)]; rfl)]
      refine List.mem_append_left _ (wde_iff.mpr ⟨i, d, h1, h2, ?_⟩)
      unfold wde1
      rw [if_neg (by rw [h3]; exact Bool.false_ne_true)]
      exact List.mem_append_left _ (List.mem_singleton.mpr rfl)
theorem ded_nd {own : Str} {recs : List Rec} {c : Cw} : ∀ {j : Nat}, (dedL own recs c j).Nodup
  | 0 => List.nodup_nil
  | j + 1 => by
    show (dedL own recs c j ++ _).Nodup
    rw [List.nodup_append]
    refine ⟨ded_nd, ?_, fun x hx y hy e => ?_⟩
    · cases c.ds[j]? with
      | none => exact List.nodup_nil
      | some d =>
        show (if _ then _ else _ : List (List Key)).Nodup
        split
        · exact List.nodup_nil
        · exact List.nodup_cons.mpr ⟨List.not_mem_nil, List.nodup_nil⟩
    · subst e
      obtain ⟨i, d, h1, _, _, e1⟩ := ded_iff.mp hx
      cases q : c.ds[j]? with
      | none => rw [q] at hy; cases hy
      | some d =>
        rw [q] at hy
        cases e : astB own (flO recs c.ask) (flO recs c.ans) d (c.ds.take j) with
        | true => simp only [e] at hy; cases hy
        | false =>
          simp only [e] at hy
          have := List.mem_singleton.mp hy
          rw [e1] at this
          unfold kAt at this
          simp only [List.cons.injEq, Sum.inl.injEq, and_true, true_and] at this
          omega
theorem dueD_nd {own : Str} {recs : List Rec} : ∀ {cws : List Cw}, (cws.map Cw.nam).Nodup → (dueD own recs cws).Nodup
  | [], _ => List.nodup_nil
  | c :: cws, nd => by
    rw [List.map_cons, List.nodup_cons] at nd
    show ((if goneB recs c = true then [] else dedL own recs c c.ds.length) ++ dueD own recs cws).Nodup
    rw [List.nodup_append]
    refine ⟨?_, dueD_nd nd.2, fun x hx y hy e => ?_⟩
    · split
      · exact List.nodup_nil
      · exact ded_nd
    · subst e
      split at hx
      · cases hx
      · obtain ⟨i, d, _, _, _, e1⟩ := ded_iff.mp hx
        obtain ⟨c2, hc2, h2⟩ := List.mem_flatMap.mp hy
        split at h2
        · cases h2
        · obtain ⟨i2, d2, _, _, _, e2⟩ := ded_iff.mp h2
          rw [e1] at e2
          unfold kAt at e2
          simp only [List.cons.injEq, Sum.inl.injEq, Sum.inr.injEq, and_true, true_and] at e2
          exact nd.1 (by rw [e2.1]; exact List.mem_map.mpr ⟨c2, hc2, rfl⟩)
theorem ded_len {own : Str} {recs : List Rec} {c : Cw} : ∀ {j : Nat}, (dedL own recs c j).length ≤ j
  | 0 => Nat.le_refl _
  | j + 1 => by
    show (dedL own recs c j ++ _).length ≤ j + 1
    rw [List.length_append]
    have := ded_len (own := own) (recs := recs) (c := c) (j := j)
    have h2 : (match c.ds[j]? with
      | some d => if astB own (flO recs c.ask) (flO recs c.ans) d (c.ds.take j) = true then [] else [kAt "deed" c.nam j]
      | none => []).length ≤ 1 := by
      cases c.ds[j]? with
      | none => exact Nat.zero_le _
      | some d =>
        show (if _ then _ else _ : List (List Key)).length ≤ 1
        split
        · exact Nat.zero_le _
        · exact Nat.le_refl _
    omega
theorem dueD_rich {own : Str} {recs : List Rec} {cws : List Cw} (h : ∀ c ∈ cws, RichOk own recs c) : dueD own recs cws = [] := by
  refine List.eq_nil_iff_forall_not_mem.mpr fun x hx => ?_
  obtain ⟨c, hc, hx⟩ := List.mem_flatMap.mp hx
  split at hx
  · cases hx
  · obtain ⟨i, d, _, h2, h3, _⟩ := ded_iff.mp hx
    rw [h c hc i d h2] at h3
    cases h3
theorem dueD_wrk {own : Str} {recs : List Rec} {cws : List Cw} : ∀ x ∈ dueD own recs cws, WrK x := fun x hx => by
  obtain ⟨c, hc, hx⟩ := List.mem_flatMap.mp hx
  split at hx
  · cases hx
  · obtain ⟨i, d, _, _, _, rfl⟩ := ded_iff.mp hx
    exact ⟨_, _, _, rfl, .inr (.inr ⟨.inl rfl, _, rfl⟩)⟩
def fbD (f : Fl) : PyData := .tuple [.str f.nam, .tuple [f.kd.d, .str (needS f.must)]]
theorem tp_fbn {H : Hp} : ∀ {fl : List Fl} {zs : List V}, TpAll H zs (fl.map fbD) → (fl.map Fl.nam).Nodup → ∃ (ps : List Addr) (kvs : List (Key × V)), zs = ps.map V.ref ∧ Paired (fun p kv => H p = some (.tup [kV kv.1, kv.2])) ps kvs ∧ kvs.map Prod.fst = fl.map (fun f => (Sum.inr f.nam : Key)) ∧
    ∀ f ∈ fl, ∃ (t : Addr) (u : V), valV kvs (Sum.inr f.nam) = some (.ref t) ∧ H t = some (.tup [u, .str (needS f.must)]) ∧ Tp H u f.kd.d
  | [], zs, h, _ => by
    have := h.inil
    subst this
    exact ⟨[], [], rfl, .nil, rfl, fun f h => nomatch h⟩
  | f :: fl, zs, h, nd => by
    rw [List.map_cons, List.nodup_cons] at nd
    obtain ⟨v, r, rfl, t, q⟩ := TpAll.icons h
    obtain ⟨ps, kvs, e1, e2, e3, e4⟩ := tp_fbn q nd.2
    obtain ⟨t2, x, y, rfl, ht, tx, ty⟩ := Tp.pair t
    obtain ⟨t3, u, w, rfl, ht3, tu, tw⟩ := Tp.pair ty
    rw [tx.istr] at ht
    rw [tw.istr] at ht3
    refine ⟨t2 :: ps, (Sum.inr f.nam, .ref t3) :: kvs, by rw [e1]; rfl, .cons ht e2, by rw [List.map_cons, List.map_cons, e3], fun g hg => ?_⟩
    rcases List.mem_cons.mp hg with rfl | hg
    · exact ⟨t3, u, valV_pos rfl, ht3, tu⟩
    · obtain ⟨t4, u4, a, b, c⟩ := e4 g hg
      refine ⟨t4, u4, ?_, b, c⟩
      rw [valV_neg fun e => nd.1 (by rw [Sum.inr.inj e]; exact List.mem_map.mpr ⟨g, hg, rfl⟩)]
      exact a
theorem paired_imp {α β : Type} {R S : α → β → Prop} (h : ∀ a b, R a b → S a b) {xs : List α} {ys : List β} (p : Paired R xs ys) : Paired S xs ys := by
  induction p with
  | nil => exact .nil
  | cons h1 _ ih => exact .cons (h _ _ h1) ih
theorem merge_fl {fl : List Fl} {kvs : List (Key × V)} (nd : (fl.map Fl.nam).Nodup) (e : kvs.map Prod.fst = fl.map (fun f => (Sum.inr f.nam : Key))) : mergeK [] kvs = kvs := by
  refine merge_ndG kvs [] ?_
  rw [List.nil_append, e]
  have : fl.map (fun f => (Sum.inr f.nam : Key)) = (fl.map Fl.nam).map (Sum.inr : Str → Key) := by rw [List.map_map]; rfl
  rw [this]
  exact List.Pairwise.map _ (fun a b h e => h (Sum.inr.inj e)) nd
/-! ### what is due: twice, unset -/
theorem eqv_ss (x y : Str) : PyData.eqv (.str x) (.str y) = decide (x = y) := by
  show (x == y) = _
  rw [Bool.eq_iff_iff, beq_iff_eq, decide_eq_true_iff]
theorem eqv_strs : ∀ (xs ys : List Str), PyData.eqvAll (xs.map .str) (ys.map .str) = decide (xs = ys)
  | [], [] => rfl
  | [], _ :: _ => rfl
  | _ :: _, [] => rfl
  | x :: xs, y :: ys => by
    show (PyData.eqv (.str x) (.str y) && PyData.eqvAll (xs.map .str) (ys.map .str)) = _
    rw [eqv_strs xs ys, eqv_ss, Bool.eq_iff_iff, Bool.and_eq_true, decide_eq_true_iff, decide_eq_true_iff, decide_eq_true_iff, List.cons.injEq]
theorem eqv_dD (x y : List Str) : PyData.eqv (dD x) (dD y) = decide (x = y) := eqv_strs x y
theorem eqv_st (x : Str) (y : List Str) : PyData.eqv (.str x) (dD y) = false := rfl
theorem eqv_ts (x : Str) (y : List Str) : PyData.eqv (dD y) (.str x) = false := rfl
def setw (a : Str) : Bool := inV (.str a) [.str "tell", .str "copy", .str "get"]
theorem setw_ask : setw "ask" = false := by decide +kernel
def goD : List Str → PyData
  | a :: b :: c :: r => if setw a = true then .str b else dD (a :: b :: c :: r)
  | d => dD d
def goOk (an : List Fl) : List Str → Bool
  | a :: b :: c :: r => if setw a = true then inN an b else decide (a = "ask")
  | _ => false
theorem cut3 {d : List Str} (h : 3 ≤ d.length) : ∃ a b c r, d = a :: b :: c :: r := by
  match d, h with
  | a :: b :: c :: r, _ => exact ⟨a, b, c, r, rfl⟩
theorem goD_set {a b c : Str} {r : List Str} (h : setw a = true) : goD (a :: b :: c :: r) = .str b := if_pos h
theorem goD_tup {a b c : Str} {r : List Str} (h : setw a = false) : goD (a :: b :: c :: r) = dD (a :: b :: c :: r) := if_neg (by rw [h]; exact Bool.false_ne_true)
theorem eff_set {an : List Fl} {a b c : Str} {r : List Str} (h : setw a = true) (hb : inN an b = true) : effD an (a :: b :: c :: r) = dD ["set", b] := by
  show (if a = "ask" then dD (a :: b :: c :: r) else if setB an a b = true then PyData.tuple [.str "set", .str b] else .none) = _
  have ne : a ≠ "ask" := fun e => by rw [e, setw_ask] at h; cases h
  have e : setB an a b = true := by
    show (setw a && inN an b) = true
    rw [h, hb]
    rfl
  rw [if_neg ne, if_pos e]
  rfl
theorem eff_no {an : List Fl} {a b c : Str} {r : List Str} (ne : a ≠ "ask") (h : (setw a && inN an b) = false) : effD an (a :: b :: c :: r) = .none := by
  show (if a = "ask" then dD (a :: b :: c :: r) else if setB an a b = true then PyData.tuple [.str "set", .str b] else .none) = _
  have e : ¬ setB an a b = true := by
    show ¬ (setw a && inN an b) = true
    rw [h]
    exact Bool.false_ne_true
  rw [if_neg ne, if_neg e]
theorem eff_ask {an : List Fl} {b c : Str} {r : List Str} : effD an ("ask" :: b :: c :: r) = dD ("ask" :: b :: c :: r) := by
  show (if ("ask" : Str) = "ask" then dD ("ask" :: b :: c :: r) else if setB an "ask" b = true then PyData.tuple [.str "set", .str b] else .none) = _
  rw [if_pos rfl]
theorem set_eq {an : List Fl} {b : Str} (hb : inN an b = true) {e : List Str} (h : 3 ≤ e.length) : PyData.eqv (effD an e) (dD ["set", b]) = PyData.eqv (goD e) (.str b) := by
  obtain ⟨a', b', c', r', rfl⟩ := cut3 h
  cases hs : setw a' with
  | true =>
    rw [goD_set hs, eqv_ss]
    cases hi : inN an b' with
    | true =>
      rw [eff_set hs hi, eqv_dD, Bool.eq_iff_iff, decide_eq_true_iff, decide_eq_true_iff]
      exact ⟨fun e => by injection e with _ e; injection e, fun e => by rw [e]⟩
    | false =>
      have ne : a' ≠ "ask" := fun e => by rw [e, setw_ask] at hs; cases hs
      rw [eff_no ne (by rw [hs, hi]; rfl)]
      have : b' ≠ b := fun e => by rw [e, hb] at hi; cases hi
      rw [decide_eq_false this]
      rfl
  | false =>
    rw [goD_tup hs, eqv_ts]
    by_cases e : a' = "ask"
    · subst e
      rw [eff_ask, eqv_dD]
      refine decide_eq_false fun q => ?_
      injection q with _ q
      injection q with _ q
      cases q
    · rw [eff_no e (by rw [hs]; rfl)]
      rfl
theorem ask_eq {an : List Fl} {b c : Str} {r : List Str} {e : List Str} (h : 3 ≤ e.length) : PyData.eqv (effD an e) (dD ("ask" :: b :: c :: r)) = PyData.eqv (goD e) (dD ("ask" :: b :: c :: r)) := by
  obtain ⟨a', b', c', r', rfl⟩ := cut3 h
  cases hs : setw a' with
  | true =>
    have ne : a' ≠ "ask" := fun e => by rw [e, setw_ask] at hs; cases hs
    rw [goD_set hs, eqv_st]
    cases hi : inN an b' with
    | true =>
      rw [eff_set hs hi, eqv_dD]
      refine decide_eq_false fun q => ?_
      injection q with _ q
      injection q with _ q
      cases q
    | false =>
      rw [eff_no ne (by rw [hs, hi]; rfl)]
      rfl
  | false =>
    rw [goD_tup hs, eqv_dD]
    by_cases e : a' = "ask"
    · subst e
      rw [eff_ask, eqv_dD]
    · rw [eff_no e (by rw [hs]; rfl), decide_eq_false fun q => e (by injection q)]
      rfl
theorem any_eq {α : Type} {f g : α → PyData} {x y : PyData} {l : List α} (h : ∀ e ∈ l, PyData.eqv (f e) x = PyData.eqv (g e) y) : ((l.map f).any fun z => PyData.eqv z x) = ((l.map g).any fun z => PyData.eqv z y) := by
  induction l with
  | nil => rfl
  | cons e l ih =>
    rw [List.map_cons, List.map_cons, List.any_cons, List.any_cons, h e (.head _), ih fun z hz => h z (.tail _ hz)]
theorem tw_eq {an : List Fl} {ahead : List (List Str)} {d : List Str} (hd : 3 ≤ d.length) (ha : ∀ e ∈ ahead, 3 ≤ e.length) :
    (!isNo (effD an d) && (ahead.map (effD an)).any fun z => PyData.eqv z (effD an d)) = (((ahead.map goD).any fun z => PyData.eqv z (goD d)) && goOk an d) := by
  obtain ⟨a, b, c, r, rfl⟩ := cut3 hd
  cases hs : setw a with
  | true =>
    have ok : goOk an (a :: b :: c :: r) = inN an b := if_pos hs
    have ne : a ≠ "ask" := fun e => by rw [e, setw_ask] at hs; cases hs
    cases hi : inN an b with
    | true =>
      rw [ok, hi, goD_set hs, eff_set hs hi, Bool.and_true]
      show (true && _) = _
      rw [Bool.true_and]
      exact any_eq fun e he => set_eq hi (ha e he)
    | false =>
      rw [ok, hi, eff_no ne (by rw [hs, hi]; rfl), Bool.and_false]
      rfl
  | false =>
    have ok : goOk an (a :: b :: c :: r) = decide (a = "ask") := if_neg (by rw [hs]; exact Bool.false_ne_true)
    by_cases e : a = "ask"
    · subst e
      rw [ok, decide_eq_true rfl, goD_tup hs, eff_ask, Bool.and_true]
      show (true && _) = _
      rw [Bool.true_and]
      exact any_eq fun e he => ask_eq (ha e he)
    · rw [ok, decide_eq_false e, eff_no e (by rw [hs]; rfl), Bool.and_false]
      rfl
def twL (an : List Fl) (c : Cw) : Nat → List (List Key)
  | 0 => []
  | j + 1 => twL an c j ++ (match c.ds[j]? with
    | some d => if ((((c.ds.take j).map goD).any fun z => PyData.eqv z (goD d)) && goOk an d) = true then [kAt "twice" c.nam j] else []
    | none => [])
def unK (an : List Fl) (c : Cw) (f : Fl) : Bool := f.must && !((c.ds.map goD).any fun z => PyData.eqv z (.str f.nam))
def unL (an : List Fl) (c : Cw) : List (List Key) := (an.filter (unK an c)).map fun f => kUns c.nam f.nam
def dueT (recs : List Rec) (cws : List Cw) : List (List Key) := cws.flatMap fun c => if goneB recs c = true then [] else twL (flO recs c.ans) c c.ds.length ++ unL (flO recs c.ans) c
theorem inN_self {an : List Fl} {f : Fl} (h : f ∈ an) : inN an f.nam = true := by
  unfold inN
  rw [List.find?_isSome]
  exact ⟨f, h, decide_eq_true rfl⟩
theorem un_eq {an : List Fl} {c : Cw} (h : ∀ d ∈ c.ds, 3 ≤ d.length) : unL an c = unsL c an := by
  unfold unL unsL unsF
  rw [List.filter_filter]
  congr 1
  refine List.filter_congr fun f hf => ?_
  unfold unK unsB
  rw [Bool.and_comm]
  congr 1
  congr 1
  exact (any_eq fun e he => set_eq (inN_self hf) (h e he)).symm
theorem tw_iff {an : List Fl} {c : Cw} {x : List Key} : ∀ {j : Nat}, x ∈ twL an c j ↔ ∃ i d, i < j ∧ c.ds[i]? = some d ∧ ((((c.ds.take i).map goD).any fun z => PyData.eqv z (goD d)) && goOk an d) = true ∧ x = kAt "twice" c.nam i
  | 0 => by
    constructor
    · intro h; cases h
    · rintro ⟨i, d, h, _⟩; exact absurd h (Nat.not_lt_zero _)
  | j + 1 => by
    show x ∈ twL an c j ++ _ ↔ _
    rw [List.mem_append, tw_iff]
    constructor
    · rintro (⟨i, d, h1, h2⟩ | h)
      · exact ⟨i, d, Nat.lt_succ_of_lt h1, h2⟩
      · cases q : c.ds[j]? with
        | none => rw [q] at h; cases h
        | some d =>
          rw [q] at h
          dsimp only at h
          split at h
          · rename_i e
            exact ⟨j, d, Nat.lt_succ_self _, q, e, List.mem_singleton.mp h⟩
          · cases h
    · rintro ⟨i, d, h1, h2, h3, h4⟩
      by_cases e : i = j
      · subst e
        right
        rw [h2]
        dsimp only
        rw [if_pos h3]
        exact List.mem_singleton.mpr h4
      · exact .inl ⟨i, d, by omega, h2, h3, h4⟩
theorem twL_len {an : List Fl} {c : Cw} : ∀ {j : Nat}, (twL an c j).length ≤ j
  | 0 => Nat.le_refl _
  | j + 1 => by
    show (twL an c j ++ _).length ≤ j + 1
    rw [List.length_append]
    have := twL_len (an := an) (c := c) (j := j)
    have h2 : (match c.ds[j]? with
      | some d => if ((((c.ds.take j).map goD).any fun z => PyData.eqv z (goD d)) && goOk an d) = true then [kAt "twice" c.nam j] else []
      | none => []).length ≤ 1 := by
      cases c.ds[j]? with
      | none => exact Nat.zero_le _
      | some d =>
        dsimp only
        split
        · exact Nat.le_refl _
        · exact Nat.zero_le _
    omega
theorem twL_nd {an : List Fl} {c : Cw} : ∀ {j : Nat}, (twL an c j).Nodup
  | 0 => List.nodup_nil
  | j + 1 => by
    show (twL an c j ++ _).Nodup
    rw [List.nodup_append]
    refine ⟨twL_nd, ?_, fun x hx y hy e => ?_⟩
    · cases c.ds[j]? with
      | none => exact List.nodup_nil
      | some d =>
        dsimp only
        split
        · exact List.nodup_cons.mpr ⟨List.not_mem_nil, List.nodup_nil⟩
        · exact List.nodup_nil
    · subst e
      obtain ⟨i, d, h1, _, _, e1⟩ := tw_iff.mp hx
      cases q : c.ds[j]? with
      | none => rw [q] at hy; cases hy
      | some d =>
        rw [q] at hy
        dsimp only at hy
        split at hy
        · have := List.mem_singleton.mp hy
          rw [e1] at this
          unfold kAt at this
          simp only [List.cons.injEq, Sum.inl.injEq, and_true, true_and] at this
          omega
        · cases hy
theorem unL_mem {an : List Fl} {c : Cw} {x : List Key} (h : x ∈ unL an c) : ∃ f ∈ an, x = kUns c.nam f.nam := by
  obtain ⟨f, hf, rfl⟩ := List.mem_map.mp h
  exact ⟨f, (List.mem_filter.mp hf).1, rfl⟩
theorem unL_nd {an : List Fl} {c : Cw} (nd : (an.map Fl.nam).Nodup) : (unL an c).Nodup := by
  have : unL an c = ((an.filter (unK an c)).map Fl.nam).map fun z => kUns c.nam z := by
    rw [List.map_map]
    rfl
  rw [this]
  refine List.Pairwise.map _ (fun a b h e => h ?_) (List.Nodup.sublist (List.Sublist.map _ List.filter_sublist) nd)
  unfold kUns at e
  simp only [List.cons.injEq, Sum.inr.injEq, and_true, true_and] at e
  exact e
theorem dueT_nd {recs : List Rec} (hr : RecsW recs) : ∀ {cws : List Cw}, (cws.map Cw.nam).Nodup → (dueT recs cws).Nodup
  | [], _ => List.nodup_nil
  | c :: cws, nd => by
    rw [List.map_cons, List.nodup_cons] at nd
    show ((if goneB recs c = true then [] else twL (flO recs c.ans) c c.ds.length ++ unL (flO recs c.ans) c) ++ dueT recs cws).Nodup
    have key : ∀ (c : Cw) x, x ∈ (if goneB recs c = true then [] else twL (flO recs c.ans) c c.ds.length ++ unL (flO recs c.ans) c) → sdK x = c.nam := fun c x hx => by
      split at hx
      · cases hx
      · rcases List.mem_append.mp hx with h | h
        · obtain ⟨i, d, _, _, _, rfl⟩ := tw_iff.mp h
          rfl
        · obtain ⟨f, _, rfl⟩ := unL_mem h
          rfl
    rw [List.nodup_append]
    refine ⟨?_, dueT_nd hr nd.2, fun x hx y hy e => ?_⟩
    · split
      · exact List.nodup_nil
      · rw [List.nodup_append]
        refine ⟨twL_nd, unL_nd (hr.at _).nd, fun x hx y hy e => ?_⟩
        subst e
        obtain ⟨i, d, _, _, _, rfl⟩ := tw_iff.mp hx
        obtain ⟨f, _, e⟩ := unL_mem hy
        unfold kAt kUns at e
        simp only [List.cons.injEq, Sum.inr.injEq] at e
        exact absurd e.1 (by decide +kernel)
    · subst e
      obtain ⟨c2, hc2, h2⟩ := List.mem_flatMap.mp hy
      have e1 := key c x hx
      have e2 := key c2 x h2
      exact nd.1 (by rw [← e1, e2]; exact List.mem_map.mpr ⟨c2, hc2, rfl⟩)
theorem dueT_iff {own : Str} {cs : List Cho} {recs : List Rec} {cws : List Cw} (h3 : ∀ c ∈ cws, ∀ d ∈ c.ds, 3 ≤ d.length) {x : List Key} : (x ∈ wroL own (csP cs) recs cws ∧ (hdK x = "twice" ∨ hdK x = "unset")) ↔ x ∈ dueT recs cws := by
  constructor
  · rintro ⟨h, e⟩
    rcases List.mem_append.mp h with h | h
    · rcases List.mem_append.mp h with h | h
      · rw [nob_hd x h] at e; exact absurd e (by decide +kernel)
      · rw [end_hd x h] at e; exact absurd e (by decide +kernel)
    · obtain ⟨c, hc, h⟩ := List.mem_flatMap.mp h
      refine List.mem_flatMap.mpr ⟨c, hc, ?_⟩
      unfold wroC at h
      split at h
      · rename_i h0
        rw [if_neg (by rw [gone_iff.mpr (List.isEmpty_iff.mp h0)]; exact Bool.false_ne_true)]
        rcases List.mem_append.mp h with g | g
        · obtain ⟨i, d, h1, h2, h3'⟩ := wde_iff.mp g
          refine List.mem_append_left _ (tw_iff.mpr ⟨i, d, h1, h2, ?_⟩)
          rcases List.mem_append.mp h3' with g | g
          · split at g
            · cases g
            · rw [List.mem_singleton.mp g] at e
              exact absurd (show ("deed" : Str) = "twice" ∨ ("deed" : Str) = "unset" from e) (by decide +kernel)
          · split at g
            · rename_i ht
              rw [tw_eq (h3 c hc d (List.mem_of_getElem? h2)) fun e he => h3 c hc e (List.mem_of_mem_take he)] at ht
              exact ⟨ht, List.mem_singleton.mp g⟩
            · cases g
        · exact List.mem_append_right _ (by rw [un_eq (h3 c hc)]; exact g)
      · rw [(sto_hd x h).1] at e; exact absurd e (by decide +kernel)
  · intro h
    obtain ⟨c, hc, h⟩ := List.mem_flatMap.mp h
    split at h
    · cases h
    · rename_i hg
      have into : ∀ y, y ∈ wdeR own c (flO recs c.ask) (flO recs c.ans) c.ds.length ++ unsL c (flO recs c.ans) → y ∈ wroL own (csP cs) recs cws := fun y hy => by
        refine List.mem_append_right _ (List.mem_flatMap.mpr ⟨c, hc, ?_⟩)
        unfold wroC
        rw [if_pos (by rw [gone_iff.mp (Bool.eq_false_iff.mpr hg)]; rfl)]
        exact hy
      rcases List.mem_append.mp h with g | g
      · obtain ⟨i, d, h1, h2, ht, rfl⟩ := tw_iff.mp g
        refine ⟨into _ (List.mem_append_left _ (wde_iff.mpr ⟨i, d, h1, h2, ?_⟩)), .inl rfl⟩
        unfold wde1
        rw [tw_eq (h3 c hc d (List.mem_of_getElem? h2)) fun e he => h3 c hc e (List.mem_of_mem_take he), if_pos ht]
        exact List.mem_append_right _ (List.mem_singleton.mpr rfl)
      · rw [un_eq (h3 c hc)] at g
        exact ⟨into _ (List.mem_append_right _ g), .inr (uns_hd x g).1⟩
theorem dueT_wrk {recs : List Rec} {cws : List Cw} : ∀ x ∈ dueT recs cws, WrK x := fun x hx => by
  obtain ⟨c, hc, hx⟩ := List.mem_flatMap.mp hx
  split at hx
  · cases hx
  · rcases List.mem_append.mp hx with h | h
    · obtain ⟨i, d, _, _, _, rfl⟩ := tw_iff.mp h
      exact ⟨_, _, _, rfl, .inr (.inr ⟨.inr rfl, _, rfl⟩)⟩
    · obtain ⟨f, _, rfl⟩ := unL_mem h
      exact ⟨_, _, _, rfl, .inl ⟨.inr rfl, _, rfl⟩⟩
end Fh

set_option Elab.async false
set_option linter.all false
set_option maxRecDepth 100000
set_option maxHeartbeats 4000000
namespace Fh
open PySem L2 PyProof.Rows
/-! ### with a served face nothing is wrong -/
theorem kb_refl (k : Kb) : PyData.eqv k.d k.d = true := by
  have two : ∀ (w x : Str), PyData.eqv (.tuple [.str w, .str x]) (.tuple [.str w, .str x]) = true := fun w x => by
    show ((w == w) && ((x == x) && true)) = true
    rw [beq_self_eq_true, beq_self_eq_true]
    rfl
  cases k with
  | whole => rfl
  | truth => rfl
  | text => rfl
  | rc z => exact two _ _
  | ch z => exact two _ _
theorem kd_refl (k : Kn) : PyData.eqv k.d k.d = true := by
  cases k with
  | one b => exact kb_refl b
  | lst b =>
    show ((("list" : Str) == "list") && (PyData.eqv b.d b.d && true)) = true
    rw [kb_refl b]
    rfl
theorem dd_eff {an : List Fl} {d : Dd9} (h : ∀ f, d.sets = some f → inN an f = true) : effD an d.ps = match d.sets with | some f => dD ["set", f] | none => .none := by
  cases d with
  | take => exact eff_no (by decide) (by rw [show setw "take" = false by decide +kernel]; rfl)
  | add => exact eff_no (by decide) (by rw [show setw "add" = false by decide +kernel]; rfl)
  | tell f => exact eff_set (by decide +kernel) (h f rfl)
  | copy f g => exact eff_set (by decide +kernel) (h f rfl)
theorem fm_once {ds : List Dd9} (nd : (ds.filterMap Dd9.sets).Nodup) {i j : Nat} {d e : Dd9} {f : Str} (hij : i < j) (hi : ds[i]? = some e) (hj : ds[j]? = some d) (h1 : e.sets = some f) (h2 : d.sets = some f) : False := by
  rw [← List.take_append_drop j ds, List.filterMap_append, List.nodup_append] at nd
  refine nd.2.2 f (List.mem_filterMap.mpr ⟨e, ?_, h1⟩) f (List.mem_filterMap.mpr ⟨d, ?_, h2⟩) rfl
  · exact List.mem_of_getElem? (i := i) (by rw [List.getElem?_take, if_pos hij]; exact hi)
  · exact List.mem_of_getElem? (i := 0) (by rw [List.getElem?_drop]; exact hj)
theorem inN_of {fl : List Fl} {f : Fl} (h : f ∈ fl) (nd : (fl.map Fl.nam).Nodup) : inN fl f.nam = true := by
  unfold inN
  rw [find_self nd h]
  rfl
structure CalOk (cs : List Cho) (c : Cw) (fl tl : List Fl) (ds : List Dd9) : Prop where
  eq : c.ds = ds.map Dd9.ps
  cd : CdOk fl ds (tl.map Fl.gd)
  ak : AskOk9 cs fl
  nd : (tl.map Fl.nam).Nodup
section
variable {cs : List Cho} {c : Cw} {fl tl : List Fl} {ds : List Dd9}
theorem CalOk.sets (h : CalOk cs c fl tl ds) : ds.filterMap Dd9.sets = tl.map Fl.nam := by
  rw [h.cd.set, List.map_map]
  rfl
theorem CalOk.inN (h : CalOk cs c fl tl ds) {d : Dd9} (hd : d ∈ ds) {f : Str} (e : d.sets = some f) : inN tl f = true := by
  have m : f ∈ ds.filterMap Dd9.sets := List.mem_filterMap.mpr ⟨d, hd, e⟩
  rw [h.sets] at m
  obtain ⟨x, hx, rfl⟩ := List.mem_map.mp m
  exact inN_of hx h.nd
theorem CalOk.eff (h : CalOk cs c fl tl ds) {d : Dd9} (hd : d ∈ ds) : effD tl d.ps = match d.sets with | some f => dD ["set", f] | none => .none := dd_eff fun f e => h.inN hd e
theorem CalOk.who (h : CalOk cs c fl tl ds) : eqG fl "who" "text" = true := by
  refine tx_eqG h.ak.nd ?_
  obtain ⟨f, hf, e⟩ := List.mem_map.mp h.ak.who
  refine List.mem_map.mpr ⟨f, List.mem_filter.mpr ⟨hf, ?_⟩, e⟩
  unfold musT
  rw [(h.ak.kw f hf e).1, (h.ak.kw f hf e).2]
  rfl
theorem CalOk.sum (h : CalOk cs c fl tl ds) : eqG fl "sum" "whole" = true := by
  refine tx_eqG h.ak.nd ?_
  obtain ⟨f, hf, e⟩ := List.mem_map.mp h.ak.sum
  refine List.mem_map.mpr ⟨f, List.mem_filter.mpr ⟨hf, ?_⟩, e⟩
  unfold musT
  rw [(h.ak.ks f hf e).1, (h.ak.ks f hf e).2]
  rfl
theorem CalOk.ast (h : CalOk cs c fl tl ds) (nm : Str) {d : Dd9} (hd : d ∈ ds) (ahead : List (List Str)) : astB nm fl tl d.ps ahead = true := by
  have no : (false = true → inV (.str "ask") (ahead.map fun e => V.str (e.headD "")) = true) := fun e => by cases e
  cases d with
  | take => exact gd_take (asked := false) (.inl rfl) h.who h.sum ahead no
  | add => exact gd_take (asked := false) (.inr rfl) h.who h.sum ahead no
  | tell f =>
    obtain ⟨g, hg, e1, e2⟩ := h.cd.ok _ hd
    obtain ⟨x, hx, rfl⟩ := List.mem_map.mp hg
    have e3 : x.nam = f := e1
    have e4 : x.kd = .one .whole := e2
    rw [← e3]
    exact gd_tell (asked := false) h.nd hx (by rw [e4]; rfl) h.who ahead no
  | copy f z =>
    obtain ⟨g, hg, e1, s, hs, e5, e2, e6⟩ := h.cd.ok _ hd
    obtain ⟨x, hx, rfl⟩ := List.mem_map.mp hg
    have e3 : x.nam = f := e1
    have e4 : x.kd = s.kd := e2
    have e7 : s.must = true ∨ x.must = false := e6
    rw [← e3, ← e5]
    show astB nm fl tl ("copy" :: x.nam :: s.nam :: []) ahead = true
    rw [ast_cons, not_ta (by decide +kernel), if_neg Bool.false_ne_true, if_neg (by decide), if_pos rfl, find_self h.nd hx, find_self h.ak.nd hs]
    show (PyData.eqv x.kd.d s.kd.d && (s.must || !x.must)) = true
    rw [e4, kd_refl]
    rcases e7 with e | e <;> rw [e] <;> simp
theorem CalOk.wde (h : CalOk cs c fl tl ds) (nm : Str) : ∀ j, wdeR nm c fl tl j = []
  | 0 => rfl
  | j + 1 => by
    show wdeR nm c fl tl j ++ _ = []
    rw [CalOk.wde h nm j, List.nil_append]
    cases e : c.ds[j]? with
    | none => rfl
    | some d =>
      rw [h.eq, List.getElem?_map] at e
      obtain ⟨d1, hd1, rfl⟩ := Option.map_eq_some_iff.mp e
      have md := List.mem_of_getElem? hd1
      show wde1 nm c fl tl j d1.ps = []
      unfold wde1
      rw [if_pos (h.ast nm md _), if_neg, List.nil_append]
      intro tw
      rw [h.eff md] at tw
      cases es : d1.sets with
      | none =>
        rw [es] at tw
        cases tw
      | some f =>
        rw [es] at tw
        rw [Bool.and_eq_true, List.any_eq_true] at tw
        obtain ⟨_, z, hz, ez⟩ := tw
        obtain ⟨e0, he0, rfl⟩ := List.mem_map.mp hz
        obtain ⟨i, hi⟩ := List.mem_iff_getElem?.mp he0
        rw [List.getElem?_take] at hi
        split at hi
        case isFalse => cases hi
        case isTrue hij =>
          rw [h.eq, List.getElem?_map] at hi
          obtain ⟨e1, he1, rfl⟩ := Option.map_eq_some_iff.mp hi
          rw [h.eff (List.mem_of_getElem? he1)] at ez
          cases es1 : e1.sets with
          | none => rw [es1] at ez; cases ez
          | some f1 =>
            rw [es1] at ez
            have ez2 : PyData.eqv (dD [("set" : Str), f1]) (dD [("set" : Str), f]) = true := ez
            rw [eqv_dD] at ez2
            have ef2 : f1 = f := (List.cons.inj (List.cons.inj (of_decide_eq_true ez2)).2).1
            exact fm_once (by rw [h.sets]; exact h.nd) hij he1 hd1 (by rw [es1, ef2]) es
theorem CalOk.uns (h : CalOk cs c fl tl ds) : unsL c tl = [] := by
  unfold unsL unsF
  rw [List.map_eq_nil_iff, List.filter_eq_nil_iff]
  intro f hf
  have hf1 := (List.mem_filter.mp hf).1
  have m : f.nam ∈ ds.filterMap Dd9.sets := by rw [h.sets]; exact List.mem_map.mpr ⟨f, hf1, rfl⟩
  obtain ⟨d, hd, es⟩ := List.mem_filterMap.mp m
  unfold unsB
  have a : ((c.ds.map (effD tl)).any fun z => PyData.eqv z (.tuple [.str "set", .str f.nam])) = true := by
    rw [List.any_eq_true]
    refine ⟨effD tl d.ps, List.mem_map.mpr ⟨d.ps, by rw [h.eq]; exact List.mem_map.mpr ⟨d, hd, rfl⟩, rfl⟩, ?_⟩
    rw [h.eff hd, es]
    show PyData.eqv (dD ["set", f.nam]) (dD ["set", f.nam]) = true
    rw [eqv_dD, decide_eq_true rfl]
  rw [a]
  decide
end
theorem flO_at : ∀ {recs : List Rec} {z : Str} {fl : List Fl}, (recs.map (·.1)).Nodup → (z, fl) ∈ recs → flO recs z = fl
  | [], _, _, _, h => by cases h
  | r :: recs, z, fl, nd, h => by
    rw [List.map_cons, List.nodup_cons] at nd
    unfold flO
    rw [List.find?_cons]
    rcases List.mem_cons.mp h with e | h2
    · rw [← e, decide_eq_true rfl]
    · rw [decide_eq_false fun e => nd.1 (by rw [e]; exact List.mem_map.mpr ⟨_, h2, rfl⟩)]
      exact flO_at nd.2 h2
theorem nob_no {cs : List Cho} {rs : List (Str × PyData)} {k : Kn} (h : GK9 (okN cs) k) : nobK (csP cs) rs k = false := by
  have go : ∀ b : Kb, Gb9 (okN cs) b → nobB (csP cs) rs b = false := fun b hb => by
    cases b with
    | rc y => exact hb.elim
    | ch y =>
      show (!nameIn y (csP cs)) = false
      unfold nameIn
      rw [decide_eq_true (show y ∈ (csP cs).map (·.1) from hb)]
      rfl
    | whole => rfl
    | truth => rfl
    | text => rfl
  cases k with
  | one b => exact go b h
  | lst b => exact go b h
theorem ksz_one {cs : List Cho} {rs : List (Str × PyData)} {D : Szs} {k : Kn} (h : GK9 (okN cs) k) : ∃ v, kSz (csP cs) rs D k = some v ∧ 0 ≤ v ∧ v ≤ 1 := by
  unfold kSz
  rw [if_neg (by rw [nob_no h]; exact Bool.false_ne_true)]
  cases k with
  | lst b => exact ⟨1, rfl, by decide, by decide⟩
  | one b => cases b with
    | rc y => exact h.elim
    | ch y => exact ⟨1, rfl, by decide, by decide⟩
    | whole => exact ⟨0, rfl, by decide, by decide⟩
    | truth => exact ⟨0, rfl, by decide, by decide⟩
    | text => exact ⟨0, rfl, by decide, by decide⟩
theorem sum_le4 : ∀ {l : List Int}, (∀ x ∈ l, x ≤ 4) → l.sum ≤ 4 * (l.length : Int)
  | [], _ => by simp
  | x :: l, h => by
    rw [List.sum_cons, List.length_cons]
    have h1 := h x List.mem_cons_self
    have h2 := sum_le4 (l := l) fun y hy => h y (List.mem_cons_of_mem _ hy)
    omega
def Few60 (o : Option Int) : Prop := ∃ v, o = some v ∧ v ≤ 60
theorem rec_few {cs : List Cho} {rs : List (Str × PyData)} {D : Szs} {fl : List Fl} (l5 : fl.length ≤ 5) (h : ∀ f ∈ fl, GK9 (okN cs) f.kd) : Few60 (recSz (csP cs) rs D fl) := by
  have each : ∀ o ∈ (mustKs fl).map (kSz (csP cs) rs D), ∃ v, o = some v ∧ 0 ≤ v ∧ v ≤ 1 := fun o ho => by
    obtain ⟨k, hk, rfl⟩ := List.mem_map.mp ho
    unfold mustKs at hk
    obtain ⟨f, hf, rfl⟩ := List.mem_map.mp hk
    exact ksz_one (h f (List.mem_filter.mp hf).1)
  unfold recSz total
  rw [if_neg fun m => by obtain ⟨v, e, _⟩ := each _ m; cases e]
  refine ⟨_, rfl, ?_⟩
  have s := sum_le4 (l := ((mustKs fl).map (kSz (csP cs) rs D)).map fun o => fsz (o.getD 0)) fun x hx => by
    obtain ⟨o, ho, rfl⟩ := List.mem_map.mp hx
    obtain ⟨v, rfl, v0, v1⟩ := each o ho
    show 2 + (toldN v + v) ≤ 4
    unfold toldN
    rw [if_pos (by omega)]
    omega
  have l := mustKs_len fl
  rw [List.length_map, List.length_map] at s
  omega
theorem turn_few {cs : List Cho} {rs : List (Str × PyData)} : ∀ {l : List Rec} {D : Szs} {z : Str}, (∀ r ∈ l, r.2.length ≤ 5 ∧ ∀ f ∈ r.2, GK9 (okN cs) f.kd) → (z ∈ l.map (·.1) ∨ Few60 (D z)) → Few60 ((l.foldl (step (csP cs) rs) D) z)
  | [], _, _, _, h => by
    rcases h with h | h
    · cases h
    · exact h
  | r :: l, D, z, hr, h => by
    rw [List.foldl_cons]
    refine turn_few (fun q hq => hr q (List.mem_cons_of_mem _ hq)) ?_
    obtain ⟨v, ev, v60⟩ := rec_few (rs := rs) (D := D) (hr r List.mem_cons_self).1 (hr r List.mem_cons_self).2
    have es : step (csP cs) rs D r = fun y => if y = r.1 then some v else D y := by
      unfold step
      rw [ev]
      rfl
    by_cases e : z = r.1
    · exact .inr ⟨v, by rw [es]; exact if_pos e, v60⟩
    · rcases h with h | h
      · rw [List.map_cons, List.mem_cons] at h
        exact .inl (h.resolve_left e)
      · refine .inr ?_
        rw [es]
        show Few60 (if z = r.1 then some v else D z)
        rw [if_neg e]
        exact h
theorem wro_none {nm : Str} {ed : Int} {cs : List Cho} {recs : List Rec} {cws : List Cw} (W : PtW nm ed cs recs cws) (h : SrvOk9 cs recs cws) : wroL nm (csP cs) recs cws = [] := by
  unfold wroL
  have e1 : nobL (csP cs) recs = [] := by
    unfold nobL
    rw [List.flatMap_eq_nil_iff]
    intro r hr
    rw [List.map_eq_nil_iff, List.filter_eq_nil_iff]
    intro f hf
    rw [nob_no ((h.rc r hr).2 f hf)]
    exact Bool.false_ne_true
  have e2 : endL (turns (csP cs) (recs.map rD) recs recs.length) recs = [] := by
    unfold endL
    rw [List.map_eq_nil_iff, List.filter_eq_nil_iff]
    intro r hr
    obtain ⟨n, en⟩ : ∃ n, recs.length = n + 1 := ⟨recs.length - 1, by have := List.length_pos_of_mem hr; omega⟩
    rw [en]
    obtain ⟨v, ev, v60⟩ := turn_few (cs := cs) (rs := recs.map rD) (l := recs) (D := turns (csP cs) (recs.map rD) recs n) (z := r.1) (fun q hq => ⟨(h.rc q hq).1.l5, (h.rc q hq).2⟩) (.inl (List.mem_map.mpr ⟨r, hr, rfl⟩))
    have e : turns (csP cs) (recs.map rD) recs (n + 1) r.1 = some v := ev
    rw [e]
    show ¬ decide (60 < v) = true
    rw [decide_eq_false (by omega)]
    exact Bool.false_ne_true
  have e3 : cws.flatMap (wroC nm recs) = [] := by
    rw [List.flatMap_eq_nil_iff]
    intro c hc
    obtain ⟨wc, fl, tl, ds, m1, m2, ed', cd, ak, _⟩ := h.ok c hc
    have n1 : c.ask ∈ recs.map (·.1) := List.mem_map.mpr ⟨_, m1, rfl⟩
    have n2 : c.ans ∈ recs.map (·.1) := List.mem_map.mpr ⟨_, m2, rfl⟩
    have es : stoL recs c [c.ask, c.ans] = [] := by
      unfold stoL
      rw [List.map_eq_nil_iff, List.filter_eq_nil_iff]
      intro z hz
      have : z = c.ask ∨ z = c.ans := by simpa using hz
      rcases this with rfl | rfl
      · rw [decide_eq_true n1]
        decide
      · rw [decide_eq_true n2]
        decide
    have K : CalOk cs c fl tl ds := ⟨ed', cd, ak, (h.rc _ m2).1.nd⟩
    unfold wroC
    rw [es, if_pos (show ([] : List (List Key)).isEmpty = true from rfl), flO_at W.rc.nd m1, flO_at W.rc.nd m2, K.wde nm, K.uns]
    rfl
  rw [e1, e2, e3]
  rfl
end Fh

set_option Elab.async false
set_option linter.all false
set_option maxRecDepth 100000
set_option maxHeartbeats 4000000
namespace Fh
open PySem L2 PyProof.Rows
/-! ### one thing spoilt -/
abbrev DdsW (ds : List (List Str)) : Prop := ds.length ≤ 6 ∧ ∀ d ∈ ds, DdW d
theorem nmNow : Nm "nowhere" := nm_lit (by decide +kernel)
theorem cut_sub {α : Type} (l : List α) (i : Nat) : (l.take i ++ l.drop (i + 1)).Sublist l := by
  rw [← List.eraseIdx_eq_take_drop_succ]
  exact List.eraseIdx_sublist l i
theorem dds_sub {ds ds' : List (List Str)} (h : DdsW ds) (s : ds'.Sublist ds) : DdsW ds' := ⟨Nat.le_trans s.length_le h.1, fun d hd => h.2 d (s.subset hd)⟩
theorem dds_ins {ds : List (List Str)} {i : Nat} {d : List Str} (h : DdsW ds) (hl : ds.length < 6) (hd : DdW d) : DdsW (ds.take i ++ [d] ++ ds.drop i) := by
  refine ⟨?_, fun e he => ?_⟩
  · rw [List.length_append, List.length_append, List.length_take, List.length_drop]
    show _ + 1 + _ ≤ 6
    omega
  · rcases List.mem_append.mp he with g | g
    · rcases List.mem_append.mp g with g | g
      · exact h.2 e (List.mem_of_mem_take g)
      · rw [List.mem_singleton.mp g]; exact hd
    · exact h.2 e (List.mem_of_mem_drop g)
theorem dds_set {ds : List (List Str)} {i : Nat} {d : List Str} (h : DdsW ds) (hd : DdW d) : DdsW (ds.set i d) := ⟨by rw [List.length_set]; exact h.1, fun e he => (List.mem_or_eq_of_mem_set he).elim (h.2 e) fun q => q ▸ hd⟩
theorem nmStr : Nm "strange" := nm_lit (by decide +kernel)
theorem dk_ne {H : Hp} {a b : Addr} {kvs : List (Key × V)} {n : Nat} (h : H a = some (.dK kvs)) (hB : Bag H b n) : a ≠ b := fun e => by
  obtain ⟨x, y, z, hb, _⟩ := hB
  rw [e, hb] at h
  cases h
def rpF (g : Fl) (k : Kn) (bb : Bool) (f : Fl) : Fl := if PyData.eqv f.d g.d = true then ⟨g.num, g.nam, k, bb⟩ else f
theorem fl_shaped {f : Fl} (hk : ∀ z, f.kd.nm = some z → Nm z) (hn : Nm f.nam) : SeqAt.shaped f.d = true := by
  have s1 : Sh 2 f.kd.d := ⟨SeqAt.canLay_of_shaped (kn_shQ hk), kd_dp9 _⟩
  refine (Sh.tup (n := 2) fun d hd => ?_).shaped (by decide)
  have e : d = .int f.num ∨ d = .str f.nam ∨ d = f.kd.d ∨ d = .str (needS f.must) := by simpa using hd
  rcases e with rfl | rfl | rfl | rfl
  · exact ⟨rfl, Nat.zero_le _⟩
  · exact ⟨(nm_shQ hn).1, Nat.zero_le _⟩
  · exact s1
  · cases f.must
    · exact ⟨by decide +kernel, Nat.zero_le _⟩
    · exact ⟨by decide +kernel, Nat.zero_le _⟩
def rpR (one : Str) (f2 : List Fl) (r : Rec) : Rec := if r.1 = one then (r.1, f2) else r
theorem eqv_int9 {a b : Int} (h : PyData.eqv (.int a) (.int b) = true) : a = b := by
  have h' : (a == b) = true := h
  exact beq_iff_eq.mp h'
theorem fl_eqv {f g : Fl} (h : PyData.eqv f.d g.d = true) : f.num = g.num ∧ f.nam = g.nam ∧ PyData.eqv f.kd.d g.kd.d = true ∧ PyData.eqv (.str (needS f.must)) (.str (needS g.must)) = true := by
  have h' : (PyData.eqv (.int f.num) (.int g.num) && (PyData.eqv (.str f.nam) (.str g.nam) && (PyData.eqv f.kd.d g.kd.d && (PyData.eqv (.str (needS f.must)) (.str (needS g.must)) && true)))) = true := h
  rw [Bool.and_eq_true, Bool.and_eq_true, Bool.and_eq_true, Bool.and_true] at h'
  exact ⟨eqv_int9 h'.1, of_decide_eq_true (by rw [← eqv_ss]; exact h'.2.1), h'.2.2.1, h'.2.2.2⟩
theorem rpF_num {g f : Fl} {k : Kn} {bb : Bool} : (rpF g k bb f).num = f.num := by
  unfold rpF
  split
  case isTrue h => exact (fl_eqv h).1.symm
  case isFalse => rfl
theorem rpF_nam {g f : Fl} {k : Kn} {bb : Bool} : (rpF g k bb f).nam = f.nam := by
  unfold rpF
  split
  case isTrue h => exact (fl_eqv h).2.1.symm
  case isFalse => rfl
theorem FlW.rpl {fl : List Fl} (h : FlW fl) {g : Fl} {k : Kn} {bb : Bool} (hk : ∀ z, k.nm = some z → Nm z) : FlW (fl.map (rpF g k bb)) := by
  have e1 : (fl.map (rpF g k bb)).map Fl.nam = fl.map Fl.nam := by
    rw [List.map_map]
    exact List.map_congr_left fun f _ => rpF_nam
  have e2 : (fl.map (rpF g k bb)).map Fl.num = fl.map Fl.num := by
    rw [List.map_map]
    exact List.map_congr_left fun f _ => rpF_num
  refine ⟨by rw [List.length_map]; exact h.l5, by rw [e1]; exact h.nd, fun f hf => ?_, fun f hf => ?_, by rw [e2]; exact h.rise, fun f hf => ?_⟩
  · obtain ⟨x, hx, rfl⟩ := List.mem_map.mp hf
    rw [rpF_nam]
    exact h.nm x hx
  · obtain ⟨x, hx, rfl⟩ := List.mem_map.mp hf
    unfold rpF
    split
    case isTrue => exact hk
    case isFalse => exact h.nk x hx
  · obtain ⟨x, hx, rfl⟩ := List.mem_map.mp hf
    rw [rpF_num]
    exact h.rg x hx
theorem rpR_nam {one : Str} {f2 : List Fl} {r : Rec} : (rpR one f2 r).1 = r.1 := by
  unfold rpR
  split <;> rfl
theorem PtW.rpl {own : Str} {age : Int} {cs : List Cho} {recs : List Rec} {cws : List Cw} (h : PtW own age cs recs cws) {one : Str} {f2 : List Fl} (hf : FlW f2) : PtW own age cs (recs.map (rpR one f2)) cws := by
  have e1 : (recs.map (rpR one f2)).map (·.1) = recs.map (·.1) := by
    rw [List.map_map]
    exact List.map_congr_left fun r _ => rpR_nam
  refine ⟨h.on, h.a1, h.a2, h.co, ⟨by rw [List.length_map]; exact h.rc.l6, by rw [e1]; exact h.rc.nd, fun r hr => ?_, fun r hr => ?_⟩, h.cw, by rw [e1]; exact h.nd⟩
  · obtain ⟨x, hx, rfl⟩ := List.mem_map.mp hr
    rw [rpR_nam]
    exact h.rc.nm x hx
  · obtain ⟨x, hx, rfl⟩ := List.mem_map.mp hr
    unfold rpR
    split
    case isTrue => exact hf
    case isFalse => exact h.rc.fl x hx
theorem sneb9 {a b : Str} (h : a ≠ b) : decide (V.str a = V.str b) = false := decide_eq_false fun e => h (by injection e)
def rTupQ (K : PySem.W.Frag) : List V → Hp → VK → Prop := fun xs H Q => ∃ p ys, xs = [.ref p] ∧ ((SqL K H p ys ∧ ∀ l, H l = none → Q (.ref l) (upd H l (.tup ys))) ∨ (SqT K H p ys ∧ Q (.ref p) H))
theorem call_tupQ {X : Cx} : CallR X (.type "tuple") (rTupQ X.K) := call_tuple_of
def spSpl : Sp := fun vs H Q _ => ∃ (b : Addr) (v : V) (own : Str) (age : Int) (cs : List Cho) (recs : List Rec) (cws : List Cw) (n : Nat), vs = [.ref b, v] ∧ Bag H b n ∧ n + 100 ≤ most ∧ PtF H v own age cs recs cws ∧ PtW own age cs recs cws ∧ SrvOk9 cs recs cws ∧
  ∀ (v' : V) (recs' : List Rec) (cws' : List Cw) (H' : Hp), PtF H' v' own age cs recs' cws' → PtW own age cs recs' cws' → Kp b H H' → Bag H' b (n + 50) → Q v' H'
abbrev sSpl : Stmt := top 52
abbrev nSpl : List Str := ["_law_bag_here", "_law_parts", "_law_own", "_law_age", "_law_opts", "_law_recs", "_law_acts", "_law_way", "_law_spot", "_law_mark", "_law_word", "_law_ask", "_law_back", "_law_deeds", "_law_at", "_law_forms", "_law_one", "_law_field", "_law_kind", "_law_need", "_law_rows", "_law_other", "_law_name", "_law_fields"]
abbrev pSpl : List Str := ["_law_bag_here", "_law_parts"]
section
variable {P : Program} {w : World} {K : PySem.W.Frag} {mg : Str → Option Value} {base : Heap}
theorem scSpl : FnScope nSpl pSpl (defScope sSpl) := ⟨rfl, rfl, rfl, by decide +kernel, rfl, by decide +kernel, by decide +kernel⟩
theorem ok_spl {f : Addr} {fd : FuncData} (F : Fun K "_law_spoilt" "_law_spoilt" sSpl f fd) (G : Glb mg) (DT : Has P w K mg base "_law_take" 1 ["_law_bag_here", "_law_size"] spTake) : FnOk P w K mg base CX0 2 f fd pSpl spSpl := by
  refine F.ok scSpl (fun vs H Q E h => ?_) (fun cdv A outer s H vs Q E hr h => ?_)
  · obtain ⟨b, v, own, age, cs, recs, cws, n, rfl, _⟩ := h
    rfl
  · obtain ⟨b, v, own, age, cs, recs, cws, n, rfl, hB, hn, hv, pw, sv, q⟩ := h
    have hu := hu_of hr
    have hmost : most = 1000000 := rfl
    have hv0 := hv
    obtain ⟨p, v3, v4, v5, rfl, hp, t3, t4, t5⟩ := hv
    have lc6 := pw.co.l6
    have lr6 := pw.rc.l6
    have lw6 := pw.cw.l6
    have done : ∀ (recs' : List Rec) (cws' : List Cw) (u3 u4 u5 : V) (H' : Hp), TpF H' u3 (rowsD (csP cs)) → TpF H' u4 (rowsD (recs'.map rD)) → Tp H' u5 (.tuple (cws'.map Cw.d)) → PtW own age cs recs' cws' → Kp b H H' → Bag H' b (n + 50) →
        [V.str own, .int age, u3, u4, u5].length ≤ sizeLine ∧ ∀ r, H' r = none → Q (.ref r) (upd H' r (.tup [.str own, .int age, u3, u4, u5])) := fun recs' cws' u3 u4 u5 H' g3 g4 g5 pw' K' B' => by
      refine ⟨by show 5 ≤ sizeLine; decide, fun r hr9 => ?_⟩
      have S := Same.new (H := H') (o := .tup [.str own, .int age, u3, u4, u5]) hr9
      exact q _ recs' cws' _ ⟨r, u3, u4, u5, rfl, upd_same, g3.keep (Same.fk S) (Same.tk S), g4.keep (Same.fk S) (Same.tk S), Tp.keep (Same.tk S) _ _ g5⟩ pw' (K'.same S) (B'.same S)
    refine ⟨_, (pss_cons (ps_asg (pv 1) (pg_tup rfl (pgs_cons (pg_name (i := 2) scSpl.nd rfl (Or.inl rfl)) (pgs_cons (pg_name (i := 3) scSpl.nd rfl (Or.inl rfl)) (pgs_cons (pg_name (i := 4) scSpl.nd rfl (Or.inl rfl)) (pgs_cons (pg_name (i := 5) scSpl.nd rfl (Or.inl rfl)) (pgs_cons (pg_name (i := 6) scSpl.nd rfl (Or.inl rfl)) pgs_nil)))))))
      (pss_cons (ps_par (i := 7) (j := 8) rfl scSpl.nd rfl rfl (by decide) rfl rfl (pa_cons (pe_has DT (hr.mono (by omega)) rfl (pa_cons (pv 0) (pa_cons pe_int pa_nil))) (pa_cons (pe_has DT (hr.mono (by omega)) rfl (pa_cons (pv 0) (pa_cons (pe_callB call_len_seq (by rfl) G.len (by decide +kernel) (pa_cons (pv 6) pa_nil)) pa_nil))) pa_nil)) (by rfl))
      (pss_cons (ps_asg (pe_ix ix_tup (pv 6) (pv 8) (fun _ _ => rfl)) (pg_tup rfl (pgs_cons (pg_name (i := 9) scSpl.nd rfl (Or.inl rfl)) (pgs_cons (pg_name (i := 10) scSpl.nd rfl (Or.inl rfl)) (pgs_cons (pg_name (i := 11) scSpl.nd rfl (Or.inl rfl)) (pgs_cons (pg_name (i := 12) scSpl.nd rfl (Or.inl rfl)) (pgs_cons (pg_name (i := 13) scSpl.nd rfl (Or.inl rfl)) pgs_nil)))))))
      (pss_cons (ps_set (i := 14) scSpl.nd rfl (Or.inl rfl) (pe_has DT (hr.mono (by omega)) rfl (pa_cons (pv 0) (pa_cons (pe_callB call_len_seq (by rfl) G.len (by decide +kernel) (pa_cons (pv 13) pa_nil)) pa_nil))))
      (pss_cons (ps_set (i := 15) scSpl.nd rfl (Or.inl rfl) (pe_callTy (cr_dictT rfl) (by rfl) G.dict (by decide +kernel) (pa_cons (pv 5) pa_nil)))
      (C8.pss_cut (ps_if (pt_cmpR op_eq (pv 7) pe_int (nomark _))
      (pss_one (ps_asg (pe_ifExp (pt_cmpR op_eq (pe_has DT (hr.mono (by omega)) rfl (pa_cons (pv 0) (pa_cons pe_int pa_nil))) pe_int (nomark _)) (pe_tup (pa_cons pe_str (pa_cons (pv 12) pa_nil))) (pe_tup (pa_cons (pv 11) (pa_cons pe_str pa_nil)))) (pg_tup rfl (pgs_cons (pg_name (i := 11) scSpl.nd rfl (Or.inl rfl)) (pgs_cons (pg_name (i := 12) scSpl.nd rfl (Or.inl rfl)) pgs_nil)))))
      (pss_one (ps_if (pt_cmpR op_eq (pv 7) pe_int (nomark _))
      (pss_one (ps_set (i := 13) scSpl.nd rfl (Or.inl rfl) (pe_op op_catA (pe_slice sl_tupA (pv 13) po_none (po_some (pv 14))) (pe_slice sl_tupA (pv 13) (po_some (pe_op op_add (pv 14) pe_int)) po_none))))
      (pss_one (ps_if (pt_mid (PW.pt (pw_and (pt_cmpR op_eq (pv 7) pe_int (nomark _)) (pw_and1 (pt_cmpR op_lt (pe_callB call_len_seq (by rfl) G.len (by decide +kernel) (pa_cons (pv 13) pa_nil)) pe_int (nomark _))))))
      (pss_one (ps_set (i := 13) scSpl.nd rfl (Or.inl rfl) (pe_op op_catA (pe_op op_catA (pe_slice sl_tupA (pv 13) po_none (po_some (pv 14))) (pe_tup (pa_cons (pe_ix ix_tup (pv 13) (pv 14) (fun _ _ => rfl)) pa_nil))) (pe_slice sl_tupA (pv 13) (po_some (pv 14)) po_none))))
      (pss_one (ps_if (pt_cmpR op_eq (pv 7) pe_int (nomark _))
      (pss_one (ps_set (i := 13) scSpl.nd rfl (Or.inl rfl) (pe_op op_catA (pe_op op_catA (pe_slice sl_tupA (pv 13) po_none (po_some (pv 14))) (pe_tup (pa_cons (pe_op op_catA (pe_tup (pa_cons (pe_ix ix_tup (pe_ix ix_tup (pv 13) (pv 14) (fun _ _ => rfl)) pe_int (fun _ _ => rfl)) (pa_cons pe_str pa_nil))) (pe_slice sl_tupA (pe_ix ix_tup (pv 13) (pv 14) (fun _ _ => rfl)) (po_some pe_int) po_none)) pa_nil))) (pe_slice sl_tupA (pv 13) (po_some (pe_op op_add (pv 14) pe_int)) po_none))))
      (pss_one (ps_if (pt_cmpR op_eq (pv 7) pe_int (nomark _))
      (pss_one (ps_set (i := 13) scSpl.nd rfl (Or.inl rfl) (pe_op op_catA (pe_tup (pa_cons (pe_tup (pa_cons pe_str (pa_cons (pv 2) (pa_cons pe_str pa_nil)))) pa_nil)) (pe_slice sl_tupA (pv 13) po_none (po_some pe_int)))))
      (pss_cons (ps_set (i := 16) scSpl.nd rfl (Or.inr rfl) (pe_mid (pe_ix ix_list (pe_lst (pa_cons (pv 11) (pa_cons (pv 12) pa_nil))) (pe_has DT (hr.mono (by omega)) rfl (pa_cons (pv 0) (pa_cons pe_int pa_nil))) (fun _ _ => rfl))))
      (pss_cons (ps_set (i := 17) scSpl.nd rfl (Or.inr rfl) (pe_ix ix_tup (pe_dget hu (pv 15) (pv 16) (fun _ _ => rfl)) (pe_has DT (hr.mono (by omega)) rfl (pa_cons (pv 0) (pa_cons (pe_callB call_len_seq (by rfl) G.len (by decide +kernel) (pa_cons (pe_dget hu (pv 15) (pv 16) (fun _ _ => rfl)) pa_nil)) pa_nil))) (fun _ _ => rfl)))
      (pss_cons (ps_set (i := 18) scSpl.nd rfl (Or.inr rfl) (pe_mid (pe_ix ix_list (pe_lst (pa_cons (pe_ix ix_tup (pv 17) pe_int (fun _ _ => rfl)) (pa_cons (pe_tup (pa_cons pe_str (pa_cons pe_str pa_nil))) (pa_cons (pe_tup (pa_cons pe_str (pa_cons (pv 16) pa_nil))) (pa_cons (pe_tup (pa_cons pe_str (pa_cons pe_str pa_nil))) pa_nil))))) (pe_op op_sub (pv 7) pe_int) (fun _ _ => rfl))))
      (pss_cons (ps_set (i := 19) scSpl.nd rfl (Or.inr rfl) (pe_mid (pe_ifExp (pt_cmpR op_eq (pv 7) pe_int (nomark _)) (pe_ix ix_list (pe_lst (pa_cons pe_str (pa_cons pe_str pa_nil))) (pe_callTy call_int1 (by rfl) G.int (by decide +kernel) (pa_cons (pe_cmpR op_eq (pe_ix ix_tup (pv 17) pe_int (fun _ _ => rfl)) pe_str (nomark _)) pa_nil)) (fun _ _ => rfl)) pe_str)))
      (pss_cons (ps_set (i := 20) scSpl.nd rfl (Or.inr rfl) (pe_lc (own := [("_law_other", 21)]) (g := (gName 21)) (tt := tYes) (te := tIf (tTest (tOp (rNeD K) (tVar 21) (tVar 17))) (tVar 21) (tOp (rCatA K) (tSl (rSlA K) (tVar 17) tNoPart (tPart (tC (.int 2)))) (tTup (tCons (tVar 18) (tCons (tVar 19) tNil))))) rfl scSpl.nd (pi_tup (pe_dget hu (pv 15) (pv 16) (fun _ _ => rfl))) (blkOk_by (N := nSpl) (sc := defScope sSpl) (by decide +kernel)) (fun _ _ _ _ _ => (pg_name (i := 21) scSpl.nd rfl (Or.inl rfl))) (fun _ _ _ _ _ => pts_nil) (fun _ _ _ _ _ => (pe_ifExp (pt_cmpR (op_neD hr.units) (pv 21) (pv 17) (nomark _)) (pv 21) (pe_op op_catA (pe_slice sl_tupA (pv 17) po_none (po_some pe_int)) (pe_tup (pa_cons (pv 18) (pa_cons (pv 19) pa_nil))))))))
      (pss_one (ps_set (i := 5) scSpl.nd rfl (Or.inl rfl) (pe_callTy cr_tupleF (by rfl) G.tuple (by decide +kernel) (pa_cons (pe_lc (own := [("_law_name", 22), ("_law_fields", 23)]) (g := (gTup K 2 (gCons (gName 22) (gCons (gName 23) gNil)))) (tt := tYes) (te := tTup (tCons (tVar 22) (tCons (tIf (tTest (tOp rEq (tVar 22) (tVar 16))) (tCB (rTupQ K) (tCons (tVar 20) tNil)) (tVar 23)) tNil))) rfl scSpl.nd (pi_tup (pv 5)) (blkOk_by (N := nSpl) (sc := defScope sSpl) (by decide +kernel)) (fun _ _ _ _ _ => (pg_tup rfl (pgs_cons (pg_name (i := 22) scSpl.nd rfl (Or.inl rfl)) (pgs_cons (pg_name (i := 23) scSpl.nd rfl (Or.inl rfl)) pgs_nil)))) (fun _ _ _ _ _ => pts_nil) (fun _ _ _ _ _ => (pe_tup (pa_cons (pv 22) (pa_cons (pe_ifExp (pt_cmpR op_eq (pv 22) (pv 16) (nomark _)) (pe_callTy call_tupQ (by rfl) G.tuple (by decide +kernel) (pa_cons (pv 20) pa_nil)) (pv 23)) pa_nil))))) pa_nil))))))))))))))))))
      (pss_cons (ps_set (i := 16) scSpl.nd rfl (Or.inr rfl) (pe_tup (pa_cons (pv 9) (pa_cons (pv 10) (pa_cons (pv 11) (pa_cons (pv 12) (pa_cons (pv 13) pa_nil)))))))
      (pss_one (ps_ret (pe_tup (pa_cons (pv 2) (pa_cons (pv 3) (pa_cons (pv 4) (pa_cons (pv 5) (pa_cons (pe_op op_catA (pe_op op_catA (pe_slice sl_tupA (pv 6) po_none (po_some (pv 8))) (pe_tup (pa_cons (pv 16) pa_nil))) (pe_slice sl_tupA (pv 6) (po_some (pe_op op_add (pv 8) pe_int)) po_none)) pa_nil))))))))))))))), ?_⟩
    rw [show (L2.start nSpl [V.ref b, V.ref p]) = [some (V.ref b), some (V.ref p), none, none, none, none, none, none, none, none, none, none, none, none, none, none, none, none, none, none, none, none, none, none] from rfl]
    refine ⟨_, rfl, p, _, rfl, SqT.of hp, rfl, _, _, rfl, _, _, rfl, _, _, rfl, _, _, rfl, _, _, rfl, rfl, ?_⟩
    try dsimp only [List.set_cons_succ, List.set_cons_zero]
    obtain ⟨pr, or, xr, rfl, hpr, plr, txr⟩ := TpF.inv t4
    obtain ⟨pk, ok9, xk, rfl, hpk, plk, txk⟩ := TpF.inv t3
    obtain ⟨pc, xc, rfl, hpc, txc⟩ := Tp.inv t5
    have lxc : xc.length = cws.length := by rw [txc.length, List.length_map]
    have lxr : xr.length = recs.length := by rw [txr.length, List.length_map, List.length_map]
    have lxp : 1 ≤ xc.length := by
      have := List.length_pos_iff.mpr sv.ne
      omega
    refine ⟨_, rfl, b, 9, _, rfl, by decide, by decide, hB, by omega, fun way H1 w0 w1 k1 b1 => ?_⟩
    have hpc1 := k1 _ _ (tup_ne hpc hB) hpc
    refine ⟨_, rfl, _, rfl, pc, xc, rfl, .inr (SqT.of hpc1), b, _, _, rfl, by omega, by omega, b1, by omega, fun e1 H5 e10 e11 k5 b5 => ?_⟩
    refine ⟨_, _, rfl, ?_⟩
    obtain ⟨k, rfl⟩ : ∃ k : Nat, e1 = k := ⟨e1.toNat, by omega⟩
    try dsimp only [List.set_cons_succ, List.set_cons_zero]
    have hki : k < cws.length := by omega
    obtain ⟨c, hc⟩ : ∃ c, cws[k]? = some c := ⟨_, List.getElem?_eq_getElem hki⟩
    have mc := List.mem_of_getElem? hc
    have cw9 := pw.cw.ok c mc
    have dsw : DdsW c.ds := ⟨cw9.l, cw9.ds⟩
    have K5 := k1.trans k5
    have hpc5 := k5 _ _ (tup_ne hpc1 b1) hpc1
    have hpr5 := K5 _ _ (frz_ne hpr hB) hpr
    have hpk5 := K5 _ _ (frz_ne hpk hB) hpk
    have txc5 := TpAll.keep (K5.tk hB) _ _ txc
    have txr5 := TpAll.keep (K5.tk hB) _ _ txr
    have txk5 := TpAll.keep (K5.tk hB) _ _ txk
    have t3e : TpF H5 (.ref pk) (rowsD (csP cs)) := ⟨pk, ok9, _, _, rfl, rfl, hpk5, plk, txk5⟩
    have t4e : TpF H5 (.ref pr) (rowsD (recs.map rD)) := ⟨pr, or, _, _, rfl, rfl, hpr5, plr, txr5⟩
    have t5e : Tp H5 (.ref pc) (.tuple (cws.map Cw.d)) := .tup hpc5 txc5
    have hcd : (cws.map Cw.d)[k]? = some c.d := by rw [List.getElem?_map, hc]; rfl
    obtain ⟨x, hx, tx⟩ := txc5.get hcd
    obtain ⟨t, ea, xs, rfl, ht, he, txs⟩ := cw_at tx
    have tdv : Tp H5 (.ref ea) (.tuple (c.ds.map dD)) := .tup he txs
    have lxs : xs.length = c.ds.length := by rw [txs.length, List.length_map]
    have ld6 := cw9.l
    obtain ⟨_, fl, tl, dds, mfl, mtl, eds, cdo, ask9, ld1⟩ := sv.ok c mc
    have lds1 : 1 ≤ c.ds.length := by rw [eds, List.length_map]; exact ld1
    refine ⟨_, rfl, _, rfl, pc, xc, _, _, rfl, rfl, SqT.of hpc5, atI_nat hx, t, _, rfl, SqT.of ht, rfl, _, _, rfl, _, _, rfl, _, _, rfl, _, _, rfl, _, _, rfl, rfl, ?_⟩
    try dsimp only [List.set_cons_succ, List.set_cons_zero]
    refine ⟨_, rfl, _, rfl, ea, xs, rfl, .inr (SqT.of he), b, _, _, rfl, by omega, by omega, b5, by omega, fun e2 H6 e20 e21 k6 b6 => ?_⟩
    obtain ⟨at9, rfl⟩ : ∃ at9 : Nat, e2 = at9 := ⟨e2.toNat, by omega⟩
    have hat : at9 < c.ds.length := by omega
    try dsimp only [List.set_cons_succ, List.set_cons_zero]
    have t3f := t3e.keep (k6.fk b5) (k6.tk b5)
    have t4f := t4e.keep (k6.fk b5) (k6.tk b5)
    have t5f := Tp.keep (k6.tk b5) _ _ t5e
    have tdf := Tp.keep (k6.tk b5) _ _ tdv
    have hpr6 := k6 _ _ (frz_ne hpr5 b5) hpr5
    have txr6 := TpAll.keep (k6.tk b5) _ _ txr5
    have K6 := K5.trans k6
    obtain ⟨ps, kvs, exr, prd, ek, k1', k2'⟩ := recs_dict (K := K) txr6 pw.rc.nd
    have fews : ps.length < 1000 := by
      have e1 := congrArg List.length exr
      rw [List.length_map] at e1
      omega
    refine ⟨_, rfl, pr, or, ps, kvs, rfl, by rw [← exr]; exact hpr6, plr, prd, fews, fun pd hpd => ?_⟩
    rw [merge_recs pw.rc.nd ek]
    have Sx := Same.new (H := H6) (o := .dK kvs) hpd
    have ex : (upd H6 pd (.dK kvs)) pd = some (.dK kvs) := upd_same
    generalize (upd H6 pd (.dK kvs)) = HA at *
    have bA := b6.same Sx
    have KA := K6.same Sx
    try dsimp only [List.set_cons_succ, List.set_cons_zero]
    have t3A := t3f.keep (Same.fk Sx) (Same.tk Sx)
    have t4A := t4f.keep (Same.fk Sx) (Same.tk Sx)
    have t5A := Tp.keep (Same.tk Sx) _ _ t5f
    have tdA := Tp.keep (Same.tk Sx) _ _ tdf
    obtain ⟨d, hd⟩ : ∃ d, c.ds[at9]? = some d := ⟨_, List.getElem?_eq_getElem hat⟩
    have md := List.mem_of_getElem? hd
    have dw := dsw.2 d md
    have heA := Sx _ _ (k6 _ _ (tup_ne he b5) he)
    obtain ⟨y, hy, ty⟩ := (TpAll.keep (Same.tk Sx) _ _ (TpAll.keep (k6.tk b5) _ _ txs)).get (i := at9) (d := dD d) (by rw [List.getElem?_map, hd]; rfl)
    refine ⟨fun σ H' => ∃ (ask back : Str) (dv u4 : V) (recs2 : List Rec) (ds2 : List (List Str)) (a16 a17 a18 a19 a20 : Option V), σ = [some (.ref b), some (.ref p), some (.str own), some (.int age), some (.ref pk), some u4, some (.ref pc), some (.int way), some (.int (k : Int)), some (.int c.num), some (.str c.nam), some (.str ask), some (.str back), some dv, some (.int (at9 : Int)), some (.ref pd), a16, a17, a18, a19, a20, none, none, none] ∧ Kp b HA H' ∧ Bag H' b (n + 45) ∧ Tp H' dv (.tuple (ds2.map dD)) ∧ TpF H' u4 (rowsD (recs2.map rD)) ∧ CwW ⟨c.num, c.nam, ask, back, ds2⟩ ∧ PtW own age cs recs2 cws, ?_, ?_⟩
    · have same : ∀ (ask back : Str) (dv : V) (ds2 : List (List Str)) (H' : Hp), Kp b HA H' → Bag H' b (n + 45) → Tp H' dv (.tuple (ds2.map dD)) → Nm ask → Nm back → DdsW ds2 → (fun σ H' => ∃ (ask back : Str) (dv u4 : V) (recs2 : List Rec) (ds2 : List (List Str)) (a16 a17 a18 a19 a20 : Option V), σ = [some (V.ref b), some (.ref p), some (.str own), some (.int age), some (.ref pk), some u4, some (.ref pc), some (.int way), some (.int (k : Int)), some (.int c.num), some (.str c.nam), some (.str ask), some (.str back), some dv, some (.int (at9 : Int)), some (.ref pd), a16, a17, a18, a19, a20, none, none, none] ∧ Kp b HA H' ∧ Bag H' b (n + 45) ∧ Tp H' dv (.tuple (ds2.map dD)) ∧ TpF H' u4 (rowsD (recs2.map rD)) ∧ CwW ⟨c.num, c.nam, ask, back, ds2⟩ ∧ PtW own age cs recs2 cws) [some (V.ref b), some (.ref p), some (.str own), some (.int age), some (.ref pk), some (.ref pr), some (.ref pc), some (.int way), some (.int (k : Int)), some (.int c.num), some (.str c.nam), some (.str ask), some (.str back), some dv, some (.int (at9 : Int)), some (.ref pd), none, none, none, none, none, none, none, none] H' := fun ask back dv ds2 H' S B' tdv' na nb dw =>
        ⟨ask, back, dv, .ref pr, recs, ds2, _, _, _, _, _, rfl, S, B', tdv', t4A.keep (S.fk bA) (S.tk bA), ⟨cw9.nm, na, nb, dw.1, dw.2⟩, pw⟩
      refine ⟨_, rfl, rfl, _, rfl, ite2 (fun hw0 => ?_) (fun hw0 => ?_)⟩
      · refine ⟨_, rfl, b, 2, _, rfl, by decide, by decide, bA, by omega, fun x HE x0 x1 kE bE => ?_⟩
        have tdE := Tp.keep (kE.tk bA) _ _ tdA
        refine ⟨rfl, _, rfl, ite2 (fun _ => ?_) (fun _ => ?_)⟩
        · refine ⟨_, rfl, (by show 2 ≤ sizeLine; decide), fun t2 ht2 => ?_⟩
          have S2 := Same.new (H := HE) (o := .tup [.str "nowhere", .str c.ans]) ht2
          refine ⟨t2, _, rfl, SqT.of upd_same, rfl, _, _, rfl, _, _, rfl, rfl, ?_⟩
          exact same "nowhere" c.ans (.ref ea) c.ds _ (kE.same S2) ((bE.same S2).mono (by omega)) (Tp.keep (Same.tk S2) _ _ tdE) nmNow cw9.nb dsw
        · refine ⟨_, rfl, (by show 2 ≤ sizeLine; decide), fun t2 ht2 => ?_⟩
          have S2 := Same.new (H := HE) (o := .tup [.str c.ask, .str "nowhere"]) ht2
          refine ⟨t2, _, rfl, SqT.of upd_same, rfl, _, _, rfl, _, _, rfl, rfl, ?_⟩
          exact same c.ask "nowhere" (.ref ea) c.ds _ (kE.same S2) ((bE.same S2).mono (by omega)) (Tp.keep (Same.tk S2) _ _ tdE) cw9.na nmNow dsw
      refine ⟨_, rfl, rfl, _, rfl, ite2 (fun hw1 => ?_) (fun hw1 => ?_)⟩
      · refine ⟨_, rfl, npT ⟨_, rfl, _, rfl, ?_⟩⟩
        refine tpSl (lo := none) (hi := some ((at9 : Nat) : Int)) tdA fun r1 Ha Sa g1 => ?_
        rw [cutG_to] at g1
        refine ⟨_, rfl, _, rfl, _, _, rfl, rfl, _, rfl, npT ?_⟩
        refine tpSl (lo := some ((at9 + 1 : Nat) : Int)) (hi := none) (Tp.keep (Same.tk Sa) _ _ tdA) fun r2 Hb Sb g2 => ?_
        rw [cutG_from] at g2
        refine tpCat (Tp.keep (Same.tk Sb) _ _ g1) g2 ?_ fun r3 Hc Sc g3 => ?_
        · rw [List.length_take, List.length_drop, List.length_map]
          omega
        rw [← List.map_take, ← List.map_drop, ← List.map_append] at g3
        have S := (Sa.trans Sb).trans Sc
        exact same c.ask c.ans r3 (c.ds.take at9 ++ c.ds.drop (at9 + 1)) _ (Kp.refl.same S) ((bA.same S).mono (by omega)) g3 cw9.na cw9.nb (dds_sub dsw (cut_sub _ _))
      refine ⟨fun c' H' => H' = HA ∧ (c' = true → c.ds.length < 6 ∧ way = 2), ?_, ?_⟩
      · refine ⟨_, rfl, rfl, _, rfl, ite2 (fun hw2 => ?_) (fun _ => ⟨rfl, fun h => absurd h (by decide)⟩)⟩
        refine ⟨_, rfl, ea, _, rfl, .inr (SqT.of heA), _, _, rfl, rfl, _, rfl, rfl, fun h => ?_⟩
        have := of_decide_eq_true h
        have h2 : V.int way = V.int 2 := of_decide_eq_true hw2
        injection h2 with h2
        omega
      rintro c' HA ⟨rfl, hc6⟩
      cases c' with
      | true =>
        refine iteT ?_
        refine ⟨_, rfl, npT ⟨_, rfl, _, rfl, ?_⟩⟩
        refine tpSl (lo := none) (hi := some ((at9 : Nat) : Int)) tdA fun r1 Ha Sa g1 => ?_
        rw [cutG_to] at g1
        refine ⟨_, rfl, _, rfl, ea, xs, _, _, rfl, rfl, SqT.of (Sa _ _ heA), atI_nat hy, (by show 1 ≤ sizeLine; decide), fun r2 hr2 => ?_⟩
        obtain ⟨Sb, g2⟩ := tupNew (xs := [y]) hr2 (.cons (Tp.keep (Same.tk Sa) _ _ ty) .nil)
        generalize (upd Ha r2 (.tup [y])) = Hb at *
        refine tpCat (Tp.keep (Same.tk Sb) _ _ g1) g2 ?_ fun r3 Hc Sc g3 => ?_
        · rw [List.length_take, List.length_map]
          show min at9 _ + 1 ≤ 10000
          omega
        have S3 := (Sa.trans Sb).trans Sc
        refine ⟨_, rfl, _, rfl, _, rfl, npT ?_⟩
        refine tpSl (lo := some ((at9 : Nat) : Int)) (hi := none) (Tp.keep (Same.tk S3) _ _ tdA) fun r4 Hd Sd g4 => ?_
        rw [cutG_from] at g4
        refine tpCat (Tp.keep (Same.tk Sd) _ _ g3) g4 ?_ fun r5 He Se g5 => ?_
        · rw [List.length_append, List.length_take, List.length_drop, List.length_map]
          show min at9 _ + 1 + _ ≤ 10000
          omega
        have e9 : (c.ds.map dD).take at9 ++ [dD d] ++ (c.ds.map dD).drop at9 = (c.ds.take at9 ++ [d] ++ c.ds.drop at9).map dD := by
          rw [List.map_append, List.map_append, List.map_take, List.map_drop]
          rfl
        rw [e9] at g5
        have S := (S3.trans Sd).trans Se
        exact same c.ask c.ans r5 _ _ (Kp.refl.same S) ((bA.same S).mono (by omega)) g5 cw9.na cw9.nb (dds_ins dsw (hc6 rfl).1 (dsw.2 d md))
      | false =>
      refine iteF ?_
      refine ⟨_, rfl, rfl, _, rfl, ite2 (fun hw3 => ?_) (fun hw3 => ?_)⟩
      · obtain ⟨td, ys, rfl, htd, tys⟩ := Tp.inv ty
        have eys := TpAll.istrs9 tys
        subst eys
        obtain ⟨d0, d1, d2, dr, rfl⟩ := cut3 dw.1
        refine ⟨_, rfl, npT ⟨_, rfl, _, rfl, ?_⟩⟩
        refine tpSl (lo := none) (hi := some ((at9 : Nat) : Int)) tdA fun r1 Ha Sa g1 => ?_
        rw [cutG_to] at g1
        refine ⟨_, rfl, _, rfl, ea, xs, _, _, rfl, rfl, SqT.of (Sa _ _ heA), atI_nat hy, td, _, 0, _, rfl, rfl, SqT.of (Sa _ _ htd), atI_nat (xs := (d0 :: d1 :: d2 :: dr).map V.str) (i := 0) rfl, (by show 2 ≤ sizeLine; decide), fun r2 hr2 => ?_⟩
        obtain ⟨Sb, g2⟩ := tupNew (xs := [V.str d0, .str "strange"]) hr2 (.cons (.str _) (.cons (.str _) .nil))
        generalize (upd Ha r2 (.tup [V.str d0, .str "strange"])) = Hb at *
        have Sab := Sa.trans Sb
        refine ⟨_, rfl, _, rfl, ea, xs, _, _, rfl, rfl, SqT.of (Sab _ _ heA), atI_nat hy, _, rfl, npT ?_⟩
        refine tpSl (lo := some ((2 : Nat) : Int)) (hi := none) (Tp.keep (Same.tk Sab) _ _ ty) fun r3 Hc Sc g3 => ?_
        rw [cutG_from] at g3
        refine tpCat (Tp.keep (Same.tk Sc) _ _ g2) g3 ?_ fun r4 Hd Sd g4 => ?_
        · rw [List.length_drop, List.length_map]
          have := dw.2.1
          show 2 + _ ≤ 10000
          omega
        have g4 : Tp Hd r4 (dD (d0 :: "strange" :: d2 :: dr)) := g4
        have Sad := (Sab.trans Sc).trans Sd
        refine ⟨(by show 1 ≤ sizeLine; decide), fun r5 hr5 => ?_⟩
        obtain ⟨Se, g5⟩ := tupNew (xs := [r4]) hr5 (.cons g4 .nil)
        generalize (upd Hd r5 (.tup [r4])) = He at *
        have Sae := Sad.trans Se
        refine tpCat (Tp.keep (Same.tk (((Sb.trans Sc).trans Sd).trans Se)) _ _ g1) g5 ?_ fun r6 Hf Sf g6 => ?_
        · rw [List.length_take, List.length_map]
          show min at9 _ + 1 ≤ 10000
          omega
        have Saf := Sae.trans Sf
        refine ⟨_, rfl, _, rfl, _, _, rfl, rfl, _, rfl, npT ?_⟩
        refine tpSl (lo := some ((at9 + 1 : Nat) : Int)) (hi := none) (Tp.keep (Same.tk Saf) _ _ tdA) fun r7 Hg Sg g7 => ?_
        rw [cutG_from] at g7
        refine tpCat (Tp.keep (Same.tk Sg) _ _ g6) g7 ?_ fun r8 Hh Sh g8 => ?_
        · rw [List.length_append, List.length_take, List.length_drop, List.length_map]
          show min at9 _ + 1 + _ ≤ 10000
          omega
        have e9 : (c.ds.map dD).take at9 ++ [dD (d0 :: "strange" :: d2 :: dr)] ++ (c.ds.map dD).drop (at9 + 1) = (c.ds.set at9 (d0 :: "strange" :: d2 :: dr)).map dD := by
          rw [set_cut (by rw [List.length_map]; exact hat), List.map_set]
        rw [e9] at g8
        have S := (Saf.trans Sg).trans Sh
        have dw2 : DdW (d0 :: "strange" :: d2 :: dr) := ⟨dw.1, dw.2.1, fun z hz => by
          rcases List.mem_cons.mp hz with rfl | hz
          · exact dw.2.2.1 _ List.mem_cons_self
          rcases List.mem_cons.mp hz with rfl | hz
          · exact nmStr
          · exact dw.2.2.1 _ (List.mem_cons_of_mem _ (List.mem_cons_of_mem _ hz)), dw.2.2.2⟩
        exact same c.ask c.ans r8 _ _ (Kp.refl.same S) ((bA.same S).mono (by omega)) g8 cw9.na cw9.nb (dds_set dsw dw2)
      refine ⟨_, rfl, rfl, _, rfl, ite2 (fun hw4 => ?_) (fun hw4 => ?_)⟩
      · refine ⟨_, rfl, (by show 3 ≤ sizeLine; decide), fun r1 hr1 => ⟨(by show 1 ≤ sizeLine; decide), fun r2 hr2 => ?_⟩⟩
        obtain ⟨Sa, g1⟩ := tupNew (xs := [V.str "ask", .str own, .str "pay"]) hr1 (.cons (.str _) (.cons (.str _) (.cons (.str _) .nil)))
        generalize (upd HA r1 (.tup [V.str "ask", .str own, .str "pay"])) = Ha at *
        obtain ⟨Sb, g2⟩ := tupNew (xs := [.ref r1]) hr2 (.cons g1 .nil)
        generalize (upd Ha r2 (.tup [.ref r1])) = Hb at *
        have Sab := Sa.trans Sb
        refine ⟨_, rfl, npT ⟨_, rfl, ?_⟩⟩
        refine tpSl (lo := none) (hi := some ((5 : Nat) : Int)) (Tp.keep (Same.tk Sab) _ _ tdA) fun r3 Hc Sc g3 => ?_
        rw [cutG_to] at g3
        refine tpCat (Tp.keep (Same.tk Sc) _ _ g2) g3 ?_ fun r4 Hd Sd g4 => ?_
        · rw [List.length_take, List.length_map]
          show 1 + min 5 _ ≤ 10000
          omega
        have e9 : [dD [("ask" : Str), own, "pay"]] ++ (c.ds.map dD).take 5 = ((["ask", own, "pay"] : List Str) :: c.ds.take 5).map dD := by
          rw [List.map_cons, List.map_take]
          rfl
        have g4 : Tp Hd r4 (.tuple ([dD [("ask" : Str), own, "pay"]] ++ (c.ds.map dD).take 5)) := g4
        rw [e9] at g4
        have S := (Sab.trans Sc).trans Sd
        refine same c.ask c.ans r4 _ _ (Kp.refl.same S) ((bA.same S).mono (by omega)) g4 cw9.na cw9.nb ⟨?_, fun e he' => ?_⟩
        · rw [List.length_cons, List.length_take]
          omega
        · rcases List.mem_cons.mp he' with rfl | h
          · refine ⟨(by show 3 ≤ 3; decide), (by show 3 ≤ 4; decide), fun z hz => ?_, by show ("ask" : Str) ∈ six; decide +kernel⟩
            have ez : z = "ask" ∨ z = own ∨ z = "pay" := by simpa using hz
            rcases ez with rfl | rfl | rfl
            · exact nm_lit (by decide +kernel)
            · exact pw.on
            · exact nm_lit (by decide +kernel)
          · exact dsw.2 e (List.mem_of_mem_take h)
      have ways : way = 2 ∨ way = 5 ∨ way = 6 ∨ way = 7 ∨ way = 8 := by
        have n0 : way ≠ 0 := fun e => hw0 (by rw [e]; exact decide_eq_true rfl)
        have n1 : way ≠ 1 := fun e => hw1 (by rw [e]; exact decide_eq_true rfl)
        have n3 : way ≠ 3 := fun e => hw3 (by rw [e]; exact decide_eq_true rfl)
        have n4 : way ≠ 4 := fun e => hw4 (by rw [e]; exact decide_eq_true rfl)
        omega
      have tlne : tl ≠ [] := fun e => cdo.ne (by rw [e]; rfl)
      have flne : fl ≠ [] := fun e => by
        have := ask9.who
        rw [e] at this
        cases this
      -- one of its two records
      refine ⟨fun v H' => ∃ (one : Str) (f1 : List Fl), v = .str one ∧ (one, f1) ∈ recs ∧ f1 ≠ [] ∧ Kp b HA H' ∧ Bag H' b (n + 4), ?_, ?_⟩
      · refine ⟨_, rfl, _, rfl, (by show 2 ≤ sizeLine; decide), fun l hl => ?_⟩
        refine ⟨_, rfl, b, 2, _, rfl, by decide, by decide, bA.new hl, by omega, fun x HE x0 x1 kE bE => ?_⟩
        have eE := kE _ _ (new_ne hl bA) upd_same
        rcases (by omega : x = 0 ∨ x = 1) with rfl | rfl
        · exact ⟨l, _, _, _, rfl, rfl, SqL.of eE, rfl, c.ask, fl, rfl, mfl, flne, (Kp.refl.new hl).trans kE, bE.mono (by omega)⟩
        · exact ⟨l, _, _, _, rfl, rfl, SqL.of eE, rfl, c.ans, tl, rfl, mtl, tlne, (Kp.refl.new hl).trans kE, bE.mono (by omega)⟩
      rintro v HB ⟨one, f1, rfl, m1, f1ne, kB, bB⟩
      try dsimp only [List.set_cons_succ, List.set_cons_zero]
      have f1W : FlW f1 := (sv.rc _ m1).1
      have exB := kB _ _ (dk_ne ex bA) ex
      obtain ⟨fv, hfv, tfv0⟩ := k2' one (List.mem_map.mpr ⟨_, m1, rfl⟩)
      rw [flO_at pw.rc.nd m1] at tfv0
      have tfvB : Tp HB fv (.tuple (f1.map Fl.d)) := Tp.keep (kB.tk bA) _ _ (Tp.keep (Same.tk Sx) _ _ tfv0)
      obtain ⟨fa, fvs, rfl, hfaB, tfsB⟩ := Tp.inv tfvB
      have lfv : fvs.length = f1.length := by rw [tfsB.length, List.length_map]
      have l5 := f1W.l5
      have l1p : 1 ≤ f1.length := List.length_pos_iff.mpr f1ne
      have dg : ∀ {H' : Hp}, H' pd = some (.dK kvs) → DGet H' pd (.str one) (some (.ref fa)) := fun e => by rw [← hfv]; exact DGet.k (k := .inr one) e
      -- a field
      refine ⟨_, rfl, _, rfl, pd, _, rfl, dg exB, ?_⟩
      refine ⟨_, rfl, _, rfl, _, rfl, pd, _, rfl, dg exB, fa, fvs, rfl, .inr (SqT.of hfaB), b, _, _, rfl, by omega, by omega, bB, by omega, fun e3 HC e30 e31 kC bC => ?_⟩
      obtain ⟨i9, rfl⟩ : ∃ i9 : Nat, e3 = i9 := ⟨e3.toNat, by omega⟩
      have exC := kC _ _ (dk_ne exB bB) exB
      have hfaC := kC _ _ (tup_ne hfaB bB) hfaB
      have tfsC := TpAll.keep (kC.tk bB) _ _ tfsB
      have K2C := kB.trans kC
      have hi9 : i9 < f1.length := by omega
      obtain ⟨fd0, hfd0⟩ : ∃ f, f1[i9]? = some f := ⟨_, List.getElem?_eq_getElem hi9⟩
      have mfd := List.mem_of_getElem? hfd0
      obtain ⟨fx, hfx, tfx⟩ := tfsC.get (i := i9) (d := fd0.d) (by rw [List.getElem?_map, hfd0]; rfl)
      refine ⟨fa, fvs, _, _, rfl, rfl, SqT.of hfaC, atI_nat hfx, ?_⟩
      try dsimp only [List.set_cons_succ, List.set_cons_zero]
      obtain ⟨t4, x1, x2, x3, x4, rfl, h4, u1, u2, u3, u4⟩ := Tp.four tfx
      have e4 := u4.istr
      subst e4
      -- another kind
      refine ⟨fun v H' => ∃ (k2 : Kn), Tp H' v k2.d ∧ (∀ z, k2.nm = some z → Nm z) ∧ Same HC H', ?_, ?_⟩
      · refine ⟨_, rfl, t4, _, 2, _, rfl, rfl, SqT.of h4, rfl, (by show 2 ≤ sizeLine; decide), fun a1 h1 => ⟨_, rfl, (by show 2 ≤ sizeLine; decide), fun a2 h2 => ⟨(by show 2 ≤ sizeLine; decide), fun a3 h3 => ⟨(by show 4 ≤ sizeLine; decide), fun l hl => ?_⟩⟩⟩⟩
        obtain ⟨Sa, g1⟩ := tupNew (xs := [V.str "record", .str "nowhere"]) h1 (.cons (.str _) (.cons (.str _) .nil))
        generalize (upd HC a1 (.tup [V.str "record", .str "nowhere"])) = Ha at *
        obtain ⟨Sb, g2⟩ := tupNew (xs := [V.str "record", .str one]) h2 (.cons (.str _) (.cons (.str _) .nil))
        generalize (upd Ha a2 (.tup [V.str "record", .str one])) = Hb at *
        obtain ⟨Sc, g3⟩ := tupNew (xs := [V.str "list", .str "truth"]) h3 (.cons (.str _) (.cons (.str _) .nil))
        generalize (upd Hb a3 (.tup [V.str "list", .str "truth"])) = Hc at *
        have Sl := Same.new (H := Hc) (o := .lst [x3, .ref a1, .ref a2, .ref a3]) hl
        have el : (upd Hc l (.lst [x3, .ref a1, .ref a2, .ref a3])) l = some (.lst [x3, .ref a1, .ref a2, .ref a3]) := upd_same
        generalize (upd Hc l (.lst [x3, .ref a1, .ref a2, .ref a3])) = Hd at *
        have S := ((Sa.trans Sb).trans Sc).trans Sl
        have q0 : Tp Hd x3 fd0.kd.d := Tp.keep (Same.tk S) _ _ u3
        have q1 : Tp Hd (.ref a1) (Kn.d (.one (.rc "nowhere"))) := Tp.keep (Same.tk ((Sb.trans Sc).trans Sl)) _ _ g1
        have q2 : Tp Hd (.ref a2) (Kn.d (.one (.rc one))) := Tp.keep (Same.tk (Sc.trans Sl)) _ _ g2
        have q3 : Tp Hd (.ref a3) (Kn.d (.lst .truth)) := Tp.keep (Same.tk Sl) _ _ g3
        have nOne : Nm one := pw.rc.nm _ m1
        have k0 := f1W.nk fd0 mfd
        rcases ways with rfl | rfl | rfl | rfl | rfl
        · exact ⟨_, rfl, _, _, rfl, rfl, l, _, _, _, rfl, rfl, SqL.of el, rfl, _, q1, (fun z e => by cases e; exact nmNow), S⟩
        · exact ⟨_, rfl, _, _, rfl, rfl, l, _, _, _, rfl, rfl, SqL.of el, rfl, _, q0, k0, S⟩
        · exact ⟨_, rfl, _, _, rfl, rfl, l, _, _, _, rfl, rfl, SqL.of el, rfl, _, q1, (fun z e => by cases e; exact nmNow), S⟩
        · exact ⟨_, rfl, _, _, rfl, rfl, l, _, _, _, rfl, rfl, SqL.of el, rfl, _, q2, (fun z e => by cases e; exact nOne), S⟩
        · exact ⟨_, rfl, _, _, rfl, rfl, l, _, _, _, rfl, rfl, SqL.of el, rfl, _, q3, (fun z e => by cases e), S⟩
      rintro kv HD ⟨k2, tk2, nk2, SD⟩
      try dsimp only [List.set_cons_succ, List.set_cons_zero]
      -- another need
      refine ⟨fun v H' => ∃ (bb : Bool), v = .str (needS bb) ∧ Same HD H', ?_, ?_⟩
      · refine ⟨_, rfl, rfl, _, rfl, ite2 (fun _ => ?_) (fun _ => ⟨true, rfl, Same.refl _⟩)⟩
        refine ⟨(by show 2 ≤ sizeLine; decide), fun l hl => ?_⟩
        have Sl := Same.new (H := HD) (o := .lst [V.str "must", .str "may"]) hl
        have el : (upd HD l (.lst [V.str "must", .str "may"])) l = some (.lst [V.str "must", .str "may"]) := upd_same
        generalize (upd HD l (.lst [V.str "must", .str "may"])) = Hd at *
        refine ⟨_, rfl, t4, _, 3, _, rfl, rfl, SqT.of (Sl _ _ (SD _ _ h4)), rfl, rfl, .inr ⟨_, rfl, ?_⟩⟩
        cases decide (V.str (needS fd0.must) = V.str "must") with
        | true => exact ⟨l, _, _, _, rfl, rfl, SqL.of el, rfl, false, rfl, Sl⟩
        | false => exact ⟨l, _, _, _, rfl, rfl, SqL.of el, rfl, true, rfl, Sl⟩
      rintro v HE ⟨bb, rfl, SE⟩
      try dsimp only [List.set_cons_succ, List.set_cons_zero]
      -- its fields
      have SCE := SD.trans SE
      have exE := SCE _ _ exC
      have hfaE := SCE _ _ hfaC
      have tfsE := TpAll.keep (Same.tk SCE) _ _ tfsC
      have tfxE := Tp.keep (Same.tk SCE) _ _ tfx
      have tkE := Tp.keep (Same.tk SE) _ _ tk2
      have KE := (kB.trans kC).same SCE
      have bE := bC.same SCE
      refine ⟨_, rfl, _, rfl, pd, _, rfl, dg exE, fa, rfl, ⟨_, SqT.of hfaE⟩, fun D2 hD2 => ?_⟩
      refine lcG_tup (xs := fvs) (l := f1) (dx := Fl.d) (val := fun f => (rpF fd0 k2 bb f).d) (keep := fun _ => true) (fun H' S => SqT.of (S _ _ hfaE)) tfsE (Nat.lt_of_le_of_lt l5 (by decide)) hD2 ?_ ?_
      · intro j f y9 H' hj S' tf N M hN hM
        have hjm : f ∈ f1 := List.mem_of_getElem? hj
        refine ⟨rfl, yes (iteT ?_)⟩
        refine ⟨_, rfl, _, rfl, _, _, Tp.dp _ _ tf, Tp.dp _ _ (Tp.keep (Same.tk S') _ _ tfxE), fl_shaped (f1W.nk f hjm) (f1W.nm f hjm), fl_shaped (f1W.nk fd0 mfd) (f1W.nm fd0 mfd), ?_⟩
        by_cases he9 : PyData.eqv f.d fd0.d = true
        · refine ⟨_, rfl, ?_⟩
          rw [he9]
          refine iteF ?_
          have er : rpF fd0 k2 bb f = ⟨fd0.num, fd0.nam, k2, bb⟩ := if_pos he9
          refine ⟨_, rfl, npT ⟨_, rfl, ?_⟩⟩
          refine tpSl (lo := none) (hi := some ((2 : Nat) : Int)) (Tp.keep (Same.tk S') _ _ tfxE) fun r1 Ha Sa g1 => ?_
          rw [cutG_to] at g1
          refine ⟨_, rfl, _, rfl, (by show 2 ≤ sizeLine; decide), fun r2 hr2 => ?_⟩
          obtain ⟨Sb, g2⟩ := tupNew (xs := [kv, V.str (needS bb)]) hr2 (.cons (Tp.keep (Same.tk (S'.trans Sa)) _ _ tkE) (.cons (.str _) .nil))
          generalize (upd Ha r2 (.tup [kv, V.str (needS bb)])) = Hb at *
          refine tpCat (Tp.keep (Same.tk Sb) _ _ g1) g2 (by show 2 + 2 ≤ 10000; decide) fun r3 Hc Sc g3 => ?_
          exact hM rfl _ _ ((Sa.trans Sb).trans Sc) (by show Tp Hc r3 (rpF fd0 k2 bb f).d; rw [er]; exact g3)
        · refine ⟨_, rfl, ?_⟩
          rw [Bool.eq_false_iff.mpr he9]
          refine iteT ⟨_, rfl, ?_⟩
          have er : rpF fd0 k2 bb f = f := if_neg he9
          exact hM rfl _ _ (Same.refl _) (by show Tp H' y9 (rpF fd0 k2 bb f).d; rw [er]; exact tf)
      intro HF zs SF eD2 tz
      rw [filt_all] at tz
      try dsimp only [List.set_cons_succ, List.set_cons_zero]
      have KF := KE.same SF
      have bF := bE.same SF
      have t4F := t4A.keep (KF.fk bA) (KF.tk bA)
      obtain ⟨pr2, or2, xr2, epr, hprF, plr2, txrF⟩ := TpF.inv t4F
      cases epr
      have lxr2 : xr2.length = recs.length := by rw [txrF.length, List.length_map, List.length_map]
      refine ⟨_, rfl, pr, rfl, ⟨_, SqT.fz hprF⟩, fun D3 hD3 => ?_⟩
      refine lcG_tup (xs := xr2) (l := recs) (dx := fun r => .tuple [.str (rD r).1, (rD r).2]) (val := fun r => .tuple [.str (rD (rpR one (f1.map (rpF fd0 k2 bb)) r)).1, (rD (rpR one (f1.map (rpF fd0 k2 bb)) r)).2]) (keep := fun _ => true) (fun H' S => SqT.fz (S _ _ hprF)) (by rw [List.map_map] at txrF; exact txrF) (by rw [sizeLine_eq]; omega) hD3 ?_ ?_
      · intro j r y9 H' hj S' tr N M hN hM
        obtain ⟨a, y8, u, rfl, ha, hy8, hu2⟩ := Tp.pair tr
        rw [hy8.istr] at ha
        refine ⟨a, _, rfl, SqT.of ha, rfl, _, _, rfl, _, _, rfl, rfl, rfl, yes (iteT ?_)⟩
        have eD9 := S' _ _ eD2
        by_cases h1 : r.1 = one
        · have er : rpR one (f1.map (rpF fd0 k2 bb)) r = (r.1, f1.map (rpF fd0 k2 bb)) := if_pos h1
          refine ⟨_, rfl, _, rfl, _, rfl, rfl, _, rfl, ?_⟩
          rw [show decide (V.str (rD r).1 = V.str one) = true from decide_eq_true (congrArg V.str h1)]
          refine iteT ?_
          refine ⟨_, rfl, D2, _, rfl, .inl ⟨SqL.of eD9, fun T8 hT8 => ?_⟩⟩
          have S8 := Same.new (H := H') (o := .tup zs) hT8
          refine ⟨(by show 2 ≤ sizeLine; decide), fun t8 ht8 => ?_⟩
          have S9 := S8.trans (Same.new (o := .tup [.str (rD r).1, .ref T8]) ht8)
          refine hM rfl _ _ S9 ?_
          show Tp _ _ (.tuple [.str (rD (rpR one (f1.map (rpF fd0 k2 bb)) r)).1, (rD (rpR one (f1.map (rpF fd0 k2 bb)) r)).2])
          rw [er]
          exact .tup upd_same (.cons (.str _) (.cons (.tup (hup ht8 upd_same) (by
            have := TpAll.keep (Same.tk (S'.trans S9)) _ _ tz
            show TpAll _ zs ((f1.map (rpF fd0 k2 bb)).map Fl.d)
            rw [List.map_map]
            exact this)) .nil))
        · have er : rpR one (f1.map (rpF fd0 k2 bb)) r = r := if_neg h1
          refine ⟨_, rfl, _, rfl, _, rfl, rfl, _, rfl, ?_⟩
          rw [show decide (V.str (rD r).1 = V.str one) = false from sneb9 h1]
          refine iteF ?_
          refine ⟨_, rfl, (by show 2 ≤ sizeLine; decide), fun t8 ht8 => ?_⟩
          have S9 := Same.new (H := H') (o := .tup [.str r.1, u]) ht8
          refine hM rfl _ _ S9 ?_
          show Tp _ _ (.tuple [.str (rD (rpR one (f1.map (rpF fd0 k2 bb)) r)).1, (rD (rpR one (f1.map (rpF fd0 k2 bb)) r)).2])
          rw [er]
          exact .tup upd_same (.cons (.str _) (.cons (Tp.keep (Same.tk S9) _ _ hu2) .nil))
      intro HG zs3 SG eD3 tz3
      rw [filt_all] at tz3
      refine ⟨D3, _, rfl, SqL.of eD3, fun T9 o9 hT9 po9 => ?_⟩
      have ST := Same.new (H := HG) (o := .frz o9 (.tup zs3)) hT9
      have SFT := SG.trans ST
      have KT := KF.same SFT
      have t4T : TpF (upd HG T9 (.frz o9 (.tup zs3))) (.ref T9) (rowsD ((recs.map (rpR one (f1.map (rpF fd0 k2 bb)))).map rD)) := ⟨T9, o9, _, _, rfl, rfl, upd_same, po9, by
        rw [List.map_map, List.map_map]
        exact TpAll.keep (Same.tk ST) _ _ tz3⟩
      exact ⟨c.ask, c.ans, .ref ea, .ref T9, recs.map (rpR one (f1.map (rpF fd0 k2 bb))), c.ds, _, _, _, _, _, rfl, KT, (bF.same SFT).mono (by omega), Tp.keep (KT.tk bA) _ _ tdA, t4T, ⟨cw9.nm, cw9.na, cw9.nb, dsw.1, dsw.2⟩, pw.rpl (f1W.rpl nk2)⟩
    rintro σ HZ ⟨ask, back, dv, u4, recs2, ds2, a16, a17, a18, a19, a20, rfl, kZ, bZ, tdvZ, t4z, cwZ, pw2⟩
    have KZ := KA.trans kZ
    have t3z := t3A.keep (kZ.fk bA) (kZ.tk bA)
    have t5z := Tp.keep (kZ.tk bA) _ _ t5A
    refine ⟨_, rfl, _, rfl, _, rfl, _, rfl, _, rfl, (by show 5 ≤ sizeLine; decide), fun t6 ht6 => ?_⟩
    obtain ⟨S6, tt6⟩ := tupNew (xs := [.int c.num, .str c.nam, .str ask, .str back, dv]) ht6 (.cons (.int _) (.cons (.str _) (.cons (.str _) (.cons (.str _) (.cons tdvZ .nil)))))
    generalize (upd HZ t6 (.tup [.int c.num, .str c.nam, .str ask, .str back, dv])) = HY at *
    have tt6 : Tp HY (.ref t6) (Cw.d ⟨c.num, c.nam, ask, back, ds2⟩) := tt6
    try dsimp only [List.set_cons_succ, List.set_cons_zero]
    refine ⟨_, rfl, _, rfl, _, rfl, _, rfl, _, rfl, npT ⟨_, rfl, _, rfl, ?_⟩⟩
    refine tpSl (lo := none) (hi := some ((k : Nat) : Int)) (Tp.keep (Same.tk S6) _ _ t5z) fun r1 Ha Sa g1 => ?_
    rw [cutG_to] at g1
    refine ⟨_, rfl, (by show 1 ≤ sizeLine; decide), fun r2 hr2 => ?_⟩
    obtain ⟨Sb, g2⟩ := tupNew (xs := [.ref t6]) hr2 (.cons (Tp.keep (Same.tk Sa) _ _ tt6) .nil)
    generalize (upd Ha r2 (.tup [.ref t6])) = Hb at *
    refine tpCat (Tp.keep (Same.tk Sb) _ _ g1) g2 ?_ fun r3 Hc Sc g3 => ?_
    · rw [List.length_take, List.length_map]
      show min k _ + 1 ≤ 10000
      omega
    have S6c := ((S6.trans Sa).trans Sb).trans Sc
    refine ⟨_, rfl, _, rfl, _, _, rfl, rfl, _, rfl, npT ?_⟩
    refine tpSl (lo := some ((k + 1 : Nat) : Int)) (hi := none) (Tp.keep (Same.tk S6c) _ _ t5z) fun r4 Hd Sd g4 => ?_
    rw [cutG_from] at g4
    refine tpCat (Tp.keep (Same.tk Sd) _ _ g3) g4 ?_ fun r5 He Se g5 => ?_
    · rw [List.length_append, List.length_take, List.length_drop, List.length_map]
      show min k _ + 1 + _ ≤ 10000
      omega
    have e9 : (cws.map Cw.d).take k ++ [Cw.d ⟨c.num, c.nam, ask, back, ds2⟩] ++ (cws.map Cw.d).drop (k + 1) = (cws.set k ⟨c.num, c.nam, ask, back, ds2⟩).map Cw.d := by
      rw [set_cut (by rw [List.length_map]; exact hki), List.map_set]
    rw [e9] at g5
    have SZe := (S6c.trans Sd).trans Se
    refine done recs2 (cws.set k ⟨c.num, c.nam, ask, back, ds2⟩) _ _ _ _ (t3z.keep (Same.fk SZe) (Same.tk SZe)) (t4z.keep (Same.fk SZe) (Same.tk SZe)) g5 (pw2.setC hc rfl rfl cwZ) (KZ.same SZe) ((bZ.same SZe).mono (by omega))
end
end Fh

set_option Elab.async false
set_option linter.all false
set_option maxRecDepth 100000
set_option maxHeartbeats 4000000
namespace Fh
open PySem L2 PyProof.Rows
/-! ### what is wrong with the deeds of a call, by the law's own reckoning -/
def mnD (an : List Fl) : List Str → PyData
  | a :: b :: c :: r => if a = "ask" then dD (a :: b :: c :: r) else if setB an a b = true then .str b else .none
  | _ => .none
theorem mn_ask {an : List Fl} {b c : Str} {r : List Str} : mnD an ("ask" :: b :: c :: r) = dD ("ask" :: b :: c :: r) := by
  show (if ("ask" : Str) = "ask" then dD ("ask" :: b :: c :: r) else if setB an "ask" b = true then PyData.str b else .none) = _
  rw [if_pos rfl]
theorem mn_set {an : List Fl} {a b c : Str} {r : List Str} (n : a ≠ "ask") (h : setB an a b = true) : mnD an (a :: b :: c :: r) = .str b := by
  show (if a = "ask" then dD (a :: b :: c :: r) else if setB an a b = true then PyData.str b else .none) = _
  rw [if_neg n, if_pos h]
theorem mn_no {an : List Fl} {a b c : Str} {r : List Str} (n : a ≠ "ask") (h : setB an a b = false) : mnD an (a :: b :: c :: r) = .none := by
  show (if a = "ask" then dD (a :: b :: c :: r) else if setB an a b = true then PyData.str b else .none) = _
  rw [if_neg n, if_neg (by rw [h]; exact Bool.false_ne_true)]
theorem ef_set {an : List Fl} {a b c : Str} {r : List Str} (n : a ≠ "ask") (h : setB an a b = true) : effD an (a :: b :: c :: r) = dD ["set", b] := by
  show (if a = "ask" then dD (a :: b :: c :: r) else if setB an a b = true then PyData.tuple [.str "set", .str b] else .none) = _
  rw [if_neg n, if_pos h]
  rfl
theorem ef_no {an : List Fl} {a b c : Str} {r : List Str} (n : a ≠ "ask") (h : setB an a b = false) : effD an (a :: b :: c :: r) = .none := by
  show (if a = "ask" then dD (a :: b :: c :: r) else if setB an a b = true then PyData.tuple [.str "set", .str b] else .none) = _
  rw [if_neg n, if_neg (by rw [h]; exact Bool.false_ne_true)]
theorem two_ask {x b c : Str} {r : List Str} : decide ((["set", x] : List Str) = ("ask" : Str) :: b :: c :: r) = false := decide_eq_false fun q => by
  injection q with _ q
  injection q with _ q
  cases q
theorem ask_two {x b c : Str} {r : List Str} : decide (("ask" : Str) :: b :: c :: r = (["set", x] : List Str)) = false := decide_eq_false fun q => by
  injection q with _ q
  injection q with _ q
  cases q
theorem mn_s {an : List Fl} {x : Str} {e : List Str} (h : 3 ≤ e.length) : PyData.eqv (mnD an e) (.str x) = PyData.eqv (effD an e) (dD ["set", x]) := by
  obtain ⟨a, b, c, r, rfl⟩ := cut3 h
  by_cases n : a = "ask"
  · subst n
    rw [mn_ask, eff_ask, eqv_ts, eqv_dD, ask_two]
  · cases s : setB an a b with
    | true =>
      rw [mn_set n s, ef_set n s, eqv_ss, eqv_dD, Bool.eq_iff_iff, decide_eq_true_iff, decide_eq_true_iff]
      exact ⟨fun e => by rw [e], fun e => by injection e with _ e; injection e⟩
    | false =>
      rw [mn_no n s, ef_no n s]
      rfl
theorem mn_a {an : List Fl} {x y : Str} {q : List Str} {e : List Str} (h : 3 ≤ e.length) : PyData.eqv (mnD an e) (dD ("ask" :: x :: y :: q)) = PyData.eqv (effD an e) (dD ("ask" :: x :: y :: q)) := by
  obtain ⟨a, b, c, r, rfl⟩ := cut3 h
  by_cases n : a = "ask"
  · subst n
    rw [mn_ask, eff_ask]
  · cases s : setB an a b with
    | true => rw [mn_set n s, ef_set n s, eqv_st, eqv_dD, two_ask]
    | false =>
      rw [mn_no n s, ef_no n s]
theorem mn_eq {an : List Fl} {ahead : List (List Str)} {d : List Str} (hd : 3 ≤ d.length) (ha : ∀ e ∈ ahead, 3 ≤ e.length) :
    (!isNo (mnD an d) && (ahead.map (mnD an)).any fun z => PyData.eqv z (mnD an d)) = (!isNo (effD an d) && (ahead.map (effD an)).any fun z => PyData.eqv z (effD an d)) := by
  obtain ⟨a, b, c, r, rfl⟩ := cut3 hd
  by_cases n : a = "ask"
  · subst n
    rw [mn_ask, eff_ask]
    congr 1
    exact any_eq fun e he => mn_a (ha e he)
  · cases s : setB an a b with
    | true =>
      rw [mn_set n s, ef_set n s]
      show (true && _) = (true && _)
      congr 1
      exact any_eq fun e he => mn_s (ha e he)
    | false =>
      rw [mn_no n s, ef_no n s]
      rfl
theorem mn_un {an : List Fl} {c : Cw} (h : ∀ d ∈ c.ds, 3 ≤ d.length) (f : Fl) : unsB c an f = !((c.ds.map (mnD an)).any fun z => PyData.eqv z (.str f.nam)) := by
  unfold unsB
  congr 1
  exact (any_eq fun e he => mn_s (h e he)).symm
theorem mn_sh {an : List Fl} {d : List Str} (h : DdOk d) : Sh 1 (mnD an d) := by
  obtain ⟨a, b, c, r, rfl⟩ := h.cut
  by_cases n : a = "ask"
  · subst n
    rw [mn_ask]
    exact Sh.tup fun e he => by
      obtain ⟨z, hz, rfl⟩ := List.mem_map.mp he
      exact h.sh z hz
  · cases s : setB an a b with
    | true =>
      rw [mn_set n s]
      exact (h.sh b (by simp)).mono (Nat.zero_le _)
    | false =>
      rw [mn_no n s]
      exact ⟨rfl, Nat.zero_le _⟩
theorem mns_sh {an : List Fl} {ds : List (List Str)} (h : ∀ d ∈ ds, DdOk d) : SeqAt.shaped (.list (ds.map (mnD an))) = true ∧ PyData.depthAll (ds.map (mnD an)) ≤ 2 := by
  have a : ∀ e ∈ ds.map (mnD an), Sh 1 e := fun e he => by
    obtain ⟨d, hd, rfl⟩ := List.mem_map.mp he
    exact mn_sh (h d hd)
  exact ⟨(Sh.lst a).shaped (by decide), Nat.le_trans (depth_all _ fun e he => (a e he).2) (by decide)⟩
abbrev sDwr : Stmt := top 50
abbrev nDwr : List Str := ["_law_parts", "_law_one", "_law_number", "_law_word", "_law_ask", "_law_back", "_law_deeds", "_law_ins", "_law_outs", "_law_field", "_law_side", "_law_found", "_law_done", "_law_spot", "_law_deed", "_law_mine", "_law_name"]
abbrev pDwr : List Str := ["_law_parts", "_law_one"]
def spDwr : Sp := fun vs H Q _ => ∃ (v : V) (t : Addr) (own : Str) (age : Int) (cs : List Cho) (recs : List Rec) (cws : List Cw) (c : Cw), vs = [v, .ref t] ∧ PtF H v own age cs recs cws ∧ PtW own age cs recs cws ∧ Tp H (.ref t) c.d ∧ CwW c ∧ c.ask ∈ recs.map (·.1) ∧ c.ans ∈ recs.map (·.1) ∧
  ∀ (r : Addr) (T : List Row) (H' : Hp), Same H H' → H r = none → RwL H' r T → T.map (·.2) = wdeR own c (flO recs c.ask) (flO recs c.ans) c.ds.length ++ unsL c (flO recs c.ans) → Q (.ref r) H'
section
variable {P : Program} {w : World} {K : PySem.W.Frag} {mg : Str → Option Value} {base : Heap}
theorem scDwr : FnScope nDwr pDwr (defScope sDwr) := ⟨rfl, rfl, rfl, by decide +kernel, rfl, by decide +kernel, by decide +kernel⟩
theorem ok_dwr {f : Addr} {fd : FuncData} (F : Fun K "_law_deeds_wrong" "_law_deeds_wrong" sDwr f fd) (G : Glb mg) (DD : Has P w K mg base "_law_deed_right" 1 pDrt spDrt) : FnOk P w K mg base CX0 2 f fd pDwr spDwr := by
  refine F.ok scDwr (fun vs H Q E h => ?_) (fun cdv A outer s H vs Q E hr h => ?_)
  · obtain ⟨v, t, own, age, cs, recs, cws, c, rfl, _⟩ := h
    rfl
  · obtain ⟨v, t, own, age, cs, recs, cws, c, rfl, hv, pw, tc, cw9, m1, m2, q⟩ := h
    have hu := hu_of hr
    obtain ⟨p, v3, v4, v5, rfl, hp, t3, t4, t5⟩ := hv
    obtain ⟨pr, or, xr, rfl, hpr, plr, txr⟩ := TpF.inv t4
    obtain ⟨t', e, xs, et, ht, he, txs⟩ := cw_at tc
    cases et
    have cok := cw9.ok
    have l6 := cw9.l
    have lx : xs.length = c.ds.length := by rw [txs.length, List.length_map]
    refine ⟨_, (pss_cons (ps_asg (pv 1) (pg_tup rfl (pgs_cons (pg_name (i := 2) scDwr.nd rfl (Or.inl rfl)) (pgs_cons (pg_name (i := 3) scDwr.nd rfl (Or.inr rfl)) (pgs_cons (pg_name (i := 4) scDwr.nd rfl (Or.inl rfl)) (pgs_cons (pg_name (i := 5) scDwr.nd rfl (Or.inl rfl)) (pgs_cons (pg_name (i := 6) scDwr.nd rfl (Or.inl rfl)) pgs_nil)))))))
      (C8.pss_cut (ps_asg (pe_lc (own := [("_law_side", 10)]) (g := (gName 10)) (tt := tYes) (te := tCB (rDpL K) (tCons (tLc (iTup K (tDGet (tCB (rDictT K) (tCons (tOp (rIxT K) (tVar 0) (tC (.int 3))) tNil)) (tVar 10))) (gName 9) tYes (tTup (tCons (tOp (rIxT K) (tVar 9) (tC (.int 1))) (tCons (tSl (rSlA K) (tVar 9) (tPart (tC (.int 2))) tNoPart) tNil))) [9]) tNil)) rfl scDwr.nd (pi_tup (pe_tup (pa_cons (pv 4) (pa_cons (pv 5) pa_nil)))) (blkOk_by (N := nDwr) (sc := defScope sDwr) (by decide +kernel)) (fun _ _ _ _ _ => (pg_name (i := 10) scDwr.nd rfl (Or.inl rfl))) (fun _ _ _ _ _ => pts_nil) (fun _ _ _ _ _ => (pe_callTy (call_dpL rfl) (by rfl) G.dict (by decide +kernel) (pa_cons (pe_lc (own := [("_law_field", 9)]) (g := (gName 9)) (tt := tYes) (te := tTup (tCons (tOp (rIxT K) (tVar 9) (tC (.int 1))) (tCons (tSl (rSlA K) (tVar 9) (tPart (tC (.int 2))) tNoPart) tNil))) rfl scDwr.nd (pi_tup (pe_dget hu (pe_callTy (cr_dictT rfl) (by rfl) G.dict (by decide +kernel) (pa_cons (pe_ix ix_tup (pv 0) pe_int (fun _ _ => rfl)) pa_nil)) (pv 10) (fun _ _ => rfl))) (blk_in (N := nDwr) (by decide +kernel)) (fun _ _ _ _ _ => (pg_name (i := 9) scDwr.nd rfl (Or.inl rfl))) (fun _ _ _ _ _ => pts_nil) (fun _ _ _ _ _ => (pe_tup (pa_cons (pe_ix ix_tup (pv 9) pe_int (fun _ _ => rfl)) (pa_cons (pe_slice sl_tupA (pv 9) (po_some pe_int) po_none) pa_nil))))) pa_nil)))) (pg_lst rfl (pgs_cons (pg_name (i := 7) scDwr.nd rfl (Or.inl rfl)) (pgs_cons (pg_name (i := 8) scDwr.nd rfl (Or.inr rfl)) pgs_nil))))
      (pss_cons (ps_asg (pe_tup (pa_cons (pe_lst pa_nil) (pa_cons (pe_lst pa_nil) pa_nil))) (pg_tup rfl (pgs_cons (pg_name (i := 11) scDwr.nd rfl (Or.inl rfl)) (pgs_cons (pg_name (i := 12) scDwr.nd rfl (Or.inr rfl)) pgs_nil))))
      (C8.pss_cut (ps_for PassesOwn.never rfl (pi_enumT rfl G.enumerate (pa_cons (pv 6) pa_nil)) (pg_tup rfl (pgs_cons (pg_name (i := 13) scDwr.nd rfl (Or.inl rfl)) (pgs_cons (pg_name (i := 14) scDwr.nd rfl (Or.inl rfl)) pgs_nil)))
      (C8.pss_cut (ps_if (pt_not (pt_val (pe_has DD (hr.mono (by omega)) rfl (pa_cons (pe_ix ix_tup (pv 0) pe_int (fun _ _ => rfl)) (pa_cons (pv 7) (pa_cons (pv 8) (pa_cons (pv 14) (pa_cons (pe_slice sl_tupA (pv 6) po_none (po_some (pv 13))) pa_nil))))))))
      (pss_one (ps_expr (pe_bm PySem.F.plainAttrs_list PySem.F.slot_list_append PySem.F.type_list_append mt_append (pv 11) (pa_cons (pe_tup (pa_cons pe_str (pa_cons (pv 3) (pa_cons (pv 13) pa_nil)))) pa_nil))))
      pss_nil)
      (C8.pss_cut (ps_set (i := 15) scDwr.nd rfl (Or.inl rfl) (pe_ifExp (pt_cmpR op_eq (pe_ix ix_tup (pv 14) pe_int (fun _ _ => rfl)) pe_str (nomark _)) (pv 14) (pe_ifExp (PW.pt (pw_and (pt_cmpR op_in_seq (pe_ix ix_tup (pv 14) pe_int (fun _ _ => rfl)) (pe_tup (pa_cons pe_str (pa_cons pe_str (pa_cons pe_str pa_nil)))) rfl) (pw_and1 (pt_cmp (pc_din hu (pe_ix ix_tup (pv 14) pe_int (fun _ _ => rfl)) (pv 8)))))) (pe_ix ix_tup (pv 14) pe_int (fun _ _ => rfl)) pe_non)))
      (C8.pss_cut (ps_if (PW.pt (pw_and (pt_cmpR op_notN (pv 15) pe_non (nomark _)) (pw_and1 (pt_cmpR (op_inDL hr.units) (pv 15) (pv 12) rfl))))
      (pss_one (ps_expr (pe_bm PySem.F.plainAttrs_list PySem.F.slot_list_append PySem.F.type_list_append mt_append (pv 11) (pa_cons (pe_tup (pa_cons pe_str (pa_cons (pv 3) (pa_cons (pv 13) pa_nil)))) pa_nil))))
      pss_nil)
      (pss_one (ps_expr (pe_bm PySem.F.plainAttrs_list PySem.F.slot_list_append PySem.F.type_list_append mt_append (pv 12) (pa_cons (pv 15) pa_nil))))))))
      (pss_one (ps_lock (ps_ret (pe_op op_cat (pv 11) (pe_lc (own := [("_law_name", 16)]) (g := (gName 16)) (tt := tAnd (tTest (tOp rEq (tOp (rIxT K) (tDGet (tVar 8) (tVar 16)) (tC (.int 1))) (tC (.str "must")))) (tTest (tOp (rInDL K true) (tVar 16) (tVar 12)))) (te := tTup (tCons (tC (.str "unset")) (tCons (tVar 3) (tCons (tVar 16) tNil)))) rfl scDwr.nd (pi_keys (pv 8)) (blkOk_by (N := nDwr) (sc := defScope sDwr) (by decide +kernel)) (fun _ _ _ _ _ => (pg_name (i := 16) scDwr.nd rfl (Or.inl rfl))) (fun _ _ _ _ _ => pts_one (PW.pt (pw_and (pt_cmpR op_eq (pe_ix ix_tup (pe_dget hu (pv 8) (pv 16) (fun _ _ => rfl)) pe_int (fun _ _ => rfl)) pe_str (nomark _)) (pw_and1 (pt_cmpR (op_notInDL hr.units) (pv 16) (pv 12) rfl))))) (fun _ _ _ _ _ => (pe_tup (pa_cons pe_str (pa_cons (pv 3) (pa_cons (pv 16) pa_nil)))))))))))))), ?_⟩
    refine ⟨_, rfl, t, _, rfl, SqT.of ht, rfl, _, _, rfl, _, _, rfl, _, _, rfl, _, _, rfl, _, _, rfl, rfl, ?_⟩
    try dsimp only [List.set_cons_succ, List.set_cons_zero]
    refine ⟨fun σ H' => ∃ (D1 D2 : Addr) (a9 a10 a11 a12 a13 a14 a15 a16 : Option V), σ = [some (.ref p), some (.ref t), some (.int c.num), some (.str c.nam), some (.str c.ask), some (.str c.ans), some (.ref e), some (.ref D1), some (.ref D2), a9, a10, a11, a12, a13, a14, a15, a16] ∧ Same H H' ∧ FbN H' D1 (flO recs c.ask) ∧ FbN H' D2 (flO recs c.ans), ?_, ?_⟩
    · refine ⟨_, rfl, _, rfl, (by show 2 ≤ sizeLine; decide), fun t9 ht9 => ⟨t9, rfl, ⟨_, SqT.of upd_same⟩, fun Ds hDs => ?_⟩⟩
      have St := Same.new (H := H) (o := .tup [.str c.ask, .str c.ans]) ht9
      have et : (upd H t9 (.tup [.str c.ask, .str c.ans])) t9 = some (.tup [.str c.ask, .str c.ans]) := upd_same
      have hpT := St _ _ hp
      have hprT := St _ _ hpr
      have txrT := TpAll.keep (Same.tk St) _ _ txr
      generalize hHT : (upd H t9 (.tup [.str c.ask, .str c.ans])) = HT at *
      have mem2 : ∀ zz ∈ [c.ask, c.ans], zz ∈ recs.map (·.1) := fun zz hz => by
        simp only [List.mem_cons, List.not_mem_nil, or_false] at hz
        rcases hz with rfl | rfl
        · exact m1
        · exact m2
      refine lc_tup (xs := [V.str c.ask, .str c.ans]) (fun j H' => Same HT H' ∧ ∃ rs : List Addr, H' Ds = some (.lst (rs.map V.ref)) ∧ rs.length = j ∧ ∀ (i : Nat) (r : Addr), rs[i]? = some r → ∃ zz, [c.ask, c.ans][i]? = some zz ∧ FbN H' r (flO recs zz) ∧ r ≠ Ds) ?_ ?_ ?_ ?_
      · exact ⟨Same.new hDs, [], upd_same, rfl, fun i r h => nomatch h⟩
      · rintro j H' _ ⟨S', _⟩
        exact SqT.of (S' _ _ et)
      · rintro j y H' hy ⟨S', rs, hD', lrs9, hrs⟩
        obtain ⟨zz, hzz, rfl⟩ := mapAt (f := V.str) (l := [c.ask, c.ans]) hy
        refine ⟨rfl, yes (iteT ?_)⟩
        obtain ⟨ps', kvs', exr', prd', ek', k1', k2'⟩ := recs_dict (K := K) (TpAll.keep (Same.tk S') _ _ txrT) pw.rc.nd
        have fews : ps'.length < 1000 := by
          have e1 := congrArg List.length exr'
          have e2 := txr.length
          rw [List.length_map] at e1
          rw [List.length_map, List.length_map] at e2
          have := pw.rc.l6
          omega
        refine ⟨_, rfl, p, _, _, _, rfl, rfl, SqT.of (S' _ _ hpT), rfl, pr, or, ps', kvs', rfl, by rw [← exr']; exact S' _ _ hprT, plr, prd', fews, fun pd0 hpd0 => ?_⟩
        rw [merge_recs pw.rc.nd ek']
        have Sq := Same.new (H := H') (o := .dK kvs') hpd0
        have eq1 : (upd H' pd0 (.dK kvs')) pd0 = some (.dK kvs') := upd_same
        obtain ⟨v, hv, tv'⟩ := k2' zz (mem2 zz (List.mem_of_getElem? hzz))
        have tv := Tp.keep (Same.tk Sq) _ _ tv'
        generalize (upd H' pd0 (.dK kvs')) = Ha at *
        obtain ⟨fa, ys, rfl, hfa, ty⟩ := Tp.inv tv
        have S' := S'.trans Sq
        have hD' := Sq _ _ hD'
        have hrs : ∀ (i : Nat) (r : Addr), rs[i]? = some r → ∃ zz, [c.ask, c.ans][i]? = some zz ∧ FbN Ha r (flO recs zz) ∧ r ≠ Ds := fun i r h => by
          obtain ⟨z, b1, b2, b3⟩ := hrs i r h
          exact ⟨z, b1, b2.same Sq, b3⟩
        have fw := pw.rc.at zz
        refine ⟨_, rfl, pd0, _, rfl, by rw [← hv]; exact DGet.k (k := .inr zz) eq1, fa, rfl, ⟨_, SqT.of hfa⟩, fun Dl hDl => ?_⟩
        refine lcG_tup (xs := ys) (l := flO recs zz) (dx := Fl.d) (val := fbD) (keep := fun _ => true) (fun H' S => SqT.of (S _ _ hfa)) ty (Nat.lt_of_le_of_lt fw.l5 (by decide)) hDl ?_ ?_
        · intro k f x H'' hk S'' tf N M hN hM
          obtain ⟨t4, x1, x2, x3, x4, rfl, h4, t1, t2, t3, t4'⟩ := Tp.four tf
          rw [t2.istr] at h4
          refine ⟨rfl, yes (iteT ?_)⟩
          refine ⟨_, rfl, t4, _, _, _, rfl, rfl, SqT.of h4, rfl, _, rfl, _, rfl, npT ?_⟩
          refine tpSl (lo := some 2) (hi := none) tf fun r2 H2' S2' tr2 => ?_
          have tr2 : Tp H2' r2 (.tuple [f.kd.d, .str (needS f.must)]) := tr2
          refine ⟨(by show 2 ≤ sizeLine; decide), fun p7 hp7 => ?_⟩
          obtain ⟨S3', tp7⟩ := tupNew (xs := [.str f.nam, r2]) hp7 (.cons (.str f.nam) (.cons tr2 .nil))
          exact hM rfl _ _ (S2'.trans S3') tp7
        intro H3' zs S3' hDl' tz
        rw [filt_all] at tz
        obtain ⟨ps9, kvs9', rfl, prd9, ek9, fb'⟩ := tp_fbn tz fw.nd
        refine ⟨Dl, ps9, kvs9', rfl, SqL.of hDl', paired_imp (fun _ _ h => SqT.of h) prd9, fun pd hpd => ?_⟩
        rw [merge_fl fw.nd ek9]
        have S4' := Same.new (H := H3') (o := .dK kvs9') hpd
        have e4 : (upd H3' pd (.dK kvs9')) pd = some (.dK kvs9') := upd_same
        have hD3 := S3' _ _ hD'
        have npD : pd ≠ Ds := fun e => by rw [e, hD3] at hpd; cases hpd
        have S34 := S3'.trans S4'
        have fbn4 : FbN (upd H3' pd (.dK kvs9')) pd (flO recs zz) := ⟨kvs9', e4, ek9, fun f hf => let ⟨t, u, a, b, c⟩ := fb' f hf; ⟨t, u, a, S4' _ _ b, Tp.keep (Same.tk S4') _ _ c⟩⟩
        generalize (upd H3' pd (.dK kvs9')) = H4' at *
        have hD4 := S34 _ _ hD'
        have W : Tk H4' (upd H4' Ds (.lst (rs.map V.ref ++ [.ref pd]))) := Tk.wr hD4
        have fbk : ∀ {D : Addr} {fl : List Fl}, FbN H4' D fl → D ≠ Ds → FbN (upd H4' Ds (.lst (rs.map V.ref ++ [.ref pd]))) D fl := fun {D} {fl} h n => by
          obtain ⟨kvs, h1, h2, h3⟩ := h
          exact ⟨kvs, by rw [upd_ne n]; exact h1, h2, fun f hf => let ⟨t, u, a, b, c⟩ := h3 f hf; ⟨t, u, a, W _ _ b, Tp.keep W _ _ c⟩⟩
        refine ⟨_, hD4, ?_, Same.wr (S'.trans S34) hDs, rs ++ [pd], by rw [upd_same, List.map_append]; rfl, by rw [List.length_append, lrs9]; rfl, fun i r hr => ?_⟩
        · rw [List.length_map, lrs9]
          have := (List.getElem?_eq_some_iff.mp hzz).1
          exact Nat.lt_of_lt_of_le this (show 2 ≤ sizeLine by decide)
        · by_cases hi' : i < rs.length
          · rw [List.getElem?_append_left hi'] at hr
            obtain ⟨zz', q1, q2, q5⟩ := hrs i r hr
            exact ⟨zz', q1, fbk (q2.same S34) q5, q5⟩
          · rw [List.getElem?_append_right (by omega)] at hr
            have hi2 : i = rs.length := by
              have := (List.getElem?_eq_some_iff.mp hr).1
              simp at this
              omega
            subst hi2
            rw [Nat.sub_self] at hr
            cases hr
            rw [← lrs9] at hzz
            exact ⟨zz, hzz, fbk fbn4 npD, npD⟩
      · rintro H' ⟨S', rs, hD', lrs9, hrs⟩
        match rs, lrs9 with
        | [s1, s2], _ =>
          obtain ⟨z1, q1, q2, q5⟩ := hrs 0 s1 rfl
          obtain ⟨z2, w1, w2, w5⟩ := hrs 1 s2 rfl
          cases q1
          cases w1
          refine ⟨Ds, _, rfl, SqL.of hD', rfl, _, _, rfl, _, _, rfl, rfl, ?_⟩
          try dsimp only [List.set_cons_succ, List.set_cons_zero]
          exact ⟨s1, s2, _, _, _, _, _, _, _, _, rfl, St.trans S', q2, w2⟩
    rintro σ H2 ⟨D1, D2, a9, a10, a11, a12, a13, a14, a15, a16, rfl, S02, fb1, fb2⟩
    have fw1 := pw.rc.at c.ask
    have fw2 := pw.rc.at c.ans
    have okD := fw1.ok
    have okE := fw2.ok
    have hp2 := S02 _ _ hp
    generalize hIN : flO recs c.ask = inn at *
    generalize hAN : flO recs c.ans = an at *
    refine ⟨Nat.zero_le _, fun Fo hFo => ?_⟩
    have S3 : Same H2 (upd H2 Fo (.lst [])) := Same.new hFo
    have e3 : (upd H2 Fo (.lst [])) Fo = some (.lst []) := upd_same
    generalize (upd H2 Fo (.lst [])) = H3 at *
    refine ⟨Nat.zero_le _, fun Dn hDn => ?_⟩
    have S4 : Same H3 (upd H3 Dn (.lst [])) := Same.new hDn
    have e4 : (upd H3 Dn (.lst [])) Dn = some (.lst []) := upd_same
    have e3' := S4 _ _ e3
    have nFD : Fo ≠ Dn := fun h => by rw [← h, e3] at hDn; cases hDn
    have Dn0 : H2 Dn = none := S3.free hDn
    have S24 := S3.trans S4
    generalize (upd H3 Dn (.lst [])) = H4 at *
    refine ⟨(by show 2 ≤ sizeLine; decide), fun t9 ht9 => ?_⟩
    have St := Same.new (H := H4) (o := .tup [.ref Fo, .ref Dn]) ht9
    have et9 : (upd H4 t9 (.tup [.ref Fo, .ref Dn])) t9 = some (.tup [.ref Fo, .ref Dn]) := upd_same
    have e3'' := St _ _ e3'
    have e4' := St _ _ e4
    have S25 := S24.trans St
    generalize (upd H4 t9 (.tup [.ref Fo, .ref Dn])) = H4' at *
    refine ⟨t9, _, rfl, SqT.of et9, rfl, _, _, rfl, _, _, rfl, rfl, ?_⟩
    try dsimp only [List.set_cons_succ, List.set_cons_zero]
    have small : ∀ {T' : List Row}, T'.length ≤ 100 → (T'.map fun q => V.ref q.1).length < sizeLine := fun {T'} h => by
      rw [List.length_map]
      exact Nat.lt_of_le_of_lt h (by decide)
    refine ⟨fun σ H' => ∃ (T : List Row) (vs : List V) (a9 a10 a13 a14 a15 a16 : Option V), σ = [some (.ref p), some (.ref t), some (.int c.num), some (.str c.nam), some (.str c.ask), some (.str c.ans), some (.ref e), some (.ref D1), some (.ref D2), a9, a10, some (.ref Fo), some (.ref Dn), a13, a14, a15, a16] ∧ Same H2 H' ∧ RwL H' Fo T ∧ T.map (·.2) = wdeR own c inn an c.ds.length ∧ H' Dn = some (.lst vs) ∧ EfAll H' vs (c.ds.map (mnD an)), ?_, ?_⟩
    · refine ⟨_, rfl, e, xs, rfl, SqT.of ((S02.trans S25) _ _ he), ?_⟩
      refine L2.for_it walk_enumT (fun j σ H5 => ∃ (T : List Row) (vs : List V) (a9 a10 a13 a14 a15 a16 : Option V), σ = [some (.ref p), some (.ref t), some (.int c.num), some (.str c.nam), some (.str c.ask), some (.str c.ans), some (.ref e), some (.ref D1), some (.ref D2), a9, a10, some (.ref Fo), some (.ref Dn), a13, a14, a15, a16] ∧ Same H2 H5 ∧ RwL H5 Fo T ∧ T.map (·.2) = wdeR own c inn an j ∧ H5 Dn = some (.lst vs) ∧ EfAll H5 vs ((c.ds.take j).map (mnD an))) ?_ ?_ ?_ ?_
      · exact ⟨[], [], _, _, _, _, _, _, rfl, S25, RwL.nil e3'', rfl, e4', .nil⟩
      · rintro j σ H5 _ ⟨T, vs, _, _, _, _, _, _, _, S5, _⟩
        exact SqT.of (S5 _ _ (S02 _ _ he))
      · rintro j x σ H5 H6 hj ⟨T, vs, a9, a10, a13, a14, a15, a16, rfl, S5, X5, eT5, h5D, ef5⟩ ⟨Tt, y1, y2, rfl, hT, rfl, g1, g2⟩
        cases g1
        obtain ⟨dd, hd1, td⟩ := txs.get' g2
        obtain ⟨d, hdd, rfl⟩ := mapAt hd1
        have dok := cok.ok d (List.mem_of_getElem? hdd)
        have dw := cw9.ds d (List.mem_of_getElem? hdd)
        have hj20 : j < c.ds.length := (List.getElem?_eq_some_iff.mp hdd).1
        obtain ⟨td1, rfl, htd⟩ := dD_at td
        obtain ⟨a, b, c3, r, rfl⟩ := dok.cut
        have S6 : Same H5 (upd H5 Tt (.tup [.int (j : Nat), .ref td1])) := Same.new hT
        have eT : (upd H5 Tt (.tup [.int (j : Nat), .ref td1])) Tt = some (.tup [.int (j : Nat), .ref td1]) := upd_same
        have X6 := X5.same S6
        have h6D := S6 _ _ h5D
        have ef6 := ef5.same (Same.tk S6)
        have S26 := S5.trans S6
        generalize (upd H5 Tt (.tup [.int (j : Nat), .ref td1])) = H6 at *
        refine ⟨Tt, _, rfl, SqT.of eT, rfl, _, _, rfl, _, _, rfl, rfl, ?_⟩
        try dsimp only [List.set_cons_succ, List.set_cons_zero]
        have S06 := S02.trans S26
        have htd6 := S06 _ _ htd
        have hp6 := S06 _ _ hp
        have tex : Tp H6 (.ref e) (.tuple (c.ds.map dD)) := .tup (S06 _ _ he) (TpAll.keep (Same.tk S06) _ _ txs)
        have two : ∀ {H' : Hp} {T' : List Row} {t9 : Addr} {y : List Key}, Same H2 H' → RwL H' Fo T' → H' Dn = some (.lst vs) → H' t9 = none →
            Same H2 (upd (upd H' t9 (.tup (y.map kV))) Fo (.lst (T'.map (fun q => V.ref q.1) ++ [.ref t9]))) ∧ RwL (upd (upd H' t9 (.tup (y.map kV))) Fo (.lst (T'.map (fun q => V.ref q.1) ++ [.ref t9]))) Fo (T' ++ [(t9, y)]) ∧ (upd (upd H' t9 (.tup (y.map kV))) Fo (.lst (T'.map (fun q => V.ref q.1) ++ [.ref t9]))) Dn = some (.lst vs) ∧ Tk H' (upd (upd H' t9 (.tup (y.map kV))) Fo (.lst (T'.map (fun q => V.ref q.1) ++ [.ref t9]))) := fun {H' T' t9 y} S' X' hD' ht9 => by
          have n1 : Dn ≠ t9 := fun h => by rw [← h, hD'] at ht9; cases ht9
          have hFo' : (upd H' t9 (.tup (y.map kV))) Fo = some (.lst (T'.map fun q => V.ref q.1)) := Same.new ht9 _ _ X'.l
          exact ⟨Same.two S' hFo ht9, RwL.more X' ht9, by rw [upd_ne (Ne.symm nFD), upd_ne n1]; exact hD', (Same.tk (Same.new ht9)).trans (Tk.wr hFo')⟩
        have lT : T.length ≤ 2 * j := by
          have := congrArg List.length eT5
          rw [List.length_map] at this
          rw [this]
          exact wde_len j
        refine ⟨fun σ H' => ∃ (T' : List Row) (a9 a10 a15 a16 : Option V), σ = [some (.ref p), some (.ref t), some (.int c.num), some (.str c.nam), some (.str c.ask), some (.str c.ans), some (.ref e), some (.ref D1), some (.ref D2), a9, a10, some (.ref Fo), some (.ref Dn), some (.int (j : Nat)), some (.ref td1), a15, a16] ∧ Same H2 H' ∧ RwL H' Fo T' ∧ T'.map (·.2) = wdeR own c inn an j ++ (if astB own inn an (a :: b :: c3 :: r) (c.ds.take j) = true then [] else [kAt "deed" c.nam j]) ∧ H' Dn = some (.lst vs) ∧ EfAll H' vs ((c.ds.take j).map (mnD an)) ∧ T'.length ≤ 2 * j + 1, ?_, ?_⟩
        · refine ⟨_, rfl, p, _, _, _, rfl, rfl, SqT.of hp6, rfl, _, rfl, _, rfl, _, rfl, _, rfl, npT ⟨_, rfl, _, rfl, ?_⟩⟩
          refine tpSl (lo := none) (hi := some ((j : Nat) : Int)) tex fun rs Hy Sy tr => ?_
          rw [cutG_to, ← List.map_take] at tr
          obtain ⟨ra, rxs, rfl, hra, trx⟩ := Tp.inv tr
          have fx1 := (fb1.same S26).same Sy
          have fx2 := (fb2.same S26).same Sy
          refine ⟨td1, D1, D2, ra, own, inn, an, a, b, c3, r, rxs, c.ds.take j, rfl, Sy _ _ htd6, dw.2.2.2, fx1, fx2, okD, okE, hra, trx, ?_, ?_, fun H8 Sz => ?_⟩
          · intro y hy e0
            have := (cw9.ds y (List.mem_of_mem_take hy)).1
            rw [e0] at this
            exact absurd this (by decide)
          · rw [List.length_take]
            omega
          have S68 := Sy.trans Sz
          have S28 := S26.trans S68
          refine ⟨_, rfl, ?_⟩
          cases hb : astB own inn an (a :: b :: c3 :: r) (c.ds.take j) with
          | true =>
            refine iteF ?_
            exact ⟨T, _, _, _, _, rfl, S28, X6.same S68, by rw [if_pos rfl, List.append_nil]; exact eT5, S68 _ _ h6D, ef6.same (Same.tk S68), by omega⟩
          | false =>
            refine iteT ?_
            refine ⟨_, rfl, .inl ⟨rfl, _, SqL.of (X6.same S68).l⟩, ?_⟩
            refine ⟨_, rfl, _, rfl, (by show 3 ≤ sizeLine; decide), fun t9 ht9 => ?_⟩
            have hFo' : (upd H8 t9 (.tup ((kAt "deed" c.nam j).map kV))) Fo = some (.lst (T.map fun q => V.ref q.1)) := Same.new ht9 _ _ (X6.same S68).l
            refine ⟨Fo, _, _, rfl, rfl, hFo', small (by omega), ?_⟩
            obtain ⟨z1, z2, z3, z4⟩ := two (y := kAt "deed" c.nam j) S28 (X6.same S68) (S68 _ _ h6D) ht9
            refine ⟨_, _, _, _, _, rfl, z1, z2, ?_, z3, (ef6.same (Same.tk S68)).same z4, ?_⟩
            · rw [List.map_append, eT5, if_neg Bool.false_ne_true]
              rfl
            · rw [List.length_append]
              show T.length + 1 ≤ _
              omega
        rintro σ H7 ⟨T7, a9, a10, a15, a16, rfl, S7, X7, eT7, h7D, ef7, lT7⟩
        have S07 := S02.trans S7
        have htd7 := S07 _ _ htd
        refine ⟨fun σ H' => ∃ (v : V) (a9 a10 a16 : Option V), σ = [some (.ref p), some (.ref t), some (.int c.num), some (.str c.nam), some (.str c.ask), some (.str c.ans), some (.ref e), some (.ref D1), some (.ref D2), a9, a10, some (.ref Fo), some (.ref Dn), some (.int (j : Nat)), some (.ref td1), some v, a16] ∧ Same H7 H' ∧ EfV H' v (mnD an (a :: b :: c3 :: r)), ?_, ?_⟩
        · refine ⟨_, rfl, td1, _, _, _, rfl, rfl, SqT.of htd7, at0, rfl, _, rfl, ite2 (fun h => ?_) (fun h => ?_)⟩
          · have n : a = "ask" := by
              have h1 := of_decide_eq_true h
              injection h1
            refine ⟨_, rfl, ?_⟩
            try dsimp only [List.set_cons_succ, List.set_cons_zero]
            refine ⟨.ref td1, _, _, _, rfl, Same.refl _, .inr ⟨(fun h => nomatch h), ?_, ?_⟩⟩
            · subst n
              rw [mn_ask]
              rfl
            · subst n
              rw [mn_ask]
              exact Tp.keep (Same.tk S07) _ _ td
          · have n : a ≠ "ask" := fun e => h (by rw [e]; exact decide_eq_true rfl)
            refine ⟨_, rfl, td1, _, _, _, rfl, rfl, SqT.of htd7, at0, (by show 3 ≤ sizeLine; decide), fun t0 ht0 => ?_⟩
            have S0 := Same.new (H := H7) (o := .tup [.str "tell", .str "copy", .str "get"]) ht0
            have e0 : (upd H7 t0 (.tup [.str "tell", .str "copy", .str "get"])) t0 = some (.tup [.str "tell", .str "copy", .str "get"]) := upd_same
            generalize (upd H7 t0 (.tup [.str "tell", .str "copy", .str "get"])) = H0 at *
            refine ⟨t0, _, rfl, .inr (SqT.of e0), rfl, rfl, _, rfl, ?_⟩
            show if setw a = true then _ else _
            cases hs : setw a with
            | false =>
              refine iteF (iteF ?_)
              try dsimp only [List.set_cons_succ, List.set_cons_zero]
              exact ⟨.non, _, _, _, rfl, S0, .inl ⟨rfl, mn_no n (show (setw a && inN an b) = false by rw [hs]; rfl)⟩⟩
            | true =>
              refine iteT ?_
              obtain ⟨kvs, hk, od⟩ := fbn_dget ((fb2.same S7).same S0) b
              have hin : (valV kvs (.inr b)).isSome = inN an b := by
                rcases od with ⟨e1, e2⟩ | ⟨g, t2, u2, e1, gm, e2, _⟩
                · unfold inN
                  rw [e1, e2]
                  rfl
                · unfold inN
                  rw [e1, e2]
                  rfl
              refine ⟨_, rfl, td1, _, _, _, rfl, rfl, SqT.of (S0 _ _ htd7), at1, _, rfl, D2, _, rfl, DGet.k (k := .inr b) hk, _, rfl, ?_⟩
              rw [hin]
              cases hi9 : inN an b with
              | false =>
                refine iteF ?_
                try dsimp only [List.set_cons_succ, List.set_cons_zero]
                exact ⟨.non, _, _, _, rfl, S0, .inl ⟨rfl, mn_no n (show (setw a && inN an b) = false by rw [hs, hi9]; rfl)⟩⟩
              | true =>
                refine iteT ?_
                refine ⟨_, rfl, td1, _, _, _, rfl, rfl, SqT.of (S0 _ _ htd7), at1, ?_⟩
                try dsimp only [List.set_cons_succ, List.set_cons_zero]
                have em : mnD an (a :: b :: c3 :: r) = .str b := mn_set n (show (setw a && inN an b) = true by rw [hs, hi9]; rfl)
                exact ⟨.str b, _, _, _, rfl, S0, .inr ⟨(fun h => nomatch h), by rw [em]; rfl, by rw [em]; exact .str _⟩⟩
        rintro σ H8 ⟨v, a9, a10, a16, rfl, S78, efv⟩
        have S8 := S7.trans S78
        have X8 := X7.same S78
        have h8D := S78 _ _ h7D
        have ef8 := ef7.same (Same.tk S78)
        have effsh := mns_sh (an := an) (ds := c.ds.take j) fun d hd => cok.ok d (List.mem_of_mem_take hd)
        have dsh : SeqAt.shaped (mnD an (a :: b :: c3 :: r)) = true := (mn_sh dok).shaped (by decide)
        have meq := mn_eq (an := an) (ahead := c.ds.take j) (d := a :: b :: c3 :: r) dok.l fun e he => (cok.ok e (List.mem_of_mem_take he)).l
        refine ⟨fun σ H' => ∃ (T' : List Row) (a9 a10 a16 : Option V), σ = [some (.ref p), some (.ref t), some (.int c.num), some (.str c.nam), some (.str c.ask), some (.str c.ans), some (.ref e), some (.ref D1), some (.ref D2), a9, a10, some (.ref Fo), some (.ref Dn), some (.int (j : Nat)), some (.ref td1), some v, a16] ∧ Same H2 H' ∧ RwL H' Fo T' ∧ T'.map (·.2) = wdeR own c inn an j ++ wde1 own c inn an j (a :: b :: c3 :: r) ∧ H' Dn = some (.lst vs) ∧ EfAll H' vs ((c.ds.take j).map (mnD an)) ∧ EfV H' v (mnD an (a :: b :: c3 :: r)), ?_, ?_⟩
        · refine ⟨_, rfl, rfl, _, rfl, ?_⟩
          have ew : ∀ {tw : Bool}, (!isNo (mnD an (a :: b :: c3 :: r)) && ((c.ds.take j).map (mnD an)).any fun z => PyData.eqv z (mnD an (a :: b :: c3 :: r))) = tw → wdeR own c inn an j ++ wde1 own c inn an j (a :: b :: c3 :: r) = T7.map (·.2) ++ (if tw = true then [kAt "twice" c.nam j] else []) := fun {tw} h => by
            rw [eT7, List.append_assoc]
            unfold wde1
            rw [← meq, h]
          rcases id efv with ⟨rfl, e0⟩ | ⟨nv, e0, tv⟩
          · refine iteF (iteF ?_)
            refine ⟨T7, _, _, _, rfl, S8, X8, ?_, h8D, ef8, efv⟩
            rw [ew (tw := false) (by rw [e0]; rfl)]
            simp
          · rw [show (!decide (v = V.non)) = true by rw [decide_eq_false nv]; rfl]
            refine iteT ?_
            refine ⟨_, rfl, _, rfl, _, _, efv.dp, Dp.lst (SqL.of h8D) ef8.dp, dsh, effsh.1, effsh.2, _, rfl, ?_⟩
            rw [if_neg Bool.false_ne_true]
            cases hany : ((c.ds.take j).map (mnD an)).any fun z => PyData.eqv z (mnD an (a :: b :: c3 :: r)) with
            | false =>
              refine iteF ?_
              refine ⟨T7, _, _, _, rfl, S8, X8, ?_, h8D, ef8, efv⟩
              rw [ew (tw := false) (by rw [e0, hany]; rfl)]
              simp
            | true =>
              refine iteT ?_
              refine ⟨_, rfl, .inl ⟨rfl, _, SqL.of X8.l⟩, ?_⟩
              refine ⟨_, rfl, _, rfl, (by show 3 ≤ sizeLine; decide), fun t9 ht9 => ?_⟩
              have hFo' : (upd H8 t9 (.tup ((kAt "twice" c.nam j).map kV))) Fo = some (.lst (T7.map fun q => V.ref q.1)) := Same.new ht9 _ _ X8.l
              refine ⟨Fo, _, _, rfl, rfl, hFo', small (by omega), ?_⟩
              obtain ⟨z1, z2, z3, z4⟩ := two (y := kAt "twice" c.nam j) S8 X8 h8D ht9
              refine ⟨_, _, _, _, rfl, z1, z2, ?_, z3, ef8.same z4, efv.same z4⟩
              rw [ew (tw := true) (by rw [e0, hany]; rfl), List.map_append]
              rfl
        rintro σ H9 ⟨T9, a9, a10, a16, rfl, S9, X9, eT9, h9D, ef9, efv9⟩
        refine ⟨_, rfl, .inl ⟨rfl, _, SqL.of h9D⟩, _, rfl, Dn, _, _, rfl, rfl, h9D, ?_, ?_⟩
        · rw [ef9.len, List.length_map, List.length_take]
          exact Nat.lt_of_le_of_lt (show _ ≤ 20 by omega) (by decide)
        have W := Tk.wr (o := .lst (vs ++ [v])) h9D
        refine ⟨T9, vs ++ [v], _, _, _, _, _, _, rfl, Same.wr S9 Dn0, ⟨by rw [upd_ne nFD]; exact X9.l, fun q hq => W _ _ (X9.t q hq)⟩, ?_, upd_same, ?_⟩
        · rw [eT9]
          show _ = wdeR own c inn an j ++ (match c.ds[j]? with
            | some d => wde1 own c inn an j d
            | none => [])
          rw [hdd]
        · rw [List.take_add_one, hdd, List.map_append]
          exact (ef9.same W).snoc' (efv9.same W)
      · rintro σ H5 ⟨T, vs, a9, a10, a13, a14, a15, a16, rfl, S5, X5, eT5, h5D, ef5⟩
        rw [lx] at eT5 ef5
        rw [List.take_length] at ef5
        exact ⟨T, vs, _, _, _, _, _, _, rfl, S5, X5, eT5, h5D, ef5⟩
    rintro σ H5 ⟨T, vs, a9, a10, a13, a14, a15, a16, rfl, S5, X5, eT5, h5D, ef5⟩
    obtain ⟨kr, hkr, ekr, ykr⟩ := id (fb2.same S5)
    have nFD2 : Fo ≠ D2 := fun e => by rw [← e, X5.l] at hkr; cases hkr
    have nDD2 : Dn ≠ D2 := fun e => by rw [← e, h5D] at hkr; cases hkr
    refine ⟨D2, .dK kr, hkr, True.intro, fun od => ?_⟩
    obtain ⟨Hz, eHz⟩ : ∃ Hz, Hz = upd H5 D2 (.frz od (.dK kr)) := ⟨_, rfl⟩
    rw [← eHz]
    have hRz : Hz D2 = some (.frz od (.dK kr)) := by rw [eHz]; exact upd_same
    have bck : ∀ b o, H5 b = some o → b ≠ D2 → Hz b = some o := fun b o e q => by rw [eHz, upd_ne q]; exact e
    have tkz : Tk H5 Hz := fun b xs e => bck b _ e (fun q => by rw [q, hkr] at e; cases e)
    have effsh := mns_sh (an := an) (ds := c.ds) cok.ok
    have eU : unsL c an = (an.filter fun f => unsB c an f && f.must).map fun f => kUns c.nam f.nam := by
      unfold unsL unsF
      rw [List.filter_filter]
    have lan := fw2.l5
    refine ⟨_, rfl, ?_⟩
    refine ⟨_, rfl, D2, od, rfl, .inl ⟨kr, hRz, fun Dl hDl => ?_⟩⟩
    refine L2.lc_it (walk_keys (d := D2) (o := od) (kvs := kr)) (fun i H7 => Same Hz H7 ∧ ∃ T7 : List Row, RwL H7 Dl T7 ∧ T7.map (·.2) = ((an.take i).filter fun f => unsB c an f && f.must).map fun f => kUns c.nam f.nam) ?_ ?_ ?_ ?_
    · exact ⟨Same.new hDl, [], RwL.nil upd_same, rfl⟩
    · rintro i H7 _ ⟨S7, _⟩
      exact S7 _ _ hRz
    · rintro i x H7' H7 hi ⟨S7, T7, X7, eT7⟩ ⟨rfl, kk, vv, hkk, rfl⟩
      have h1 : (kr.map Prod.fst)[i]? = some kk := by rw [List.getElem?_map, hkk]; rfl
      rw [ekr] at h1
      obtain ⟨g, hg, rfl⟩ := mapAt h1
      have gm := List.mem_of_getElem? hg
      obtain ⟨t5', u5, v5, ht5, tu5⟩ := ykr g gm
      have nt5 : t5' ≠ D2 := fun e => by rw [e, hkr] at ht5; cases ht5
      have st : (an.take (i + 1)).filter (fun f => unsB c an f && f.must) = (an.take i).filter (fun f => unsB c an f && f.must) ++ (if (unsB c an g && g.must) = true then [g] else []) := by
        rw [List.take_add_one, hg, List.filter_append]
        congr 1
        show List.filter (fun f => unsB c an f && f.must) [g] = _
        cases hm : (unsB c an g && g.must) <;> simp [List.filter, hm]
      have hR7 := S7 _ _ hRz
      refine ⟨rfl, ?_⟩
      try dsimp only [List.set_cons_succ, List.set_cons_zero]
      refine ⟨_, rfl, _, rfl, D2, _, rfl, .inl ⟨kr, Sum.inr g.nam, .inr ⟨od, hR7⟩, rfl, v5.symm⟩, t5', _, _, _, rfl, rfl, SqT.of (S7 _ _ (bck _ _ ht5 nt5)), rfl, rfl, _, rfl, ?_⟩
      rw [need_must]
      cases q2 : g.must with
      | false =>
        refine iteF (iteF ⟨S7, T7, X7, ?_⟩)
        rw [st, if_neg (by rw [q2, Bool.and_false]; exact Bool.false_ne_true), List.append_nil]
        exact eT7
      | true =>
        refine iteT ?_
        refine ⟨_, rfl, _, rfl, _, _, .str g.nam, Dp.lst (SqL.of (S7 _ _ (bck _ _ h5D nDD2))) (ef5.same (tkz.trans (Same.tk S7))).dp, (okE.ns g gm).shaped (by decide), effsh.1, effsh.2, _, rfl, ?_⟩
        rw [if_pos rfl]
        have un := mn_un (an := an) (c := c) (fun d hd => (cok.ok d hd).l) g
        cases hany : (c.ds.map (mnD an)).any fun z => PyData.eqv z (.str g.nam) with
        | true =>
          refine iteF ⟨S7, T7, X7, ?_⟩
          rw [st, if_neg (by rw [un, hany]; exact Bool.false_ne_true), List.append_nil]
          exact eT7
        | false =>
          refine iteT ⟨_, rfl, _, rfl, (by show 3 ≤ sizeLine; decide), fun t7 ht7 => ?_⟩
          have nT : Dl ≠ t7 := fun e => by rw [← e, X7.l] at ht7; cases ht7
          refine ⟨_, by rw [upd_ne nT]; exact X7.l, ?_, Same.two S7 hDl ht7, T7 ++ [(t7, kUns c.nam g.nam)], RwL.more (y := kUns c.nam g.nam) X7 ht7, ?_⟩
          · have e1 := congrArg List.length eT7
            rw [List.length_map, List.length_map] at e1
            have := List.length_filter_le (fun f => unsB c an f && f.must) (an.take i)
            rw [List.length_take] at this
            exact small (by omega)
          · rw [st, if_pos (by rw [un, hany, q2]; rfl), List.map_append, List.map_append, eT7]
            rfl
    · rintro H7 ⟨S7, T7, X7, eT7⟩
      have lk : kr.length = an.length := by
        have := congrArg List.length ekr
        rwa [List.length_map, List.length_map] at this
      rw [lk, List.take_length, ← eU] at eT7
      have l7 : T7.length ≤ 5 := by
        have e1 := congrArg List.length eT7
        rw [eU, List.length_map, List.length_map] at e1
        have := List.length_filter_le (fun f => unsB c an f && f.must) an
        omega
      have lT : T.length ≤ 12 := by
        have := congrArg List.length eT5
        rw [List.length_map] at this
        have := wde_len (nm := own) (c := c) (own := inn) (an := an) c.ds.length
        omega
      refine ⟨Fo, Dl, _, _, rfl, rfl, S7 _ _ (bck _ _ X5.l nFD2), X7.l, ?_, fun p9 hp9 => ?_⟩
      · rw [List.length_map, List.length_map, sizeLine_eq]
        omega
      have S8 := Same.new (H := H7) (o := .lst (T.map (fun q => V.ref q.1) ++ T7.map (fun q => V.ref q.1))) hp9
      have e8 : (upd H7 p9 (.lst (T.map (fun q => V.ref q.1) ++ T7.map (fun q => V.ref q.1)))) p9 = some (.lst (T.map (fun q => V.ref q.1) ++ T7.map (fun q => V.ref q.1))) := upd_same
      have nP : p9 ≠ D2 := fun e => by rw [e, S7 _ _ hRz] at hp9; cases hp9
      have P0 : H p9 = none := (S02.trans S5).free (by
        have h1 := S7.free hp9
        rw [eHz, upd_ne nP] at h1
        exact h1)
      generalize (upd H7 p9 (.lst (T.map (fun q => V.ref q.1) ++ T7.map (fun q => V.ref q.1)))) = H8 at *
      have Sf : Same H5 (upd H8 D2 (.dK kr)) := fun b o e => by
        by_cases q : b = D2
        · rw [q] at e ⊢
          rw [upd_same, ← e, hkr]
        · rw [upd_ne q]
          exact S8 _ _ (S7 _ _ (bck b o e q))
      refine ⟨S8 _ _ (S7 _ _ hRz), q p9 (T ++ T7) _ ((S02.trans S5).trans Sf) P0 ⟨by rw [upd_ne nP, e8, List.map_append], fun q hq => ?_⟩ ?_⟩
      · rcases List.mem_append.mp hq with h | h
        · exact Sf _ _ (X5.t q h)
        · have h1 := X7.t q h
          rw [upd_ne (fun e => by rw [e, S7 _ _ hRz] at h1; cases h1)]
          exact S8 _ _ h1
      · rw [List.map_append, eT5, eT7]
end
end Fh

set_option Elab.async false
set_option linter.all false
set_option maxRecDepth 100000
set_option maxHeartbeats 4000000
namespace Fh
open PySem L2 PyProof.Rows
abbrev sNbd : Stmt := top 47
abbrev nNbd : List Str := ["_law_parts", "_law_kind", "_law_inner"]
/-- a face's parts, choices and records held as the very objects -/
def PartsR (H : Hp) (p : Addr) (cs rs : List (Str × PyData)) : Prop := ∃ (c r e : Addr) (oc ow : Obj) (xc xr : List V) (v1 v2 : V), H p = some (.tup [v1, v2, .ref c, .ref r, .ref e]) ∧
  H c = some (.frz oc (.tup xc)) ∧ PlainT oc ∧ TpAll H xc (cs.map fun r => .tuple [.str r.1, r.2]) ∧ H r = some (.frz ow (.tup xr)) ∧ PlainT ow ∧ TpAll H xr (rs.map fun r => .tuple [.str r.1, r.2]) ∧ e = e
theorem PartsR.same {H H' : Hp} {p : Addr} {cs rs : List (Str × PyData)} (h : PartsR H p cs rs) (s : Same H H') : PartsR H' p cs rs := by
  obtain ⟨c, r, e, oc, ow, xc, xr, v1, v2, h1, h2, h3, h4, h5, h6, h7, h8⟩ := h
  exact ⟨c, r, e, oc, ow, xc, xr, v1, v2, s _ _ h1, s _ _ h2, h3, TpAll.keep (Same.tk s) _ _ h4, s _ _ h5, h6, TpAll.keep (Same.tk s) _ _ h7, rfl⟩
/-- x[i] of a text or a tuple -/
theorem merge_has (k : Key) : ∀ (l acc : List (Key × V)), (valV (mergeK acc l) k).isSome = true ↔ (valV acc k).isSome = true ∨ k ∈ l.map Prod.fst
  | [], acc => by
    show (valV acc k).isSome = true ↔ _
    simp
  | p :: l, acc => by
    show (valV (mergeK (putK acc p.1 p.2) l) k).isSome = true ↔ _
    rw [merge_has k l, valV_put, List.map_cons, List.mem_cons]
    by_cases e : k = p.1
    · rw [if_pos e]
      exact ⟨fun _ => .inr (.inl e), fun _ => .inl rfl⟩
    · rw [if_neg e]
      exact ⟨fun h => h.elim .inl fun h => .inr (.inr h), fun h => h.elim .inl fun h => h.elim (fun h => absurd h e) .inr⟩
/-- pairs with texts, as dict() takes them -/
theorem pairs_in {K : PySem.W.Frag} {H : Hp} : ∀ {xs : List V} {rows : List (Str × PyData)}, TpAll H xs (rows.map fun r => .tuple [.str r.1, r.2]) → ∃ (ps : List Addr) (kvs : List (Key × V)), xs = ps.map V.ref ∧ ps.length = rows.length ∧ kvs.map Prod.fst = rows.map (fun r => Sum.inr r.1) ∧ Paired (fun p kv => SqT K H p [kV kv.1, kv.2]) ps kvs
  | xs, [], q => by
    rw [List.map_nil] at q
    cases q.inil
    exact ⟨[], [], rfl, rfl, rfl, .nil⟩
  | xs, r :: rows, q => by
    rw [List.map_cons] at q
    obtain ⟨x, rest, rfl, hx, q2⟩ := q.icons
    obtain ⟨a, y, u, rfl, ha, hy, hu⟩ := Tp.pair hx
    cases hy.istr
    obtain ⟨ps, kvs, rfl, l, e, pr⟩ := pairs_in (K := K) q2
    exact ⟨a :: ps, (Sum.inr r.1, u) :: kvs, rfl, by simp [l], by simp [e], .cons (SqT.of ha) pr⟩
def spNbd : Sp := fun vs H Q _ => ∃ (p : Addr) (v : V) (k : Kn) (cs rs : List (Str × PyData)), vs = [.ref p, v] ∧ PartsR H p cs rs ∧ Tp H v k.d ∧ cs.length ≤ 100 ∧ rs.length ≤ 100 ∧
  ∀ (x : V) (H' : Hp), Same H H' → (nobK cs rs k = true → ∃ z, x = .str z ∧ k.nm = some z) → (nobK cs rs k = false → x = .non) → Q x H'
section
variable {P : Program} {w : World} {K : PySem.W.Frag} {mg : Str → Option Value} {base : Heap}
theorem scNbd : FnScope nNbd ["_law_parts", "_law_kind"] (defScope sNbd) := ⟨rfl, rfl, rfl, by decide +kernel, rfl, by decide +kernel, by decide +kernel⟩
theorem ok_nbd {f : Addr} {fd : FuncData} (F : Fun K "_law_nobody" "_law_nobody" sNbd f fd) (G : Glb mg) : FnOk P w K mg base CX0 1 f fd ["_law_parts", "_law_kind"] spNbd := by
  refine F.ok scNbd (fun vs H Q E h => ?_) (fun cdv A outer s H vs Q E hr h => ?_)
  · obtain ⟨p, v, k, cs, rs, rfl, _⟩ := h
    rfl
  · obtain ⟨p, v, k, cs, rs, rfl, hP, t, lc, lr, q⟩ := h
    have hu := hu_of hr
    refine ⟨_, C8.pss_cut (ps_set (i := 2) scNbd.nd rfl (Or.inl rfl) (pe_ifExp (pt_cmpR op_eq (pe_ix (ix_both ix_str ix_tup) (pv 1) pe_int (fun _ _ => rfl)) pe_str (nomark _)) (pe_ix ix_tup (pv 1) pe_int (fun _ _ => rfl)) (pv 1)))
      (pss_cons (ps_if (pt_val (pe_callB call_isi (by rfl) G.isi (by decide +kernel) (pa_cons (pv 2) (pa_cons (pe_bltn (v := .ty "str") rfl G.str (by decide +kernel) rfl) pa_nil)))) (pss_one (ps_ret pe_non)) pss_nil)
      (pss_one (ps_ret (pe_ifExp (pt_cmp (pc_din hu (pe_ix ix_tup (pv 2) pe_int (fun _ _ => rfl)) (pe_callTy (cr_dictT rfl) (by rfl) G.dict (by decide +kernel) (pa_cons (pe_ix ix_tup (pv 0) (pe_ix ix_list (pe_lst (pa_cons pe_int (pa_cons pe_int pa_nil))) (pe_callTy call_int1 (by rfl) G.int (by decide +kernel) (pa_cons (pe_cmpR op_eq (pe_ix ix_tup (pv 2) pe_int (fun _ _ => rfl)) pe_str (nomark _)) pa_nil)) (fun _ _ => rfl)) (fun _ _ => rfl)) pa_nil)))) pe_non (pe_ix ix_tup (pv 2) pe_int (fun _ _ => rfl)))))), ?_⟩
    obtain ⟨c, r, e, oc, ow, xc, xr, v1, v2, h1, h2, h3, h4, h5, h6, h7, h8⟩ := id hP
    refine ⟨fun σ H' => H' = H ∧ ∃ (u : V) (b : Kb), σ = [some (.ref p), some v, some u] ∧ Tp H u b.d ∧ nobK cs rs k = nobB cs rs b ∧ k.nm = b.nm, ?_, ?_⟩
    · rcases kn_inv t with ⟨rfl, hk⟩ | ⟨a, u, rfl, ha, tu⟩
      · rcases hk with rfl | rfl | rfl
        · refine ⟨_, rfl, .inl ⟨_, _, _, rfl, rfl, by decide +kernel, rfl, rfl, _, rfl, ?_⟩⟩
          exact ite2 (fun h => absurd (of_decide_eq_true h) (sne (by decide +kernel))) (fun _ => ⟨_, rfl, rfl, _, .whole, rfl, t, rfl, rfl⟩)
        · refine ⟨_, rfl, .inl ⟨_, _, _, rfl, rfl, by decide +kernel, rfl, rfl, _, rfl, ?_⟩⟩
          exact ite2 (fun h => absurd (of_decide_eq_true h) (sne (by decide +kernel))) (fun _ => ⟨_, rfl, rfl, _, .truth, rfl, t, rfl, rfl⟩)
        · refine ⟨_, rfl, .inl ⟨_, _, _, rfl, rfl, by decide +kernel, rfl, rfl, _, rfl, ?_⟩⟩
          exact ite2 (fun h => absurd (of_decide_eq_true h) (sne (by decide +kernel))) (fun _ => ⟨_, rfl, rfl, _, .text, rfl, t, rfl, rfl⟩)
      · refine ⟨_, rfl, .inr ⟨a, _, _, _, rfl, rfl, SqT.of ha, rfl, rfl, _, rfl, ?_⟩⟩
        cases k with
        | lst b =>
          exact ite2 (fun _ => ⟨_, rfl, a, _, _, _, rfl, rfl, SqT.of ha, rfl, rfl, u, b, rfl, tu, rfl, rfl⟩) (fun h => absurd (decide_eq_true rfl) h)
        | one b =>
          cases b with
          | whole => cases t
          | truth => cases t
          | text => cases t
          | rc z => exact ite2 (fun h => absurd (of_decide_eq_true h) (sne (by decide +kernel : ("record" : Str) ≠ "list"))) (fun _ => ⟨_, rfl, rfl, _, .rc z, rfl, t, rfl, rfl⟩)
          | ch z => exact ite2 (fun h => absurd (of_decide_eq_true h) (sne (by decide +kernel : ("choice" : Str) ≠ "list"))) (fun _ => ⟨_, rfl, rfl, _, .ch z, rfl, t, rfl, rfl⟩)
    · rintro σ H' ⟨rfl, u, b, rfl, tu, en, enm⟩
      rw [en] at q
      cases b with
      | whole =>
        cases Tp.istr tu
        exact ⟨_, rfl, _, _, .type "str", .type "str", true, rfl, .ty _, .base (.str _), rfl, true, rfl, iteT (q .non H' (Same.refl H') (fun h => nomatch h) (fun _ => rfl))⟩
      | truth =>
        cases Tp.istr tu
        exact ⟨_, rfl, _, _, .type "str", .type "str", true, rfl, .ty _, .base (.str _), rfl, true, rfl, iteT (q .non H' (Same.refl H') (fun h => nomatch h) (fun _ => rfl))⟩
      | text =>
        cases Tp.istr tu
        exact ⟨_, rfl, _, _, .type "str", .type "str", true, rfl, .ty _, .base (.str _), rfl, true, rfl, iteT (q .non H' (Same.refl H') (fun h => nomatch h) (fun _ => rfl))⟩
      | rc z =>
        obtain ⟨a, x, y, rfl, ha, hx, hy⟩ := Tp.pair tu
        cases hx.istr
        cases hy.istr
        refine ⟨_, rfl, _, _, .type "tuple", .type "str", false, rfl, .ty _, .base (.tup ha), rfl, false, rfl, iteF ?_⟩
        refine ⟨_, rfl, a, _, _, _, rfl, rfl, SqT.of ha, rfl, _, rfl, (by show 2 ≤ sizeLine; decide), fun l hl => ?_⟩
        have S1 : Same H' (upd H' l (.lst [.int 2, .int 3])) := Same.new hl
        obtain ⟨ps, kvs, rfl, lp, ek, pr⟩ := pairs_in (K := K) (TpAll.keep (Same.tk S1) _ _ h7)
        have ed : decide (V.str "record" = V.str "record") = true := decide_eq_true rfl
        refine ⟨_, rfl, a, _, _, _, rfl, rfl, SqT.of (S1 _ _ ha), rfl, rfl, .inr ⟨_, rfl, l, _, _, .int 3, rfl, rfl, SqL.of upd_same, by rw [ed]; rfl, p, _, _, _, rfl, rfl, SqT.of (S1 _ _ h1), rfl, r, ow, ps, kvs, rfl, S1 _ _ h5, h6, pr, by rw [lp]; omega, fun d hd => ?_⟩⟩
        have S2 : Same H' (upd (upd H' l (.lst [.int 2, .int 3])) d (.dK (mergeK [] kvs))) := fun b o e => Same.new hd b o (S1 b o e)
        refine ⟨d, _, rfl, DGet.k (k := Sum.inr z) upd_same, _, rfl, ?_⟩
        have hm := merge_has (Sum.inr z) kvs []
        have hin : (Sum.inr z : Key) ∈ kvs.map Prod.fst ↔ z ∈ rs.map (·.1) := by
          rw [ek]
          constructor
          · intro h
            obtain ⟨r', hr', e'⟩ := List.mem_map.mp h
            cases e'
            exact List.mem_map.mpr ⟨r', hr', rfl⟩
          · intro h
            obtain ⟨r', hr', rfl⟩ := List.mem_map.mp h
            exact List.mem_map.mpr ⟨r', hr', rfl⟩
        refine ite2 (fun h => ?_) (fun h => ?_)
        · have hz : z ∈ rs.map (·.1) := by
            rcases hm.mp h with h | h
            · cases h
            · exact hin.mp h
          have en2 : nameIn z rs = true := decide_eq_true hz
          exact q .non _ S2 (fun h' => by
            have h2 : (!nameIn z rs) = true := h'
            rw [en2] at h2
            cases h2) (fun _ => rfl)
        · have hz : ¬ z ∈ rs.map (·.1) := fun h' => h (hm.mpr (.inr (hin.mpr h')))
          have en2 : nameIn z rs = false := decide_eq_false hz
          exact ⟨_, rfl, a, _, _, _, rfl, rfl, SqT.of (S2 _ _ ha), rfl, q (.str z) _ S2 (fun _ => ⟨z, rfl, by rw [enm]; rfl⟩) (fun h' => by
            have h2 : (!nameIn z rs) = false := h'
            rw [en2] at h2
            cases h2)⟩
      | ch z =>
        obtain ⟨a, x, y, rfl, ha, hx, hy⟩ := Tp.pair tu
        cases hx.istr
        cases hy.istr
        refine ⟨_, rfl, _, _, .type "tuple", .type "str", false, rfl, .ty _, .base (.tup ha), rfl, false, rfl, iteF ?_⟩
        refine ⟨_, rfl, a, _, _, _, rfl, rfl, SqT.of ha, rfl, _, rfl, (by show 2 ≤ sizeLine; decide), fun l hl => ?_⟩
        have S1 : Same H' (upd H' l (.lst [.int 2, .int 3])) := Same.new hl
        obtain ⟨ps, kvs, rfl, lp, ek, pr⟩ := pairs_in (K := K) (TpAll.keep (Same.tk S1) _ _ h4)
        have ed : decide (V.str "choice" = V.str "record") = false := decide_eq_false (sne (by decide +kernel))
        refine ⟨_, rfl, a, _, _, _, rfl, rfl, SqT.of (S1 _ _ ha), rfl, rfl, .inr ⟨_, rfl, l, _, _, .int 2, rfl, rfl, SqL.of upd_same, by rw [ed]; rfl, p, _, _, _, rfl, rfl, SqT.of (S1 _ _ h1), rfl, c, oc, ps, kvs, rfl, S1 _ _ h2, h3, pr, by rw [lp]; omega, fun d hd => ?_⟩⟩
        have S2 : Same H' (upd (upd H' l (.lst [.int 2, .int 3])) d (.dK (mergeK [] kvs))) := fun b o e => Same.new hd b o (S1 b o e)
        refine ⟨d, _, rfl, DGet.k (k := Sum.inr z) upd_same, _, rfl, ?_⟩
        have hm := merge_has (Sum.inr z) kvs []
        have hin : (Sum.inr z : Key) ∈ kvs.map Prod.fst ↔ z ∈ cs.map (·.1) := by
          rw [ek]
          constructor
          · intro h
            obtain ⟨r', hr', e'⟩ := List.mem_map.mp h
            cases e'
            exact List.mem_map.mpr ⟨r', hr', rfl⟩
          · intro h
            obtain ⟨r', hr', rfl⟩ := List.mem_map.mp h
            exact List.mem_map.mpr ⟨r', hr', rfl⟩
        refine ite2 (fun h => ?_) (fun h => ?_)
        · have hz : z ∈ cs.map (·.1) := by
            rcases hm.mp h with h | h
            · cases h
            · exact hin.mp h
          have en2 : nameIn z cs = true := decide_eq_true hz
          exact q .non _ S2 (fun h' => by
            have h2 : (!nameIn z cs) = true := h'
            rw [en2] at h2
            cases h2) (fun _ => rfl)
        · have hz : ¬ z ∈ cs.map (·.1) := fun h' => h (hm.mpr (.inr (hin.mpr h')))
          have en2 : nameIn z cs = false := decide_eq_false hz
          exact ⟨_, rfl, a, _, _, _, rfl, rfl, SqT.of (S2 _ _ ha), rfl, q (.str z) _ S2 (fun _ => ⟨z, rfl, by rw [enm]; rfl⟩) (fun h' => by
            have h2 : (!nameIn z cs) = false := h'
            rw [en2] at h2
            cases h2)⟩
end
end Fh

set_option Elab.async false
set_option linter.all false
set_option maxRecDepth 100000
set_option maxHeartbeats 4000000
namespace Fh
open PySem L2 PyProof.Rows
abbrev sSzs : Stmt := top 48
abbrev nSzs : List Str := ["_law_parts", "_law_one", "_law_fields", "_law_found", "_law_turn", "_law_sizes", "_law_field", "_law_size"]
/-- a dict has these sizes, None where there is none yet -/
def AOf (kvs : List (Key × V)) (D : Szs) : Prop := ∀ z : Str, (valV kvs (.inr z)).getD .non = optV (D z)
def nmK (recs : List Rec) : List Key := recs.map fun r => Sum.inr r.1
def rawV (D : Szs) : Kn → V
  | .lst _ => .int 1
  | .one (.rc z) => optV (D z)
  | .one (.ch _) => .int 1
  | .one _ => .int 0
theorem raw_kSz {cs rs : List (Str × PyData)} {D : Szs} {k : Kn} (h : nobK cs rs k = false) : optV (kSz cs rs D k) = rawV D k := by
  unfold kSz
  rw [if_neg (by rw [h]; exact Bool.false_ne_true)]
  cases k with
  | lst b => rfl
  | one b => cases b <;> rfl
theorem nob_kSz {cs rs : List (Str × PyData)} {D : Szs} {k : Kn} (h : nobK cs rs k = true) : kSz cs rs D k = none := if_pos h
def dispK (x : V) : List (Key × V) := [(Sum.inr "choice", .int 1), (Sum.inr "list", .int 1), (Sum.inr "record", x)]
theorem kne {a b : Str} (h : a ≠ b) : ¬ (Sum.inr a : Key) = Sum.inr b := fun e => h (Sum.inr.inj e)
theorem disp_eq (x : V) : mergeK [] (dispK x) = putK (putK (putK ([] : List (Key × V)) (Sum.inr "choice") (.int 1)) (Sum.inr "list") (.int 1)) (Sum.inr "record") x := rfl
theorem disp_rec (x : V) : valV (mergeK [] (dispK x)) (.inr "record") = some x := by
  rw [disp_eq]
  rw [valV_put, if_pos rfl]
theorem disp_list (x : V) : valV (mergeK [] (dispK x)) (.inr "list") = some (.int 1) := by
  rw [disp_eq]
  rw [valV_put, if_neg (kne (by decide +kernel)), valV_put, if_pos rfl]
theorem disp_choice (x : V) : valV (mergeK [] (dispK x)) (.inr "choice") = some (.int 1) := by
  rw [disp_eq]
  rw [valV_put, if_neg (kne (by decide +kernel)), valV_put, if_neg (kne (by decide +kernel)), valV_put, if_pos rfl]
theorem disp_other (x : V) {z : Str} (h1 : z ≠ "record") (h2 : z ≠ "list") (h3 : z ≠ "choice") : valV (mergeK [] (dispK x)) (.inr z) = none := by
  rw [disp_eq]
  rw [valV_put, if_neg (kne h1), valV_put, if_neg (kne h2), valV_put, if_neg (kne h3)]
  rfl
theorem putK_keys {κ : Type} [DecidableEq κ] {kvs : List (κ × V)} {k : κ} {v : V} (h : k ∈ kvs.map Prod.fst) : (putK kvs k v).map Prod.fst = kvs.map Prod.fst := by
  unfold putK
  have a : (kvs.any fun kv => decide (kv.1 = k)) = true := by
    rw [List.any_eq_true]
    obtain ⟨kv, m, e⟩ := List.mem_map.mp h
    exact ⟨kv, m, decide_eq_true e⟩
  rw [if_pos a, List.map_map]
  refine List.map_congr_left fun kv _ => ?_
  show (if kv.1 = k then (kv.1, v) else kv).1 = kv.1
  split <;> rfl
theorem merge_nodup : ∀ (l acc : List (Key × V)), ((acc ++ l).map Prod.fst).Nodup → mergeK acc l = acc ++ l
  | [], acc, _ => (List.append_nil acc).symm
  | p :: l, acc, h => by
    show mergeK (putK acc p.1 p.2) l = _
    have hn : p.1 ∉ acc.map Prod.fst := by
      rw [List.map_append, List.nodup_append] at h
      exact fun m => h.2.2 _ m _ (by rw [List.map_cons]; exact List.mem_cons_self) rfl
    rw [putK_new hn, merge_nodup l (acc ++ [(p.1, p.2)]) (by rw [List.append_assoc]; exact h), List.append_assoc]
    rfl
theorem aof_put {kvs : List (Key × V)} {D : Szs} (h : AOf kvs D) (x : Str) (v : Int) : AOf (putK kvs (.inr x) (.int v)) (putS D x (some v)) := by
  intro z
  unfold putS
  dsimp only
  rw [valV_put]
  by_cases e : z = x
  · subst e
    rw [if_pos rfl, if_pos rfl]
    rfl
  · rw [if_neg e, if_neg (kne e)]
    exact h z
theorem aof_start {recs : List Rec} : AOf (recs.map fun r => (Sum.inr r.1, V.non)) (fun _ => none) := by
  intro z
  unfold valV
  cases e : (recs.map fun r => ((Sum.inr r.1, V.non) : Key × V)).find? (fun kv => decide (kv.1 = Sum.inr z)) with
  | none => rfl
  | some kv =>
    obtain ⟨r, _, rfl⟩ := List.mem_map.mp (List.mem_of_find?_eq_some e)
    rfl
theorem fsz_eq (n : Int) : n + 3 + (if decide (n ≥ 200) = true then 1 else 0) = fsz n := by
  unfold fsz toldN
  by_cases h : n < 200
  · rw [if_pos h, if_neg (fun z => by have := of_decide_eq_true z; omega)]
    omega
  · rw [if_neg h, if_pos (decide_eq_true (by omega))]
    omega
def spSzs : Sp := fun vs H Q _ => ∃ (p : Addr) (cs : List (Str × PyData)) (recs : List Rec), vs = [.ref p] ∧ PartsR H p cs (recs.map rD) ∧ cs.length ≤ 100 ∧ RecsOk recs ∧ (recs.map (·.1)).Nodup ∧
  ∀ (d : Addr) (kvs : List (Key × V)) (H' : Hp), Same H H' → H d = none → H' d = some (.dK kvs) → kvs.map Prod.fst = nmK recs → AOf kvs (turns cs (recs.map rD) recs recs.length) → Q (.ref d) H'
end Fh

set_option Elab.async false
set_option linter.all false
set_option maxRecDepth 100000
set_option maxHeartbeats 4000000
namespace Fh
open PySem L2 PyProof.Rows
theorem rGetT.mono {K : PySem.W.Frag} {x : V} {ys : List V} {H : Hp} {Q Q' : VK} (h : rGetT K x ys H Q) (m : ∀ y H', Q y H' → Q' y H') : rGetT K x ys H Q' := by
  obtain ⟨a, y, e1, e2, h⟩ := h
  refine ⟨a, y, e1, e2, ?_⟩
  rcases h with ⟨o, g, q⟩ | ⟨b, k, kvs, e, h1, h2, q⟩
  · exact .inl ⟨o, g, m _ _ q⟩
  · exact .inr ⟨b, k, kvs, e, h1, h2, m _ _ q⟩
/-- what is got by a kind's parts -/
theorem kind_raw {K : PySem.W.Frag} {H : Hp} {v : V} {k : Kn} (t : Tp H v k.d) {kvs : List (Key × V)} {D : Szs} {d : Addr} (hd : H d = some (.dK kvs)) (ha : AOf kvs D) :
    (∃ (z : Str) (c0 c1 : Nat), v = .str z ∧ z.length ≤ sizeLine ∧ atI z.cps.toList 0 = some c0 ∧ atI z.cps.toList 1 = some c1 ∧ (one c0 : Str) ≠ "record" ∧ (one c0 : Str) ≠ "list" ∧ (one c0 : Str) ≠ "choice" ∧ rawV D k = .int 0) ∨
    ∃ (a : Addr) (w : Str) (u x : V), v = .ref a ∧ H a = some (.tup [.str w, u]) ∧ rGetT K (.ref d) [u] H (fun y H' => y = x ∧ H' = H) ∧ (valV (mergeK [] (dispK x)) (.inr w)).getD (.int 0) = rawV D k := by
  rcases kn_inv t with ⟨rfl, hk⟩ | ⟨a, u, rfl, hb, tu⟩
  · left
    rcases hk with rfl | rfl | rfl
    · exact ⟨_, _, _, rfl, by decide +kernel, rfl, rfl, by decide +kernel, by decide +kernel, by decide +kernel, rfl⟩
    · exact ⟨_, _, _, rfl, by decide +kernel, rfl, rfl, by decide +kernel, by decide +kernel, by decide +kernel, rfl⟩
    · exact ⟨_, _, _, rfl, by decide +kernel, rfl, rfl, by decide +kernel, by decide +kernel, by decide +kernel, rfl⟩
  · right
    cases k with
    | one b =>
      cases b with
      | whole => cases t
      | truth => cases t
      | text => cases t
      | rc z =>
        cases tu.istr
        refine ⟨a, _, _, optV (D z), rfl, hb, ⟨d, _, rfl, rfl, .inl ⟨_, DGet.k (k := Sum.inr z) hd, ha z, rfl⟩⟩, ?_⟩
        show (valV (mergeK [] (dispK _)) (.inr "record")).getD _ = _
        rw [disp_rec]
        rfl
      | ch z =>
        cases tu.istr
        refine ⟨a, _, _, _, rfl, hb, ⟨d, _, rfl, rfl, .inl ⟨_, DGet.k (k := Sum.inr z) hd, rfl, rfl⟩⟩, ?_⟩
        show (valV (mergeK [] (dispK _)) (.inr "choice")).getD _ = _
        rw [disp_choice]
        rfl
    | lst b =>
      have fin : ∀ x : V, (valV (mergeK [] (dispK x)) (.inr (Kn.lst b).word)).getD (.int 0) = rawV D (.lst b) := fun x => by
        show (valV (mergeK [] (dispK _)) (.inr "list")).getD _ = _
        rw [disp_list]
        rfl
      cases b with
      | whole => cases Tp.istr tu; exact ⟨a, _, _, _, rfl, hb, ⟨d, _, rfl, rfl, .inl ⟨_, DGet.k (k := Sum.inr "whole") hd, rfl, rfl⟩⟩, fin _⟩
      | truth => cases Tp.istr tu; exact ⟨a, _, _, _, rfl, hb, ⟨d, _, rfl, rfl, .inl ⟨_, DGet.k (k := Sum.inr "truth") hd, rfl, rfl⟩⟩, fin _⟩
      | text => cases Tp.istr tu; exact ⟨a, _, _, _, rfl, hb, ⟨d, _, rfl, rfl, .inl ⟨_, DGet.k (k := Sum.inr "text") hd, rfl, rfl⟩⟩, fin _⟩
      | rc z =>
        obtain ⟨b2, x, y, rfl, h2, hx, hy⟩ := Tp.pair tu
        cases hx.istr
        cases hy.istr
        exact ⟨a, _, _, .non, rfl, hb, ⟨d, _, rfl, rfl, .inr ⟨b2, [Sum.inr "record", Sum.inr z], kvs, rfl, h2, .inl hd, rfl, rfl⟩⟩, fin _⟩
      | ch z =>
        obtain ⟨b2, x, y, rfl, h2, hx, hy⟩ := Tp.pair tu
        cases hx.istr
        cases hy.istr
        exact ⟨a, _, _, .non, rfl, hb, ⟨d, _, rfl, rfl, .inr ⟨b2, [Sum.inr "choice", Sum.inr z], kvs, rfl, h2, .inl hd, rfl, rfl⟩⟩, fin _⟩
section
variable {P : Program} {w : World} {K : PySem.W.Frag} {mg : Str → Option Value} {base : Heap}
theorem scSzs : FnScope nSzs ["_law_parts"] (defScope sSzs) := ⟨rfl, rfl, rfl, by decide +kernel, rfl, by decide +kernel, by decide +kernel⟩
theorem ok_szs {f : Addr} {fd : FuncData} (F : Fun K "_law_all_sizes" "_law_all_sizes" sSzs f fd) (G : Glb mg) (DB : Has P w K mg base "_law_nobody" 1 ["_law_parts", "_law_kind"] spNbd) : FnOk P w K mg base CX0 2 f fd ["_law_parts"] spSzs := by
  refine F.ok scSzs (fun vs H Q E h => ?_) (fun cdv A outer s H vs Q E hr h => ?_)
  · obtain ⟨p, cs, recs, rfl, _⟩ := h
    rfl
  · obtain ⟨p, cs, recs, rfl, hP, lc, ok, nd, q⟩ := h
    have hu := hu_of hr
    refine ⟨_, (pss_cons (ps_set (i := 3) scSzs.nd rfl (Or.inl rfl) (pe_callTy (call_dictP rfl) (by rfl) G.dict (by decide +kernel) (pa_cons (pe_lc (own := [("_law_one", 1), ("_law_fields", 2)]) (g := (gTup K 2 (gCons (gName 1) (gCons (gName 2) gNil)))) (tt := tYes) (te := tTup (tCons (tVar 1) (tCons (tC .non) tNil))) rfl scSzs.nd (pi_tup (pe_ix ix_tup (pv 0) pe_int (fun _ _ => rfl))) (blkOk_by (N := nSzs) (sc := defScope sSzs) (by decide +kernel)) (fun _ _ _ _ _ => (pg_tup rfl (pgs_cons (pg_name (i := 1) scSzs.nd rfl (Or.inl rfl)) (pgs_cons (pg_name (i := 2) scSzs.nd rfl (Or.inl rfl)) pgs_nil)))) (fun _ _ _ _ _ => pts_nil) (fun _ _ _ _ _ => (pe_tup (pa_cons (pv 1) (pa_cons pe_non pa_nil))))) pa_nil)))
      (pss_cons (ps_for PassesOwn.never rfl (pi_range1 rfl G.range (pa_cons (pe_callB call_lenD (by rfl) G.len (by decide +kernel) (pa_cons (pv 3) pa_nil)) pa_nil)) (pg_name (i := 4) scSzs.nd rfl (Or.inl rfl))
      (pss_one (ps_for PassesOwn.never rfl (pi_tup (pe_ix ix_tup (pv 0) pe_int (fun _ _ => rfl))) (pg_tup rfl (pgs_cons (pg_name (i := 1) scSzs.nd rfl (Or.inl rfl)) (pgs_cons (pg_name (i := 2) scSzs.nd rfl (Or.inl rfl)) pgs_nil)))
      (pss_cons (ps_set (i := 5) scSzs.nd rfl (Or.inl rfl) (pe_lst pa_nil))
      (pss_cons (ps_for PassesOwn.never rfl (pi_tup (pv 2)) (pg_name (i := 6) scSzs.nd rfl (Or.inl rfl))
      (pss_one (ps_if (pt_cmpR op_eq (pe_ix ix_tup (pv 6) pe_int (fun _ _ => rfl)) pe_str (nomark _))
      (C8.pss_cut (ps_set (i := 7) scSzs.nd rfl (Or.inl rfl) (pe_dget2 hu (pe_disp (pps_cons pe_str pe_int (pps_cons pe_str pe_int (pps_cons pe_str (pe_bm PySem.F.plainAttrs_dict PySem.F.slot_dict_get PySem.F.type_dict_get (mt_getT hu) (pv 3) (pa_cons (pe_ix (ix_both ix_str ix_tup) (pe_ix ix_tup (pv 6) pe_int (fun _ _ => rfl)) pe_int (fun _ _ => rfl)) pa_nil)) pps_nil))) (by rfl) (by rfl) (fun z => by cases z) (by decide)) (pe_ix (ix_both ix_str ix_tup) (pe_ix ix_tup (pv 6) pe_int (fun _ _ => rfl)) pe_int (fun _ _ => rfl)) pe_int ⟨rfl, rfl, rfl, rfl⟩))
      (pss_one (ps_expr (pe_bm PySem.F.plainAttrs_list PySem.F.slot_list_append PySem.F.type_list_append mt_append (pv 5) (pa_cons (pe_ifExp (pt_cmpR op_notN (pe_has DB hr rfl (pa_cons (pv 0) (pa_cons (pe_ix ix_tup (pv 6) pe_int (fun _ _ => rfl)) pa_nil))) pe_non (nomark _)) pe_non (pv 7)) pa_nil)))))
      pss_nil)))
      (pss_one (ps_if (pt_cmpR op_notIn_seq pe_non (pv 5) rfl)
      (pss_one (ps_dput hu (pv 3) (pv 1) (pe_callB (cr_sum rfl) (by rfl) G.sum (by decide +kernel) (pa_cons (pe_lc (own := [("_law_size", 7)]) (g := (gName 7)) (tt := tYes) rfl scSzs.nd (pi_list (pv 5)) (blkOk_by (N := nSzs) (sc := defScope sSzs) (by decide +kernel)) (fun _ _ _ _ _ => (pg_name (i := 7) scSzs.nd rfl (Or.inl rfl))) (fun _ _ _ _ _ => pts_nil) (fun _ _ _ _ _ => (pe_op op_add (pe_op op_add (pv 7) pe_int) (pe_callTy call_int1 (by rfl) G.int (by decide +kernel) (pa_cons (pe_cmpR op_ge (pv 7) pe_int (nomark _)) pa_nil))))) pa_nil)) rfl))
      pss_nil)))))))
      (pss_one (ps_ret (pv 3))))), ?_⟩
    have ok6 := ok.len
    obtain ⟨c, r, e, oc, ow, xc, xr, v1, v2, h1, h2, h3, h4, h5, h6, h7, h8⟩ := id hP
    have el : xr.length = recs.length := by rw [h7.length, List.length_map, List.length_map]
    have hb : Rd H r (.tup xr) := .inr ⟨ow, h5⟩
    refine ⟨_, rfl, p, _, _, _, rfl, rfl, SqT.of h1, rfl, r, rfl, ⟨_, .inl hb⟩, fun D hD => ?_⟩
    have hDn : H D = none := hD
    refine lc_tup (xs := xr) (fun i H3 => Same H H3 ∧ ∃ ps : List Addr, H3 D = some (.lst (ps.map V.ref)) ∧ ps.length = i ∧ ∀ (j : Nat) (a : Addr) (rc : Rec), ps[j]? = some a → recs[j]? = some rc → H3 a = some (.tup [.str rc.1, .non])) ?_ ?_ ?_ ?_
    · exact ⟨Same.new hD, [], upd_same, rfl, fun j a rc e => by cases e⟩
    · rintro i H3 _ ⟨S3, _⟩
      exact .inl (Rd.same hb S3)
    · rintro i x H3 hx ⟨S3, ps, hp3, lp, all⟩
      obtain ⟨rc, t, u, hr', rfl, ht, tu⟩ := recs_at h7 hx
      have hi := (List.getElem?_eq_some_iff.mp hr').1
      refine ⟨t, _, rfl, SqT.of (S3 _ _ ht), rfl, _, _, rfl, _, _, rfl, rfl, rfl, yes (iteT ?_)⟩
      refine ⟨_, rfl, (by show 2 ≤ sizeLine; decide), fun tn htn => ?_⟩
      have nD : tn ≠ D := fun e => by rw [e, hp3] at htn; cases htn
      refine ⟨_, by rw [upd_ne (Ne.symm nD)]; exact hp3, ?_, Same.two S3 hD htn, ps ++ [tn], by rw [upd_same, List.map_append]; rfl, by rw [List.length_append, lp]; rfl, ?_⟩
      · rw [List.length_map, lp]
        exact Nat.lt_of_lt_of_le (show i < 100 by omega) (by decide)
      · intro j a rc2 ha hrc
        by_cases hj : j < ps.length
        · rw [List.getElem?_append_left hj] at ha
          have e3 := all j a rc2 ha hrc
          rw [upd_ne (fun z => by rw [z, hp3] at e3; cases e3), upd_ne (ne_of_none e3 htn)]
          exact e3
        · have ej : j = ps.length := by
            have := (List.getElem?_eq_some_iff.mp ha).1
            rw [List.length_append] at this
            have : j < ps.length + 1 := this
            omega
          subst ej
          rw [List.getElem?_append_right (Nat.le_refl _), Nat.sub_self] at ha
          cases ha
          rw [lp, hr'] at hrc
          cases hrc
          rw [upd_ne nD, upd_same]
    · rintro H1 ⟨S1, ps, hp1, lp, all⟩
      rw [el] at lp
      have pr : Paired (fun p kv => SqT K H1 p [kV kv.1, kv.2]) ps (recs.map fun r => ((Sum.inr r.1, V.non) : Key × V)) := by
        clear q h7 el hP nd ok6 ok hp1
        induction recs generalizing ps with
        | nil =>
          cases ps with
          | nil => exact .nil
          | cons a r => cases lp
        | cons rc recs ih =>
          cases ps with
          | nil => cases lp
          | cons a r =>
            rw [List.map_cons]
            exact .cons (SqT.of (all 0 a rc rfl rfl)) (ih r (Nat.succ.inj lp) fun j a2 rc2 h1 h2 => all (j + 1) a2 rc2 h1 h2)
      refine ⟨D, ps, _, rfl, SqL.of hp1, pr, fun d hd => ?_⟩
      have ek : (recs.map fun r => ((Sum.inr r.1, V.non) : Key × V)).map Prod.fst = nmK recs := by
        unfold nmK
        rw [List.map_map]
        rfl
      have ndk : (nmK recs).Nodup := by
        have z : nmK recs = (recs.map (·.1)).map Sum.inr := by unfold nmK; rw [List.map_map]; rfl
        rw [z]
        exact List.Pairwise.map _ (fun a b hab e => hab (Sum.inr.inj e)) nd
      have em : mergeK [] (recs.map fun r => ((Sum.inr r.1, V.non) : Key × V)) = recs.map fun r => (Sum.inr r.1, V.non) := merge_nodup _ [] (by rw [List.nil_append, ek]; exact ndk)
      rw [em]
      have S0 : Same H (upd H1 d (.dK (recs.map fun r => (Sum.inr r.1, V.non)))) := fun b o e => Same.new hd b o (S1 b o e)
      have hdn : H d = none := Same.free S1 hd
      refine ⟨_, rfl, d, _, rfl, upd_same, ((recs.map fun r => ((Sum.inr r.1, V.non) : Key × V)).length : Int), rfl, by omega, by rw [List.length_map]; omega, ?_⟩
      rw [List.length_map]
      have a0 : AOf (recs.map fun r => ((Sum.inr r.1, V.non) : Key × V)) (turns cs (recs.map rD) recs 0) := aof_start
      generalize recs.map (fun r => ((Sum.inr r.1, V.non) : Key × V)) = kvs00 at *
      have hd2 : (upd H1 d (.dK kvs00)) d = some (.dK kvs00) := upd_same
      generalize upd H1 d (.dK kvs00) = H2 at *
      generalize hrs : recs.map rD = rs at *
      refine for_range (lo := 0) (n := recs.length) (fun t σ H3 => ∃ kvs, (∃ a1 a2 a4 a5 a6 a7, σ = [some (.ref p), a1, a2, some (.ref d), a4, a5, a6, a7]) ∧ Same H H3 ∧ H3 d = some (.dK kvs) ∧ kvs.map Prod.fst = nmK recs ∧ AOf kvs (turns cs rs recs t)) ?_ ?_ ?_
      · exact ⟨kvs00, ⟨_, _, _, _, _, _, rfl⟩, S0, hd2, ek, a0⟩
      · rintro t σ H3 ht ⟨kvs0, ⟨a1, a2, a4, a5, a6, a7, rfl⟩, S3, hd3, k3, D3⟩
        refine ⟨_, rfl, p, _, _, _, rfl, rfl, SqT.of (S3 _ _ h1), rfl, r, rfl, ⟨_, .inl (Rd.same hb S3)⟩, ?_⟩
        have N3 : NN (turns cs rs recs t) := turns_nn t
        have et : turns cs rs recs (t + 1) = turn cs rs recs (turns cs rs recs t) := rfl
        rw [et]
        generalize turns cs rs recs t = D0 at *
        refine for_tup (xs := xr) (fun i σ H4 => ∃ kvs, (∃ a1 a2 a5 a6 a7, σ = [some (.ref p), a1, a2, some (.ref d), some (.int (0 + (t : Int))), a5, a6, a7]) ∧ Same H H4 ∧ H4 d = some (.dK kvs) ∧ kvs.map Prod.fst = nmK recs ∧ AOf kvs (turn cs rs (recs.take i) D0)) ?_ ?_ ?_ ?_
        · exact ⟨kvs0, ⟨_, _, _, _, _, rfl⟩, S3, hd3, k3, D3⟩
        · rintro i σ H4 _ ⟨kvs, _, S4, _⟩
          exact .inl (Rd.same hb S4)
        · rintro i x σ H4 hx ⟨kvs, ⟨a1, a2, a5, a6, a7, rfl⟩, S4, hd4, k4, D4⟩
          obtain ⟨rc, tp, u, hr', rfl, htp, tu⟩ := recs_at (by rw [hrs]; exact h7) hx
          rw [turn_next hr']
          have N4 : NN (turn cs rs (recs.take i) D0) := turn_nn N3
          generalize turn cs rs (recs.take i) D0 = D1 at *
          have hi := (List.getElem?_eq_some_iff.mp hr').1
          have lf := ok.fl rc (List.mem_of_getElem? hr')
          refine ⟨tp, _, rfl, SqT.of (S4 _ _ htp), rfl, _, _, rfl, _, _, rfl, rfl, ?_⟩
          obtain ⟨cf, ys, rfl, hcf, tys⟩ := Tp.inv tu
          have ly : ys.length = rc.2.length := by rw [tys.length, List.length_map]
          refine ⟨Nat.zero_le _, fun L hL => ?_⟩
          refine ⟨_, rfl, cf, rfl, ⟨_, SqT.of (Same.new hL _ _ (S4 _ _ hcf))⟩, ?_⟩
          refine for_tup (xs := ys) (fun j σ H5 => (∃ a6 a7, σ = [some (.ref p), some (.str rc.1), some (.ref cf), some (.ref d), some (.int (0 + (t : Int))), some (.ref L), a6, a7]) ∧ Same H4 H5 ∧ H5 L = some (.lst (((mustKs (rc.2.take j)).map (kSz cs rs D1)).map optV))) ?_ ?_ ?_ ?_
          · exact ⟨⟨_, _, rfl⟩, Same.new hL, upd_same⟩
          · rintro j σ H5 _ ⟨_, S5, _⟩
            exact SqT.of (S5 _ _ (S4 _ _ hcf))
          · rintro j y σ H5 hy ⟨⟨a6, a7, rfl⟩, S5, h5L⟩
            obtain ⟨f2, t2, u2, hf2, rfl, ht2, tu2⟩ := flds_at (fs := rc.2) tys hy
            have S05 : Same H H5 := fun b o e => S5 b o (S4 b o e)
            have hj := (List.getElem?_eq_some_iff.mp hf2).1
            have en : mustKs (rc.2.take (j + 1)) = mustKs (rc.2.take j) ++ mustKs [f2] := by
              rw [List.take_add_one, hf2, mustKs_add]
              rfl
            have ht5 := S05 _ _ ht2
            refine ⟨_, rfl, t2, _, _, _, rfl, rfl, SqT.of ht5, rfl, rfl, _, rfl, ?_⟩
            rw [need_must]
            cases hmu : f2.must with
            | false =>
              refine iteF ⟨⟨_, _, rfl⟩, S5, ?_⟩
              have e0 : mustKs [f2] = [] := by unfold mustKs; rw [List.filter_cons, hmu]; rfl
              rw [en, e0, List.append_nil]
              exact h5L
            | true =>
              refine iteT ?_
              have e0 : mustKs [f2] = [f2.kd] := by unfold mustKs; rw [List.filter_cons, hmu]; rfl
              have tu5 := Tp.keep (Same.tk S05) _ _ tu2
              have hd5 := S5 _ _ hd4
              refine ⟨fun σ H' => Same H5 H' ∧ σ = [some (.ref p), some (.str rc.1), some (.ref cf), some (.ref d), some (.int (0 + (t : Int))), some (.ref L), some (.ref t2), some (rawV D1 f2.kd)], ?_, ?_⟩
              · intro p2 hp2
                have S6 : Same H5 (upd H5 p2 (.dK [])) := Same.new hp2
                have hd6 := S6 _ _ hd5
                have ht6 := S6 _ _ ht5
                have S7 : ∀ o, Same H5 (upd (upd H5 p2 (.dK [])) p2 o) := fun o => Same.wr S6 hp2
                refine ⟨_, rfl, .inr (.inr (.inl ⟨rfl, .inl ⟨_, hd6⟩⟩)), _, rfl, t2, _, _, _, rfl, rfl, SqT.of ht6, rfl, ?_⟩
                rcases kind_raw (K := K) (Tp.keep (Same.tk S6) _ _ tu5) hd6 D4 with ⟨z, c0, c1, rfl, hz, e0', e1', n1, n2, n3, er⟩ | ⟨a, w0, u, x, rfl, ha, hg, er⟩
                · refine .inl ⟨z, _, c1, rfl, rfl, hz, e1', ⟨d, _, rfl, rfl, .inl ⟨_, DGet.k (k := Sum.inr (one c1)) hd6, ?_⟩⟩⟩
                  refine ⟨upd_same, dispK ((valV kvs (.inr (one c1))).getD .non), rfl, (by show 3 ≤ 15; decide), ?_⟩
                  refine ⟨p2, rfl, .inl ⟨_, .inl upd_same⟩, _, rfl, t2, _, _, _, rfl, rfl, SqT.of (S7 _ _ _ ht5), rfl, .inl ⟨z, _, c0, rfl, rfl, hz, e0', ?_⟩⟩
                  refine ⟨_, DGet.k (k := Sum.inr (one c0)) upd_same, S7 _, ?_⟩
                  rw [disp_other _ n1 n2 n3, er]
                  rfl
                · refine .inr ⟨a, _, _, u, rfl, rfl, SqT.of ha, rfl, ?_⟩
                  have ha5 : H5 a = some (.tup [.str w0, u]) := by
                    have nap : a ≠ p2 := fun z => by rw [z, upd_same] at ha; cases ha
                    rw [upd_ne nap] at ha
                    exact ha
                  obtain ⟨a', y', e1, e2, hg⟩ := hg
                  cases e1
                  cases e2
                  rcases hg with ⟨o, g, rfl, _⟩ | ⟨b2, k2, kvs2, e9, g1, g2, rfl, _⟩
                  · refine ⟨d, _, rfl, rfl, .inl ⟨o, g, ?_⟩⟩
                    refine ⟨upd_same, dispK (o.getD .non), rfl, (by show 3 ≤ 15; decide), ?_⟩
                    refine ⟨p2, rfl, .inl ⟨_, .inl upd_same⟩, _, rfl, t2, _, _, _, rfl, rfl, SqT.of (S7 _ _ _ ht5), rfl, .inr ⟨a, _, _, _, rfl, rfl, SqT.of (S7 _ _ _ ha5), rfl, ?_⟩⟩
                    refine ⟨_, DGet.k (k := Sum.inr w0) upd_same, S7 _, ?_⟩
                    first
                    | rw [er]; rfl
                    | rw [← er]; rfl
                  · refine ⟨d, _, rfl, rfl, .inr ⟨b2, k2, kvs2, e9, g1, g2, ?_⟩⟩
                    refine ⟨upd_same, dispK _, rfl, (by show 3 ≤ 15; decide), ?_⟩
                    refine ⟨p2, rfl, .inl ⟨_, .inl upd_same⟩, _, rfl, t2, _, _, _, rfl, rfl, SqT.of (S7 _ _ _ ht5), rfl, .inr ⟨a, _, _, _, rfl, rfl, SqT.of (S7 _ _ _ ha5), rfl, ?_⟩⟩
                    refine ⟨_, DGet.k (k := Sum.inr w0) upd_same, S7 _, ?_⟩
                    first
                    | rw [er]; rfl
                    | rw [← er]; rfl
              · rintro σ H6 ⟨S6, rfl⟩
                have S06 : Same H H6 := fun b o e => S6 b o (S05 b o e)
                have hL6 := S6 _ _ h5L
                refine ⟨_, rfl, .inl ⟨rfl, _, SqL.of hL6⟩, ?_⟩
                refine ⟨_, rfl, _, rfl, t2, _, _, _, rfl, rfl, SqT.of (S06 _ _ ht2), rfl, p, u2, f2.kd, cs, rs, rfl, hP.same S06, Tp.keep (Same.tk S06) _ _ tu2, lc, by rw [← hrs, List.length_map]; omega, fun x H7 S7 hx1 hx2 => ?_⟩
                have S57 : Same H4 H7 := fun b o e => S7 b o (S6 b o (S5 b o e))
                have hL7 := S7 _ _ hL6
                have fin : ∀ v, v = optV (kSz cs rs D1 f2.kd) → (∃ a6 a7, [some (V.ref p), some (V.str rc.1), some (V.ref cf), some (V.ref d), some (V.int (0 + (t : Int))), some (V.ref L), some (V.ref t2), some (rawV D1 f2.kd)] = [some (V.ref p), some (V.str rc.1), some (V.ref cf), some (V.ref d), some (V.int (0 + (t : Int))), some (V.ref L), a6, a7]) ∧
                    Same H4 (upd H7 L (.lst (((mustKs (rc.2.take j)).map (kSz cs rs D1)).map optV ++ [v]))) ∧ (upd H7 L (.lst (((mustKs (rc.2.take j)).map (kSz cs rs D1)).map optV ++ [v]))) L = some (.lst (((mustKs (rc.2.take (j + 1))).map (kSz cs rs D1)).map optV)) := fun v ev => by
                  refine ⟨⟨_, _, rfl⟩, Same.wr S57 hL, ?_⟩
                  rw [upd_same, en, e0, List.map_append, List.map_append, ev]
                  rfl
                have lsz : (((mustKs (rc.2.take j)).map (kSz cs rs D1)).map optV).length < sizeLine := by
                  rw [List.length_map, List.length_map]
                  have l1 := mustKs_len (rc.2.take j)
                  rw [List.length_take] at l1
                  exact Nat.lt_of_le_of_lt (Nat.le_trans l1 (Nat.min_le_left _ _)) (Nat.lt_of_lt_of_le (show j < 5 by omega) (by decide))
                refine ⟨rfl, _, rfl, ?_⟩
                cases hnk : nobK cs rs f2.kd with
                | true =>
                  obtain ⟨z, rfl, _⟩ := hx1 hnk
                  refine ite2 (fun _ => ?_) (fun h => absurd (by rfl) h)
                  exact ⟨L, _, _, rfl, rfl, hL7, lsz, fin _ (by rw [nob_kSz hnk]; rfl)⟩
                | false =>
                  cases hx2 hnk
                  refine ite2 (fun h => absurd h (by decide)) (fun _ => ?_)
                  exact ⟨_, rfl, L, _, _, rfl, rfl, hL7, lsz, fin _ (raw_kSz hnk).symm⟩
          · rintro σ H5 ⟨⟨a6, a7, rfl⟩, S5, h5L⟩
            rw [ly, List.take_length] at h5L
            have S45 : Same H H5 := fun b o e => S5 b o (S4 b o e)
            have es : step cs rs D1 rc = putS D1 rc.1 (total ((mustKs rc.2).map (kSz cs rs D1))) := rfl
            rw [es]
            have lp : ((mustKs rc.2).map (kSz cs rs D1)).length ≤ 5 := by rw [List.length_map]; exact Nat.le_trans (mustKs_len _) lf
            have inK : (Sum.inr rc.1 : Key) ∈ kvs.map Prod.fst := by
              rw [k4]
              exact List.mem_map.mpr ⟨rc, List.mem_of_getElem? hr', rfl⟩
            generalize (mustKs rc.2).map (kSz cs rs D1) = ps at *
            refine ⟨_, rfl, L, _, rfl, .inl (SqL.of h5L), rfl, flat_opts ps, _, rfl, ?_⟩
            show if (!inV V.non (ps.map optV)) = true then _ else _
            rw [non_in]
            by_cases hno : none ∈ ps
            · rw [decide_eq_true hno]
              have e1 : total ps = none := if_pos hno
              rw [e1]
              exact iteF ⟨kvs, ⟨_, _, _, _, _, rfl⟩, S45, S5 _ _ hd4, k4, D4⟩
            · rw [decide_eq_false hno]
              refine iteT ?_
              have e1 : total ps = some ((ps.map fun o => fsz (o.getD 0)).sum) := if_neg hno
              rw [e1]
              obtain ⟨ms, rfl⟩ := all_some hno
              have e2 : (ms.map some).map optV = ms.map V.int := by rw [List.map_map]; rfl
              have e3 : (ms.map some).map (fun o => fsz (o.getD 0)) = ms.map fsz := by rw [List.map_map]; rfl
              rw [e3]
              rw [e2] at h5L
              rw [List.length_map] at lp
              refine ⟨_, rfl, L, rfl, ⟨_, SqL.of h5L⟩, fun D2 hD2 => ?_⟩
              refine lc_list (xs := ms.map V.int) (fun j H6 => Same H5 H6 ∧ H6 D2 = some (.lst (((ms.take j).map fsz).map V.int))) ?_ ?_ ?_ ?_
              · exact ⟨Same.new hD2, upd_same⟩
              · rintro j H6 _ ⟨S6, _⟩
                exact SqL.of (S6 _ _ h5L)
              · rintro j y H6 hy ⟨S6, h6⟩
                rw [List.getElem?_map] at hy
                cases hmj : ms[j]? with
                | none => rw [hmj] at hy; cases hy
                | some mj =>
                  rw [hmj] at hy
                  cases hy
                  have hjl := (List.getElem?_eq_some_iff.mp hmj).1
                  refine ⟨rfl, yes (iteT ?_)⟩
                  refine ⟨_, rfl, _, _, rfl, rfl, _, rfl, _, _, rfl, rfl, .inr ⟨_, rfl, _, _, rfl, rfl, ?_⟩⟩
                  refine ⟨_, h6, ?_, Same.wr S6 hD2, ?_⟩
                  · rw [List.length_map, List.length_map, List.length_take]
                    exact Nat.lt_of_le_of_lt (Nat.min_le_left _ _) (Nat.lt_of_lt_of_le (show j < 5 by omega) (by decide))
                  · rw [upd_same, List.take_add_one, hmj, List.map_append, List.map_append]
                    have ef : (fun i j => V.int (i + j)) (mj + 3) (if decide (200 ≤ mj) = true then 1 else 0) = V.int (fsz mj) := congrArg V.int (fsz_eq mj)
                    rw [ef]
                    rfl
              · rintro H6 ⟨S6, h6⟩
                rw [List.length_map, List.take_length] at h6
                have S46 : Same H H6 := fun b o e => S6 b o (S45 b o e)
                have hd6 : H6 d = some (.dK kvs) := S6 _ _ (S5 _ _ hd4)
                have lk : kvs.length < sizeLine := by
                  have z := congrArg List.length k4
                  unfold nmK at z
                  rw [List.length_map, List.length_map] at z
                  rw [z]
                  exact Nat.lt_of_le_of_lt ok6 (by decide)
                refine ⟨D2, ms.map fsz, rfl, SqL.of h6, _, rfl, _, rfl, d, _, rfl, DPut.k (k := Sum.inr rc.1) hd6 lk, ?_⟩
                exact ⟨_, ⟨_, _, _, _, _, rfl⟩, Same.wr S46 hdn, upd_same, (putK_keys inK).trans k4, aof_put D4 rc.1 _⟩
        · rintro σ H4 ⟨kvs, ⟨a1, a2, a5, a6, a7, rfl⟩, S4, hd4, k4, D4⟩
          rw [el, List.take_length] at D4
          exact ⟨kvs, ⟨_, _, _, _, _, _, rfl⟩, S4, hd4, k4, D4⟩
      · rintro σ H3 ⟨kvs, ⟨a1, a2, a4, a5, a6, a7, rfl⟩, S3, hd3, k3, D3⟩
        exact ⟨_, rfl, q d kvs H3 S3 hdn hd3 k3 D3⟩
end
end Fh

set_option Elab.async false
set_option linter.all false
set_option maxRecDepth 100000
set_option maxHeartbeats 4000000
namespace Fh
open PySem L2 PyProof.Rows
/-! ### a dict that an expression makes, locked from then on -/
def tLockA (t : TE) : TE := fun σ H Q => t σ H fun x H1 => ∃ d u, x = .ref d ∧ H1 d = some u ∧ Mut (some u) ∧ ∀ od, Q x (upd H1 d (.frz od u))
theorem pe_lockA {X : Cx} {e : Expr} {t : TE} (h : PE X e t) : PE X e (tLockA t) := by
  refine ⟨fun pins s σ H Q I hq => ?_⟩
  refine thn (h.run pins s σ H _ I hq) fun v s1 ⟨x, H1, I1, r, d, u, e1, hd, mu, q⟩ => ?_
  obtain ⟨od, I2⟩ := I1.lock hd mu
  exact ⟨x, _, I2, r, q od⟩
abbrev rIsN9 : R2 := fun x y H Q => y = .non ∧ Q (.bl (decide (x = .non))) H
abbrev rNotN9 : R2 := fun x y H Q => y = .non ∧ Q (.bl (!decide (x = .non))) H
abbrev rGt9 : R2 := rI0 fun i j => .bl (decide (j < i))
end Fh

set_option Elab.async false
set_option linter.all false
set_option maxRecDepth 100000
set_option maxHeartbeats 4000000
namespace Fh
open PySem L2 PyProof.Rows
/-! ### all that is wrong, by the law's own reckoning -/
def nob1 (cs : List Cho) (recs : List Rec) (r : Rec) : List (List Key) := (r.2.filter fun f => nobK (csP cs) (recs.map rD) f.kd).map fun f => txK [("nobody" : Str), r.1, f.kd.nm.getD ""]
def endK (cs : List Cho) (recs : List Rec) : List (List Key) := (endL (turns (csP cs) (recs.map rD) recs recs.length) recs).map txK
theorem nob_flat {cs : List Cho} {recs : List Rec} : (nobL (csP cs) recs).map txK = recs.flatMap (nob1 cs recs) := by
  unfold nobL
  rw [List.map_flatMap]
  congr 1
  funext r
  rw [List.map_map]
  rfl
def wrL (own : Str) (cs : List Cho) (recs : List Rec) (cws : List Cw) : List (List Key) := endK cs recs ++ recs.flatMap (nob1 cs recs) ++ cws.flatMap (wroC own recs)
theorem wrL_iff {own : Str} {cs : List Cho} {recs : List Rec} {cws : List Cw} {x : List Key} : x ∈ wrL own cs recs cws ↔ x ∈ wroL own (csP cs) recs cws := by
  unfold wrL wroL
  rw [← nob_flat, List.mem_append, List.mem_append, List.mem_append, List.mem_append]
  constructor
  · rintro ((h | h) | h)
    · exact .inl (.inr h)
    · exact .inl (.inl h)
    · exact .inr h
  · rintro ((h | h) | h)
    · exact .inl (.inr h)
    · exact .inl (.inl h)
    · exact .inr h
theorem valV_at : ∀ {kvs : List (Key × V)} {j : Nat} {kv : Key × V}, (kvs.map Prod.fst).Nodup → kvs[j]? = some kv → valV kvs kv.1 = some kv.2
  | [], _, _, _, h => by cases h
  | (qk, qv) :: kvs, 0, kv, _, h => by
    cases h
    exact valV_pos rfl
  | (qk, qv) :: kvs, j + 1, kv, nd, h => by
    rw [List.map_cons, List.nodup_cons] at nd
    have h : kvs[j]? = some kv := h
    rw [valV_neg (fun e => nd.1 (by
      have e : qk = kv.1 := e
      rw [show (qk, qv).1 = kv.1 from e]
      exact List.mem_map.mpr ⟨kv, List.mem_of_getElem? h, rfl⟩))]
    exact valV_at nd.2 h
def nbV (cs : List Cho) (recs : List Rec) (f : Fl) : V := if nobK (csP cs) (recs.map rD) f.kd = true then .str (f.kd.nm.getD "") else .non
theorem filt1 {α β : Type} (keep : α → Bool) (g : α → β) {l : List α} {i : Nat} {a : α} (h : l[i]? = some a) : ((l.take (i + 1)).filter keep).map g = ((l.take i).filter keep).map g ++ (if keep a = true then [g a] else []) := by
  rw [List.take_add_one, h, List.filter_append, List.map_append]
  congr 1
  show (List.filter keep [a]).map g = _
  cases hm : keep a <;> simp [List.filter, hm]
abbrev sWrg : Stmt := top 51
abbrev nWrg : List Str := ["_law_parts", "_law_forms", "_law_found", "_law_one", "_law_size", "_law_fields", "_law_some", "_law_field", "_law_name", "_law_gone"]
def spWrg : Sp := fun vs H Q _ => ∃ (v : V) (own : Str) (age : Int) (cs : List Cho) (recs : List Rec) (cws : List Cw), vs = [v] ∧ PtF H v own age cs recs cws ∧ PtW own age cs recs cws ∧
  ∀ (r : Addr) (T : List Row) (H' : Hp), Same H H' → H r = none → RwL H' r T → T.length < 300 → (T.map (·.2)).Pairwise (fun x y => rowLe x y = true) → (T.map (·.2)).Nodup → (∀ x, x ∈ T.map (·.2) ↔ x ∈ wroL own (csP cs) recs cws) → Q (.ref r) H'
section
variable {P : Program} {w : World} {K : PySem.W.Frag} {mg : Str → Option Value} {base : Heap}
theorem scWrg : FnScope nWrg ["_law_parts"] (defScope sWrg) := ⟨rfl, rfl, rfl, by decide +kernel, rfl, by decide +kernel, by decide +kernel⟩
theorem ok_wrg {f : Addr} {fd : FuncData} (F : Fun K "_law_wrong" "_law_wrong" sWrg f fd) (G : Glb mg) (DN : Has P w K mg base "_law_nobody" 1 ["_law_parts", "_law_kind"] spNbd) (DS : Has P w K mg base "_law_all_sizes" 2 ["_law_parts"] spSzs) (DD : Has P w K mg base "_law_deeds_wrong" 2 pDwr spDwr) : FnOk P w K mg base CX0 3 f fd ["_law_parts"] spWrg := by
  refine F.ok scWrg (fun vs H Q E h => ?_) (fun cdv A outer s H vs Q E hr h => ?_)
  · obtain ⟨v, own, age, cs, recs, cws, rfl, _⟩ := h
    rfl
  · obtain ⟨v, own, age, cs, recs, cws, rfl, hv, pw, q⟩ := h
    have hu := hu_of hr
    have hv0 := hv
    obtain ⟨p, v3, v4, v5, rfl, hp, t3, t4, t5⟩ := hv
    obtain ⟨pk, ok9, xk, rfl, hpk, plk, txk⟩ := TpF.inv t3
    obtain ⟨pr, or, xr, rfl, hpr, plr, txr⟩ := TpF.inv t4
    obtain ⟨pc, xc, rfl, hpc, txc⟩ := Tp.inv t5
    have hP : PartsR H p (csP cs) (recs.map rD) := ⟨pk, pr, pc, ok9, or, xk, xr, _, _, hp, hpk, plk, txk, hpr, plr, txr, rfl⟩
    have lcs : (csP cs).length ≤ 100 := by
      unfold csP
      rw [List.length_map]
      exact Nat.le_trans pw.co.l6 (by decide)
    have lrs : (recs.map rD).length ≤ 100 := by
      rw [List.length_map]
      exact Nat.le_trans pw.rc.l6 (by decide)
    have lr6 := pw.rc.l6
    have lw6 := pw.cw.l6
    have lxc : xc.length = cws.length := by rw [txc.length, List.length_map]
    have lxr : xr.length = recs.length := by rw [txr.length, List.length_map, List.length_map]
    obtain ⟨ps, kvs, exr, prd, ek, k1, k2⟩ := recs_dict (K := K) txr pw.rc.nd
    have fews : ps.length < 1000 := by
      have e1 := congrArg List.length exr
      rw [List.length_map] at e1
      omega
    refine ⟨_, (pss_cons (ps_set (i := 1) scWrg.nd rfl (Or.inr rfl) (pe_callTy (cr_dictT rfl) (by rfl) G.dict (by decide +kernel) (pa_cons (pe_ix ix_tup (pv 0) pe_int (fun _ _ => rfl)) pa_nil)))
      (C8.pss_cut (ps_setLc (i := 2) (own := [("_law_one", 3), ("_law_size", 4)]) (g := (gTup K 2 (gCons (gName 3) (gCons (gName 4) gNil)))) (tt := tOr (tTest (tOp rIsN9 (tVar 4) (tC .non))) (tTest (tOp rGt9 (tVar 4) (tC (.int 60))))) (te := tTup (tCons (tC (.str "endless")) (tCons (tVar 3) tNil))) rfl scWrg.nd rfl rfl (sw_true rfl rfl rfl (by decide +kernel)) (pi_items (pe_lockA (pe_has DS (hr.mono (by omega)) rfl (pa_cons (pv 0) pa_nil)))) (blkOk_by (N := nWrg) (sc := defScope sWrg) (by decide +kernel)) (fun _ _ _ _ _ => (pg_tup rfl (pgs_cons (pg_name (i := 3) scWrg.nd rfl (Or.inl rfl)) (pgs_cons (pg_name (i := 4) scWrg.nd rfl (Or.inl rfl)) pgs_nil)))) (fun _ _ _ _ _ => pts_one (PW.pt (pw_or (pt_cmpR op_isN (pv 4) pe_non (nomark _)) (pw_or1 (pt_cmpR op_gt (pv 4) pe_int (nomark _)))))) (fun _ _ _ _ _ => (pe_tup (pa_cons pe_str (pa_cons (pv 3) pa_nil)))))
      (C8.pss_cut (ps_for PassesOwn.never rfl (pi_tup (pe_ix ix_tup (pv 0) pe_int (fun _ _ => rfl))) (pg_tup rfl (pgs_cons (pg_name (i := 3) scWrg.nd rfl (Or.inr rfl)) (pgs_cons (pg_name (i := 5) scWrg.nd rfl (Or.inl rfl)) pgs_nil)))
      (C8.pss_cut (ps_setLc (i := 6) (own := [("_law_field", 7)]) (g := (gName 7)) (tt := tYes) (te := tCall spNbd [] E0 (tCons (tVar 0) (tCons (tOp (rIxT K) (tVar 7) (tC (.int 2))) tNil))) rfl scWrg.nd rfl rfl (sw_true rfl rfl rfl (by decide +kernel)) (pi_tup (pv 5)) (blkOk_by (N := nWrg) (sc := defScope sWrg) (by decide +kernel)) (fun _ _ _ _ _ => (pg_name (i := 7) scWrg.nd rfl (Or.inl rfl))) (fun _ _ _ _ _ => pts_nil) (fun _ _ _ _ _ => (pe_has DN (hr.mono (by omega)) rfl (pa_cons (pv 0) (pa_cons (pe_ix ix_tup (pv 7) pe_int (fun _ _ => rfl)) pa_nil)))))
      (pss_one (ps_set (i := 2) scWrg.nd rfl (Or.inl rfl) (pe_op op_cat (pv 2) (pe_lc (own := [("_law_name", 8)]) (g := (gName 8)) (tt := tTest (tOp rNotN9 (tVar 8) (tC .non))) (te := tTup (tCons (tC (.str "nobody")) (tCons (tVar 3) (tCons (tVar 8) tNil)))) rfl scWrg.nd (pi_list (pv 6)) (blkOk_by (N := nWrg) (sc := defScope sWrg) (by decide +kernel)) (fun _ _ _ _ _ => (pg_name (i := 8) scWrg.nd rfl (Or.inl rfl))) (fun _ _ _ _ _ => pts_one (pt_cmpR op_notN (pv 8) pe_non (nomark _))) (fun _ _ _ _ _ => (pe_tup (pa_cons pe_str (pa_cons (pv 3) (pa_cons (pv 8) pa_nil)))))))))))
      (C8.pss_cut (ps_for PassesOwn.never rfl (pi_tup (pe_ix ix_tup (pv 0) pe_int (fun _ _ => rfl))) (pg_name (i := 3) scWrg.nd rfl (Or.inr rfl))
      (pss_cons (ps_setLc (i := 9) (own := [("_law_name", 8)]) (g := (gName 8)) (tt := tB (tDNotIn (tVar 8) (tVar 1))) (te := tVar 8) rfl scWrg.nd rfl rfl (sw_true rfl rfl rfl (by decide +kernel)) (pi_tup (pe_slice sl_tupA (pv 3) (po_some pe_int) (po_some pe_int))) (blkOk_by (N := nWrg) (sc := defScope sWrg) (by decide +kernel)) (fun _ _ _ _ _ => (pg_name (i := 8) scWrg.nd rfl (Or.inl rfl))) (fun _ _ _ _ _ => pts_one (pt_cmp (pc_dnotin hu (pv 8) (pv 1)))) (fun _ _ _ _ _ => (pv 8)))
      (pss_cons (ps_set (i := 2) scWrg.nd rfl (Or.inl rfl) (pe_op op_cat (pv 2) (pe_lc (own := [("_law_name", 8)]) (g := (gName 8)) (tt := tYes) (te := tTup (tCons (tC (.str "nobody")) (tCons (tOp (rIxT K) (tVar 3) (tC (.int 1))) (tCons (tVar 8) tNil)))) rfl scWrg.nd (pi_list (pv 9)) (blkOk_by (N := nWrg) (sc := defScope sWrg) (by decide +kernel)) (fun _ _ _ _ _ => (pg_name (i := 8) scWrg.nd rfl (Or.inl rfl))) (fun _ _ _ _ _ => pts_nil) (fun _ _ _ _ _ => (pe_tup (pa_cons pe_str (pa_cons (pe_ix ix_tup (pv 3) pe_int (fun _ _ => rfl)) (pa_cons (pv 8) pa_nil))))))))
      (pss_one (ps_if (pt_cmpR (op_eqM9 hr.units) (pv 9) (pe_lst pa_nil) (nomark _))
      (pss_one (ps_set (i := 2) scWrg.nd rfl (Or.inl rfl) (pe_op op_cat (pv 2) (pe_has DD (hr.mono (by omega)) rfl (pa_cons (pv 0) (pa_cons (pv 3) pa_nil))))))
      pss_nil)))))
      (pss_one (ps_ret (pe_callB (cr_sortedSKx rfl hr.units) (by rfl) G.sorted (by decide +kernel) (pa_cons (pe_callTy (cr_setKx rfl hr.units) (by rfl) G.set (by decide +kernel) (pa_cons (pv 2) pa_nil)) pa_nil)))))))), ?_⟩
    refine ⟨_, rfl, p, _, _, _, rfl, rfl, SqT.of hp, rfl, pr, or, ps, kvs, rfl, by rw [← exr]; exact hpr, plr, prd, fews, fun D hD => ?_⟩
    rw [merge_recs pw.rc.nd ek]
    have S1 := Same.new (H := H) (o := .dK kvs) hD
    have fm1 : FmD (upd H D (.dK kvs)) D recs := ⟨kvs, upd_same, k1, fun z hz => let ⟨v, a, b⟩ := k2 z hz; ⟨v, a, Tp.keep (Same.tk S1) _ _ b⟩⟩
    generalize (upd H D (.dK kvs)) = H1 at *
    try dsimp only [List.set_cons_succ, List.set_cons_zero]
    have hP1 := hP.same S1
    refine ⟨fun σ H' => ∃ (Fo : Addr) (T : List Row) (a3 a4 a5 a6 a7 a8 a9 : Option V), σ = [some (.ref p), some (.ref D), some (.ref Fo), a3, a4, a5, a6, a7, a8, a9] ∧ Same H1 H' ∧ RwL H' Fo T ∧ T.map (·.2) = endK cs recs ∧ T.length ≤ 6, ?_, ?_⟩
    · refine ⟨_, rfl, p, csP cs, recs, rfl, hP1, lcs, pw.rc.ok, pw.rc.nd, fun d kvs2 H2 S2 d0 hd ek2 ao => ?_⟩
      refine ⟨d, .dK kvs2, rfl, hd, True.intro, fun od => ?_⟩
      obtain ⟨Hz, eHz⟩ : ∃ Hz, Hz = upd H2 d (.frz od (.dK kvs2)) := ⟨_, rfl⟩
      rw [← eHz]
      have hRz : Hz d = some (.frz od (.dK kvs2)) := by rw [eHz]; exact upd_same
      have Sz : Same H1 Hz := fun b o e => by
        rw [eHz, upd_ne (fun q => by rw [q, d0] at e; cases e)]
        exact S2 _ _ e
      refine ⟨d, od, kvs2, rfl, hRz, fun Dl hDl => ?_⟩
      have lk : kvs2.length = recs.length := by
        have := congrArg List.length ek2
        unfold nmK at this
        rwa [List.length_map, List.length_map] at this
      have ndk : (kvs2.map Prod.fst).Nodup := by
        rw [ek2]
        have : nmK recs = (recs.map (·.1)).map (Sum.inr : Str → Key) := by unfold nmK; rw [List.map_map]; rfl
        rw [this]
        exact List.Pairwise.map _ (fun a b h e => h (Sum.inr.inj e)) pw.rc.nd
      refine L2.lc_it (walk_items (d := d) (o := od) (kvs := kvs2)) (fun i H7 => Same Hz H7 ∧ ∃ T7 : List Row, RwL H7 Dl T7 ∧ T7.map (·.2) = ((recs.take i).filter fun r => bad (turns (csP cs) (recs.map rD) recs recs.length r.1)).map fun r => txK [("endless" : Str), r.1]) ?_ ?_ ?_ ?_
      · exact ⟨Same.new hDl, [], RwL.nil upd_same, rfl⟩
      · rintro i H7 _ ⟨S7, _⟩
        exact S7 _ _ hRz
      · rintro i x H7' H7 hi ⟨S7, T7, X7, eT7⟩ ⟨Tt, y1, y2, rfl, hT, rfl, g1, g2⟩
        dsimp only at g1 g2
        cases hkv : kvs2[i]? with
        | none => rw [hkv] at g1; cases g1
        | some kv =>
        rw [hkv] at g1 g2
        cases g1
        cases g2
        have h1 : (kvs2.map Prod.fst)[i]? = some kv.1 := by rw [List.getElem?_map, hkv]; rfl
        rw [ek2] at h1
        obtain ⟨r, hr9, er⟩ := mapAt (f := fun r : Rec => (Sum.inr r.1 : Key)) h1
        have v9 : kv.2 = optV (turns (csP cs) (recs.map rD) recs recs.length r.1) := by
          have a1 := ao r.1
          rw [er, valV_at ndk hkv] at a1
          exact a1
        have st := filt1 (fun r : Rec => bad (turns (csP cs) (recs.map rD) recs recs.length r.1)) (fun r : Rec => txK [("endless" : Str), r.1]) hr9
        have Sn := Same.new (H := H7') (o := .tup [kV kv.1, kv.2]) hT
        have ex : (upd H7' Tt (.tup [kV kv.1, kv.2])) Tt = some (.tup [kV kv.1, kv.2]) := upd_same
        have Xn := X7.same Sn
        have S7n := S7.trans Sn
        generalize (upd H7' Tt (.tup [kV kv.1, kv.2])) = Hn at *
        rw [v9, ← er] at ex
        refine ⟨Tt, _, rfl, SqT.of ex, rfl, _, _, rfl, _, _, rfl, rfl, rfl, ?_⟩
        try dsimp only [List.set_cons_succ, List.set_cons_zero]
        have tail : (∀ t7, Hn t7 = none → ∃ acc, (upd Hn t7 (.tup [.str "endless", .str r.1])) Dl = some (.lst acc) ∧ acc.length < sizeLine ∧ (Same Hz (upd (upd Hn t7 (.tup [.str "endless", .str r.1])) Dl (.lst (acc ++ [.ref t7]))) ∧ ∃ T7, RwL (upd (upd Hn t7 (.tup [.str "endless", .str r.1])) Dl (.lst (acc ++ [.ref t7]))) Dl T7 ∧ T7.map (·.2) = ((recs.take i).filter fun r => bad (turns (csP cs) (recs.map rD) recs recs.length r.1)).map (fun r => txK [("endless" : Str), r.1]) ++ [txK [("endless" : Str), r.1]])) := fun t7 ht7 => by
          have nT : Dl ≠ t7 := fun e => by rw [← e, Xn.l] at ht7; cases ht7
          refine ⟨_, by rw [upd_ne nT]; exact Xn.l, ?_, Same.two S7n hDl ht7, _, RwL.more (y := txK [("endless" : Str), r.1]) Xn ht7, ?_⟩
          · have e1 := congrArg List.length eT7
            rw [List.length_map, List.length_map] at e1
            have := List.length_filter_le (fun r : Rec => bad (turns (csP cs) (recs.map rD) recs recs.length r.1)) (recs.take i)
            rw [List.length_take] at this
            rw [List.length_map, sizeLine_eq]
            omega
          · rw [List.map_append, eT7]
            rfl
        refine ⟨_, rfl, rfl, _, rfl, ?_⟩
        cases hD9 : turns (csP cs) (recs.map rD) recs recs.length r.1 with
        | none =>
          refine iteT (iteT ?_)
          refine ⟨_, rfl, (by show 2 ≤ sizeLine; decide), fun t7 ht7 => ?_⟩
          have := tail t7 ht7
          rw [st, hD9]
          exact this
        | some n =>
          refine iteF ?_
          refine ⟨_, rfl, n, 60, rfl, rfl, _, rfl, ite2 (fun h => ?_) (fun h => ?_)⟩
          · refine ⟨_, rfl, (by show 2 ≤ sizeLine; decide), fun t7 ht7 => ?_⟩
            have := tail t7 ht7
            rw [st, hD9, if_pos (show bad (some n) = true from h)]
            exact this
          · refine ⟨S7n, T7, Xn, ?_⟩
            rw [st, hD9, if_neg (show ¬ bad (some n) = true from h), List.append_nil]
            exact eT7
      · rintro H7 ⟨S7, T7, X7, eT7⟩
        rw [lk, List.take_length] at eT7
        try dsimp only [List.set_cons_succ, List.set_cons_zero]
        refine ⟨Dl, T7, _, _, _, _, _, _, _, rfl, Sz.trans S7, X7, ?_, ?_⟩
        · rw [eT7]
          unfold endK endL
          rw [List.map_map]
          rfl
        · have e1 := congrArg List.length eT7
          rw [List.length_map, List.length_map] at e1
          have := List.length_filter_le (fun r : Rec => bad (turns (csP cs) (recs.map rD) recs recs.length r.1)) recs
          omega
    rintro σ H3 ⟨Fo, T, a3, a4, a5, a6, a7, a8, a9, rfl, S3, X3, eT3, lT3⟩
    refine ⟨fun σ H' => ∃ (Fo : Addr) (T : List Row) (a3 a4 a5 a6 a7 a8 a9 : Option V), σ = [some (.ref p), some (.ref D), some (.ref Fo), a3, a4, a5, a6, a7, a8, a9] ∧ Same H1 H' ∧ RwL H' Fo T ∧ T.map (·.2) = endK cs recs ++ recs.flatMap (nob1 cs recs) ∧ T.length ≤ 36, ?_, ?_⟩
    · refine ⟨_, rfl, p, _, _, _, rfl, rfl, SqT.of ((S1.trans S3) _ _ hp), rfl, pr, rfl, ⟨_, SqT.fz ((S1.trans S3) _ _ hpr)⟩, ?_⟩
      refine for_tup (xs := xr) (fun i σ H' => ∃ (Fo : Addr) (T : List Row) (a3 a4 a5 a6 a7 a8 a9 : Option V), σ = [some (.ref p), some (.ref D), some (.ref Fo), a3, a4, a5, a6, a7, a8, a9] ∧ Same H1 H' ∧ RwL H' Fo T ∧ T.map (·.2) = endK cs recs ++ (recs.take i).flatMap (nob1 cs recs) ∧ T.length ≤ 6 + 5 * i) ?_ ?_ ?_ ?_
      · exact ⟨Fo, T, _, _, _, _, _, _, _, rfl, S3, X3, by rw [eT3]; simp, lT3⟩
      · rintro i σ H' _ ⟨Fo, T, a3, a4, a5, a6, a7, a8, a9, rfl, S', _⟩
        exact SqT.fz (S' _ _ (S1 _ _ hpr))
      · rintro i x σ Ha hx ⟨Fo, T, a3, a4, a5, a6, a7, a8, a9, rfl, Sa, Xa, eT, lT⟩
        obtain ⟨dd, hdd, td⟩ := txr.get' hx
        obtain ⟨r0, hr0, rfl⟩ := mapAt hdd
        obtain ⟨r, hr9, rfl⟩ := mapAt hr0
        have flw := pw.rc.fl r (List.mem_of_getElem? hr9)
        have l5 := flw.l5
        have S0a := S1.trans Sa
        obtain ⟨t, y, fv, rfl, ht, ty, tfv⟩ := Tp.pair (Tp.keep (Same.tk S0a) _ _ td)
        rw [ty.istr] at ht
        obtain ⟨fa, fvs, rfl, hfa, tfs⟩ := Tp.inv tfv
        have lfs : fvs.length = r.2.length := by rw [tfs.length, List.length_map]
        refine ⟨t, _, rfl, SqT.of ht, rfl, _, _, rfl, _, _, rfl, rfl, ?_⟩
        try dsimp only [List.set_cons_succ, List.set_cons_zero]
        have hPa := hP.same S0a
        refine ⟨fun σ H' => ∃ (L : Addr) (a4 a7 a8 a9 : Option V), σ = [some (.ref p), some (.ref D), some (.ref Fo), some (.str r.1), a4, some (.ref fa), some (.ref L), a7, a8, a9] ∧ Same Ha H' ∧ H' L = some (.lst (r.2.map (nbV cs recs))), ?_, ?_⟩
        · refine ⟨_, rfl, fa, rfl, ⟨_, SqT.of hfa⟩, fun L hL => ?_⟩
          refine lc_tup (xs := fvs) (fun k H4 => Same Ha H4 ∧ H4 L = some (.lst ((r.2.take k).map (nbV cs recs)))) ?_ ?_ ?_ ?_
          · exact ⟨Same.new hL, upd_same⟩
          · rintro k H4 _ ⟨S4, _⟩
            exact SqT.of (S4 _ _ hfa)
          · rintro k y H4 hy ⟨S4, h4⟩
            obtain ⟨df, hdf, tdf⟩ := tfs.get' hy
            obtain ⟨f, hf, rfl⟩ := mapAt hdf
            obtain ⟨t4, x1, x2, x3, x4, rfl, ht4, u1, u2, u3, u4⟩ := Tp.four (Tp.keep (Same.tk S4) _ _ tdf)
            refine ⟨rfl, yes (iteT ?_)⟩
            refine ⟨_, rfl, _, rfl, t4, _, _, _, rfl, rfl, SqT.of ht4, rfl, p, x3, f.kd, csP cs, recs.map rD, rfl, hPa.same S4, u3, lcs, lrs, fun z H5 S5 z1 z0 => ?_⟩
            have ez : z = nbV cs recs f := by
              unfold nbV
              cases hn : nobK (csP cs) (recs.map rD) f.kd with
              | true =>
                obtain ⟨w9, e1, e2⟩ := z1 hn
                rw [if_pos rfl, e2, e1]
                rfl
              | false => rw [if_neg Bool.false_ne_true, z0 hn]
            refine ⟨_, S5 _ _ h4, ?_, Same.wr (S4.trans S5) hL, ?_⟩
            · rw [List.length_map, List.length_take, sizeLine_eq]
              omega
            · rw [upd_same, List.take_add_one, hf, List.map_append, ez]
              rfl
          · rintro H4 ⟨S4, h4⟩
            rw [lfs, List.take_length] at h4
            try dsimp only [List.set_cons_succ, List.set_cons_zero]
            exact ⟨L, _, _, _, _, rfl, S4, h4⟩
        rintro σ Hb ⟨L, a4, a7, a8, a9, rfl, Sb, hL⟩
        have Xb := Xa.same Sb
        refine ⟨_, rfl, _, rfl, L, rfl, ⟨_, SqL.of hL⟩, fun D2 hD2 => ?_⟩
        refine lc_list (xs := r.2.map (nbV cs recs)) (fun k H6 => Same Hb H6 ∧ ∃ T2 : List Row, RwL H6 D2 T2 ∧ T2.map (·.2) = ((r.2.take k).filter fun f => nobK (csP cs) (recs.map rD) f.kd).map fun f => txK [("nobody" : Str), r.1, f.kd.nm.getD ""]) ?_ ?_ ?_ ?_
        · exact ⟨Same.new hD2, [], RwL.nil upd_same, rfl⟩
        · rintro k H6 _ ⟨S6, _⟩
          exact SqL.of (S6 _ _ hL)
        · rintro k y H6 hy ⟨S6, T2, X6, e6⟩
          obtain ⟨f, hf, rfl⟩ := mapAt hy
          have st := filt1 (fun f : Fl => nobK (csP cs) (recs.map rD) f.kd) (fun f : Fl => txK [("nobody" : Str), r.1, f.kd.nm.getD ""]) hf
          refine ⟨rfl, ?_⟩
          refine ⟨_, rfl, rfl, _, rfl, ?_⟩
          cases hn : nobK (csP cs) (recs.map rD) f.kd with
          | true =>
            have e9 : nbV cs recs f = .str (f.kd.nm.getD "") := if_pos hn
            rw [e9]
            refine iteT ⟨_, rfl, _, rfl, (by show 3 ≤ sizeLine; decide), fun t7 ht7 => ?_⟩
            have nT : D2 ≠ t7 := fun e => by rw [← e, X6.l] at ht7; cases ht7
            refine ⟨_, by rw [upd_ne nT]; exact X6.l, ?_, Same.two S6 hD2 ht7, _, RwL.more (y := txK [("nobody" : Str), r.1, f.kd.nm.getD ""]) X6 ht7, ?_⟩
            · have e1 := congrArg List.length e6
              rw [List.length_map, List.length_map] at e1
              have := List.length_filter_le (fun f : Fl => nobK (csP cs) (recs.map rD) f.kd) (r.2.take k)
              rw [List.length_take] at this
              rw [List.length_map, sizeLine_eq]
              omega
            · rw [st, if_pos hn, List.map_append, e6]
              rfl
          | false =>
            have e9 : nbV cs recs f = .non := if_neg (by rw [hn]; exact Bool.false_ne_true)
            rw [e9]
            refine iteF ⟨S6, T2, X6, ?_⟩
            rw [st, if_neg (by rw [hn]; exact Bool.false_ne_true), List.append_nil]
            exact e6
        · rintro H6 ⟨S6, T2, X6, e6⟩
          rw [List.length_map, List.take_length] at e6
          have l2 : T2.length ≤ 5 := by
            have e1 := congrArg List.length e6
            rw [List.length_map, List.length_map] at e1
            have := List.length_filter_le (fun f : Fl => nobK (csP cs) (recs.map rD) f.kd) r.2
            omega
          have hi6 := (List.getElem?_eq_some_iff.mp hr9).1
          have X16 := Xb.same S6
          refine ⟨Fo, D2, _, _, rfl, rfl, X16.l, X6.l, ?_, fun p9 hp9 => ?_⟩
          · rw [List.length_map, List.length_map, sizeLine_eq]
            omega
          try dsimp only [List.set_cons_succ, List.set_cons_zero]
          have S7 := Same.new (H := H6) (o := .lst ((T.map fun q => V.ref q.1) ++ T2.map fun q => V.ref q.1)) hp9
          refine ⟨p9, T ++ T2, _, _, _, _, _, _, _, rfl, ((Sa.trans Sb).trans S6).trans S7, ⟨by rw [upd_same, List.map_append], fun q hq => ?_⟩, ?_, ?_⟩
          · rcases List.mem_append.mp hq with h | h
            · exact S7 _ _ (X16.t q h)
            · exact S7 _ _ (X6.t q h)
          · rw [List.map_append, eT, e6, List.take_add_one, hr9, List.flatMap_append, List.append_assoc]
            congr 2
            show _ = [r].flatMap (nob1 cs recs)
            rw [List.flatMap_cons, List.flatMap_nil, List.append_nil]
            rfl
          · rw [List.length_append]
            omega
      · rintro σ H' ⟨Fo, T, a3, a4, a5, a6, a7, a8, a9, rfl, S', X', eT', lT'⟩
        rw [lxr] at lT'
        rw [lxr, List.take_length] at eT'
        exact ⟨Fo, T, _, _, _, _, _, _, _, rfl, S', X', eT', by omega⟩
    rintro σ H5 ⟨Fo, T, a3, a4, a5, a6, a7, a8, a9, rfl, S5, X5, eT5, lT5⟩
    refine ⟨fun σ H' => ∃ (Fo : Addr) (T : List Row) (a3 a4 a5 a6 a7 a8 a9 : Option V), σ = [some (.ref p), some (.ref D), some (.ref Fo), a3, a4, a5, a6, a7, a8, a9] ∧ Same H1 H' ∧ RwL H' Fo T ∧ T.map (·.2) = wrL own cs recs cws ∧ T.length ≤ 138, ?_, ?_⟩
    · refine ⟨_, rfl, p, _, _, _, rfl, rfl, SqT.of ((S1.trans S5) _ _ hp), rfl, pc, rfl, ⟨_, SqT.of ((S1.trans S5) _ _ hpc)⟩, ?_⟩
      refine for_tup (xs := xc) (fun i σ H' => ∃ (Fo : Addr) (T : List Row) (a3 a4 a5 a6 a7 a8 a9 : Option V), σ = [some (.ref p), some (.ref D), some (.ref Fo), a3, a4, a5, a6, a7, a8, a9] ∧ Same H1 H' ∧ RwL H' Fo T ∧ T.map (·.2) = endK cs recs ++ recs.flatMap (nob1 cs recs) ++ (cws.take i).flatMap (wroC own recs) ∧ T.length ≤ 36 + 17 * i) ?_ ?_ ?_ ?_
      · exact ⟨Fo, T, _, _, _, _, _, _, _, rfl, S5, X5, by rw [eT5]; simp, lT5⟩
      · rintro i σ H' _ ⟨Fo, T, a3, a4, a5, a6, a7, a8, a9, rfl, S', _⟩
        exact SqT.of (S' _ _ (S1 _ _ hpc))
      · rintro i x σ Ha hx ⟨Fo, T, a3, a4, a5, a6, a7, a8, a9, rfl, Sa, Xa, eT, lT⟩
        obtain ⟨dd, hdd, td⟩ := txc.get' hx
        obtain ⟨c, hc, rfl⟩ := mapAt hdd
        have hi6 := (List.getElem?_eq_some_iff.mp hc).1
        have cw9 := pw.cw.ok c (List.mem_of_getElem? hc)
        have l6 := cw9.l
        have S0a := S1.trans Sa
        have tda := Tp.keep (Same.tk S0a) _ _ td
        obtain ⟨t, e, xs, rfl, ht, he, txs⟩ := cw_at tda
        have estep : endK cs recs ++ recs.flatMap (nob1 cs recs) ++ (cws.take (i + 1)).flatMap (wroC own recs) = (endK cs recs ++ recs.flatMap (nob1 cs recs) ++ (cws.take i).flatMap (wroC own recs)) ++ wroC own recs c := by
          rw [List.take_add_one, hc, List.flatMap_append, List.append_assoc, List.append_assoc, List.append_assoc]
          congr 3
          show [c].flatMap (wroC own recs) = _
          rw [List.flatMap_cons, List.flatMap_nil, List.append_nil]
        try dsimp only [List.set_cons_succ, List.set_cons_zero]
        refine ⟨_, rfl, _, rfl, _, rfl, ?_⟩
        refine tpSl (lo := some 2) (hi := some 4) tda fun rr Hy Sy tr => ?_
        have tr : Tp Hy rr (.tuple (([c.ask, c.ans] : List Str).map PyData.str)) := tr
        obtain ⟨ra, rxs, rfl, hra, trx⟩ := Tp.inv tr
        refine ⟨ra, rfl, ⟨_, SqT.of hra⟩, fun Dl hDl => ?_⟩
        have fmy := (fm1.same Sa).same Sy
        refine lcG_tup (xs := rxs) (l := [c.ask, c.ans]) (dx := PyData.str) (val := fun z => PyData.str z) (keep := fun z => !decide (z ∈ recs.map (·.1))) (fun H' S => SqT.of (S _ _ hra)) trx (by show 2 < sizeLine; decide) hDl ?_ ?_
        · intro k z x H'' hk S'' tz N M hN hM
          have ex := tz.istr
          subst ex
          obtain ⟨o, dg, eo⟩ := (fmy.same S'').din z
          refine ⟨rfl, _, rfl, _, rfl, D, o, rfl, dg, _, rfl, ?_⟩
          rw [eo]
          exact ite2 (fun h => ⟨_, rfl, hM h _ _ (Same.refl _) (.str _)⟩) (fun h => hN (Bool.eq_false_iff.mpr h) _ (Same.refl _))
        intro Hb zs Sb hDb tz
        obtain ⟨gone, egone⟩ : ∃ gone, gone = ([c.ask, c.ans] : List Str).filter fun z => !decide (z ∈ recs.map (·.1)) := ⟨_, rfl⟩
        rw [← egone] at tz
        have ez : zs = gone.map V.str := by
          have e1 := tp_strsM (f := fun z : Str => z) tz
          rw [e1, List.map_id']
        subst ez
        have esto : stoL recs c [c.ask, c.ans] = gone.map fun z => kNob c.nam z := by rw [egone]; rfl
        have lgo : gone.length ≤ 2 := by rw [egone]; exact List.length_filter_le _ _
        try dsimp only [List.set_cons_succ, List.set_cons_zero]
        have Sab := Sy.trans Sb
        have Xb := Xa.same Sab
        refine ⟨_, rfl, _, rfl, Dl, rfl, ⟨_, SqL.of hDb⟩, fun D2 hD2 => ?_⟩
        refine lc_list (xs := gone.map V.str) (fun k H6 => Same Hb H6 ∧ ∃ T2 : List Row, RwL H6 D2 T2 ∧ T2.map (·.2) = (gone.take k).map fun z => kNob c.nam z) ?_ ?_ ?_ ?_
        · exact ⟨Same.new hD2, [], RwL.nil upd_same, rfl⟩
        · rintro k H6 _ ⟨S6, _⟩
          exact SqL.of (S6 _ _ hDb)
        · rintro k y H6 hy ⟨S6, T2, X6, e6⟩
          obtain ⟨z, hz, rfl⟩ := mapAt hy
          refine ⟨rfl, yes (iteT ?_)⟩
          refine ⟨_, rfl, t, _, _, _, rfl, rfl, SqT.of ((Sab.trans S6) _ _ ht), rfl, _, rfl, (by show 3 ≤ sizeLine; decide), fun t7 ht7 => ?_⟩
          have nT : D2 ≠ t7 := fun e => by rw [← e, X6.l] at ht7; cases ht7
          refine ⟨_, by rw [upd_ne nT]; exact X6.l, ?_, Same.two S6 hD2 ht7, _, RwL.more (y := kNob c.nam z) X6 ht7, ?_⟩
          · have e1 := congrArg List.length e6
            rw [List.length_map, List.length_map, List.length_take] at e1
            rw [List.length_map, sizeLine_eq]
            omega
          · rw [List.take_add_one, hz, List.map_append, List.map_append, e6]
            rfl
        · rintro H6 ⟨S6, T2, X6, e6⟩
          rw [List.length_map, List.take_length, ← esto] at e6
          have l2 : T2.length ≤ 2 := by
            have e1 := congrArg List.length e6
            rw [esto, List.length_map, List.length_map] at e1
            omega
          have X16 := Xb.same S6
          have Sa6 := Sab.trans S6
          refine ⟨Fo, D2, _, _, rfl, rfl, X16.l, X6.l, ?_, fun p9 hp9 => ?_⟩
          · rw [List.length_map, List.length_map, sizeLine_eq]
            omega
          try dsimp only [List.set_cons_succ, List.set_cons_zero]
          have S7 := Same.new (H := H6) (o := .lst ((T.map fun q => V.ref q.1) ++ T2.map fun q => V.ref q.1)) hp9
          have X7 : RwL (upd H6 p9 (.lst ((T.map fun q => V.ref q.1) ++ T2.map fun q => V.ref q.1))) p9 (T ++ T2) := ⟨by rw [upd_same, List.map_append], fun q hq => by
            rcases List.mem_append.mp hq with h | h
            · exact S7 _ _ (X16.t q h)
            · exact S7 _ _ (X6.t q h)⟩
          generalize (upd H6 p9 (.lst ((T.map fun q => V.ref q.1) ++ T2.map fun q => V.ref q.1))) = H7 at *
          have Sa7 := Sa6.trans S7
          refine ⟨_, rfl, Nat.zero_le _, fun E9 hE9 => ?_⟩
          have SE := Same.new (H := H7) (o := .lst []) hE9
          have eE : (upd H7 E9 (.lst [])) E9 = some (.lst []) := upd_same
          have hDE := SE _ _ (S7 _ _ (S6 _ _ hDb))
          have XE := X7.same SE
          generalize (upd H7 E9 (.lst [])) = HE at *
          have SaE := Sa7.trans SE
          refine ⟨Dl, E9, _, rfl, rfl, SqL.of hDE, SqL.of eE, _, rfl, ite2 (fun h => ?_) (fun h => ?_)⟩
          · have g0 : gone = [] := by
              cases hg : gone with
              | nil => rfl
              | cons a b => rw [hg] at h; cases h
            have mm : ∀ z ∈ ([c.ask, c.ans] : List Str), z ∈ recs.map (·.1) := fun z hz => by
              have h2 := List.filter_eq_nil_iff.mp (egone ▸ g0) z hz
              cases q9 : decide (z ∈ recs.map (·.1)) with
              | true => exact of_decide_eq_true q9
              | false => rw [q9] at h2; exact absurd rfl h2
            have s0 : stoL recs c [c.ask, c.ans] = [] := by rw [esto, g0]; rfl
            refine ⟨_, rfl, _, rfl, _, rfl, .ref p, t, own, age, cs, recs, cws, c, rfl, hv0.same (S0a.trans SaE), pw, Tp.keep (Same.tk SaE) _ _ tda, cw9, mm _ (by simp), mm _ (by simp), fun r T9 H9 S9 r0 X9 e9 => ?_⟩
            have l9 : T9.length ≤ 17 := by
              have e1 := congrArg List.length e9
              rw [List.length_map, List.length_append] at e1
              have := wde_len (nm := own) (c := c) (own := flO recs c.ask) (an := flO recs c.ans) c.ds.length
              have h5 := (pw.rc.at c.ans).l5
              have h6 : (unsL c (flO recs c.ans)).length ≤ 5 := by
                unfold unsL unsF
                rw [List.length_map]
                exact Nat.le_trans (List.length_filter_le _ _) (Nat.le_trans (List.length_filter_le _ _) h5)
              omega
            have t0 : T2 = [] := by
              rw [s0] at e6
              exact List.map_eq_nil_iff.mp e6
            subst t0
            have X19 := XE.same S9
            refine ⟨p9, r, _, _, rfl, rfl, X19.l, X9.l, ?_, fun pz hpz => ?_⟩
            · rw [List.length_map, List.length_map, List.append_nil, sizeLine_eq]
              omega
            try dsimp only [List.set_cons_succ, List.set_cons_zero]
            have SZ := Same.new (H := H9) (o := .lst (((T ++ ([] : List Row)).map fun q : Row => V.ref q.1) ++ T9.map fun q : Row => V.ref q.1)) hpz
            refine ⟨pz, (T ++ ([] : List Row)) ++ T9, _, _, _, _, _, _, _, rfl, ((Sa.trans SaE).trans S9).trans SZ, ⟨by rw [upd_same, List.map_append (l₁ := T ++ ([] : List Row))], fun q hq => ?_⟩, ?_, ?_⟩
            · rcases List.mem_append.mp hq with h | h
              · exact SZ _ _ (X19.t q h)
              · exact SZ _ _ (X9.t q h)
            · rw [estep, List.map_append, List.append_nil, eT, e9]
              congr 1
              unfold wroC
              rw [s0]
              rfl
            · rw [List.length_append, List.append_nil]
              omega
          · have s1 : ¬ (stoL recs c [c.ask, c.ans]).isEmpty = true := by
              rw [esto]
              intro q9
              apply h
              cases gone with
              | nil => rfl
              | cons a b => cases q9
            refine ⟨p9, T ++ T2, _, _, _, _, _, _, _, rfl, Sa.trans SaE, XE, ?_, ?_⟩
            · rw [estep, List.map_append, eT, e6]
              congr 1
              unfold wroC
              rw [if_neg s1]
            · rw [List.length_append]
              omega
      · rintro σ H' ⟨Fo, T, a3, a4, a5, a6, a7, a8, a9, rfl, S', X', eT', lT'⟩
        rw [lxc] at lT'
        rw [lxc, List.take_length] at eT'
        exact ⟨Fo, T, _, _, _, _, _, _, _, rfl, S', X', eT', by omega⟩
    rintro σ H6 ⟨Fo, T, a3, a4, a5, a6, a7, a8, a9, rfl, S6, X6, eT6, lT6⟩
    refine ⟨_, rfl, ?_⟩
    refine sortset X6 (fun q hq => wroL_wrk q.2 (wrL_iff.mp (by rw [← eT6]; exact List.mem_map.mpr ⟨q, hq, rfl⟩))) (by omega) fun r T4 H4 S4 hr X4 l4 pw4 nd4 m4 => ?_
    refine q r T4 H4 ((S1.trans S6).trans S4) ((S1.trans S6).free hr) X4 l4 pw4 nd4 fun x => ?_
    rw [m4, eT6, wrL_iff]
end
end Fh

set_option Elab.async false
set_option linter.all false
set_option maxRecDepth 100000
set_option maxHeartbeats 4000000
namespace Fh
open PySem L2 PyProof.Rows
/-! ### the law -/
theorem eqvAll_inj {α : Type} {f : α → PyData} (hf : ∀ x y, PyData.eqv (f x) (f y) = true → x = y) : ∀ {l m : List α}, PyData.eqvAll (l.map f) (m.map f) = true → l = m
  | [], [], _ => rfl
  | [], _ :: _, h => by cases h
  | _ :: _, [], h => by cases h
  | x :: l, y :: m, h => by
    have h' : (PyData.eqv (f x) (f y) && PyData.eqvAll (l.map f) (m.map f)) = true := h
    rw [Bool.and_eq_true] at h'
    rw [hf x y h'.1, eqvAll_inj hf h'.2]
theorem str_inj9 {x y : Str} (h : PyData.eqv (.str x) (.str y) = true) : x = y := of_decide_eq_true (by rw [← eqv_ss]; exact h)
theorem pair_inj9 {a b : Str} {d e : PyData} (h : PyData.eqv (.tuple [.str a, d]) (.tuple [.str b, e]) = true) : a = b ∧ PyData.eqv d e = true := by
  have h' : (PyData.eqv (.str a) (.str b) && (PyData.eqv d e && true)) = true := h
  rw [Bool.and_eq_true, Bool.and_true] at h'
  exact ⟨str_inj9 h'.1, h'.2⟩
theorem kb_inj9 {a b : Kb} (h : PyData.eqv a.d b.d = true) : a = b := by
  cases a <;> cases b <;> first | rfl | (exact absurd (str_inj9 h) (by decide)) | (cases h; done) | (exact absurd (pair_inj9 h).1 (by decide)) | (rw [str_inj9 (pair_inj9 h).2])
theorem kn_inj9 {a b : Kn} (h : PyData.eqv a.d b.d = true) : a = b := by
  cases a with
  | one a => cases b with
    | one b => rw [kb_inj9 h]
    | lst b => cases a <;> first | (cases h; done) | (exact absurd (pair_inj9 h).1 (by decide))
  | lst a => cases b with
    | one b => cases b <;> first | (cases h; done) | (exact absurd (pair_inj9 h).1 (by decide))
    | lst b => rw [kb_inj9 (pair_inj9 h).2]
theorem fl_inj9 (f g : Fl) (h : PyData.eqv f.d g.d = true) : f = g := by
  obtain ⟨e1, e2, e3, e4⟩ := fl_eqv h
  rw [need_eqv, beq_iff_eq] at e4
  obtain ⟨a, b, c, d⟩ := f
  obtain ⟨a', b', c', d'⟩ := g
  have k := kn_inj9 e3
  simp only at e1 e2 e4 k
  subst e1
  subst e2
  subst e4
  subst k
  rfl
theorem rec_inj9 (r s : Rec) (h : PyData.eqv (.tuple [.str (rD r).1, (rD r).2]) (.tuple [.str (rD s).1, (rD s).2]) = true) : r = s := by
  obtain ⟨e1, e2⟩ := pair_inj9 h
  have e3 : PyData.eqvAll (r.2.map Fl.d) (s.2.map Fl.d) = true := e2
  exact Prod.ext e1 (eqvAll_inj fl_inj9 e3)
theorem cw_inj9 (c d : Cw) (h : PyData.eqv c.d d.d = true) : c = d := by
  have h' : (PyData.eqv (.int c.num) (.int d.num) && (PyData.eqv (.str c.nam) (.str d.nam) && (PyData.eqv (.str c.ask) (.str d.ask) && (PyData.eqv (.str c.ans) (.str d.ans) && (PyData.eqvAll (c.ds.map dD) (d.ds.map dD) && true))))) = true := h
  rw [Bool.and_eq_true, Bool.and_eq_true, Bool.and_eq_true, Bool.and_eq_true, Bool.and_true] at h'
  obtain ⟨h1, h2, h3, h4, h5⟩ := h'
  have e1 := eqv_int9 h1
  have e2 := str_inj9 h2
  have e3 := str_inj9 h3
  have e4 := str_inj9 h4
  have e5 := eqvAll_inj (fun x y q => of_decide_eq_true (by rw [← eqv_dD]; exact q)) h5
  obtain ⟨a1, a2, a3, a4, a5⟩ := c
  obtain ⟨b1, b2, b3, b4, b5⟩ := d
  simp only at e1 e2 e3 e4 e5
  subst e1
  subst e2
  subst e3
  subst e4
  subst e5
  rfl
theorem fl_sh9 {f : Fl} (hk : ∀ z, f.kd.nm = some z → Nm z) (hn : Nm f.nam) : Sh 3 f.d := by
  have s1 : Sh 2 f.kd.d := ⟨SeqAt.canLay_of_shaped (kn_shQ hk), kd_dp9 _⟩
  refine Sh.tup (n := 2) fun d hd => ?_
  have e : d = .int f.num ∨ d = .str f.nam ∨ d = f.kd.d ∨ d = .str (needS f.must) := by simpa using hd
  rcases e with rfl | rfl | rfl | rfl
  · exact ⟨rfl, Nat.zero_le _⟩
  · exact ⟨(nm_shQ hn).1, Nat.zero_le _⟩
  · exact s1
  · cases f.must
    · exact ⟨by decide +kernel, Nat.zero_le _⟩
    · exact ⟨by decide +kernel, Nat.zero_le _⟩
theorem recs_sh9 {recs : List Rec} (h : RecsW recs) : SeqAt.shaped (rowsD (recs.map rD)) = true := by
  refine (Sh.tup (n := 5) fun d hd => ?_).shaped (by decide)
  rw [List.map_map] at hd
  obtain ⟨r, hr, rfl⟩ := List.mem_map.mp hd
  refine Sh.tup (n := 4) fun e he => ?_
  have ee : e = .str r.1 ∨ e = fieldsD r.2 := by simpa [rD] using he
  rcases ee with rfl | rfl
  · exact ⟨(nm_shQ (h.nm r hr)).1, Nat.zero_le _⟩
  · refine Sh.tup (n := 3) fun q hq => ?_
    obtain ⟨f, hf, rfl⟩ := List.mem_map.mp hq
    exact fl_sh9 ((h.fl r hr).nk f hf) ((h.fl r hr).nm f hf)
theorem cws_sh9 {cws : List Cw} (h : CwsW cws) : SeqAt.shaped (.tuple (cws.map Cw.d)) = true := by
  refine (Sh.tup (n := 3) fun d hd => ?_).shaped (by decide)
  obtain ⟨c, hc, rfl⟩ := List.mem_map.mp hd
  have w := h.ok c hc
  refine Sh.tup (n := 2) fun e he => ?_
  have ee : e = .int c.num ∨ e = .str c.nam ∨ e = .str c.ask ∨ e = .str c.ans ∨ e = .tuple (c.ds.map dD) := by simpa using he
  rcases ee with rfl | rfl | rfl | rfl | rfl
  · exact ⟨rfl, Nat.zero_le _⟩
  · exact ⟨(nm_shQ w.nm).1, Nat.zero_le _⟩
  · exact ⟨(nm_shQ w.na).1, Nat.zero_le _⟩
  · exact ⟨(nm_shQ w.nb).1, Nat.zero_le _⟩
  · refine Sh.tup (n := 1) fun q hq => ?_
    obtain ⟨x, hx, rfl⟩ := List.mem_map.mp hq
    refine Sh.tup (n := 0) fun y hy => ?_
    obtain ⟨z, hz, rfl⟩ := List.mem_map.mp hy
    exact nm_shQ ((w.ds x hx).2.2.1 z hz)
theorem TpF.dp9 {K : PySem.W.Frag} {H : Hp} {v : V} {d : PyData} (h : TpF H v d) : Dp K H v d := by
  obtain ⟨a, o, xs, ds, rfl, rfl, h1, h2, h3⟩ := h
  exact .tup (SqT.fz h1) (TpAll.dp _ _ h3)
theorem ptF_inv {H : Hp} {v : V} {own : Str} {age : Int} {cs : List Cho} {recs : List Rec} {cws : List Cw} (h : PtF H v own age cs recs cws) :
    ∃ (p e : Addr) (v3 v4 : V) (xs : List V), v = .ref p ∧ H p = some (.tup [.str own, .int age, v3, v4, .ref e]) ∧ TpR H v3 (rowsD (csP cs)) ∧ TpR H v4 (rowsD (recs.map rD)) ∧ H e = some (.tup xs) ∧ TpAll H xs (cws.map Cw.d) := by
  obtain ⟨p, v3, v4, v5, rfl, hp, t3, t4, t5⟩ := h
  obtain ⟨e, xs, rfl, he, tx⟩ := Tp.inv t5
  exact ⟨p, e, v3, v4, xs, rfl, hp, t3.tr, t4.tr, he, tx⟩
abbrev sLaw : Stmt := top 53
abbrev nLawE : List Str := ["_law_script", "_law_k", "_law_bag_here", "_law_parts", "_law_turn", "_law_bent", "_law_told"]
section
variable {P : Program} {w : World} {K : PySem.W.Frag} {mg : Str → Option Value} {base : Heap}
theorem scLaw : FnScope nLawE ["_law_script"] (defScope sLaw) := ⟨rfl, rfl, rfl, by decide +kernel, rfl, by decide +kernel, by decide +kernel⟩
theorem ok_law {f C : Addr} {fd : FuncData} (F : Fun K "law" "law" sLaw f fd) (G : Glb mg) (DB : Has P w K mg base "_law_bag" 1 ["_law_script", "_law_at"] (spBag K)) (DT : Has P w K mg base "_law_take" 1 ["_law_bag_here", "_law_size"] spTake) (DN : Has P w K mg base "_law_drawn_name" 2 ["_law_bag_here"] spName) (DS : Has P w K mg base "_law_served" 5 pSrv spSrv) (DG : Has P w K mg base "_law_wrong" 3 ["_law_parts"] spWrg)
    (DF : Has P w K mg base "_law_made_face" 3 ["_law_parts"] (spFace C)) (DW : Has P w K mg base "wrong" 7 ["face"] (spWro C)) (DL : Has P w K mg base "_law_spoilt" 2 pSpl spSpl) : FnOk P w K mg base CX0 8 f fd ["_law_script"] (spLaw K) := by
  refine F.ok scLaw (fun vs H Q E h => ?_) (fun cdv A outer s H vs Q E hr h => ?_)
  · obtain ⟨a, ns, rfl, _⟩ := h
    rfl
  · obtain ⟨a, ns, rfl, hS, k⟩ := h
    have hu := hu_of hr
    have hmost : most = 1000000 := rfl
    refine ⟨_, (pss_cons (ps_for PassesOwn.never rfl (pi_range1 rfl G.range (pa_cons (pe_mid (pe_callB (call_max2 rfl) (by rfl) G.max (by decide +kernel) (pa_cons pe_int (pa_cons (pe_callB (call_min2 rfl) (by rfl) G.min (by decide +kernel) (pa_cons pe_int (pa_cons (pe_callB call_len_seq (by rfl) G.len (by decide +kernel) (pa_cons (pv 0) pa_nil)) pa_nil))) pa_nil)))) pa_nil)) (pg_name (i := 1) scLaw.nd rfl (Or.inl rfl))
      (pss_cons (ps_set (i := 2) scLaw.nd rfl (Or.inl rfl) (pe_has DB (hr.mono (by omega)) rfl (pa_cons (pv 0) (pa_cons (pv 1) pa_nil))))
      (pss_cons (ps_set (i := 3) scLaw.nd rfl (Or.inl rfl) (pe_has DS (hr.mono (by omega)) rfl (pa_cons (pv 2) (pa_cons (pe_has DN (hr.mono (by omega)) rfl (pa_cons (pv 2) pa_nil)) (pa_cons (pe_op op_add pe_int (pe_has DT (hr.mono (by omega)) rfl (pa_cons (pv 2) (pa_cons pe_int pa_nil)))) (pa_cons (pe_lst pa_nil) pa_nil))))))
      (pss_cons (ps_if (pt_mid (PW.pt (pw_or (pt_mid (pt_cmpR (op_neM9 hr.units) (pe_has DW (hr.mono (by omega)) rfl (pa_cons (pe_has DF (hr.mono (by omega)) rfl (pa_cons (pv 3) pa_nil)) pa_nil)) (pe_lst pa_nil) (nomark _))) (pw_or1 (pt_cmpR (op_neM9 hr.units) (pe_has DG (hr.mono (by omega)) rfl (pa_cons (pv 3) pa_nil)) (pe_lst pa_nil) (nomark _))))))
      (pss_one (ps_ret pe_bl))
      pss_nil)
      (pss_one (ps_for PassesOwn.never rfl (pi_range1 rfl G.range (pa_cons (pe_op op_add pe_int (pe_has DT (hr.mono (by omega)) rfl (pa_cons (pv 2) (pa_cons pe_int pa_nil)))) pa_nil)) (pg_name (i := 4) scLaw.nd rfl (Or.inl rfl))
      (pss_cons (ps_set (i := 5) scLaw.nd rfl (Or.inl rfl) (pe_has DL (hr.mono (by omega)) rfl (pa_cons (pv 2) (pa_cons (pv 3) pa_nil))))
      (pss_cons (ps_set (i := 6) scLaw.nd rfl (Or.inl rfl) (pe_has DW (hr.mono (by omega)) rfl (pa_cons (pe_has DF (hr.mono (by omega)) rfl (pa_cons (pv 5) pa_nil)) pa_nil)))
      (pss_cons (ps_if (pt_mid (PW.pt (pw_or (pt_cmpR (op_neD hr.units) (pv 6) (pe_has DG (hr.mono (by omega)) rfl (pa_cons (pv 5) pa_nil)) (nomark _)) (pw_or1 (PW.pt (pw_and (pt_cmpR (op_eqD hr.units) (pe_ix ix_tup (pv 5) pe_int (fun _ _ => rfl)) (pe_ix ix_tup (pv 3) pe_int (fun _ _ => rfl)) (nomark _)) (pw_and (pt_cmpR (op_eqD hr.units) (pe_ix ix_tup (pv 5) pe_int (fun _ _ => rfl)) (pe_ix ix_tup (pv 3) pe_int (fun _ _ => rfl)) (nomark _)) (pw_and1 (pt_cmpR (op_neM9 hr.units) (pv 6) (pe_lst pa_nil) (nomark _))))))))))
      (pss_one (ps_ret pe_bl))
      pss_nil)
      (pss_one (ps_if (pt_mid (pt_cmpR (op_neM9 hr.units) (pe_has DW (hr.mono (by omega)) rfl (pa_cons (pe_has DF (hr.mono (by omega)) rfl (pa_cons (pv 3) pa_nil)) pa_nil)) (pe_lst pa_nil) (nomark _)))
      (pss_one (ps_ret pe_bl))
      pss_nil)))))))))))
      (pss_one (ps_ret pe_bl))), ?_⟩
    rw [show (L2.start nLawE [V.ref a]) = [some (V.ref a), none, none, none, none, none, none] from rfl]
    refine ⟨fun v H1 => ∃ m : Int, v = .int m ∧ 0 ≤ m ∧ m ≤ 8 ∧ H = H1, ?_, ?_⟩
    · refine ⟨_, rfl, a, _, rfl, .inl hS, _, _, rfl, _, _, rfl, ?_⟩
      refine ⟨_, rfl, ?_, ?_, rfl⟩
      · split <;> split <;> omega
      · split <;> split <;> omega
    rintro v H1 ⟨m, rfl, m0, m8, rfl⟩
    refine ⟨m, rfl, by omega, by omega, ?_⟩
    refine for_range (lo := 0) (n := m.toNat) (fun i σ H1 => (∃ a1 a2 a3 a4 a5 a6, σ = [some (.ref a), a1, a2, a3, a4, a5, a6]) ∧ Same H H1) ?_ ?_ ?_
    · exact ⟨⟨_, _, _, _, _, _, rfl⟩, Same.refl H⟩
    · rintro i σ H1 hi ⟨⟨a1, a2, a3, a4, a5, a6, rfl⟩, sm1⟩
      try dsimp only [List.set_cons_succ, List.set_cons_zero]
      refine ⟨_, rfl, _, rfl, a, ns, _, rfl, SqL.ext hS sm1, by omega, by omega, fun b H2 sm2 hb B2 => ?_⟩
      have hb0 : H b = none := sm1.free hb
      have toS : ∀ {H' : Hp}, Kp b H2 H' → Same H H' := fun {H'} kp c o e => kp c o (fun q => by rw [q, hb0] at e; cases e) (sm2 _ _ (sm1 _ _ e))
      try dsimp only [List.set_cons_succ, List.set_cons_zero]
      -- a right face
      refine ⟨_, rfl, _, rfl, b, 0, rfl, B2, by decide, fun own H3 nOwn K3 B3 => ?_⟩
      refine ⟨_, rfl, b, 99, _, rfl, by decide, by decide, B3, by omega, fun d H4 d0 d1 K4 B4 => ⟨_, _, rfl, rfl, Nat.zero_le _, fun E0 hE0 => ?_⟩⟩
      have S4 := Same.new (H := H4) (o := .lst []) hE0
      refine ⟨b, E0, own, 1 + d, _, rfl, B4.same S4, by omega, upd_same, new_ne hE0 B4, nOwn, by omega, by omega, fun p cs recs cws H5 K5 B5 tv5 pw sv => ?_⟩
      try dsimp only [List.set_cons_succ, List.set_cons_zero]
      have K25 : Kp b H2 H5 := ((K3.trans K4).same S4).trans K5
      have none0 : wroL own (csP cs) recs cws = [] := wro_none pw sv
      obtain ⟨w1, w2, w3, w4, w5, w6⟩ := wro_facts pw
      have noT : ∀ {T : List Row}, (∀ x, x ∈ T.map (·.2) ↔ x ∈ wroL own (csP cs) recs cws) → T = [] := fun {T} h => by
        cases T with
        | nil => rfl
        | cons a r =>
          have := (h a.2).mp (List.mem_cons_self)
          rw [none0] at this
          cases this
      refine ⟨fun c H' => c = false ∧ Same H5 H', ?_, ?_⟩
      · refine ⟨fun c H' => c = false ∧ Same H5 H', ?_, ?_⟩
        · obtain ⟨pA, eA, v3A, v4A, xsA, epA, hpA, t3A, t4A, heA, txsA⟩ := ptF_inv tv5
          cases epA
          refine ⟨_, rfl, _, _, _, _, _, _, rfl, hpA, fun x dx H8 S8 hx0 hx => ?_⟩
          refine ⟨x, dx, eA, own, _, v3A, v4A, csP cs, recs, xsA, cws, rfl, hx, t3A.same S8, t4A.same S8, S8 _ _ heA, TpAll.keep (Same.tk S8) _ _ txsA, w1, w2, w3, w4, w5, w6, fun t1 T1 H9 S9 ht1 X1 l1 pw1 nd1 m1 => ?_⟩
          have eT := noT m1
          subst eT
          refine ⟨Nat.zero_le _, fun e9 he9 => ?_⟩
          have Se := Same.new (H := H9) (o := .lst []) he9
          exact ⟨t1, e9, _, rfl, rfl, SqL.of (Se _ _ X1.l), SqL.of upd_same, _, rfl, rfl, (S8.trans S9).trans Se⟩
        · rintro c H6 ⟨rfl, S6⟩
          refine iteF ?_
          refine ⟨_, rfl, .ref p, own, 1 + d, cs, recs, cws, rfl, tv5.same S6, pw, fun due Td Hd Sd hdue Xd ld pwd ndd md => ?_⟩
          have eT := noT md
          subst eT
          refine ⟨Nat.zero_le _, fun e9 he9 => ?_⟩
          have Se := Same.new (H := Hd) (o := .lst []) he9
          exact ⟨due, e9, _, rfl, rfl, SqL.of (Se _ _ Xd.l), SqL.of upd_same, _, rfl, rfl, (S6.trans Sd).trans Se⟩
      rintro c H6 ⟨rfl, S6⟩
      refine iteF ?_
      have K6 := K25.same S6
      have B6 := B5.same S6
      have tv6 := tv5.same S6
      refine ⟨_, rfl, b, 8, _, rfl, by decide, by decide, B6, by omega, fun d2 H7 d20 d21 k7 B7 => ⟨_, _, rfl, rfl, ?_⟩⟩
      refine ⟨1 + d2, rfl, by omega, by omega, ?_⟩
      refine for_range (lo := 0) (n := (1 + d2).toNat) (fun j σ H' => ∃ (a4 a5 a6 : Option V), σ = [some (.ref a), some (.int (0 + (i : Int))), some (.ref b), some (.ref p), a4, a5, a6] ∧ Kp b H2 H' ∧ Bag H' b (3000 + 50 * j) ∧ PtF H' (.ref p) own (1 + d) cs recs cws) ?_ ?_ ?_
      · exact ⟨_, _, _, rfl, K6.trans k7, B7.mono (by omega), tv6.keep (k7.fk B6) (k7.tk B6)⟩
      · rintro j σ H8 hj ⟨a4', a5', a6', rfl, K8, B8, tv8⟩
        try dsimp only [List.set_cons_succ, List.set_cons_zero]
        refine ⟨_, rfl, _, rfl, b, .ref p, own, 1 + d, cs, recs, cws, _, rfl, B8, by omega, tv8, pw, sv, fun v' recs' cws' H9 tv9 pw' K9 B9 => ?_⟩
        try dsimp only [List.set_cons_succ, List.set_cons_zero]
        have tv9p := tv8.keep (K9.fk B8) (K9.tk B8)
        obtain ⟨pB, eB, v3B, v4B, xsB, rfl, hpB, t3B, t4B, heB, txsB⟩ := ptF_inv tv9
        obtain ⟨u1, u2, u3, u4, u5, u6⟩ := wro_facts pw'
        refine ⟨_, rfl, _, _, _, _, _, _, rfl, hpB, fun x dx Ha Sa hx0 hx => ?_⟩
        refine ⟨x, dx, eB, own, _, v3B, v4B, csP cs, recs', xsB, cws', rfl, hx, t3B.same Sa, t4B.same Sa, Sa _ _ heB, TpAll.keep (Same.tk Sa) _ _ txsB, u1, u2, u3, u4, u5, u6, fun t1 T1 Hb Sb ht1 X1 l1 pw1 nd1 m1 => ?_⟩
        try dsimp only [List.set_cons_succ, List.set_cons_zero]
        have Sab := Sa.trans Sb
        refine ⟨fun c H' => c = false ∧ Same Hb H', ?_, ?_⟩
        · refine ⟨_, rfl, _, rfl, .ref pB, own, 1 + d, cs, recs', cws', rfl, tv9.same Sab, pw', fun due Td Hd Sd hdue Xd ld pwd ndd md => ?_⟩
          have X1d := X1.same Sd
          have same1 : T1.map (·.2) = Td.map (·.2) := rows_same nd1 ndd (fun x => by rw [m1, md]) pw1 pwd
          have nmd : ∀ x ∈ Td.map (·.2), RwNm x := fun x hx => wroL_nm pw'.rc pw'.cw x ((md x).mp hx)
          refine ⟨rowsK (T1.map (·.2)), rowsK (Td.map (·.2)), dp_rows X1d, dp_rows Xd, sh_rows (by rw [same1]; exact nmd), sh_rows nmd, _, rfl, ?_⟩
          rw [same1, eqv_rows]
          refine iteF ?_
          have Sad := Sab.trans Sd
          obtain ⟨pX, w3, w4, w5, epX, hpX, g3, g4, g5⟩ := tv9.same Sad
          cases epX
          obtain ⟨pY, y3, y4, y5, epY, hpY, z3, z4, z5⟩ := tv9p.same Sad
          cases epY
          refine ⟨_, rfl, pB, _, 4, _, rfl, rfl, SqT.of hpX, rfl, _, rfl, p, _, 4, _, rfl, rfl, SqT.of hpY, rfl, _, _, Tp.dp _ _ g5, Tp.dp _ _ z5, cws_sh9 pw'.cw, cws_sh9 pw.cw, _, rfl, ite2 (fun h5 => ?_) (fun _ => ⟨rfl, Sd⟩)⟩
          refine ⟨_, rfl, pB, _, 3, _, rfl, rfl, SqT.of hpX, rfl, _, rfl, p, _, 3, _, rfl, rfl, SqT.of hpY, rfl, _, _, g4.dp9, z4.dp9, recs_sh9 pw'.rc, recs_sh9 pw.rc, _, rfl, ite2 (fun h4 => ?_) (fun _ => ⟨rfl, Sd⟩)⟩
          have ec : cws' = cws := eqvAll_inj cw_inj9 h5
          have er : recs' = recs := by
            have h4' : PyData.eqvAll ((recs'.map rD).map fun r => PyData.tuple [.str r.1, r.2]) ((recs.map rD).map fun r => PyData.tuple [.str r.1, r.2]) = true := h4
            rw [List.map_map, List.map_map] at h4'
            exact eqvAll_inj rec_inj9 h4'
          have eT : T1 = [] := noT (fun x => by rw [← ec, ← er]; exact m1 x)
          subst eT
          refine ⟨_, rfl, Nat.zero_le _, fun e9 he9 => ?_⟩
          have Se := Same.new (H := Hd) (o := .lst []) he9
          exact ⟨t1, e9, _, rfl, rfl, SqL.of (Se _ _ X1d.l), SqL.of upd_same, _, rfl, rfl, Sd.trans Se⟩
        rintro c Hc ⟨rfl, Sc⟩
        refine iteF ?_
        have Sac := Sab.trans Sc
        have tvc := tv9p.same Sac
        refine ⟨fun c H' => c = false ∧ Same Hc H', ?_, ?_⟩
        · obtain ⟨pA, eA, v3A, v4A, xsA, epA, hpA, t3A, t4A, heA, txsA⟩ := ptF_inv tvc
          cases epA
          refine ⟨_, rfl, _, _, _, _, _, _, rfl, hpA, fun x9 dx9 Hg Sg hx90 hx9 => ?_⟩
          refine ⟨x9, dx9, eA, own, _, v3A, v4A, csP cs, recs, xsA, cws, rfl, hx9, t3A.same Sg, t4A.same Sg, Sg _ _ heA, TpAll.keep (Same.tk Sg) _ _ txsA, w1, w2, w3, w4, w5, w6, fun t2 T2 Hh Sh' ht2 X2 l2 pw2 nd2 m2 => ?_⟩
          have eT := noT m2
          subst eT
          refine ⟨Nat.zero_le _, fun e9 he9 => ?_⟩
          have Se := Same.new (H := Hh) (o := .lst []) he9
          exact ⟨t2, e9, _, rfl, rfl, SqL.of (Se _ _ X2.l), SqL.of upd_same, _, rfl, rfl, (Sg.trans Sh').trans Se⟩
        rintro c Hf ⟨rfl, Sf⟩
        refine iteF ?_
        have Saf := Sac.trans Sf
        exact ⟨_, _, _, rfl, (K8.trans K9).same Saf, (B9.same Saf).mono (by omega), tvc.same Sf⟩
      · rintro σ H6 ⟨a4', a5', a6', rfl, K6, _⟩
        exact ⟨⟨_, _, _, _, _, _, rfl⟩, toS K6⟩
    · rintro σ H1 _
      exact k _
end
end Fh

set_option Elab.async false
set_option linter.all false
set_option maxRecDepth 100000
set_option maxHeartbeats 0
namespace Fh
open PySem PySem.Spec PyProof.Rows L2
theorem toFun {K : PySem.W.Frag} {x q : Str} {st : Stmt} {f : Addr} {fd : FuncData} (F : FunD K x q (defArgs st) (defBody st) (defScope st) [] [] f fd) : Fun K x q st f fd := by
  obtain ⟨oc, od, dV, kV, doc, pm, an, cdv, ct, osl, e, lk, hcd, hD, _⟩ := F.ex
  rcases hD with ⟨_, rfl⟩ | ⟨e, _⟩
  · exact ⟨⟨oc, od, kV, doc, pm, an, cdv, ct, osl, e, lk, hcd⟩, F.kp⟩
  · exact absurd rfl e
mutual
theorem dpB_ok {K : PySem.W.Frag} : ∀ {d : PyData} {u : Value}, dpB K d u = true → ∃ v, RelV v u ∧ ∀ H : Hp, Dp K H v d
  | .str x, .str y t, h => by
    have e : x = y := of_decide_eq_true h
    subst e
    exact ⟨.str x, ⟨t, rfl⟩, fun H => .str x⟩
  | .tuple ds, .ref a, h => by
    unfold dpB at h
    split at h
    · rename_i cd its n sl lk
      obtain ⟨h1, h2⟩ := He.ba h
      obtain ⟨xs, r, q⟩ := dpBs_ok h2
      exact ⟨.ref a, rfl, fun H => .tup (.inr ⟨_, its, n, lk, rfl, rfl, of_decide_eq_true h1, r⟩) (q H)⟩
    · cases h
theorem dpBs_ok {K : PySem.W.Frag} : ∀ {ds : List PyData} {us : List Value}, dpBs K ds us = true → ∃ xs, Vals xs us ∧ ∀ H : Hp, DpAll K H xs ds
  | [], [], _ => ⟨[], .nil, fun H => .nil⟩
  | d :: ds, u :: us, h => by
    obtain ⟨h1, h2⟩ := He.ba h
    obtain ⟨v, r, q⟩ := dpB_ok h1
    obtain ⟨xs, rs, qs⟩ := dpBs_ok h2
    exact ⟨v :: xs, .cons r rs, fun H => .cons (q H) (qs H)⟩
end
section
variable {P : Program} {w : World} {K : PySem.W.Frag} {mg : Str → Option Value} {base : Heap}
theorem none_nob {C f : Addr} {fd : FuncData} (F : Fun K "names_nobody" "names_nobody" sNob f fd) : FnOk P w K mg base CX0 1 f fd ["face", "kind"] (spNob C fun _ => False) := by
  refine F.ok scNob (fun vs H Q E h => ?_) (fun cdv A outer s H vs Q E hr h => ?_)
  · obtain ⟨_, _, _, _, _, _, _, _, _, _, hk, _⟩ := h
    exact hk.elim
  · obtain ⟨_, _, _, _, _, _, _, _, _, _, hk, _⟩ := h
    exact hk.elim
theorem none_nin {f : Addr} {fd : FuncData} (F : Fun K "name_in" "name_in" sNin f fd) : FnOk P w K mg base CX0 1 f fd ["kind"] (spNin fun _ => False) := by
  refine F.ok scNin (fun vs H Q E h => ?_) (fun cdv A outer s H vs Q E hr h => ?_)
  · obtain ⟨_, _, _, _, _, _, hk, _⟩ := h
    exact hk.elim
  · obtain ⟨_, _, _, _, _, _, hk, _⟩ := h
    exact hk.elim
end
theorem setw_of {K : PySem.W.Frag} {a : Addr} (h : dpB K swD (.ref a) = true) (H : Hp) : SqT K H a [.str "tell", .str "copy", .str "get"] := by
  obtain ⟨v, r, q⟩ := dpB_ok h
  cases v with
  | ref b =>
    cases r
    cases q H with
    | tup h1 h2 =>
      cases h2 with
      | cons a1 h2 => cases h2 with
        | cons a2 h2 => cases h2 with
          | cons a3 h2 =>
            cases h2
            cases a1
            cases a2
            cases a3
            exact h1
  | _ => have q0 := q H; cases q0

theorem facts {P : Program} {w : World} {K : PySem.W.Frag} {h : Heap} {mg : Str → Option Value} {f : Addr} (X : K.In h) (G : h.Ns mainGlobals mg) (hfa : mg ("law" : Str) = some (.ref f)) (c : He.SaysX fa fn [] [] ex w h K) :
    ∃ fd : FuncData, (∀ (s : Shared) (v : Value), BindsTo s fd ⟨[v], []⟩ [("_law_script", v)]) ∧ ∀ base : Heap, K.In base → base.Ns mainGlobals mg → FnOk P w K mg base CX0 8 f fd ["_law_script"] (spLaw K) := by
  have d := c.t.d
  have gl : ∀ (i : Nat) {x : Str}, fa[i]? = some (.glo x) → mg x = some (.ref (He.ga K x)) := fun i x hi => He.glo_ok X G (d.fact i hi)
  have fr : ∀ (i : Nat) {x : Str}, fa[i]? = some (.free x) → mg x = none := fun i x hi => He.free_ok X G (d.fact i hi)
  have na : ∀ (i : Nat) {x y : Str}, fa[i]? = some (.noat x y) → NoAttr K (He.ga K x) y := fun i x y hi => He.noat_ok (d.fact i hi)
  have it : ∀ (i : Nat) {x : Str} {z : Int}, fa[i]? = some (.int x z) → ∃ t, mg x = some (.int z t) := fun i x z hi => He.int_ok X G (d.fact i hi)
  have GG : Glb mg := ⟨fr 41 rfl, fr 42 rfl, fr 43 rfl, fr 44 rfl, fr 45 rfl, fr 46 rfl, fr 47 rfl, fr 48 rfl, fr 49 rfl, fr 50 rfl, fr 51 rfl, fr 52 rfl, fr 53 rfl, fr 54 rfl, fr 55 rfl, fr 56 rfl, fr 57 rfl⟩
  have cl : Cls K (fC K) := He.cls_ok (d.fact 58 (f := .cls "Face") rfl)
  have mk : Mk K (fC K) (He.ma K (fC K) "__init__") := He.mkr_ok (d.fact 64 (f := .mkr "Face") rfl)
  have T : ClsF K mg (fC K) := ⟨cl, na 59 rfl, na 60 rfl, na 61 rfl, na 62 rfl, na 63 rfl, gl 0 rfl⟩
  obtain ⟨fdI, DI⟩ := d.def_ 0 (d := dInit) rfl
  have mm0 : Meth K (fC K) "fields_of" (He.ma K (fC K) "fields_of") := He.meth_ok (d.fact 65 (f := .meth "Face" "fields_of") rfl)
  obtain ⟨fdm0, Dm0⟩ := d.def_ 1 (d := mdef "fields_of" "Face.fields_of" sFields) rfl
  have mm1 : Meth K (fC K) "options_of" (He.ma K (fC K) "options_of") := He.meth_ok (d.fact 66 (f := .meth "Face" "options_of") rfl)
  obtain ⟨fdm1, Dm1⟩ := d.def_ 2 (d := mdef "options_of" "Face.options_of" sOptions) rfl
  obtain ⟨fd0, D0⟩ := d.def_ 3 (d := fdef "word_of" sWord) rfl
  obtain ⟨fd1, D1⟩ := d.def_ 4 (d := fdef "name_in" sNin) rfl
  obtain ⟨fd2, D2⟩ := d.def_ 5 (d := fdef "names_nobody" sNob) rfl
  obtain ⟨fd3, D3⟩ := d.def_ 6 (d := fdef "number_of" sNum) rfl
  obtain ⟨fd4, D4⟩ := d.def_ 7 (d := fdef "digits_of" sDigits) rfl
  obtain ⟨fd5, D5⟩ := d.def_ 8 (d := fdef "told_size" sTold) rfl
  obtain ⟨fd6, D6⟩ := d.def_ 9 (d := fdef "part_size" sPart) rfl
  obtain ⟨fd7, D7⟩ := d.def_ 10 (d := fdef "field_size" sFSize) rfl
  obtain ⟨fd8, D8⟩ := d.def_ 11 (d := fdef "least_of" sLeastOf) rfl
  obtain ⟨fd9, D9⟩ := d.def_ 12 (d := fdef "least_sizes" sLSizes) rfl
  obtain ⟨fd10, D10⟩ := d.def_ 13 (d := fdef "least_size" sLSize) rfl
  obtain ⟨fd11, D11⟩ := d.def_ 14 (d := fdef "wrong" sWro) rfl
  obtain ⟨fd12, D12⟩ := d.def_ 15 (d := fdef "strangers_in_kinds" sStr) rfl
  obtain ⟨fd13, D13⟩ := d.def_ 16 (d := fdef "endless_records" sEnd) rfl
  obtain ⟨fd14, D14⟩ := d.def_ 17 (d := fdef "strangers_of" sSto) rfl
  obtain ⟨fd15, D15⟩ := d.def_ 18 (d := fdef "wrong_deeds" sWde) rfl
  obtain ⟨fd16, D16⟩ := d.def_ 19 (d := fdef "fields_by_name" sFbn9) rfl
  obtain ⟨fd17, D17⟩ := d.def_ 20 (d := fdef "is_as_told" sAst) rfl
  obtain ⟨fd18, D18⟩ := d.def_ 21 (d := fdef "can_copy" sCan) rfl
  obtain ⟨fd19, D19⟩ := d.def_ 22 (d := fdef "effect_of" sEff) rfl
  obtain ⟨fd20, D20⟩ := d.def_ 23 (d := fdef "unset_fields" sUns) rfl
  obtain ⟨fd21, D21⟩ := d.def_ 24 (d := fdef "_law_bag" sBag) rfl
  obtain ⟨fd22, D22⟩ := d.def_ 25 (d := fdef "_law_take" sTake) rfl
  obtain ⟨fd23, D23⟩ := d.def_ 26 (d := fdef "_law_drawn_name" sName) rfl
  obtain ⟨fd24, D24⟩ := d.def_ 27 (d := fdef "_law_unlike_names" sUnlikeN) rfl
  obtain ⟨fd25, D25⟩ := d.def_ 28 (d := fdef "_law_made_face" sFace) rfl
  obtain ⟨fd26, D26⟩ := d.def_ 29 (d := fdef "_law_numbers" sNum9) rfl
  obtain ⟨fd27, D27⟩ := d.def_ 30 (d := fdef "_law_plain_kind" sPlk) rfl
  obtain ⟨fd28, D28⟩ := d.def_ 31 (d := fdef "_law_drawn_kind" sDrk) rfl
  obtain ⟨fd29, D29⟩ := d.def_ 32 (d := fdef "_law_picks" sPck) rfl
  obtain ⟨fd30, D30⟩ := d.def_ 33 (d := fdef "_law_call_deeds" sCde) rfl
  obtain ⟨fd31, D31⟩ := d.def_ 34 (d := fdef "_law_served" sSrv) rfl
  obtain ⟨fd32, D32⟩ := d.def_ 35 (d := fdef "_law_nobody" sNbd) rfl
  obtain ⟨fd33, D33⟩ := d.def_ 36 (d := fdef "_law_all_sizes" sSzs) rfl
  obtain ⟨fd34, D34⟩ := d.def_ 37 (d := fdef "_law_deed_right" sDrt) rfl
  obtain ⟨fd35, D35⟩ := d.def_ 38 (d := fdef "_law_deeds_wrong" sDwr) rfl
  obtain ⟨fd36, D36⟩ := d.def_ 39 (d := fdef "_law_wrong" sWrg) rfl
  obtain ⟨fd37, D37⟩ := d.def_ 40 (d := fdef "_law_spoilt" sSpl) rfl
  obtain ⟨fd38, D38⟩ := d.def_ 41 (d := fdef "law" sLaw) rfl
  have e2 := hfa.symm.trans (gl 40 (x := "law") rfl)
  cases e2
  have bL := FunD.bindsA (ps := ["_law_script"]) D38 fun _ _ _ _ _ _ us hl => match us, hl with | [_], _ => rfl
  refine ⟨fd38, fun s v => bL s [v] rfl, fun base _ _ => ?_⟩
  have FI : DInit K (kwOf ("Face", some "__init__") "choices" K) (kwOf ("Face", some "__init__") "records" K) (kwOf ("Face", some "__init__") "calls" K) (He.ma K (fC K) "__init__") fdI := DI
  have M : MkF P w K mg base (fC K) := ⟨⟨_, fdI, _, _, _, mk, ok_init FI T, FI⟩, gl 0 rfl⟩
  have i1 := it 68 (x := "BASE") (z := 256) rfl
  have i2 := it 69 (x := "FIRST_LONG_SIZE") (z := 200) rfl
  have i3 := it 70 (x := "GREATEST_LEAST") (z := 60) rfl
  have NN : Nums mg := ⟨i1, i2, i3⟩
  have SW : SetW K mg := ⟨He.ga K "SETTING_WORDS", gl 1 rfl, setw_of c.more⟩
  have nMenu : Nm "menu" := nm_lit (by decide +kernel)
  have nForm : Nm "form" := nm_lit (by decide +kernel)
  have W : Has P w K mg base "word_of" 1 ["kind"] spWord := ⟨⟨_, fd0, gl 2 rfl, D0.kp, FunD.bindsN D0 (fun _ _ _ _ _ _ us hl => match us, hl with | [_], _ => rfl), ok_word (toFun (x := "word_of") (q := "word_of") (st := sWord) D0) GG⟩⟩
  have I0 : Has P w K mg base "name_in" 1 ["kind"] (spNin fun _ => False) := ⟨⟨_, fd1, gl 3 rfl, D1.kp, FunD.bindsN D1 (fun _ _ _ _ _ _ us hl => match us, hl with | [_], _ => rfl), none_nin (toFun (x := "name_in") (q := "name_in") (st := sNin) D1)⟩⟩
  have I1 : Has P w K mg base "name_in" 2 ["kind"] (spNin isOne) := ⟨⟨_, fd1, gl 3 rfl, D1.kp, FunD.bindsN D1 (fun _ _ _ _ _ _ us hl => match us, hl with | [_], _ => rfl), ok_nin (toFun (x := "name_in") (q := "name_in") (st := sNin) D1) I0 (fun b hb => by obtain ⟨_, hb⟩ := hb; cases hb)⟩⟩
  have I2 : Has P w K mg base "name_in" 3 ["kind"] (spNin fun _ => True) := ⟨⟨_, fd1, gl 3 rfl, D1.kp, FunD.bindsN D1 (fun _ _ _ _ _ _ us hl => match us, hl with | [_], _ => rfl), ok_nin (toFun (x := "name_in") (q := "name_in") (st := sNin) D1) I1 (fun b _ => ⟨b, rfl⟩)⟩⟩
  have B0 : Has P w K mg base "names_nobody" 1 ["face", "kind"] (spNob (fC K) fun _ => False) := ⟨⟨_, fd2, gl 4 rfl, D2.kp, FunD.bindsN D2 (fun _ _ _ _ _ _ us hl => match us, hl with | [_, _], _ => rfl), none_nob (toFun (x := "names_nobody") (q := "names_nobody") (st := sNob) D2)⟩⟩
  have B1 : Has P w K mg base "names_nobody" 2 ["face", "kind"] (spNob (fC K) isOne) := ⟨⟨_, fd2, gl 4 rfl, D2.kp, FunD.bindsN D2 (fun _ _ _ _ _ _ us hl => match us, hl with | [_, _], _ => rfl), ok_nob (toFun (x := "names_nobody") (q := "names_nobody") (st := sNob) D2) GG cl T.n3 T.n4 B0 (fun b hb => by obtain ⟨_, hb⟩ := hb; cases hb)⟩⟩
  have B2 : Has P w K mg base "names_nobody" 3 ["face", "kind"] (spNob (fC K) fun _ => True) := ⟨⟨_, fd2, gl 4 rfl, D2.kp, FunD.bindsN D2 (fun _ _ _ _ _ _ us hl => match us, hl with | [_, _], _ => rfl), ok_nob (toFun (x := "names_nobody") (q := "names_nobody") (st := sNob) D2) GG cl T.n3 T.n4 B1 (fun b _ => ⟨b, rfl⟩)⟩⟩
  have O : HasM P w K mg base (fC K) "options_of" 1 ["self", "choice"] (spOptions (fC K)) := ⟨cl, _, fdm1, mm1, FunD.bindsN (ps := ["self", "choice"]) Dm1 (fun _ _ _ _ _ _ us hl => match us, hl with | [_, _], _ => rfl), ok_options (toFun (x := "options_of") (q := "Face.options_of") (st := sOptions) Dm1) cl T.n3⟩
  have Fi : HasM P w K mg base (fC K) "fields_of" 1 ["self", "record"] (spFields (fC K)) := ⟨cl, _, fdm0, mm0, FunD.bindsN (ps := ["self", "record"]) Dm0 (fun _ _ _ _ _ _ us hl => match us, hl with | [_, _], _ => rfl), ok_fields (toFun (x := "fields_of") (q := "Face.fields_of") (st := sFields) Dm0) cl T.n4⟩
  have U : Has P w K mg base "number_of" 2 ["face", "kind", "value"] (spNum (fC K)) := ⟨⟨_, fd3, gl 5 rfl, D3.kp, FunD.bindsN D3 (fun _ _ _ _ _ _ us hl => match us, hl with | [_, _, _], _ => rfl), ok_num (toFun (x := "number_of") (q := "number_of") (st := sNum) D3) W O⟩⟩
  have Dg : Has P w K mg base "digits_of" 1 ["number"] spDigits := ⟨⟨_, fd4, gl 6 rfl, D4.kp, FunD.bindsN D4 (fun _ _ _ _ _ _ us hl => match us, hl with | [_], _ => rfl), ok_digits (toFun (x := "digits_of") (q := "digits_of") (st := sDigits) D4) GG NN⟩⟩
  have Td : Has P w K mg base "told_size" 1 ["size"] spTold := ⟨⟨_, fd5, gl 7 rfl, D5.kp, FunD.bindsN D5 (fun _ _ _ _ _ _ us hl => match us, hl with | [_], _ => rfl), ok_told (toFun (x := "told_size") (q := "told_size") (st := sTold) D5) NN⟩⟩
  have Pt : Has P w K mg base "part_size" 2 ["size"] spPart := ⟨⟨_, fd6, gl 8 rfl, D6.kp, FunD.bindsN D6 (fun _ _ _ _ _ _ us hl => match us, hl with | [_], _ => rfl), ok_part (toFun (x := "part_size") (q := "part_size") (st := sPart) D6) GG Td⟩⟩
  have Fs : Has P w K mg base "field_size" 3 ["size"] spFSize := ⟨⟨_, fd7, gl 9 rfl, D7.kp, FunD.bindsN D7 (fun _ _ _ _ _ _ us hl => match us, hl with | [_], _ => rfl), ok_fsize (toFun (x := "field_size") (q := "field_size") (st := sFSize) D7) Pt⟩⟩
  have Lo : Has P w K mg base "least_of" 2 ["face", "kind"] (spLeastOf (fC K)) := ⟨⟨_, fd8, gl 10 rfl, D8.kp, FunD.bindsN D8 (fun _ _ _ _ _ _ us hl => match us, hl with | [_, _], _ => rfl), ok_leastOf (toFun (x := "least_of") (q := "least_of") (st := sLeastOf) D8) W O⟩⟩
  have Ls : Has P w K mg base "least_size" 4 ["face", "kind", "sizes"] (spLSize (fC K)) := ⟨⟨_, fd10, gl 12 rfl, D10.kp, FunD.bindsN D10 (fun _ _ _ _ _ _ us hl => match us, hl with | [_, _, _], _ => rfl), ok_lsize (toFun (x := "least_size") (q := "least_size") (st := sLSize) D10) GG B2 W Dg U Lo⟩⟩
  have Lss : Has P w K mg base "least_sizes" 5 ["face"] (spLSizes (fC K)) := ⟨⟨_, fd9, gl 11 rfl, D9.kp, FunD.bindsN D9 (fun _ _ _ _ _ _ us hl => match us, hl with | [_], _ => rfl), ok_lsizes (toFun (x := "least_sizes") (q := "least_sizes") (st := sLSizes) D9) GG cl T.n4 Ls Fs⟩⟩
  have Sk : Has P w K mg base "strangers_in_kinds" 4 ["face"] (spStrX (fC K)) := ⟨⟨_, fd12, gl 14 rfl, D12.kp, FunD.bindsN D12 (fun _ _ _ _ _ _ us hl => match us, hl with | [_], _ => rfl), ok_strX (toFun (x := "strangers_in_kinds") (q := "strangers_in_kinds") (st := sStr) D12) GG cl T.n4 B2 I2⟩⟩
  have En : Has P w K mg base "endless_records" 6 ["face"] (spEnd (fC K)) := ⟨⟨_, fd13, gl 15 rfl, D13.kp, FunD.bindsN D13 (fun _ _ _ _ _ _ us hl => match us, hl with | [_], _ => rfl), ok_end (toFun (x := "endless_records") (q := "endless_records") (st := sEnd) D13) NN cl T.n4 Lss⟩⟩
  have Fb : Has P w K mg base "fields_by_name" 2 ["face", "record"] (spFbn9 (fC K)) := ⟨⟨_, fd16, gl 18 rfl, D16.kp, FunD.bindsN D16 (fun _ _ _ _ _ _ us hl => match us, hl with | [_, _], _ => rfl), ok_fbn9 (toFun (x := "fields_by_name") (q := "fields_by_name") (st := sFbn9) D16) Fi⟩⟩
  have Cc : Has P w K mg base "can_copy" 1 ["goal", "source"] spCan := ⟨⟨_, fd18, gl 20 rfl, D18.kp, FunD.bindsN D18 (fun _ _ _ _ _ _ us hl => match us, hl with | [_, _], _ => rfl), ok_can (toFun (x := "can_copy") (q := "can_copy") (st := sCan) D18)⟩⟩
  have Ef : Has P w K mg base "effect_of" 1 ["deed", "answered"] spEff := ⟨⟨_, fd19, gl 21 rfl, D19.kp, FunD.bindsN D19 (fun _ _ _ _ _ _ us hl => match us, hl with | [_, _], _ => rfl), ok_eff (toFun (x := "effect_of") (q := "effect_of") (st := sEff) D19) SW⟩⟩
  have As : Has P w K mg base "is_as_told" 2 ["face", "deed", "asked", "answered", "ahead"] (spAst (fC K)) := ⟨⟨_, fd17, gl 19 rfl, D17.kp, FunD.bindsN D17 (fun _ _ _ _ _ _ us hl => match us, hl with | [_, _, _, _, _], _ => rfl), ok_ast (toFun (x := "is_as_told") (q := "is_as_told") (st := sAst) D17) cl T.n1 Cc⟩⟩
  have So : Has P w K mg base "strangers_of" 1 ["face", "call"] (spSto (fC K)) := ⟨⟨_, fd14, gl 16 rfl, D14.kp, FunD.bindsN D14 (fun _ _ _ _ _ _ us hl => match us, hl with | [_, _], _ => rfl), ok_sto (toFun (x := "strangers_of") (q := "strangers_of") (st := sSto) D14) cl T.n4⟩⟩
  have Wd : Has P w K mg base "wrong_deeds" 3 ["face", "call"] (spWde (fC K)) := ⟨⟨_, fd15, gl 17 rfl, D15.kp, FunD.bindsN D15 (fun _ _ _ _ _ _ us hl => match us, hl with | [_, _], _ => rfl), ok_wde (toFun (x := "wrong_deeds") (q := "wrong_deeds") (st := sWde) D15) GG GG.enumerate Fb As Ef⟩⟩
  have Us : Has P w K mg base "unset_fields" 3 ["face", "call"] (spUns (fC K)) := ⟨⟨_, fd20, gl 22 rfl, D20.kp, FunD.bindsN D20 (fun _ _ _ _ _ _ us hl => match us, hl with | [_, _], _ => rfl), ok_uns (toFun (x := "unset_fields") (q := "unset_fields") (st := sUns) D20) Fb Ef⟩⟩
  have Wr : Has P w K mg base "wrong" 7 ["face"] (spWro (fC K)) := ⟨⟨_, fd11, gl 13 rfl, D11.kp, FunD.bindsN D11 (fun _ _ _ _ _ _ us hl => match us, hl with | [_], _ => rfl), ok_wro (toFun (x := "wrong") (q := "wrong") (st := sWro) D11) GG cl T.n5 Sk En So Wd Us⟩⟩
  have LB : Has P w K mg base "_law_bag" 1 ["_law_script", "_law_at"] (spBag K) := ⟨⟨_, fd21, gl 23 rfl, D21.kp, FunD.bindsN D21 (fun _ _ _ _ _ _ us hl => match us, hl with | [_, _], _ => rfl), ok_bag (toFun (x := "_law_bag") (q := "_law_bag") (st := sBag) D21) GG⟩⟩
  have LT : Has P w K mg base "_law_take" 1 ["_law_bag_here", "_law_size"] spTake := ⟨⟨_, fd22, gl 24 rfl, D22.kp, FunD.bindsN D22 (fun _ _ _ _ _ _ us hl => match us, hl with | [_, _], _ => rfl), ok_take (toFun (x := "_law_take") (q := "_law_take") (st := sTake) D22)⟩⟩
  have LN : Has P w K mg base "_law_drawn_name" 2 ["_law_bag_here"] spName := ⟨⟨_, fd23, gl 25 rfl, D23.kp, FunD.bindsN D23 (fun _ _ _ _ _ _ us hl => match us, hl with | [_], _ => rfl), ok_name (toFun (x := "_law_drawn_name") (q := "_law_drawn_name") (st := sName) D23) GG LT⟩⟩
  have LX : Has P w K mg base "_law_unlike_names" 3 ["_law_bag_here", "_law_size", "_law_taken"] spUnlikeN := ⟨⟨_, fd24, gl 26 rfl, D24.kp, FunD.bindsN D24 (fun _ _ _ _ _ _ us hl => match us, hl with | [_, _, _], _ => rfl), ok_unlikeN (toFun (x := "_law_unlike_names") (q := "_law_unlike_names") (st := sUnlikeN) D24) GG LN⟩⟩
  have LF : Has P w K mg base "_law_made_face" 3 ["_law_parts"] (spFace (fC K)) := ⟨⟨_, fd25, gl 27 rfl, D25.kp, FunD.bindsN D25 (fun _ _ _ _ _ _ us hl => match us, hl with | [_], _ => rfl), ok_face (toFun (x := "_law_made_face") (q := "_law_made_face") (st := sFace) D25) M⟩⟩
  have LNm : Has P w K mg base "_law_numbers" 2 ["_law_bag_here", "_law_size"] spNum9 := ⟨⟨_, fd26, gl 28 rfl, D26.kp, FunD.bindsN D26 (fun _ _ _ _ _ _ us hl => match us, hl with | [_, _], _ => rfl), ok_num9 (toFun (x := "_law_numbers") (q := "_law_numbers") (st := sNum9) D26) GG LT⟩⟩
  have LPl : Has P w K mg base "_law_plain_kind" 2 ["_law_bag_here"] spPlk := ⟨⟨_, fd27, gl 29 rfl, D27.kp, FunD.bindsN D27 (fun _ _ _ _ _ _ us hl => match us, hl with | [_], _ => rfl), ok_plk (toFun (x := "_law_plain_kind") (q := "_law_plain_kind") (st := sPlk) D27) LT⟩⟩
  have LDk : Has P w K mg base "_law_drawn_kind" 3 ["_law_bag_here", "_law_picks_here", "_law_words"] spDrk := ⟨⟨_, fd28, gl 30 rfl, D28.kp, FunD.bindsN D28 (fun _ _ _ _ _ _ us hl => match us, hl with | [_, _, _], _ => rfl), ok_drk (toFun (x := "_law_drawn_kind") (q := "_law_drawn_kind") (st := sDrk) D28) GG LT LPl⟩⟩
  have LPc : Has P w K mg base "_law_picks" 4 ["_law_bag_here", "_law_size", "_law_taken"] spPck := ⟨⟨_, fd29, gl 31 rfl, D29.kp, FunD.bindsN D29 (fun _ _ _ _ _ _ us hl => match us, hl with | [_, _, _], _ => rfl), ok_pck (toFun (x := "_law_picks") (q := "_law_picks") (st := sPck) D29) GG LT LNm LX⟩⟩
  have LCd : Has P w K mg base "_law_call_deeds" 2 ["_law_bag_here", "_law_asks", "_law_answer_names", "_law_below"] spCde := ⟨⟨_, fd30, gl 32 rfl, D30.kp, FunD.bindsN D30 (fun _ _ _ _ _ _ us hl => match us, hl with | [_, _, _, _], _ => rfl), ok_cde (toFun (x := "_law_call_deeds") (q := "_law_call_deeds") (st := sCde) D30) GG LT⟩⟩
  have LSv : Has P w K mg base "_law_served" 5 ["_law_bag_here", "_law_name", "_law_edition", "_law_below"] spSrv := ⟨⟨_, fd31, gl 33 rfl, D31.kp, FunD.bindsN D31 (fun _ _ _ _ _ _ us hl => match us, hl with | [_, _, _, _], _ => rfl), ok_srv (toFun (x := "_law_served") (q := "_law_served") (st := sSrv) D31) GG LT LX LNm LPc LDk LCd⟩⟩
  have LNb : Has P w K mg base "_law_nobody" 1 ["_law_parts", "_law_kind"] spNbd := ⟨⟨_, fd32, gl 34 rfl, D32.kp, FunD.bindsN D32 (fun _ _ _ _ _ _ us hl => match us, hl with | [_, _], _ => rfl), ok_nbd (toFun (x := "_law_nobody") (q := "_law_nobody") (st := sNbd) D32) GG⟩⟩
  have LSz : Has P w K mg base "_law_all_sizes" 2 ["_law_parts"] spSzs := ⟨⟨_, fd33, gl 35 rfl, D33.kp, FunD.bindsN D33 (fun _ _ _ _ _ _ us hl => match us, hl with | [_], _ => rfl), ok_szs (toFun (x := "_law_all_sizes") (q := "_law_all_sizes") (st := sSzs) D33) GG LNb⟩⟩
  have LDr : Has P w K mg base "_law_deed_right" 1 ["_law_own", "_law_ins", "_law_outs", "_law_deed", "_law_ahead"] spDrt := ⟨⟨_, fd34, gl 36 rfl, D34.kp, FunD.bindsN D34 (fun _ _ _ _ _ _ us hl => match us, hl with | [_, _, _, _, _], _ => rfl), ok_drt (toFun (x := "_law_deed_right") (q := "_law_deed_right") (st := sDrt) D34)⟩⟩
  have LDw : Has P w K mg base "_law_deeds_wrong" 2 ["_law_parts", "_law_one"] spDwr := ⟨⟨_, fd35, gl 37 rfl, D35.kp, FunD.bindsN D35 (fun _ _ _ _ _ _ us hl => match us, hl with | [_, _], _ => rfl), ok_dwr (toFun (x := "_law_deeds_wrong") (q := "_law_deeds_wrong") (st := sDwr) D35) GG LDr⟩⟩
  have LWg : Has P w K mg base "_law_wrong" 3 ["_law_parts"] spWrg := ⟨⟨_, fd36, gl 38 rfl, D36.kp, FunD.bindsN D36 (fun _ _ _ _ _ _ us hl => match us, hl with | [_], _ => rfl), ok_wrg (toFun (x := "_law_wrong") (q := "_law_wrong") (st := sWrg) D36) GG LNb LSz LDw⟩⟩
  have LSp : Has P w K mg base "_law_spoilt" 2 ["_law_bag_here", "_law_parts"] spSpl := ⟨⟨_, fd37, gl 39 rfl, D37.kp, FunD.bindsN D37 (fun _ _ _ _ _ _ us hl => match us, hl with | [_, _], _ => rfl), ok_spl (toFun (x := "_law_spoilt") (q := "_law_spoilt") (st := sSpl) D37) GG LT⟩⟩
  exact ok_law (toFun (x := "law") (q := "law") (st := sLaw) D38) GG LB LT LN LSv LWg LF Wr LSp
end Fh
open PySem PySem.W PySem.Calls PyProof.Rows
theorem PySem.Challenge.cw_facehouse_k14_whole_right_until_spoilt_holds : PySem.Challenge.rw_facehouse_k14_whole_right_until_spoilt.Holds := by
  w_on; o_law
  refine HandSHeadRun.head_any (r := Fh.R) (q := view Fh.R.prog [53]) (H := Fh.hk) (ob := Fh.ob) (M := 20000) (loose := Fh.loose) (d := HandSHeadRun.topDef Fh.R.prog 53) (kwd := []) Fh.ob_eq
    (by kernel_rfl) (fun s => by kernel_rfl) Fh.run (by kernel_rfl) (by kernel_rfl) (by kernel_rfl) (by rfl) (by first | assumption | decide +kernel) (by decide +kernel) ⟨rfl, rfl, rfl, rfl, rfl, by decide +kernel⟩ ?hw ?hc
  case hw => w_witness2
  case hc =>
    refine L2.walk_ofE (l := PySem.Challenge.rw_facehouse_k14_whole_right_until_spoilt) (n := 63) (k := 8) (x := "_law_script") (CX := L2.CX0) rfl (by decide) (by kernel_rfl) ⟨rfl, by decide, by decide⟩ ?F (fun _ _ _ _ z => z)
    intro w mg fa h Y G hmg0
    obtain ⟨K, KX, c⟩ := Y
    have hmg : mg ("law" : PySem.Str) = some (.ref fa) := by
      have e : (HandSHeadRun.topDef Fh.R.prog 53).name = ("law" : PySem.Str) := by kernel_rfl
      rw [← e]
      exact hmg0
    obtain ⟨fd, hb, hF⟩ := Fh.facts (P := (PySem.Challenge.rw_facehouse_k14_whole_right_until_spoilt).prog) (w := w) KX G hmg c
    exact ⟨K, fd, Fh.spLaw K, KX, hb, fun H a ns hl _ hS => ⟨a, ns, rfl, hS, fun _ => rfl⟩, hF⟩
