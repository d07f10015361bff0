import PyProof.Rows.All
import Wide.All
import OpenK.AllK
import Wide.FinOn
import HandS.ForMost
import HandS.TupAny
import HandS.Zip
import HandS.Flow
import HandS.Wide
import HandS.IsInst
import HandS.FStr
import HandS.OwnEq
import HandS.MakeKwOnly
import HandS.Codes
import HandS.Walk
import HandS.DictComp
import HandS.Style
import HandS.More
import PySem.Challenge.RW_facehouse_k15_whole_renamed
import HandS.HeadHook1
import HandS.HeadHook2
import HandS.HeadHook3
import HandS.HeadHook4
import HandS.Head0
import HandS.Head1
import HandS.Head2
import HandS.HeadEnd
import HandS.TupSets
import PyProof.Rows.SetFrom
import PyProof.DictKinds
import PyProof.Walks
import KE.SortData
import KE.OsSortAny
import HandS.SortOrd
import KE.GoesMore
import KE.KDictZip
import HandS.Rev
import KE.KEqNest
import HandS.DeepEq
import HandS.ListEq
import HandS.TryOnly
set_option Elab.async false
set_option linter.all false
set_option maxRecDepth 100000
set_option maxHeartbeats 4000000
namespace Fh
open PySem L2 PyProof.Rows

/-! ### rules of our own -/
theorem bits_le {i : Int} {n : Nat} (h : i.natAbs < 2 ^ n) : Builtin.Int.intBits i ≤ n := by
  unfold Builtin.Int.intBits
  split
  · exact Nat.zero_le _
  · rename_i hz
    have h0 : i.natAbs ≠ 0 := fun e => hz (by simp [Int.natAbs_eq_zero.mp e])
    exact (Nat.log2_lt h0).mpr h
def CPowW (i j : Int) : Prop := 0 ≤ j ∧ j ≤ 1000 ∧ i.natAbs < 2 ^ 100
theorem CPowW.ok {i j : Int} (h : CPowW i j) : (Builtin.Int.intBits i : Int) * j ≤ 2 ^ 27 := by
  obtain ⟨h0, h1, h2⟩ := h
  have hb : (Builtin.Int.intBits i : Int) ≤ 100 := by exact_mod_cast bits_le h2
  calc (Builtin.Int.intBits i : Int) * j ≤ 100 * 1000 := Int.mul_le_mul hb h1 h0 (by decide)
    _ ≤ 2 ^ 27 := by decide
theorem op_powW {X : Cx} : OpR X (binaryOp .Pow) (rI CPowW fun i j => .int (i ^ j.toNat)) := opI fun _ _ _ _ _ _ _ hc q => pow_int hc.1 hc.ok q

/-- what an expression gives, by a word between it and what follows -/
def tMid (t : TE) : TE := fun σ H Q => ∃ Mid : V → Hp → Prop, t σ H Mid ∧ ∀ v H', Mid v H' → Q v H'
theorem pe_mid {X : Cx} {e : Expr} {t : TE} (h : PE X e t) : PE X e (tMid t) := by
  refine ⟨fun pins s σ H Q I hq => ?_⟩
  obtain ⟨Mid, hm, hu⟩ := hq
  exact thn (h.run pins s σ H Mid I hm) fun v s1 ⟨x, H1, I1, r1, q1⟩ => ⟨x, H1, I1, r1, hu x H1 q1⟩
theorem atI_in {α : Type} {xs : List α} {i : Int} (h0 : 0 ≤ i) (h1 : i < (xs.length : Int)) : ∃ v, atI xs i = some v ∧ xs[i.toNat]? = some v ∧ v ∈ xs := by
  have hj : i.toNat < xs.length := by omega
  have e : ixN xs.length i = some i.toNat := by
    unfold ixN
    rw [if_pos h0, if_pos h1]
  refine ⟨xs[i.toNat], ?_, List.getElem?_eq_getElem hj, List.getElem_mem hj⟩
  unfold atI
  rw [e]
  exact List.getElem?_eq_getElem hj

/-! ### the bag -/
/-- a bag at b, drawn from at most n times -/
def Bag (H : Hp) (b : Addr) (n : Nat) : Prop := ∃ x y z : Int, H b = some (.lst [.int x, .int y, .int z]) ∧ 0 ≤ y ∧ y < 2 ^ 61 ∧ 0 ≤ z ∧ z ≤ (n : Int)
theorem Bag.mono {H : Hp} {b : Addr} {n m : Nat} (h : Bag H b n) (hm : n ≤ m) : Bag H b m := by
  obtain ⟨x, y, z, e, a1, a2, a3, a4⟩ := h
  exact ⟨x, y, z, e, a1, a2, a3, by omega⟩
/-- all but what stands at b is kept -/
def Kp (b : Addr) (H H' : Hp) : Prop := ∀ a o, a ≠ b → H a = some o → H' a = some o
theorem Kp.refl {b : Addr} {H : Hp} : Kp b H H := fun _ _ _ h => h
theorem Kp.trans {b : Addr} {H H1 H2 : Hp} (x : Kp b H H1) (y : Kp b H1 H2) : Kp b H H2 := fun a o n h => y a o n (x a o n h)
theorem Kp.same {b : Addr} {H H1 H2 : Hp} (x : Kp b H H1) (y : Same H1 H2) : Kp b H H2 := fun a o n h => y a o (x a o n h)
theorem Kp.upd {b : Addr} {H : Hp} {o : HO} : Kp b H (upd H b o) := fun a u n h => by rw [upd_ne n]; exact h
theorem Kp.new {b p : Addr} {H H1 : Hp} {o : HO} (x : Kp b H H1) (h : H1 p = none) : Kp b H (L2.upd H1 p o) := fun a u n e => by
  rw [upd_ne (ne_of_none (x a u n e) h)]
  exact x a u n e
theorem Kp.wr {b p : Addr} {H H1 : Hp} {o : HO} (x : Kp b H H1) (h : H p = none) : Kp b H (L2.upd H1 p o) := fun a u n e => by
  rw [upd_ne (ne_of_none e h)]
  exact x a u n e
theorem Bag.same {H H' : Hp} {b : Addr} {n : Nat} (h : Bag H b n) (s : Same H H') : Bag H' b n := by
  obtain ⟨x, y, z, e, a⟩ := h
  exact ⟨x, y, z, s _ _ e, a⟩
theorem Bag.new {H : Hp} {b p : Addr} {n : Nat} {o : HO} (h : Bag H b n) (hp : H p = none) : Bag (L2.upd H p o) b n := by
  obtain ⟨x, y, z, e, a⟩ := h
  exact ⟨x, y, z, by rw [upd_ne (ne_of_none e hp)]; exact e, a⟩
theorem Bag.ne {H : Hp} {b p : Addr} {n : Nat} {o : HO} (h : Bag H b n) (hp : p ≠ b) : Bag (L2.upd H p o) b n := by
  obtain ⟨x, y, z, e, a⟩ := h
  exact ⟨x, y, z, by rw [upd_ne (Ne.symm hp)]; exact e, a⟩
theorem Kp.free {b p : Addr} {H H' : Hp} (x : Kp b H H') (hb : ∃ o, H' b = some o) (h : H' p = none) : H p = none := by
  cases q : H p with
  | none => rfl
  | some o =>
    by_cases e : p = b
    · subst e
      obtain ⟨u, hu⟩ := hb
      rw [h] at hu
      cases hu
    · rw [x p o e q] at h
      cases h
theorem Bag.at {H : Hp} {b : Addr} {n : Nat} (h : Bag H b n) : ∃ o, H b = some o := let ⟨_, _, _, e, _⟩ := h; ⟨_, e⟩

/-! ### promises: the bag and a draw -/
def most : Nat := 1000000
def spTake : Sp := fun vs H Q _ => ∃ (b : Addr) (size : Int) (n : Nat), vs = [.ref b, .int size] ∧ 0 < size ∧ size < 1073741824 ∧ Bag H b n ∧ n ≤ most ∧
  ∀ (d : Int) (H' : Hp), 0 ≤ d → d < size → Kp b H H' → Bag H' b (n + 1) → Q (.int d) H'
def spBag (K : PySem.W.Frag) : Sp := fun vs H Q _ => ∃ (a : Addr) (ns : List Int) (i : Int), vs = [.ref a, .int i] ∧ SqL K H a (ns.map V.int) ∧ 0 ≤ i ∧ i ≤ 100 ∧
  ∀ (p : Addr) (H' : Hp), Same H H' → H p = none → Bag H' p 0 → Q (.ref p) H'
theorem basis_le {y z : Int} (hy : 0 ≤ y) (hy2 : y < 2 ^ 61) (hz : 0 ≤ z) (hz2 : z ≤ 1000001) : (y * (2 * z + 1) + 6007 * z * z + 31).natAbs < 2 ^ 100 := by
  have h1 : y * (2 * z + 1) ≤ 2 ^ 61 * 2000003 := Int.mul_le_mul (by omega) (by omega) (by omega) (by decide)
  have h2 : (6007 * z) * z ≤ (6007 * 1000001) * 1000001 := Int.mul_le_mul (by omega) hz2 hz (by decide)
  have h3 : 0 ≤ y * (2 * z + 1) := Int.mul_nonneg hy (by omega)
  have h4 : 0 ≤ (6007 * z) * z := Int.mul_nonneg (by omega) hz
  omega
end Fh

set_option Elab.async false
set_option linter.all false
set_option maxRecDepth 100000
set_option maxHeartbeats 4000000
namespace Fh
open PySem L2 PyProof.Rows
def top (i : Nat) : Stmt := PySem.Challenge.pw_facehouse_k15_whole_renamed.main.body.getD i (.Pass ⟨0, 0, 0, 0⟩)
abbrev sBag : Stmt := top 36
abbrev sTake : Stmt := top 37
/-- built-in names that no module's name hides -/
structure Glb (mg : Str → Option Value) : Prop where
  len : mg "len" = none
  abs : mg "abs" = none
  int : mg "int" = none
  range : mg "range" = none
  list : mg "list" = none
  min : mg "min" = none
  max : mg "max" = none
  tuple : mg "tuple" = none
  dict : mg "dict" = none
  enumerate : mg "enumerate" = none
  isi : mg "isinstance" = none
  str : mg "str" = none
  sorted : mg "sorted" = none
  set : mg "set" = none
  sum : mg "sum" = none
  zip : mg "zip" = none
  divmod : mg "divmod" = none
section
variable {P : Program} {w : World} {K : PySem.W.Frag} {mg : Str → Option Value} {base : Heap}
theorem scBag : FnScope ["_law_script", "_law_at", "_law_cell", "_law_far"] ["_law_script", "_law_at"] (defScope sBag) := ⟨rfl, rfl, rfl, by decide +kernel, rfl, by decide +kernel, by decide +kernel⟩
theorem scTake : FnScope ["_law_bag_here", "_law_size", "_law_digit", "_law_primes", "_law_stage", "_law_basis", "_law_found"] ["_law_bag_here", "_law_size"] (defScope sTake) := ⟨rfl, rfl, rfl, by decide +kernel, rfl, by decide +kernel, by decide +kernel⟩
theorem ok_take {f : Addr} {fd : FuncData} (F : Fun K "_law_take" "_law_take" sTake f fd) : FnOk P w K mg base CX0 1 f fd ["_law_bag_here", "_law_size"] spTake := by
  refine F.ok scTake (fun vs H Q E h => ?_) (fun cdv A outer s H vs Q E hr h => ?_)
  · obtain ⟨b, size, n, rfl, _⟩ := h
    rfl
  · obtain ⟨b, size, n, rfl, hs0, hs1, ⟨x, y, z, hb, y0, y1, z0, z1⟩, hn, k⟩ := h
    have hn' : n ≤ 1000000 := hn
    refine ⟨_, pss_cons (ps_if (pt_cmpR op_gt (pe_ix ix_list (pv 0) pe_int (fun _ _ => rfl)) pe_int (nomark _))
        (pss_cons (ps_set (i := 2) scTake.nd rfl (Or.inl rfl) (pe_op op_mod (pe_ix ix_list (pv 0) pe_int (fun _ _ => rfl)) (pv 1)))
        (pss_cons (ps_asg (pe_op op_fdiv (pe_ix ix_list (pv 0) pe_int (fun _ _ => rfl)) (pv 1)) (pg_sub (pv 0) pe_int set_list))
        (pss_one (ps_ret (pv 2))))) pss_nil)
      (pss_cons (ps_set (i := 3) scTake.nd rfl (Or.inl rfl) (pe_tup (pa_cons pe_int (pa_cons pe_int (pa_cons pe_int (pa_cons pe_int (pa_cons pe_int (pa_cons pe_int (pa_cons pe_int (pa_cons pe_int pa_nil))))))))))
      (pss_cons (ps_asg (pe_op op_add (pe_ix ix_list (pv 0) pe_int (fun _ _ => rfl)) pe_int) (pg_sub (pv 0) pe_int set_list))
      (pss_cons (ps_set (i := 4) scTake.nd rfl (Or.inl rfl) (pe_ix ix_list (pv 0) pe_int (fun _ _ => rfl)))
      (pss_cons (ps_set (i := 5) scTake.nd rfl (Or.inl rfl) (pe_op op_add (pe_op op_add (pe_op op_mul (pe_ix ix_list (pv 0) pe_int (fun _ _ => rfl)) (pe_op op_add (pe_op op_mul pe_int (pv 4)) pe_int)) (pe_op op_mul (pe_op op_mul pe_int (pv 4)) (pv 4))) pe_int))
      (pss_cons (ps_set (i := 6) scTake.nd rfl (Or.inl rfl) (pe_op op_mod (pe_op op_powW (pv 5) pe_int) (pe_ix ix_tup (pv 3) (pe_op op_mod (pv 4) pe_int) (fun _ _ => rfl))))
      (pss_one (ps_ret (pe_op op_mod (pe_op op_fdiv (pe_op op_mod (pe_op op_mul (pv 6) (pe_op op_add (pe_op op_fdiv (pv 6) pe_int) pe_int)) (pe_ix ix_tup (pv 3) (pe_op op_mod (pe_op op_add (pv 4) pe_int) pe_int) (fun _ _ => rfl))) pe_int) (pv 1))))))))), ?_⟩
    refine ⟨_, rfl, b, _, _, _, rfl, rfl, SqL.of hb, rfl, _, _, rfl, rfl, _, rfl, ?_⟩
    refine ite2 (fun _ => ?_) (fun _ => ?_)
    · refine ⟨_, rfl, b, _, _, _, rfl, rfl, SqL.of hb, rfl, _, rfl, _, _, rfl, rfl, hs0, ?_⟩
      refine ⟨_, rfl, b, _, _, _, rfl, rfl, SqL.of hb, rfl, _, rfl, _, _, rfl, rfl, ⟨hs0, hs1⟩, ?_⟩
      refine ⟨_, rfl, b, _, _, 0, rfl, rfl, hb, rfl, _, rfl, ?_⟩
      exact k _ _ (Int.emod_nonneg _ (by omega)) (Int.emod_lt_of_pos _ hs0) Kp.upd ⟨_, y, z, upd_same, y0, y1, z0, by omega⟩
    · refine ⟨by decide, fun t ht => ?_⟩
      have nbt : b ≠ t := ne_of_none hb ht
      have hb1 : (upd H t (.tup [.int 2147483647, .int 2147483629, .int 2147483587, .int 2147483579, .int 2147483563, .int 2147483549, .int 2147483543, .int 2147483497])) b = some (.lst [.int x, .int y, .int z]) := by rw [upd_ne nbt]; exact hb
      refine ⟨_, rfl, b, _, _, _, rfl, rfl, SqL.of hb1, rfl, _, _, rfl, rfl, ?_⟩
      refine ⟨_, rfl, b, _, _, 2, rfl, rfl, hb1, rfl, ?_⟩
      refine ⟨_, rfl, b, _, _, _, rfl, rfl, SqL.of upd_same, rfl, ?_⟩
      have c1 : CMul y (2 * (z + 1) + 1) := .inl ⟨by omega, by omega⟩
      refine ⟨_, rfl, b, _, _, _, rfl, rfl, SqL.of upd_same, rfl, _, rfl, _, _, rfl, rfl, .inl ⟨by decide, by decide⟩, _, _, rfl, rfl, _, _, rfl, rfl, c1, _, rfl, _, _, rfl, rfl, .inl ⟨by decide, by decide⟩, _, rfl, _, _, rfl, rfl, .inr ⟨by omega, by omega⟩, _, _, rfl, rfl, _, _, rfl, rfl, ?_⟩
      have ht1 : (upd (upd H t (.tup [.int 2147483647, .int 2147483629, .int 2147483587, .int 2147483579, .int 2147483563, .int 2147483549, .int 2147483543, .int 2147483497])) b (.lst [.int x, .int y, .int (z + 1)])) t = some (.tup [.int 2147483647, .int 2147483629, .int 2147483587, .int 2147483579, .int 2147483563, .int 2147483549, .int 2147483543, .int 2147483497]) := by rw [upd_ne nbt.symm, upd_same]
      have prim : ∀ i : Int, ∃ p, atI [V.int 2147483647, .int 2147483629, .int 2147483587, .int 2147483579, .int 2147483563, .int 2147483549, .int 2147483543, .int 2147483497] (i % 8) = some (.int p) ∧ 0 < p ∧ p ≤ 2147483647 := fun i => by
        obtain ⟨v, e, _, hm⟩ := atI_in (xs := [V.int 2147483647, .int 2147483629, .int 2147483587, .int 2147483579, .int 2147483563, .int 2147483549, .int 2147483543, .int 2147483497]) (i := i % 8) (by omega) (by show i % 8 < 8; omega)
        simp only [List.mem_cons, List.not_mem_nil, or_false] at hm
        rcases hm with rfl | rfl | rfl | rfl | rfl | rfl | rfl | rfl <;> exact ⟨_, e, by decide, by decide⟩
      obtain ⟨p1, e1, l1, u1⟩ := prim (z + 1)
      obtain ⟨p2, e2, l2, u2⟩ := prim (z + 1 + 5)
      have hB : CPowW (y * (2 * (z + 1) + 1) + 6007 * (z + 1) * (z + 1) + 31) 3 := ⟨by decide, by decide, basis_le y0 y1 (by omega) (by omega)⟩
      refine ⟨_, rfl, _, _, rfl, rfl, hB, _, rfl, _, rfl, _, _, rfl, rfl, (by show (0 : Int) < 8; decide), t, _, _, _, rfl, rfl, SqT.of ht1, e1, _, _, rfl, rfl, l1, ?_⟩
      generalize hfd : (y * (2 * (z + 1) + 1) + 6007 * (z + 1) * (z + 1) + 31) ^ (3 : Int).toNat % p1 = fd
      have f0 : 0 ≤ fd := by rw [← hfd]; exact Int.emod_nonneg _ (by omega)
      have f1 : fd < p1 := by rw [← hfd]; exact Int.emod_lt_of_pos _ l1
      refine ⟨_, rfl, _, rfl, _, _, rfl, rfl, ⟨by decide, by decide⟩, _, _, rfl, rfl, _, _, rfl, rfl, .inl ⟨by omega, by omega⟩, _, rfl, _, rfl, _, _, rfl, rfl, _, _, rfl, rfl, (by show (0 : Int) < 8; decide), t, _, _, _, rfl, rfl, SqT.of ht1, e2, _, _, rfl, rfl, l2, _, _, rfl, rfl, ⟨by decide, by decide⟩, _, rfl, _, _, rfl, rfl, hs0, ?_⟩
      refine k _ _ (Int.emod_nonneg _ (by omega)) (Int.emod_lt_of_pos _ hs0) ?_ ⟨_, y, z + 1, upd_same, y0, y1, by omega, by omega⟩
      exact (Kp.refl.new ht).trans Kp.upd
end
end Fh

set_option Elab.async false
set_option linter.all false
set_option maxRecDepth 100000
set_option maxHeartbeats 0
namespace Fh
open PySem PySem.Spec PyProof.Rows L2
/-- where a keyword-only default stands -/
def kwOf (p : Str × Option Str) (x : Str) (K : PySem.W.Frag) : Addr := match K.lookup (He.fAd K p) with
  | some ⟨_, _, .func fd, _⟩ => (match fd.kwdefaults with
    | .ref D => (match PySem.W.nsIn K D x with
      | some (some (.ref a)) => a
      | _ => 0)
    | _ => 0)
  | _ => 0
def mdef (m q : Str) (s : Stmt) : He.DefD := ⟨("Face", some m), m, q, defArgs s, defBody s, defScope s, [], []⟩
def dInit : He.DefD := ⟨("Face", some "__init__"), "__init__", "Face.__init__", defArgs (inClass (top 34) 0), defBody (inClass (top 34) 0), defScope (inClass (top 34) 0), [], [("choices", .adr (kwOf ("Face", some "__init__") "choices")), ("records", .adr (kwOf ("Face", some "__init__") "records")), ("calls", .adr (kwOf ("Face", some "__init__") "calls"))]⟩
def fdef (x : Str) (s : Stmt) : He.DefD := ⟨(x, none), x, x, defArgs s, defBody s, defScope s, [], []⟩
def fn0 : List He.DefD := [dInit, mdef "fields_of" "Face.fields_of" (inClass (top 34) 3), mdef "options_of" "Face.options_of" (inClass (top 34) 4), fdef "word_of" (top 2), fdef "name_in" (top 3), fdef "names_nobody" (top 4), fdef "number_of" (top 5), fdef "digits_of" (top 9), fdef "told_size" (top 10), fdef "part_size" (top 11), fdef "field_size" (top 12), fdef "least_of" (top 15)]
def fn1 : List He.DefD := [fdef "least_sizes" (top 16), fdef "least_size" (top 17), fdef "wrong" (top 21), fdef "strangers_in_kinds" (top 22), fdef "endless_records" (top 23), fdef "strangers_of" (top 24), fdef "wrong_deeds" (top 25), fdef "fields_by_name" (top 26), fdef "is_as_told" (top 27), fdef "can_copy" (top 28), fdef "effect_of" (top 29), fdef "unset_fields" (top 30)]
def fn2 : List He.DefD := [fdef "_law_bag" (top 36), fdef "_law_take" (top 37), fdef "_law_drawn_name" (top 38), fdef "_law_unlike_names" (top 39), fdef "_law_rising" (top 40), fdef "_law_pick" (top 41), fdef "_law_kind_drawn" (top 42), fdef "_law_form_drawn" (top 43), fdef "_law_unlike" (top 44), fdef "_law_deed_drawn" (top 45), fdef "_law_acts_drawn" (top 46), fdef "_law_all_drawn" (top 47)]
def fn3 : List He.DefD := [fdef "_law_made_face" (top 48), fdef "_law_rich" (top 49), fdef "_law_code" (top 50), fdef "_law_tables" (top 51), fdef "_law_kind_named" (top 52), fdef "_law_named" (top 53), fdef "_law_image" (top 54), fdef "law" (top 55)]
def fn : List He.DefD := fn0 ++ fn1 ++ fn2 ++ fn3
def fa0 : List He.Fa := [.glo "Face", .glo "SETTING_WORDS", .glo "word_of", .glo "name_in", .glo "names_nobody", .glo "number_of", .glo "digits_of", .glo "told_size", .glo "part_size", .glo "field_size", .glo "least_of", .glo "least_sizes", .glo "least_size", .glo "wrong", .glo "strangers_in_kinds", .glo "endless_records", .glo "strangers_of", .glo "wrong_deeds", .glo "fields_by_name", .glo "is_as_told", .glo "can_copy", .glo "effect_of", .glo "unset_fields", .glo "_law_bag", .glo "_law_take", .glo "_law_drawn_name", .glo "_law_unlike_names", .glo "_law_rising", .glo "_law_pick", .glo "_law_kind_drawn"]
def fa1 : List He.Fa := [.glo "_law_form_drawn", .glo "_law_unlike", .glo "_law_deed_drawn", .glo "_law_acts_drawn", .glo "_law_all_drawn", .glo "_law_made_face", .glo "_law_rich", .glo "_law_code", .glo "_law_tables", .glo "_law_kind_named", .glo "_law_named", .glo "_law_image", .glo "law", .free "len", .free "abs", .free "int", .free "range", .free "list", .free "min", .free "max", .free "tuple", .free "dict", .free "enumerate", .free "isinstance", .free "str", .free "sorted", .free "set", .free "sum", .free "zip", .free "divmod"]
def fa2 : List He.Fa := [.cls "Face", .noat "Face" "name", .noat "Face" "edition", .noat "Face" "choices", .noat "Face" "records", .noat "Face" "calls", .mkr "Face", .meth "Face" "fields_of", .meth "Face" "options_of", .meth "Face" "__init__", .int "BASE" 256, .int "FIRST_LONG_SIZE" 200, .int "GREATEST_LEAST" 60]
def fa : List He.Fa := fa0 ++ fa1 ++ fa2
abbrev fC (K : PySem.W.Frag) : Addr := He.ga K "Face"
mutual
/-- data of texts and tuples that stand in the top's fragment -/
def dpB (K : PySem.W.Frag) : PyData → Value → Bool
  | .str x, .str y _ => decide (x = y)
  | .tuple ds, .ref a => (match K.lookup a with
    | some ⟨.type "tuple", _, .seq its _, _⟩ => decide (its.size ≤ sizeLine) && dpBs K ds its.toList
    | _ => false)
  | _, _ => false
def dpBs (K : PySem.W.Frag) : List PyData → List Value → Bool
  | [], [] => true
  | d :: ds, u :: us => dpB K d u && dpBs K ds us
  | _, _ => false
end
def swD : PyData := .tuple [.str "tell", .str "copy", .str "get"]
def xK (K : PySem.W.Frag) : Bool := dpB K swD (.ref (He.ga K "SETTING_WORDS"))
def ex (K : PySem.W.Frag) : Bool := xK K
abbrev R : PySem.W.OpenRow := PySem.W.OpenLaw.row PySem.Challenge.rw_facehouse_k15_whole_renamed
/-- what the head looks at, over the objects of the heap by number (hookX goes by what the module's names reach) -/
def obL (fa : List He.Fa) (fn : List He.DefD) (ts : List He.Tab) (ex : PySem.W.Frag → Bool) (g : Addr → Option Obj) : He.AlX := (He.obsT fa fn ts (He.frT g (List.range 1000)), ex (He.frT g (List.range 1000)))
def hookL (fa : List He.Fa) (fn : List He.DefD) (ts : List He.Tab) (ex : PySem.W.Frag → Bool) : PySem.W.Hook where
  α := He.AlX
  obs := fun s => obL fa fn ts ex s.heap.get?
  val := fun w => He.valX fn ts w
  says := fun w h => ∃ K : PySem.W.Frag, K.In h ∧ He.SaysX fa fn ts [] ex w h K
  of := fun _ _ e => ⟨_, He.frT_in, ⟨congrArg (fun z : He.AlX => z.1) e, congrArg (fun z : He.AlX => z.2) e, fun _ z => (List.not_mem_nil z).elim, fun _ z => (List.not_mem_nil z).elim, fun _ z => (List.not_mem_nil z).elim⟩⟩
  keeps := fun _ _ _ ⟨K, hK, c⟩ k => ⟨K, PySem.W.Frag.In.keeps hK k, ⟨c.t, c.more, c.hd, c.out, fun _ z => (List.not_mem_nil z).elim⟩⟩
abbrev hk : PySem.W.Hook := hookL fa fn [] ex
def ob (s : PySem.W.SharedT) : He.AlX := obL fa fn [] ex (HandSHeadRun.getT s)
theorem ob_eq (s : PySem.W.SharedT) : ob s = hk.obs s.abs := by
  have e : HandSHeadRun.getT s = s.abs.heap.get? := funext (HandSHeadRun.getT_eq s)
  show obL fa fn [] ex (HandSHeadRun.getT s) = obL fa fn [] ex s.abs.heap.get?
  rw [e]
def loose0 : List Str := ["_wall", "__name__", "word_of", "name_in", "names_nobody", "number_of", "BASE", "FIRST_LONG_SIZE", "digits_of", "told_size", "part_size", "field_size"]
def loose1 : List Str := ["LEAST_PLAIN", "least_of", "least_sizes", "least_size", "GREATEST_LEAST", "SETTING_WORDS", "wrong", "strangers_in_kinds", "endless_records", "strangers_of", "wrong_deeds", "fields_by_name"]
def loose2 : List Str := ["is_as_told", "can_copy", "effect_of", "unset_fields", "NoName", "Face", "_law_bag", "_law_take", "_law_drawn_name", "_law_unlike_names", "_law_rising", "_law_pick"]
def loose3 : List Str := ["_law_kind_drawn", "_law_form_drawn", "_law_unlike", "_law_deed_drawn", "_law_acts_drawn", "_law_all_drawn", "_law_made_face", "_law_rich", "_law_code", "_law_tables", "_law_kind_named", "_law_named"]
def loose4 : List Str := ["_law_image"]
def loose : List Str := loose0 ++ loose1 ++ loose2 ++ loose3 ++ loose4
end Fh
namespace HandSHeadRun
open PySem PySem.W PySem.Calls PyProof.Rows
theorem map3 {α β γ δ : Type} {o : Option α} {f : α → β} {g : α → γ} {h : α → δ} {b : β} {c : γ} {d : δ} (x : o.map f = some b) (y : o.map g = some c) (z : o.map h = some d) : o.map (fun s => (f s, g s, h s)) = some (b, c, d) := by
  cases o with
  | none => cases x
  | some s =>
    cases x
    cases y
    cases z
    rfl
theorem lookA0 (w : World) : ∀ os : OsState, (endF (stepQ (denQ tabQ) Fh.R.prog (w.withFollow "special-get-raises" false)) 20000 Fh.R.prog (w.withFollow "special-get-raises" false) os).map (fun s => looksF Fh.R.prog (boot_heap ((w.withFollow "special-get-raises" false)).params) s.abs) = some true := by
  intro os
  kernel_rfl
theorem lookB0 (w : World) : ∀ os : OsState, (endF (stepQ (denQ tabQ) Fh.R.prog (w.withFollow "special-get-raises" false)) 20000 Fh.R.prog (w.withFollow "special-get-raises" false) os).map (fun s => HandSHeadRun.seenQ (view Fh.R.prog [55]) Fh.loose (importedModules Fh.R.prog.main.body) (fun s => xlAt (view Fh.R.prog [55]) [] s && recOk Fh.R.toRowW.records s) s.abs) = some (openGood (view Fh.R.prog [55]) Fh.loose) := by
  intro os
  kernel_rfl
theorem lookC0 (w : World) : ∀ os : OsState, (endF (stepQ (denQ tabQ) Fh.R.prog (w.withFollow "special-get-raises" false)) 20000 Fh.R.prog (w.withFollow "special-get-raises" false) os).map Fh.ob = some (Fh.hk.val (w.withFollow "special-get-raises" false)) := by
  intro os
  kernel_rfl
theorem runAll0 (w : World) : RunEq Fh.R (view Fh.R.prog [55]) Fh.hk Fh.ob 20000 Fh.loose (w.withFollow "special-get-raises" false) := fun os => map3 (lookA0 w os) (lookB0 w os) (lookC0 w os)
theorem lookA1 (w : World) : ∀ os : OsState, (endF (stepQ (denQ tabQ) Fh.R.prog (w.withFollow "special-get-raises" true)) 20000 Fh.R.prog (w.withFollow "special-get-raises" true) os).map (fun s => looksF Fh.R.prog (boot_heap ((w.withFollow "special-get-raises" true)).params) s.abs) = some true := by
  intro os
  kernel_rfl
theorem lookB1 (w : World) : ∀ os : OsState, (endF (stepQ (denQ tabQ) Fh.R.prog (w.withFollow "special-get-raises" true)) 20000 Fh.R.prog (w.withFollow "special-get-raises" true) os).map (fun s => HandSHeadRun.seenQ (view Fh.R.prog [55]) Fh.loose (importedModules Fh.R.prog.main.body) (fun s => xlAt (view Fh.R.prog [55]) [] s && recOk Fh.R.toRowW.records s) s.abs) = some (openGood (view Fh.R.prog [55]) Fh.loose) := by
  intro os
  kernel_rfl
theorem lookC1 (w : World) : ∀ os : OsState, (endF (stepQ (denQ tabQ) Fh.R.prog (w.withFollow "special-get-raises" true)) 20000 Fh.R.prog (w.withFollow "special-get-raises" true) os).map Fh.ob = some (Fh.hk.val (w.withFollow "special-get-raises" true)) := by
  intro os
  kernel_rfl
theorem runAll1 (w : World) : RunEq Fh.R (view Fh.R.prog [55]) Fh.hk Fh.ob 20000 Fh.loose (w.withFollow "special-get-raises" true) := fun os => map3 (lookA1 w os) (lookB1 w os) (lookC1 w os)
end HandSHeadRun
namespace Fh
open PySem PySem.Spec PyProof.Rows L2
theorem run (w : World) : HandSHeadRun.RunEq R (PySem.W.view R.prog [55]) hk ob 20000 loose w := PySem.W.byRow2 "special-get-raises" (P := fun w => HandSHeadRun.RunEq R (PySem.W.view R.prog [55]) hk ob 20000 loose w) HandSHeadRun.runAll0 HandSHeadRun.runAll1 w
end Fh

set_option Elab.async false
set_option linter.all false
set_option maxRecDepth 100000
set_option maxHeartbeats 4000000
namespace Fh
open PySem L2 PyProof.Rows
/-! ### a def that is called by its name -/
structure Has (P : Program) (w : World) (K : PySem.W.Frag) (mg : Str → Option Value) (base : Heap) (x : Str) (k : Nat) (ps : List Str) (sp : Sp) : Prop where
  ex : ∃ (f : Addr) (fd : FuncData), mg x = some (.ref f) ∧ PySem.W.keepIn K (.ref f) = true ∧ Binds K fd ps [] ∧ FnOk P w K mg base CX0 k f fd ps sp
theorem pe_has {X : Cx} {k : Nat} {x : Str} {ps : List Str} {sp : Sp} {e : Expr} {es : List Expr} {t : TA} {p pos : Pos} (D : Has X.prog X.w X.K X.mg X.base x k ps sp) (hr : Room k X.A) (hg : Gl X x)
    (ha : PA X (e :: es) t) (hdb : (x == ("__debug__" : Str)) = false := by decide) (he : starEach (e :: es) X.env = (false, eval e X.env) :: starEach es X.env := by rfl) (hpl : (backTo pos (starEach es X.env)).any (·.1) = false := by rfl) :
    PE X (.Call (.Name x p) (e :: es) [] pos) (tCall sp [] E0 t) := by
  obtain ⟨f, fd, hm, hk, hb, F⟩ := D.ex
  exact pe_call F hr hg hm hk hb .nil pass0 ha hdb he hpl
theorem iteT_elim {A B : Prop} (h : if true = true then A else B) : A := by rw [if_pos rfl] at h; exact h
theorem iteF_elim {A B : Prop} (h : if false = true then A else B) : B := by rw [if_neg Bool.false_ne_true] at h; exact h
theorem yes {σ : L2.St} {H : Hp} {Q : Bool → Hp → Prop} (h : Q true H) : tYes σ H Q := h
theorem b01 {i : Int} {k : Bool} : CMul i (if k = true then 1 else 0) := by cases k <;> exact .inr ⟨by decide, by decide⟩
/-! ### names -/
def Lt (c : Nat) : Prop := 97 ≤ c ∧ c ≤ 122
structure Nm (z : Str) : Prop where
  lo : 1 ≤ z.length
  hi : z.length ≤ 8
  sg : ∀ c ∈ z.cps.toList, Lt c
def one (c : Nat) : Str := ⟨#[c]⟩
theorem tl_ones : ∀ cs : List Nat, ∀ a : Str, a.cps.toList = [] → (Str.join a (cs.map one)).cps.toList = cs
  | [], _, _ => rfl
  | [c], _, _ => rfl
  | c :: d :: r, a, ha => by
    show (one c ++ a ++ Str.join a ((d :: r).map one)).cps.toList = _
    have e := tl_ones (d :: r) a ha
    show ((one c).cps ++ a.cps ++ (Str.join a ((d :: r).map one)).cps).toList = _
    rw [Array.toList_append, Array.toList_append, e, ha]
    rfl
theorem join_nm {cs : List Nat} (h1 : 1 ≤ cs.length) (h2 : cs.length ≤ 8) (h3 : ∀ c ∈ cs, Lt c) : Nm (Txt.join "" (cs.map one)) := by
  have e : (Txt.join "" (cs.map one)).cps.toList = cs := by
    show (Builtin.Str.glued "" (cs.map one)).cps.toList = cs
    rw [StrLaws.glued_eq_join]
    exact tl_ones cs _ rfl
  have l : (Txt.join "" (cs.map one)).length = cs.length := by
    show (Txt.join "" (cs.map one)).cps.size = _
    rw [← Array.length_toList, e]
  exact ⟨by rw [l]; exact h1, by rw [l]; exact h2, by rw [e]; exact h3⟩
theorem len_ones : ∀ cs : List Nat, ((cs.map one).map (·.length)).sum = cs.length
  | [] => rfl
  | c :: r => by
    show (one c).length + ((r.map one).map (·.length)).sum = r.length + 1
    rw [len_ones r]
    show 1 + _ = _
    omega
abbrev abc : Str := "abcdefghijklmnopqrstuvwxyz"
theorem abc_codes : abc.cps.toList = [97, 98, 99, 100, 101, 102, 103, 104, 105, 106, 107, 108, 109, 110, 111, 112, 113, 114, 115, 116, 117, 118, 119, 120, 121, 122] := by decide +kernel
theorem abc_at {i : Int} (h0 : 0 ≤ i) (h1 : i < 26) : ∃ c, atI abc.cps.toList i = some c ∧ Lt c := by
  have hl : abc.cps.toList.length = 26 := by rw [abc_codes]; rfl
  obtain ⟨v, e, _, hm⟩ := atI_in (xs := abc.cps.toList) h0 (by rw [hl]; exact h1)
  refine ⟨v, e, ?_⟩
  rw [abc_codes] at hm
  revert hm
  unfold Lt
  simp only [List.mem_cons, List.not_mem_nil, or_false]
  omega
def spName : Sp := fun vs H Q _ => ∃ (b : Addr) (n : Nat), vs = [.ref b] ∧ Bag H b n ∧ n + 10 ≤ most ∧
  ∀ (z : Str) (H' : Hp), Nm z → Kp b H H' → Bag H' b (n + 10) → Q (.str z) H'
abbrev sName : Stmt := top 38
section
variable {P : Program} {w : World} {K : PySem.W.Frag} {mg : Str → Option Value} {base : Heap}
theorem ok_bag {f : Addr} {fd : FuncData} (F : Fun K "_law_bag" "_law_bag" sBag f fd) (G : Glb mg) : FnOk P w K mg base CX0 1 f fd ["_law_script", "_law_at"] (spBag K) := by
  refine F.ok scBag (fun vs H Q E h => ?_) (fun cdv A outer s H vs Q E hr h => ?_)
  · obtain ⟨a, ns, i, rfl, _⟩ := h
    rfl
  · obtain ⟨a, ns, i, rfl, hS, i0, i1, k⟩ := h
    refine ⟨_, pss_cons (ps_set (i := 2) scBag.nd rfl (Or.inl rfl) (pe_op op_add (pe_op op_add (pe_op op_mul (pe_op op_mul pe_int (pv 1)) (pv 1)) (pe_op op_mul pe_int (pv 1))) pe_int))
      (C8.pss_cut (ps_if (pt_cmpR op_lt (pv 1) (pe_callB call_len_seq (by rfl) G.len PySem.boot_len (pa_cons (pv 0) pa_nil)) (nomark _)) (pss_one (ps_set (i := 2) scBag.nd rfl (Or.inl rfl) (pe_ix ix_list (pv 0) (pv 1) (fun _ _ => rfl)))) pss_nil)
      (pss_cons (ps_set (i := 3) scBag.nd rfl (Or.inl rfl) (pe_callB call_abs (by rfl) G.abs (by decide +kernel) (pa_cons (pv 2) pa_nil)))
      (pss_one (ps_ret (pe_lst (pa_cons (pe_op op_mul (pv 3) (pe_callTy call_int1 (by rfl) G.int (by decide +kernel) (pa_cons (pe_cmpR op_ge (pv 3) (pe_op op_pow pe_int pe_int) (nomark _)) pa_nil)))
        (pa_cons (pe_op op_add (pe_op op_mod (pv 2) (pe_op op_add (pe_op op_pow pe_int pe_int) pe_int)) (pe_op op_mul pe_int (pv 1))) (pa_cons pe_int pa_nil)))))))), ?_⟩
    refine ⟨_, rfl, _, _, rfl, rfl, .inl ⟨by decide, by decide⟩, _, rfl, _, _, rfl, rfl, .inr ⟨by omega, by omega⟩, _, rfl, _, _, rfl, rfl, .inl ⟨by decide, by decide⟩, _, _, rfl, rfl, _, _, rfl, rfl, ?_⟩
    refine ⟨fun σ H' => H' = H ∧ ∃ c : Int, σ = [some (.ref a), some (.int i), some (.int c), none], ?_, ?_⟩
    · refine ⟨_, rfl, _, rfl, a, _, rfl, .inl hS, _, _, rfl, rfl, _, rfl, ?_⟩
      refine ite2 (fun h => ?_) (fun _ => ?_)
      · have hlt : i < ((ns.map V.int).length : Int) := of_decide_eq_true h
        obtain ⟨v, e1, _, hm⟩ := atI_in (xs := ns.map V.int) i0 hlt
        obtain ⟨c, _, rfl⟩ := List.mem_map.mp hm
        exact ⟨_, rfl, _, rfl, a, _, _, _, rfl, rfl, hS, e1, rfl, c, rfl⟩
      · exact ⟨rfl, _, rfl⟩
    · rintro σ H' ⟨rfl, c, rfl⟩
      refine ⟨_, rfl, _, rfl, ?_⟩
      have e18 : (10 : Int) ^ (18 : Int).toNat = 1000000000000000000 := by decide
      have p18 : CPow 10 18 := ⟨by decide, by decide, by decide⟩
      refine ⟨_, rfl, _, rfl, _, _, rfl, rfl, p18, _, _, rfl, rfl, .inr ⟨_, rfl, _, _, rfl, rfl, b01, ?_⟩⟩
      refine ⟨_, rfl, _, _, rfl, rfl, p18, _, _, rfl, rfl, _, _, rfl, rfl, (by show (0 : Int) < 10 ^ (18 : Int).toNat + 9; rw [e18]; decide), _, rfl, _, _, rfl, rfl, .inl ⟨by decide, by decide⟩, _, _, rfl, rfl, ?_⟩
      refine ⟨(by show 3 ≤ sizeLine; decide), fun p hp => ?_⟩
      have m0 : 0 ≤ c % (10 ^ (18 : Int).toNat + 9) := Int.emod_nonneg _ (by rw [e18]; decide)
      have m1 : c % (10 ^ (18 : Int).toNat + 9) < 10 ^ (18 : Int).toNat + 9 := Int.emod_lt_of_pos _ (by rw [e18]; decide)
      rw [e18] at m0 m1
      refine k p _ (fun b o eb => by rw [upd_ne (ne_of_none eb hp)]; exact eb) hp ⟨_, _, 0, upd_same, ?_, ?_, by omega, by omega⟩
      · rw [e18]; omega
      · rw [e18]; omega
theorem scName : FnScope ["_law_bag_here", "_law_letters", "_law_size", "_law_spot"] ["_law_bag_here"] (defScope sName) := ⟨rfl, rfl, rfl, by decide +kernel, rfl, by decide +kernel, by decide +kernel⟩
theorem ok_name {f : Addr} {fd : FuncData} (F : Fun K "_law_drawn_name" "_law_drawn_name" sName f fd) (G : Glb mg) (DT : Has P w K mg base "_law_take" 1 ["_law_bag_here", "_law_size"] spTake) : FnOk P w K mg base CX0 2 f fd ["_law_bag_here"] spName := by
  refine F.ok scName (fun vs H Q E h => ?_) (fun cdv A outer s H vs Q E hr h => ?_)
  · obtain ⟨b, n, rfl, _⟩ := h
    rfl
  · obtain ⟨b, n, rfl, hB, hn, k⟩ := h
    have hn' : n + 10 ≤ 1000000 := hn
    refine ⟨_, pss_cons (ps_set (i := 1) scName.nd rfl (Or.inr rfl) pe_str)
      (pss_cons (ps_set (i := 2) scName.nd rfl (Or.inl rfl) (pe_op op_add pe_int (pe_has DT hr rfl (pa_cons (pv 0) (pa_cons (pe_mid (pe_ix ix_list (pe_lst (pa_cons pe_int (pa_cons pe_int pa_nil)))
          (pe_callTy call_int1 (by rfl) G.int (by decide +kernel) (pa_cons (pe_cmpR op_eq (pe_has DT hr rfl (pa_cons (pv 0) (pa_cons pe_int pa_nil))) pe_int (nomark _)) pa_nil)) (fun _ _ => rfl))) pa_nil)))))
      (pss_one (ps_ret (pe_join pe_str (pe_lc (own := [("_law_spot", 3)]) (g := gName 3) (tt := tYes) rfl scName.nd (pi_range1 rfl G.range (pa_cons (pv 2) pa_nil)) (blkOk_by (N := ["_law_bag_here", "_law_letters", "_law_size", "_law_spot"]) (sc := defScope sName) (by decide +kernel))
        (fun _ _ _ _ _ => pg_name (i := 3) scName.nd rfl (Or.inl rfl)) (fun _ _ _ _ _ => pts_nil)
        (fun _ _ _ _ _ => pe_ix ix_str (pv 1) (pe_has DT hr rfl (pa_cons (pv 0) (pa_cons pe_int pa_nil))) (fun _ _ => rfl))))))), ?_⟩
    refine ⟨_, rfl, fun v H1 => ∃ m : Int, v = .int m ∧ (m = 2 ∨ m = 8) ∧ Kp b H H1 ∧ Bag H1 b (n + 1), ?_, ?_⟩
    · refine ⟨by decide, fun p hp => ?_⟩
      refine ⟨_, rfl, b, 4, n, rfl, by decide, by decide, hB.new hp, by show n ≤ 1000000; omega, fun d H1 d0 d1 K1 B1 => ?_⟩
      have npb : p ≠ b := fun e => by
        obtain ⟨o, ho⟩ := hB.at
        rw [e, ho] at hp
        cases hp
      have hp1 : H1 p = some (.lst [.int 2, .int 8]) := K1 p _ npb upd_same
      refine ⟨rfl, .inr ⟨_, rfl, ?_⟩⟩
      have kp0 : Kp b H H1 := (Kp.refl.new hp).trans K1
      cases decide (V.int d = V.int 0) with
      | true => exact ⟨p, _, _, _, rfl, rfl, SqL.of hp1, rfl, 8, rfl, .inr rfl, kp0, B1⟩
      | false => exact ⟨p, _, _, _, rfl, rfl, SqL.of hp1, rfl, 2, rfl, .inl rfl, kp0, B1⟩
    · rintro v H1 ⟨m, rfl, hm, K1, B1⟩
      refine ⟨b, m, n + 1, rfl, by omega, by omega, B1, by show n + 1 ≤ 1000000; omega, fun d H2 d0 d1 K2 B2 => ?_⟩
      refine ⟨_, _, rfl, rfl, ?_⟩
      have hd9 : 1 + d ≤ 8 := by omega
      have hd0 : (1 + d).toNat = (1 + d) := by omega
      refine ⟨⟨_, rfl⟩, _, rfl, 1 + d, rfl, by omega, by omega, fun D hD => ?_⟩
      refine lc_range (lo := 0) (n := (1 + d).toNat) (fun i H3 => Kp b H H3 ∧ Bag H3 b (n + 2 + i) ∧ D ≠ b ∧ ∃ cs : List Nat, H3 D = some (.lst ((cs.map one).map V.str)) ∧ cs.length = i ∧ ∀ c ∈ cs, Lt c) ?_ ?_ ?_
      · have nDb : D ≠ b := fun e => by
          obtain ⟨o, ho⟩ := B2.at
          rw [e, ho] at hD
          cases hD
        exact ⟨(K1.trans K2).new hD, B2.new hD, nDb, [], upd_same, rfl, fun c h => nomatch h⟩
      · rintro i H3 hi ⟨K3, B3, nDb, cs, hD3, hl, hc⟩
        refine ⟨rfl, ?_⟩
        refine yes (iteT ?_)
        refine ⟨_, rfl, _, rfl, b, 26, n + 2 + i, rfl, by decide, by decide, B3, by show n + 2 + i ≤ 1000000; omega, fun e H4 e0 e1 K4 B4 => ?_⟩
        obtain ⟨c, hce, hcl⟩ := abc_at e0 e1
        refine ⟨_, _, c, rfl, rfl, by decide +kernel, hce, ?_⟩
        have hD4 := K4 D _ nDb hD3
        have h8 : (1 + d).toNat ≤ 8 := by omega
        have hsz : ((cs.map one).map V.str).length < sizeLine := by
          rw [List.length_map, List.length_map, hl]
          exact Nat.lt_of_lt_of_le hi (Nat.le_trans h8 (by decide))
        refine ⟨_, hD4, hsz, ?_⟩
        refine ⟨(K3.trans K4).wr ?_, B4.ne nDb, nDb, cs ++ [c], ?_, by rw [List.length_append, hl]; rfl, ?_⟩
        · exact (K1.trans K2).free B2.at hD
        · rw [upd_same, List.map_append, List.map_append]; rfl
        · intro c' hc'
          rcases List.mem_append.mp hc' with h | h
          · exact hc c' h
          · rw [List.mem_singleton.mp h]; exact hcl
      · rintro H3 ⟨K3, B3, nDb, cs, hD3, hl, hc⟩
        refine ⟨_, _, _, rfl, rfl, .inl (SqL.of hD3), ?_, ?_⟩
        · rw [len_ones, List.length_map, hl]
          have : (1 + d).toNat ≤ 8 := by omega
          show _ + _ * 0 ≤ _
          omega
        · exact k _ _ (join_nm (by omega) (by omega) hc) K3 (B3.mono (by omega))
end
end Fh

set_option Elab.async false
set_option linter.all false
set_option maxRecDepth 100000
set_option maxHeartbeats 4000000
namespace Fh
open PySem L2 PyProof.Rows
/-! ### lists of texts -/
theorem flat_strs (zs : List Str) : (zs.map V.str).all flatV = true := by
  rw [List.all_eq_true]
  intro x hx
  obtain ⟨z, _, rfl⟩ := List.mem_map.mp hx
  rfl
theorem in_strs (z : Str) (zs : List Str) : inV (.str z) (zs.map V.str) = decide (z ∈ zs) := by
  unfold inV
  induction zs with
  | nil => rfl
  | cons a r ih =>
    rw [List.map_cons, List.any_cons, ih]
    show ((a == z) || decide (z ∈ r)) = decide (z ∈ a :: r)
    by_cases h : a = z
    · subst h; simp
    · have h' : ¬ z = a := fun e => h e.symm
      simp [h, h']
theorem strs_ne_bag {H : Hp} {l b : Addr} {n : Nat} {zs : List Str} (hl : H l = some (.lst (zs.map V.str))) (hb : Bag H b n) : l ≠ b := by
  rintro rfl
  obtain ⟨x, y, z, e, _⟩ := hb
  rw [hl] at e
  cases zs with
  | nil => cases e
  | cons a r => cases e
theorem new_ne {H : Hp} {p b : Addr} {n : Nat} (hp : H p = none) (hb : Bag H b n) : p ≠ b := by
  rintro rfl
  obtain ⟨x, y, z, e, _⟩ := hb
  rw [hp] at e
  cases e
theorem sub_len {α : Type} [DecidableEq α] : ∀ (l u : List α), l.Nodup → (∀ x ∈ l, x ∈ u) → l.length ≤ u.length
  | [], _, _, _ => Nat.zero_le _
  | x :: r, u, hn, hs => by
    have hx : x ∈ u := hs x List.mem_cons_self
    obtain ⟨h1, h2⟩ := List.nodup_cons.mp hn
    have q := sub_len r (u.erase x) h2 fun y hy => (List.mem_erase_of_ne (fun (e : y = x) => h1 (e ▸ hy))).mpr (hs y (List.mem_cons_of_mem _ hy))
    rw [List.length_erase_of_mem hx] at q
    have := List.length_pos_of_mem hx
    simp only [List.length_cons]
    omega
theorem one_app_inj {c d : Nat} {t : Str} (h : one c ++ t = one d ++ t) : c = d := by
  have e : (one c ++ t).cps = (one d ++ t).cps := by rw [h]
  have e2 : ((one c).cps ++ t.cps).toList = ((one d).cps ++ t.cps).toList := by
    show (one c ++ t).cps.toList = _
    rw [e]
    rfl
  rw [Array.toList_append, Array.toList_append] at e2
  exact (List.cons.inj e2).1
def abcL : List Nat := [97, 98, 99, 100, 101, 102, 103, 104, 105, 106, 107, 108, 109, 110, 111, 112, 113, 114, 115, 116, 117, 118, 119, 120, 121, 122]
theorem abc_sz : abc.cps.size = 26 := by decide +kernel
theorem abcL_nodup : abcL.Nodup := by decide
theorem abcL_lt : ∀ c ∈ abcL, Lt c := by unfold Lt; decide
theorem fresh_tail (t : Str) (u : List Str) (hu : u.length < 26) : ∃ z ∈ abcL.map (fun c => one c ++ t), z ∉ u := by
  apply Classical.byContradiction
  intro h
  have hs : ∀ z ∈ abcL.map (fun c => one c ++ t), z ∈ u := fun z hz => Classical.byContradiction fun hn => h ⟨z, hz, hn⟩
  have hn : (abcL.map (fun c => one c ++ t)).Nodup := by
    refine List.Pairwise.map _ (fun c d hcd e => ?_) abcL_nodup
    exact hcd (one_app_inj e)
  have q := sub_len _ u hn hs
  rw [List.length_map] at q
  have : abcL.length = 26 := rfl
  omega
def tail7 (z : Str) : Str := cutS z (some 1) (some 7)
theorem tail7_nm {z : Str} (h : Nm z) : (tail7 z).length ≤ 6 ∧ ∀ c ∈ (tail7 z).cps.toList, Lt c := by
  have e : (tail7 z).cps.toList = (z.cps.toList.drop (HT.sIx z.length 0 (some 1))).take (HT.sIx z.length z.length (some 7) - HT.sIx z.length 0 (some 1)) := rfl
  have e1 : HT.sIx z.length 0 (some 1) = 1 := by
    have := HT.sIx_nat z.length 0 1
    rw [show ((1 : Nat) : Int) = 1 from rfl] at this
    rw [this]
    have := h.lo
    omega
  have e7 : HT.sIx z.length z.length (some 7) ≤ 7 := by
    have := HT.sIx_nat z.length z.length 7
    rw [show ((7 : Nat) : Int) = 7 from rfl] at this
    rw [this]
    omega
  refine ⟨?_, fun c hc => ?_⟩
  · show (tail7 z).cps.size ≤ 6
    rw [← Array.length_toList, e, List.length_take, e1]
    omega
  · rw [e] at hc
    exact h.sg c (List.mem_of_mem_drop (List.mem_of_mem_take hc))
theorem app_codes (a b : Str) : (a ++ b).cps.toList = a.cps.toList ++ b.cps.toList := by
  show (a.cps ++ b.cps).toList = _
  rw [Array.toList_append]
theorem app_len (a b : Str) : (a ++ b).length = a.length + b.length := by
  show (a.cps ++ b.cps).size = _
  rw [Array.size_append]
  rfl
theorem tails_nm {z t : Str} (h : Nm z) (ht : t ∈ abcL.map (fun c => one c ++ tail7 z) ++ abcL.map (fun c => (one c ++ "x") ++ tail7 z)) : Nm t := by
  obtain ⟨hl, hs⟩ := tail7_nm h
  have hone : ∀ c, (one c).length = 1 := fun _ => rfl
  have hx : ("x" : Str).length = 1 := by decide +kernel
  have hxc : ("x" : Str).cps.toList = [120] := by decide +kernel
  rcases List.mem_append.mp ht with h' | h'
  · obtain ⟨c, hc, rfl⟩ := List.mem_map.mp h'
    refine ⟨by rw [app_len, hone]; omega, by rw [app_len, hone]; omega, fun d hd => ?_⟩
    rw [app_codes] at hd
    rcases List.mem_append.mp hd with hd | hd
    · rw [List.mem_singleton.mp hd]; exact abcL_lt c hc
    · exact hs d hd
  · obtain ⟨c, hc, rfl⟩ := List.mem_map.mp h'
    refine ⟨by rw [app_len, app_len, hone]; omega, by rw [app_len, app_len, hone, hx]; omega, fun d hd => ?_⟩
    rw [app_codes, app_codes, hxc] at hd
    rcases List.mem_append.mp hd with hd | hd
    · rcases List.mem_append.mp hd with hd | hd
      · rw [List.mem_singleton.mp hd]; exact abcL_lt c hc
      · rw [List.mem_singleton.mp hd]; exact ⟨by decide, by decide⟩
    · exact hs d hd
/-! ### comprehensions that only read -/
theorem put_next {H1 : Hp} {D : Addr} {ys : List V} {i : Nat} {y : V} (h : ys[i]? = some y) : upd (upd H1 D (.lst (ys.take i))) D (.lst (ys.take i ++ [y])) = upd H1 D (.lst (ys.take (i + 1))) := by
  rw [upd_upd, List.take_succ, h]
  rfl
theorem take_sz {ys : List V} {i n : Nat} (hn : ys.length ≤ n) (hl : n < sizeLine) : (ys.take i).length < sizeLine := by
  rw [List.length_take]
  omega
theorem abcL_at {i : Nat} {c : Nat} (h : abc.cps[i]? = some c) : abcL[i]? = some c := by
  have e : abc.cps = abcL.toArray := by decide +kernel
  rw [e] at h
  simpa using h
def spUnlikeN : Sp := fun vs H Q _ => ∃ (b t : Addr) (size : Int) (tk : List Str) (n : Nat), vs = [.ref b, .int size, .ref t] ∧ Bag H b n ∧ 0 ≤ size ∧ size ≤ 12 ∧ H t = some (.lst (tk.map V.str)) ∧ tk.length ≤ 12 ∧ n + 200 ≤ most ∧
  ∀ (p : Addr) (zs : List Str) (H' : Hp), H p = none → H' p = some (.lst (zs.map V.str)) → (zs.length : Int) = size → zs.Nodup → (∀ z ∈ zs, Nm z ∧ z ∉ tk) → Kp b H H' → Bag H' b (n + 120) → Q (.ref p) H'
abbrev sUnlikeN : Stmt := top 39
abbrev nUnlikeN : List Str := ["_law_bag_here", "_law_size", "_law_taken", "_law_found", "_law_spot", "_law_word", "_law_used", "_law_tails", "_law_one"]
section
variable {P : Program} {w : World} {K : PySem.W.Frag} {mg : Str → Option Value} {base : Heap}
theorem scUnlikeN : FnScope nUnlikeN ["_law_bag_here", "_law_size", "_law_taken"] (defScope sUnlikeN) := ⟨rfl, rfl, rfl, by decide +kernel, rfl, by decide +kernel, by decide +kernel⟩
theorem ok_unlikeN {f : Addr} {fd : FuncData} (F : Fun K "_law_unlike_names" "_law_unlike_names" sUnlikeN f fd) (G : Glb mg) (DN : Has P w K mg base "_law_drawn_name" 2 ["_law_bag_here"] spName) : FnOk P w K mg base CX0 3 f fd ["_law_bag_here", "_law_size", "_law_taken"] spUnlikeN := by
  refine F.ok scUnlikeN (fun vs H Q E h => ?_) (fun cdv A outer s H vs Q E hr h => ?_)
  · obtain ⟨b, t, size, tk, n, rfl, _⟩ := h
    rfl
  · obtain ⟨b, t, size, tk, n, rfl, hB, s0, s1, ht, htl, hn, k⟩ := h
    have hn' : n + 200 ≤ 1000000 := hn
    have ntb : t ≠ b := strs_ne_bag ht hB
    refine ⟨_, pss_cons (ps_set (i := 3) scUnlikeN.nd rfl (Or.inl rfl) (pe_lst pa_nil))
      (pss_cons (ps_for PassesOwn.never rfl (pi_range1 rfl G.range (pa_cons (pv 1) pa_nil)) (pg_name (i := 4) scUnlikeN.nd rfl (Or.inl rfl))
        (pss_cons (ps_set (i := 5) scUnlikeN.nd rfl (Or.inr rfl) (pe_has DN hr rfl (pa_cons (pv 0) pa_nil)))
        (pss_cons (ps_set (i := 6) scUnlikeN.nd rfl (Or.inr rfl) (pe_op op_cat (pv 3) (pe_callTy call_list_of (by rfl) G.list (by decide +kernel) (pa_cons (pv 2) pa_nil))))
        (C8.pss_cut (ps_if (pt_cmpR op_in_seq (pv 5) (pv 6) rfl)
          (pss_cons (ps_setLc (i := 7) (own := [("_law_one", 8)]) (g := gName 8) (tt := tYes) rfl scUnlikeN.nd rfl rfl (sw_true rfl rfl rfl (by decide +kernel)) (pi_str pe_str) (blkOk_by (N := nUnlikeN) (sc := defScope sUnlikeN) (by decide +kernel))
            (fun _ _ _ _ _ => pg_name (i := 8) scUnlikeN.nd rfl (Or.inl rfl)) (fun _ _ _ _ _ => pts_nil)
            (fun _ _ _ _ _ => pe_op op_add_str (pv 8) (pe_slice sl_str (pv 5) (po_some pe_int) (po_some pe_int))))
          (pss_cons (ps_set (i := 7) scUnlikeN.nd rfl (Or.inl rfl) (pe_op op_cat (pv 7) (pe_lc (own := [("_law_one", 8)]) (g := gName 8) (tt := tYes) rfl scUnlikeN.nd (pi_str pe_str) (blkOk_by (N := nUnlikeN) (sc := defScope sUnlikeN) (by decide +kernel))
            (fun _ _ _ _ _ => pg_name (i := 8) scUnlikeN.nd rfl (Or.inl rfl)) (fun _ _ _ _ _ => pts_nil)
            (fun _ _ _ _ _ => pe_op op_add_str (pe_op op_add_str (pv 8) pe_str) (pe_slice sl_str (pv 5) (po_some pe_int) (po_some pe_int))))))
          (pss_one (ps_set (i := 5) scUnlikeN.nd rfl (Or.inr rfl) (pe_ix ix_list (pe_lc (own := [("_law_one", 8)]) (g := gName 8) (tt := tTest (tOp (rIn K true) (tVar 8) (tVar 6))) rfl scUnlikeN.nd (pi_list (pv 7)) (blkOk_by (N := nUnlikeN) (sc := defScope sUnlikeN) (by decide +kernel))
            (fun _ _ _ _ _ => pg_name (i := 8) scUnlikeN.nd rfl (Or.inl rfl)) (fun _ _ _ _ _ => pts_one (pt_cmpR op_notIn_seq (pv 8) (pv 6) rfl))
            (fun _ _ _ _ _ => pv 8)) pe_int (fun _ _ => rfl))))))
          pss_nil)
        (pss_one (ps_expr (pe_bm PySem.F.plainAttrs_list PySem.F.slot_list_append PySem.F.type_list_append mt_append (pv 3) (pa_cons (pv 5) pa_nil))))))))
      (pss_one (ps_ret (pv 3)))), ?_⟩
    refine ⟨by decide, fun p hp => ?_⟩
    have npb : p ≠ b := new_ne hp hB
    refine ⟨_, rfl, size, rfl, by omega, by omega, ?_⟩
    refine for_range (lo := 0) (n := size.toNat) (fun i σ H3 => (∃ a4 a5 a6 a7 a8, σ = [some (.ref b), some (.int size), some (.ref t), some (.ref p), a4, a5, a6, a7, a8]) ∧ Kp b H H3 ∧ Bag H3 b (n + 10 * i) ∧ ∃ zs : List Str, H3 p = some (.lst (zs.map V.str)) ∧ zs.length = i ∧ zs.Nodup ∧ ∀ z ∈ zs, Nm z ∧ z ∉ tk) ?_ ?_ ?_
    · exact ⟨⟨_, _, _, _, _, rfl⟩, Kp.refl.new hp, hB.new hp, [], upd_same, rfl, List.nodup_nil, fun z h => nomatch h⟩
    · rintro i σ H3 hi ⟨⟨a4, a5, a6, a7, a8, rfl⟩, K3, B3, zs, hp3, hl, hnd, hz⟩
      have hB3 : n + 10 * i + 10 ≤ 1000000 := by omega
      have hi12 : i < 12 := by omega
      refine ⟨_, rfl, b, n + 10 * i, rfl, B3, hB3, fun z H4 z4 K4 B4 => ?_⟩
      have K4' : Kp b H H4 := K3.trans K4
      have ht4 : H4 t = some (.lst (tk.map V.str)) := K4' t _ ntb ht
      have hp4 : H4 p = some (.lst (zs.map V.str)) := K4 p _ npb hp3
      refine ⟨_, rfl, _, rfl, t, _, rfl, .inl (SqL.of ht4), fun l hl4 => ?_⟩
      have npl : p ≠ l := ne_of_none hp4 hl4
      refine ⟨p, l, _, _, rfl, rfl, (by rw [upd_ne npl]; exact hp4), upd_same, ?_, fun u hu => ?_⟩
      · rw [List.length_map, List.length_map]
        exact Nat.le_trans (show zs.length + tk.length ≤ 24 by omega) (by decide)
      rw [← List.map_append]
      have K6 : Kp b H (upd (upd H4 l (.lst (tk.map V.str))) u (.lst ((zs ++ tk).map V.str))) := (K4'.new hl4).new hu
      have B6 : Bag (upd (upd H4 l (.lst (tk.map V.str))) u (.lst ((zs ++ tk).map V.str))) b (n + 10 * (i + 1)) := ((B4.new hl4).new hu).mono (by omega)
      have hu6 : (upd (upd H4 l (.lst (tk.map V.str))) u (.lst ((zs ++ tk).map V.str))) u = some (.lst ((zs ++ tk).map V.str)) := upd_same
      have hp6 : (upd (upd H4 l (.lst (tk.map V.str))) u (.lst ((zs ++ tk).map V.str))) p = some (.lst (zs.map V.str)) := by
        have hpl : (upd H4 l (.lst (tk.map V.str))) p = some (.lst (zs.map V.str)) := by rw [upd_ne npl]; exact hp4
        rw [upd_ne (ne_of_none hpl hu)]
        exact hpl
      generalize (upd (upd H4 l (.lst (tk.map V.str))) u (.lst ((zs ++ tk).map V.str))) = H6 at K6 B6 hu6 hp6
      refine ⟨fun σ H' => (∃ v a7 a8, σ = [some (.ref b), some (.int size), some (.ref t), some (.ref p), some (.int (0 + i)), some (.str v), some (.ref u), a7, a8] ∧ Nm v ∧ v ∉ zs ++ tk) ∧ Kp b H H' ∧ Bag H' b (n + 10 * (i + 1)) ∧ H' p = some (.lst (zs.map V.str)), ?_, ?_⟩
      · refine ⟨_, rfl, _, rfl, u, _, rfl, .inl (SqL.of hu6), rfl, flat_strs _, _, rfl, ?_⟩
        rw [in_strs]
        refine ite2 (fun _ => ?_) (fun hno => ?_)
        · refine ⟨_, rfl, fun D hD => ?_⟩
          have l1 : ∀ c, (one c).length + (tail7 z).length ≤ sizeLine := fun c => Nat.le_trans (show (one c).length + (tail7 z).length ≤ 8 by have := (tail7_nm z4).1; show 1 + _ ≤ 8; omega) (by decide)
          have l2 : ∀ c, (one c ++ "x").length + (tail7 z).length ≤ sizeLine := fun c => Nat.le_trans (show (one c ++ "x").length + (tail7 z).length ≤ 8 by have := (tail7_nm z4).1; rw [app_len]; show (1 + 1) + _ ≤ 8; omega) (by decide)
          have zL : z.length ≤ sizeLine := Nat.le_trans z4.hi (by decide)
          refine lc_it walk_str (fun j H7 => H7 = upd H6 D (.lst (((abcL.map fun c => one c ++ tail7 z).map V.str).take j))) rfl (fun _ _ _ _ => trivial) ?_ ?_
          · rintro j x H7 H8 hj rfl ⟨rfl, c, hc, rfl⟩
            have hj' := abcL_at hc
            refine ⟨rfl, yes (iteT ?_)⟩
            refine ⟨_, rfl, _, rfl, 1, rfl, 7, rfl, z, rfl, zL, _, _, rfl, rfl, l1 c, _, upd_same, take_sz (n := 26) (by simp [abcL]) (by decide), put_next ?_⟩
            rw [List.getElem?_map, List.getElem?_map, hj']
            rfl
          · rintro H7 rfl
            rw [abc_sz, List.take_of_length_le (show ((abcL.map fun c => one c ++ tail7 z).map V.str).length ≤ 26 by simp [abcL])]
            have hD7 : (upd H6 D (.lst ((abcL.map fun c => one c ++ tail7 z).map V.str))) D = some (.lst ((abcL.map fun c => one c ++ tail7 z).map V.str)) := upd_same
            have K7 : Kp b H (upd H6 D (.lst ((abcL.map fun c => one c ++ tail7 z).map V.str))) := K6.new hD
            have B7 := B6.new (o := (.lst ((abcL.map fun c => one c ++ tail7 z).map V.str))) hD
            have hu7 : (upd H6 D (.lst ((abcL.map fun c => one c ++ tail7 z).map V.str))) u = some (.lst ((zs ++ tk).map V.str)) := by rw [upd_ne (ne_of_none hu6 hD)]; exact hu6
            have hp7 : (upd H6 D (.lst ((abcL.map fun c => one c ++ tail7 z).map V.str))) p = some (.lst (zs.map V.str)) := by rw [upd_ne (ne_of_none hp6 hD)]; exact hp6
            generalize (upd H6 D (.lst ((abcL.map fun c => one c ++ tail7 z).map V.str))) = H7 at hD7 K7 B7 hu7 hp7
            refine ⟨_, rfl, _, rfl, fun D2 hD2 => ?_⟩
            refine lc_it walk_str (fun j H8 => H8 = upd H7 D2 (.lst (((abcL.map fun c => (one c ++ "x") ++ tail7 z).map V.str).take j))) rfl (fun _ _ _ _ => trivial) ?_ ?_
            · rintro j x H8 H9 hj rfl ⟨rfl, c, hc, rfl⟩
              have hj' := abcL_at hc
              refine ⟨rfl, yes (iteT ?_)⟩
              refine ⟨_, rfl, _, _, rfl, rfl, (by show 1 + 1 ≤ sizeLine; decide), _, rfl, 1, rfl, 7, rfl, z, rfl, zL, _, _, rfl, rfl, l2 c, _, upd_same, take_sz (n := 26) (by simp [abcL]) (by decide), put_next ?_⟩
              rw [List.getElem?_map, List.getElem?_map, hj']
              rfl
            · rintro H8 rfl
              rw [abc_sz, List.take_of_length_le (show ((abcL.map fun c => (one c ++ "x") ++ tail7 z).map V.str).length ≤ 26 by simp [abcL])]
              refine ⟨D, D2, _, _, rfl, rfl, (by rw [upd_ne (ne_of_none hD7 hD2)]; exact hD7), upd_same, (by simp [abcL]; decide), fun T hT => ?_⟩
              rw [← List.map_append]
              have nuT : u ≠ T := fun e => by
                rw [← e, upd_ne (ne_of_none hu7 hD2), hu7] at hT
                cases hT
              have npT : p ≠ T := fun e => by
                rw [← e, upd_ne (ne_of_none hp7 hD2), hp7] at hT
                cases hT
              generalize hts : (abcL.map fun c => one c ++ tail7 z) ++ (abcL.map fun c => (one c ++ "x") ++ tail7 z) = ts
              have hT9 : (upd (upd H7 D2 (.lst ((abcL.map fun c => (one c ++ "x") ++ tail7 z).map V.str))) T (.lst (ts.map V.str))) T = some (.lst (ts.map V.str)) := upd_same
              have K9 : Kp b H (upd (upd H7 D2 (.lst ((abcL.map fun c => (one c ++ "x") ++ tail7 z).map V.str))) T (.lst (ts.map V.str))) := (K7.new hD2).new hT
              have B9 : Bag (upd (upd H7 D2 (.lst ((abcL.map fun c => (one c ++ "x") ++ tail7 z).map V.str))) T (.lst (ts.map V.str))) b (n + 10 * (i + 1)) := (B7.new hD2).new hT
              have hu9 : (upd (upd H7 D2 (.lst ((abcL.map fun c => (one c ++ "x") ++ tail7 z).map V.str))) T (.lst (ts.map V.str))) u = some (.lst ((zs ++ tk).map V.str)) := by rw [upd_ne nuT, upd_ne (ne_of_none hu7 hD2)]; exact hu7
              have hp9 : (upd (upd H7 D2 (.lst ((abcL.map fun c => (one c ++ "x") ++ tail7 z).map V.str))) T (.lst (ts.map V.str))) p = some (.lst (zs.map V.str)) := by rw [upd_ne npT, upd_ne (ne_of_none hp7 hD2)]; exact hp7
              generalize (upd (upd H7 D2 (.lst ((abcL.map fun c => (one c ++ "x") ++ tail7 z).map V.str))) T (.lst (ts.map V.str))) = H9 at hT9 K9 B9 hu9 hp9
              have lts : ts.length = 52 := by rw [← hts]; simp [abcL]
              refine ⟨_, rfl, T, rfl, ⟨_, SqL.of hT9⟩, fun D3 hD3 => ?_⟩
              refine lc_it (walk_list (K := K) (a := T) (xs := ts.map V.str)) (fun j H10 => H10 = upd H9 D3 (.lst (((ts.take j).filter fun t => decide (t ∉ zs ++ tk)).map V.str))) rfl ?_ ?_ ?_
              · rintro j H10 _ rfl
                exact SqL.of (by rw [upd_ne (ne_of_none hT9 hD3)]; exact hT9)
              · rintro j x H10 H11 hj rfl ⟨rfl, hx⟩
                obtain ⟨y, hy, rfl⟩ : ∃ y, ts[j]? = some y ∧ x = V.str y := by
                  rw [List.getElem?_map] at hx
                  cases e : ts[j]? with
                  | none => rw [e] at hx; cases hx
                  | some y => rw [e] at hx; exact ⟨y, rfl, (Option.some.inj hx).symm⟩
                refine ⟨rfl, _, rfl, _, rfl, u, _, rfl, .inl (SqL.of (by rw [upd_ne (ne_of_none hu9 hD3)]; exact hu9)), rfl, flat_strs _, _, rfl, ?_⟩
                rw [in_strs]
                have tk1 : ts.take (j + 1) = ts.take j ++ [y] := by rw [List.take_succ, hy]; rfl
                refine ite2 (fun hin => ?_) (fun hin => ?_)
                · refine ⟨_, rfl, _, upd_same, ?_, ?_⟩
                  · refine Nat.lt_of_le_of_lt (show _ ≤ 52 from ?_) (by decide)
                    rw [List.length_map]
                    exact Nat.le_trans (List.length_filter_le _ _) (by rw [List.length_take]; omega)
                  · have hny : y ∉ zs ++ tk := fun e => by
                      rw [decide_eq_true e] at hin
                      cases hin
                    rw [upd_upd, tk1, List.filter_append, List.map_append]
                    have : ([y].filter fun t => decide (t ∉ zs ++ tk)) = [y] := List.filter_cons_of_pos (decide_eq_true hny)
                    rw [this]
                    rfl
                · have hyy : y ∈ zs ++ tk := Classical.byContradiction fun e => hin (by rw [decide_eq_false e]; rfl)
                  rw [tk1, List.filter_append]
                  have : ([y].filter fun t => decide (t ∉ zs ++ tk)) = [] := by
                    rw [List.filter_eq_nil_iff]
                    intro a ha
                    rw [List.mem_singleton.mp ha, decide_eq_true_eq]
                    exact fun h => h hyy
                  rw [this, List.append_nil]
              · rintro H10 rfl
                rw [show (ts.map V.str).length = ts.length from List.length_map _, List.take_length]
                obtain ⟨z', hz', hn'⟩ := fresh_tail (tail7 z) (zs ++ tk) (by rw [List.length_append]; omega)
                have hmem : z' ∈ ts.filter fun t => decide (t ∉ zs ++ tk) := List.mem_filter.mpr ⟨by rw [← hts]; exact List.mem_append_left _ hz', decide_eq_true hn'⟩
                cases hq : (ts.filter fun t => decide (t ∉ zs ++ tk)) with
                | nil => rw [hq] at hmem; cases hmem
                | cons v r =>
                  have hv : v ∈ ts.filter fun t => decide (t ∉ zs ++ tk) := by rw [hq]; exact List.mem_cons_self
                  obtain ⟨hv1, hv2⟩ := List.mem_filter.mp hv
                  refine ⟨D3, _, _, .str v, rfl, rfl, SqL.of upd_same, atI_nat (j := 0) rfl, ?_⟩
                  refine ⟨⟨v, _, _, rfl, tails_nm z4 (by rw [hts]; exact hv1), of_decide_eq_true hv2⟩, K9.new hD3, B9.new hD3, ?_⟩
                  rw [upd_ne (ne_of_none hp9 hD3)]
                  exact hp9
        · have hno' : z ∉ zs ++ tk := fun e => hno (decide_eq_true e)
          exact ⟨⟨z, _, _, rfl, z4, hno'⟩, K6, B6, hp6⟩
      · rintro σ H7 ⟨⟨v, a7, a8, rfl, nv, hv⟩, K7, B7, hp7⟩
        have hvz : v ∉ zs := fun e => hv (List.mem_append_left _ e)
        have hvt : v ∉ tk := fun e => hv (List.mem_append_right _ e)
        refine ⟨_, rfl, .inl ⟨rfl, _, SqL.of hp7⟩, _, rfl, p, _, _, rfl, rfl, hp7, ?_, ?_⟩
        · rw [List.length_map, hl]
          exact Nat.lt_trans hi12 (by decide)
        · refine ⟨⟨_, _, _, _, _, rfl⟩, K7.wr hp, B7.ne npb, zs ++ [v], ?_, by rw [List.length_append, hl]; rfl, ?_, ?_⟩
          · rw [upd_same, List.map_append]; rfl
          · rw [List.nodup_append]
            refine ⟨hnd, List.nodup_cons.mpr ⟨fun h => (nomatch h), List.nodup_nil⟩, fun a ha c hc e => ?_⟩
            rw [List.mem_singleton.mp hc] at e
            exact hvz (e ▸ ha)
          · intro z' hz'
            rcases List.mem_append.mp hz' with h | h
            · exact hz z' h
            · rw [List.mem_singleton.mp h]
              exact ⟨nv, hvt⟩
    · rintro σ H3 ⟨⟨a4, a5, a6, a7, a8, rfl⟩, K3, B3, zs, hp3, hl, hnd, hz⟩
      exact ⟨_, rfl, k p zs H3 hp hp3 (by omega) hnd hz K3 (B3.mono (by omega))⟩
end
end Fh

set_option Elab.async false
set_option linter.all false
set_option maxRecDepth 100000
set_option maxHeartbeats 4000000
namespace Fh
open PySem L2 PyProof.Rows
/-! ### data in tuples -/
mutual
inductive Tp (H : Hp) : V → PyData → Prop
  | int (i : Int) : Tp H (.int i) (.int i)
  | str (x : Str) : Tp H (.str x) (.str x)
  | tup {a : Addr} {xs : List V} {ds : List PyData} : H a = some (.tup xs) → TpAll H xs ds → Tp H (.ref a) (.tuple ds)
inductive TpAll (H : Hp) : List V → List PyData → Prop
  | nil : TpAll H [] []
  | cons {v : V} {vs : List V} {d : PyData} {ds : List PyData} : Tp H v d → TpAll H vs ds → TpAll H (v :: vs) (d :: ds)
end
/-- tuples stay -/
def Tk (H H' : Hp) : Prop := ∀ a xs, H a = some (.tup xs) → H' a = some (.tup xs)
mutual
theorem Tp.keep {H H' : Hp} (t : Tk H H') : ∀ (d : PyData) (v : V), Tp H v d → Tp H' v d
  | .none, _, h => by cases h
  | .bool _, _, h => by cases h
  | .int i, _, h => by cases h; exact .int i
  | .str x, _, h => by cases h; exact .str x
  | .list _, _, h => by cases h
  | .dict _, _, h => by cases h
  | .tuple ds, _, h => by
    cases h with
    | tup e q => exact .tup (t _ _ e) (TpAll.keep t ds _ q)
theorem TpAll.keep {H H' : Hp} (t : Tk H H') : ∀ (ds : List PyData) (vs : List V), TpAll H vs ds → TpAll H' vs ds
  | [], _, h => by cases h; exact .nil
  | d :: ds, _, h => by
    cases h with
    | cons a q => exact .cons (Tp.keep t d _ a) (TpAll.keep t ds _ q)
end
mutual
theorem Tp.dp {K : PySem.W.Frag} {H : Hp} : ∀ (d : PyData) (v : V), Tp H v d → Dp K H v d
  | .none, _, h => by cases h
  | .bool _, _, h => by cases h
  | .int i, _, h => by cases h; exact .int i
  | .str x, _, h => by cases h; exact .str x
  | .list _, _, h => by cases h
  | .dict _, _, h => by cases h
  | .tuple ds, _, h => by
    cases h with
    | tup e q => exact .tup (SqT.of e) (TpAll.dp ds _ q)
theorem TpAll.dp {K : PySem.W.Frag} {H : Hp} : ∀ (ds : List PyData) (vs : List V), TpAll H vs ds → DpAll K H vs ds
  | [], _, h => by cases h; exact .nil
  | d :: ds, _, h => by
    cases h with
    | cons a q => exact .cons (Tp.dp d _ a) (TpAll.dp ds _ q)
end
theorem Kp.tk {b : Addr} {H H' : Hp} {n : Nat} (k : Kp b H H') (hb : Bag H b n) : Tk H H' := fun a xs h => k a _ (fun e => by
  obtain ⟨x, y, z, e2, _⟩ := hb
  rw [← e, h] at e2
  cases e2) h
theorem Tk.refl {H : Hp} : Tk H H := fun _ _ h => h
theorem Tk.trans {H H1 H2 : Hp} (a : Tk H H1) (b : Tk H1 H2) : Tk H H2 := fun c xs h => b c xs (a c xs h)
theorem Same.tk {H H' : Hp} (s : Same H H') : Tk H H' := fun a xs h => s a _ h
theorem Tk.new {H : Hp} {p : Addr} {o : HO} (h : H p = none) : Tk H (upd H p o) := fun a xs e => by rw [upd_ne (ne_of_none e h)]; exact e
theorem Tk.wr {H : Hp} {p : Addr} {ys : List V} {o : HO} (h : H p = some (.lst ys)) : Tk H (upd H p o) := fun a xs e => by
  rw [upd_ne (fun q => by rw [q, h] at e; cases e)]
  exact e
theorem TpAll.length {H : Hp} : ∀ {vs : List V} {ds : List PyData}, TpAll H vs ds → vs.length = ds.length
  | _, _, .nil => rfl
  | _, _, .cons _ q => by simp [TpAll.length q]
theorem TpAll.get {H : Hp} : ∀ {vs : List V} {ds : List PyData} {i : Nat} {d : PyData}, TpAll H vs ds → ds[i]? = some d → ∃ v, vs[i]? = some v ∧ Tp H v d
  | _, _, _, _, .nil, e => by simp at e
  | _, _, 0, _, .cons a _, e => by simp at e; subst e; exact ⟨_, rfl, a⟩
  | _, _, i + 1, d, .cons _ q, e => by
    obtain ⟨v, h1, h2⟩ := TpAll.get (i := i) (d := d) q (by simpa using e)
    exact ⟨v, by simpa using h1, h2⟩
theorem TpAll.get' {H : Hp} : ∀ {vs : List V} {ds : List PyData} {i : Nat} {v : V}, TpAll H vs ds → vs[i]? = some v → ∃ d, ds[i]? = some d ∧ Tp H v d
  | _, _, _, _, .nil, e => by simp at e
  | _, _, 0, _, .cons a _, e => by simp at e; subst e; exact ⟨_, rfl, a⟩
  | _, _, i + 1, v, .cons _ q, e => by
    obtain ⟨d, h1, h2⟩ := TpAll.get' (i := i) (v := v) q (by simpa using e)
    exact ⟨d, by simpa using h1, h2⟩
theorem TpAll.app {H : Hp} : ∀ {vs ws : List V} {ds es : List PyData}, TpAll H vs ds → TpAll H ws es → TpAll H (vs ++ ws) (ds ++ es)
  | _, _, _, _, .nil, s => s
  | _, _, _, _, .cons a q, s => .cons a (TpAll.app q s)
theorem TpAll.one {H : Hp} {v : V} {d : PyData} (h : Tp H v d) : TpAll H [v] [d] := .cons h .nil
theorem TpAll.strs {H : Hp} : ∀ zs : List Str, TpAll H (zs.map V.str) (zs.map PyData.str)
  | [] => .nil
  | z :: r => .cons (.str z) (TpAll.strs r)
theorem Tp.inv {H : Hp} {v : V} {ds : List PyData} (h : Tp H v (.tuple ds)) : ∃ a xs, v = .ref a ∧ H a = some (.tup xs) ∧ TpAll H xs ds := by
  cases h with
  | tup e q => exact ⟨_, _, rfl, e, q⟩
theorem Tp.istr {H : Hp} {v : V} {z : Str} (h : Tp H v (.str z)) : v = .str z := by cases h; rfl
theorem Tp.iint {H : Hp} {v : V} {i : Int} (h : Tp H v (.int i)) : v = .int i := by cases h; rfl
theorem TpAll.icons {H : Hp} {vs : List V} {d : PyData} {ds : List PyData} (h : TpAll H vs (d :: ds)) : ∃ v r, vs = v :: r ∧ Tp H v d ∧ TpAll H r ds := by
  cases h with
  | cons a q => exact ⟨_, _, rfl, a, q⟩
theorem TpAll.inil {H : Hp} {vs : List V} (h : TpAll H vs []) : vs = [] := by cases h; rfl
/-! ### shaped data -/
def Sh (n : Nat) (d : PyData) : Prop := d.canLay0 = true ∧ d.depth ≤ n
theorem strOk_of {z : Str} (h : ∀ c ∈ z.cps.toList, c < 0x110000) : PyData.canLay0 (.str z) = true := by
  show PyData.strOk z = true
  unfold PyData.strOk
  rw [Array.all_eq_true_iff_forall_mem]
  intro c hc
  exact decide_eq_true (h c (by simpa using hc))
theorem Sh.int {n : Nat} (i : Int) : Sh n (.int i) := ⟨rfl, Nat.zero_le _⟩
theorem Sh.mono {n m : Nat} {d : PyData} (h : Sh n d) (hm : n ≤ m) : Sh m d := ⟨h.1, Nat.le_trans h.2 hm⟩
theorem lay_all : ∀ ds : List PyData, (∀ d ∈ ds, d.canLay0 = true) → PyData.canLayAll0 ds = true
  | [], _ => rfl
  | d :: r, h => by
    show (PyData.canLay0 d && PyData.canLayAll0 r) = true
    rw [h d List.mem_cons_self, lay_all r fun e he => h e (List.mem_cons_of_mem _ he)]
    rfl
theorem depth_all {n : Nat} : ∀ ds : List PyData, (∀ d ∈ ds, d.depth ≤ n) → PyData.depthAll ds ≤ n
  | [], _ => Nat.zero_le _
  | d :: r, h => by
    show max (PyData.depth d) (PyData.depthAll r) ≤ n
    exact Nat.max_le.mpr ⟨h d List.mem_cons_self, depth_all r fun e he => h e (List.mem_cons_of_mem _ he)⟩
theorem Sh.tup {n : Nat} {ds : List PyData} (h : ∀ d ∈ ds, Sh n d) : Sh (n + 1) (.tuple ds) :=
  ⟨lay_all ds fun d hd => (h d hd).1, Nat.succ_le_succ (depth_all ds fun d hd => (h d hd).2)⟩
theorem Sh.lst {n : Nat} {ds : List PyData} (h : ∀ d ∈ ds, Sh n d) : Sh (n + 1) (.list ds) :=
  ⟨lay_all ds fun d hd => (h d hd).1, Nat.succ_le_succ (depth_all ds fun d hd => (h d hd).2)⟩
theorem Sh.shaped {n : Nat} {d : PyData} (h : Sh n d) (hn : n ≤ 64) : SeqAt.shaped d = true := by
  unfold SeqAt.shaped
  rw [h.1, decide_eq_true (Nat.le_trans h.2 hn)]
  rfl
/-! ### lists of data as python sees them -/
theorem Dp.strs {K : PySem.W.Frag} {H : Hp} : ∀ zs : List Str, DpAll K H (zs.map V.str) (zs.map PyData.str)
  | [] => .nil
  | z :: r => .cons (.str z) (Dp.strs r)
theorem putF_len (f : Str) (v : V) : ∀ fs : List (Str × V), (putF f v fs).length ≤ fs.length + 1
  | [] => Nat.le_refl _
  | (g, x) :: r => by
    show (if g = f then (g, v) :: r else (g, x) :: putF f v r).length ≤ _
    split
    · exact Nat.le_succ _
    · exact Nat.succ_le_succ (putF_len f v r)
end Fh

set_option Elab.async false
set_option linter.all false
set_option maxRecDepth 100000
set_option maxHeartbeats 4000000
namespace Fh
open PySem L2 PyProof.Rows
def ff (nm ed ch rc cl : V) : List (Str × V) := putF "calls" cl (putF "records" rc (putF "choices" ch (putF "edition" ed (putF "name" nm []))))
section
variable {nm ed ch rc cl : V}
theorem ff_name : (ff nm ed ch rc cl).lookup ("name" : Str) = some nm := by
  unfold ff
  rw [lookup_putF, if_neg (by decide +kernel), lookup_putF, if_neg (by decide +kernel), lookup_putF, if_neg (by decide +kernel), lookup_putF, if_neg (by decide +kernel), lookup_putF, if_pos rfl]
theorem ff_edition : (ff nm ed ch rc cl).lookup ("edition" : Str) = some ed := by
  unfold ff
  rw [lookup_putF, if_neg (by decide +kernel), lookup_putF, if_neg (by decide +kernel), lookup_putF, if_neg (by decide +kernel), lookup_putF, if_pos rfl]
theorem ff_choices : (ff nm ed ch rc cl).lookup ("choices" : Str) = some ch := by
  unfold ff
  rw [lookup_putF, if_neg (by decide +kernel), lookup_putF, if_neg (by decide +kernel), lookup_putF, if_pos rfl]
theorem ff_records : (ff nm ed ch rc cl).lookup ("records" : Str) = some rc := by
  unfold ff
  rw [lookup_putF, if_neg (by decide +kernel), lookup_putF, if_pos rfl]
theorem ff_calls : (ff nm ed ch rc cl).lookup ("calls" : Str) = some cl := by
  unfold ff
  rw [lookup_putF, if_pos rfl]
end
/-! ### a method called -/
structure HasM (P : Program) (w : World) (K : PySem.W.Frag) (mg : Str → Option Value) (base : Heap) (C : Addr) (m : Str) (k : Nat) (ps : List Str) (sp : Sp) : Prop where
  cl : Cls K C
  ex : ∃ (f : Addr) (fd : FuncData), Meth K C m f ∧ Binds K fd ps [] ∧ FnOk P w K mg base CX0 k f fd ps sp
theorem pe_hasM {X : Cx} {C : Addr} {k : Nat} {m : Str} {ps : List Str} {sp : Sp} {o e : Expr} {es : List Expr} {ta : TE} {t : TA} {apos pos : Pos} {pl : Sem Bool} (D : HasM X.prog X.w X.K X.mg X.base C m k ps sp) (hr : Room k X.A) (ho : PE X o ta) (ha : PA X (e :: es) t)
    (hst : starEach (e :: es) X.env = (false, eval e X.env) :: starEach es X.env := by rfl) (hpl : (backTo pos (starEach es X.env)).any (·.1) = false := by rfl)
    (ht : eval (.Call (.Attribute o m apos) (e :: es) [] pos) X.env = (do
      let ov ← eval o X.env
      standAt apos.atName
      let (f, first) ← holding [ov] (getMethod ov m pl)
      callWith pos f first (backTo pos (starEach (e :: es) X.env)) (backToKw pos (keywordEach [] X.env))) := by rfl) :
    PE X (.Call (.Attribute o m apos) (e :: es) [] pos) (tMeth C m sp [] E0 ta t) := by
  obtain ⟨f, fd, hm, hb, F⟩ := D.ex
  exact pe_meth (pl := pl) ho D.cl hm F hr hb .nil pass0 ha hst hpl ht
/-- a promise of nothing -/
def spNone : Sp := fun _ _ _ _ => False
/-! ### rows of a face -/
def rowsD (rows : List (Str × PyData)) : PyData := .tuple (rows.map fun r => .tuple [.str r.1, r.2])
/-- data in a tuple that may be held as the very object -/
def TpR (H : Hp) (v : V) (d : PyData) : Prop := ∃ (a : Addr) (xs : List V) (ds : List PyData), v = .ref a ∧ d = .tuple ds ∧ Rd H a (.tup xs) ∧ TpAll H xs ds
theorem Rd.same {H H' : Hp} {a : Addr} {u : HO} (r : Rd H a u) (s : Same H H') : Rd H' a u := by
  rcases r with h | ⟨o, h⟩
  · exact .inl (s _ _ h)
  · exact .inr ⟨o, s _ _ h⟩
theorem TpR.inv {H : Hp} {v : V} {ds : List PyData} (h : TpR H v (.tuple ds)) : ∃ a xs, v = .ref a ∧ Rd H a (.tup xs) ∧ TpAll H xs ds := by
  obtain ⟨a, xs, ds', rfl, e, r, q⟩ := h
  cases e
  exact ⟨a, xs, rfl, r, q⟩
theorem TpR.same {H H' : Hp} {v : V} {d : PyData} (h : TpR H v d) (s : Same H H') : TpR H' v d := by
  obtain ⟨a, xs, ds, e1, e2, r, q⟩ := h
  exact ⟨a, xs, ds, e1, e2, Rd.same r s, TpAll.keep (Same.tk s) _ _ q⟩
def FaceR (C : Addr) (H : Hp) (a : Addr) (cs rs : List (Str × PyData)) : Prop := ∃ (dx : Addr) (v1 v2 v3 v4 v5 : V), H a = some (.ins C dx (ff v1 v2 v3 v4 v5)) ∧ TpR H v3 (rowsD cs) ∧ TpR H v4 (rowsD rs)
theorem FaceR.same {C : Addr} {H H' : Hp} {a : Addr} {cs rs : List (Str × PyData)} (h : FaceR C H a cs rs) (s : Same H H') : FaceR C H' a cs rs := by
  obtain ⟨dx, v1, v2, v3, v4, v5, e, t3, t4⟩ := h
  exact ⟨dx, v1, v2, v3, v4, v5, s _ _ e, t3.same s, t4.same s⟩
theorem Tp.pair {H : Hp} {v : V} {d e : PyData} (h : Tp H v (.tuple [d, e])) : ∃ a x y, v = .ref a ∧ H a = some (.tup [x, y]) ∧ Tp H x d ∧ Tp H y e := by
  obtain ⟨a, xs, rfl, ha, q⟩ := h.inv
  obtain ⟨x, r, rfl, hx, q⟩ := q.icons
  obtain ⟨y, r, rfl, hy, q⟩ := q.icons
  rw [q.inil] at ha
  exact ⟨a, x, y, rfl, ha, hx, hy⟩
theorem Tp.four {H : Hp} {v : V} {d1 d2 d3 d4 : PyData} (h : Tp H v (.tuple [d1, d2, d3, d4])) : ∃ a x1 x2 x3 x4, v = .ref a ∧ H a = some (.tup [x1, x2, x3, x4]) ∧ Tp H x1 d1 ∧ Tp H x2 d2 ∧ Tp H x3 d3 ∧ Tp H x4 d4 := by
  obtain ⟨a, xs, rfl, ha, q⟩ := h.inv
  obtain ⟨x1, r, rfl, h1, q⟩ := q.icons
  obtain ⟨x2, r, rfl, h2, q⟩ := q.icons
  obtain ⟨x3, r, rfl, h3, q⟩ := q.icons
  obtain ⟨x4, r, rfl, h4, q⟩ := q.icons
  rw [q.inil] at ha
  exact ⟨a, x1, x2, x3, x4, rfl, ha, h1, h2, h3, h4⟩
theorem rows_at {H : Hp} {xs : List V} {rows : List (Str × PyData)} {i : Nat} {x : V} (q : TpAll H xs (rows.map fun r => .tuple [.str r.1, r.2])) (e : xs[i]? = some x) :
    ∃ r t u, rows[i]? = some r ∧ x = .ref t ∧ H t = some (.tup [.str r.1, u]) ∧ Tp H u r.2 := by
  obtain ⟨d, e2, tx⟩ := q.get' e
  rw [List.getElem?_map] at e2
  cases hr : rows[i]? with
  | none => rw [hr] at e2; cases e2
  | some r =>
    rw [hr] at e2
    cases e2
    obtain ⟨t, y, u, rfl, ht, ty, tu⟩ := tx.pair
    rw [ty.istr] at ht
    exact ⟨r, t, u, rfl, rfl, ht, tu⟩
theorem look_at {rows : List (Str × PyData)} {z : Str} {d : PyData} (h : rows.lookup z = some d) : ∃ (i : Nat) (hi : i < rows.length), rows[i].1 = z := by
  induction rows with
  | nil => cases h
  | cons r rs ih =>
    by_cases e : r.1 = z
    · exact ⟨0, Nat.succ_pos _, e⟩
    · have h2 : (z == r.1) = false := by
        rw [beq_eq_false_iff_ne]
        exact fun q => e q.symm
      obtain ⟨k, y⟩ := r
      rw [List.lookup_cons, h2] at h
      obtain ⟨i, hi, e2⟩ := ih h
      exact ⟨i + 1, Nat.succ_lt_succ hi, e2⟩
theorem look_first {rows : List (Str × PyData)} {z : Str} {d : PyData} {i : Nat} {r : Str × PyData} (h : rows.lookup z = some d) (e : rows[i]? = some r) (hz : r.1 = z) (hb : ∀ (j : Nat) (q : Str × PyData), j < i → rows[j]? = some q → q.1 ≠ z) : r.2 = d := by
  induction rows generalizing i with
  | nil => cases h
  | cons s rs ih =>
    cases i with
    | zero =>
      cases e
      obtain ⟨k, y⟩ := r
      rw [List.lookup_cons] at h
      have h2 : (z == k) = true := by rw [beq_iff_eq]; exact hz.symm
      rw [h2] at h
      cases h
      rfl
    | succ i =>
      have h0 := hb 0 s (Nat.succ_pos _) rfl
      have h2 : (z == s.1) = false := by
        rw [beq_eq_false_iff_ne]
        exact fun q => h0 q.symm
      obtain ⟨k, y⟩ := s
      rw [List.lookup_cons, h2] at h
      exact ih h e fun j q hj hq => hb (j + 1) q (Nat.succ_lt_succ hj) hq
/-! ### kinds -/
inductive Kb where
  | whole
  | truth
  | text
  | rc (z : Str)
  | ch (z : Str)
inductive Kn where
  | one (b : Kb)
  | lst (b : Kb)
def Kb.d : Kb → PyData
  | .whole => .str "whole"
  | .truth => .str "truth"
  | .text => .str "text"
  | .rc z => .tuple [.str "record", .str z]
  | .ch z => .tuple [.str "choice", .str z]
def Kn.d : Kn → PyData
  | .one b => b.d
  | .lst b => .tuple [.str "list", b.d]
def Kb.word : Kb → Str
  | .whole => "whole"
  | .truth => "truth"
  | .text => "text"
  | .rc _ => "record"
  | .ch _ => "choice"
def Kn.word : Kn → Str
  | .one b => b.word
  | .lst _ => "list"
def Kb.mark : Kb → Int
  | .text => 2
  | .rc _ => 4
  | _ => 1
def Kn.mark : Kn → Int
  | .one b => b.mark
  | .lst _ => 3
/-- what stands in a kind that is a tuple -/
def Kn.inner : Kn → PyData
  | .one (.rc z) => .str z
  | .one (.ch z) => .str z
  | .lst b => b.d
  | _ => .none
theorem kn_inv {H : Hp} {v : V} {k : Kn} (h : Tp H v k.d) : (v = .str k.word ∧ (k = .one .whole ∨ k = .one .truth ∨ k = .one .text)) ∨ ∃ a u, v = .ref a ∧ H a = some (.tup [.str k.word, u]) ∧ Tp H u k.inner := by
  cases k with
  | lst b =>
    obtain ⟨a, x, y, rfl, ha, hx, hy⟩ := Tp.pair h
    rw [hx.istr] at ha
    exact .inr ⟨a, y, rfl, ha, hy⟩
  | one b =>
    cases b with
    | whole => exact .inl ⟨Tp.istr h, .inl rfl⟩
    | truth => exact .inl ⟨Tp.istr h, .inr (.inl rfl)⟩
    | text => exact .inl ⟨Tp.istr h, .inr (.inr rfl)⟩
    | rc z =>
      obtain ⟨a, x, y, rfl, ha, hx, hy⟩ := Tp.pair h
      rw [hx.istr] at ha
      exact .inr ⟨a, y, rfl, ha, hy⟩
    | ch z =>
      obtain ⟨a, x, y, rfl, ha, hx, hy⟩ := Tp.pair h
      rw [hx.istr] at ha
      exact .inr ⟨a, y, rfl, ha, hy⟩
theorem Same.new {H : Hp} {p : Addr} {o : HO} (h : H p = none) : Same H (upd H p o) := fun a u e => by
  rw [upd_ne (ne_of_none e h)]
  exact e
theorem Same.wr {H H1 : Hp} {p : Addr} {o : HO} (s : Same H H1) (h : H p = none) : Same H (upd H1 p o) := fun a u e => by
  rw [upd_ne (ne_of_none e h)]
  exact s a u e
/-- [x for x, y in rows] -/
theorem lc_names {K : PySem.W.Frag} {ti : TE} {x y : Nat} {σ : L2.St} {H : Hp} {rows : List (Str × PyData)} {v : V} {Q : V → Hp → Prop} (hi : ∀ R : V → Hp → Prop, R v H → ti σ H R) (t : TpR H v (rowsD rows)) (hl : rows.length ≤ 100)
    (hw : ∀ a b, wipe (((wipe σ [x, y]).set x (some a)).set y (some b)) [x, y] = wipe σ [x, y]) (hv : ∀ a b, (((wipe σ [x, y]).set x (some a)).set y (some b))[x]? = some (some a))
    (k : ∀ D H', Same H H' → H' D = some (.lst ((rows.map (·.1)).map V.str)) → Q (.ref D) H') : tLc (iTup K ti) (gTup K 2 (gCons (gName x) (gCons (gName y) gNil))) tYes (tVar x) [x, y] σ H Q := by
  obtain ⟨a, xs, rfl, ha, q⟩ := TpR.inv t
  refine hi _ ⟨a, rfl, ⟨_, (.inl ha)⟩, fun D hD => ?_⟩
  refine lc_tup (xs := xs) (fun i H3 => Same H H3 ∧ H3 D = some (.lst (((rows.take i).map (·.1)).map V.str))) ?_ ?_ ?_ ?_
  · exact ⟨Same.new hD, upd_same⟩
  · rintro i H3 _ ⟨S3, _⟩
    exact .inl (Rd.same ha S3)
  · rintro i z H3 hz ⟨S3, h3⟩
    obtain ⟨r, t, u, hr, rfl, ht, tu⟩ := rows_at q hz
    refine ⟨t, _, rfl, SqT.of (S3 _ _ ht), rfl, _, _, rfl, _, _, rfl, rfl, hw _ _, yes (iteT ?_)⟩
    refine ⟨_, hv _ _, _, h3, ?_, Same.wr S3 hD, ?_⟩
    · rw [List.length_map, List.length_map, List.length_take]
      exact Nat.lt_of_le_of_lt (Nat.min_le_right _ _) (Nat.lt_of_le_of_lt hl (by decide))
    · have hlt : i < rows.length := by
        rw [List.getElem?_eq_some_iff] at hr
        exact hr.1
      rw [upd_same, List.take_add_one, hr]
      simp
  · rintro H3 ⟨S3, h3⟩
    have e : xs.length = rows.length := by rw [q.length, List.length_map]
    rw [e, List.take_length] at h3
    exact k D H3 S3 h3
theorem sne {a b : Str} (h : a ≠ b) : ¬ V.str a = V.str b := fun e => h (by cases e; rfl)
/-! ### small defs -/
abbrev sWord : Stmt := top 2
abbrev sNob : Stmt := top 4
def spWord : Sp := fun vs H Q _ => ∃ (v : V) (k : Kn), vs = [v] ∧ Tp H v k.d ∧ Q (.str k.word) H
abbrev nNob : List Str := ["face", "kind", "word", "inner", "rows", "name", "parts"]
def nameIn (z : Str) (rows : List (Str × PyData)) : Bool := decide (z ∈ rows.map (·.1))
def nobB (cs rs : List (Str × PyData)) : Kb → Bool
  | .rc z => !nameIn z rs
  | .ch z => !nameIn z cs
  | _ => false
def nobK (cs rs : List (Str × PyData)) : Kn → Bool
  | .one b => nobB cs rs b
  | .lst b => nobB cs rs b
def spNob (C : Addr) (ok : Kn → Prop) : Sp := fun vs H Q _ => ∃ (a : Addr) (v : V) (k : Kn) (cs rs : List (Str × PyData)), vs = [.ref a, v] ∧ FaceR C H a cs rs ∧ cs.length ≤ 100 ∧ rs.length ≤ 100 ∧ Tp H v k.d ∧ ok k ∧ ∀ H', Same H H' → Q (.bl (nobK cs rs k)) H'
def isOne (k : Kn) : Prop := ∃ b, k = .one b
section
variable {P : Program} {w : World} {K : PySem.W.Frag} {mg : Str → Option Value} {base : Heap}
theorem scWord : FnScope ["kind"] ["kind"] (defScope sWord) := ⟨rfl, rfl, rfl, by decide +kernel, rfl, by decide +kernel, by decide +kernel⟩
theorem scNob : FnScope nNob ["face", "kind"] (defScope sNob) := ⟨rfl, rfl, rfl, by decide +kernel, rfl, by decide +kernel, by decide +kernel⟩
theorem ok_word {f : Addr} {fd : FuncData} (F : Fun K "word_of" "word_of" sWord f fd) (G : Glb mg) : FnOk P w K mg base CX0 1 f fd ["kind"] spWord := by
  refine F.ok scWord (fun vs H Q E h => ?_) (fun cdv A outer s H vs Q E hr h => ?_)
  · obtain ⟨v, k, rfl, _⟩ := h
    rfl
  · obtain ⟨v, k, rfl, t, q⟩ := h
    refine ⟨_, pss_one (ps_ret (pe_ifExp (pt_val (pe_callB call_isi (by rfl) G.isi (by decide +kernel) (pa_cons (pv 0) (pa_cons (pe_bltn (v := .ty "str") rfl G.str (by decide +kernel) rfl) pa_nil)))) (pv 0) (pe_ix ix_tup (pv 0) pe_int (fun _ _ => rfl)))), ?_⟩
    rcases kn_inv t with ⟨rfl, _⟩ | ⟨a, u, rfl, ha, _⟩
    · exact ⟨_, rfl, _, _, .type "str", .type "str", true, rfl, .ty _, .base (.str _), rfl, true, rfl, iteT ⟨_, rfl, q⟩⟩
    · exact ⟨_, rfl, _, _, .type "tuple", .type "str", false, rfl, .ty _, .base (.tup ha), rfl, false, rfl, iteF ⟨_, rfl, a, _, _, _, rfl, rfl, SqT.of ha, rfl, q⟩⟩
theorem ok_nob {C f : Addr} {fd : FuncData} {n : Nat} {ok ok' : Kn → Prop} (F : Fun K "names_nobody" "names_nobody" sNob f fd) (G : Glb mg) (cl : Cls K C) (n3 : NoAttr K C "choices") (n4 : NoAttr K C "records") (DN : Has P w K mg base "names_nobody" n ["face", "kind"] (spNob C ok')) (hok : ∀ b, ok (.lst b) → ok' (.one b)) : FnOk P w K mg base CX0 (n + 1) f fd ["face", "kind"] (spNob C ok) := by
  refine F.ok scNob (fun vs H Q E h => ?_) (fun cdv A outer s H vs Q E hr h => ?_)
  · obtain ⟨a, v, k, cs, rs, rfl, _⟩ := h
    rfl
  · obtain ⟨a, v, k, cs, rs, rfl, hF, lc, lr, t, hk, q⟩ := h
    refine ⟨_, pss_cons (ps_if (pt_val (pe_callB call_isi (by rfl) G.isi (by decide +kernel) (pa_cons (pv 1) (pa_cons (pe_bltn (v := .ty "str") rfl G.str (by decide +kernel) rfl) pa_nil)))) (pss_one (ps_ret pe_bl)) pss_nil)
      (pss_cons (ps_asg (pv 1) (pg_tup rfl (pgs_cons (pg_name (i := 2) scNob.nd rfl (.inl rfl)) (pgs_cons (pg_name (i := 3) scNob.nd rfl (.inl rfl)) pgs_nil))))
      (pss_cons (ps_if (pt_cmpR op_eq (pv 2) pe_str (nomark _)) (pss_one (ps_ret (pe_has DN hr rfl (pa_cons (pv 0) (pa_cons (pv 3) pa_nil))))) pss_nil)
      (pss_cons (ps_set (i := 4) scNob.nd rfl (Or.inl rfl) (pe_ifExp (pt_cmpR op_eq (pv 2) pe_str (nomark _)) (pe_fld (pv 0) rfl) (pe_fld (pv 0) rfl)))
      (pss_one (ps_ret (pe_cmpR op_notIn_seq (pv 3) (pe_lc (own := [("name", 5), ("parts", 6)]) (g := gTup K 2 (gCons (gName 5) (gCons (gName 6) gNil))) (tt := tYes) (te := tVar 5) rfl scNob.nd (pi_tup (pv 4)) (blkOk_by (N := nNob) (sc := defScope sNob) (by decide +kernel))
        (fun _ _ _ _ _ => pg_tup rfl (pgs_cons (pg_name (i := 5) scNob.nd rfl (.inl rfl)) (pgs_cons (pg_name (i := 6) scNob.nd rfl (.inl rfl)) pgs_nil))) (fun _ _ _ _ _ => pts_nil) (fun _ _ _ _ _ => pv 5)) rfl)))))), ?_⟩
    obtain ⟨dx, v1, v2, v3, v4, v5, hA, t3, t4⟩ := id hF
    rcases kn_inv t with ⟨rfl, hp⟩ | ⟨b, u, rfl, hb, tu⟩
    · refine ⟨_, rfl, _, _, .type "str", .type "str", true, rfl, .ty _, .base (.str _), rfl, true, rfl, iteT ?_⟩
      have e : nobK cs rs k = false := by rcases hp with rfl | rfl | rfl <;> rfl
      rw [← e]
      exact q H (Same.refl H)
    · refine ⟨_, rfl, _, _, .type "tuple", .type "str", false, rfl, .ty _, .base (.tup hb), rfl, false, rfl, iteF ?_⟩
      refine ⟨_, rfl, b, _, rfl, SqT.of hb, rfl, _, _, rfl, _, _, rfl, rfl, ?_⟩
      refine ⟨_, rfl, rfl, _, rfl, ?_⟩
      cases k with
      | lst c =>
        refine ite2 (fun _ => ?_) (fun h => absurd (decide_eq_true rfl) h)
        exact ⟨_, rfl, _, rfl, a, u, .one c, cs, rs, rfl, hF, lc, lr, tu, hok c hk, q⟩
      | one c =>
        cases c with
        | whole => cases t
        | truth => cases t
        | text => cases t
        | rc z =>
          cases tu.istr
          refine ite2 (fun h => absurd (of_decide_eq_true h) (sne (by decide +kernel : ("record" : Str) ≠ "list"))) (fun _ => ?_)
          refine ⟨_, rfl, rfl, _, rfl, ?_⟩
          refine ite2 (fun h => absurd (of_decide_eq_true h) (sne (by decide +kernel : ("record" : Str) ≠ "choice"))) (fun _ => ?_)
          refine ⟨_, rfl, a, C, dx, _, _, rfl, hA, cl, n4, ff_records, ?_⟩
          refine ⟨_, rfl, lc_names (v := v4) (fun R hR => ⟨_, rfl, hR⟩) t4 lr (fun _ _ => rfl) (fun _ _ => rfl) fun D H' S' hD => ?_⟩
          refine ⟨D, _, rfl, .inl (SqL.of hD), rfl, by simp [flatV], ?_⟩
          rw [in_strs]
          exact q H' S'
        | ch z =>
          cases tu.istr
          refine ite2 (fun h => absurd (of_decide_eq_true h) (sne (by decide +kernel : ("choice" : Str) ≠ "list"))) (fun _ => ?_)
          refine ⟨_, rfl, rfl, _, rfl, ?_⟩
          refine ite2 (fun _ => ?_) (fun h => absurd (decide_eq_true rfl) h)
          refine ⟨_, rfl, a, C, dx, _, _, rfl, hA, cl, n3, ff_choices, ?_⟩
          refine ⟨_, rfl, lc_names (v := v3) (fun R hR => ⟨_, rfl, hR⟩) t3 lc (fun _ _ => rfl) (fun _ _ => rfl) fun D H' S' hD => ?_⟩
          refine ⟨D, _, rfl, .inl (SqL.of hD), rfl, by simp [flatV], ?_⟩
          rw [in_strs]
          exact q H' S'
end
end Fh

set_option Elab.async false
set_option linter.all false
set_option maxRecDepth 100000
set_option maxHeartbeats 4000000
namespace Fh
open PySem L2 PyProof.Rows
abbrev sOptions : Stmt := inClass (top 34) 4
abbrev sNum : Stmt := top 5
abbrev sDigits : Stmt := top 9
abbrev sTold : Stmt := top 10
abbrev sPart : Stmt := top 11
abbrev sFSize : Stmt := top 12
def spOptions (C : Addr) : Sp := fun vs H Q _ => ∃ (a : Addr) (z : Str) (cs rs : List (Str × PyData)) (d : PyData), vs = [.ref a, .str z] ∧ FaceR C H a cs rs ∧ cs.lookup z = some d ∧ ∀ v, Tp H v d → Q v H
def optsD (os : List (Int × Str)) : PyData := .tuple (os.map fun o => .tuple [.int o.1, .str o.2])
structure OptsOk (os : List (Int × Str)) : Prop where
  ne : os ≠ []
  len : os.length ≤ 100
  nd : (os.map (·.2)).Nodup
  rg : ∀ o ∈ os, 1 ≤ o.1 ∧ o.1 ≤ 200
def spNum (C : Addr) : Sp := fun vs H Q _ => ∃ (a : Addr) (v x : V) (k : Kn) (cs rs : List (Str × PyData)), vs = [.ref a, v, x] ∧ FaceR C H a cs rs ∧ Tp H v k.d ∧
  ((k = .one .whole ∧ ∃ i, x = .int i ∧ Q (.int i) H) ∨ (k = .one .truth ∧ ∃ b, x = .bl b ∧ Q (.int (if b = true then 1 else 0)) H) ∨
    ∃ z os n u, k = .one (.ch z) ∧ cs.lookup z = some (optsD os) ∧ OptsOk os ∧ (n, u) ∈ os ∧ x = .str u ∧ ∀ H', Same H H' → Q (.int n) H')
/-- one digit -/
def spDigits : Sp := fun vs H Q _ => ∃ (n : Int), vs = [.int n] ∧ 1 ≤ n ∧ n ≤ 255 ∧ ∀ (p : Addr) (H' : Hp) (x : V), Same H H' → H p = none → H' p = some (.lst [x]) → Q (.ref p) H'
/-- how many numbers tell a size -/
def toldN (n : Int) : Int := if n < 200 then 1 else 2
def spTold : Sp := fun vs H Q _ => ∃ (n : Int), vs = [.int n] ∧ 0 ≤ n ∧ ∀ (p : Addr) (H' : Hp) (xs : List V), Same H H' → H p = none → H' p = some (.lst xs) → (xs.length : Int) = toldN n → Q (.ref p) H'
def spPart : Sp := fun vs H Q _ => ∃ (n : Int), vs = [.int n] ∧ 0 ≤ n ∧ ∀ (H' : Hp), Same H H' → Q (.int (toldN n + n)) H'
def fsz (n : Int) : Int := 2 + (toldN n + n)
def spFSize : Sp := fun vs H Q _ => ∃ (n : Int), vs = [.int n] ∧ 0 ≤ n ∧ ∀ (H' : Hp), Same H H' → Q (.int (fsz n)) H'
/-- the modules' numbers -/
structure Nums (mg : Str → Option Value) : Prop where
  base : ∃ t, mg "BASE" = some (.int 256 t)
  long : ∃ t, mg "FIRST_LONG_SIZE" = some (.int 200 t)
  least : ∃ t, mg "GREATEST_LEAST" = some (.int 60 t)
theorem opts_one {os : List (Int × Str)} {n : Int} {u : Str} (nd : (os.map (·.2)).Nodup) (h : (n, u) ∈ os) : os.filter (fun o => decide (o.2 = u)) = [(n, u)] := by
  induction os with
  | nil => cases h
  | cons o r ih =>
    rw [List.map_cons, List.nodup_cons] at nd
    rcases List.mem_cons.mp h with rfl | h2
    · have e : r.filter (fun o => decide (o.2 = u)) = [] := by
        rw [List.filter_eq_nil_iff]
        intro x hx
        rw [decide_eq_true_eq]
        exact fun q => nd.1 (List.mem_map.mpr ⟨x, hx, q⟩)
      rw [List.filter_cons, if_pos (decide_eq_true rfl), e]
    · have ne : ¬ o.2 = u := fun q => nd.1 (List.mem_map.mpr ⟨(n, u), h2, q.symm⟩)
      rw [List.filter_cons, if_neg (by rw [decide_eq_true_eq]; exact ne)]
      exact ih nd.2 h2
theorem opts_at {H : Hp} {xs : List V} {os : List (Int × Str)} {i : Nat} {x : V} (q : TpAll H xs (os.map fun o => .tuple [.int o.1, .str o.2])) (e : xs[i]? = some x) :
    ∃ o t, os[i]? = some o ∧ x = .ref t ∧ H t = some (.tup [.int o.1, .str o.2]) := by
  obtain ⟨d, e2, tx⟩ := q.get' e
  rw [List.getElem?_map] at e2
  cases hr : os[i]? with
  | none => rw [hr] at e2; cases e2
  | some o =>
    rw [hr] at e2
    cases e2
    obtain ⟨t, y, u, rfl, ht, ty, tu⟩ := tx.pair
    rw [ty.iint, tu.istr] at ht
    exact ⟨o, t, rfl, rfl, ht⟩
section
variable {P : Program} {w : World} {K : PySem.W.Frag} {mg : Str → Option Value} {base : Heap}
abbrev nOptions : List Str := ["self", "choice", "name", "options"]
theorem scOptions : FnScope nOptions ["self", "choice"] (defScope sOptions) := ⟨rfl, rfl, rfl, by decide +kernel, rfl, by decide +kernel, by decide +kernel⟩
theorem ok_options {C f : Addr} {fd : FuncData} (F : Fun K "options_of" "Face.options_of" sOptions f fd) (cl : Cls K C) (n3 : NoAttr K C "choices") : FnOk P w K mg base CX0 1 f fd ["self", "choice"] (spOptions C) := by
  refine F.ok scOptions (fun vs H Q E h => ?_) (fun cdv A outer s H vs Q E hr h => ?_)
  · obtain ⟨a, z, cs, rs, d, rfl, _⟩ := h
    rfl
  · obtain ⟨a, z, cs, rs, d, rfl, ⟨dx, v1, v2, v3, v4, v5, hA, t3, t4⟩, hl, k⟩ := h
    refine ⟨_, pss_cons (ps_for PassesOwn.never rfl (pi_tup (pe_fld (pv 0) rfl)) (pg_tup rfl (pgs_cons (pg_name (i := 2) scOptions.nd rfl (.inl rfl)) (pgs_cons (pg_name (i := 3) scOptions.nd rfl (.inl rfl)) pgs_nil)))
        (pss_one (ps_if (pt_cmpR op_eq (pv 2) (pv 1) (nomark _)) (pss_one (ps_ret (pv 3))) pss_nil))) (pss_one ps_never), ?_⟩
    obtain ⟨b, xs, rfl, hb, q⟩ := TpR.inv t3
    refine ⟨_, rfl, a, C, dx, _, _, rfl, hA, cl, n3, ff_choices, b, rfl, ⟨_, .inl hb⟩, ?_⟩
    refine for_tup (xs := xs) (fun i σ H3 => H3 = H ∧ (∃ a2 a3, σ = [some (.ref a), some (.str z), a2, a3]) ∧ ∀ (j : Nat) (r : Str × PyData), j < i → cs[j]? = some r → r.1 ≠ z) ?_ ?_ ?_ ?_
    · exact ⟨rfl, ⟨_, _, rfl⟩, fun j r hj => absurd hj (Nat.not_lt_zero _)⟩
    · rintro i σ H3 _ ⟨rfl, _⟩
      exact .inl hb
    · rintro i x σ H3 hx ⟨rfl, ⟨a2, a3, rfl⟩, hB⟩
      obtain ⟨r, t, u, hr', rfl, ht, tu⟩ := rows_at q hx
      refine ⟨t, _, rfl, SqT.of ht, rfl, _, _, rfl, _, _, rfl, rfl, ?_⟩
      refine ⟨_, rfl, _, rfl, rfl, _, rfl, ?_⟩
      refine ite2 (fun h => ?_) (fun h => ?_)
      · have e : r.1 = z := by
          have := of_decide_eq_true h
          cases this
          rfl
        have e2 := look_first hl hr' e hB
        rw [e2] at tu
        exact ⟨_, rfl, k _ tu⟩
      · have e : r.1 ≠ z := fun q => h (decide_eq_true (by rw [q]))
        refine ⟨rfl, ⟨_, _, rfl⟩, fun j s hj hs => ?_⟩
        by_cases ej : j = i
        · rw [ej, hr'] at hs
          cases hs
          exact e
        · exact hB j s (by omega) hs
    · rintro σ H3 ⟨rfl, _, hB⟩
      obtain ⟨i, hi, e⟩ := look_at hl
      have el : xs.length = cs.length := by rw [q.length, List.length_map]
      exact hB i cs[i] (by omega) (List.getElem?_eq_getElem hi) e
abbrev nNum : List Str := ["face", "kind", "value", "word", "number", "option"]
theorem scNum : FnScope nNum ["face", "kind", "value"] (defScope sNum) := ⟨rfl, rfl, rfl, by decide +kernel, rfl, by decide +kernel, by decide +kernel⟩
theorem ok_num {C f : Addr} {fd : FuncData} (F : Fun K "number_of" "number_of" sNum f fd) (DW : Has P w K mg base "word_of" 1 ["kind"] spWord) (DO : HasM P w K mg base C "options_of" 1 ["self", "choice"] (spOptions C)) : FnOk P w K mg base CX0 2 f fd ["face", "kind", "value"] (spNum C) := by
  refine F.ok scNum (fun vs H Q E h => ?_) (fun cdv A outer s H vs Q E hr h => ?_)
  · obtain ⟨a, v, x, k, cs, rs, rfl, _⟩ := h
    rfl
  · obtain ⟨a, v, x, k, cs, rs, rfl, hF, t, hh⟩ := h
    refine ⟨_, pss_cons (ps_set (i := 3) scNum.nd rfl (Or.inl rfl) (pe_has DW hr rfl (pa_cons (pv 1) pa_nil)))
      (pss_cons (ps_if (pt_cmpR op_eq (pv 3) pe_str (nomark _)) (pss_one (ps_ret (pe_ix ix_list (pe_lc (own := [("number", 4), ("option", 5)]) (g := gTup K 2 (gCons (gName 4) (gCons (gName 5) gNil))) (te := tVar 4) rfl scNum.nd (pi_tup (pe_hasM DO hr (pv 0) (pa_cons (pe_ix ix_tup (pv 1) pe_int (fun _ _ => rfl)) pa_nil))) (blkOk_by (N := nNum) (sc := defScope sNum) (by decide +kernel))
        (fun _ _ _ _ _ => pg_tup rfl (pgs_cons (pg_name (i := 4) scNum.nd rfl (.inl rfl)) (pgs_cons (pg_name (i := 5) scNum.nd rfl (.inl rfl)) pgs_nil))) (fun _ _ _ _ _ => pts_one (pt_cmpR op_eq (pv 5) (pv 2) (nomark _))) (fun _ _ _ _ _ => pv 4)) pe_int (fun _ _ => rfl)))) pss_nil)
      (pss_cons (ps_if (pt_cmpR op_eq (pv 3) pe_str (nomark _)) (pss_one (ps_ret (pe_ifExp (pt_val (pv 2)) pe_int pe_int))) pss_nil)
      (pss_one (ps_ret (pv 2))))), ?_⟩
    refine ⟨_, rfl, v, k, rfl, t, ?_⟩
    refine ⟨_, rfl, rfl, _, rfl, ?_⟩
    rcases hh with ⟨rfl, i, rfl, q⟩ | ⟨rfl, b, rfl, q⟩ | ⟨z, os, n, u, rfl, hl, ok, hm, rfl, q⟩
    · refine ite2 (fun h => absurd (of_decide_eq_true h) (sne (by decide +kernel : ("whole" : Str) ≠ "choice"))) (fun _ => ?_)
      refine ⟨_, rfl, rfl, _, rfl, ?_⟩
      refine ite2 (fun h => absurd (of_decide_eq_true h) (sne (by decide +kernel : ("whole" : Str) ≠ "truth"))) (fun _ => ?_)
      exact ⟨_, rfl, q⟩
    · refine ite2 (fun h => absurd (of_decide_eq_true h) (sne (by decide +kernel : ("truth" : Str) ≠ "choice"))) (fun _ => ?_)
      refine ⟨_, rfl, rfl, _, rfl, ?_⟩
      refine ite2 (fun _ => ?_) (fun h => absurd (decide_eq_true rfl) h)
      refine ⟨_, rfl, b, rfl, ?_⟩
      cases b with
      | true => exact iteT q
      | false => exact iteF q
    · refine ite2 (fun _ => ?_) (fun h => absurd (decide_eq_true rfl) h)
      rcases kn_inv t with ⟨_, h | h | h⟩ | ⟨b, y, rfl, hb, ty⟩
      · cases h
      · cases h
      · cases h
      cases ty.istr
      obtain ⟨dx, v1, v2, v3, v4, v5, hA, t3, t4⟩ := id hF
      refine ⟨_, rfl, a, dx, _, rfl, hA, ?_, _, rfl, b, _, _, _, rfl, rfl, SqT.of hb, rfl, a, z, cs, rs, _, rfl, hF, hl, fun ov tv => ?_⟩
      · unfold ff
        rw [lookup_putF, if_neg (by decide +kernel), lookup_putF, if_neg (by decide +kernel), lookup_putF, if_neg (by decide +kernel), lookup_putF, if_neg (by decide +kernel), lookup_putF, if_neg (by decide +kernel)]
        rfl
      obtain ⟨c, xs, rfl, hc, tq⟩ := Tp.inv tv
      refine ⟨c, rfl, ⟨_, SqT.of hc⟩, fun D hD => ?_⟩
      refine lc_tup (xs := xs) (fun i H3 => Same H H3 ∧ H3 D = some (.lst (((os.take i).filter (fun o => decide (o.2 = u))).map fun o => V.int o.1))) ?_ ?_ ?_ ?_
      · exact ⟨Same.new hD, upd_same⟩
      · rintro i H3 _ ⟨S3, _⟩
        exact SqT.of (S3 _ _ hc)
      · rintro i x H3 hx ⟨S3, h3⟩
        obtain ⟨o, t, ho, rfl, ht⟩ := opts_at tq hx
        refine ⟨t, _, rfl, SqT.of (S3 _ _ ht), rfl, _, _, rfl, _, _, rfl, rfl, rfl, ?_⟩
        refine ⟨_, rfl, _, rfl, rfl, _, rfl, ?_⟩
        refine ite2 (fun h => ?_) (fun h => ?_)
        · have e : o.2 = u := by
            have := of_decide_eq_true h
            cases this
            rfl
          refine ⟨_, rfl, _, h3, ?_, Same.wr S3 hD, ?_⟩
          · rw [List.length_map]
            refine Nat.lt_of_le_of_lt (List.length_filter_le _ _) ?_
            rw [List.length_take]
            exact Nat.lt_of_le_of_lt (Nat.min_le_right _ _) (Nat.lt_of_le_of_lt ok.len (by decide))
          · rw [upd_same, List.take_add_one, ho]
            simp [e]
        · have e : ¬ o.2 = u := fun q => h (decide_eq_true (by rw [q]))
          refine ⟨S3, ?_⟩
          rw [h3, List.take_add_one, ho]
          simp [e]
      · rintro H3 ⟨S3, h3⟩
        have el : xs.length = os.length := by rw [tq.length, List.length_map]
        rw [el, List.take_length, opts_one ok.nd hm] at h3
        exact ⟨D, _, _, _, rfl, rfl, SqL.of h3, rfl, q H3 S3⟩
end
end Fh

set_option Elab.async false
set_option linter.all false
set_option maxRecDepth 100000
set_option maxHeartbeats 4000000
namespace Fh
open PySem L2 PyProof.Rows
section
variable {P : Program} {w : World} {K : PySem.W.Frag} {mg : Str → Option Value} {base : Heap}
abbrev nDigits : List Str := ["number", "digits", "digit"]
theorem scDigits : FnScope nDigits ["number"] (defScope sDigits) := ⟨rfl, rfl, rfl, by decide +kernel, rfl, by decide +kernel, by decide +kernel⟩
theorem scTold : FnScope ["size"] ["size"] (defScope sTold) := ⟨rfl, rfl, rfl, by decide +kernel, rfl, by decide +kernel, by decide +kernel⟩
theorem scPart : FnScope ["size"] ["size"] (defScope sPart) := ⟨rfl, rfl, rfl, by decide +kernel, rfl, by decide +kernel, by decide +kernel⟩
theorem scFSize : FnScope ["size"] ["size"] (defScope sFSize) := ⟨rfl, rfl, rfl, by decide +kernel, rfl, by decide +kernel, by decide +kernel⟩
theorem ok_digits {f : Addr} {fd : FuncData} (F : Fun K "digits_of" "digits_of" sDigits f fd) (G : Glb mg) (N : Nums mg) : FnOk P w K mg base CX0 1 f fd ["number"] spDigits := by
  obtain ⟨tB, hB⟩ := N.base
  refine F.ok scDigits (fun vs H Q E h => ?_) (fun cdv A outer s H vs Q E hr h => ?_)
  · obtain ⟨n, rfl, _⟩ := h
    rfl
  · obtain ⟨n, rfl, n0, n1, k⟩ := h
    refine ⟨_, pss_cons (ps_set (i := 1) scDigits.nd rfl (Or.inl rfl) (pe_lst pa_nil))
      (pss_cons (ps_while PassesOwn.never (pt_cmpR op_gt (pv 0) pe_int (nomark _))
        (pss_cons (ps_asg (pe_callB call_divmod (by rfl) G.divmod (by decide +kernel) (pa_cons (pv 0) (pa_cons (pe_glob (v := .int 256) rfl hB ⟨_, rfl⟩) pa_nil))) (pg_tup rfl (pgs_cons (pg_name (i := 0) scDigits.nd rfl (.inl rfl)) (pgs_cons (pg_name (i := 2) scDigits.nd rfl (.inl rfl)) pgs_nil))))
        (pss_one (ps_expr (pe_bm PySem.F.plainAttrs_list PySem.F.slot_list_append PySem.F.type_list_append mt_append (pv 1) (pa_cons (pv 2) pa_nil))))))
      (pss_one (ps_ret (pe_revL (pv 1))))), ?_⟩
    refine ⟨Nat.zero_le _, fun p hp => ?_⟩
    refine while_by (fun σ H3 => ∃ (m : Int) (ds : List V) (a2 : Option V), σ = [some (.int m), some (.ref p), a2] ∧ Same H H3 ∧ H3 p = some (.lst ds) ∧ ((m = n ∧ ds = []) ∨ (m = 0 ∧ ∃ x, ds = [x]))) (fun σ _ => match σ with | some (.int m) :: _ => m.toNat | _ => 0) ?_ ?_ ?_
    · exact ⟨n, [], none, rfl, Same.new hp, upd_same, .inl ⟨rfl, rfl⟩⟩
    · rintro σ H3 ⟨m, ds, a2, rfl, S3, hp3, hm⟩
      refine ⟨_, rfl, _, _, rfl, rfl, _, rfl, ?_⟩
      refine ite2 (fun h => ?_) (fun h => ?_)
      · have hm0 : m > 0 := of_decide_eq_true h
        rcases hm with ⟨rfl, rfl⟩ | ⟨rfl, _⟩
        · have e0 : m / 256 = 0 := Int.ediv_eq_zero_of_lt (by omega) (by omega)
          refine ⟨_, rfl, m, 256, rfl, ⟨by decide, by decide⟩, fun t ht => ?_⟩
          refine ⟨t, _, rfl, SqT.of upd_same, rfl, _, _, rfl, _, _, rfl, rfl, ?_⟩
          have S4 : Same H (upd H3 t (.tup [.int (m / 256), .int (m % 256)])) := fun a o e => Same.new ht a o (S3 a o e)
          have hp4 : (upd H3 t (.tup [.int (m / 256), .int (m % 256)])) p = some (.lst []) := Same.new ht p _ hp3
          refine ⟨_, rfl, .inl ⟨rfl, _, SqL.of hp4⟩, _, rfl, p, _, _, rfl, rfl, hp4, by decide, ?_⟩
          refine ⟨⟨m / 256, [.int (m % 256)], _, rfl, Same.wr S4 hp, upd_same, .inr ⟨e0, _, rfl⟩⟩, ?_⟩
          show (m / 256).toNat < m.toNat
          omega
        · exact absurd hm0 (by decide)
      · have hm1 : ¬ m > 0 := fun z => h (decide_eq_true z)
        rcases hm with ⟨rfl, _⟩ | ⟨_, x, rfl⟩
        · omega
        · exact ⟨_, rfl, p, _, rfl, SqL.of hp3, fun r hr' => k r _ x (fun a o e => Same.new hr' a o (S3 a o e)) (Same.free S3 hr') upd_same⟩
    · rintro σ H Q Q' m ⟨v, e1, i, j, ea, eb, c, ec, q⟩
      exact ⟨v, e1, i, j, ea, eb, c, ec, m _ _ q⟩
theorem ok_told {f : Addr} {fd : FuncData} (F : Fun K "told_size" "told_size" sTold f fd) (N : Nums mg) : FnOk P w K mg base CX0 1 f fd ["size"] spTold := by
  obtain ⟨tB, hB⟩ := N.base
  obtain ⟨tL, hL⟩ := N.long
  refine F.ok scTold (fun vs H Q E h => ?_) (fun cdv A outer s H vs Q E hr h => ?_)
  · obtain ⟨n, rfl, _⟩ := h
    rfl
  · obtain ⟨n, rfl, n0, k⟩ := h
    refine ⟨_, pss_cons (ps_if (pt_cmpR op_lt (pv 0) (pe_glob (v := .int 200) rfl hL ⟨_, rfl⟩) (nomark _)) (pss_one (ps_ret (pe_lst (pa_cons (pv 0) pa_nil)))) pss_nil)
      (pss_one (ps_ret (pe_lst (pa_cons (pe_op op_add (pe_glob (v := .int 200) rfl hL ⟨_, rfl⟩) (pe_op op_fdiv (pv 0) (pe_glob (v := .int 256) rfl hB ⟨_, rfl⟩))) (pa_cons (pe_op op_mod (pv 0) (pe_glob (v := .int 256) rfl hB ⟨_, rfl⟩)) pa_nil))))), ?_⟩
    refine ⟨_, rfl, _, _, rfl, rfl, _, rfl, ?_⟩
    refine ite2 (fun hlt => ?_) (fun hlt => ?_)
    · exact ⟨_, rfl, (by show 1 ≤ sizeLine; decide), fun p hp => k p _ _ (Same.new hp) hp upd_same (by unfold toldN; rw [if_pos (of_decide_eq_true hlt)]; rfl)⟩
    · exact ⟨_, rfl, _, _, rfl, rfl, ⟨by decide, by decide⟩, _, _, rfl, rfl, _, rfl, _, _, rfl, rfl, (by show (0 : Int) < 256; decide), (by show 2 ≤ sizeLine; decide), fun p hp => k p _ _ (Same.new hp) hp upd_same (by unfold toldN; rw [if_neg (fun z => hlt (decide_eq_true z))]; rfl)⟩
theorem ok_part {f : Addr} {fd : FuncData} (F : Fun K "part_size" "part_size" sPart f fd) (G : Glb mg) (DT : Has P w K mg base "told_size" 1 ["size"] spTold) : FnOk P w K mg base CX0 2 f fd ["size"] spPart := by
  refine F.ok scPart (fun vs H Q E h => ?_) (fun cdv A outer s H vs Q E hr h => ?_)
  · obtain ⟨n, rfl, _⟩ := h
    rfl
  · obtain ⟨n, rfl, n0, k⟩ := h
    refine ⟨_, pss_one (ps_ret (pe_op op_add (pe_callB call_len_seq (by rfl) G.len PySem.boot_len (pa_cons (pe_has DT hr rfl (pa_cons (pv 0) pa_nil)) pa_nil)) (pv 0))), ?_⟩
    refine ⟨_, rfl, n, rfl, n0, fun p H' xs S hp hx hl => ?_⟩
    refine ⟨p, _, rfl, .inl (SqL.of hx), _, rfl, _, _, rfl, rfl, ?_⟩
    rw [hl]
    exact k H' S
theorem ok_fsize {f : Addr} {fd : FuncData} (F : Fun K "field_size" "field_size" sFSize f fd) (DP : Has P w K mg base "part_size" 2 ["size"] spPart) : FnOk P w K mg base CX0 3 f fd ["size"] spFSize := by
  refine F.ok scFSize (fun vs H Q E h => ?_) (fun cdv A outer s H vs Q E hr h => ?_)
  · obtain ⟨n, rfl, _⟩ := h
    rfl
  · obtain ⟨n, rfl, n0, k⟩ := h
    refine ⟨_, pss_one (ps_ret (pe_op op_add pe_int (pe_has DP hr rfl (pa_cons (pv 0) pa_nil)))), ?_⟩
    refine ⟨_, rfl, n, rfl, n0, fun H' S => ?_⟩
    exact ⟨_, _, rfl, rfl, k H' S⟩
end
end Fh

set_option Elab.async false
set_option linter.all false
set_option maxRecDepth 100000
set_option maxHeartbeats 4000000
namespace Fh
open PySem L2 PyProof.Rows
abbrev sNin : Stmt := top 3
abbrev sLeastOf : Stmt := top 15
abbrev sLSize : Stmt := top 17
/-- the name in a kind -/
def Kb.nm : Kb → Option Str
  | .rc z => some z
  | .ch z => some z
  | _ => none
def Kn.nm : Kn → Option Str
  | .one b => b.nm
  | .lst b => b.nm
def spNin (ok : Kn → Prop) : Sp := fun vs H Q _ => ∃ (v : V) (k : Kn) (z : Str), vs = [v] ∧ Tp H v k.d ∧ k.nm = some z ∧ ok k ∧ Q (.str z) H
abbrev nNin : List Str := ["kind", "word", "inner"]
abbrev nLeastOf : List Str := ["face", "kind", "word", "fields", "number", "name", "inner", "need"]
/-- of a choice -/
def spLeastOf (C : Addr) : Sp := fun vs H Q _ => ∃ (a : Addr) (v : V) (z : Str) (cs rs : List (Str × PyData)) (n : Int) (u : Str) (os : List (Int × Str)), vs = [.ref a, v] ∧ FaceR C H a cs rs ∧ Tp H v (Kn.one (.ch z)).d ∧ cs.lookup z = some (optsD ((n, u) :: os)) ∧ Q (.str u) H
/-! ### the sizes of records, reckoned -/
abbrev Szs := Str → Option Int
def kSz (cs rs : List (Str × PyData)) (D : Szs) (k : Kn) : Option Int := if nobK cs rs k = true then none else match k with
  | .lst _ => some 1
  | .one (.rc z) => D z
  | .one (.ch _) => some 1
  | .one _ => some 0
def optV : Option Int → V
  | none => .non
  | some v => .int v
/-- a dict has these sizes -/
def DOf (kvs : List (Key × V)) (D : Szs) : Prop := ∀ z, valV kvs (.inr z) = (D z).map V.int
/-- every choice has one option with a small number -/
theorem atI_first {α : Type} {x : α} {r : List α} : atI (x :: r) 0 = some x := by
  unfold atI ixN
  rw [if_pos (by decide), if_pos (by rw [List.length_cons]; omega)]
  rfl
def Cs1 (cs : List (Str × PyData)) : Prop := ∀ z, nameIn z cs = true → ∃ (n : Int) (u : Str) (os : List (Int × Str)), cs.lookup z = some (optsD ((n, u) :: os)) ∧ 1 ≤ n ∧ n ≤ 200 ∧ OptsOk ((n, u) :: os)
abbrev nLSize : List Str := ["face", "kind", "sizes", "word"]
def spLSize (C : Addr) : Sp := fun vs H Q _ => ∃ (a d : Addr) (v : V) (k : Kn) (cs rs : List (Str × PyData)) (kvs : List (Key × V)) (D : Szs), vs = [.ref a, v, .ref d] ∧ FaceR C H a cs rs ∧ cs.length ≤ 100 ∧ rs.length ≤ 100 ∧ Tp H v k.d ∧ Cs1 cs ∧
  H d = some (.dK kvs) ∧ DOf kvs D ∧ ∀ (H' : Hp), Same H H' → Q (optV (kSz cs rs D k)) H'
theorem ff_meth {m : Str} {v1 v2 v3 v4 v5 : V} (h1 : m ≠ "name") (h2 : m ≠ "edition") (h3 : m ≠ "choices") (h4 : m ≠ "records") (h5 : m ≠ "calls") : (ff v1 v2 v3 v4 v5).lookup m = none := by
  unfold ff
  rw [lookup_putF, if_neg h5, lookup_putF, if_neg h4, lookup_putF, if_neg h3, lookup_putF, if_neg h2, lookup_putF, if_neg h1]
  rfl
theorem ff_options {v1 v2 v3 v4 v5 : V} : (ff v1 v2 v3 v4 v5).lookup ("options_of" : Str) = none := ff_meth (by decide +kernel) (by decide +kernel) (by decide +kernel) (by decide +kernel) (by decide +kernel)
section
variable {P : Program} {w : World} {K : PySem.W.Frag} {mg : Str → Option Value} {base : Heap}
theorem scNin : FnScope nNin ["kind"] (defScope sNin) := ⟨rfl, rfl, rfl, by decide +kernel, rfl, by decide +kernel, by decide +kernel⟩
theorem ok_nin {f : Addr} {fd : FuncData} {n : Nat} {ok ok' : Kn → Prop} (F : Fun K "name_in" "name_in" sNin f fd) (DN : Has P w K mg base "name_in" n ["kind"] (spNin ok')) (hok : ∀ b, ok (.lst b) → ok' (.one b)) : FnOk P w K mg base CX0 (n + 1) f fd ["kind"] (spNin ok) := by
  refine F.ok scNin (fun vs H Q E h => ?_) (fun cdv A outer s H vs Q E hr h => ?_)
  · obtain ⟨v, k, z, rfl, _⟩ := h
    rfl
  · obtain ⟨v, k, z, rfl, t, hz, hk, q⟩ := h
    refine ⟨_, pss_cons (ps_asg (pv 0) (pg_tup rfl (pgs_cons (pg_name (i := 1) scNin.nd rfl (.inl rfl)) (pgs_cons (pg_name (i := 2) scNin.nd rfl (.inl rfl)) pgs_nil))))
      (pss_one (ps_ret (pe_ifExp (pt_cmpR op_eq (pv 1) pe_str (nomark _)) (pe_has DN hr rfl (pa_cons (pv 2) pa_nil)) (pv 2)))), ?_⟩
    rcases kn_inv t with ⟨rfl, hp⟩ | ⟨b, u, rfl, hb, tu⟩
    · exfalso
      rcases hp with rfl | rfl | rfl <;> cases hz
    · refine ⟨_, rfl, b, _, rfl, SqT.of hb, rfl, _, _, rfl, _, _, rfl, rfl, ?_⟩
      refine ⟨_, rfl, rfl, _, rfl, ?_⟩
      cases k with
      | lst c =>
        refine ite2 (fun _ => ?_) (fun h => absurd (decide_eq_true rfl) h)
        exact ⟨_, rfl, u, .one c, z, rfl, tu, hz, hok c hk, q⟩
      | one c =>
        cases c with
        | whole => cases hz
        | truth => cases hz
        | text => cases hz
        | rc y =>
          cases hz
          cases tu.istr
          refine ite2 (fun h => absurd (of_decide_eq_true h) (sne (by decide +kernel : ("record" : Str) ≠ "list"))) (fun _ => ?_)
          exact ⟨_, rfl, q⟩
        | ch y =>
          cases hz
          cases tu.istr
          refine ite2 (fun h => absurd (of_decide_eq_true h) (sne (by decide +kernel : ("choice" : Str) ≠ "list"))) (fun _ => ?_)
          exact ⟨_, rfl, q⟩
theorem scLeastOf : FnScope nLeastOf ["face", "kind"] (defScope sLeastOf) := ⟨rfl, rfl, rfl, by decide +kernel, rfl, by decide +kernel, by decide +kernel⟩
theorem ok_leastOf {C f : Addr} {fd : FuncData} (F : Fun K "least_of" "least_of" sLeastOf f fd) (DW : Has P w K mg base "word_of" 1 ["kind"] spWord) (DO : HasM P w K mg base C "options_of" 1 ["self", "choice"] (spOptions C)) : FnOk P w K mg base CX0 2 f fd ["face", "kind"] (spLeastOf C) := by
  refine F.ok scLeastOf (fun vs H Q E h => ?_) (fun cdv A outer s H vs Q E hr h => ?_)
  · obtain ⟨a, v, z, cs, rs, n, u, os, rfl, _⟩ := h
    rfl
  · obtain ⟨a, v, z, cs, rs, n, u, os, rfl, hF, t, hl, q⟩ := h
    refine ⟨_, pss_cons (ps_set (i := 2) scLeastOf.nd rfl (Or.inl rfl) (pe_has DW hr rfl (pa_cons (pv 1) pa_nil)))
      (pss_cons (ps_if (pt_cmpR op_eq (pv 2) pe_str (nomark _)) pss_never pss_nil)
      (pss_cons (ps_if (pt_cmpR op_eq (pv 2) pe_str (nomark _)) (pss_one (ps_ret (pe_ix ix_tup (pe_ix ix_tup (pe_hasM DO hr (pv 0) (pa_cons (pe_ix ix_tup (pv 1) pe_int (fun _ _ => rfl)) pa_nil)) pe_int (fun _ _ => rfl)) pe_int (fun _ _ => rfl)))) pss_nil)
      pss_never)), ?_⟩
    refine ⟨_, rfl, v, _, rfl, t, ?_⟩
    refine ⟨_, rfl, rfl, _, rfl, ?_⟩
    refine ite2 (fun h => absurd (of_decide_eq_true h) (sne (by decide +kernel : ("choice" : Str) ≠ "record"))) (fun _ => ?_)
    refine ⟨_, rfl, rfl, _, rfl, ?_⟩
    refine ite2 (fun _ => ?_) (fun h => absurd (decide_eq_true rfl) h)
    obtain ⟨b, x, y, rfl, hb, hx, hy⟩ := Tp.pair t
    cases hy.istr
    obtain ⟨dx, v1, v2, v3, v4, v5, hA, t3, t4⟩ := id hF
    refine ⟨_, rfl, a, dx, _, rfl, hA, ff_options, _, rfl, b, _, _, _, rfl, rfl, SqT.of hb, rfl, a, z, cs, rs, _, rfl, hF, hl, fun ov tv => ?_⟩
    obtain ⟨c, xs, rfl, hc, tq⟩ := Tp.inv tv
    obtain ⟨o, r, rfl, to, tq⟩ := tq.icons
    obtain ⟨e, i, w', rfl, he, hi, hw⟩ := Tp.pair to
    cases hw.istr
    refine ⟨c, _, _, _, rfl, rfl, SqT.of hc, atI_first, e, _, _, _, rfl, rfl, SqT.of he, rfl, q⟩
end
end Fh

set_option Elab.async false
set_option linter.all false
set_option maxRecDepth 100000
set_option maxHeartbeats 4000000
namespace Fh
open PySem L2 PyProof.Rows
section
variable {P : Program} {w : World} {K : PySem.W.Frag} {mg : Str → Option Value} {base : Heap}
theorem scLSize : FnScope nLSize ["face", "kind", "sizes"] (defScope sLSize) := ⟨rfl, rfl, rfl, by decide +kernel, rfl, by decide +kernel, by decide +kernel⟩
theorem ok_lsize {C f : Addr} {fd : FuncData} (F : Fun K "least_size" "least_size" sLSize f fd) (G : Glb mg) (DN : Has P w K mg base "names_nobody" 3 ["face", "kind"] (spNob C fun _ => True)) (DW : Has P w K mg base "word_of" 1 ["kind"] spWord) (DD : Has P w K mg base "digits_of" 1 ["number"] spDigits)
    (DU : Has P w K mg base "number_of" 2 ["face", "kind", "value"] (spNum C)) (DL : Has P w K mg base "least_of" 2 ["face", "kind"] (spLeastOf C)) : FnOk P w K mg base CX0 4 f fd ["face", "kind", "sizes"] (spLSize C) := by
  refine F.ok scLSize (fun vs H Q E h => ?_) (fun cdv A outer s H vs Q E hr h => ?_)
  · obtain ⟨a, d, v, k, cs, rs, kvs, D, rfl, _⟩ := h
    rfl
  · obtain ⟨a, d, v, k, cs, rs, kvs, D, rfl, hF, lc, lr, t, hC, hd, hD, q⟩ := h
    have hr1 : Room 1 _ := hr.mono (by decide)
    have hr2 : Room 2 _ := hr.mono (by decide)
    have hu := hu_of hr
    refine ⟨_, pss_cons (ps_if (pt_val (pe_has DN hr rfl (pa_cons (pv 0) (pa_cons (pv 1) pa_nil)))) (pss_one (ps_ret pe_non)) pss_nil)
      (pss_cons (ps_set (i := 3) scLSize.nd rfl (Or.inl rfl) (pe_has DW hr1 rfl (pa_cons (pv 1) pa_nil)))
      (pss_cons (ps_if (pt_cmpR op_eq (pv 3) pe_str (nomark _)) (pss_one (ps_ret (pe_dget1 hu (pv 2) (pe_ix ix_tup (pv 1) pe_int (fun _ _ => rfl)) ⟨rfl, rfl, rfl, rfl⟩))) pss_nil)
      (pss_cons (ps_if (pt_cmpR op_eq (pv 3) pe_str (nomark _)) (pss_one (ps_ret pe_int)) pss_nil)
      (pss_one (ps_ret (pe_ifExp (pt_cmpR op_eq (pv 3) pe_str (nomark _)) (pe_callB call_len_seq (by rfl) G.len PySem.boot_len (pa_cons (pe_has DD hr1 rfl (pa_cons (pe_has DU hr2 rfl (pa_cons (pv 0) (pa_cons (pv 1) (pa_cons (pe_has DL hr2 rfl (pa_cons (pv 0) (pa_cons (pv 1) pa_nil))) pa_nil)))) pa_nil)) pa_nil)) pe_int)))))), ?_⟩
    refine ⟨_, rfl, _, rfl, a, v, k, cs, rs, rfl, hF, lc, lr, t, trivial, fun H1 S1 => ?_⟩
    cases hN : nobK cs rs k with
    | true =>
      refine ⟨true, rfl, iteT ?_⟩
      have e : kSz cs rs D k = none := by unfold kSz; rw [if_pos hN]
      have q' := q H1 S1
      rw [e] at q'
      exact q'
    | false =>
    have ek : kSz cs rs D k = (match k with
      | .lst _ => some 1
      | .one (.rc z) => D z
      | .one (.ch _) => some 1
      | .one _ => some 0) := by unfold kSz; rw [if_neg (by rw [hN]; decide)]; cases k with
        | lst c => rfl
        | one c => cases c <;> rfl
    rw [ek] at q
    refine ⟨false, rfl, iteF ?_⟩
    have t1 := Tp.keep (Same.tk S1) _ _ t
    have hF1 := hF.same S1
    refine ⟨_, rfl, v, k, rfl, t1, ?_⟩
    refine ⟨_, rfl, rfl, _, rfl, ?_⟩
    have plain : ∀ {u : Str}, u ≠ "record" → u ≠ "list" → u ≠ "choice" → k.word = u → (V.str k.word = V.str "record" → False) ∧ (V.str k.word = V.str "list" → False) ∧ (V.str k.word = V.str "choice" → False) := fun h1 h2 h3 e => by
      rw [e]
      exact ⟨sne h1, sne h2, sne h3⟩
    rcases kn_inv t1 with ⟨hv, hk⟩ | ⟨b, y, hv, hb, ty⟩
    · have hh : (V.str k.word = V.str "record" → False) ∧ (V.str k.word = V.str "list" → False) ∧ (V.str k.word = V.str "choice" → False) := by
        rcases hk with h | h | h
        · exact plain (u := "whole") (by decide +kernel) (by decide +kernel) (by decide +kernel) (by rw [h]; rfl)
        · exact plain (u := "truth") (by decide +kernel) (by decide +kernel) (by decide +kernel) (by rw [h]; rfl)
        · exact plain (u := "text") (by decide +kernel) (by decide +kernel) (by decide +kernel) (by rw [h]; rfl)
      refine ite2 (fun h => absurd (of_decide_eq_true h) hh.1) (fun _ => ?_)
      refine ⟨_, rfl, rfl, _, rfl, ?_⟩
      refine ite2 (fun h => absurd (of_decide_eq_true h) hh.2.1) (fun _ => ?_)
      refine ⟨_, rfl, rfl, _, rfl, ?_⟩
      refine ite2 (fun h => absurd (of_decide_eq_true h) hh.2.2) (fun _ => ?_)
      rcases hk with rfl | rfl | rfl <;> exact q H1 S1
    subst hv
    cases k with
    | lst c =>
      refine ite2 (fun h => absurd (of_decide_eq_true h) (sne (by decide +kernel : ("list" : Str) ≠ "record"))) (fun _ => ?_)
      refine ⟨_, rfl, rfl, _, rfl, ?_⟩
      refine ite2 (fun _ => ?_) (fun h => absurd (decide_eq_true rfl) h)
      exact q H1 S1
    | one c =>
      cases c with
      | whole => cases t
      | truth => cases t
      | text => cases t
      | rc z =>
        refine ite2 (fun _ => ?_) (fun h => absurd (decide_eq_true rfl) h)
        cases ty.istr
        have hd1 := S1 _ _ hd
        refine ⟨_, rfl, d, rfl, .inl ⟨_, .inl hd1⟩, _, rfl, b, _, _, _, rfl, rfl, SqT.of hb, rfl, _, DGet.k (k := Sum.inr z) hd1, ?_⟩
        have em := hD z
        have q' := q H1 S1
        dsimp only at q'
        rw [em]
        cases hz : D z with
        | none => rw [hz] at q'; exact q'
        | some m => rw [hz] at q'; exact q'
      | ch z =>
        refine ite2 (fun h => absurd (of_decide_eq_true h) (sne (by decide +kernel : ("choice" : Str) ≠ "record"))) (fun _ => ?_)
        refine ⟨_, rfl, rfl, _, rfl, ?_⟩
        refine ite2 (fun h => absurd (of_decide_eq_true h) (sne (by decide +kernel : ("choice" : Str) ≠ "list"))) (fun _ => ?_)
        refine ⟨_, rfl, rfl, _, rfl, ?_⟩
        refine ite2 (fun _ => ?_) (fun h => absurd (decide_eq_true rfl) h)
        have hni : nameIn z cs = true := by
          have h0 : nobK cs rs (.one (.ch z)) = !nameIn z cs := rfl
          rw [h0] at hN
          cases hh : nameIn z cs with
          | true => rfl
          | false => rw [hh] at hN; cases hN
        obtain ⟨n, u, os, hl, n0, n1, ok⟩ := hC z hni
        refine ⟨_, rfl, _, rfl, _, rfl, _, rfl, a, _, z, cs, rs, n, u, os, rfl, hF1, t1, hl, ?_⟩
        refine ⟨a, _, _, .one (.ch z), cs, rs, rfl, hF1, t1, .inr (.inr ⟨z, (n, u) :: os, n, u, rfl, hl, ok, List.mem_cons_self, rfl, fun H3 S3 => ?_⟩)⟩
        refine ⟨n, rfl, n0, by omega, fun p H4 x S4 hp hp4 => ?_⟩
        refine ⟨p, _, rfl, .inl (SqL.of hp4), ?_⟩
        exact q H4 (fun b o e => S4 b o (S3 b o (S1 b o e)))
end
end Fh

set_option Elab.async false
set_option linter.all false
set_option maxRecDepth 100000
set_option maxHeartbeats 4000000
namespace Fh
open PySem L2 PyProof.Rows
structure Fl where
  num : Int
  nam : Str
  kd : Kn
  must : Bool
def needS (b : Bool) : Str := if b = true then "must" else "may"
def Fl.d (f : Fl) : PyData := .tuple [.int f.num, .str f.nam, f.kd.d, .str (needS f.must)]
def fieldsD (fs : List Fl) : PyData := .tuple (fs.map Fl.d)
theorem need_must (b : Bool) : decide (V.str (needS b) = V.str "must") = b := by
  cases b with
  | true => exact decide_eq_true rfl
  | false => exact decide_eq_false (sne (by decide +kernel : ("may" : Str) ≠ "must"))
theorem need_may (b : Bool) : decide (V.str (needS b) = V.str "may") = !b := by
  cases b with
  | true => exact decide_eq_false (sne (by decide +kernel : ("must" : Str) ≠ "may"))
  | false => exact decide_eq_true rfl
theorem flds_at {H : Hp} {xs : List V} {fs : List Fl} {i : Nat} {x : V} (q : TpAll H xs (fs.map Fl.d)) (e : xs[i]? = some x) :
    ∃ f t u, fs[i]? = some f ∧ x = .ref t ∧ H t = some (.tup [.int f.num, .str f.nam, u, .str (needS f.must)]) ∧ Tp H u f.kd.d := by
  obtain ⟨d, e2, tx⟩ := q.get' e
  rw [List.getElem?_map] at e2
  cases hr : fs[i]? with
  | none => rw [hr] at e2; cases e2
  | some f =>
    rw [hr] at e2
    cases e2
    obtain ⟨t, x1, x2, x3, x4, rfl, ht, t1, t2, t3, t4⟩ := Tp.four tx
    rw [t1.iint, t2.istr, t4.istr] at ht
    exact ⟨f, t, x3, rfl, rfl, ht, t3⟩
/-! ### the reckoning, turn by turn -/
abbrev Rec := Str × List Fl
def rD (r : Rec) : Str × PyData := (r.1, fieldsD r.2)
def mustKs (fs : List Fl) : List Kn := (fs.filter (·.must)).map (·.kd)
theorem mustKs_add (fs gs : List Fl) : mustKs (fs ++ gs) = mustKs fs ++ mustKs gs := by unfold mustKs; rw [List.filter_append, List.map_append]
theorem mustKs_len (fs : List Fl) : (mustKs fs).length ≤ fs.length := by unfold mustKs; rw [List.length_map]; exact List.length_filter_le _ _
def total (ps : List (Option Int)) : Option Int := if none ∈ ps then none else some ((ps.map fun o => fsz (o.getD 0)).sum)
def recSz (cs rs : List (Str × PyData)) (D : Szs) (fs : List Fl) : Option Int := total ((mustKs fs).map (kSz cs rs D))
def putS (D : Szs) (x : Str) : Option Int → Szs
  | none => D
  | some v => fun z => if z = x then some v else D z
def step (cs rs : List (Str × PyData)) (D : Szs) (r : Rec) : Szs := putS D r.1 (recSz cs rs D r.2)
def turn (cs rs : List (Str × PyData)) (recs : List Rec) (D : Szs) : Szs := recs.foldl (step cs rs) D
def turns (cs rs : List (Str × PyData)) (recs : List Rec) : Nat → Szs
  | 0 => fun _ => none
  | n + 1 => turn cs rs recs (turns cs rs recs n)
structure RecsOk (recs : List Rec) : Prop where
  len : recs.length ≤ 6
  fl : ∀ r ∈ recs, r.2.length ≤ 5
def NN (D : Szs) : Prop := ∀ z v, D z = some v → 0 ≤ v
theorem told_nn (n : Int) : 0 ≤ toldN n := by unfold toldN; split <;> decide
theorem fsz_nn {n : Int} (h : 0 ≤ n) : 0 ≤ fsz n := by have := told_nn n; unfold fsz; omega
theorem sum_nn : ∀ {l : List Int}, (∀ x ∈ l, 0 ≤ x) → 0 ≤ l.sum
  | [], _ => Int.le_refl _
  | x :: l, h => by
    rw [List.sum_cons]
    have h1 := h x List.mem_cons_self
    have h2 := sum_nn (l := l) fun y hy => h y (List.mem_cons_of_mem _ hy)
    omega
theorem kSz_nn {cs rs : List (Str × PyData)} {D : Szs} (h : NN D) {k : Kn} {v : Int} (e : kSz cs rs D k = some v) : 0 ≤ v := by
  unfold kSz at e
  split at e
  · cases e
  · split at e
    · cases e; decide
    · exact h _ _ e
    · cases e; decide
    · cases e; decide
theorem step_nn {cs rs : List (Str × PyData)} {D : Szs} (h : NN D) (r : Rec) : NN (step cs rs D r) := by
  unfold step recSz total
  split
  · exact h
  · intro z v e
    unfold putS at e
    dsimp only at e
    split at e
    · cases e
      refine sum_nn fun x hx => ?_
      obtain ⟨o, ho, rfl⟩ := List.mem_map.mp hx
      obtain ⟨k, _, ek⟩ := List.mem_map.mp ho
      cases o with
      | none => exact fsz_nn (Int.le_refl _)
      | some u => exact fsz_nn (kSz_nn h ek)
    · exact h z v e
theorem turn_nn {cs rs : List (Str × PyData)} : ∀ {recs : List Rec} {D : Szs}, NN D → NN (turn cs rs recs D)
  | [], _, h => h
  | r :: recs, D, h => turn_nn (recs := recs) (step_nn h r)
theorem turns_nn {cs rs : List (Str × PyData)} {recs : List Rec} : ∀ n, NN (turns cs rs recs n)
  | 0 => fun z v e => by cases e
  | n + 1 => turn_nn (turns_nn n)
theorem turn_next {cs rs : List (Str × PyData)} {recs : List Rec} {D : Szs} {i : Nat} {r : Rec} (h : recs[i]? = some r) : turn cs rs (recs.take (i + 1)) D = step cs rs (turn cs rs (recs.take i) D) r := by
  unfold turn
  rw [List.take_add_one, h, List.foldl_append]
  rfl
theorem non_in (ps : List (Option Int)) : inV V.non (ps.map optV) = decide (none ∈ ps) := by
  unfold inV
  induction ps with
  | nil => rfl
  | cons p r ih =>
    rw [List.map_cons, List.any_cons, ih]
    cases p with
    | none =>
      show (true || _) = _
      simp
    | some v =>
      show (false || _) = _
      simp
theorem flat_opts (ps : List (Option Int)) : (ps.map optV).all flatV = true := by
  rw [List.all_map, List.all_eq_true]
  intro o _
  cases o <;> rfl
theorem all_some {ps : List (Option Int)} (h : none ∉ ps) : ∃ ms : List Int, ps = ms.map some := by
  induction ps with
  | nil => exact ⟨[], rfl⟩
  | cons p r ih =>
    obtain ⟨ms, e⟩ := ih fun q => h (List.mem_cons_of_mem _ q)
    cases p with
    | none => exact absurd List.mem_cons_self h
    | some v => exact ⟨v :: ms, by rw [e]; rfl⟩
theorem dof_put {kvs : List (Key × V)} {D : Szs} (h : DOf kvs D) (x : Str) (v : Int) : DOf (putK kvs (.inr x) (.int v)) (putS D x (some v)) := by
  intro z
  unfold putS
  dsimp only
  rw [valV_put]
  by_cases e : z = x
  · subst e
    rw [if_pos rfl, if_pos rfl]
    rfl
  · rw [if_neg e, if_neg (fun q => e (by first | exact (Sum.inr.inj q) | exact (Sum.inr.inj q).symm))]
    exact h z
end Fh

set_option Elab.async false
set_option linter.all false
set_option maxRecDepth 100000
set_option maxHeartbeats 4000000
namespace Fh
open PySem L2 PyProof.Rows
abbrev sLSizes : Stmt := top 16
abbrev nLSizes : List Str := ["face", "sizes", "turn", "record", "fields", "parts", "number", "name", "kind", "need", "part"]
def spLSizes (C : Addr) : Sp := fun vs H Q _ => ∃ (a : Addr) (cs : List (Str × PyData)) (recs : List Rec), vs = [.ref a] ∧ FaceR C H a cs (recs.map rD) ∧ cs.length ≤ 100 ∧ Cs1 cs ∧ RecsOk recs ∧
  ∀ (d : Addr) (kvs : List (Key × V)) (H' : Hp), Same H H' → H d = none → H' d = some (.dK kvs) → DOf kvs (turns cs (recs.map rD) recs recs.length) → Q (.ref d) H'
section
variable {P : Program} {w : World} {K : PySem.W.Frag} {mg : Str → Option Value} {base : Heap}
theorem scLSizes : FnScope nLSizes ["face"] (defScope sLSizes) := ⟨rfl, rfl, rfl, by decide +kernel, rfl, by decide +kernel, by decide +kernel⟩
theorem recs_at {H : Hp} {xs : List V} {recs : List Rec} {i : Nat} {x : V} (q : TpAll H xs ((recs.map rD).map fun r => .tuple [.str r.1, r.2])) (e : xs[i]? = some x) :
    ∃ r t u, recs[i]? = some r ∧ x = .ref t ∧ H t = some (.tup [.str r.1, u]) ∧ Tp H u (fieldsD r.2) := by
  obtain ⟨r, t, u, hr, h1, h2, h3⟩ := rows_at q e
  rw [List.getElem?_map] at hr
  cases hr' : recs[i]? with
  | none => rw [hr'] at hr; cases hr
  | some r' =>
    rw [hr'] at hr
    cases hr
    exact ⟨r', t, u, rfl, h1, h2, h3⟩
theorem ok_lsizes {C f : Addr} {fd : FuncData} (F : Fun K "least_sizes" "least_sizes" sLSizes f fd) (G : Glb mg) (cl : Cls K C) (n4 : NoAttr K C "records") (DZ : Has P w K mg base "least_size" 4 ["face", "kind", "sizes"] (spLSize C)) (DS : Has P w K mg base "field_size" 3 ["size"] spFSize) : FnOk P w K mg base CX0 5 f fd ["face"] (spLSizes C) := by
  refine F.ok scLSizes (fun vs H Q E h => ?_) (fun cdv A outer s H vs Q E hr h => ?_)
  · obtain ⟨a, cs, recs, rfl, _⟩ := h
    rfl
  · obtain ⟨a, cs, recs, rfl, hF, lc, c1, ok, q⟩ := h
    have hr3 : Room 3 _ := hr.mono (by decide)
    have hu := hu_of hr
    refine ⟨_, pss_cons (ps_set (i := 1) scLSizes.nd rfl (Or.inr rfl) pe_dnewK)
      (pss_cons (ps_for PassesOwn.never rfl (pi_range1 rfl G.range (pa_cons (pe_callB call_len_seq (by rfl) G.len PySem.boot_len (pa_cons (pe_fld (pv 0) rfl) pa_nil)) pa_nil)) (pg_name (i := 2) scLSizes.nd rfl (Or.inl rfl))
        (pss_one (ps_for PassesOwn.never rfl (pi_tup (pe_fld (pv 0) rfl)) (pg_tup rfl (pgs_cons (pg_name (i := 3) scLSizes.nd rfl (.inl rfl)) (pgs_cons (pg_name (i := 4) scLSizes.nd rfl (.inl rfl)) pgs_nil)))
          (pss_cons (ps_setLc (i := 5) (own := [("number", 6), ("name", 7), ("kind", 8), ("need", 9)]) (g := gTup K 4 (gCons (gName 6) (gCons (gName 7) (gCons (gName 8) (gCons (gName 9) gNil))))) (te := tCall (spLSize C) [] E0 (tCons (tVar 0) (tCons (tVar 8) (tCons (tVar 1) tNil)))) rfl scLSizes.nd rfl rfl (sw_true rfl rfl rfl (by decide +kernel)) (pi_tup (pv 4)) (blkOk_by (N := nLSizes) (sc := defScope sLSizes) (by decide +kernel))
            (fun _ _ _ _ _ => pg_tup rfl (pgs_cons (pg_name (i := 6) scLSizes.nd rfl (.inl rfl)) (pgs_cons (pg_name (i := 7) scLSizes.nd rfl (.inl rfl)) (pgs_cons (pg_name (i := 8) scLSizes.nd rfl (.inl rfl)) (pgs_cons (pg_name (i := 9) scLSizes.nd rfl (.inl rfl)) pgs_nil))))) (fun _ _ _ _ _ => pts_one (pt_cmpR op_eq (pv 9) pe_str (nomark _))) (fun _ _ _ _ _ => pe_has DZ hr rfl (pa_cons (pv 0) (pa_cons (pv 8) (pa_cons (pv 1) pa_nil)))))
          (pss_one (ps_if (pt_cmpR op_notIn_seq pe_non (pv 5) rfl)
            (pss_one (ps_dput hu (pv 1) (pv 3) (pe_callB (cr_sum rfl) (by rfl) G.sum (by decide +kernel) (pa_cons (pe_lc (own := [("part", 10)]) (g := gName 10) (tt := tYes) (te := tCall spFSize [] E0 (tCons (tVar 10) tNil)) rfl scLSizes.nd (pi_list (pv 5)) (blkOk_by (N := nLSizes) (sc := defScope sLSizes) (by decide +kernel))
              (fun _ _ _ _ _ => pg_name (i := 10) scLSizes.nd rfl (Or.inl rfl)) (fun _ _ _ _ _ => pts_nil) (fun _ _ _ _ _ => pe_has DS hr3 rfl (pa_cons (pv 10) pa_nil))) pa_nil)) rfl)) pss_nil))))))
      (pss_one (ps_ret (pv 1)))), ?_⟩
    have ok6 := ok.len
    obtain ⟨dx, v1, v2, v3, v4, v5, hA, t3, t4⟩ := id hF
    obtain ⟨b, xs, rfl, hb, tq⟩ := TpR.inv t4
    have el : xs.length = recs.length := by rw [tq.length, List.length_map, List.length_map]
    intro d hd
    have S0 : Same H (upd H d (.dK [])) := Same.new hd
    refine ⟨_, rfl, a, C, dx, _, _, rfl, S0 _ _ hA, cl, n4, ff_records, b, _, rfl, .inr (.inl (Rd.same hb S0)), (xs.length : Int), rfl, by omega, by rw [el]; omega, ?_⟩
    rw [el]
    generalize hrs : recs.map rD = rs at *
    refine for_range (lo := 0) (n := recs.length) (fun t σ H3 => ∃ kvs, (∃ a2 a3 a4 a5 a6 a7 a8 a9 a10, σ = [some (.ref a), some (.ref d), a2, a3, a4, a5, a6, a7, a8, a9, a10]) ∧ Same H H3 ∧ H3 d = some (.dK kvs) ∧ kvs.length ≤ 6 * t ∧ DOf kvs (turns cs rs recs t)) ?_ ?_ ?_
    · exact ⟨[], ⟨_, _, _, _, _, _, _, _, _, rfl⟩, S0, upd_same, Nat.le_refl _, fun z => rfl⟩
    · rintro t σ H3 ht ⟨kvs0, ⟨a2, a3, a4, a5, a6, a7, a8, a9, a10, rfl⟩, S3, hd3, l3, D3⟩
      refine ⟨_, rfl, a, C, dx, _, _, rfl, S3 _ _ hA, cl, n4, ff_records, b, rfl, ⟨_, .inl (Rd.same hb S3)⟩, ?_⟩
      have N3 : NN (turns cs rs recs t) := turns_nn t
      have et : turns cs rs recs (t + 1) = turn cs rs recs (turns cs rs recs t) := rfl
      rw [et]
      generalize turns cs rs recs t = D0 at *
      refine for_tup (xs := xs) (fun i σ H4 => ∃ kvs, (∃ a3 a4 a5 a6 a7 a8 a9 a10, σ = [some (.ref a), some (.ref d), some (.int (0 + (t : Int))), a3, a4, a5, a6, a7, a8, a9, a10]) ∧ Same H H4 ∧ H4 d = some (.dK kvs) ∧ kvs.length ≤ 6 * t + i ∧ DOf kvs (turn cs rs (recs.take i) D0)) ?_ ?_ ?_ ?_
      · exact ⟨kvs0, ⟨_, _, _, _, _, _, _, _, rfl⟩, S3, hd3, l3, D3⟩
      · rintro i σ H4 _ ⟨kvs, _, S4, _⟩
        exact .inl (Rd.same hb S4)
      · rintro i x σ H4 hx ⟨kvs, ⟨a3, a4, a5, a6, a7, a8, a9, a10, rfl⟩, S4, hd4, l4, D4⟩
        obtain ⟨r, tp, u, hr', rfl, htp, tu⟩ := recs_at (by rw [hrs]; exact tq) hx
        rw [turn_next hr']
        have N4 : NN (turn cs rs (recs.take i) D0) := turn_nn N3
        generalize turn cs rs (recs.take i) D0 = D1 at *
        have hi : i < 6 := by
          have := (List.getElem?_eq_some_iff.mp hr').1
          omega
        have lf := ok.fl r (List.mem_of_getElem? hr')
        refine ⟨tp, _, rfl, SqT.of (S4 _ _ htp), rfl, _, _, rfl, _, _, rfl, rfl, ?_⟩
        obtain ⟨c, ys, rfl, hc, tys⟩ := Tp.inv tu
        refine ⟨_, rfl, c, rfl, ⟨_, SqT.of (S4 _ _ hc)⟩, fun D hD => ?_⟩
        have ly : ys.length = r.2.length := by rw [tys.length, List.length_map]
        have hDn : H D = none := Same.free S4 hD
        refine lc_tup (xs := ys) (fun j H5 => Same H4 H5 ∧ H5 D = some (.lst (((mustKs (r.2.take j)).map (kSz cs rs D1)).map optV))) ?_ ?_ ?_ ?_
        · exact ⟨Same.new hD, upd_same⟩
        · rintro j H5 _ ⟨S5, _⟩
          exact SqT.of (S5 _ _ (S4 _ _ hc))
        · rintro j y H5 hy ⟨S5, h5⟩
          obtain ⟨f2, t2, u2, hf2, rfl, ht2, tu2⟩ := flds_at (fs := r.2) tys hy
          have S45 : Same H H5 := fun b o e => S5 b o (S4 b o e)
          have hj : j < 5 := by
            have := (List.getElem?_eq_some_iff.mp hf2).1
            omega
          have en : mustKs (r.2.take (j + 1)) = mustKs (r.2.take j) ++ mustKs [f2] := by
            rw [List.take_add_one, hf2, mustKs_add]
            rfl
          refine ⟨t2, _, rfl, SqT.of (S45 _ _ ht2), rfl, _, _, rfl, _, _, rfl, _, _, rfl, _, _, rfl, rfl, rfl, ?_⟩
          refine ⟨_, rfl, rfl, _, rfl, ?_⟩
          rw [need_must]
          cases hmu : f2.must with
          | false =>
            refine iteF ⟨S5, ?_⟩
            rw [en]
            have e0 : mustKs [f2] = [] := by unfold mustKs; rw [List.filter_cons, hmu]; rfl
            rw [e0, List.append_nil]
            exact h5
          | true =>
            refine iteT ?_
            have e0 : mustKs [f2] = [f2.kd] := by unfold mustKs; rw [List.filter_cons, hmu]; rfl
            refine ⟨_, rfl, _, rfl, _, rfl, a, d, u2, f2.kd, cs, rs, kvs, D1, rfl, hF.same S45, lc, (by rw [← hrs, List.length_map]; omega), Tp.keep (Same.tk S45) _ _ tu2, c1, S5 _ _ hd4, D4, fun H6 S6 => ?_⟩
            refine ⟨_, S6 _ _ h5, ?_, Same.wr (fun b o e => S6 b o (S5 b o e)) hD, ?_⟩
            · rw [List.length_map, List.length_map]
              have l1 := mustKs_len (r.2.take j)
              rw [List.length_take] at l1
              exact Nat.lt_of_le_of_lt (Nat.le_trans l1 (Nat.min_le_left _ _)) (Nat.lt_of_lt_of_le hj (by decide))
            · rw [upd_same, en, e0, List.map_append, List.map_append]
              rfl
        · rintro H5 ⟨S5, h5⟩
          rw [ly, List.take_length] at h5
          have S45 : Same H H5 := fun b o e => S5 b o (S4 b o e)
          have es : step cs rs D1 r = putS D1 r.1 (total ((mustKs r.2).map (kSz cs rs D1))) := rfl
          rw [es]
          have lp : ((mustKs r.2).map (kSz cs rs D1)).length ≤ 5 := by rw [List.length_map]; exact Nat.le_trans (mustKs_len _) lf
          have pn : ∀ o ∈ (mustKs r.2).map (kSz cs rs D1), ∀ v, o = some v → 0 ≤ v := fun o ho v e => by
            obtain ⟨k, _, ek⟩ := List.mem_map.mp ho
            exact kSz_nn N4 (ek.trans e)
          generalize (mustKs r.2).map (kSz cs rs D1) = ps at *
          refine ⟨_, rfl, D, _, rfl, .inl (SqL.of h5), rfl, flat_opts ps, _, rfl, ?_⟩
          show if (!inV V.non (ps.map optV)) = true then _ else _
          rw [non_in]
          by_cases hno : none ∈ ps
          · rw [decide_eq_true hno]
            have e1 : total ps = none := if_pos hno
            rw [e1]
            exact iteF ⟨kvs, ⟨_, _, _, _, _, _, _, _, rfl⟩, S45, S5 _ _ hd4, by omega, D4⟩
          · rw [decide_eq_false hno]
            refine iteT ?_
            have e1 : total ps = some ((ps.map fun o => fsz (o.getD 0)).sum) := if_neg hno
            rw [e1]
            obtain ⟨ms, rfl⟩ := all_some hno
            have e2 : (ms.map some).map optV = ms.map V.int := by rw [List.map_map]; rfl
            have e3 : (ms.map some).map (fun o => fsz (o.getD 0)) = ms.map fsz := by rw [List.map_map]; rfl
            rw [e3]
            rw [e2] at h5
            rw [List.length_map] at lp
            refine ⟨_, rfl, D, rfl, ⟨_, SqL.of h5⟩, fun D2 hD2 => ?_⟩
            refine lc_list (xs := ms.map V.int) (fun j H6 => Same H5 H6 ∧ H6 D2 = some (.lst (((ms.take j).map fsz).map V.int))) ?_ ?_ ?_ ?_
            · exact ⟨Same.new hD2, upd_same⟩
            · rintro j H6 _ ⟨S6, _⟩
              exact SqL.of (S6 _ _ h5)
            · rintro j y H6 hy ⟨S6, h6⟩
              rw [List.getElem?_map] at hy
              cases hmj : ms[j]? with
              | none => rw [hmj] at hy; cases hy
              | some mj =>
                rw [hmj] at hy
                cases hy
                have hjl := (List.getElem?_eq_some_iff.mp hmj).1
                have m0 : 0 ≤ mj := pn (some mj) (List.mem_map.mpr ⟨mj, List.mem_of_getElem? hmj, rfl⟩) mj rfl
                refine ⟨rfl, yes (iteT ?_)⟩
                refine ⟨_, rfl, mj, rfl, m0, fun H7 S7 => ?_⟩
                refine ⟨_, S7 _ _ h6, ?_, Same.wr (fun b o e => S7 b o (S6 b o e)) hD2, ?_⟩
                · rw [List.length_map, List.length_map, List.length_take]
                  exact Nat.lt_of_le_of_lt (Nat.min_le_left _ _) (Nat.lt_of_lt_of_le (show j < 5 by omega) (by decide))
                · rw [upd_same, List.take_add_one, hmj, List.map_append, List.map_append]
                  rfl
            · rintro H6 ⟨S6, h6⟩
              rw [List.length_map, List.take_length] at h6
              have S46 : Same H H6 := fun b o e => S6 b o (S45 b o e)
              have hd6 : H6 d = some (.dK kvs) := S6 _ _ (S5 _ _ hd4)
              refine ⟨D2, ms.map fsz, rfl, SqL.of h6, _, rfl, _, rfl, d, _, rfl, DPut.k (k := Sum.inr r.1) hd6 (Nat.lt_of_le_of_lt l4 (Nat.lt_of_lt_of_le (show 6 * t + i < 100 by omega) (by decide))), ?_⟩
              exact ⟨_, ⟨_, _, _, _, _, _, _, _, rfl⟩, Same.wr S46 hd, upd_same, Nat.le_trans (length_putK _ _ _) (by omega), dof_put D4 r.1 _⟩
      · rintro σ H4 ⟨kvs, ⟨a3, a4, a5, a6, a7, a8, a9, a10, rfl⟩, S4, hd4, l4, D4⟩
        rw [el, List.take_length] at D4
        exact ⟨kvs, ⟨_, _, _, _, _, _, _, _, _, rfl⟩, S4, hd4, by omega, D4⟩
    · rintro σ H3 ⟨kvs, ⟨a2, a3, a4, a5, a6, a7, a8, a9, a10, rfl⟩, S3, hd3, l3, D3⟩
      exact ⟨_, rfl, q d kvs H3 S3 hd hd3 D3⟩
end
end Fh

set_option Elab.async false
set_option linter.all false
set_option maxRecDepth 100000
set_option maxHeartbeats 4000000
namespace Fh
open PySem PySem.Spec PyProof.Rows L2
/-! ### sets whose elements are tuples of ints and texts -/
section
variable {P : Program} {w : World} {A : Around} {E : Value → Shared → Prop} {s : Shared}
/-- the tuple at x has these parts -/
abbrev TK (P : Program) (w : World) (h : Heap) (k : List Key) (x : Addr) : Prop := IsTupleKey (mixKind P w) h k x
abbrev kh (P : Program) (w : World) (k : List Key) : Int := tupleKeyHash (mixKind P w) k
theorem parts_shape {k : List Key} {vs : List Value} (h : PySem.ItemsAre (mixKind P w) k vs) : ∀ v ∈ vs, (∃ i t, v = Value.int i t) ∨ ∃ x t, v = Value.str x t := by
  induction h with
  | nil => intro v hv; cases hv
  | cons h1 _ ih =>
    intro v hv
    rcases List.mem_cons.mp hv with e | hv
    · rcases keyIs_shape h1 with ⟨i, t, _, e2⟩ | ⟨x, t, _, e2⟩
      · exact .inl ⟨i, t, e.trans e2⟩
      · exact .inr ⟨x, t, e.trans e2⟩
    · exact ih v hv
theorem noClass {v : Value} (h : (∃ i t, v = Value.int i t) ∨ ∃ x t, v = Value.str x t) (n : Nat) : ofAClassStatement n v = pure false := by
  rcases h with ⟨i, t, rfl⟩ | ⟨x, t, rfl⟩ <;> cases n <;> rfl
theorem byVal {v : Value} (h : (∃ i t, v = Value.int i t) ∨ ∃ x t, v = Value.str x t) (n : Nat) : ∃ b, hashByValue n v = pure b := by
  rcases h with ⟨i, t, rfl⟩ | ⟨x, t, rfl⟩
  · exact ⟨true, by cases n <;> rfl⟩
  · exact ⟨false, by cases n <;> rfl⟩
/-- whether a tuple's hash is by value: some answer -/
theorem byVal_tup {k : List Key} {b : Addr} {Q : Bool → Shared → Prop} (hk : TK P w s.heap k b) (h : ∀ r, Q r s) : wpAny (model P w) A (hashByValue 8 (.ref b)) Q E s := by
  have ty := hk.typeIs
  obtain ⟨o, its, n, ho, _, hd, hi⟩ := hk
  have sh := parts_shape hi
  unfold hashByValue
  refine wpAny_bind (wpAny_specialOf ty F.slot_tuple_hash.lookup ?_)
  refine wpAny_bind (m := seqItems? (.ref b)) (wpAny_seqItems ho hd ?_)
  refine wpAny_bind ?_
  show wpAny _ _ (forIn its _ _) _ _ s
  rw [← Array.forIn_toList]
  refine wpAny_forIn_list _ (fun rest r s' => s' = s ∧ ∀ v ∈ rest, (∃ i t, v = Value.int i t) ∨ ∃ x t, v = Value.str x t) _ ?_ ?_ _ _ ⟨rfl, sh⟩
  · rintro v rest r s' ⟨rfl, all⟩
    obtain ⟨q, hq⟩ := byVal (all v List.mem_cons_self) 7
    rw [hq]
    refine wpAny_bind (wpAny_pure ?_)
    cases q with
    | false =>
      simp only [Bool.not_false, if_true]
      exact wpAny_pure (wpAny_pure (h false))
    | true =>
      simp only [Bool.not_true, Bool.false_eq_true, if_false]
      exact wpAny_pure ⟨rfl, fun u hu => all u (List.mem_cons_of_mem _ hu)⟩
  · rintro ⟨r1, r2⟩ s' ⟨rfl, _⟩
    cases r1 with
    | none => exact wpAny_pure (h _)
    | some q => exact wpAny_pure (h _)
/-- a tuple has no part of a class statement -/
theorem class_tup {k : List Key} {b : Addr} {Q : Bool → Shared → Prop} (hk : TK P w s.heap k b) (h : Q false s) : wpAny (model P w) A (ofAClassStatement 8 (.ref b)) Q E s := by
  have ty := hk.typeIs
  obtain ⟨o, its, n, ho, _, hd, hi⟩ := hk
  have sh := parts_shape hi
  have e : (("tuple" : String) == "tuple") = true := by decide
  unfold ofAClassStatement
  refine wpAny_bind (wpAny_typeOf ty ?_)
  simp only [e, if_true]
  try refine wpAny_bind (wpAny_pure ?_)
  simp only [Bool.not_true, Bool.false_eq_true, if_false]
  refine wpAny_bind (m := seqItems? (.ref b)) (wpAny_seqItems ho hd ?_)
  dsimp only
  refine wpAny_bind ?_
  show wpAny _ _ (forIn its _ _) _ _ s
  rw [← Array.forIn_toList]
  refine wpAny_forIn_list _ (fun rest r s' => r.1 = none ∧ s' = s ∧ ∀ v ∈ rest, (∃ i t, v = Value.int i t) ∨ ∃ x t, v = Value.str x t) _ ?_ ?_ _ _ ⟨rfl, rfl, sh⟩
  · rintro v rest r s' ⟨_, rfl, all⟩
    rw [noClass (all v List.mem_cons_self)]
    refine wpAny_bind (wpAny_pure ?_)
    simp only [Bool.false_eq_true, if_false]
    exact wpAny_pure ⟨rfl, rfl, fun u hu => all u (List.mem_cons_of_mem _ hu)⟩
  · rintro ⟨r1, r2⟩ s' ⟨hr, rfl, _⟩
    cases r1 with
    | none => exact wpAny_pure h
    | some q => cases hr
/-- nobody sees a search among tuples -/
theorem unseen {k : List Key} {b : Addr} {Q : Bool → Shared → Prop} (hk : TK P w s.heap k b) (h : Q false s) : ∀ {ys : List Value}, (∀ y ∈ ys, ∃ k' c, y = Value.ref c ∧ TK P w s.heap k' c) →
    wpAny (model P w) A (searchCouldBeSeen (.ref b) ys) Q E s := by
  intro ys hy
  unfold searchCouldBeSeen
  refine wpAny_bind (wpAny_forIn_list _ (fun rest r s' => r.1 = none ∧ s' = s ∧ ∀ y ∈ rest, ∃ k' c, y = Value.ref c ∧ TK P w s.heap k' c) _ ?_ ?_ _ _ ⟨rfl, rfl, hy⟩)
  · rintro v rest r s' ⟨_, rfl, all⟩
    obtain ⟨k', c, rfl, hc⟩ := all v List.mem_cons_self
    have go : wpAny (model P w) A (pure (ForInStep.yield (none, ()))) (fun r s1 => match r with
        | ForInStep.yield b' => b'.1 = none ∧ s1 = s' ∧ ∀ y ∈ rest, ∃ k' c, y = Value.ref c ∧ TK P w s'.heap k' c
        | ForInStep.done b' => wpAny (model P w) A (match b'.1 with | some r => pure r | none => pure false) Q E s1) E s' := wpAny_pure ⟨rfl, rfl, fun u hu => all u (List.mem_cons_of_mem _ hu)⟩
    dsimp only
    split
    · exact go
    · refine wpAny_bind (wpAny_eqIsQuiet_tuple hk ?_)
      simp only [Bool.not_true, Bool.false_eq_true, if_false]
      refine wpAny_bind (wpAny_eqIsQuiet_tuple hc ?_)
      simp only [Bool.not_true, Bool.false_eq_true, if_false]
      refine wpAny_bind (class_tup hk ?_)
      simp only [Bool.false_eq_true, if_false]
      refine wpAny_bind (class_tup hc ?_)
      simp only [Bool.false_eq_true, if_false]
      exact go
  · rintro ⟨r1, r2⟩ s' ⟨hr, rfl, _⟩
    cases r1 with
    | none => exact wpAny_pure h
    | some q => cases hr
end
end Fh

set_option Elab.async false
set_option linter.all false
set_option maxRecDepth 100000
set_option maxHeartbeats 4000000
namespace Fh
open PySem PySem.Spec PyProof.Rows L2
/-! ### tables of up to 512 slots -/
def MaskW (m : Nat) : Prop := m = 7 ∨ m = 31 ∨ m = 127 ∨ m = 511
theorem maskW_odd {m : Nat} (h : MaskW m) : m % 2 = 1 := by rcases h with rfl | rfl | rfl | rfl <;> rfl
/-- n numbers below n take n places -/
theorem pigeon : ∀ {n : Nat} {ps : List Nat}, (∀ j, j < n → j ∈ ps) → n ≤ ps.length
  | 0, _, _ => Nat.zero_le _
  | n + 1, ps, h => by
    have m := h n (Nat.lt_succ_self n)
    have ih := pigeon (n := n) (ps := ps.erase n) fun j hj => (List.mem_erase_of_ne (by omega)).mpr (h j (by omega))
    have l := List.length_erase_of_mem m
    have := List.length_pos_of_mem m
    omega
theorem pigeon_nd : ∀ {js ps : List Nat}, js.Nodup → (∀ j ∈ js, j ∈ ps) → js.length ≤ ps.length
  | [], _, _, _ => Nat.zero_le _
  | j :: js, ps, nd, h => by
    have m := h j List.mem_cons_self
    obtain ⟨n1, n2⟩ := List.nodup_cons.mp nd
    have ih := pigeon_nd (ps := ps.erase j) n2 fun x hx => (List.mem_erase_of_ne (fun e => n1 (by rw [← e]; exact hx))).mpr (h x (List.mem_cons_of_mem _ hx))
    have l := List.length_erase_of_mem m
    have := List.length_pos_of_mem m
    rw [List.length_cons]
    omega
theorem perm_range : ∀ {n : Nat} {ks : List Nat}, ks.length = n → (∀ j, j < n → j ∈ ks) → ks.Perm (List.range n)
  | 0, ks, l, _ => by
    rw [List.eq_nil_of_length_eq_zero l]
    exact .refl _
  | n + 1, ks, l, h => by
    have m := h n (Nat.lt_succ_self n)
    have ih := perm_range (n := n) (ks := ks.erase n) (by rw [List.length_erase_of_mem m]; omega) fun j hj => (List.mem_erase_of_ne (by omega)).mpr (h j (by omega))
    rw [List.range_succ]
    exact (List.perm_cons_erase m).trans ((ih.cons n).trans (List.perm_append_comm (l₁ := [n])))
/-! ### every slot is met -/
def orb : Nat → Nat → List Nat
  | 0, _ => []
  | n + 1, x => x :: orb n ((x * 5 + 1) % 512)
theorem lcgI_add (m i : Nat) : ∀ a k, lcgI m (lcgI m i a) k = lcgI m i (a + k) := by
  intro a k
  induction k with
  | zero => rfl
  | succ k ih =>
    show (lcgI m (lcgI m i a) k * 5 + 1) % (m + 1) = (lcgI m i (a + k) * 5 + 1) % (m + 1)
    rw [ih]
theorem orb_at : ∀ (n a j : Nat), j ∈ orb n (lcgI 511 0 a) → ∃ c, c < a + n ∧ lcgI 511 0 c = j
  | 0, a, j, h => by cases h
  | n + 1, a, j, h => by
    rcases List.mem_cons.mp h with e | h
    · exact ⟨a, by omega, e.symm⟩
    · obtain ⟨c, h1, h2⟩ := orb_at n (a + 1) j h
      exact ⟨c, by omega, h2⟩
theorem orb_all : (List.range 512).all (fun j => (orb 512 0).contains j) = true := by decide +kernel
theorem lcg512 {j : Nat} (h : j ≤ 511) : ∃ c, c ≤ 511 ∧ lcgI 511 0 c = j := by
  have := List.all_eq_true.mp orb_all j (List.mem_range.mpr (by omega))
  obtain ⟨c, h1, h2⟩ := orb_at 512 0 j (List.contains_iff_mem.mp this)
  exact ⟨c, by omega, h2⟩
theorem lcg_turn : lcgI 511 0 512 = 0 := by decide +kernel
theorem lcg_meets {i j : Nat} (hi : i ≤ 511) (hj : j ≤ 511) : ∃ k, k ≤ 511 ∧ lcgI 511 i k = j := by
  obtain ⟨a, a1, rfl⟩ := lcg512 hi
  obtain ⟨c, c1, rfl⟩ := lcg512 hj
  by_cases h : a ≤ c
  · exact ⟨c - a, by omega, by rw [lcgI_add, show a + (c - a) = c by omega]⟩
  · refine ⟨512 + c - a, by omega, ?_⟩
    rw [lcgI_add, show a + (512 + c - a) = 512 + c by omega, ← lcgI_add, lcg_turn]
theorem run_meetsW {m : Nat} (hm : MaskW m) (h : Int) {j : Nat} (hj : j ≤ m) : ∃ n, n ≤ m + 12 ∧ runI m (SetTable.bits h) n = j := by
  rcases hm with rfl | rfl | rfl | rfl
  · exact run_meets (.inl rfl) h hj
  · exact run_meets (.inr (.inl rfl)) h hj
  · exact run_meets (.inr (.inr rfl)) h hj
  · obtain ⟨k, k1, k2⟩ := lcg_meets (runI_le 511 (SetTable.bits h) 12) hj
    exact ⟨12 + k, by omega, by rw [runI_tail (bits_lt h), k2]⟩
theorem nth_meetsW {m : Nat} (hm : MaskW m) (h : Int) {j : Nat} (hj : j ≤ m) : ∃ k, k < 10 * SetTable.turns m ∧ way m h k = j := by
  obtain ⟨n, n1, n2⟩ := run_meetsW hm h hj
  obtain ⟨k, k1, k2⟩ := run_nth m (SetTable.bits h) n
  refine ⟨k, ?_, ?_⟩
  · unfold SetTable.turns
    omega
  · show (nth m (runAt m (SetTable.bits h % (m + 1)) (SetTable.bits h)) k).j = j
    rw [k2]
    exact n2
theorem way_leW (m : Nat) (h : Int) (k : Nat) : way m h k ≤ m := by
  have a : SetTable.bits h % (m + 1) ≤ m := by
    have := Nat.mod_lt (SetTable.bits h) (show m + 1 > 0 by omega)
    omega
  have := nth_in (m := m) k (runAt m (SetTable.bits h % (m + 1)) (SetTable.bits h)) (by
    show SetTable.bits h % (m + 1) + (SetTable.runEnd m (SetTable.bits h % (m + 1)) - SetTable.bits h % (m + 1)) ≤ m
    unfold SetTable.runEnd
    split <;> omega)
  show (nth m (runAt m (SetTable.bits h % (m + 1)) (SetTable.bits h)) k).j ≤ m
  omega
/-- the least of what there is -/
theorem least {p : Nat → Prop} [DecidablePred p] : ∀ {n : Nat}, p n → ∃ k, k ≤ n ∧ p k ∧ ∀ i, i < k → ¬ p i := fun {n} => by
  induction n using Nat.strongRecOn with
  | _ n ih =>
    intro hn
    by_cases h : ∃ i, i < n ∧ p i
    · obtain ⟨i, h1, h2⟩ := h
      obtain ⟨k, k1, k2, k3⟩ := ih i h1 h2
      exact ⟨k, by omega, k2, k3⟩
    · exact ⟨n, Nat.le_refl _, hn, fun i hi q => h ⟨i, hi, q⟩⟩
/-! ### laying anew -/
theorem free_findW {m : Nat} (hm : MaskW m) (owner : Array (Option Nat)) (h : Int) {j : Nat} (hj : j ≤ m) (ho : oAt owner j = none) :
    ∃ K, SetTable.layClean.free m owner (SetTable.turns m) (SetTable.bits h % (m + 1)) (SetTable.bits h) = some (way m h K) ∧ oAt owner (way m h K) = none ∧ ∀ k, k < K → oAt owner (way m h k) ≠ none := by
  obtain ⟨n, n1, n2⟩ := run_meetsW hm h hj
  have at_ : way m h (off m (SetTable.bits h % (m + 1)) (SetTable.bits h) n) = j := by
    show (nth m (runAt m (SetTable.bits h % (m + 1)) (SetTable.bits h)) _).j = j
    rw [nth_off, itL_run]
    exact n2
  obtain ⟨K, K1, K2, K3⟩ := least (p := fun k => (oAt owner (way m h k)).isNone = true) (n := off m (SetTable.bits h % (m + 1)) (SetTable.bits h) n) (by rw [at_, ho]; rfl)
  refine ⟨K, free_spec m owner (SetTable.turns m) n _ _ K (by unfold SetTable.turns; omega) K1 (fun k hk => ?_) K2, Option.isNone_iff_eq_none.mp K2, fun k hk e => K3 k hk (by rw [e]; rfl)⟩
  have := K3 k hk
  exact Bool.not_eq_true _ ▸ this
theorem ownW {m : Nat} (hm : MaskW m) {done : List Int} {owner : Array (Option Nat)} (O : Own m done owner) (hl : done.length ≤ m) (h : Int) :
    ∃ j, SetTable.layClean.free m owner (SetTable.turns m) (SetTable.bits h % (m + 1)) (SetTable.bits h) = some j ∧ Own m (done ++ [h]) (owner.setIfInBounds j (some done.length)) := by
  obtain ⟨ps, p1, p2⟩ := O.ps
  obtain ⟨j0, j1, j2⟩ : ∃ j, j ≤ m ∧ oAt owner j = none := Classical.byContradiction fun no => by
    have : m + 1 ≤ ps.length := pigeon fun j hj => p2 j (by omega) fun e => no ⟨j, by omega, e⟩
    omega
  obtain ⟨K, f, e, b⟩ := free_findW hm owner h j1 j2
  have wl := way_leW m h K
  have lt : way m h K < owner.size := by rw [O.sz]; omega
  refine ⟨_, f, ⟨by rw [Array.size_setIfInBounds]; exact O.sz, fun j k hj ho => ?_, fun k hk => ?_, ⟨ps ++ [way m h K], by rw [List.length_append, List.length_append, p1]; rfl, fun j hj ho => ?_⟩⟩⟩
  · by_cases c : j = way m h K
    · rw [c, oAt_set_self _ lt] at ho
      have ek := Option.some.inj ho
      refine ⟨h, K, ?_, c.symm, fun k' hk' => ?_⟩
      · rw [← ek, List.getElem?_append_right (Nat.le_refl _), Nat.sub_self]
        rfl
      · by_cases c2 : way m h k' = way m h K
        · exact absurd (show oAt owner (way m h k') = none by rw [c2]; exact e) (b k' hk')
        · rw [oAt_set_ne _ c2]
          exact b k' hk'
    · rw [oAt_set_ne _ c] at ho
      obtain ⟨h', K', a1, a2, a3⟩ := O.at_ j k hj ho
      refine ⟨h', K', ?_, a2, fun k' hk' => ?_⟩
      · rw [List.getElem?_append_left (List.getElem?_eq_some_iff.mp a1).1]
        exact a1
      · by_cases c2 : way m h' k' = way m h K
        · rw [c2, oAt_set_self _ lt]
          exact Option.some_ne_none _
        · rw [oAt_set_ne _ c2]
          exact a3 k' hk'
  · rw [List.length_append] at hk
    have hk : k < done.length + 1 := hk
    by_cases c : k = done.length
    · exact ⟨_, wl, by rw [oAt_set_self _ lt, c]⟩
    · obtain ⟨j, h1, h2⟩ := O.all k (by omega)
      refine ⟨j, h1, ?_⟩
      rw [oAt_set_ne _ fun c2 => by rw [c2, e] at h2; cases h2]
      exact h2
  · by_cases c : j = way m h K
    · exact List.mem_append_right _ (List.mem_singleton.mpr c)
    · rw [oAt_set_ne _ c] at ho
      exact List.mem_append_left _ (p2 j hj ho)
theorem foldW {m : Nat} (hm : MaskW m) : ∀ (rest done : List Int) (owner : Array (Option Nat)), Own m done owner → done.length + rest.length ≤ m → ∃ owner', List.foldl (stepF m) (some (owner, done.length)) rest = some (owner', (done ++ rest).length) ∧ Own m (done ++ rest) owner'
  | [], done, owner, O, _ => ⟨owner, by rw [List.append_nil]; rfl, by rw [List.append_nil]; exact O⟩
  | h :: rest, done, owner, O, l => by
    rw [List.length_cons] at l
    obtain ⟨j, f, O'⟩ := ownW hm O (by omega) h
    rw [List.foldl_cons, stepF_some f]
    have ih := foldW hm rest (done ++ [h]) _ O' (by rw [List.length_append]; show done.length + 1 + rest.length ≤ m; omega)
    rw [List.length_append, List.append_assoc] at ih
    exact ih
theorem layW {m : Nat} (hm : MaskW m) {hs : Array Int} (l : hs.size ≤ m) : ∃ owner, SetTable.layClean m hs = some owner ∧ Own m hs.toList owner := by
  obtain ⟨owner, h1, h2⟩ := foldW hm hs.toList [] _ (Own.init m) (by show 0 + hs.toList.length ≤ m; rw [Array.length_toList]; omega)
  refine ⟨owner, ?_, h2⟩
  rw [layClean_eq]
  have h1 : List.foldl (stepF m) (some (Array.replicate (m + 1) none, 0)) hs.toList = some (owner, hs.toList.length) := h1
  rw [h1]
  rfl
/-! ### a table and the hashes that lie in it -/
structure TabW (t : SetTable) (hs : List Int) : Prop where
  ris : Ris t.place.toList
  dm : t.dummies = #[]
  sz : t.place.size = hs.length
  mok : MaskW t.mask
  bd : ∀ x, x ∈ t.place.toList → x ≤ t.mask
  reach : ∀ (i : Nat) (h : Int) (j : Nat), hs[i]? = some h → t.place.toList[i]? = some j → ∃ k, way t.mask h k = j ∧ ∀ k', k' < k → way t.mask h k' ∈ t.place.toList
section
variable {t : SetTable} {hs : List Int}
theorem TabW.first (T : TabW t hs) (l : hs.length ≤ t.mask) (h : Int) : ∃ K, K < 10 * SetTable.turns t.mask ∧ ¬ way t.mask h K ∈ t.place.toList ∧ ∀ k, k < K → way t.mask h k ∈ t.place.toList := by
  obtain ⟨j, j1, j2⟩ : ∃ j, j ≤ t.mask ∧ j ∉ t.place.toList := Classical.byContradiction fun no => by
    have : t.mask + 1 ≤ t.place.toList.length := pigeon fun j hj => Classical.byContradiction fun q => no ⟨j, by omega, q⟩
    rw [Array.length_toList, T.sz] at this
    omega
  obtain ⟨n, n1, n2⟩ := nth_meetsW T.mok h j1
  obtain ⟨K, K1, K2, K3⟩ := least (p := fun k => way t.mask h k ∉ t.place.toList) (n := n) (by rw [n2]; exact j2)
  exact ⟨K, by omega, K2, fun k hk => Classical.byContradiction fun q => K3 k hk q⟩
theorem TabW.before (T : TabW t hs) {h : Int} {K i j : Nat} (hK : ¬ way t.mask h K ∈ t.place.toList) (hi : hs[i]? = some h) (hj : t.place.toList[i]? = some j) : ∃ k, k < K ∧ way t.mask h k = j := by
  obtain ⟨k, e, b⟩ := T.reach i h j hi hj
  refine ⟨k, Nat.lt_of_not_le fun le => ?_, e⟩
  rcases Nat.lt_or_eq_of_le le with lt | eq
  · exact hK (b K lt)
  · rw [eq, e] at hK
    exact hK (List.mem_of_getElem? hj)
theorem ins_mem {α : Type} (l : List α) (p : Nat) (x y : α) : y ∈ l.take p ++ x :: l.drop p ↔ y = x ∨ y ∈ l := by
  constructor
  · intro h
    rcases List.mem_append.mp h with h | h
    · exact .inr (List.mem_of_mem_take h)
    · rcases List.mem_cons.mp h with h | h
      · exact .inl h
      · exact .inr (List.mem_of_mem_drop h)
  · rintro (rfl | h)
    · exact List.mem_append_right _ List.mem_cons_self
    · rw [← List.take_append_drop p l] at h
      rcases List.mem_append.mp h with h | h
      · exact List.mem_append_left _ h
      · exact List.mem_append_right _ (List.mem_cons_of_mem _ h)
/-- what stands at a place after one is put in: the new one, or the two lists tell of the same -/
theorem ins_at {α β : Type} {l : List α} {r : List β} (e : l.length = r.length) {p : Nat} (hp : p ≤ l.length) {x a : α} {y b : β} {i : Nat} (h1 : (l.take p ++ x :: l.drop p)[i]? = some a) (h2 : (r.take p ++ y :: r.drop p)[i]? = some b) :
    (a = x ∧ b = y) ∨ ∃ j : Nat, l[j]? = some a ∧ r[j]? = some b := by
  have l1 : (l.take p).length = p := by rw [List.length_take]; omega
  have l2 : (r.take p).length = p := by rw [List.length_take]; omega
  rcases Nat.lt_trichotomy i p with c | c | c
  · rw [List.getElem?_append_left (by omega), List.getElem?_take, if_pos c] at h1 h2
    exact .inr ⟨i, h1, h2⟩
  · rw [List.getElem?_append_right (by omega), l1, c, Nat.sub_self] at h1
    rw [List.getElem?_append_right (by omega), l2, c, Nat.sub_self] at h2
    exact .inl ⟨(Option.some.inj h1).symm, (Option.some.inj h2).symm⟩
  · obtain ⟨d, rfl⟩ : ∃ d, i = p + 1 + d := ⟨i - (p + 1), by omega⟩
    rw [List.getElem?_append_right (by omega), l1, show p + 1 + d - p = d + 1 by omega, List.getElem?_cons_succ, List.getElem?_drop] at h1
    rw [List.getElem?_append_right (by omega), l2, show p + 1 + d - p = d + 1 by omega, List.getElem?_cons_succ, List.getElem?_drop] at h2
    exact .inr ⟨p + d, h1, h2⟩
theorem TabW.put (T : TabW t hs) {h : Int} {K : Nat} (hK : ¬ way t.mask h K ∈ t.place.toList) (hb : ∀ k, k < K → way t.mask h k ∈ t.place.toList) :
    (t.put (way t.mask h K)).2 = SetTable.below t.place (way t.mask h K) ∧ SetTable.below t.place (way t.mask h K) ≤ hs.length ∧
      TabW (t.put (way t.mask h K)).1 (hs.take (SetTable.below t.place (way t.mask h K)) ++ h :: hs.drop (SetTable.below t.place (way t.mask h K))) ∧
      (t.put (way t.mask h K)).1.mask = t.mask ∧ (t.put (way t.mask h K)).1.led = t.led ∧ (t.put (way t.mask h K)).1.plain = t.plain ∧ (t.put (way t.mask h K)).1.moves = t.moves ∧ (t.put (way t.mask h K)).1.finger = t.finger ∧ (t.put (way t.mask h K)).1.fill = hs.length + 1 := by
  have cut := below_cut T.ris (way t.mask h K)
  have le := cut.1
  have pl : (SetTable.insertAt t.place (SetTable.below t.place (way t.mask h K)) (way t.mask h K)).toList = t.place.toList.take (SetTable.below t.place (way t.mask h K)) ++ way t.mask h K :: t.place.toList.drop (SetTable.below t.place (way t.mask h K)) := SetTable.toList_insertAt _ _ _
  have no : t.place[SetTable.below t.place (way t.mask h K)]? ≠ some (way t.mask h K) := fun e => hK (by
    rw [← Array.getElem?_toList] at e
    exact List.mem_of_getElem? e)
  have ri := ris_insert T.ris no
  have wl := way_leW t.mask h K
  have dm : (if SetTable.has t.dummies (way t.mask h K) = true then SetTable.eraseAt t.dummies (SetTable.below t.dummies (way t.mask h K)) else t.dummies) = #[] := by
    rw [T.dm]
    rfl
  unfold SetTable.put
  dsimp only
  rw [dm]
  have reach0 := T.reach
  have wK : ∀ k', k' < K → way t.mask h k' ∈ t.place.toList := hb
  have reachK : ∃ k, way t.mask h k = way t.mask h K ∧ ∀ k', k' < k → way t.mask h k' ∈ t.place.toList := ⟨K, rfl, hb⟩
  generalize way t.mask h K = j at *
  generalize SetTable.below t.place j = p at *
  have sz : (SetTable.insertAt t.place p j).size = hs.length + 1 := by
    have := congrArg List.length pl
    rw [Array.length_toList, List.length_append, List.length_cons, List.length_take, List.length_drop, Array.length_toList, T.sz] at this
    rw [T.sz] at le
    omega
  have sub : ∀ x, x ∈ t.place.toList → x ∈ (SetTable.insertAt t.place p j).toList := fun x hx => by
    rw [pl, ins_mem]
    exact .inr hx
  refine ⟨rfl, by rw [← T.sz]; exact le, ⟨ri, rfl, ?_, T.mok, fun x hx => ?_, fun i h2 j2 hi hj => ?_⟩, rfl, rfl, rfl, rfl, rfl, ?_⟩
  · show (SetTable.insertAt t.place p j).size = _
    rw [sz, List.length_append, List.length_cons, List.length_take, List.length_drop]
    rw [T.sz] at le
    omega
  · have hx : x ∈ (SetTable.insertAt t.place p j).toList := hx
    rw [pl, ins_mem] at hx
    rcases hx with rfl | hx
    · exact wl
    · exact T.bd x hx
  · have hj : (SetTable.insertAt t.place p j).toList[i]? = some j2 := hj
    rw [pl] at hj
    rcases ins_at (show hs.length = t.place.toList.length from T.sz.symm.trans Array.length_toList.symm) (by rw [← T.sz]; exact le) hi hj with ⟨rfl, rfl⟩ | ⟨q, q1, q2⟩
    · obtain ⟨k, e1, e2⟩ := reachK
      exact ⟨k, e1, fun k' hk' => sub _ (e2 k' hk')⟩
    · obtain ⟨k, e1, e2⟩ := reach0 q h2 j2 q1 q2
      exact ⟨k, e1, fun k' hk' => sub _ (e2 k' hk')⟩
  · show (SetTable.insertAt t.place p j).size + 0 = _
    rw [sz]
theorem relaidW (t : SetTable) {hs : Array Int} {wanted M : Nat} (hM : SetTable.sizeAbove wanted - 1 = M) (mk : MaskW M) (l : hs.size ≤ M) :
    ∃ t' order, t.relaid hs wanted = some (t', order) ∧ order.toList.Perm (List.range hs.size) ∧ TabW t' (order.toList.map fun i => hs.getD i 0) ∧ t'.mask = M ∧ t'.led = t.led ∧ t'.plain = t.plain ∧ t'.dummies = #[] := by
  obtain ⟨owner, e, O⟩ := layW mk l
  have ol := O.sz
  have ri := ris_live (fun j => owner.getD j none) (List.range (M + 1)) (List.pairwise_lt_range)
  have len : (liveOf M owner).length = hs.size := by
    refine Nat.le_antisymm ?_ ?_
    · obtain ⟨ps, p1, p2⟩ := O.ps
      have := pigeon_nd (js := (liveOf M owner).map (·.1)) (ps := ps) (show ((liveOf M owner).map (·.1)).Nodup from List.Pairwise.imp (fun h => Nat.ne_of_lt h) ri.1) fun j hj => by
        obtain ⟨⟨a, b⟩, hab, rfl⟩ := List.mem_map.mp hj
        obtain ⟨m1, m2⟩ := (mem_live ol).mp hab
        exact p2 a m1 (by rw [m2]; exact Option.some_ne_none _)
      rw [List.length_map, p1, Array.length_toList] at this
      exact this
    · have := pigeon (n := hs.size) (ps := (liveOf M owner).map (·.2)) fun k hk => by
        obtain ⟨j, h1, h2⟩ := O.all k (by rw [Array.length_toList]; exact hk)
        exact List.mem_map.mpr ⟨(j, k), (mem_live ol).mpr ⟨h1, h2⟩, rfl⟩
      rw [List.length_map] at this
      exact this
  refine ⟨tabOf t M owner, ((liveOf M owner).map (·.2)).toArray, ?_, ?_, ⟨ri.1, rfl, ?_, mk, fun x hx => ?_, fun i h j hi hj => ?_⟩, rfl, rfl, rfl, rfl⟩
  · rw [relaid_eq, hM, e]
    rfl
  · refine perm_range (by show ((liveOf M owner).map (·.2)).length = _; rw [List.length_map, len]) fun k hk => ?_
    obtain ⟨j, h1, h2⟩ := O.all k (by rw [Array.length_toList]; exact hk)
    exact List.mem_map.mpr ⟨(j, k), (mem_live ol).mpr ⟨h1, h2⟩, rfl⟩
  · show ((liveOf M owner).map (·.1)).toArray.size = _
    rw [List.size_toArray, List.length_map, List.length_map, List.length_map]
  · have := List.mem_range.mp (ri.2 x hx)
    show x ≤ M
    omega
  · have hj : ((liveOf M owner).map (·.1))[i]? = some j := hj
    have hi : (((liveOf M owner).map (·.2)).map fun i => hs.getD i 0)[i]? = some h := hi
    rw [List.getElem?_map] at hj
    rw [List.map_map, List.getElem?_map] at hi
    cases q : (liveOf M owner)[i]? with
    | none => rw [q] at hj; cases hj
    | some p =>
      rw [q] at hi hj
      obtain ⟨a, b⟩ := p
      cases hj
      have hi : hs.getD b 0 = h := Option.some.inj hi
      obtain ⟨m1, m2⟩ := (mem_live ol).mp (List.mem_of_getElem? q)
      obtain ⟨h', K, a1, a2, a3⟩ := O.at_ a b m1 m2
      have eh : h' = h := by
        rw [← hi, Array.getD_eq_getD_getElem?, ← Array.getElem?_toList, a1]
        rfl
      subst eh
      refine ⟨K, a2, fun k' hk' => ?_⟩
      have ne := a3 k' hk'
      cases o : oAt owner (way M h' k') with
      | none => exact absurd o ne
      | some z => exact List.mem_map.mpr ⟨(way M h' k', z), (mem_live ol).mpr ⟨way_leW M h' k', o⟩, rfl⟩
end
end Fh

set_option Elab.async false
set_option linter.all false
set_option maxRecDepth 100000
set_option maxHeartbeats 4000000
namespace Fh
open PySem PySem.Spec PyProof.Rows L2
/-! ### the steps of a search, counted from its beginning -/
abbrev stp (m : Nat) (h : Int) (c : Nat) : SetTable.Probe := nth m (runAt m (SetTable.bits h % (m + 1)) (SetTable.bits h)) c
theorem stp_more (m : Nat) (h : Int) (c q : Nat) : nth m (stp m h c) q = stp m h (c + q) := (nth_add m c _ q).symm
theorem stp_clean (m : Nat) (h : Int) : ∀ c, (stp m h c).dummy = none
  | 0 => rfl
  | c + 1 => by
    have e : stp m h (c + 1) = adv m (stp m h c) := nth_succ m _ c
    rw [e]
    unfold adv
    split <;> exact stp_clean m h c
def hashAt (es : Array (Int × Value)) (i : Nat) : Int := (es[i]?.map (·.1)).getD 0
/-- what the probe meets from a step on: the first entry with this hash, or the empty slot -/
theorem meets {t : SetTable} {hs : List Int} {es : Array (Int × Value)} {h : Int} {c K : Nat} (T : TabW t hs) (he : es.toList.map (·.1) = hs) (hc : c ≤ K) (hf : K < 10 * SetTable.turns t.mask)
    (hK : way t.mask h K ∉ t.place.toList) (hb : ∀ k, k < K → way t.mask h k ∈ t.place.toList) :
    (∃ (c' i : Nat), c ≤ c' ∧ c' < K ∧ t.place.toList[i]? = some (way t.mask h c') ∧ (∀ (d j : Nat), c ≤ d → d < c' → t.place.toList[j]? = some (way t.mask h d) → hs[j]? ≠ some h) ∧
      t.probe (hashAt es) h (stp t.mask h c) = some (.candidate (way t.mask h c') i (stp t.mask h (c' + 1)))) ∨
    ((∀ (d j : Nat), c ≤ d → d < K → t.place.toList[j]? = some (way t.mask h d) → hs[j]? ≠ some h) ∧ t.probe (hashAt es) h (stp t.mask h c) = some (.empty (way t.mask h K) none)) := by
  have at_ : ∀ q, (nth t.mask (stp t.mask h c) q).j = way t.mask h (c + q) := fun q => congrArg SetTable.Probe.j (stp_more ..)
  have eK : c + (K - c) = K := by omega
  have val : ∀ j, hs[j]? = some h → hashAt es j = h := fun j hj => by
    rw [← he, List.getElem?_map] at hj
    unfold hashAt
    rw [← Array.getElem?_toList, hj]
    rfl
  rcases go_spec t T.ris T.dm (hashAt es) h (10 * SetTable.turns t.mask) (K - c) (stp t.mask h c) (stp_clean ..) (by omega) (fun q hq => by rw [at_]; exact hb _ (by omega)) (by rw [at_, eK]; exact hK) with ⟨q, i, h1, h2, _, h4, h5⟩ | ⟨h4, h5⟩
  · refine .inl ⟨c + q, i, by omega, by omega, by rw [← at_]; exact h2, fun d j h6 h7 h8 h9 => h4 (d - c) j (by omega) (by rw [at_, show c + (d - c) = d by omega]; exact h8) (val j h9), ?_⟩
    rw [← at_, show c + q + 1 = c + (q + 1) by omega, ← stp_more]
    exact h5
  · refine .inr ⟨fun d j h6 h7 h8 h9 => h4 (d - c) j (by omega) (by rw [at_, show c + (d - c) = d by omega]; exact h8) (val j h9), ?_⟩
    rw [at_, eK] at h5
    exact h5
section
variable {P : Program} {w : World} {A : Around} {E : Value → Shared → Prop} {s : Shared}
abbrev Row := Addr × List Key
def row (P : Program) (w : World) (p : Row) : Int × Value := (kh P w p.2, .ref p.1)
/-- a set's entries and table hold these tuples -/
structure Fit (P : Program) (w : World) (L : List Row) (es : Array (Int × Value)) (t : SetTable) : Prop where
  rows : es.toList = L.map (row P w)
  tab : TabW t (L.map fun p => kh P w p.2)
  led : w.params.followText "set-order" = true ∨ t.led = true
  room : L.length ≤ t.mask
variable {L : List Row} {es : Array (Int × Value)} {ep : Nat} {t : SetTable} {a x : Addr} {k : List Key}
theorem Fit.size (F : Fit P w L es t) : es.size = L.length := by
  have q := congrArg List.length F.rows
  rwa [Array.length_toList, List.length_map] at q
theorem Fit.places (F : Fit P w L es t) : t.place.size = L.length := by
  have q := F.tab.sz
  rwa [List.length_map] at q
theorem Fit.fits (F : Fit P w L es t) : t.fits es.size = true := by
  have h1 := F.size
  have h2 := F.places
  have h3 := F.room
  simp only [SetTable.fits, SetTable.fill, F.tab.dm, Bool.and_eq_true, beq_iff_eq, decide_eq_true_eq]
  exact ⟨by omega, by simp; omega⟩
theorem Fit.entry (F : Fit P w L es t) {i : Nat} {p : Row} (h : L[i]? = some p) : es[i]? = some (row P w p) := by
  rw [← Array.getElem?_toList, F.rows, List.getElem?_map, h]
  rfl
theorem Fit.hashes (F : Fit P w L es t) : es.toList.map (·.1) = L.map fun p => kh P w p.2 := by
  rw [F.rows, List.map_map]
  rfl
theorem Fit.kept (F : Fit P w L es t) : ¬ t.gaveWay = true := by
  simp [SetTable.gaveWay, maskW_odd F.tab.mok]
/-- the search for a tuple, from a step on behind which every equal one lies -/
theorem seek {o : Obj} (ho : s.heap.get? a = some o) (hd : o.data = .set es ep t) (F : Fit P w L es t) (tup : ∀ p ∈ L, TK P w s.heap p.2 p.1) (hx : TK P w s.heap k x) (hu : A.units < cLine) {K : Nat} (hf : K < 10 * SetTable.turns t.mask)
    (hK : way t.mask (kh P w k) K ∉ t.place.toList) (hb : ∀ c, c < K → way t.mask (kh P w k) c ∈ t.place.toList) {Q : SetFound → Shared → Prop}
    (hin : k ∈ L.map (·.2) → Q (.there none) s) (hout : k ∉ L.map (·.2) → Q (.free (way t.mask (kh P w k) K) false) s) :
    ∀ (d fuel c : Nat) (stand : Option SetTable.Probe), c + d = K → d < fuel → stand.getD (t.probeStart (kh P w k)) = stp t.mask (kh P w k) c →
      (∀ (i : Nat) p, L[i]? = some p → p.2 = k → ∃ c', c ≤ c' ∧ c' < K ∧ t.place.toList[i]? = some (way t.mask (kh P w k) c')) →
      wpAny (model P w) A (setSearchFrom a (.ref x) (kh P w k) true fuel stand) Q E s := by
  intro d
  induction d using Nat.strongRecOn with
  | _ d ih =>
    intro fuel c stand hc hfu hst later
    obtain ⟨fuel, rfl⟩ : ∃ f, fuel = f + 1 := ⟨fuel - 1, by omega⟩
    rw [setSearchFrom_succ]
    refine wpAny_bind (wpAny_setState_of ho hd F.fits ?_)
    refine wp_if_neg F.kept ?_
    try refine wpAny_bind (wpAny_pure ?_)
    rw [hst]
    have never : ∀ {lim : Nat}, (∀ (e j : Nat), c ≤ e → e < lim → t.place.toList[j]? = some (way t.mask (kh P w k) e) → (L.map fun p => kh P w p.2)[j]? ≠ some (kh P w k)) → ∀ (i : Nat) p, L[i]? = some p → p.2 = k → ∃ c', lim ≤ c' ∧ c' < K ∧ t.place.toList[i]? = some (way t.mask (kh P w k) c') := fun no i p hp hk => by
      obtain ⟨c', h1, h2, h3⟩ := later i p hp hk
      refine ⟨c', ?_, h2, h3⟩
      refine Nat.le_of_not_lt fun lt => no c' i h1 lt h3 ?_
      rw [List.getElem?_map, hp, ← hk]
      rfl
    rcases meets F.tab F.hashes (show c ≤ K by omega) hf hK hb with ⟨c', i, m1, m2, m3, m4, m5⟩ | ⟨m4, m5⟩
    · have m5' : t.probe (fun i => (es[i]?.map (·.1)).getD 0) (kh P w k) (stp t.mask (kh P w k) c) = _ := m5
      rw [m5']
      dsimp only
      have il : i < L.length := by
        have q := (List.getElem?_eq_some_iff.mp m3).1
        rw [Array.length_toList, F.places] at q
        exact q
      obtain ⟨p, hp⟩ : ∃ p, L[i]? = some p := ⟨_, List.getElem?_eq_getElem il⟩
      have pm : p ∈ L := List.mem_of_getElem? hp
      have cmp : wpAny (model P w) A (searchRest a (.ref x) (kh P w k) true fuel es t (way t.mask (kh P w k) c') i (stp t.mask (kh P w k) (c' + 1))) Q E s := by
        unfold searchRest
        rw [F.entry hp]
        refine wpAny_bind (wpAny_holding (wpAny_eqBool_tuple hu (tup p pm) hx ?_))
        refine wpAny_bind (wpAny_setState_of ho hd F.fits ?_)
        by_cases e : p.2 = k
        · refine wp_if_pos (by simp [e]) (wpAny_pure (hin ?_))
          exact List.mem_map.mpr ⟨p, pm, e⟩
        · refine wp_if_neg (by simp [e]) ?_
          try refine wpAny_bind (wpAny_pure ?_)
          rw [sameMem]
          have live : t.slot (way t.mask (kh P w k) c') = .live i := slot_live F.tab.ris m3
          simp only [if_true, live, F.entry hp]
          refine wpAny_bind (wpAny_isSame_ref_self (wpAny_bind (wpAny_pure ?_)))
          simp only [if_true]
          refine wp_if_neg (by simp [e]) ?_
          refine ih (K - (c' + 1)) (by omega) fuel (c' + 1) _ (by omega) (by omega) rfl fun j q hq hk => ?_
          obtain ⟨c2, h1, h2, h3⟩ := never m4 j q hq hk
          refine ⟨c2, Nat.lt_of_le_of_ne h1 fun e2 => ?_, h2, h3⟩
          rw [← e2] at h3
          have live2 := slot_live F.tab.ris h3
          rw [live] at live2
          injection live2 with e3
          rw [← e3, hp] at hq
          exact e (by rw [Option.some.inj hq]; exact hk)
      by_cases l : t.led = true
      · refine wp_if_neg (by simp [l]) ?_
        try refine wpAny_bind (wpAny_pure ?_)
        exact cmp
      · refine wp_if_pos (by simp [l]) (wpAny_bind (unseen hx ?_ fun y hy => ?_))
        · refine wp_if_neg (by decide) ?_
          try refine wpAny_bind (wpAny_pure ?_)
          exact cmp
        · obtain ⟨e, he, rfl⟩ := List.mem_map.mp hy
          have he2 : e ∈ es.toList := by
            have z : e ∈ es ∧ e.1 = kh P w k := by simpa using he
            exact Array.mem_toList_iff.mpr z.1
          rw [F.rows] at he2
          obtain ⟨q, hq, rfl⟩ := List.mem_map.mp he2
          exact ⟨q.2, q.1, rfl, tup q hq⟩
    · have m5' : t.probe (fun i => (es[i]?.map (·.1)).getD 0) (kh P w k) (stp t.mask (kh P w k) c) = _ := m5
      rw [m5']
      refine wpAny_pure (hout fun hm => ?_)
      obtain ⟨p, pm, hk⟩ := List.mem_map.mp hm
      obtain ⟨i, hi, e⟩ := List.getElem_of_mem pm
      obtain ⟨c', h1, h2, _⟩ := never m4 i p (by rw [List.getElem?_eq_getElem hi, e]) hk
      omega
/-- the search for a tuple -/
theorem seek_all {o : Obj} (ho : s.heap.get? a = some o) (hd : o.data = .set es ep t) (F : Fit P w L es t) (tup : ∀ p ∈ L, TK P w s.heap p.2 p.1) (hx : TK P w s.heap k x) (hu : A.units < cLine) {Q : SetFound → Shared → Prop}
    (hin : k ∈ L.map (·.2) → Q (.there none) s) (hout : ∀ K, k ∉ L.map (·.2) → way t.mask (kh P w k) K ∉ t.place.toList → (∀ c, c < K → way t.mask (kh P w k) c ∈ t.place.toList) → Q (.free (way t.mask (kh P w k) K) false) s) :
    wpAny (model P w) A (setSearch a (.ref x) (kh P w k) true) Q E s := by
  obtain ⟨K, hf, hK, hb⟩ := F.tab.first (by rw [List.length_map]; exact F.room) (kh P w k)
  have small : 10 * SetTable.turns t.mask ≤ 100000 := by
    unfold SetTable.turns
    rcases F.tab.mok with e | e | e | e <;> omega
  unfold setSearch
  refine seek ho hd F tup hx hu hf hK hb hin (fun n => hout K n hK hb) K 100000 0 none (by omega) (by omega) rfl fun i p hp hk => ?_
  have hi : (L.map fun p => kh P w p.2)[i]? = some (kh P w k) := by
    rw [List.getElem?_map, hp, ← hk]
    rfl
  obtain ⟨j, hj⟩ : ∃ j, t.place.toList[i]? = some j := by
    have il := (List.getElem?_eq_some_iff.mp hp).1
    exact ⟨_, List.getElem?_eq_getElem (by rw [Array.length_toList, F.places]; exact il)⟩
  obtain ⟨c, hc, e⟩ := F.tab.before hK hi hj
  exact ⟨c, Nat.zero_le _, hc, by rw [hj, e]⟩
end
end Fh

set_option Elab.async false
set_option linter.all false
set_option maxRecDepth 100000
set_option maxHeartbeats 4000000
namespace Fh
open PySem PySem.Spec PyProof.Rows L2
/-! ### picking entries by an order -/
theorem pick_all {α : Type} : ∀ L : List α, (List.range L.length).filterMap (fun i => L[i]?) = L
  | [] => rfl
  | x :: L => by
    rw [List.length_cons, List.range_succ_eq_map, List.filterMap_cons_some (by rfl), List.filterMap_map]
    exact congrArg (x :: ·) (pick_all L)
theorem pick_val {α : Type} {L : List α} {g : α → Int} {hs : Array Int} (e : hs.toList = L.map g) : ∀ ord : List Nat, (∀ i ∈ ord, i < L.length) → (ord.filterMap fun i => L[i]?).map g = ord.map fun i => hs.getD i 0
  | [], _ => rfl
  | i :: ord, h => by
    have hi := h i List.mem_cons_self
    have q : hs.getD i 0 = g L[i] := by
      have z : hs[i]? = some (g L[i]) := by
        rw [← Array.getElem?_toList, e, List.getElem?_map, List.getElem?_eq_getElem hi]
        rfl
      rw [Array.getD_eq_getD_getElem?, z]
      rfl
    rw [List.filterMap_cons_some (List.getElem?_eq_getElem hi), List.map_cons, List.map_cons, q, pick_val e ord fun j hj => h j (List.mem_cons_of_mem _ hj)]
section
variable {P : Program} {w : World} {A : Around} {E : Value → Shared → Prop} {s : Shared}
variable {L : List Row} {es : Array (Int × Value)} {ep : Nat} {t : SetTable} {a x : Addr} {k : List Key}
/-- the set at a holds these tuples -/
def InS (P : Program) (w : World) (h : Heap) (a : Addr) (L : List Row) : Prop :=
  ∃ o es ep t, h.get? a = some o ∧ o.ExactSet ∧ o.data = .set es ep t ∧ Fit P w L es t ∧ L.length * 5 < t.mask * 3
/-- no tuple is a set -/
theorem TK.apart {h h' : Heap} {o : Obj} (hk : TK P w h k x) (ho : h.get? a = some o) (hd : o.data = .set es ep t) (sb : Heap.SameBut a h h') : TK P w h' k x := by
  obtain ⟨o', its, n, ho', hc, hd', hi⟩ := hk
  refine ⟨o', its, n, ?_, hc, hd', hi⟩
  rw [sb.2 x fun e => by
    rw [e, ho] at ho'
    rw [← Option.some.inj ho', hd] at hd'
    cases hd']
  exact ho'
theorem tab_like {t t' : SetTable} {hs : List Int} (T : TabW t hs) (h1 : t'.place = t.place) (h2 : t'.dummies = t.dummies) (h3 : t'.mask = t.mask) : TabW t' hs := by
  refine ⟨?_, ?_, ?_, ?_, ?_, ?_⟩
  · rw [h1]; exact T.ris
  · rw [h2]; exact T.dm
  · rw [h1]; exact T.sz
  · rw [h3]; exact T.mok
  · rw [h1, h3]; exact T.bd
  · rw [h1, h3]; exact T.reach
/-- the table laid anew -/
theorem relay {o : Obj} (ho : s.heap.get? a = some o) (hex : o.ExactSet) (hd : o.data = .set es ep t) (F : Fit P w L es t) {n M : Nat} (hM : MaskW M) (hn : SetTable.sizeAbove n = M + 1) (hr : L.length * 5 < M * 3) {Q : Unit → Shared → Prop}
    (hQ : ∀ h' L', Heap.SameBut a s.heap h' → InS P w h' a L' → L'.Perm L → Q () { s with heap := h' }) : wpAny (model P w) A (setRelay a n) Q E s := by
  have Mb : M ≤ 511 := by rcases hM with e | e | e | e <;> omega
  have sz := F.size
  obtain ⟨t', ord, e, pm, T, em, el, _, _⟩ := relaidW t (hs := es.map (·.1)) (wanted := n) (M := M) (by omega) hM (by rw [Array.size_map]; omega)
  rw [Array.size_map, sz] at pm
  have inb : ∀ i ∈ ord.toList, i < L.length := fun i hi => List.mem_range.mp (pm.mem_iff.mp hi)
  have rows : (ord.filterMap (es[·]?)).toList = (ord.toList.filterMap fun i => L[i]?).map (row P w) := by
    rw [Array.toList_filterMap, List.map_filterMap]
    congr 1
    funext i
    rw [← Array.getElem?_toList, F.rows, List.getElem?_map]
  have pL : (ord.toList.filterMap fun i => L[i]?).Perm L := by
    have z := pm.filterMap fun i => L[i]?
    rwa [pick_all] at z
  have hs : (ord.toList.filterMap fun i => L[i]?).map (fun p => kh P w p.2) = ord.toList.map fun i => (es.map (·.1)).getD i 0 := by
    refine pick_val ?_ _ inb
    rw [Array.toList_map]
    exact F.hashes
  rw [← hs] at T
  generalize (ord.toList.filterMap fun i => L[i]?) = L' at rows pL T
  have sz' : (ord.filterMap (es[·]?)).size = L.length := by
    have z := congrArg List.length rows
    rw [Array.length_toList, List.length_map] at z
    rw [z, pL.length_eq]
  rw [setRelay_eq]
  refine wpAny_bind (wpAny_setState_of ho hd F.fits ?_)
  refine wp_if_neg (by rw [sizeLine_eq]; omega) ?_
  try refine wpAny_bind (wpAny_pure ?_)
  rw [e]
  refine wpAny_bind (wp_if_neg (by rw [sz', sz]; simp) ?_)
  try refine wpAny_bind (wpAny_pure ?_)
  refine wpAny_pure (wpAny_storeSet_of ho hd ?_ (by rw [sz', sizeLine_eq]; omega))
  refine hQ _ L' (Heap.SameBut.update ..) ⟨_, _, _, _, store_at ho hd, ⟨hex.1, hex.2.1, hex.2.2⟩, rfl, ⟨rows, T, by rw [el]; exact F.led, by rw [em, pL.length_eq]; omega⟩, by rw [em, pL.length_eq]; exact hr⟩ pL
/-- a tuple added -/
theorem add_tup (hs : InS P w s.heap a L) (tup : ∀ p ∈ L, TK P w s.heap p.2 p.1) (hx : TK P w s.heap k x) (hu : A.units < cLine) (few : L.length < 300) {Q : Bool → Shared → Prop}
    (hQ : ∀ b h' L', Heap.SameBut a s.heap h' → InS P w h' a L' → (k ∈ L.map (·.2) → L' = L) → (k ∉ L.map (·.2) → L'.Perm ((x, k) :: L)) → Q b { s with heap := h' }) :
    wpAny (model P w) A (setAddHashed a (.ref x) (kh P w k)) Q E s := by
  obtain ⟨o, es, ep, t, ho, hex, hd, F, room⟩ := id hs
  have sz := F.size
  unfold setAddHashed
  refine wpAny_holding ?_
  rw [show (100000 : Nat) = 99999 + 1 from rfl, setAddHashedIn_succ]
  refine wpAny_bind (wpAny_setState_of ho hd F.fits ?_)
  refine wp_if_neg (by simp [byScan, Value.scannable]) ?_
  try refine wpAny_bind (wpAny_pure ?_)
  refine wpAny_bind (seek_all ho hd F tup hx hu (fun m => wpAny_pure (hQ _ s.heap L (Heap.SameBut.refl a s.heap) hs (fun _ => rfl) fun z => absurd m z)) fun K nm hK hb => ?_)
  refine wpAny_bind (wpAny_setState_of ho hd F.fits ?_)
  dsimp only
  obtain ⟨q1, q2, q3, q4, q5, q6, q7, q8, q9⟩ := F.tab.put hK hb
  generalize hpt : t.put (way t.mask (kh P w k) K) = pt at q1 q3 q4 q5 q6 q7 q8 q9 ⊢
  obtain ⟨t1, p⟩ := pt
  dsimp only at q1 q3 q4 q5 q6 q7 q8 q9 ⊢
  rw [← q1] at q2 q3
  rw [List.length_map] at q2 q9
  have rows : (SetTable.insertAt es p (kh P w k, Value.ref x)).toList = (L.take p ++ (x, k) :: L.drop p).map (row P w) := by
    rw [SetTable.toList_insertAt, F.rows, List.map_append, List.map_cons, List.map_take, List.map_drop]
    rfl
  have pm := put_perm L p (x, k)
  have hh : (L.take p ++ (x, k) :: L.drop p).map (fun p => kh P w p.2) = (L.map fun p => kh P w p.2).take p ++ kh P w k :: (L.map fun p => kh P w p.2).drop p := by
    rw [List.map_append, List.map_cons, List.map_take, List.map_drop]
  rw [← hh] at q3
  generalize L.take p ++ (x, k) :: L.drop p = L1 at rows pm q3
  generalize SetTable.insertAt es p (kh P w k, Value.ref x) = es1 at rows ⊢
  have len : L1.length = L.length + 1 := pm.length_eq
  have sz1 : es1.size = L.length + 1 := by
    have z := congrArg List.length rows
    rw [Array.length_toList, List.length_map] at z
    rw [z, len]
  have rm1 : L1.length ≤ t1.mask := by
    rw [len, q4]
    omega
  -- the rest, with whatever mark the table gets
  have rest : ∀ t2 : SetTable, t2.place = t1.place → t2.dummies = t1.dummies → t2.mask = t1.mask → t2.led = t1.led → wpAny (model P w) A (storeSet a es1 t2) (fun _ s' => wpAny (model P w) A (do
      if !false && t2.tooFull then setRelay a (SetTable.grown (es.size + 1))
      return true) Q E s') E s := fun t2 e1 e2 e3 e4 => by
    have F1 : Fit P w L1 es1 t2 := ⟨rows, tab_like q3 e1 e2 e3, by rw [e4, q5]; exact F.led, by rw [e3]; exact rm1⟩
    have full : t2.tooFull = decide ((L.length + 1) * 5 ≥ t.mask * 3) := by
      unfold SetTable.tooFull
      unfold SetTable.fill at q9 ⊢
      rw [e1, e2, q9, e3, q4]
    refine wpAny_storeSet_of ho hd ?_ (by rw [sz1, sizeLine_eq]; omega)
    have sb : Heap.SameBut a s.heap (s.heap.update a (Obj.putSet es1 t2)) := Heap.SameBut.update ..
    have ho1 := store_at (es' := es1) (t' := t2) ho hd
    generalize s.heap.update a (Obj.putSet es1 t2) = h1 at sb ho1 ⊢
    have ex1 : ({ o with data := .set es1 (ep + 1) t2 } : Obj).ExactSet := ⟨hex.1, hex.2.1, hex.2.2⟩
    by_cases f : (L.length + 1) * 5 ≥ t.mask * 3
    · rw [full, decide_eq_true f]
      first
        | (refine wp_if_pos (by simp) ?_; refine wpAny_bind ?_)
        | (refine wpAny_bind ?_; refine wp_if_pos (by simp) ?_)
      have go : ∀ M, MaskW M → SetTable.sizeAbove (SetTable.grown (es.size + 1)) = M + 1 → (L.length + 1) * 5 < M * 3 → wpAny (model P w) A (setRelay a (SetTable.grown (es.size + 1))) (fun _ s' => wpAny (model P w) A (pure true) Q E s') E { s with heap := h1 } := fun M h1' h2' h3' =>
        relay (s := { s with heap := h1 }) ho1 ex1 rfl F1 h1' h2' (by rw [len]; exact h3') fun h2 L2 sb2 i2 p2 => wpAny_pure (hQ true h2 L2 (sb.trans sb2) i2 (fun z => absurd z nm) fun _ => p2.trans pm)
      rcases F.tab.mok with e | e | e | e
      · have l4 : es.size = 4 := by omega
        exact go 31 (.inr (.inl rfl)) (by rw [l4, size_20]) (by omega)
      · have l18 : es.size = 18 := by omega
        exact go 127 (.inr (.inr (.inl rfl))) (by rw [l18, size_76]) (by omega)
      · have l76 : es.size = 76 := by omega
        exact go 511 (.inr (.inr (.inr rfl))) (by rw [l76]; decide +kernel) (by omega)
      · omega
    · rw [full, decide_eq_false f]
      have rm2 : L1.length * 5 < t2.mask * 3 := by
        rw [len, e3, q4]
        omega
      have fin : wpAny (model P w) A (pure true) Q E { s with heap := h1 } := wpAny_pure (hQ true h1 L1 sb ⟨_, _, _, _, ho1, ex1, rfl, F1, rm2⟩ (fun z => absurd z nm) fun _ => pm)
      first
        | exact wp_if_neg (by simp) fin
        | exact wpAny_bind (wp_if_neg (by simp) (wpAny_pure fin))
  by_cases pl : t1.plain = true
  · first
      | (refine wp_if_pos pl ?_; refine wpAny_bind (byVal_tup hx fun r => ?_))
      | refine wpAny_bind (wp_if_pos pl (byVal_tup hx fun r => ?_))
    cases r with
    | true => exact wpAny_bind (rest t1 rfl rfl rfl rfl)
    | false => exact wpAny_bind (rest { t1 with plain := false } rfl rfl rfl rfl)
  · first
      | (refine wp_if_neg pl ?_; refine wpAny_bind (wpAny_pure ?_))
      | refine wpAny_bind (wp_if_neg pl (wpAny_pure ?_))
    exact wpAny_bind (rest t1 rfl rfl rfl rfl)
end
end Fh

set_option Elab.async false
set_option linter.all false
set_option maxRecDepth 100000
set_option maxHeartbeats 4000000
namespace Fh
open PySem PySem.Spec PyProof.Rows L2
/-! ### set(a list of tuples), alike ones among them -/
/-- L are those met first among the first i -/
structure Met (ks : List Row) (i : Nat) (L : List Row) : Prop where
  sub : ∀ p ∈ L, p ∈ ks.take i
  all : ∀ p ∈ ks.take i, p.2 ∈ L.map (·.2)
  nd : (L.map (·.2)).Nodup
  len : L.length ≤ i
theorem Met.zero (ks : List Row) : Met ks 0 [] := ⟨fun p h => (by cases h), fun p h => (by simp at h), List.nodup_nil, Nat.le_refl _⟩
theorem Met.next {ks L L' : List Row} {i : Nat} {p : Row} (m : Met ks i L) (h : ks[i]? = some p) (h1 : p.2 ∈ L.map (·.2) → L' = L) (h2 : p.2 ∉ L.map (·.2) → L'.Perm (p :: L)) : Met ks (i + 1) L' := by
  have e : ks.take (i + 1) = ks.take i ++ [p] := by rw [List.take_succ, h]; rfl
  have wid : ∀ q, q ∈ ks.take i → q ∈ ks.take (i + 1) := fun q hq => by rw [e]; exact List.mem_append_left _ hq
  by_cases c : p.2 ∈ L.map (·.2)
  · rw [h1 c]
    refine ⟨fun q hq => wid q (m.sub q hq), fun q hq => ?_, m.nd, Nat.le_succ_of_le m.len⟩
    rw [e] at hq
    rcases List.mem_append.mp hq with z | z
    · exact m.all q z
    · rw [List.mem_singleton.mp z]; exact c
  · have pm := h2 c
    have pm2 : (L'.map (·.2)).Perm (p.2 :: L.map (·.2)) := pm.map (·.2)
    refine ⟨fun q hq => ?_, fun q hq => ?_, pm2.nodup_iff.mpr (List.nodup_cons.mpr ⟨c, m.nd⟩), ?_⟩
    · rcases List.mem_cons.mp (pm.mem_iff.mp hq) with z | z
      · rw [e, z]; exact List.mem_append_right _ (List.mem_singleton.mpr rfl)
      · exact wid q (m.sub q z)
    · rw [e] at hq
      refine pm2.mem_iff.mpr ?_
      rcases List.mem_append.mp hq with z | z
      · exact List.mem_cons_of_mem _ (m.all q z)
      · rw [List.mem_singleton.mp z]; exact List.mem_cons_self
    · have := pm.length_eq
      have := m.len
      simp only [List.length_cons] at *
      omega
section
variable {P : Program} {w : World} {A : Around} {ks : List Row}
theorem TK.at {h h' : Heap} {k : List Key} {x : Addr} (hk : TK P w h k x) (e : ∀ o, h.get? x = some o → h'.get? x = some o) : TK P w h' k x := by
  obtain ⟨o, its, n, ho, r⟩ := hk
  exact ⟨o, its, n, e o ho, r⟩
theorem InS.at {h h' : Heap} {L : List Row} {a : Addr} (hs : InS P w h a L) (e : ∀ o, h.get? a = some o → h'.get? a = some o) : InS P w h' a L := by
  obtain ⟨o, es, ep, t, ho, r⟩ := hs
  exact ⟨o, es, ep, t, e o ho, r⟩
theorem fillT {R : Result → Shared → Prop} {I S : Addr} {fp wr : List Addr} {G : Array GenState → Array GenState → Prop} {Pv : Nat → Value → Prop} {St : Nat → Shared → Prop} {s0 : Shared}
    (W : WalksS P w A.in1 I fp wr G ks.length Pv St) (hS : S ∉ fp) (hb : ks.length < 300) (hk : ∀ i v, Pv i v → ∃ p, ks[i]? = some p ∧ v = .ref p.1) (tu : ∀ p ∈ ks, TK P w s0.heap p.2 p.1) (ap : ∀ p ∈ ks, p.1 ∉ S :: wr) (hu : A.in1.units < cLine)
    (fin : ∀ s' L, Moved (S :: wr) G s0 s' → InS P w s'.heap S L → Met ks ks.length L → R (.ok (.ret .none)) s') :
    ∀ (d i : Nat) (s : Shared) (L : List Row), i + d = ks.length → St i s → Moved (S :: wr) G s0 s → InS P w s.heap S L → Met ks i L →
      codeAny (model P w) A (.builtin "set.update.loop" ⟨[.ref S, .ref I], []⟩) R s := by
  have out : S ∉ wr := fun h => hS (W.sub _ h)
  have more : ∀ {s1 s2 : Shared}, Moved wr G s1 s2 → Moved (S :: wr) G s1 s2 := fun m => m.mono fun b hb => List.mem_cons_of_mem _ hb
  have now : ∀ {s1 : Shared}, Moved (S :: wr) G s0 s1 → ∀ p ∈ ks, TK P w s1.heap p.2 p.1 := fun m p hp => (tu p hp).at fun o e => m.heap _ o (ap p hp) e
  intro d
  induction d with
  | zero =>
    intro i s L e st mv so me
    have ei : i = ks.length := by omega
    rw [ei] at st me
    refine codeAny_builtin PyProof.Rows.F.entry_set_update_loop ?_
    rw [Around.under_plainId PyProof.Rows.F.plain_set_update_loop _]
    exact wpAny_bind (m := pyNext (.ref I)) (W.done s _ _ st fun s1 m1 => wpAny_pure (fin s1 L (Moved.trans W.gtrans mv (more m1)) (so.at fun o e => m1.heap _ o out e) me))
  | succ d ih =>
    intro i s L e st mv so me
    refine codeAny_builtin PyProof.Rows.F.entry_set_update_loop ?_
    rw [Around.under_plainId PyProof.Rows.F.plain_set_update_loop _]
    refine wpAny_bind (m := pyNext (.ref I)) (W.item i s _ _ (by omega) st fun v s1 pv st1 m1 => ?_)
    obtain ⟨p, hp, rfl⟩ := hk i v pv
    have mv1 := Moved.trans W.gtrans mv (more m1)
    have tu1 := now mv1
    have so1 := so.at (h' := s1.heap) fun o e => m1.heap _ o out e
    have pk := tu1 p (List.mem_of_getElem? hp)
    have sub : ∀ q ∈ L, q ∈ ks := fun q hq => List.mem_of_mem_take (me.sub q hq)
    have hl := me.len
    refine wpAny_bind (m := holding [Value.ref p.1] (setAdd S (.ref p.1))) (wpAny_holding (wpAny_holding (wpAny_bind (wpAny_pyHash_tuple hu pk (add_tup (s := { s1 with toks := s1.toks + (p.2.length + 1) }) so1 (fun q hq => tu1 q (sub q hq)) pk hu (by omega) fun b h2 L2 sb so2 c1 c2 => ?_)))))
    have other : ∀ b o, b ≠ S → s1.heap.get? b = some o → h2.get? b = some o := fun b o n g => by rw [sb.2 b n]; exact g
    exact wpAny_pure ⟨plainId_quiet PyProof.Rows.F.plain_set_update_loop _, ih (i + 1) _ L2 (by omega) (W.frame _ s1 _ _ st1 (Nat.le_add_right _ _) fun b hb o g => other b o (fun h => hS (h ▸ hb)) g) (Moved.trans W.gtrans mv ((more m1).then_heap (Nat.le_add_right _ _) fun b o hb g => other b o (fun h => hb (h ▸ List.mem_cons_self)) g)) so2 (me.next hp c1 c2)⟩
end
end Fh

set_option Elab.async false
set_option linter.all false
set_option maxRecDepth 100000
set_option maxHeartbeats 4000000
namespace Fh
open PySem PySem.Spec PyProof.Rows L2
section
variable {P : Program} {w : World} {A : Around} {ks : List Row}
abbrev noSet (w : World) : Obj := { cls := .type "set", dict := none, data := .set #[] 0 (.fresh 0 0 (!w.params.followText "set-order")) }
theorem InS.new {h : Heap} {a : Addr} (ho : h.get? a = some (noSet w)) : InS P w h a [] := by
  refine ⟨_, _, _, _, ho, ⟨rfl, rfl, rfl⟩, rfl, ⟨rfl, ⟨List.Pairwise.nil, rfl, rfl, .inl rfl, fun x hx => (by cases hx), fun i h j hi => (by simp at hi)⟩, ?_, Nat.zero_le _⟩, ?_⟩
  · show _ ∨ (!w.params.followText "set-order") = true
    cases w.params.followText "set-order"
    · exact .inr rfl
    · exact .inl rfl
  · show 0 * 5 < 7 * 3
    decide
theorem initT {R : Value → Shared → Prop} {E : Value → Shared → Prop} {s : Shared} {S l : Addr} {items : Array Value} (hh : A.handled = none) (hl : s.heap.IsList l items) (hS : s.heap.get? S = some (noSet w))
    (hn : items.size = ks.length) (hb : ks.length < 300) (hk : ∀ (i : Nat) (v : Value), items[i]? = some v → ∃ p, ks[i]? = some p ∧ v = Value.ref p.1) (tu : ∀ p ∈ ks, TK P w s.heap p.2 p.1) (hu : A.units + 3 < cLine)
    (fin : ∀ (h' : Heap) (tk : Nat) L, InS P w h' S L → Met ks ks.length L → (∀ b o, b ≠ S → s.heap.get? b = some o → h'.get? b = some o) → R .none { s with heap := h', toks := tk }) :
    codeAny (model P w) A (.call (.builtin "set.__init__") ⟨[.ref S, .ref l], []⟩) (wants R E) s := by
  refine codeAny_call_builtin F.called_set.init.plain F.entry_set_init (check_set_init_1 ⟨_, hS, rfl⟩ ?_)
  have hl0 := hl
  obtain ⟨⟨oc, od, odt, osl⟩, hol, hcl, nl, hdl⟩ := hl
  dsimp only at hcl hdl
  subst hcl
  subst hdl
  have q1 := F.sub_list_set
  have q2 := F.sub_list_frozenset
  have q3 : (Value.type "list" == Value.type "dict") = false := by decide
  have lS : l ≠ S := fun e => by
    rw [e, hS] at hol
    have c := congrArg Obj.cls (Option.some.inj hol)
    exact absurd (show Value.type "set" = Value.type "list" from c) (by decide)
  unfold Builtin.«set.__init__» noKeywords Builtin.Frozenset.updateFrom
  generalize hit : pyIter = it
  wp_walk
  subst hit
  refine wpAny_pyIter_list hl0 (wpAny_bind (wpAny_runValue ?_))
  have n1 : l ≠ s.heap.objs.size := Nat.ne_of_lt (Heap.lt_size hol)
  have n2 : S ≠ s.heap.objs.size := Nat.ne_of_lt (Heap.lt_size hS)
  have h3 : A.in1.in1.handled = none := by simp [hh]
  have keep : ∀ {b : Addr} {o : Obj}, s.heap.get? b = some o → (s.heap.push { cls := .type "list_iterator", data := .fields #[.ref l, .int 0 0] }).get? b = some o := fun e => Heap.get?_push_of_some _ e
  have W := (Walks.list (prog := P) (w := w) h3 s.heap.objs.size l n1 items).toS
  rw [hn] at W
  refine fillT (s0 := { s with heap := s.heap.push { cls := .type "list_iterator", data := .fields #[.ref l, .int 0 0] } }) W (S := S) (by simp [n2, lS.symm]) hb hk (fun p hp => (tu p hp).at fun o e => keep e) (fun p hp => ?_) (show A.units + 1 + 1 < cLine by omega) (fun s' L mv so me => ?_) ks.length 0 _ [] (Nat.zero_add _) ⟨⟨_, Heap.get?_push_size _ rfl, rfl, rfl⟩, hl0.push _⟩ ⟨fun _ _ _ e => e, W.grefl _, rfl, rfl, Nat.le_refl _⟩ (InS.new (keep hS)) (Met.zero ks)
  · obtain ⟨o, its, n, ho, hc, _⟩ := tu p hp
    have a1 : p.1 ≠ s.heap.objs.size := Nat.ne_of_lt (Heap.lt_size ho)
    have a2 : p.1 ≠ S := fun e => by
      rw [e, hS] at ho
      rw [← Option.some.inj ho] at hc
      exact absurd (show Value.type "set" = Value.type "tuple" from hc) (by decide)
    simp [a1, a2]
  · obtain ⟨h', g', d', tk', os'⟩ := s'
    have eg : g' = s.gens := mv.gens
    have ed : d' = s.drawn := mv.drawn
    have eo : os' = s.os := mv.os
    subst eg
    subst ed
    subst eo
    exact wpAny_pure (wpAny_pure (fin h' tk' L so me fun b o nb e => mv.heap b o (by simp only [List.mem_cons, List.not_mem_nil, or_false, not_or]; exact ⟨nb, Nat.ne_of_lt (Heap.lt_size e)⟩) (keep e)))
/-- set(a list of tuples) -/
theorem call_setT {E : Value → Shared → Prop} {s : Shared} {l : Addr} {items : Array Value} {Q : Value → Shared → Prop} (hh : A.handled = none) (hl : s.heap.IsList l items) (hn : items.size = ks.length) (hb : ks.length < 300) (hk : ∀ (i : Nat) (v : Value), items[i]? = some v → ∃ p, ks[i]? = some p ∧ v = Value.ref p.1)
    (tu : ∀ p ∈ ks, TK P w s.heap p.2 p.1) (hu : A.units + 9 < cLine)
    (h : ∀ (h' : Heap) (tk : Nat) L, InS P w h' s.heap.objs.size L → Met ks ks.length L → (∀ b o, s.heap.get? b = some o → h'.get? b = some o) → Q (.ref s.heap.objs.size) { s with heap := h', toks := tk }) : wpAny (model P w) A (call (.type "set") [.ref l]) Q E s := by
  obtain ⟨c, tl, m1⟩ := F.called_set.mro
  have m2 := F.called_set.made
  have m3 := F.called_set.sub
  have m4 := F.called_set.notType
  have m5 := F.called_set.canCreate
  have m6 := F.typeCall_set_1 (.ref l)
  refine wpAny_call (codeAny_of_tree (wpAny_pure ⟨Code.quiet_builtin _ (by decide +kernel), codeAny_builtin F.entry_type_call ?_⟩))
  rw [Around.under_plain (weight_type_call_type "set" [.ref l] []) rfl]
  repeat (any_goals (first | assumption | wp_step))
  refine codeAny_mono (code_set_led1 (.ref l) (E := E) (Q₁ := fun v s1 => v = .ref s.heap.objs.size ∧ s1 = { s with heap := s.heap.push (noSet w) }) ⟨rfl, rfl⟩) fun r s1 hr => ?_
  rcases r with e | fl
  · exact hr
  · cases fl with
    | ret obj =>
      obtain ⟨rfl, rfl⟩ := hr
      have at0 : (s.heap.push (noSet w)).get? s.heap.objs.size = some (noSet w) := Heap.get?_push_size _ rfl
      have ty0 : Shared.TypeIs { s with heap := s.heap.push (noSet w) } (.ref s.heap.objs.size) "set" := ⟨_, at0, rfl⟩
      have i1 := F.called_set.init.lookup
      have i2 := F.called_set.init.bind (.ref s.heap.objs.size)
      repeat (any_goals (first | assumption | wp_step))
      refine codeAny_mono (initT (ks := ks) (E := E) (R := fun v s2 => v = .none ∧ ∃ h' tk L, s2 = { s with heap := h', toks := tk } ∧ InS P w h' s.heap.objs.size L ∧ Met ks ks.length L ∧ ∀ b o, s.heap.get? b = some o → h'.get? b = some o) (by simp [hh]) (hl.push _) at0 hn hb hk (fun p hp => (tu p hp).at fun o e => Heap.get?_push_of_some _ e) (show A.units + 1 + 3 < cLine by omega) fun h' tk L so me keep => ⟨rfl, h', tk, L, rfl, so, me, fun b o e => keep b o (Nat.ne_of_lt (Heap.lt_size e)) (Heap.get?_push_of_some _ e)⟩) fun r2 s2 hr2 => ?_
      rcases r2 with e | fl2
      · exact hr2
      · cases fl2 with
        | ret v =>
          obtain ⟨rfl, h', tk, L, rfl, so, me, keep⟩ := hr2
          repeat (any_goals (first | assumption | wp_step))
          exact h h' tk L so me keep
        | _ => exact hr2.elim
    | _ => exact hr.elim
end
end Fh

set_option Elab.async false
set_option linter.all false
set_option maxRecDepth 100000
set_option maxHeartbeats 4000000
namespace Fh
open PySem PySem.Spec PyProof.Rows L2
/-! ### sorted, of tuples of texts -/
/-- an address, and the texts of the tuple there -/
abbrev TxR := Addr × List Str
def tr (p : TxR) : Row := (p.1, p.2.map Sum.inr)
def txD (p : TxR) : PyData := .tuple (p.2.map .str)
/-- Python's order of tuples of texts -/
def slLe (x y : List Str) : Bool := !(PyProof.Rows.listOrd PyProof.Rows.itemOrd).blt (PySem.W.keyToks (.tuple (y.map .str))) (PySem.W.keyToks (.tuple (x.map .str)))
theorem txLe_eq : PySem.W.dataLe false txD = fun p q => slLe p.2 q.2 := rfl
theorem toks_inj : ∀ {x y : List Str}, PySem.W.keyToksAll (x.map .str) = PySem.W.keyToksAll (y.map .str) → x = y
  | [], [], _ => rfl
  | [], _ :: _, h => by simp [PySem.W.keyToksAll] at h
  | _ :: _, [], h => by simp [PySem.W.keyToksAll] at h
  | a :: x, b :: y, h => by
    simp only [List.map_cons, PySem.W.keyToksAll, PySem.W.keyToks, List.cons_append, List.nil_append, List.cons.injEq, true_and, Sum.inr.injEq] at h
    have e : a = b := by
      cases a; cases b
      exact congrArg Str.mk (Array.toList_inj.mp h.1)
    rw [e, toks_inj h.2]
theorem sl_total : PySem.W.TotalLe (fun p q : TxR => slLe p.2 q.2) := PySem.W.sortLe_total (PyProof.Rows.listOrd PyProof.Rows.itemOrd) false fun b : TxR => PySem.W.keyToks (txD b)
theorem not_t {b : Bool} (h : (!b) = true) : b = false := by cases b <;> first | rfl | cases h
theorem sl_anti {x y : List Str} (h1 : slLe x y = true) (h2 : slLe y x = true) : x = y := by
  have e := (PyProof.Rows.listOrd PyProof.Rows.itemOrd).total _ _ (not_t h1) (not_t h2)
  exact (toks_inj e).symm
theorem perm_unmap {α β : Type} {f : α → β} : ∀ {l : List β} {T : List α}, l.Perm (T.map f) → ∃ T' : List α, T'.Perm T ∧ l = T'.map f
  | [], T, h => by
    have e : T = [] := List.map_eq_nil_iff.mp h.symm.eq_nil
    subst e
    exact ⟨[], .nil, rfl⟩
  | v :: r, T, h => by
    obtain ⟨t, ht, rfl⟩ := List.mem_map.mp (h.mem_iff.mp List.mem_cons_self)
    obtain ⟨T1, T2, rfl⟩ := List.append_of_mem ht
    have h2 : (f t :: r).Perm (f t :: (T1 ++ T2).map f) := by
      refine h.trans ?_
      rw [List.map_append, List.map_cons, List.map_append]
      exact List.perm_middle
    obtain ⟨T', p, e⟩ := perm_unmap h2.cons_inv
    exact ⟨t :: T', (p.cons t).trans List.perm_middle.symm, by rw [e]; rfl⟩
/-- texts sorted as tuples stand in one way -/
theorem sl_one {l m : List (List Str)} (h : l.Perm m) (h1 : l.Pairwise fun x y => slLe x y = true) (h2 : m.Pairwise fun x y => slLe x y = true) : l = m := by
  have tot := sl_total
  have tt : ∀ x y : List Str, (slLe x y || slLe y x) = true := fun x y => by
    rcases tot.total (0, x) (0, y) with e | e
    · exact Bool.or_eq_true _ _ ▸ .inl e
    · exact Bool.or_eq_true _ _ ▸ .inr e
  have tn : ∀ x y z : List Str, slLe x y = true → slLe y z = true → slLe x z = true := fun x y z => tot.trans (0, x) (0, y) (0, z)
  have an : ∀ x y : List Str, slLe x y = true → slLe y x = true → x = y := fun x y => sl_anti
  exact (PySem.W.Srt.the_of_perm slLe tn tt an h h1).trans (PySem.W.Srt.the_of_perm slLe tn tt an (List.Perm.refl m) h2).symm
theorem alike_strs : ∀ x y : List Str, PySem.W.alikeAll (x.map .str) (y.map .str) = true
  | [], _ => by simp [PySem.W.alikeAll]
  | _ :: _, [] => by simp [PySem.W.alikeAll]
  | a :: x, b :: y => by simp [PySem.W.alikeAll, PySem.W.alike, alike_strs x y]
theorem depth_strs : ∀ x : List Str, PyData.depthAll (x.map .str) = 0
  | [] => rfl
  | a :: x => by simp [PyData.depthAll, PyData.depth, depth_strs x]
section
variable {P : Program} {w : World} {A : Around} {E : Value → Shared → Prop} {s : Shared}
theorem reads_strs {h : Heap} : ∀ {x : List Str} {vs : List Value}, PySem.ItemsAre (mixKind P w) (x.map Sum.inr) vs → ReadsAll h vs (x.map .str) []
  | [], _, .nil => .nil
  | a :: x, _, .cons h1 r => by
    rcases keyIs_shape (show keyIs (Sum.inr a) _ = true from h1) with ⟨i, t, e, _⟩ | ⟨y, t, e, rfl⟩
    · cases e
    · cases e
      exact .cons (.str a t) (reads_strs r)
theorem reads_tx {h : Heap} {p : TxR} (k : TK P w h (tr p).2 (tr p).1) : Reads h (.ref p.1) (txD p) [] := by
  obtain ⟨o, its, n, ho, hc, hd, hi⟩ := k
  exact .tuple ho hc hd (reads_strs hi)
theorem each_refs (R : Value → TxR → Prop) : ∀ T : List TxR, (∀ p ∈ T, R (.ref p.1) p) → PySem.W.EachIs R (T.map fun p => Value.ref p.1) T
  | [], _ => .nil
  | p :: T, h => .cons (h p List.mem_cons_self) (each_refs R T fun q hq => h q (List.mem_cons_of_mem _ hq))
theorem refs_each : ∀ {vs : List Value} {T : List TxR}, PySem.W.EachIs (fun v (p : TxR) => v = .ref p.1) vs T → vs = T.map fun p => Value.ref p.1
  | _, _, .nil => rfl
  | _, _, .cons e r => by rw [e, refs_each r]; rfl
theorem sorted_pw (T : List TxR) : ((T.mergeSort (PySem.W.dataLe false txD)).map (·.2)).Pairwise fun x y => slLe x y = true := by
  rw [txLe_eq]
  exact List.pairwise_map.mpr (PySem.W.sort_pairwise sl_total T)
/-- sorted(a set of tuples of texts) -/
theorem call_sortedT {a : Addr} {T : List TxR} {Q : Value → Shared → Prop} (hs : InS P w s.heap a (T.map tr)) (tup : ∀ p ∈ T, TK P w s.heap (tr p).2 (tr p).1) (ne : ∀ p ∈ T, p.2 ≠ []) (few : T.length < 300) (hh : A.handled = none) (hu : A.units + 9 < cLine)
    (hQ : ∀ s' q (out : Array Value) (c : Nat) (T' : List TxR), (∀ b o, s.heap.get? b = some o → s'.heap.get? b = some o) → s'.gens = s.gens → s'.os = s.os → s.heap.objs.size ≤ q → s'.heap.get? q = some (seqObj "list" out c) →
      out.toList = T'.map (fun p => Value.ref p.1) → T'.Perm T → (T'.map (·.2)).Pairwise (fun x y => slLe x y = true) → Q (.ref q) s') : wpAny (model P w) A (call (.builtin "sorted") [.ref a]) Q E s := by
  obtain ⟨o, es, ep, t, ho, hex, hd, F, room⟩ := hs
  have sz := F.size
  rw [List.length_map] at sz
  refine Calls.call_function_entry kind_sorted plain_sorted entry_sorted (args_sorted1 _) ?_
  unfold Builtin.«sorted»
  refine wpAny_bind (m := checkCount "sorted" 1 1 _) (wpAny_pure ?_)
  refine wpAny_bind (collect_set (A := A.in1) hh ⟨o, ho, hex.1, hd⟩ F.fits (by unfold scanBound; omega) F.tab.ris F.led fun s1 vs k1 hz g1 o1 pm => ?_)
  have ev : es.toList.map (·.2) = T.map fun p => Value.ref p.1 := by
    rw [F.rows, List.map_map, List.map_map]
    rfl
  rw [ev] at pm
  obtain ⟨T1, pT, rfl⟩ := perm_unmap pm
  have l1 : T1.length < 300 := by rw [pT.length_eq]; exact few
  refine wpAny_bind (wpAny_newList ?_ (by rw [List.length_map, sizeLine_eq]; omega))
  have at1 : (s1.heap.push (seqObj "list" (T1.map fun p => Value.ref p.1).toArray 0)).get? s1.heap.objs.size = some (seqObj "list" (T1.map fun p => Value.ref p.1).toArray 0) := Heap.get?_push_size _ rfl
  refine wpAny_bind (wpAny_holding (PySem.W.list_sort_data (s := { s1 with heap := s1.heap.push (seqObj "list" (T1.map fun p => Value.ref p.1).toArray 0) }) (R := fun v (p : TxR) => v = .ref p.1) (enc := txD) (bs := T1) at1 (each_refs _ T1 fun _ _ => rfl) (each_refs _ T1 fun p hp => ⟨[], reads_tx ((tup p (pT.mem_iff.mp hp)).at fun o e => Heap.get?_push_of_some _ (k1 _ o e)), fun h => nomatch h⟩) (PySem.W.AllAlike.of fun b b' => by unfold txD PySem.W.alike; exact alike_strs _ _) (.inl fun d hd => ?_) (by rw [sizeLine_eq]; omega) (fun b hb => ?_) fun out ol eo => ?_))
  · obtain ⟨p, hp, rfl⟩ := List.mem_map.mp hd
    have n0 := ne p (pT.mem_iff.mp hp)
    unfold txD
    cases e : p.2 with
    | nil => exact absurd e n0
    | cons y r => exact ⟨.str y, r.map .str, rfl⟩
  · unfold txD PyData.depth
    rw [depth_strs]
    show A.units + 1 + 1 + _ < cLine
    omega
  · obtain ⟨c, hc⟩ := sortedHeap_at (vs := T1.map fun p => Value.ref p.1) (out := out.toArray) at1
    refine wpAny_pure ⟨_, rfl, hQ _ s1.heap.objs.size out.toArray c (T1.mergeSort (PySem.W.dataLe false txD)) (fun b u e => ?_) g1 o1 hz hc (by simpa using refs_each eo) ((List.mergeSort_perm T1 _).trans pT) (sorted_pw T1)⟩
    have q := k1 b u e
    have lt := Heap.lt_size q
    show (sortedHeap _ s1.heap.objs.size _ _).get? b = some u
    rw [sortedHeap_old (Nat.ne_of_lt lt) (by rw [size_push']; exact Nat.lt_succ_of_lt lt)]
    exact Heap.get?_push_of_some _ q
end
end Fh

set_option Elab.async false
set_option linter.all false
set_option maxRecDepth 100000
set_option maxHeartbeats 4000000
namespace Fh
open PySem PySem.Spec PyProof.Rows L2
/-! ### set(xs), sorted(set), sorted(xs): tuples of texts -/
def SetTx (P : Program) (w : World) (a : Addr) (T : List TxR) : HO := .ext fun h => InS P w h a (T.map tr)
theorem setTx_new {P : Program} {w : World} {H : Hp} {h : Heap} {a : Addr} {T : List TxR} (R : InS P w h a (T.map tr)) : ObjOk P w H h a (SetTx P w a T) := by
  have ⟨o, es, ep, t, ho, r⟩ := R
  exact ⟨R, ⟨o, ho⟩, fun h1 h2 p k => InS.at p fun o e => k o e⟩
theorem items_strs {P : Program} {w : World} : ∀ {x : List Str} {us : List Value}, Vals (x.map V.str) us → PySem.ItemsAre (mixKind P w) (x.map Sum.inr) us
  | [], _, .nil => .nil
  | y :: x, _, .cons r t => by
    obtain ⟨tk, rfl⟩ := r
    exact .cons (mixKind_str P w y tk) (items_strs t)
theorem refs_vals : ∀ {T : List TxR} {us : List Value}, Vals (T.map fun p => V.ref p.1) us → us = T.map fun p => Value.ref p.1
  | [], _, .nil => rfl
  | p :: T, _, .cons r t => by
    cases r
    rw [refs_vals t]
    rfl
theorem vals_refs : ∀ (T : List TxR), Vals (T.map fun p => V.ref p.1) (T.map fun p => Value.ref p.1)
  | [] => .nil
  | p :: T => .cons rfl (vals_refs T)
/-- those of some rows that are rows of texts -/
theorem tr_back : ∀ {L : List Row} {T : List TxR}, (∀ p ∈ L, p ∈ T.map tr) → ∃ T' : List TxR, L = T'.map tr ∧ ∀ p ∈ T', p ∈ T
  | [], _, _ => ⟨[], rfl, fun p h => (by cases h)⟩
  | p :: L, T, h => by
    obtain ⟨t, ht, e⟩ := List.mem_map.mp (h p List.mem_cons_self)
    obtain ⟨T', e2, s2⟩ := tr_back (L := L) fun q hq => h q (List.mem_cons_of_mem _ hq)
    refine ⟨t :: T', by rw [e2, ← e]; rfl, fun q hq => ?_⟩
    rcases List.mem_cons.mp hq with z | z
    · rw [z]; exact ht
    · exact s2 q z
theorem inr_inj {x y : List Str} (h : x.map (Sum.inr : Str → Key) = y.map Sum.inr) : x = y := List.map_inj_right (fun a b e => Sum.inr.inj e) |>.mp h
section
variable {X : Cx}
theorem Inv.tx {pins : List (Addr × Obj)} {σ : L2.St} {H : Hp} {s : Shared} {p : TxR} (I : Inv X pins σ H s) (h : SqT X.K H p.1 (p.2.map V.str)) : TK X.prog X.w s.heap (tr p).2 (tr p).1 := by
  obtain ⟨its, r, ⟨o, ho, hc, n, hd⟩, _⟩ := I.tuple h
  exact ⟨o, its.toArray, n, ho, hc, hd, by show PySem.ItemsAre _ _ its.toArray.toList; simpa [tr] using items_strs r⟩
def rSetTx (K : PySem.W.Frag) (P : Program) (w : World) : List V → Hp → VK → Prop := fun xs H Q => ∃ (l : Addr) (T : List TxR), xs = [V.ref l] ∧ SqL K H l (T.map fun p => V.ref p.1) ∧ (∀ p ∈ T, SqT K H p.1 (p.2.map V.str)) ∧ T.length < 300 ∧
  ∀ (a : Addr) (T' : List TxR), H a = none → (∀ p ∈ T', p ∈ T) → (∀ p ∈ T, p.2 ∈ T'.map (·.2)) → (T'.map (·.2)).Nodup → T'.length < 300 → Q (.ref a) (upd H a (SetTx P w a T'))
theorem cr_setTx (hc : X.calm = true) (hu : X.A.units + 64 < cLine) : CallR X (.type "set") (rSetTx X.K X.prog X.w) := by
  intro pins s σ H xs us Q I r h
  obtain ⟨l, T, rfl, hl, hk, few, q⟩ := h
  rw [Vals.ref1 r]
  obtain ⟨its, rv, pl, hz⟩ := I.list hl
  have hn : H s.heap.objs.size = none := I.hok.fresh (Nat.le_refl _)
  have ei : its = T.map fun p => Value.ref p.1 := refs_vals rv
  have tu : ∀ p ∈ T.map tr, TK X.prog X.w s.heap p.2 p.1 := fun p hp => by
    obtain ⟨t, ht, rfl⟩ := List.mem_map.mp hp
    exact Inv.tx I (hk t ht)
  refine call_setT (P := X.prog) (w := X.w) (ks := T.map tr) (I.ok.hd hc) pl.isList (by simp [ei]) (by rw [List.length_map]; exact few) (fun i v hv => ?_) tu (by omega) fun h' tk L so me k => ?_
  · rw [ei] at hv
    have hv2 : (T.map fun p => Value.ref p.1)[i]? = some v := by simpa using hv
    rw [List.getElem?_map] at hv2 ⊢
    cases e : T[i]? with
    | none => rw [e] at hv2; cases hv2
    | some t =>
      rw [e] at hv2
      exact ⟨tr t, rfl, (Option.some.inj hv2).symm⟩
  · have sub : ∀ p ∈ L, p ∈ T.map tr := fun p hp => List.mem_of_mem_take (me.sub p hp)
    obtain ⟨T', rfl, s2⟩ := tr_back sub
    have kk : (T'.map tr).map (·.2) = (T'.map (·.2)).map fun x => x.map (Sum.inr : Str → Key) := by
      rw [List.map_map, List.map_map]
      rfl
    refine ⟨.ref s.heap.objs.size, upd H s.heap.objs.size (SetTx X.prog X.w s.heap.objs.size T'), I.laid (t' := tk) k (Nat.le_refl _) (setTx_new so), rfl, q _ T' hn s2 (fun p hp => ?_) ?_ ?_⟩
    · have z := me.all (tr p) (by rw [List.take_length]; exact List.mem_map.mpr ⟨p, hp, rfl⟩)
      rw [kk] at z
      obtain ⟨x, hx, e⟩ := List.mem_map.mp z
      rw [← inr_inj e]
      exact hx
    · have z := me.nd
      rw [kk] at z
      exact L2.nodup_of_map z
    · have z := me.len
      rw [List.length_map, List.length_map] at z
      omega
def rSortedSTx (K : PySem.W.Frag) (P : Program) (w : World) : List V → Hp → VK → Prop := fun vs H Q => ∃ (a : Addr) (T : List TxR), vs = [V.ref a] ∧ H a = some (SetTx P w a T) ∧ (∀ p ∈ T, SqT K H p.1 (p.2.map V.str)) ∧ (∀ p ∈ T, p.2 ≠ []) ∧ T.length < 300 ∧
  ∀ (T' : List TxR) (q : Addr), T'.Perm T → (T'.map (·.2)).Pairwise (fun x y => slLe x y = true) → H q = none → Q (.ref q) (upd H q (.lst (T'.map fun p => V.ref p.1)))
theorem cr_sortedSTx (hc : X.calm = true) (hu : X.A.units + 64 < cLine) : CallR X (.builtin "sorted") (rSortedSTx X.K X.prog X.w) := by
  intro pins s σ H vs us Q I r h
  obtain ⟨a, T, rfl, ha, hk, ne, few, q⟩ := h
  have R0 : InS X.prog X.w s.heap a (T.map tr) := (I.hok a _ ha).1
  rw [Vals.ref1 r]
  refine call_sortedT R0 (fun p hp => Inv.tx I (hk p hp)) ne few (I.ok.hd hc) (by omega) fun s' p out c T' k g o hp hg hout pm pw => ?_
  have few' : T'.length < 300 := by rw [pm.length_eq]; exact few
  have hlen : (T'.map fun q => V.ref q.1).length ≤ sizeLine := by rw [List.length_map, sizeLine_eq]; omega
  have hn : H p = none := I.hok.fresh hp
  have hv : Vals (T'.map fun q => V.ref q.1) out.toList := by rw [hout]; exact vals_refs T'
  have J : Inv X pins σ (upd H p (.lst (T'.map fun q => V.ref q.1))) { s with heap := s'.heap, gens := s'.gens, drawn := s'.drawn, toks := s'.toks } :=
    I.call (ch := []) (Un.laid k hp hn) (I.hok.laid k hp ⟨hlen, out.toList, c, hv, hg⟩) (by rw [g]; exact I.bare) (fun _ z => nomatch z)
  have e : s' = { s with heap := s'.heap, gens := s'.gens, drawn := s'.drawn, toks := s'.toks } := by
    cases s'
    cases s
    cases o
    rfl
  rw [e]
  exact ⟨.ref p, _, J, rfl, q T' p pm pw hn⟩
def rSortedTx (K : PySem.W.Frag) : List V → Hp → VK → Prop := fun vs H Q => ∃ (l : Addr) (T : List TxR), vs = [V.ref l] ∧ SqL K H l (T.map fun p => V.ref p.1) ∧ (∀ p ∈ T, SqT K H p.1 (p.2.map V.str)) ∧ (∀ p ∈ T, p.2 ≠ []) ∧ T.length < 300 ∧
  ∀ (T' : List TxR) (q : Addr), T'.Perm T → (T'.map (·.2)).Pairwise (fun x y => slLe x y = true) → H q = none → Q (.ref q) (upd H q (.lst (T'.map fun p => V.ref p.1)))
theorem cr_sortedTx (hu : X.A.units + 64 < cLine) : CallR X (.builtin "sorted") (rSortedTx X.K) := by
  intro pins s σ H vs us Q I r h
  obtain ⟨l, T, rfl, hl, hk, ne, few, q⟩ := h
  obtain ⟨its, rv, pl, _⟩ := I.list hl
  rw [Vals.ref1 r]
  have ei : its = T.map fun p => Value.ref p.1 := refs_vals rv
  subst ei
  refine PySem.W.sorted_data (R := fun v (p : TxR) => v = .ref p.1) (enc := txD) (bs := T) pl.isList (each_refs _ T fun _ _ => rfl) (each_refs _ T fun p hp => ⟨[], reads_tx (Inv.tx I (hk p hp))⟩) (PySem.W.AllAlike.of fun b b' => by unfold txD PySem.W.alike; exact alike_strs _ _) (.inl fun d hd => ?_) (by rw [sizeLine_eq]; omega) (fun b hb => ?_) fun out ol eo => ?_
  · obtain ⟨p, hp, rfl⟩ := List.mem_map.mp hd
    have n0 := ne p hp
    unfold txD
    cases e : p.2 with
    | nil => exact absurd e n0
    | cons y r => exact ⟨.str y, r.map .str, rfl⟩
  · unfold txD PyData.depth
    rw [depth_strs]
    omega
  · obtain ⟨ep, he⟩ := PyProof.Rows.sortedAll_at s.heap (T.map fun p => Value.ref p.1) out.toArray
    have pm : (T.mergeSort (PySem.W.dataLe false txD)).Perm T := List.mergeSort_perm T _
    have hlen : ((T.mergeSort (PySem.W.dataLe false txD)).map fun q => V.ref q.1).length ≤ sizeLine := by rw [List.length_map, pm.length_eq, sizeLine_eq]; omega
    have hv : Vals ((T.mergeSort (PySem.W.dataLe false txD)).map fun q => V.ref q.1) out.toArray.toList := by
      have z := refs_each eo
      rw [List.toList_toArray, z]
      exact vals_refs _
    exact ⟨.ref _, upd H (s.heap.objs.size + 1) (.lst ((T.mergeSort (PySem.W.dataLe false txD)).map fun q => V.ref q.1)), I.laid (t' := s.toks) (fun _ _ => PyProof.Rows.sortedAll_old) (Nat.le_succ _) ⟨hlen, out.toArray.toList, ep, hv, he⟩, rfl, q _ _ pm (sorted_pw T) (I.hok.fresh (Nat.le_succ _))⟩
end
end Fh

set_option Elab.async false
set_option linter.all false
set_option maxRecDepth 100000
set_option maxHeartbeats 4000000
namespace Fh
open PySem L2 PyProof.Rows
abbrev sStr : Stmt := top 22
abbrev sEnd : Stmt := top 23
abbrev nStr : List Str := ["face", "found", "record", "fields", "kinds", "number", "name", "kind", "need"]
abbrev nEnd : List Str := ["face", "sizes", "names", "record", "fields", "name"]
/-- a list of tuples of texts -/
structure TxL (H : Hp) (p : Addr) (T : List TxR) : Prop where
  l : H p = some (.lst (T.map fun q => V.ref q.1))
  t : ∀ q ∈ T, H q.1 = some (.tup (q.2.map V.str))
def Nob (x : List Str) : Prop := ∃ y z : Str, x = [("nobody" : Str), y, z]
def bad : Option Int → Bool
  | none => true
  | some v => decide (60 < v)
def endL (D : Szs) (recs : List Rec) : List (List Str) := (recs.filter fun r => bad (D r.1)).map fun r => [("endless" : Str), r.1]
def spStr (C : Addr) : Sp := fun vs H Q _ => ∃ (a : Addr) (cs : List (Str × PyData)) (recs : List Rec), vs = [.ref a] ∧ FaceR C H a cs (recs.map rD) ∧ cs.length ≤ 100 ∧ RecsOk recs ∧
  ∀ (p : Addr) (T : List TxR) (H' : Hp), Same H H' → H p = none → TxL H' p T → (∀ q ∈ T, Nob q.2) → T.length ≤ 30 → Q (.ref p) H'
def spEnd (C : Addr) : Sp := fun vs H Q _ => ∃ (a : Addr) (cs : List (Str × PyData)) (recs : List Rec), vs = [.ref a] ∧ FaceR C H a cs (recs.map rD) ∧ cs.length ≤ 100 ∧ Cs1 cs ∧ RecsOk recs ∧
  ∀ (p : Addr) (T : List TxR) (H' : Hp), Same H H' → H p = none → TxL H' p T → T.map (·.2) = endL (turns cs (recs.map rD) recs recs.length) recs → Q (.ref p) H'
theorem nob_name {cs rs : List (Str × PyData)} {k : Kn} (h : nobK cs rs k = true) : ∃ z, k.nm = some z := by
  cases k with
  | one b => cases b with
    | whole => cases h
    | truth => cases h
    | text => cases h
    | rc z => exact ⟨z, rfl⟩
    | ch z => exact ⟨z, rfl⟩
  | lst b => cases b with
    | whole => cases h
    | truth => cases h
    | text => cases h
    | rc z => exact ⟨z, rfl⟩
    | ch z => exact ⟨z, rfl⟩
section
variable {P : Program} {w : World} {K : PySem.W.Frag} {mg : Str → Option Value} {base : Heap}
theorem scStr : FnScope nStr ["face"] (defScope sStr) := ⟨rfl, rfl, rfl, by decide +kernel, rfl, by decide +kernel, by decide +kernel⟩
theorem scEnd : FnScope nEnd ["face"] (defScope sEnd) := ⟨rfl, rfl, rfl, by decide +kernel, rfl, by decide +kernel, by decide +kernel⟩
theorem ok_str {C f : Addr} {fd : FuncData} (F : Fun K "strangers_in_kinds" "strangers_in_kinds" sStr f fd) (G : Glb mg) (cl : Cls K C) (n4 : NoAttr K C "records") (DN : Has P w K mg base "names_nobody" 3 ["face", "kind"] (spNob C fun _ => True)) (DI : Has P w K mg base "name_in" 3 ["kind"] (spNin fun _ => True)) : FnOk P w K mg base CX0 4 f fd ["face"] (spStr C) := by
  refine F.ok scStr (fun vs H Q E h => ?_) (fun cdv A outer s H vs Q E hr h => ?_)
  · obtain ⟨a, cs, recs, rfl, _⟩ := h
    rfl
  · obtain ⟨a, cs, recs, rfl, hF, lc, ok, q⟩ := h
    have ok6 := ok.len
    refine ⟨_, pss_cons (ps_set (i := 1) scStr.nd rfl (Or.inl rfl) (pe_lst pa_nil))
      (pss_cons (ps_for PassesOwn.never rfl (pi_tup (pe_fld (pv 0) rfl)) (pg_tup rfl (pgs_cons (pg_name (i := 2) scStr.nd rfl (.inr rfl)) (pgs_cons (pg_name (i := 3) scStr.nd rfl (.inl rfl)) pgs_nil)))
        (pss_cons (ps_setLc (i := 4) (own := [("number", 5), ("name", 6), ("kind", 7), ("need", 8)]) (g := gTup K 4 (gCons (gName 5) (gCons (gName 6) (gCons (gName 7) (gCons (gName 8) gNil))))) (tt := tYes) (te := tVar 7) rfl scStr.nd rfl rfl (sw_true rfl rfl rfl (by decide +kernel)) (pi_tup (pv 3)) (blkOk_by (N := nStr) (sc := defScope sStr) (by decide +kernel))
            (fun _ _ _ _ _ => pg_tup rfl (pgs_cons (pg_name (i := 5) scStr.nd rfl (.inl rfl)) (pgs_cons (pg_name (i := 6) scStr.nd rfl (.inl rfl)) (pgs_cons (pg_name (i := 7) scStr.nd rfl (.inl rfl)) (pgs_cons (pg_name (i := 8) scStr.nd rfl (.inl rfl)) pgs_nil))))) (fun _ _ _ _ _ => pts_nil) (fun _ _ _ _ _ => pv 7))
        (pss_one (ps_expr (pe_bm PySem.F.plainAttrs_list PySem.F.slot_list_extend PySem.F.type_list_extend mt_extend (pv 1) (pa_cons (pe_lc (own := [("kind", 7)]) (g := gName 7) (te := tTup (tCons (tC (.str "nobody")) (tCons (tVar 2) (tCons (tCall (spNin fun _ => True) [] E0 (tCons (tVar 7) tNil)) tNil)))) rfl scStr.nd (pi_list (pv 4)) (blkOk_by (N := nStr) (sc := defScope sStr) (by decide +kernel))
            (fun _ _ _ _ _ => pg_name (i := 7) scStr.nd rfl (Or.inl rfl)) (fun _ _ _ _ _ => pts_one (pt_val (pe_has DN (hr.mono (by decide)) rfl (pa_cons (pv 0) (pa_cons (pv 7) pa_nil))))) (fun _ _ _ _ _ => pe_tup (pa_cons pe_str (pa_cons (pv 2) (pa_cons (pe_has DI (hr.mono (by decide)) rfl (pa_cons (pv 7) pa_nil)) pa_nil))))) pa_nil))))))
      (pss_one (ps_ret (pv 1)))), ?_⟩
    obtain ⟨dx, v1, v2, v3, v4, v5, hA, t3, t4⟩ := id hF
    obtain ⟨b, xs, rfl, hb, tq⟩ := TpR.inv t4
    have el : xs.length = recs.length := by rw [tq.length, List.length_map, List.length_map]
    refine ⟨Nat.zero_le _, fun p hp => ?_⟩
    have S0 : Same H (upd H p (.lst [])) := Same.new hp
    refine ⟨_, rfl, a, C, dx, _, _, rfl, S0 _ _ hA, cl, n4, ff_records, b, rfl, ⟨_, .inl (Rd.same hb S0)⟩, ?_⟩
    refine for_tup (xs := xs) (fun i σ H3 => ∃ T, (∃ a2 a3 a4 a5 a6 a7 a8, σ = [some (.ref a), some (.ref p), a2, a3, a4, a5, a6, a7, a8]) ∧ Same H H3 ∧ TxL H3 p T ∧ (∀ q ∈ T, Nob q.2) ∧ T.length ≤ 5 * i) ?_ ?_ ?_ ?_
    · exact ⟨[], ⟨_, _, _, _, _, _, _, rfl⟩, S0, ⟨upd_same, fun q h => nomatch h⟩, (fun q h => nomatch h), Nat.le_refl _⟩
    · rintro i σ H3 _ ⟨T, _, S3, _⟩
      exact .inl (Rd.same hb S3)
    · rintro i x σ H3 hx ⟨T, ⟨a2, a3, a4, a5, a6, a7, a8, rfl⟩, S3, X3, N3, l3⟩
      obtain ⟨r, tp, u, hr', rfl, htp, tu⟩ := recs_at tq hx
      have hi := (List.getElem?_eq_some_iff.mp hr').1
      have lf := ok.fl r (List.mem_of_getElem? hr')
      refine ⟨tp, _, rfl, SqT.of (S3 _ _ htp), rfl, _, _, rfl, _, _, rfl, rfl, ?_⟩
      obtain ⟨c, ys, rfl, hc, tys⟩ := Tp.inv tu
      have ly : ys.length = r.2.length := by rw [tys.length, List.length_map]
      refine ⟨_, rfl, c, rfl, ⟨_, SqT.of (S3 _ _ hc)⟩, fun D hD => ?_⟩
      refine lc_tup (xs := ys) (fun j H4 => Same H3 H4 ∧ ∃ us : List V, H4 D = some (.lst us) ∧ us.length ≤ j ∧ ∀ u ∈ us, ∃ k : Kn, Tp H u k.d) ?_ ?_ ?_ ?_
      · exact ⟨Same.new hD, [], upd_same, Nat.le_refl _, fun u h => nomatch h⟩
      · rintro j H4 _ ⟨S4, _⟩
        exact SqT.of (S4 _ _ (S3 _ _ hc))
      · rintro j y H4 hy ⟨S4, us, h4, lu, hu4⟩
        obtain ⟨f2, t2, u2, hf2, rfl, ht2, tu2⟩ := flds_at (fs := r.2) tys hy
        have hj : j < 5 := by
          have := (List.getElem?_eq_some_iff.mp hf2).1
          omega
        refine ⟨t2, _, rfl, SqT.of (S4 _ _ (S3 _ _ ht2)), rfl, _, _, rfl, _, _, rfl, _, _, rfl, _, _, rfl, rfl, rfl, yes (iteT ?_)⟩
        refine ⟨_, rfl, _, h4, Nat.lt_of_le_of_lt lu (Nat.lt_of_lt_of_le hj (by decide)), Same.wr S4 hD, us ++ [u2], upd_same, ?_, fun u hu => ?_⟩
        · rw [List.length_append]
          exact Nat.succ_le_succ lu
        · rcases List.mem_append.mp hu with h | h
          · exact hu4 u h
          · rw [List.mem_singleton.mp h]
            exact ⟨_, tu2⟩
      · rintro H4 ⟨S4, us, h4, lu, hu4⟩
        rw [ly] at lu
        have S04 : Same H H4 := fun b o e => S4 b o (S3 b o e)
        have hp4 := S4 _ _ X3.l
        refine ⟨_, rfl, .inl ⟨rfl, _, SqL.of hp4⟩, ?_⟩
        refine ⟨_, rfl, D, rfl, ⟨_, SqL.of h4⟩, fun D2 hD2 => ?_⟩
        refine lc_list (xs := us) (fun j H5 => Same H4 H5 ∧ ∃ T2, TxL H5 D2 T2 ∧ (∀ q ∈ T2, Nob q.2) ∧ T2.length ≤ j) ?_ ?_ ?_ ?_
        · exact ⟨Same.new hD2, [], ⟨upd_same, fun q h => nomatch h⟩, (fun q h => nomatch h), Nat.le_refl _⟩
        · rintro j H5 _ ⟨S5, _⟩
          exact SqL.of (S5 _ _ h4)
        · rintro j y H5 hy ⟨S5, T2, X5, N5, l5⟩
          have hj : j < 5 := by
            have := (List.getElem?_eq_some_iff.mp hy).1
            omega
          obtain ⟨k, tk⟩ := hu4 y (List.mem_of_getElem? hy)
          have S05 : Same H H5 := fun b o e => S5 b o (S04 b o e)
          refine ⟨rfl, ?_⟩
          refine ⟨_, rfl, _, rfl, a, y, k, cs, recs.map rD, rfl, hF.same S05, lc, (by rw [List.length_map]; omega), Tp.keep (Same.tk S05) _ _ tk, trivial, fun H6 S6 => ?_⟩
          have S56 : Same H4 H6 := fun b o e => S6 b o (S5 b o e)
          have S06 : Same H H6 := fun b o e => S6 b o (S05 b o e)
          cases hnk : nobK cs (recs.map rD) k with
          | false => exact ⟨false, rfl, iteF ⟨S56, T2, ⟨S6 _ _ X5.l, fun q h => S6 _ _ (X5.t q h)⟩, N5, Nat.le_succ_of_le l5⟩⟩
          | true =>
            obtain ⟨z, hz⟩ := nob_name hnk
            refine ⟨true, rfl, iteT ?_⟩
            refine ⟨_, rfl, _, rfl, y, k, z, rfl, Tp.keep (Same.tk S06) _ _ tk, hz, trivial, (by show 3 ≤ sizeLine; decide), fun t ht => ?_⟩
            have l6 := S6 _ _ X5.l
            have nD : t ≠ D2 := fun e => by rw [e, l6] at ht; cases ht
            refine ⟨_, by rw [upd_ne (Ne.symm nD)]; exact l6, ?_, ?_, T2 ++ [(t, [("nobody" : Str), r.1, z])], ⟨?_, fun q hq => ?_⟩, fun q hq => ?_, ?_⟩
            · rw [List.length_map]
              exact Nat.lt_of_le_of_lt l5 (Nat.lt_of_lt_of_le hj (by decide))
            · intro b o e
              have nb : b ≠ D2 := ne_of_none e hD2
              rw [upd_ne nb, upd_ne (ne_of_none (S56 b o e) ht)]
              exact S56 b o e
            · rw [upd_same, List.map_append]
              rfl
            · rcases List.mem_append.mp hq with h | h
              · have e6 := S6 _ _ (X5.t q h)
                have nb : q.1 ≠ D2 := fun e => by rw [e, l6] at e6; cases e6
                rw [upd_ne nb, upd_ne (ne_of_none e6 ht)]
                exact e6
              · rw [List.mem_singleton.mp h]
                show (upd _ D2 _) t = _
                rw [upd_ne nD, upd_same]
                rfl
            · rcases List.mem_append.mp hq with h | h
              · exact N5 q h
              · rw [List.mem_singleton.mp h]
                exact ⟨_, _, rfl⟩
            · rw [List.length_append]
              exact Nat.succ_le_succ l5
        · rintro H5 ⟨S5, T2, X5, N5, l5⟩
          have hp5 := S5 _ _ hp4
          have lt2 : T2.length ≤ 5 := by omega
          refine ⟨p, D2, _, _, rfl, rfl, hp5, X5.l, ?_, ?_⟩
          · rw [List.length_map, List.length_map, sizeLine_eq]
            omega
          · refine ⟨T ++ T2, ⟨_, _, _, _, _, _, _, rfl⟩, Same.wr (fun b o e => S5 b o (S04 b o e)) hp, ⟨by rw [upd_same, List.map_append], fun q hq => ?_⟩, fun q hq => ?_, ?_⟩
            · have e5 : H5 q.1 = some (.tup (q.2.map V.str)) := by
                rcases List.mem_append.mp hq with h | h
                · exact S5 _ _ (S4 _ _ (X3.t q h))
                · exact X5.t q h
              rw [upd_ne (fun e => by rw [e, hp5] at e5; cases e5)]
              exact e5
            · rcases List.mem_append.mp hq with h | h
              · exact N3 q h
              · exact N5 q h
            · rw [List.length_append]
              omega
    · rintro σ H3 ⟨T, ⟨a2, a3, a4, a5, a6, a7, a8, rfl⟩, S3, X3, N3, l3⟩
      exact ⟨_, rfl, q p T H3 S3 hp X3 N3 (by omega)⟩
end
end Fh

set_option Elab.async false
set_option linter.all false
set_option maxRecDepth 100000
set_option maxHeartbeats 4000000
namespace Fh
open PySem L2 PyProof.Rows
theorem endL_add (D : Szs) (a b : List Rec) : endL D (a ++ b) = endL D a ++ endL D b := by unfold endL; rw [List.filter_append, List.map_append]
theorem TxL.same {H H' : Hp} {p : Addr} {T : List TxR} (x : TxL H p T) (s : Same H H') : TxL H' p T := ⟨s _ _ x.l, fun q h => s _ _ (x.t q h)⟩
/-- one more tuple -/
theorem TxL.more {H : Hp} {p t : Addr} {T : List TxR} {y : List Str} (x : TxL H p T) (ht : H t = none) : TxL (upd (upd H t (.tup (y.map V.str))) p (.lst (T.map (fun q => V.ref q.1) ++ [.ref t]))) p (T ++ [(t, y)]) := by
  have nD : t ≠ p := fun e => by rw [e, x.l] at ht; cases ht
  refine ⟨by rw [upd_same, List.map_append]; rfl, fun q hq => ?_⟩
  rcases List.mem_append.mp hq with h | h
  · have e := x.t q h
    have nb : q.1 ≠ p := fun z => by rw [z, x.l] at e; cases e
    rw [upd_ne nb, upd_ne (ne_of_none e ht)]
    exact e
  · rw [List.mem_singleton.mp h]
    show (upd _ p _) t = _
    rw [upd_ne nD, upd_same]
theorem Same.two {H H1 : Hp} {p t : Addr} {o o' : HO} (s : Same H H1) (hp : H p = none) (ht : H1 t = none) : Same H (upd (upd H1 t o) p o') := fun b u e => by
  rw [upd_ne (ne_of_none e hp), upd_ne (ne_of_none (s b u e) ht)]
  exact s b u e
section
variable {P : Program} {w : World} {K : PySem.W.Frag} {mg : Str → Option Value} {base : Heap}
theorem ok_end {C f : Addr} {fd : FuncData} (F : Fun K "endless_records" "endless_records" sEnd f fd) (N : Nums mg) (cl : Cls K C) (n4 : NoAttr K C "records") (DS : Has P w K mg base "least_sizes" 5 ["face"] (spLSizes C)) : FnOk P w K mg base CX0 6 f fd ["face"] (spEnd C) := by
  obtain ⟨tL, hL⟩ := N.least
  refine F.ok scEnd (fun vs H Q E h => ?_) (fun cdv A outer s H vs Q E hr h => ?_)
  · obtain ⟨a, cs, recs, rfl, _⟩ := h
    rfl
  · obtain ⟨a, cs, recs, rfl, hF, lc, c1, ok, q⟩ := h
    have ok6 := ok.len
    have hu := hu_of hr
    refine ⟨_, pss_cons (ps_set (i := 1) scEnd.nd rfl (Or.inr rfl) (pe_has DS hr rfl (pa_cons (pv 0) pa_nil)))
      (pss_cons (ps_setLc (i := 2) (own := [("record", 3), ("fields", 4)]) (g := gTup K 2 (gCons (gName 3) (gCons (gName 4) gNil))) (tt := tYes) (te := tVar 3) rfl scEnd.nd rfl rfl (sw_true rfl rfl rfl (by decide +kernel)) (pi_tup (pe_fld (pv 0) rfl)) (blkOk_by (N := nEnd) (sc := defScope sEnd) (by decide +kernel))
          (fun _ _ _ _ _ => pg_tup rfl (pgs_cons (pg_name (i := 3) scEnd.nd rfl (.inl rfl)) (pgs_cons (pg_name (i := 4) scEnd.nd rfl (.inl rfl)) pgs_nil))) (fun _ _ _ _ _ => pts_nil) (fun _ _ _ _ _ => pv 3))
      (pss_one (ps_ret (pe_lc (own := [("name", 5)]) (g := gName 5) (te := tTup (tCons (tC (.str "endless")) (tCons (tVar 5) tNil))) rfl scEnd.nd (pi_list (pv 2)) (blkOk_by (N := nEnd) (sc := defScope sEnd) (by decide +kernel))
          (fun _ _ _ _ _ => pg_name (i := 5) scEnd.nd rfl (Or.inl rfl)) (fun _ _ _ _ _ => pts_one (PW.pt (pw_or (pt_cmp (pc_dnotin hu (pv 5) (pv 1))) (pw_or1 (pt_cmpR op_gt (pe_dget hu (pv 1) (pv 5) (fun _ _ => rfl)) (pe_glob (v := .int 60) rfl hL ⟨_, rfl⟩) (nomark _)))))) (fun _ _ _ _ _ => pe_tup (pa_cons pe_str (pa_cons (pv 5) pa_nil))))))), ?_⟩
    obtain ⟨dx, v1, v2, v3, v4, v5, hA, t3, t4⟩ := id hF
    refine ⟨_, rfl, a, cs, recs, rfl, hF, lc, c1, ok, fun d kvs H1 S1 hdn hd1 D1 => ?_⟩
    generalize turns cs (recs.map rD) recs recs.length = Dm at *
    obtain ⟨b, xs, rfl, hb, tq⟩ := TpR.inv t4
    have el : xs.length = recs.length := by rw [tq.length, List.length_map, List.length_map]
    refine ⟨_, rfl, a, C, dx, _, _, rfl, S1 _ _ hA, cl, n4, ff_records, b, rfl, ⟨_, .inl (Rd.same hb S1)⟩, fun D hD0 => ?_⟩
    refine lc_tup (xs := xs) (fun i H3 => Same H1 H3 ∧ H3 D = some (.lst (((recs.take i).map (·.1)).map V.str))) ?_ ?_ ?_ ?_
    · exact ⟨Same.new hD0, upd_same⟩
    · rintro i H3 _ ⟨S3, _⟩
      exact .inl (Rd.same (Rd.same hb S1) S3)
    · rintro i z H3 hz ⟨S3, h3⟩
      obtain ⟨r, t, u, hr', rfl, ht, tu⟩ := recs_at tq hz
      have hlt := (List.getElem?_eq_some_iff.mp hr').1
      refine ⟨t, _, rfl, SqT.of (S3 _ _ (S1 _ _ ht)), rfl, _, _, rfl, _, _, rfl, rfl, rfl, yes (iteT ?_)⟩
      refine ⟨_, rfl, _, h3, ?_, Same.wr S3 hD0, ?_⟩
      · rw [List.length_map, List.length_map, List.length_take]
        exact Nat.lt_of_le_of_lt (Nat.min_le_left _ _) (Nat.lt_of_lt_of_le (show i < 6 by omega) (by decide))
      · rw [upd_same, List.take_add_one, hr']
        simp
    rintro H2 ⟨S2, hD⟩
    rw [el, List.take_length] at hD
    have S02 : Same H H2 := fun b o e => S2 b o (S1 b o e)
    have hd2 := S2 _ _ hd1
    refine ⟨_, rfl, D, rfl, ⟨_, SqL.of hD⟩, fun D2 hD2 => ?_⟩
    refine lc_list (xs := (recs.map (·.1)).map V.str) (fun j H5 => Same H2 H5 ∧ ∃ T, TxL H5 D2 T ∧ T.map (·.2) = endL Dm (recs.take j) ∧ T.length ≤ j) ?_ ?_ ?_ ?_
    · exact ⟨Same.new hD2, [], ⟨upd_same, fun q h => nomatch h⟩, rfl, Nat.le_refl _⟩
    · rintro j H5 _ ⟨S5, _⟩
      exact SqL.of (S5 _ _ hD)
    · rintro j y H5 hy ⟨S5, T, X5, e5, l5⟩
      rw [List.getElem?_map, List.getElem?_map] at hy
      cases hrj : recs[j]? with
      | none => rw [hrj] at hy; cases hy
      | some r =>
        rw [hrj] at hy
        cases hy
        have hj := (List.getElem?_eq_some_iff.mp hrj).1
        have hd5 := S5 _ _ hd2
        have e1 : endL Dm (recs.take (j + 1)) = endL Dm (recs.take j) ++ endL Dm [r] := by
          rw [List.take_add_one, hrj, endL_add]
          rfl
        have yes1 : bad (Dm r.1) = true → ∀ t, H5 t = none → ∃ acc, (upd H5 t (.tup [.str "endless", .str r.1])) D2 = some (.lst acc) ∧ acc.length < sizeLine ∧ (Same H2 (upd (upd H5 t (.tup [.str "endless", .str r.1])) D2 (.lst (acc ++ [.ref t]))) ∧ ∃ T, TxL (upd (upd H5 t (.tup [.str "endless", .str r.1])) D2 (.lst (acc ++ [.ref t]))) D2 T ∧ T.map (·.2) = endL Dm (recs.take (j + 1)) ∧ T.length ≤ j + 1) := fun hb t ht => by
          have nD : D2 ≠ t := fun e => by rw [← e, X5.l] at ht; cases ht
          refine ⟨_, by rw [upd_ne nD]; exact X5.l, ?_, Same.two S5 hD2 ht, _, TxL.more (y := [("endless" : Str), r.1]) X5 ht, ?_, ?_⟩
          · rw [List.length_map]
            exact Nat.lt_of_le_of_lt l5 (Nat.lt_of_lt_of_le (show j < 6 by omega) (by decide))
          · rw [List.map_append, e5, e1]
            congr 1
            unfold endL
            rw [List.filter_cons, if_pos hb]
            rfl
          · rw [List.length_append]
            exact Nat.succ_le_succ l5
        refine ⟨rfl, ?_⟩
        refine ⟨_, rfl, _, rfl, d, _, rfl, DGet.k (k := Sum.inr r.1) hd5, _, rfl, ?_⟩
        have ev := D1 r.1
        cases hv : Dm r.1 with
        | none =>
          rw [hv] at ev
          rw [ev]
          refine iteT (iteT ?_)
          exact ⟨_, rfl, (by show 2 ≤ sizeLine; decide), fun t ht => yes1 (by rw [hv]; rfl) t ht⟩
        | some v =>
          rw [hv] at ev
          rw [ev]
          refine iteF ?_
          refine ⟨_, rfl, _, rfl, d, .int v, rfl, by have z := DGet.k (k := Sum.inr r.1) hd5; rw [ev] at z; exact z, _, _, rfl, rfl, _, rfl, ?_⟩
          refine ite2 (fun h => ?_) (fun h => ?_)
          · exact ⟨_, rfl, (by show 2 ≤ sizeLine; decide), fun t ht => yes1 (by rw [hv]; exact h) t ht⟩
          · refine ⟨S5, T, X5, ?_, Nat.le_succ_of_le l5⟩
            rw [e5, e1]
            have e0 : endL Dm [r] = [] := by
              unfold endL
              rw [List.filter_cons, if_neg (by rw [hv]; exact h)]
              rfl
            rw [e0, List.append_nil]
    · rintro H5 ⟨S5, T, X5, e5, l5⟩
      rw [List.length_map, List.length_map, List.take_length] at e5
      exact q D2 T H5 (fun b o e => S5 b o (S02 b o e)) (Same.free S02 hD2) X5 e5
end
end Fh

set_option Elab.async false
set_option linter.all false
set_option maxRecDepth 100000
set_option maxHeartbeats 4000000
namespace Fh
open PySem PySem.Spec PyProof.Rows L2
/-! ### rows of ints and texts in python's order -/
def tok : Key → Int ⊕ List Nat
  | .inl i => .inl i
  | .inr z => .inr z.cps.toList
theorem tok_inj {a b : Key} (h : tok a = tok b) : a = b := by
  cases a <;> cases b
  · exact congrArg Sum.inl (Sum.inl.inj h)
  · cases h
  · cases h
  · have e := Sum.inr.inj h
    rename_i x y
    cases x; cases y
    exact congrArg Sum.inr (congrArg Str.mk (Array.toList_inj.mp e))
theorem toks_injK : ∀ {x y : List Key}, x.map tok = y.map tok → x = y
  | [], [], _ => rfl
  | [], _ :: _, h => by cases h
  | _ :: _, [], h => by cases h
  | a :: x, b :: y, h => by
    rw [List.map_cons, List.map_cons] at h
    injection h with h1 h2
    rw [tok_inj h1, toks_injK h2]
def rowLt (x y : List Key) : Bool := (PyProof.Rows.listOrd PyProof.Rows.itemOrd).blt (x.map tok) (y.map tok)
/-- where two rows part, both have an int or both a text -/
def Cm : List Key → List Key → Prop
  | a :: x, b :: y => (a = b ∧ Cm x y) ∨ (a ≠ b ∧ ((∃ i j, a = .inl i ∧ b = .inl j) ∨ ∃ s t, a = .inr s ∧ b = .inr t))
  | _, _ => True
theorem rowLt_same (a : Key) (x y : List Key) : rowLt (a :: x) (a :: y) = rowLt x y := by
  show (PyProof.Rows.itemOrd.blt (tok a) (tok a) || (!PyProof.Rows.itemOrd.blt (tok a) (tok a) && rowLt x y)) = rowLt x y
  rw [PyProof.Rows.itemOrd.irrefl]
  rfl
theorem rowLt_part {a b : Key} (ne : a ≠ b) (x y : List Key) : rowLt (a :: x) (b :: y) = PyProof.Rows.itemOrd.blt (tok a) (tok b) := by
  show (PyProof.Rows.itemOrd.blt (tok a) (tok b) || (!PyProof.Rows.itemOrd.blt (tok b) (tok a) && rowLt x y)) = _
  cases h : PyProof.Rows.itemOrd.blt (tok a) (tok b) with
  | true => rfl
  | false =>
    cases h2 : PyProof.Rows.itemOrd.blt (tok b) (tok a) with
    | true => rfl
    | false => exact absurd (tok_inj (PyProof.Rows.itemOrd.total _ _ h h2)) ne
theorem rowLt_asym {x y : List Key} (h : rowLt x y = true) : rowLt y x = false := by
  cases h2 : rowLt y x with
  | false => rfl
  | true =>
    have := (PyProof.Rows.listOrd PyProof.Rows.itemOrd).trans _ _ _ h h2
    rw [(PyProof.Rows.listOrd PyProof.Rows.itemOrd).irrefl] at this
    cases this
theorem rowLt_tr {x y z : List Key} (h1 : rowLt y x = false) (h2 : rowLt z y = false) : rowLt z x = false := by
  cases h : rowLt z x with
  | false => rfl
  | true =>
    rcases (PyProof.Rows.listOrd PyProof.Rows.itemOrd).negTrans _ (y.map tok) _ h with q | q
    · exact absurd (show rowLt z y = true from q) (by rw [h2]; exact Bool.false_ne_true)
    · exact absurd (show rowLt y x = true from q) (by rw [h1]; exact Bool.false_ne_true)
theorem rowLt_tot {x y : List Key} (h1 : rowLt x y = false) (h2 : rowLt y x = false) : x = y := toks_injK ((PyProof.Rows.listOrd PyProof.Rows.itemOrd).total _ _ h1 h2)
def rowLe (x y : List Key) : Bool := !rowLt y x
/-- sorted rows stand in one way -/
theorem rows_one {l m : List (List Key)} (h : l.Perm m) (h1 : l.Pairwise fun x y => rowLe x y = true) (h2 : m.Pairwise fun x y => rowLe x y = true) : l = m := by
  have no : ∀ {b : Bool}, (!b) = true → b = false := fun {b} h => by cases b <;> first | rfl | cases h
  have tt : ∀ x y : List Key, (rowLe x y || rowLe y x) = true := fun x y => by
    unfold rowLe
    cases e : rowLt y x with
    | false => rfl
    | true => rw [rowLt_asym e]; rfl
  have tn : ∀ x y z : List Key, rowLe x y = true → rowLe y z = true → rowLe x z = true := fun x y z a b => by
    show (!rowLt z x) = true
    rw [rowLt_tr (no a) (no b)]
    rfl
  have an : ∀ x y : List Key, rowLe x y = true → rowLe y x = true → x = y := fun x y a b => rowLt_tot (no b) (no a)
  exact (PySem.W.Srt.the_of_perm rowLe tn tt an h h1).trans (PySem.W.Srt.the_of_perm rowLe tn tt an (List.Perm.refl m) h2).symm
section
variable {P : Program} {w : World} {A : Around} {E : Value → Shared → Prop} {s : Shared}
theorem items_len {k : List Key} {vs : List Value} (h : PySem.ItemsAre (mixKind P w) k vs) : vs.length = k.length := by
  induction h with
  | nil => rfl
  | cons _ _ ih => rw [List.length_cons, List.length_cons, ih]
theorem items_inj : ∀ {k k' : List Key} {vs : List Value}, PySem.ItemsAre (mixKind P w) k vs → PySem.ItemsAre (mixKind P w) k' vs → k = k'
  | _, _, _, .nil, .nil => rfl
  | a :: k, b :: k', _, .cons h1 r1, .cons h2 r2 => by
    rw [items_inj r1 r2]
    congr 1
    rcases keyIs_shape (show keyIs a _ = true from h1) with ⟨i, t, rfl, e⟩ | ⟨z, t, rfl, e⟩ <;> rcases keyIs_shape (show keyIs b _ = true from h2) with ⟨j, u, rfl, e2⟩ | ⟨y, u, rfl, e2⟩ <;> rw [e] at e2 <;> cases e2 <;> rfl
theorem TK.inj {h : Heap} {k k' : List Key} {x : Addr} (h1 : TK P w h k x) (h2 : TK P w h k' x) : k = k' := by
  obtain ⟨o, its, n, ho, _, hd, hi⟩ := h1
  obtain ⟨o2, its2, n2, ho2, _, hd2, hi2⟩ := h2
  rw [ho] at ho2
  cases ho2
  rw [hd] at hd2
  cases hd2
  exact items_inj hi hi2
/-- two rows compared -/
theorem kat_rows {b fin : Bool} {Q : Bool → Shared → Prop} (hu : A.units < cLine) : ∀ {x y : List Key} {vs ws : List Value} (i : Nat), PySem.ItemsAre (mixKind P w) x vs → PySem.ItemsAre (mixKind P w) y ws → Cm x y → fin = decide (x.length < y.length) → Q (rowLt x y) s → PySem.W.KatLex P w A b fin Q (vs.zip ws) i s
  | [], [], _, _, i, .nil, .nil, _, e, q => PySem.W.kat_nil (by rw [e]; exact q)
  | [], _ :: _, _, _, i, .nil, .cons _ _, _, e, q => PySem.W.kat_nil (by rw [e]; exact q)
  | _ :: _, [], _, _, i, .cons _ _, .nil, _, e, q => PySem.W.kat_nil (by rw [e]; exact q)
  | a :: x, c :: y, _, _, i, .cons h1 r1, .cons h2 r2, cm, e, q => by
    have e' : fin = decide (x.length < y.length) := by
      rw [e]
      simp
    refine PySem.W.kat_cons ?_
    rcases cm with ⟨rfl, cm⟩ | ⟨ne, cm⟩
    · have go := kat_rows (b := b) (Q := Q) hu (i + 1) r1 r2 cm e' (by rw [← rowLt_same a]; exact q)
      rcases keyIs_shape (show keyIs a _ = true from h1) with ⟨i1, t, rfl, rfl⟩ | ⟨z, t, rfl, rfl⟩
      · rcases keyIs_shape (show keyIs (Sum.inl i1) _ = true from h2) with ⟨j, u, e2, rfl⟩ | ⟨_, _, e2, _⟩ <;> cases e2
        refine PySem.wpAny_eqBool_int ?_
        rw [show (i1 == i1) = true from beq_self_eq_true i1]
        exact PySem.W.kat_yes go
      · rcases keyIs_shape (show keyIs (Sum.inr z) _ = true from h2) with ⟨_, _, e2, _⟩ | ⟨y2, u, e2, rfl⟩ <;> cases e2
        refine PySem.wpAny_eqBool_str ?_
        rw [decide_eq_true rfl]
        exact PySem.W.kat_yes go
    · rw [rowLt_part ne] at q
      rcases cm with ⟨i1, j, rfl, rfl⟩ | ⟨z, y2, rfl, rfl⟩
      · rcases keyIs_shape (show keyIs (Sum.inl i1) _ = true from h1) with ⟨i2, t, e2, rfl⟩ | ⟨_, _, e2, _⟩ <;> cases e2
        rcases keyIs_shape (show keyIs (Sum.inl j) _ = true from h2) with ⟨j2, u, e2, rfl⟩ | ⟨_, _, e2, _⟩ <;> cases e2
        refine PySem.wpAny_eqBool_int ?_
        rw [show (i1 == j) = false from beq_eq_false_iff_ne.mpr fun h => ne (by rw [h])]
        refine PySem.W.kat_no (PySem.W.oneLt_alike (da := .int i1) (db := .int j) (fun _ _ h => nomatch h) (.int i1 t) (.int j u) (by simp [PySem.W.alike]) (fun h => nomatch h) (by simp [PyData.depth]; exact hu) ?_)
        have : PySem.W.dataLt (.int i1) (.int j) = PyProof.Rows.itemOrd.blt (tok (.inl i1)) (tok (.inl j)) := by
          show (PyProof.Rows.itemOrd.blt (.inl i1) (.inl j) || (!PyProof.Rows.itemOrd.blt (.inl j) (.inl i1) && false)) = _
          rw [Bool.and_false, Bool.or_false]
          rfl
        rw [this]
        exact q
      · rcases keyIs_shape (show keyIs (Sum.inr z) _ = true from h1) with ⟨_, _, e2, _⟩ | ⟨z2, t, e2, rfl⟩ <;> cases e2
        rcases keyIs_shape (show keyIs (Sum.inr y2) _ = true from h2) with ⟨_, _, e2, _⟩ | ⟨y3, u, e2, rfl⟩ <;> cases e2
        refine PySem.wpAny_eqBool_str ?_
        rw [decide_eq_false fun h => ne (by rw [h])]
        refine PySem.W.kat_no (PySem.W.oneLt_alike (da := .str z) (db := .str y2) (fun _ _ h => nomatch h) (.str z t) (.str y2 u) (by simp [PySem.W.alike]) (fun h => nomatch h) (by simp [PyData.depth]; exact hu) ?_)
        have : PySem.W.dataLt (.str z) (.str y2) = PyProof.Rows.itemOrd.blt (tok (.inr z)) (tok (.inr y2)) := by
          show (PyProof.Rows.itemOrd.blt (.inr z.cps.toList) (.inr y2.cps.toList) || (!PyProof.Rows.itemOrd.blt (.inr y2.cps.toList) (.inr z.cps.toList) && false)) = _
          rw [Bool.and_false, Bool.or_false]
          rfl
        rw [this]
        exact q
/-- what row stands at a value -/
noncomputable def decR (T : List Row) (v : Value) : List Key := by
  classical
  exact if h : ∃ p ∈ T, v = .ref p.1 then (Classical.choose h).2 else []
noncomputable def ltvR (T : List Row) (v u : Value) : Bool := rowLt (decR T v) (decR T u)
theorem decR_at {T : List Row} (tup : ∀ p ∈ T, TK P w s.heap p.2 p.1) {p : Row} (hp : p ∈ T) : decR T (.ref p.1) = p.2 := by
  have h : ∃ q ∈ T, Value.ref p.1 = .ref q.1 := ⟨p, hp, rfl⟩
  unfold decR
  rw [dif_pos h]
  obtain ⟨h1, h2⟩ := Classical.choose_spec h
  have e : (Classical.choose h).1 = p.1 := (Value.ref.inj h2).symm
  have t1 := tup _ h1
  rw [e] at t1
  exact TK.inj t1 (tup p hp)
theorem swoR (T : List Row) : SrtO.Swo (ltvR T) := ⟨fun _ _ h => rowLt_asym h, fun _ _ _ h1 h2 => rowLt_tr h1 h2⟩
theorem kat_tups {h : Heap} : ∀ (T : List Row), (∀ p ∈ T, TK P w h p.2 p.1) → (∀ p ∈ T, ∃ z r, p.2 = .inr z :: r) → ∃ fs, PySem.W.KatTups h (T.map fun p => .ref p.1) fs ∧ fs.length = T.length ∧ ∀ v ∈ fs, ∃ z t, v = Value.str z t
  | [], _, _ => ⟨[], .nil, rfl, fun v h => nomatch h⟩
  | p :: T, tup, fst => by
    obtain ⟨fs, f1, f2, f3⟩ := kat_tups T (fun q hq => tup q (List.mem_cons_of_mem _ hq)) fun q hq => fst q (List.mem_cons_of_mem _ hq)
    obtain ⟨o, its, n, ho, hc, hd, hi⟩ := tup p List.mem_cons_self
    obtain ⟨z, r, e⟩ := fst p List.mem_cons_self
    rw [e] at hi
    obtain ⟨v, vr, ev, h1⟩ : ∃ v vr, its.toList = v :: vr ∧ (mixKind P w).is (.inr z) v = true := by
      generalize its.toList = l at hi
      cases hi with
      | cons h1 _ => exact ⟨_, _, rfl, h1⟩
    rcases keyIs_shape (show keyIs (Sum.inr z) v = true from h1) with ⟨_, _, e2, _⟩ | ⟨z2, t, e2, rfl⟩ <;> cases e2
    refine ⟨.str z t :: fs, .cons ho hc hd ?_ f1, by rw [List.length_cons, List.length_cons, f2], fun v hv => ?_⟩
    · rw [← Array.getElem?_toList, ev]
      rfl
    · rcases List.mem_cons.mp hv with rfl | hv
      · exact ⟨z, t, rfl⟩
      · exact f3 v hv
theorem rows_sortable {a : Addr} {T : List Row} {vs : Array Value} {n : Nat} (ha : s.heap.get? a = some (seqObj "list" vs n)) (tup : ∀ p ∈ T, TK P w s.heap p.2 p.1) (cm : ∀ p ∈ T, ∀ q ∈ T, Cm p.2 q.2) (fst : ∀ p ∈ T, ∃ z r, p.2 = .inr z :: r) (two : 0 < T.length) (hu : A.units < cLine) :
    SrtO.SortableO P w A s a (T.map fun p => .ref p.1) (ltvR T) := fun h' keep => by
  have tup' : ∀ p ∈ T, TK P w h' p.2 p.1 := fun p hp => (tup p hp).at fun o ho => keep _ _ (fun e => by
    obtain ⟨o2, its, m, ho2, hc, _⟩ := tup p hp
    rw [e, ha] at ho2
    cases ho2
    exact absurd (show Value.type "list" = Value.type "tuple" from hc) (by decide)) ho
  obtain ⟨fs, f1, f2, f3⟩ := kat_tups T tup' fst
  refine ⟨tuples' (Value.type "str" != Value.type "tuple"), fun Q E q => PySem.W.kat_kind (s := { s with heap := h' }) f1 (by omega) (fun v hv => ?_) (by decide) q, fun p q hp hq => ?_⟩
  · obtain ⟨z, t, rfl⟩ := f3 v hv
    exact PySem.W.looks_reads (.str z t)
  · obtain ⟨x, hx, e1⟩ := List.mem_map.mp hp
    obtain ⟨y, hy, e2⟩ := List.mem_map.mp hq
    obtain ⟨o, its, n1, ho, hc, hd, hi⟩ := tup' x hx
    obtain ⟨o2, its2, n2, ho2, hc2, hd2, hi2⟩ := tup' y hy
    rw [← e1, ← e2]
    refine PySem.W.kat_lt (s := { s with heap := h' }) ho hd ho2 hd2 (kat_rows hu 0 hi hi2 (cm x hx y hy) ?_ ⟨rfl, ?_⟩)
    · have l1 := items_len hi
      have l2 := items_len hi2
      rw [Array.length_toList] at l1 l2
      rw [l1, l2]
    · show rowLt x.2 y.2 = rowLt (decR T p.1) (decR T q.1)
      rw [← e1, ← e2, decR_at tup hx, decR_at tup hy]
theorem refs_unmap : ∀ {vs : List Value} {T : List Row}, vs.Perm (T.map fun p => Value.ref p.1) → ∃ T' : List Row, T'.Perm T ∧ vs = T'.map fun p => Value.ref p.1 := fun h => perm_unmap h
/-- sorted(a set of rows) -/
theorem call_sortedR {a : Addr} {T : List Row} {Q : Value → Shared → Prop} (hs : InS P w s.heap a T) (tup : ∀ p ∈ T, TK P w s.heap p.2 p.1) (cm : ∀ p ∈ T, ∀ q ∈ T, Cm p.2 q.2) (fst : ∀ p ∈ T, ∃ z r, p.2 = .inr z :: r) (few : T.length < 300) (hh : A.handled = none) (hu : A.units + 9 < cLine)
    (hQ : ∀ s' q (out : Array Value) (c : Nat) (T' : List Row), (∀ b o, s.heap.get? b = some o → s'.heap.get? b = some o) → s'.gens = s.gens → s'.os = s.os → s.heap.objs.size ≤ q → s'.heap.get? q = some (seqObj "list" out c) →
      out.toList = T'.map (fun p => Value.ref p.1) → T'.Perm T → (T'.map (·.2)).Pairwise (fun x y => rowLe x y = true) → Q (.ref q) s') : wpAny (model P w) A (call (.builtin "sorted") [.ref a]) Q E s := by
  obtain ⟨o, es, ep, t, ho, hex, hd, F, room⟩ := hs
  have sz := F.size
  refine Calls.call_function_entry kind_sorted plain_sorted entry_sorted (args_sorted1 _) ?_
  unfold Builtin.«sorted»
  refine wpAny_bind (m := checkCount "sorted" 1 1 _) (wpAny_pure ?_)
  refine wpAny_bind (collect_set (A := A.in1) hh ⟨o, ho, hex.1, hd⟩ F.fits (by unfold scanBound; omega) F.tab.ris F.led fun s1 vs k1 hz g1 o1 pm => ?_)
  have ev : es.toList.map (·.2) = T.map fun p => Value.ref p.1 := by
    rw [F.rows, List.map_map]
    rfl
  rw [ev] at pm
  obtain ⟨T1, pT, rfl⟩ := refs_unmap pm
  have l1 : T1.length < 300 := by rw [pT.length_eq]; exact few
  refine wpAny_bind (wpAny_newList ?_ (by rw [List.length_map, sizeLine_eq]; omega))
  have at1 : (s1.heap.push (seqObj "list" (T1.map fun p => Value.ref p.1).toArray 0)).get? s1.heap.objs.size = some (seqObj "list" (T1.map fun p => Value.ref p.1).toArray 0) := Heap.get?_push_size _ rfl
  have tup1 : ∀ p ∈ T1, TK P w (s1.heap.push (seqObj "list" (T1.map fun p => Value.ref p.1).toArray 0)) p.2 p.1 := fun p hp => (tup p (pT.mem_iff.mp hp)).at fun o e => Heap.get?_push_of_some _ (k1 _ o e)
  refine wpAny_bind (wpAny_holding (wpAny_call (codeAny_call_builtin (by decide +kernel) PySem.F.entry_list_sort (PySem.F.slot_list_sort.check _ _ _ _ _ _ _ _ ⟨_, at1, rfl⟩ (PyProof.Rows.args_list_sort _) (SrtO.list_sort_ord (s := { s1 with heap := s1.heap.push (seqObj "list" (T1.map fun p => Value.ref p.1).toArray 0) }) (swoR T1) at1 (by rw [List.length_map, sizeLine_eq]; omega) (fun two => ?_) fun out so st => ?_)))))
  · exact rows_sortable (s := { s1 with heap := s1.heap.push (seqObj "list" (T1.map fun p => Value.ref p.1).toArray 0) }) at1 tup1 (fun p hp q hq => cm p (pT.mem_iff.mp hp) q (pT.mem_iff.mp hq)) (fun p hp => fst p (pT.mem_iff.mp hp)) (by rw [List.length_map] at two; omega) (by show A.units + 1 + 1 < cLine; omega)
  · obtain ⟨T2, p2, rfl⟩ := refs_unmap st.perm
    obtain ⟨c, hc⟩ := sortedHeap_at (vs := T1.map fun p => Value.ref p.1) (out := (T2.map fun p => Value.ref p.1).toArray) at1
    refine wpAny_pure ⟨_, rfl, hQ _ s1.heap.objs.size (T2.map fun p => Value.ref p.1).toArray c T2 (fun b u e => ?_) g1 o1 hz hc (by simp) (p2.trans pT) ?_⟩
    · have q := k1 b u e
      have lt := Heap.lt_size q
      show (sortedHeap _ s1.heap.objs.size _ _).get? b = some u
      rw [sortedHeap_old (Nat.ne_of_lt lt) (by rw [size_push']; exact Nat.lt_succ_of_lt lt)]
      exact Heap.get?_push_of_some _ q
    · have so : (T2.map fun p => Value.ref p.1).Pairwise fun x y => ltvR T1 y x = false := so
      rw [List.pairwise_map] at so ⊢
      refine so.imp_of_mem fun {x y} hx hy h => ?_
      have h : rowLt (decR T1 (.ref y.1)) (decR T1 (.ref x.1)) = false := h
      rw [decR_at (s := { s1 with heap := s1.heap.push (seqObj "list" (T1.map fun p => Value.ref p.1).toArray 0) }) tup1 (p2.mem_iff.mp hx), decR_at (s := { s1 with heap := s1.heap.push (seqObj "list" (T1.map fun p => Value.ref p.1).toArray 0) }) tup1 (p2.mem_iff.mp hy)] at h
      show (!rowLt y.2 x.2) = true
      rw [h]
      rfl
end
end Fh

set_option Elab.async false
set_option linter.all false
set_option maxRecDepth 100000
set_option maxHeartbeats 4000000
namespace Fh
open PySem PySem.Spec PyProof.Rows L2
/-! ### set(xs), sorted(set): rows of ints and texts -/
def SetKx (P : Program) (w : World) (a : Addr) (T : List Row) : HO := .ext fun h => InS P w h a T
theorem setKx_new {P : Program} {w : World} {H : Hp} {h : Heap} {a : Addr} {T : List Row} (R : InS P w h a T) : ObjOk P w H h a (SetKx P w a T) := by
  have ⟨o, es, ep, t, ho, r⟩ := R
  exact ⟨R, ⟨o, ho⟩, fun h1 h2 p k => InS.at p fun o e => k o e⟩
theorem items_keys {P : Program} {w : World} : ∀ {x : List Key} {us : List Value}, Vals (x.map kV) us → PySem.ItemsAre (mixKind P w) x us
  | [], [], .nil => .nil
  | .inr y :: x, _, .cons r t => by
    obtain ⟨tk, rfl⟩ := r
    exact .cons (mixKind_str P w y tk) (items_keys t)
  | .inl i :: x, _, .cons r t => by
    obtain ⟨tk, rfl⟩ := r
    exact .cons (mixKind_int P w i tk) (items_keys t)
theorem refs_valsK : ∀ {T : List Row} {us : List Value}, Vals (T.map fun p => V.ref p.1) us → us = T.map fun p => Value.ref p.1
  | [], _, .nil => rfl
  | p :: T, _, .cons r t => by
    cases r
    rw [refs_valsK t]
    rfl
theorem vals_refsK : ∀ (T : List Row), Vals (T.map fun p => V.ref p.1) (T.map fun p => Value.ref p.1)
  | [] => .nil
  | p :: T => .cons rfl (vals_refsK T)
section
variable {X : Cx}
theorem Inv.key {pins : List (Addr × Obj)} {σ : L2.St} {H : Hp} {s : Shared} {p : Row} (I : Inv X pins σ H s) (h : SqT X.K H p.1 (p.2.map kV)) : TK X.prog X.w s.heap p.2 p.1 := by
  obtain ⟨its, r, ⟨o, ho, hc, n, hd⟩, _⟩ := I.tuple h
  exact ⟨o, its.toArray, n, ho, hc, hd, by show PySem.ItemsAre _ _ its.toArray.toList; simpa using items_keys r⟩
def rSetKx (K : PySem.W.Frag) (P : Program) (w : World) : List V → Hp → VK → Prop := fun xs H Q => ∃ (l : Addr) (T : List Row), xs = [V.ref l] ∧ SqL K H l (T.map fun p => V.ref p.1) ∧ (∀ p ∈ T, SqT K H p.1 (p.2.map kV)) ∧ T.length < 300 ∧
  ∀ (a : Addr) (T' : List Row), H a = none → (∀ p ∈ T', p ∈ T) → (∀ p ∈ T, p.2 ∈ T'.map (·.2)) → (T'.map (·.2)).Nodup → T'.length < 300 → Q (.ref a) (upd H a (SetKx P w a T'))
theorem cr_setKx (hc : X.calm = true) (hu : X.A.units + 64 < cLine) : CallR X (.type "set") (rSetKx X.K X.prog X.w) := by
  intro pins s σ H xs us Q I r h
  obtain ⟨l, T, rfl, hl, hk, few, q⟩ := h
  rw [Vals.ref1 r]
  obtain ⟨its, rv, pl, hz⟩ := I.list hl
  have hn : H s.heap.objs.size = none := I.hok.fresh (Nat.le_refl _)
  have ei : its = T.map fun p => Value.ref p.1 := refs_valsK rv
  have tu : ∀ p ∈ T, TK X.prog X.w s.heap p.2 p.1 := fun p hp => Inv.key I (hk p hp)
  refine call_setT (P := X.prog) (w := X.w) (ks := T) (I.ok.hd hc) pl.isList (by simp [ei]) few (fun i v hv => ?_) tu (by omega) fun h' tk L so me k => ?_
  · rw [ei] at hv
    have hv2 : (T.map fun p => Value.ref p.1)[i]? = some v := by simpa using hv
    rw [List.getElem?_map] at hv2
    cases e : T[i]? with
    | none => rw [e] at hv2; cases hv2
    | some t =>
      rw [e] at hv2
      exact ⟨t, rfl, (Option.some.inj hv2).symm⟩
  · have sub : ∀ p ∈ L, p ∈ T := fun p hp => List.mem_of_mem_take (me.sub p hp)
    refine ⟨.ref s.heap.objs.size, upd H s.heap.objs.size (SetKx X.prog X.w s.heap.objs.size L), I.laid (t' := tk) k (Nat.le_refl _) (setKx_new so), rfl, q _ L hn sub (fun p hp => me.all p (by rw [List.take_length]; exact hp)) me.nd ?_⟩
    have := me.len
    omega
def rSortedSKx (K : PySem.W.Frag) (P : Program) (w : World) : List V → Hp → VK → Prop := fun vs H Q => ∃ (a : Addr) (T : List Row), vs = [V.ref a] ∧ H a = some (SetKx P w a T) ∧ (∀ p ∈ T, SqT K H p.1 (p.2.map kV)) ∧ (∀ p ∈ T, ∀ q ∈ T, Cm p.2 q.2) ∧ (∀ p ∈ T, ∃ z r, p.2 = .inr z :: r) ∧ T.length < 300 ∧
  ∀ (T' : List Row) (q : Addr), T'.Perm T → (T'.map (·.2)).Pairwise (fun x y => rowLe x y = true) → H q = none → Q (.ref q) (upd H q (.lst (T'.map fun p => V.ref p.1)))
theorem cr_sortedSKx (hc : X.calm = true) (hu : X.A.units + 64 < cLine) : CallR X (.builtin "sorted") (rSortedSKx X.K X.prog X.w) := by
  intro pins s σ H vs us Q I r h
  obtain ⟨a, T, rfl, ha, hk, cm, fst, few, q⟩ := h
  have R0 : InS X.prog X.w s.heap a T := (I.hok a _ ha).1
  rw [Vals.ref1 r]
  refine call_sortedR R0 (fun p hp => Inv.key I (hk p hp)) cm fst few (I.ok.hd hc) (by omega) fun s' p out c T' k g o hp hg hout pm pw => ?_
  have few' : T'.length < 300 := by rw [pm.length_eq]; exact few
  have hlen : (T'.map fun q => V.ref q.1).length ≤ sizeLine := by rw [List.length_map, sizeLine_eq]; omega
  have hn : H p = none := I.hok.fresh hp
  have hv : Vals (T'.map fun q => V.ref q.1) out.toList := by rw [hout]; exact vals_refsK T'
  have J : Inv X pins σ (upd H p (.lst (T'.map fun q => V.ref q.1))) { s with heap := s'.heap, gens := s'.gens, drawn := s'.drawn, toks := s'.toks } :=
    I.call (ch := []) (Un.laid k hp hn) (I.hok.laid k hp ⟨hlen, out.toList, c, hv, hg⟩) (by rw [g]; exact I.bare) (fun _ z => nomatch z)
  have e : s' = { s with heap := s'.heap, gens := s'.gens, drawn := s'.drawn, toks := s'.toks } := by
    cases s'
    cases s
    cases o
    rfl
  rw [e]
  exact ⟨.ref p, _, J, rfl, q T' p pm pw hn⟩
end
end Fh

set_option Elab.async false
set_option linter.all false
set_option maxRecDepth 100000
set_option maxHeartbeats 4000000
namespace Fh
open PySem L2 PyProof.Rows
abbrev sRis : Stmt := top 40
abbrev nRis : List Str := ["_law_bag_here", "_law_size", "_law_most", "_law_found", "_law_last", "_law_spot", "_law_wide"]
def Rise (last : Int) (ns : List Int) : Prop := (∀ x ∈ ns, 1 ≤ x ∧ x ≤ last) ∧ ns.Pairwise (· < ·)
theorem Rise.nil {last : Int} : Rise last [] := ⟨(fun x h => by cases h), List.Pairwise.nil⟩
theorem Rise.more {last d : Int} {ns : List Int} (h : Rise last ns) (l0 : 0 ≤ last) (d0 : 0 ≤ d) : Rise (last + 1 + d) (ns ++ [last + 1 + d]) := by
  refine ⟨fun x hx => ?_, ?_⟩
  · rcases List.mem_append.mp hx with hx | hx
    · have := h.1 x hx
      omega
    · rw [List.mem_singleton.mp hx]
      omega
  · rw [List.pairwise_append]
    refine ⟨h.2, List.pairwise_singleton _ _, fun a ha b hb => ?_⟩
    rw [List.mem_singleton.mp hb]
    have := h.1 a ha
    omega
def spRis : Sp := fun vs H Q _ => ∃ (b : Addr) (size : Nat) (n : Nat), vs = [.ref b, .int size, .int 30] ∧ size ≤ 20 ∧ Bag H b n ∧ n + 50 ≤ most ∧
  ∀ (p : Addr) (ns : List Int) (H' : Hp), H p = none → H' p = some (.lst (ns.map V.int)) → ns.length = size → Kp b H H' → Bag H' b (n + 40) → ns.Pairwise (· < ·) → (∀ x ∈ ns, 1 ≤ x ∧ x ≤ 30) → Q (.ref p) H'
section
variable {P : Program} {w : World} {K : PySem.W.Frag} {mg : Str → Option Value} {base : Heap}
theorem scRis : FnScope nRis ["_law_bag_here", "_law_size", "_law_most"] (defScope sRis) := ⟨rfl, rfl, rfl, by decide +kernel, rfl, by decide +kernel, by decide +kernel⟩
theorem ok_ris {f : Addr} {fd : FuncData} (F : Fun K "_law_rising" "_law_rising" sRis f fd) (G : Glb mg) (DT : Has P w K mg base "_law_take" 1 ["_law_bag_here", "_law_size"] spTake) : FnOk P w K mg base CX0 2 f fd ["_law_bag_here", "_law_size", "_law_most"] spRis := by
  refine F.ok scRis (fun vs H Q E h => ?_) (fun cdv A outer s H vs Q E hr h => ?_)
  · obtain ⟨b, size, n, rfl, _⟩ := h
    rfl
  · obtain ⟨b, size, n, rfl, hs, hB, hn, q⟩ := h
    refine ⟨_, pss_cons (ps_par (i := 3) (j := 4) rfl scRis.nd rfl rfl (by decide) rfl rfl (pa_cons (pe_lst pa_nil) (pa_cons pe_int pa_nil)) (by rfl))
      (pss_cons (ps_for PassesOwn.never rfl (pi_range1 rfl G.range (pa_cons (pv 1) pa_nil)) (pg_name (i := 5) scRis.nd rfl (Or.inl rfl))
        (pss_cons (ps_set (i := 6) scRis.nd rfl (Or.inl rfl) (pe_op op_sub (pe_op op_sub (pv 2) (pv 4)) (pe_op op_sub (pe_op op_sub (pv 1) (pv 5)) pe_int)))
        (pss_cons (ps_set (i := 4) scRis.nd rfl (Or.inl rfl) (pe_op op_add (pe_op op_add (pv 4) pe_int) (pe_has DT hr rfl (pa_cons (pv 0) (pa_cons (pe_ix ix_list (pe_lst (pa_cons (pv 6) (pa_cons (pe_callB (call_min2 rfl) (by rfl) G.min (by decide +kernel) (pa_cons (pv 6) (pa_cons pe_int pa_nil))) pa_nil))) (pe_has DT hr rfl (pa_cons (pv 0) (pa_cons pe_int pa_nil))) (fun _ _ => rfl)) pa_nil)))))
        (pss_one (ps_expr (pe_bm PySem.F.plainAttrs_list PySem.F.slot_list_append PySem.F.type_list_append mt_append (pv 3) (pa_cons (pv 4) pa_nil)))))))
      (pss_one (ps_ret (pv 3)))), ?_⟩
    refine ⟨Nat.zero_le _, fun p hp => ?_⟩
    have pb : p ≠ b := new_ne hp hB
    have S0 : Same H (upd H p (.lst [])) := Same.new hp
    have hB0 : Bag (upd H p (.lst [])) b n := by
      obtain ⟨x, y, z, e, r⟩ := hB
      exact ⟨x, y, z, S0 _ _ e, r⟩
    refine ⟨_, _, rfl, _, rfl, (size : Int), rfl, by omega, by omega, ?_⟩
    refine for_range (lo := 0) (n := size) (fun i σ H3 => ∃ (last : Int) (ns : List Int), (∃ a5 a6, σ = [some (.ref b), some (.int size), some (.int 30), some (.ref p), some (.int last), a5, a6]) ∧ H3 p = some (.lst (ns.map V.int)) ∧ ns.length = i ∧ Kp b H H3 ∧ Bag H3 b (n + 2 * i) ∧ 0 ≤ last ∧ last + ((size : Int) - i) ≤ 30 ∧ Rise last ns) ?_ ?_ ?_
    · exact ⟨0, [], ⟨_, _, rfl⟩, upd_same, rfl, fun a o _ e => S0 a o e, hB0, Int.le_refl _, by omega, Rise.nil⟩
    · rintro i σ H3 hi ⟨last, ns, ⟨a5, a6, rfl⟩, h3, ln, k3, b3, l0, l1, rs⟩
      have hm : most = 1000000 := rfl
      refine ⟨_, rfl, _, rfl, _, _, rfl, rfl, _, rfl, _, rfl, _, _, rfl, rfl, _, _, rfl, rfl, _, _, rfl, rfl, ?_⟩
      have w1 : 1 ≤ 30 - last - ((size : Int) - (0 + (i : Int)) - 1) := by omega
      have w2 : 30 - last - ((size : Int) - (0 + (i : Int)) - 1) ≤ 30 - last - ((size : Int) - (i : Int) - 1) := by omega
      have w3 : 30 - last - ((size : Int) - (0 + (i : Int)) - 1) < 1073741824 := by omega
      obtain ⟨wide, ew⟩ : ∃ w : Int, 30 - last - ((size : Int) - (0 + (i : Int)) - 1) = w := ⟨_, rfl⟩
      rw [ew] at w1 w2 w3
      refine ⟨_, rfl, _, _, rfl, rfl, _, rfl, _, rfl, _, rfl, _, _, rfl, (by show 2 ≤ sizeLine; decide), fun pl hpl => ?_⟩
      simp only [ew]
      have S4 : Same H3 (upd H3 pl (.lst [.int wide, .int (if 3 < wide then 3 else wide)])) := Same.new hpl
      have b4 : Bag (upd H3 pl (.lst [.int wide, .int (if 3 < wide then 3 else wide)])) b (n + 2 * i) := by
        obtain ⟨x, y, z, e, r⟩ := b3
        exact ⟨x, y, z, S4 _ _ e, r⟩
      have plb : pl ≠ b := new_ne hpl b3
      refine ⟨_, rfl, b, 2, _, rfl, by decide, by decide, b4, by omega, fun d H5 d0 d1 k5 b5 => ?_⟩
      have hpl5 : H5 pl = some (.lst [.int wide, .int (if 3 < wide then 3 else wide)]) := k5 _ _ plb upd_same
      have hp5 : H5 p = some (.lst (ns.map V.int)) := k5 _ _ pb (S4 _ _ h3)
      have K5 : Kp b H H5 := fun a o nb e => k5 a o nb (S4 a o (k3 a o nb e))
      have pick : ∃ x : Int, atI [V.int wide, V.int (if 3 < wide then 3 else wide)] d = some (.int x) ∧ 0 < x ∧ x ≤ wide := by
        rcases (by omega : d = 0 ∨ d = 1) with rfl | rfl
        · exact ⟨wide, rfl, by omega, Int.le_refl _⟩
        · refine ⟨_, rfl, ?_, ?_⟩ <;> split <;> omega
      obtain ⟨x, ex, x0, x1⟩ := pick
      refine ⟨pl, _, d, _, rfl, rfl, SqL.of hpl5, ex, b, x, _, rfl, x0, by omega, b5, by omega, fun d2 H6 e0 e1 k6 b6 => ?_⟩
      have hp6 : H6 p = some (.lst (ns.map V.int)) := k6 _ _ pb hp5
      refine ⟨_, _, rfl, rfl, ?_⟩
      refine ⟨_, rfl, .inl ⟨rfl, _, SqL.of hp6⟩, _, rfl, p, _, _, rfl, rfl, hp6, ?_, ?_⟩
      · rw [List.length_map, ln]
        exact Nat.lt_of_lt_of_le (show i < 100 by omega) (by decide)
      · refine ⟨last + 1 + d2, ns ++ [last + 1 + d2], ⟨_, _, rfl⟩, ?_, ?_, ?_, ?_, by omega, by omega, rs.more l0 e0⟩
        · rw [upd_same, List.map_append]; rfl
        · rw [List.length_append, ln]; rfl
        · intro a o nb e
          have z := k6 a o nb (K5 a o nb e)
          rw [upd_ne (ne_of_none e hp)]
          exact z
        · obtain ⟨x, y, z, e, r⟩ := b6.mono (show n + 2 * i + 1 + 1 ≤ n + 2 * (i + 1) by omega)
          exact ⟨x, y, z, by rw [upd_ne (Ne.symm pb)]; exact e, r⟩
    · rintro σ H3 ⟨last, ns, ⟨a5, a6, rfl⟩, h3, ln, k3, b3, l0, l1, rs⟩
      exact ⟨_, rfl, q p ns H3 hp h3 ln k3 (b3.mono (by omega)) rs.2 (fun x hx => ⟨(rs.1 x hx).1, by have := (rs.1 x hx).2; omega⟩)⟩
end
end Fh


set_option Elab.async false
set_option linter.all false
set_option maxRecDepth 100000
set_option maxHeartbeats 4000000
namespace Fh
open PySem L2 PyProof.Rows
/-! ### what is right of a call's deeds -/
abbrev sFbn9 : Stmt := top 26
abbrev sFields : Stmt := inClass (top 34) 3
theorem at0 {x : V} {l : List V} : atI (x :: l) 0 = some x := by
  unfold atI ixN
  rw [if_pos (Int.le_refl 0), if_pos (by show (0 : Int) < ((x :: l).length : Int); rw [List.length_cons]; omega)]
  rfl
theorem at1 {x y : V} {l : List V} : atI (x :: y :: l) 1 = some y := by
  unfold atI ixN
  rw [if_pos (by decide), if_pos (by show (1 : Int) < ((x :: y :: l).length : Int); rw [List.length_cons, List.length_cons]; omega)]
  rfl
theorem at2 {x y z : V} {l : List V} : atI (x :: y :: z :: l) 2 = some z := by
  unfold atI ixN
  rw [if_pos (by decide), if_pos (by show (2 : Int) < ((x :: y :: z :: l).length : Int); rw [List.length_cons, List.length_cons, List.length_cons]; omega)]
  rfl
def spFields (C : Addr) : Sp := fun vs H Q _ => ∃ (a : Addr) (z : Str) (cs rs : List (Str × PyData)) (d : PyData), vs = [.ref a, .str z] ∧ FaceR C H a cs rs ∧ rs.lookup z = some d ∧ ∀ v, Tp H v d → Q v H
abbrev nFields : List Str := ["self", "record", "name", "fields"]
theorem ff_fields {v1 v2 v3 v4 v5 : V} : (ff v1 v2 v3 v4 v5).lookup ("fields_of" : Str) = none := ff_meth (by decide +kernel) (by decide +kernel) (by decide +kernel) (by decide +kernel) (by decide +kernel)
theorem putK_new {κ : Type} [DecidableEq κ] {kvs : List (κ × V)} {k : κ} {v : V} (h : k ∉ kvs.map Prod.fst) : putK kvs k v = kvs ++ [(k, v)] := by
  unfold putK
  rw [if_neg]
  intro a
  rw [List.any_eq_true] at a
  obtain ⟨kv, m, e⟩ := a
  exact h (List.mem_map.mpr ⟨kv, m, of_decide_eq_true e⟩)
theorem tk_wr {H : Hp} {a : Addr} {kvs : List (Key × V)} {o : HO} (h : H a = some (.dK kvs)) : Tk H (upd H a o) := fun b xs e => by
  rw [upd_ne (fun q => by rw [q, h] at e; cases e)]
  exact e
abbrev nFbn9 : List Str := ["face", "record", "number", "name", "kind", "need"]
def FbN (H : Hp) (D : Addr) (fl : List Fl) : Prop := ∃ kvs : List (Key × V), H D = some (.dK kvs) ∧ kvs.map Prod.fst = fl.map (fun f => (Sum.inr f.nam : Key)) ∧
  ∀ f ∈ fl, ∃ (t : Addr) (u : V), valV kvs (Sum.inr f.nam) = some (.ref t) ∧ H t = some (.tup [u, .str (needS f.must)]) ∧ Tp H u f.kd.d
theorem FbN.same {H H' : Hp} {D : Addr} {fl : List Fl} (h : FbN H D fl) (s : Same H H') : FbN H' D fl := by
  obtain ⟨kvs, h1, h2, h3⟩ := h
  refine ⟨kvs, s _ _ h1, h2, fun f hf => ?_⟩
  obtain ⟨t, u, a, b, c⟩ := h3 f hf
  exact ⟨t, u, a, s _ _ b, Tp.keep (Same.tk s) _ _ c⟩
def spFbn9 (C : Addr) : Sp := fun vs H Q _ => ∃ (a : Addr) (z : Str) (cs rs : List (Str × PyData)) (fl : List Fl), vs = [.ref a, .str z] ∧ FaceR C H a cs rs ∧ rs.lookup z = some (.tuple (fl.map Fl.d)) ∧ (fl.map Fl.nam).Nodup ∧ fl.length ≤ 100 ∧
  ∀ (D : Addr) (H' : Hp), H D = none → Same H H' → FbN H' D fl → Q (.ref D) H'
theorem kd_dp9 (k : Kn) : k.d.depth ≤ 2 := by
  cases k with
  | one b => cases b <;> simp [Kn.d, Kb.d, PyData.depth, PyData.depthAll]
  | lst b => cases b <;> simp [Kn.d, Kb.d, PyData.depth, PyData.depthAll]
theorem shaped2 {k : Kn} {b : Bool} (h : SeqAt.shaped k.d = true) : SeqAt.shaped (.tuple [k.d, .str (needS b)]) = true := by
  have s1 : Sh 2 k.d := ⟨SeqAt.canLay_of_shaped h, kd_dp9 k⟩
  have s2 : Sh 2 (.str (needS b)) := by cases b <;> exact ⟨by decide +kernel, Nat.zero_le _⟩
  refine (Sh.tup (n := 2) fun d hd => ?_).shaped (by decide)
  rcases List.mem_cons.mp hd with e | hd
  · rw [e]
    exact s1
  · rw [List.mem_singleton.mp hd]
    exact s2
theorem need_eqv (a b : Bool) : PyData.eqv (.str (needS a)) (.str (needS b)) = (a == b) := by cases a <;> cases b <;> rfl
theorem fbn_dget {H : Hp} {D : Addr} {own : List Fl} (h : FbN H D own) (z : Str) : ∃ kvs : List (Key × V), H D = some (.dK kvs) ∧ ((own.find? (fun g => decide (g.nam = z)) = none ∧ valV kvs (Sum.inr z) = none) ∨
    ∃ g t u, own.find? (fun g => decide (g.nam = z)) = some g ∧ g ∈ own ∧ valV kvs (Sum.inr z) = some (.ref t) ∧ H t = some (.tup [u, .str (needS g.must)]) ∧ Tp H u g.kd.d) := by
  obtain ⟨kvs, h1, h2, h3⟩ := h
  refine ⟨kvs, h1, ?_⟩
  cases q : own.find? (fun g => decide (g.nam = z)) with
  | none =>
    refine .inl ⟨rfl, ?_⟩
    cases q2 : valV kvs (Sum.inr z) with
    | none => rfl
    | some v =>
      have hm := valV_in q2
      have h2 : kvs.map (·.1) = own.map (fun f => (Sum.inr f.nam : Key)) := h2
      rw [h2] at hm
      obtain ⟨g, hg, e⟩ := List.mem_map.mp hm
      exact absurd (decide_eq_true (Sum.inr.inj e)) (List.find?_eq_none.mp q g hg)
  | some g =>
    have m := List.mem_of_find?_eq_some q
    have e : g.nam = z := of_decide_eq_true (p := g.nam = z) (List.find?_some (p := fun g : Fl => decide (g.nam = z)) q)
    obtain ⟨t, u, a, b, c⟩ := h3 g m
    rw [e] at a
    exact .inr ⟨g, t, u, rfl, m, a, b, c⟩

def eqG (own : List Fl) (z k : Str) : Bool := PyData.eqv (match own.find? (fun g => decide (g.nam = z)) with
  | some g => .tuple [g.kd.d, .str (needS g.must)]
  | none => .none) (.tuple [.str k, .str "must"])
def inN (fl : List Fl) (z : Str) : Bool := (fl.find? (fun g => decide (g.nam = z))).isSome
/-- a goal may be a copy of a source -/
def ccB (g s : Fl) : Bool := PyData.eqv g.kd.d s.kd.d && (s.must || !g.must)
def setB (an : List Fl) (a b : Str) : Bool := inV (.str a) [.str "tell", .str "copy", .str "get"] && inN an b
def astB (nm : Str) (own an : List Fl) (d : List Str) (ahead : List (List Str)) : Bool := match d with
  | a :: b :: c :: _ =>
    if inV (.str a) [.str "take", .str "add"] = true then eqG own b "text" && eqG own c "whole"
    else if a = "tell" then (match an.find? (fun g => decide (g.nam = b)) with
      | some g => PyData.eqv g.kd.d (.str "whole") && eqG own c "text"
      | none => false)
    else if a = "copy" then (match an.find? (fun g => decide (g.nam = b)), own.find? (fun g => decide (g.nam = c)) with
      | some g, some s => ccB g s
      | _, _ => false)
    else if a = "ask" then !decide (b = nm)
    else inN an b && inV (.str "ask") (ahead.map fun e => V.str (e.headD ""))
  | _ => false
def dD (d : List Str) : PyData := .tuple (d.map .str)
structure FOkR (fl : List Fl) : Prop where
  nd : (fl.map Fl.nam).Nodup
  l : fl.length ≤ 100
  sh : ∀ f ∈ fl, SeqAt.shaped f.kd.d = true
  ns : ∀ f ∈ fl, Sh 0 (.str f.nam)
structure SetW (K : PySem.W.Frag) (mg : Str → Option Value) : Prop where
  ex : ∃ M : Addr, mg "SETTING_WORDS" = some (.ref M) ∧ ∀ H : Hp, SqT K H M [.str "tell", .str "copy", .str "get"]
abbrev sCan : Stmt := top 28
abbrev nCan : List Str := ["goal", "source"]
abbrev sEff : Stmt := top 29
abbrev nEff : List Str := ["deed", "answered"]
abbrev sAst : Stmt := top 27
abbrev nAst : List Str := ["face", "deed", "asked", "answered", "ahead", "word", "other"]
abbrev pAst : List Str := ["face", "deed", "asked", "answered", "ahead"]
def spCan : Sp := fun vs H Q _ => ∃ (t s : Addr) (u v : V) (g f : Fl), vs = [.ref t, .ref s] ∧ H t = some (.tup [u, .str (needS g.must)]) ∧ H s = some (.tup [v, .str (needS f.must)]) ∧ Tp H u g.kd.d ∧ Tp H v f.kd.d ∧ SeqAt.shaped g.kd.d = true ∧ SeqAt.shaped f.kd.d = true ∧ Q (.bl (ccB g f)) H
def spEff : Sp := fun vs H Q _ => ∃ (t D : Addr) (an : List Fl) (a b c : Str) (r : List Str), vs = [.ref t, .ref D] ∧ H t = some (.tup ((a :: b :: c :: r).map V.str)) ∧ FbN H D an ∧
  (a = "ask" → Q (.ref t) H) ∧ (a ≠ "ask" → setB an a b = true → ∀ p, H p = none → Q (.ref p) (upd H p (.tup [.str "set", .str b]))) ∧ (a ≠ "ask" → setB an a b = false → Q .non H)
def spAst (C : Addr) : Sp := fun vs H Q _ => ∃ (fa t D E s dx : Addr) (nm : Str) (v2 v3 v4 v5 : V) (own an : List Fl) (a b c : Str) (r : List Str) (xs : List V) (ahead : List (List Str)), vs = [.ref fa, .ref t, .ref D, .ref E, .ref s] ∧ H fa = some (.ins C dx (ff (.str nm) v2 v3 v4 v5)) ∧ H t = some (.tup ((a :: b :: c :: r).map V.str)) ∧ FbN H D own ∧ FbN H E an ∧ FOkR own ∧ FOkR an ∧
  H s = some (.tup xs) ∧ TpAll H xs (ahead.map dD) ∧ (∀ e ∈ ahead, e ≠ []) ∧ ahead.length ≤ 100 ∧ ∀ H', Same H H' → Q (.bl (astB nm own an (a :: b :: c :: r) ahead)) H'
section
variable {P : Program} {w : World} {K : PySem.W.Frag} {mg : Str → Option Value} {base : Heap}
theorem scFields : FnScope nFields ["self", "record"] (defScope sFields) := ⟨rfl, rfl, rfl, by decide +kernel, rfl, by decide +kernel, by decide +kernel⟩
theorem ok_fields {C f : Addr} {fd : FuncData} (F : Fun K "fields_of" "Face.fields_of" sFields f fd) (cl : Cls K C) (n4 : NoAttr K C "records") : FnOk P w K mg base CX0 1 f fd ["self", "record"] (spFields C) := by
  refine F.ok scFields (fun vs H Q E h => ?_) (fun cdv A outer s H vs Q E hr h => ?_)
  · obtain ⟨a, z, cs, rs, d, rfl, _⟩ := h
    rfl
  · obtain ⟨a, z, cs, rs, d, rfl, ⟨dx, v1, v2, v3, v4, v5, hA, t3, t4⟩, hl, k⟩ := h
    refine ⟨_, pss_cons (ps_for PassesOwn.never rfl (pi_tup (pe_fld (pv 0) rfl)) (pg_tup rfl (pgs_cons (pg_name (i := 2) scFields.nd rfl (.inl rfl)) (pgs_cons (pg_name (i := 3) scFields.nd rfl (.inl rfl)) pgs_nil)))
        (pss_one (ps_if (pt_cmpR op_eq (pv 2) (pv 1) (nomark _)) (pss_one (ps_ret (pv 3))) pss_nil))) (pss_one ps_never), ?_⟩
    obtain ⟨b, xs, rfl, hb, q⟩ := TpR.inv t4
    refine ⟨_, rfl, a, C, dx, _, _, rfl, hA, cl, n4, ff_records, b, rfl, ⟨_, .inl hb⟩, ?_⟩
    refine for_tup (xs := xs) (fun i σ H3 => H3 = H ∧ (∃ a2 a3, σ = [some (.ref a), some (.str z), a2, a3]) ∧ ∀ (j : Nat) (r : Str × PyData), j < i → rs[j]? = some r → r.1 ≠ z) ?_ ?_ ?_ ?_
    · exact ⟨rfl, ⟨_, _, rfl⟩, fun j r hj => absurd hj (Nat.not_lt_zero _)⟩
    · rintro i σ H3 _ ⟨rfl, _⟩
      exact .inl hb
    · rintro i x σ H3 hx ⟨rfl, ⟨a2, a3, rfl⟩, hB⟩
      obtain ⟨r, t, u, hr', rfl, ht, tu⟩ := rows_at q hx
      refine ⟨t, _, rfl, SqT.of ht, rfl, _, _, rfl, _, _, rfl, rfl, ?_⟩
      refine ⟨_, rfl, _, rfl, rfl, _, rfl, ?_⟩
      refine ite2 (fun h => ?_) (fun h => ?_)
      · have e : r.1 = z := by
          have := of_decide_eq_true h
          cases this
          rfl
        have e2 := look_first hl hr' e hB
        rw [e2] at tu
        exact ⟨_, rfl, k _ tu⟩
      · have e : r.1 ≠ z := fun q => h (decide_eq_true (by rw [q]))
        refine ⟨rfl, ⟨_, _, rfl⟩, fun j s hj hs => ?_⟩
        by_cases ej : j = i
        · rw [ej, hr'] at hs
          cases hs
          exact e
        · exact hB j s (by omega) hs
    · rintro σ H3 ⟨rfl, _, hB⟩
      obtain ⟨i, hi, e⟩ := look_at hl
      have el : xs.length = rs.length := by rw [q.length, List.length_map]
      exact hB i rs[i] (by omega) (List.getElem?_eq_getElem hi) e
theorem scFbn9 : FnScope nFbn9 ["face", "record"] (defScope sFbn9) := ⟨rfl, rfl, rfl, by decide +kernel, rfl, by decide +kernel, by decide +kernel⟩
theorem ok_fbn9 {C f : Addr} {fd : FuncData} (F : Fun K "fields_by_name" "fields_by_name" sFbn9 f fd) (DF : HasM P w K mg base C "fields_of" 1 ["self", "record"] (spFields C)) : FnOk P w K mg base CX0 2 f fd ["face", "record"] (spFbn9 C) := by
  refine F.ok scFbn9 (fun vs H Q E h => ?_) (fun cdv A outer s H vs Q E hr h => ?_)
  · obtain ⟨a, z, cs, rs, fl, rfl, _⟩ := h
    rfl
  · obtain ⟨a, z, cs, rs, fl, rfl, hF, lk, ndf, lf, q⟩ := h
    refine ⟨_, (pss_one (ps_ret (pe_dc (own := [("number", 2), ("name", 3), ("kind", 4), ("need", 5)]) (g := (gTup K 4 (gCons (gName 2) (gCons (gName 3) (gCons (gName 4) (gCons (gName 5) gNil)))))) (tt := tYes) rfl scFbn9.nd (pi_tup (pe_hasM DF (hr.mono (by omega)) (pv 0) (pa_cons (pv 1) pa_nil))) (blkOk_by (N := nFbn9) (sc := defScope sFbn9) (by decide +kernel)) (fun _ _ _ _ _ => (pg_tup rfl (pgs_cons (pg_name (i := 2) scFbn9.nd rfl (Or.inl rfl)) (pgs_cons (pg_name (i := 3) scFbn9.nd rfl (Or.inl rfl)) (pgs_cons (pg_name (i := 4) scFbn9.nd rfl (Or.inl rfl)) (pgs_cons (pg_name (i := 5) scFbn9.nd rfl (Or.inl rfl)) pgs_nil)))))) (fun _ _ _ _ _ => pts_nil) (fun _ _ _ _ _ => (pv 3)) (fun _ _ _ _ _ => (pe_tup (pa_cons (pv 4) (pa_cons (pv 5) pa_nil))))))), ?_⟩
    obtain ⟨dx, v1, v2, v3, v4, v5, hA, t3, t4⟩ := id hF
    refine ⟨_, rfl, a, dx, _, rfl, hA, ff_fields, _, rfl, a, z, cs, rs, _, rfl, hF, lk, fun ov tv => ?_⟩
    obtain ⟨c, xs, rfl, hc, tq⟩ := Tp.inv tv
    have lx : xs.length = fl.length := by rw [tq.length, List.length_map]
    refine ⟨c, rfl, ⟨_, SqT.of hc⟩, fun D hD => ?_⟩
    refine dc_tup (xs := xs) (fun i H3 => Same H H3 ∧ FbN H3 D (fl.take i)) ?_ ?_ ?_ ?_
    · exact ⟨Same.new hD, [], upd_same, rfl, fun f h => nomatch h⟩
    · rintro i H3 _ ⟨S3, _⟩
      exact SqT.of (S3 _ _ hc)
    · rintro i x H3 hx ⟨S3, kvs, h3, ek3, ye3⟩
      obtain ⟨g, t2, u2, hg, rfl, ht2, tu2⟩ := flds_at (fs := fl) tq hx
      have hi := (List.getElem?_eq_some_iff.mp hg).1
      have et : fl.take (i + 1) = fl.take i ++ [g] := by rw [List.take_add_one, hg]; rfl
      refine ⟨t2, _, rfl, SqT.of (S3 _ _ ht2), rfl, _, _, rfl, _, _, rfl, _, _, rfl, _, _, rfl, rfl, rfl, yes (iteT ?_)⟩
      refine ⟨_, rfl, _, rfl, _, rfl, (by show 2 ≤ sizeLine; decide), fun t ht => ?_⟩
      have S4 := Same.new (H := H3) (o := .tup [u2, .str (needS g.must)]) ht
      have h4 := S4 _ _ h3
      have ht4 : (upd H3 t (.tup [u2, .str (needS g.must)])) t = some (.tup [u2, .str (needS g.must)]) := upd_same
      have tu4 := Tp.keep (Same.tk (S3.trans S4)) _ _ tu2
      generalize upd H3 t (.tup [u2, .str (needS g.must)]) = H4 at *
      have gnew : (Sum.inr g.nam : Key) ∉ kvs.map Prod.fst := fun hm => by
        rw [ek3] at hm
        obtain ⟨f, hf, e⟩ := List.mem_map.mp hm
        have e : f.nam = g.nam := Sum.inr.inj e
        have nd2 : ((fl.take i ++ [g]).map Fl.nam).Nodup := by
          rw [← et]
          exact ndf.sublist (List.Sublist.map _ (List.take_sublist _ _))
        rw [List.map_append, List.nodup_append] at nd2
        exact nd2.2.2 _ (List.mem_map.mpr ⟨f, hf, rfl⟩) _ (List.mem_singleton.mpr rfl) e
      have lk3 : kvs.length = (fl.take i).length := by
        have := congrArg List.length ek3
        rwa [List.length_map, List.length_map] at this
      have T5 := tk_wr (o := .dK (putK kvs (Sum.inr g.nam) (.ref t))) h4
      refine ⟨kvs, Sum.inr g.nam, rfl, h4, ?_, Same.wr (S3.trans S4) hD, _, upd_same, ?_, fun f hf => ?_⟩
      · rw [lk3, List.length_take]
        exact Nat.lt_of_le_of_lt (show _ ≤ 100 by omega) (by decide)
      · rw [Fh.putK_new gnew, List.map_append, ek3, et, List.map_append]
        rfl
      · rw [et] at hf
        rcases List.mem_append.mp hf with hf | hf
        · obtain ⟨t', u', a1, a2, a3⟩ := ye3 f hf
          refine ⟨t', u', ?_, T5 _ _ (S4 _ _ a2), Tp.keep T5 _ _ (Tp.keep (Same.tk S4) _ _ a3)⟩
          rw [valV_put, if_neg, a1]
          intro e
          refine gnew ?_
          rw [ek3, ← e]
          exact List.mem_map.mpr ⟨f, hf, rfl⟩
        · rw [List.mem_singleton.mp hf]
          exact ⟨t, u2, by rw [valV_put, if_pos rfl], T5 _ _ ht4, Tp.keep T5 _ _ tu4⟩
    · rintro H3 ⟨S3, fb⟩
      rw [lx, List.take_length] at fb
      exact q D H3 hD S3 fb

theorem scCan : FnScope nCan nCan (defScope sCan) := ⟨rfl, rfl, rfl, by decide +kernel, rfl, by decide +kernel, by decide +kernel⟩
theorem scEff : FnScope nEff nEff (defScope sEff) := ⟨rfl, rfl, rfl, by decide +kernel, rfl, by decide +kernel, by decide +kernel⟩
theorem scAst : FnScope nAst pAst (defScope sAst) := ⟨rfl, rfl, rfl, by decide +kernel, rfl, by decide +kernel, by decide +kernel⟩
theorem ok_can {f : Addr} {fd : FuncData} (F : Fun K "can_copy" "can_copy" sCan f fd) : FnOk P w K mg base CX0 1 f fd nCan spCan := by
  refine F.ok scCan (fun vs H Q E h => ?_) (fun cdv A outer s H vs Q E hr h => ?_)
  · obtain ⟨t, s, u, v, g, f, rfl, _⟩ := h
    rfl
  · obtain ⟨t, s, u, v, g, f, rfl, ht, hs, tu, tv, sg, sf, q⟩ := h
    refine ⟨_, (pss_one (ps_ret (pe_and (pe_cmpR (op_eqD hr.units) (pe_ix ix_tup (pv 0) pe_int (fun _ _ => rfl)) (pe_ix ix_tup (pv 1) pe_int (fun _ _ => rfl)) (nomark _)) (pe_one (pe_or (pe_cmpR op_eq (pe_ix ix_tup (pv 1) pe_int (fun _ _ => rfl)) pe_str (nomark _)) (pe_one (pe_cmpR op_eq (pe_ix ix_tup (pv 0) pe_int (fun _ _ => rfl)) pe_str (nomark _)))))))), ?_⟩
    refine ⟨_, rfl, t, _, _, _, rfl, rfl, SqT.of ht, rfl, _, rfl, s, _, _, _, rfl, rfl, SqT.of hs, rfl, _, _, tu.dp, tv.dp, sg, sf, _, rfl, ?_⟩
    unfold ccB at q
    cases he : PyData.eqv g.kd.d f.kd.d with
    | false =>
      rw [he] at q
      exact iteF q
    | true =>
      rw [he, Bool.true_and] at q
      refine iteT ?_
      refine ⟨_, rfl, s, _, _, _, rfl, rfl, SqT.of hs, rfl, rfl, _, rfl, ?_⟩
      rw [need_must]
      cases hm : f.must with
      | true =>
        rw [hm] at q
        exact iteT q
      | false =>
        rw [hm] at q
        refine iteF ?_
        refine ⟨_, rfl, t, _, _, _, rfl, rfl, SqT.of ht, rfl, rfl, ?_⟩
        rw [need_may]
        exact q
theorem ok_eff {f : Addr} {fd : FuncData} (F : Fun K "effect_of" "effect_of" sEff f fd) (SW : SetW K mg) : FnOk P w K mg base CX0 1 f fd nEff spEff := by
  obtain ⟨M, mS, hM⟩ := SW.ex
  refine F.ok scEff (fun vs H Q E h => ?_) (fun cdv A outer s H vs Q E hr h => ?_)
  · obtain ⟨t, D, an, a, b, c, r, rfl, _⟩ := h
    rfl
  · obtain ⟨t, D, an, a, b, c, r, rfl, ht, hD, q1, q2, q3⟩ := h
    have hu := hu_of hr
    refine ⟨_, (pss_cons (ps_if (pt_cmpR op_eq (pe_ix ix_tup (pv 0) pe_int (fun _ _ => rfl)) pe_str (nomark _))
      (pss_one (ps_ret (pv 0)))
      pss_nil)
      (pss_cons (ps_if (PW.pt (pw_and (pt_cmpR op_in_seq (pe_ix ix_tup (pv 0) pe_int (fun _ _ => rfl)) (pe_glob (v := .ref M) rfl mS rfl) rfl) (pw_and1 (pt_cmp (pc_din hu (pe_ix ix_tup (pv 0) pe_int (fun _ _ => rfl)) (pv 1))))))
      (pss_one (ps_ret (pe_tup (pa_cons pe_str (pa_cons (pe_ix ix_tup (pv 0) pe_int (fun _ _ => rfl)) pa_nil)))))
      pss_nil)
      (pss_one (ps_ret pe_non)))), ?_⟩
    refine ⟨_, rfl, t, _, _, _, rfl, rfl, SqT.of ht, at0, rfl, _, rfl, ite2 (fun h => ?_) (fun h => ?_)⟩
    · have h := of_decide_eq_true h
      have h : a = "ask" := by injection h
      exact ⟨_, rfl, q1 h⟩
    · have na : a ≠ "ask" := fun e => h (by rw [e]; exact decide_eq_true rfl)
      refine ⟨_, rfl, t, _, _, _, rfl, rfl, SqT.of ht, at0, M, _, rfl, .inr (hM H), rfl, rfl, _, rfl, ?_⟩
      cases h1 : inV (.str a) [.str "tell", .str "copy", .str "get"] with
      | false =>
        refine iteF (iteF ?_)
        exact q3 na (by unfold setB; rw [h1]; rfl)
      | true =>
        refine iteT ?_
        obtain ⟨kvs, hk, od⟩ := fbn_dget hD b
        have dg : DGet H D (.str b) (valV kvs (Sum.inr b)) := DGet.k (k := Sum.inr b) hk
        refine ⟨_, rfl, t, _, _, _, rfl, rfl, SqT.of ht, at1, _, rfl, D, _, rfl, dg, _, rfl, ?_⟩
        rcases od with ⟨e1, e2⟩ | ⟨g, t2, u2, e1, _, e2, _⟩
        · rw [e2]
          refine iteF ?_
          exact q3 na (by unfold setB inN; rw [h1, e1]; rfl)
        · rw [e2]
          refine iteT ?_
          refine ⟨_, rfl, t, _, _, _, rfl, rfl, SqT.of ht, at1, (by show 2 ≤ sizeLine; decide), fun p hp => ?_⟩
          exact q2 na (by unfold setB inN; rw [h1, e1]; rfl) p hp
theorem dD_at {H : Hp} {v : V} {d : List Str} (h : Tp H v (dD d)) : ∃ t, v = .ref t ∧ H t = some (.tup (d.map V.str)) := by
  obtain ⟨t, xs, rfl, ht, tx⟩ := Tp.inv h
  refine ⟨t, rfl, ?_⟩
  have e : xs = d.map V.str := by
    clear ht h
    induction d generalizing xs with
    | nil => exact tx.inil
    | cons z d ih =>
      obtain ⟨v, r, rfl, t1, t2⟩ := TpAll.icons tx
      rw [t1.istr, ih r t2]
      rfl
  rw [← e]
  exact ht
theorem ok_ast {C f : Addr} {fd : FuncData} (F : Fun K "is_as_told" "is_as_told" sAst f fd) (cl : Cls K C) (n1 : NoAttr K C "name") (DC : Has P w K mg base "can_copy" 1 nCan spCan) : FnOk P w K mg base CX0 2 f fd pAst (spAst C) := by
  refine F.ok scAst (fun vs H Q E h => ?_) (fun cdv A outer s H vs Q E hr h => ?_)
  · obtain ⟨fa, t, D, E, s, dx, nm, v2, v3, v4, v5, own, an, a, b, c, r, xs, ahead, rfl, _⟩ := h
    rfl
  · obtain ⟨fa, t, D, E, sl, dx, nm, v2, v3, v4, v5, own, an, a, b, c, r, xs, ahead, rfl, hfa, ht, hD, hE, okD, okE, hs, ths, nes, la, q⟩ := h
    have hu := hu_of hr
    refine ⟨_, (pss_cons (ps_set (i := 5) scAst.nd rfl (Or.inl rfl) (pe_ix ix_tup (pv 1) pe_int (fun _ _ => rfl)))
      (pss_cons (ps_if (pt_cmpR op_in_seq (pv 5) (pe_tup (pa_cons pe_str (pa_cons pe_str pa_nil))) rfl)
      (pss_one (ps_ret (pe_and (pe_cmpR (op_eqD hr.units) (pe_dget1 hu (pv 2) (pe_ix ix_tup (pv 1) pe_int (fun _ _ => rfl)) ⟨rfl, rfl, rfl, rfl⟩) (pe_tup (pa_cons pe_str (pa_cons pe_str pa_nil))) (nomark _)) (pe_one (pe_cmpR (op_eqD hr.units) (pe_dget1 hu (pv 2) (pe_ix ix_tup (pv 1) pe_int (fun _ _ => rfl)) ⟨rfl, rfl, rfl, rfl⟩) (pe_tup (pa_cons pe_str (pa_cons pe_str pa_nil))) (nomark _))))))
      pss_nil)
      (pss_cons (ps_if (pt_cmpR op_eq (pv 5) pe_str (nomark _))
      (pss_one (ps_ret (pe_and (pe_cmp (pc_din hu (pe_ix ix_tup (pv 1) pe_int (fun _ _ => rfl)) (pv 3)) rfl) (pe_and (pe_cmpR (op_eqD hr.units) (pe_ix ix_tup (pe_dget hu (pv 3) (pe_ix ix_tup (pv 1) pe_int (fun _ _ => rfl)) (fun _ _ => rfl)) pe_int (fun _ _ => rfl)) pe_str (nomark _)) (pe_one (pe_cmpR (op_eqD hr.units) (pe_dget1 hu (pv 2) (pe_ix ix_tup (pv 1) pe_int (fun _ _ => rfl)) ⟨rfl, rfl, rfl, rfl⟩) (pe_tup (pa_cons pe_str (pa_cons pe_str pa_nil))) (nomark _)))))))
      pss_nil)
      (pss_cons (ps_if (pt_cmpR op_eq (pv 5) pe_str (nomark _))
      (pss_one (ps_ret (pe_and (pe_cmp (pc_din hu (pe_ix ix_tup (pv 1) pe_int (fun _ _ => rfl)) (pv 3)) rfl) (pe_and (pe_cmp (pc_din hu (pe_ix ix_tup (pv 1) pe_int (fun _ _ => rfl)) (pv 2)) rfl) (pe_one (pe_has DC (hr.mono (by omega)) rfl (pa_cons (pe_dget hu (pv 3) (pe_ix ix_tup (pv 1) pe_int (fun _ _ => rfl)) (fun _ _ => rfl)) (pa_cons (pe_dget hu (pv 2) (pe_ix ix_tup (pv 1) pe_int (fun _ _ => rfl)) (fun _ _ => rfl)) pa_nil))))))))
      pss_nil)
      (pss_cons (ps_if (pt_cmpR op_eq (pv 5) pe_str (nomark _))
      (pss_one (ps_ret (pe_cmpR op_ne (pe_ix ix_tup (pv 1) pe_int (fun _ _ => rfl)) (pe_fld (pv 0) rfl) (nomark _))))
      pss_nil)
      (pss_one (ps_ret (pe_and (pe_cmp (pc_din hu (pe_ix ix_tup (pv 1) pe_int (fun _ _ => rfl)) (pv 3)) rfl) (pe_one (pe_cmpR op_in_seq pe_str (pe_lc (own := [("other", 6)]) (g := (gName 6)) (tt := tYes) (te := tOp (rIxT K) (tVar 6) (tC (.int 0))) rfl scAst.nd (pi_tup (pv 4)) (blkOk_by (N := nAst) (sc := defScope sAst) (by decide +kernel)) (fun _ _ _ _ _ => (pg_name (i := 6) scAst.nd rfl (Or.inl rfl))) (fun _ _ _ _ _ => pts_nil) (fun _ _ _ _ _ => (pe_ix ix_tup (pv 6) pe_int (fun _ _ => rfl)))) rfl)))))))))), ?_⟩
    -- d.get(name) == (kind, "must")
    have get : ∀ {H1 : Hp} (z k : Str) (own : List Fl) (D : Addr), FbN H D own → FOkR own → SeqAt.shaped (.tuple [.str k, .str "must"]) = true → Same H H1 → ∃ kvs : List (Key × V), H1 D = some (.dK kvs) ∧ ∀ (t1 : Addr), H1 t1 = none → ∃ d e, Dp K (upd H1 t1 (.tup [.str k, .str "must"])) ((valV kvs (Sum.inr z)).getD .non) d ∧ Dp K (upd H1 t1 (.tup [.str k, .str "must"])) (.ref t1) e ∧ SeqAt.shaped d = true ∧ SeqAt.shaped e = true ∧ PyData.eqv d e = eqG own z k := fun {H1} z k own D hD ok sk S => by
      obtain ⟨kvs, hk, od⟩ := fbn_dget (hD.same S) z
      refine ⟨kvs, hk, fun t1 ht1 => ?_⟩
      have S1 := Same.new (H := H1) (o := .tup [.str k, .str "must"]) ht1
      have d1 : Tp (upd H1 t1 (.tup [.str k, .str "must"])) (.ref t1) (.tuple [.str k, .str "must"]) := .tup upd_same (.cons (.str _) (.cons (.str _) .nil))
      rcases od with ⟨e1, e2⟩ | ⟨g, t2, u2, e1, gm, e2, ht2, tu2⟩
      · rw [e2]
        exact ⟨.none, _, .non, d1.dp, rfl, sk, by unfold eqG; rw [e1]⟩
      · rw [e2]
        have d2 : Tp (upd H1 t1 (.tup [.str k, .str "must"])) (.ref t2) (.tuple [g.kd.d, .str (needS g.must)]) := .tup (S1 _ _ ht2) (.cons (Tp.keep (Same.tk S1) _ _ tu2) (.cons (.str _) .nil))
        exact ⟨_, _, d2.dp, d1.dp, shaped2 (ok.sh g gm), sk, by unfold eqG; rw [e1]⟩
    refine ⟨_, rfl, t, _, _, _, rfl, rfl, SqT.of ht, at0, ?_⟩
    try dsimp only [List.set_cons_succ, List.set_cons_zero]
    refine ⟨_, rfl, (by show 2 ≤ sizeLine; decide), fun t0 ht0 => ?_⟩
    have S0 := Same.new (H := H) (o := .tup [.str "take", .str "add"]) ht0
    have e0 : (upd H t0 (.tup [.str "take", .str "add"])) t0 = some (.tup [.str "take", .str "add"]) := upd_same
    generalize (upd H t0 (.tup [.str "take", .str "add"])) = H0 at *
    refine ⟨t0, _, rfl, .inr (SqT.of e0), rfl, rfl, _, rfl, ?_⟩
    have ht1 := S0 _ _ ht
    have hE0 := hE.same S0
    have hD0 := hD.same S0
    show if inV (.str a) [.str "take", .str "add"] = true then _ else _
    unfold astB at q
    dsimp only at q
    cases hw : inV (.str a) [.str "take", .str "add"] with
    | true =>
      refine iteT ?_
      rw [if_pos hw] at q
      obtain ⟨kvs, hk, g1⟩ := get b "text" own D hD okD (by decide +kernel) S0
      refine ⟨_, rfl, D, rfl, .inl ⟨kvs, .inl hk⟩, _, rfl, t, _, _, _, rfl, rfl, SqT.of ht1, at1, _, DGet.k (k := Sum.inr b) hk, (by show 2 ≤ sizeLine; decide), fun t2 ht2 => ?_⟩
      obtain ⟨d, e, x1, x2, x3, x4, x5⟩ := g1 t2 ht2
      refine ⟨d, e, x1, x2, x3, x4, _, rfl, ?_⟩
      have S2 := S0.trans (Same.new (o := .tup [.str "text", .str "must"]) ht2)
      generalize (upd H0 t2 (.tup [.str "text", .str "must"])) = H2 at *
      rw [x5]
      cases he : eqG own b "text" with
      | false =>
        rw [he] at q
        exact iteF (q _ S2)
      | true =>
        rw [he, Bool.true_and] at q
        refine iteT ?_
        obtain ⟨kvs, hk, g1⟩ := get c "whole" own D hD okD (by decide +kernel) S2
        refine ⟨_, rfl, D, rfl, .inl ⟨kvs, .inl hk⟩, _, rfl, t, _, _, _, rfl, rfl, SqT.of (S2 _ _ ht), at2, _, DGet.k (k := Sum.inr c) hk, (by show 2 ≤ sizeLine; decide), fun t3 ht3 => ?_⟩
        obtain ⟨d, e, x1, x2, x3, x4, x5⟩ := g1 t3 ht3
        refine ⟨d, e, x1, x2, x3, x4, ?_⟩
        rw [x5]
        exact q _ (S2.trans (Same.new ht3))
    | false =>
      refine iteF ?_
      rw [if_neg (by rw [hw]; exact Bool.false_ne_true)] at q
      have str_ne : ∀ {x y : Str}, ¬ decide (V.str x = V.str y) = true → x ≠ y := fun h e => h (by rw [e]; exact decide_eq_true rfl)
      have str_eq : ∀ {x y : Str}, decide (V.str x = V.str y) = true → x = y := fun h => by
        have := of_decide_eq_true h
        injection this
      refine ⟨_, rfl, rfl, _, rfl, ite2 (fun h => ?_) (fun h => ?_)⟩
      · -- tell
        rw [if_pos (str_eq h)] at q
        obtain ⟨kvs, hk, od⟩ := fbn_dget hE0 b
        have dg : DGet H0 E (.str b) (valV kvs (Sum.inr b)) := DGet.k (k := Sum.inr b) hk
        refine ⟨_, rfl, t, _, _, _, rfl, rfl, SqT.of ht1, at1, _, rfl, E, _, rfl, dg, _, rfl, ?_⟩
        rcases od with ⟨e1, e2⟩ | ⟨g, t2, u2, e1, gm, e2, ht2, tu2⟩
        · rw [e2]
          rw [e1] at q
          exact iteF (q _ S0)
        · rw [e2] at dg ⊢
          rw [e1] at q
          refine iteT ?_
          refine ⟨_, rfl, _, rfl, t, _, _, _, rfl, rfl, SqT.of ht1, at1, E, .ref t2, rfl, dg, t2, _, _, _, rfl, rfl, SqT.of ht2, rfl, ?_⟩
          refine ⟨g.kd.d, .str "whole", tu2.dp, .str _, okE.sh g gm, by decide +kernel, _, rfl, ?_⟩
          dsimp only at q
          cases he : PyData.eqv g.kd.d (.str "whole") with
          | false =>
            rw [he] at q
            exact iteF (q _ S0)
          | true =>
            rw [he, Bool.true_and] at q
            refine iteT ?_
            obtain ⟨kvs, hk, g1⟩ := get c "text" own D hD okD (by decide +kernel) S0
            refine ⟨_, rfl, D, rfl, .inl ⟨kvs, .inl hk⟩, _, rfl, t, _, _, _, rfl, rfl, SqT.of ht1, at2, _, DGet.k (k := Sum.inr c) hk, (by show 2 ≤ sizeLine; decide), fun t3 ht3 => ?_⟩
            obtain ⟨d, e, x1, x2, x3, x4, x5⟩ := g1 t3 ht3
            refine ⟨d, e, x1, x2, x3, x4, ?_⟩
            rw [x5]
            exact q _ (S0.trans (Same.new ht3))
      rw [if_neg (str_ne h)] at q
      refine ⟨_, rfl, rfl, _, rfl, ite2 (fun h => ?_) (fun h => ?_)⟩
      · -- copy
        rw [if_pos (str_eq h)] at q
        obtain ⟨kvs, hk, od⟩ := fbn_dget hE0 b
        have dg : DGet H0 E (.str b) (valV kvs (Sum.inr b)) := DGet.k (k := Sum.inr b) hk
        refine ⟨_, rfl, t, _, _, _, rfl, rfl, SqT.of ht1, at1, _, rfl, E, _, rfl, dg, _, rfl, ?_⟩
        rcases od with ⟨e1, e2⟩ | ⟨g, t2, u2, e1, gm, e2, ht2, tu2⟩
        · rw [e2]
          rw [e1] at q
          exact iteF (q _ S0)
        · rw [e2] at dg ⊢
          rw [e1] at q
          refine iteT ?_
          obtain ⟨kvs2, hk2, od2⟩ := fbn_dget hD0 c
          have dg2 : DGet H0 D (.str c) (valV kvs2 (Sum.inr c)) := DGet.k (k := Sum.inr c) hk2
          refine ⟨_, rfl, t, _, _, _, rfl, rfl, SqT.of ht1, at2, _, rfl, D, _, rfl, dg2, _, rfl, ?_⟩
          rcases od2 with ⟨e3, e4⟩ | ⟨g2, t3, u3, e3, gm3, e4, ht3, tu3⟩
          · rw [e4]
            rw [e3] at q
            exact iteF (q _ S0)
          · rw [e4] at dg2 ⊢
            rw [e3] at q
            refine iteT ?_
            refine ⟨_, rfl, _, rfl, t, _, _, _, rfl, rfl, SqT.of ht1, at1, E, .ref t2, rfl, dg, _, rfl, _, rfl, t, _, _, _, rfl, rfl, SqT.of ht1, at2, D, .ref t3, rfl, dg2, t2, t3, u2, u3, g, g2, rfl, ht2, ht3, tu2, tu3, okE.sh g gm, okD.sh g2 gm3, ?_⟩
            exact q _ S0
      rw [if_neg (str_ne h)] at q
      refine ⟨_, rfl, rfl, _, rfl, ite2 (fun h => ?_) (fun h => ?_)⟩
      · -- ask
        rw [if_pos (str_eq h)] at q
        refine ⟨_, rfl, t, _, _, _, rfl, rfl, SqT.of ht1, at1, _, rfl, fa, C, dx, _, _, rfl, S0 _ _ hfa, cl, n1, ff_name, rfl, ?_⟩
        have e : decide (V.str b = V.str nm) = decide (b = nm) := by
          by_cases e : b = nm
          · rw [e, decide_eq_true rfl, decide_eq_true rfl]
          · rw [decide_eq_false e, decide_eq_false fun h => e (by injection h)]
        rw [e]
        exact q _ S0
      rw [if_neg (str_ne h)] at q
      -- get, and what is no deed
      obtain ⟨kvs, hk, od⟩ := fbn_dget hE0 b
      have dg : DGet H0 E (.str b) (valV kvs (Sum.inr b)) := DGet.k (k := Sum.inr b) hk
      refine ⟨_, rfl, t, _, _, _, rfl, rfl, SqT.of ht1, at1, _, rfl, E, _, rfl, dg, _, rfl, ?_⟩
      unfold inN at q
      rcases od with ⟨e1, e2⟩ | ⟨g, t2, u2, e1, gm, e2, _⟩
      · rw [e2]
        rw [e1] at q
        exact iteF (q _ S0)
      rw [e2]
      rw [e1] at q
      refine iteT ?_
      refine ⟨_, rfl, sl, rfl, ⟨_, SqT.of (S0 _ _ hs)⟩, fun L hL => ?_⟩
      have lx : xs.length = ahead.length := by rw [ths.length, List.length_map]
      refine lc_tup (xs := xs) (fun k H4 => Same H0 H4 ∧ H4 L = some (.lst ((ahead.take k).map fun e => V.str (e.headD "")))) ?_ ?_ ?_ ?_
      · exact ⟨Same.new hL, upd_same⟩
      · rintro k H4 _ ⟨S4, _⟩
        exact SqT.of (S4 _ _ (S0 _ _ hs))
      · rintro k x H4 hx4 ⟨S4, h4L⟩
        obtain ⟨dd, hd, td⟩ := ths.get' hx4
        rw [List.getElem?_map] at hd
        cases hq : ahead[k]? with
        | none => rw [hq] at hd; cases hd
        | some e =>
          rw [hq] at hd
          cases hd
          obtain ⟨t4, rfl, ht4⟩ := dD_at td
          have ne := nes e (List.mem_of_getElem? hq)
          obtain ⟨z, e', rfl⟩ : ∃ z e', e = z :: e' := by
            cases e with
            | nil => exact absurd rfl ne
            | cons z e' => exact ⟨z, e', rfl⟩
          refine ⟨rfl, yes (iteT ⟨_, rfl, t4, _, _, _, rfl, rfl, SqT.of (S4 _ _ (S0 _ _ ht4)), at0, _, h4L, ?_, Same.wr S4 hL, ?_⟩)⟩
          · rw [List.length_map, List.length_take]
            exact Nat.lt_of_le_of_lt (show _ ≤ 100 by omega) (by decide)
          · rw [upd_same, List.take_add_one, hq, List.map_append]
            rfl
      · rintro H4 ⟨S4, h4L⟩
        rw [lx, List.take_length] at h4L
        refine ⟨L, _, rfl, .inl (SqL.of h4L), rfl, (by rw [List.all_map]; exact List.all_eq_true.mpr fun _ _ => rfl), ?_⟩
        exact q _ (S0.trans S4)

end
end Fh

set_option Elab.async false
set_option linter.all false
set_option maxRecDepth 100000
set_option maxHeartbeats 4000000
namespace Fh
open PySem L2 PyProof.Rows
/-! ### rows of what is wrong, calls -/
structure RwL (H : Hp) (p : Addr) (T : List Row) : Prop where
  l : H p = some (.lst (T.map fun q => V.ref q.1))
  t : ∀ q ∈ T, H q.1 = some (.tup (q.2.map kV))
theorem RwL.same {H H' : Hp} {p : Addr} {T : List Row} (x : RwL H p T) (s : Same H H') : RwL H' p T := ⟨s _ _ x.l, fun q h => s _ _ (x.t q h)⟩
theorem RwL.nil {H : Hp} {p : Addr} (h : H p = some (.lst [])) : RwL H p [] := ⟨h, fun q h => nomatch h⟩
theorem RwL.more {H : Hp} {p t : Addr} {T : List Row} {y : List Key} (x : RwL H p T) (ht : H t = none) : RwL (upd (upd H t (.tup (y.map kV))) p (.lst (T.map (fun q => V.ref q.1) ++ [.ref t]))) p (T ++ [(t, y)]) := by
  have nt : t ≠ p := fun e => by rw [e, x.l] at ht; cases ht
  refine ⟨by rw [upd_same, List.map_append]; rfl, fun q hq => ?_⟩
  rcases List.mem_append.mp hq with h | h
  · have h1 := x.t q h
    have n1 : q.1 ≠ p := fun e => by rw [e, x.l] at h1; cases h1
    rw [upd_ne n1, upd_ne fun e => by rw [e, ht] at h1; cases h1]
    exact h1
  · rw [List.mem_singleton.mp h]
    show upd _ _ _ t = _
    rw [upd_ne nt, upd_same]
structure Cw where
  num : Int
  nam : Str
  ask : Str
  ans : Str
  ds : List (List Str)
def Cw.d (c : Cw) : PyData := .tuple [.int c.num, .str c.nam, .str c.ask, .str c.ans, .tuple (c.ds.map dD)]
theorem cw_at {H : Hp} {v : V} {c : Cw} (h : Tp H v c.d) : ∃ (t e : Addr) (xs : List V), v = .ref t ∧ H t = some (.tup [.int c.num, .str c.nam, .str c.ask, .str c.ans, .ref e]) ∧ H e = some (.tup xs) ∧ TpAll H xs (c.ds.map dD) := by
  obtain ⟨t, xs, rfl, ht, q⟩ := Tp.inv h
  obtain ⟨v1, r1, rfl, t1, q⟩ := TpAll.icons q
  obtain ⟨v2, r2, rfl, t2, q⟩ := TpAll.icons q
  obtain ⟨v3, r3, rfl, t3, q⟩ := TpAll.icons q
  obtain ⟨v4, r4, rfl, t4, q⟩ := TpAll.icons q
  obtain ⟨v5, r5, rfl, t5, q⟩ := TpAll.icons q
  rw [q.inil] at ht
  obtain ⟨e, xs, rfl, he, tx⟩ := Tp.inv t5
  rw [t1.iint, t2.istr, t3.istr, t4.istr] at ht
  exact ⟨t, e, xs, rfl, ht, he, tx⟩
def kNob (a b : Str) : List Key := [.inr "nobody", .inr a, .inr b]
def stoL (recs : List Rec) (c : Cw) (zs : List Str) : List (List Key) := (zs.filter fun z => !decide (z ∈ recs.map (·.1))).map fun z => kNob c.nam z
theorem inV_names {zs : List Str} {z : Str} : inV (.str z) (zs.map V.str) = decide (z ∈ zs) := by
  induction zs with
  | nil => rfl
  | cons y zs ih =>
    show (decide _ || inV (.str z) (zs.map V.str)) = _
    rw [ih]
    by_cases e : z = y
    · subst e
      simp
    · have : decide (V.str y = V.str z) = false := decide_eq_false fun h => e (by injection h with h; exact h.symm)
      simp [e, this]
      exact fun h => absurd h.symm e
abbrev sSto : Stmt := top 24
abbrev nSto : List Str := ["face", "call", "number", "name", "ask", "answer", "deeds", "records", "record", "fields", "asked"]
def spSto (C : Addr) : Sp := fun vs H Q _ => ∃ (fa t : Addr) (cs : List (Str × PyData)) (recs : List Rec) (c : Cw), vs = [.ref fa, .ref t] ∧ FaceR C H fa cs (recs.map rD) ∧ recs.length ≤ 100 ∧ Tp H (.ref t) c.d ∧
  ∀ (p : Addr) (T : List Row) (H' : Hp), Same H H' → H p = none → RwL H' p T → T.map (·.2) = stoL recs c [c.ask, c.ans] → Q (.ref p) H'
section
variable {P : Program} {w : World} {K : PySem.W.Frag} {mg : Str → Option Value} {base : Heap}
theorem scSto : FnScope nSto ["face", "call"] (defScope sSto) := ⟨rfl, rfl, rfl, by decide +kernel, rfl, by decide +kernel, by decide +kernel⟩
theorem ok_sto {C f : Addr} {fd : FuncData} (F : Fun K "strangers_of" "strangers_of" sSto f fd) (cl : Cls K C) (n4 : NoAttr K C "records") : FnOk P w K mg base CX0 1 f fd ["face", "call"] (spSto C) := by
  refine F.ok scSto (fun vs H Q E h => ?_) (fun cdv A outer s H vs Q E hr h => ?_)
  · obtain ⟨fa, t, cs, recs, c, rfl, _⟩ := h
    rfl
  · obtain ⟨fa, t, cs, recs, c, rfl, hF, lr, tc, q⟩ := h
    have hu := hu_of hr
    refine ⟨_, (pss_cons (ps_asg (pv 1) (pg_tup rfl (pgs_cons (pg_name (i := 2) scSto.nd rfl (Or.inl rfl)) (pgs_cons (pg_name (i := 3) scSto.nd rfl (Or.inr rfl)) (pgs_cons (pg_name (i := 4) scSto.nd rfl (Or.inl rfl)) (pgs_cons (pg_name (i := 5) scSto.nd rfl (Or.inl rfl)) (pgs_cons (pg_name (i := 6) scSto.nd rfl (Or.inl rfl)) pgs_nil)))))))
      (pss_cons (ps_set (i := 7) scSto.nd rfl (Or.inr rfl) (pe_lc (own := [("record", 8), ("fields", 9)]) (g := (gTup K 2 (gCons (gName 8) (gCons (gName 9) gNil)))) (tt := tYes) (te := tVar 8) rfl scSto.nd (pi_tup (pe_fld (pv 0) rfl)) (blkOk_by (N := nSto) (sc := defScope sSto) (by decide +kernel)) (fun _ _ _ _ _ => (pg_tup rfl (pgs_cons (pg_name (i := 8) scSto.nd rfl (Or.inl rfl)) (pgs_cons (pg_name (i := 9) scSto.nd rfl (Or.inl rfl)) pgs_nil)))) (fun _ _ _ _ _ => pts_nil) (fun _ _ _ _ _ => (pv 8))))
      (pss_one (ps_ret (pe_lc (own := [("asked", 10)]) (g := (gName 10)) (tt := tTest (tOp (rIn K true) (tVar 10) (tVar 7))) (te := tTup (tCons (tC (.str "nobody")) (tCons (tVar 3) (tCons (tVar 10) tNil)))) rfl scSto.nd (pi_tup (pe_tup (pa_cons (pv 4) (pa_cons (pv 5) pa_nil)))) (blkOk_by (N := nSto) (sc := defScope sSto) (by decide +kernel)) (fun _ _ _ _ _ => (pg_name (i := 10) scSto.nd rfl (Or.inl rfl))) (fun _ _ _ _ _ => pts_one (pt_cmpR op_notIn_seq (pv 10) (pv 7) rfl)) (fun _ _ _ _ _ => (pe_tup (pa_cons pe_str (pa_cons (pv 3) (pa_cons (pv 10) pa_nil)))))))))), ?_⟩
    obtain ⟨dx, v1, v2, v3, v4, v5, hA, t3, t4⟩ := id hF
    obtain ⟨t', e, ys, et, ht, he, tys⟩ := cw_at tc
    cases et
    obtain ⟨b, xs, rfl, hb, tq⟩ := TpR.inv t4
    have el : xs.length = recs.length := by rw [tq.length, List.length_map, List.length_map]
    refine ⟨_, rfl, t, _, rfl, SqT.of ht, rfl, _, _, rfl, _, _, rfl, _, _, rfl, _, _, rfl, _, _, rfl, rfl, ?_⟩
    try dsimp only [List.set_cons_succ, List.set_cons_zero]
    refine ⟨_, rfl, fa, C, dx, _, _, rfl, hA, cl, n4, ff_records, b, rfl, ⟨_, .inl hb⟩, fun D hD0 => ?_⟩
    refine lc_tup (xs := xs) (fun i H3 => Same H H3 ∧ H3 D = some (.lst (((recs.take i).map (·.1)).map V.str))) ?_ ?_ ?_ ?_
    · exact ⟨Same.new hD0, upd_same⟩
    · rintro i H3 _ ⟨S3, _⟩
      exact .inl (Rd.same hb S3)
    · rintro i z H3 hz ⟨S3, h3⟩
      obtain ⟨r, t2, u, hr', rfl, ht2, tu⟩ := recs_at tq hz
      have hlt := (List.getElem?_eq_some_iff.mp hr').1
      refine ⟨t2, _, rfl, SqT.of (S3 _ _ ht2), rfl, _, _, rfl, _, _, rfl, rfl, rfl, yes (iteT ?_)⟩
      refine ⟨_, rfl, _, h3, ?_, Same.wr S3 hD0, ?_⟩
      · rw [List.length_map, List.length_map, List.length_take]
        exact Nat.lt_of_le_of_lt (Nat.min_le_left _ _) (Nat.lt_of_lt_of_le (show i < 101 by omega) (by decide))
      · rw [upd_same, List.take_add_one, hr']
        simp
    rintro H2 ⟨S2, hD⟩
    rw [el, List.take_length] at hD
    try dsimp only [List.set_cons_succ, List.set_cons_zero]
    refine ⟨_, rfl, _, rfl, (by show 2 ≤ sizeLine; decide), fun t5 ht5 => ?_⟩
    have S5 := Same.new (H := H2) (o := .tup [.str c.ask, .str c.ans]) ht5
    have e5 : (upd H2 t5 (.tup [.str c.ask, .str c.ans])) t5 = some (.tup [.str c.ask, .str c.ans]) := upd_same
    generalize (upd H2 t5 (.tup [.str c.ask, .str c.ans])) = H5 at *
    have S05 := S2.trans S5
    have hD5 := S5 _ _ hD
    refine ⟨t5, rfl, ⟨_, SqT.of e5⟩, fun D2 hD2 => ?_⟩
    refine lc_tup (xs := [V.str c.ask, V.str c.ans]) (fun k H6 => Same H5 H6 ∧ ∃ T, RwL H6 D2 T ∧ T.map (·.2) = stoL recs c (([c.ask, c.ans] : List Str).take k)) ?_ ?_ ?_ ?_
    · exact ⟨Same.new hD2, [], RwL.nil upd_same, rfl⟩
    · rintro k H6 _ ⟨S6, _⟩
      exact SqT.of (S6 _ _ e5)
    · rintro k y H6 hy ⟨S6, T, X6, e6⟩
      obtain ⟨z, rfl, hz⟩ : ∃ z, y = .str z ∧ ([c.ask, c.ans] : List Str)[k]? = some z := by
        match k, hy with
        | 0, hy => cases hy; exact ⟨_, rfl, rfl⟩
        | 1, hy => cases hy; exact ⟨_, rfl, rfl⟩
      have et : ([c.ask, c.ans] : List Str).take (k + 1) = ([c.ask, c.ans] : List Str).take k ++ [z] := by rw [List.take_add_one, hz]; rfl
      refine ⟨rfl, ?_⟩
      refine ⟨_, rfl, _, rfl, D, _, rfl, .inl (SqL.of (S6 _ _ hD5)), rfl, (by rw [List.all_map]; exact List.all_eq_true.mpr fun _ _ => rfl), _, rfl, ?_⟩
      rw [if_pos rfl, inV_names, et]
      have ea : stoL recs c (([c.ask, c.ans] : List Str).take k ++ [z]) = stoL recs c (([c.ask, c.ans] : List Str).take k) ++ stoL recs c [z] := by
        unfold stoL
        rw [List.filter_append, List.map_append]
      rw [ea, ← e6]
      refine ite2 (fun hy => ?_) (fun hy => ?_)
      · refine ⟨_, rfl, _, rfl, (by show 3 ≤ sizeLine; decide), fun t7 ht7 => ?_⟩
        have nD : t7 ≠ D2 := fun e => by rw [e, X6.l] at ht7; cases ht7
        have nD' : D2 ≠ t7 := fun e => nD e.symm
        refine ⟨_, by rw [upd_ne nD']; exact X6.l, ?_, Same.two S6 hD2 ht7, _, RwL.more (y := kNob c.nam z) X6 ht7, ?_⟩
        · rw [List.length_map]
          have := congrArg List.length e6
          rw [List.length_map] at this
          rw [this]
          unfold stoL
          rw [List.length_map]
          refine Nat.lt_of_le_of_lt (List.length_filter_le _ _) ?_
          rw [List.length_take]
          exact Nat.lt_of_le_of_lt (Nat.min_le_right _ _) (show 2 < sizeLine by decide)
        · rw [List.map_append]
          congr 1
          unfold stoL
          rw [List.filter_cons, if_pos hy]
          rfl
      · refine ⟨S6, T, X6, ?_⟩
        have e0 : stoL recs c [z] = [] := by
          unfold stoL
          rw [List.filter_cons, if_neg hy]
          rfl
        rw [e0, List.append_nil]
    · rintro H6 ⟨S6, T, X6, e6⟩
      exact q D2 T H6 (S05.trans S6) (S05.free hD2) X6 e6
end
end Fh

set_option Elab.async false
set_option linter.all false
set_option maxRecDepth 100000
set_option maxHeartbeats 4000000
namespace Fh
open PySem PySem.Spec PyProof.Rows L2
/-! ### enumerate(what begins an iterator), from 0 on -/
theorem enum_new {v : Value} {o : Obj} {S : Heap → Prop} (B : PySem.Begins v o S) : Meets (Builtin.«enumerate.__new__» ⟨[.type "enumerate", v], []⟩) (fun _ R s => S s.heap ∧
    R (.ok (.ret (.ref (s.heap.push o).objs.size))) { s with heap := (s.heap.push o).push { cls := .type "enumerate", data := .fields #[.none, .bool false, .ref s.heap.objs.size, rawInt 0, .none, .none] } }) :=
  .of_wp fun prog w A R ⟨hp, g, d, tk, os⟩ ⟨hS, h⟩ => by
    have q0 := sub_enumerate
    have it : ∀ {A1 : Around} {E : Value → Shared → Prop} {Q : Value → Shared → Prop}, Q (.ref hp.objs.size) ⟨hp.push o, g, d, tk, os⟩ → wpAny (model prog w) A1 (pyIter v) Q E ⟨hp, g, d, tk, os⟩ := fun q => B.iter prog w _ _ ⟨hp, g, d, tk, os⟩ _ hS q
    wp_walk using it
    refine wpAny_stack_any fun st => wpAny_pure ?_
    split
    · rename_i c _ _ _ _ _
      cases (c == Value.type "enumerate") <;> (wp_walk using it; exact ⟨_, rfl, h⟩)
    · wp_walk using it
      exact ⟨_, rfl, h⟩
section
variable {prog : Program} {w : World} {A : Around} {E : Value → Shared → Prop} {s : Shared}
theorem call_enum {v : Value} {o : Obj} {S : Heap → Prop} {Q : Value → Shared → Prop} (B : PySem.Begins v o S) (hS : S s.heap)
    (h : ∀ h', IsEnum h' (s.heap.objs.size + 1) s.heap.objs.size 0 .none → h'.get? s.heap.objs.size = some o → (∀ b u, s.heap.get? b = some u → h'.get? b = some u) → Q (.ref (s.heap.objs.size + 1)) { s with heap := h' }) :
    wpAny (model prog w) A (call (.type "enumerate") [v]) Q E s := by
  refine callType_new F.called_enumerate (by decide) (F.typeCall_enumerate_1 _) (F.newCall_enumerate_1 _) (fun obj => F.args_object_init_2 obj _) F.entry_enumerate_new (enum_new B) ⟨hS, ?_⟩
  have z : (s.heap.push o).objs.size = s.heap.objs.size + 1 := Heap.size_push _ _
  have e1 := Heap.get?_push_size (s.heap.push o) (o := { cls := .type "enumerate", data := .fields #[.none, .bool false, .ref s.heap.objs.size, rawInt 0, .none, .none] }) rfl
  rw [z] at e1
  show _ ∧ _
  rw [z]
  exact ⟨⟨_, e1, rfl⟩, h _ e1 (Heap.get?_push_of_some _ (Heap.get?_push_size _ B.free)) fun b u q => Heap.get?_push_of_some _ (Heap.get?_push_of_some _ q)⟩
end
/-! ### for i, x in enumerate(tuple) -/
/-- the tuple xs at a, each item in a new pair -/
def IteT (K : PySem.W.Frag) (a : Addr) (xs : List V) : It :=
  ⟨fun i H => SqT K H a xs ∧ i < xs.length, fun i H v H' => ∃ T x, v = .ref T ∧ H T = none ∧ H' = upd H T (.tup [.int (i : Nat), x]) ∧ xs[i]? = some x, fun i H => SqT K H a xs ∧ xs.length = i⟩
theorem turn_enumT {P : Program} {w : World} {K : PySem.W.Frag} {elts : List Expr} {kk : Nat} {tpos : Pos} (a e it : Addr) (xs : List V) :
    Turn P w K (.Tuple elts kk tpos) (IteT K a xs) [e, it] e (fun i h => (∃ old, IsEnum h e it ((i : Nat) : Int) old) ∧ h.IsTupleIter it a i ∧ e ≠ it) where
  mem := List.mem_cons_self
  obj := fun i h ⟨⟨old, he⟩, ⟨o, ho, hc, hd⟩, _⟩ b hb => by
    rcases List.mem_cons.mp hb with rfl | hb
    · exact ⟨_, he, fun v q => nomatch q⟩
    · rw [List.mem_singleton.mp hb]
      exact ⟨o, ho, fun v q => by rw [hd] at q; cases q⟩
  keep := fun i h h' ⟨⟨old, he⟩, hi, ne⟩ k => ⟨⟨old, k e List.mem_cons_self _ he⟩, hi.at fun o q => k it (List.mem_cons_of_mem _ List.mem_cons_self) o q, ne⟩
  item := by
    intro X hP hw hK hc i pins s σ H E I hf st hg
    subst hP hw hK
    obtain ⟨⟨old, he⟩, hit, ne⟩ := st
    obtain ⟨hq, hlt⟩ := hg
    obtain ⟨its, rv, p, _⟩ := I.tuple hq
    have hlen : its.toArray.size = xs.length := by rw [List.size_toArray]; exact rv.length.symm
    have lte : e < s.heap.objs.size := Heap.lt_size he
    have lti : it < s.heap.objs.size := by obtain ⟨_, q, _⟩ := hit; exact Heap.lt_size q
    have nea : e ≠ a := fun q => by
      obtain ⟨o, ho, hcl, _⟩ := p
      rw [← q, he] at ho
      cases ho
      exact absurd (show Value.type "enumerate" = Value.type "tuple" from hcl) (by decide)
    have nia : a ≠ it := fun q => by
      obtain ⟨o, ho, hcl, _⟩ := p
      obtain ⟨o2, ho2, hcl2, _⟩ := hit
      rw [q, ho2] at ho
      cases ho
      rw [hcl] at hcl2
      exact absurd hcl2 (by decide)
    have D := PySem.Draws.tuple (prog := X.prog) (w := X.w) (A := X.A.in1) (by simpa using I.ok.hd hc) it a nia its.toArray
    refine wpAny_pyNext_enum_itemD D he ⟨hit, p⟩ (by rw [hlen]; exact hlt) ne (by simp [ne, nea]) fun u h' tk hu ho hst hT hsz hk => ?_
    refine ⟨_, rfl, wpAny_letOwnedTupleGo_enum (s := { s with heap := h', toks := tk + 1 }) ho fun h2 he2 sb => ?_⟩
    obtain ⟨x, hx, ru⟩ : ∃ x, xs[i]? = some x ∧ RelV x u := by
      obtain ⟨u2, hu2, r2⟩ := rv.get (List.getElem?_eq_getElem hlt)
      have hu' : its.toArray[i]? = some u := hu
      rw [List.getElem?_toArray, hu2] at hu'
      cases hu'
      exact ⟨_, List.getElem?_eq_getElem hlt, r2⟩
    have nT : s.heap.objs.size ≠ e := Nat.ne_of_gt lte
    have at2 : h2.get? s.heap.objs.size = some { cls := .type "tuple", data := .seq #[.int i tk, u] } := (sb.2 _ nT).trans hT
    have fresh := I.hok.fresh (Nat.le_refl s.heap.objs.size)
    have I1 : Inv X pins σ (upd H s.heap.objs.size (.tup [.int (i : Nat), x])) { s with heap := h2, toks := tk + 1 } :=
      I.turnedNew (ch := [e, it]) (fun b o hb q => by
        have b1 : b ≠ e := fun z => hb (by simp [z])
        have b2 : b ≠ it := fun z => hb (by simp [z])
        exact (sb.2 b b1).trans (hk b o b1 b2 q)) hf (Nat.le_refl _) ⟨by show 2 ≤ sizeLine; decide, [.int i tk, u], .cons ⟨_, rfl⟩ (.cons ru .nil), ⟨_, at2, rfl, _, rfl⟩⟩
    refine ⟨.ref s.heap.objs.size, _, I1, rfl, ⟨_, x, rfl, fresh, rfl, hx⟩, ⟨⟨u, ?_⟩, hst.1.at fun o q => (sb.2 it (Ne.symm ne)).trans q, ne⟩, fun b hb => ?_⟩
    · have e1 : ((i + 1 : Nat) : Int) = (i : Int) + 1 := by omega
      rw [e1]
      exact he2
    · have lb : b < s.heap.objs.size := by
        rcases List.mem_cons.mp hb with rfl | hb
        · exact lte
        · rw [List.mem_singleton.mp hb]; exact lti
      rw [upd_ne (Nat.ne_of_lt lb)]
      exact (hf b hb).1
  done := by
    intro X hP hw hK hc i pins s σ H E I hf st hg
    subst hP hw hK
    obtain ⟨⟨old, he⟩, hit, ne⟩ := st
    obtain ⟨hq, hn⟩ := hg
    obtain ⟨its, rv, p, _⟩ := I.tuple hq
    have hlen : its.toArray.size = i := by rw [List.size_toArray, ← hn]; exact rv.length.symm
    have nia : a ≠ it := fun q => by
      obtain ⟨o, ho, hcl, _⟩ := p
      obtain ⟨o2, ho2, hcl2, _⟩ := hit
      rw [q, ho2] at ho
      cases ho
      rw [hcl] at hcl2
      exact absurd hcl2 (by decide)
    have D := PySem.Draws.tuple (prog := X.prog) (w := X.w) (A := X.A.in1) (by simpa using I.ok.hd hc) it a nia its.toArray
    obtain ⟨f0, f1, f2, f3, f4, f5⟩ := hf it (by simp)
    rw [hlen] at D
    exact wpAny_pyNext_enum_endD D he ⟨hit, p⟩ fun h' eb => ⟨rfl, I.turned (t' := s.toks) (fun b o hb q => eb b o hb q) f0 f1 f3 f4 f5⟩
  self := fun A i s Q E ⟨⟨_, he⟩, _⟩ h => wpAny_pyIter_enum he h
def iEnumT (K : PySem.W.Frag) (ta : TA) : TI := fun σ H R => ta σ H fun vs H1 => ∃ a xs, vs = [.ref a] ∧ SqT K H1 a xs ∧ R (IteT K a xs) H1
theorem pi_enumT {X : Cx} {e : Expr} {ta : TA} {p pos tpos : Pos} {elts : List Expr} {kk : Nat} (hg : Gl X "enumerate") (hm : X.mg "enumerate" = none) (ha : PA X [e] ta) (hs : starEach [e] X.env = [(false, eval e X.env)] := by rfl) : PI X (.Tuple elts kk tpos) (.Call (.Name "enumerate" p) [e] [] pos) (iEnumT X.K ta) := by
  refine ⟨fun pins s σ H R I h => Call_ (ld_blt I hg hm boot_enumerate (PyProof.Rows.callWith_type1 (thn (ha.run pos pins s σ H _ I h) fun us s1 ⟨vs, H1, I1, r1, q1⟩ => ?_) hs rfl))⟩
  obtain ⟨a, xs, rfl, hq, q⟩ := q1
  obtain ⟨u, rfl, ru⟩ := vals1 r1
  cases ru
  obtain ⟨its, rv, pt, _⟩ := I1.tuple hq
  refine call_enum (PySem.begins_tuple a its.toArray) pt fun h' he hit hk => wpAny_pyIter_enum he ?_
  have I2 : Inv X pins σ H1 { s1 with heap := h' } := I1.kept (t' := s1.toks) hk
  refine ⟨s1.heap.objs.size + 1, [s1.heap.objs.size + 1, s1.heap.objs.size], _, _, H1, rfl, I2, turn_enumT a (s1.heap.objs.size + 1) s1.heap.objs.size xs, ⟨⟨.none, he⟩, ⟨_, hit, rfl, rfl⟩, Nat.succ_ne_self _⟩, fun b hb => ?_, q⟩
  have le : s1.heap.objs.size ≤ b := by
    rcases List.mem_cons.mp hb with rfl | hb
    · exact Nat.le_succ _
    · rw [List.mem_singleton.mp hb]; exact Nat.le_refl _
  exact I1.fpOk le (I1.hok.fresh le)
theorem walk_enumT {K : PySem.W.Frag} {a : Addr} {xs : List V} : Walk (IteT K a xs) xs.length (fun H => SqT K H a xs) (YPair (fun i => some (.int (i : Nat))) (fun i => xs[i]?)) :=
  ⟨fun i H hi q => ⟨q, hi⟩, fun H q => ⟨q, rfl⟩, fun i H x H' hi q ⟨T, y, e, hT, eH, hy⟩ => ⟨T, _, y, e, hT, eH, rfl, hy⟩⟩
end Fh

set_option Elab.async false
set_option linter.all false
set_option maxRecDepth 100000
set_option maxHeartbeats 4000000
namespace Fh
open PySem L2 PyProof.Rows
/-! ### x in a list of data, x not in one -/
def rInDL (K : PySem.W.Frag) (neg : Bool) : R2 := fun x y H Q => ∃ d ds, Dp K H x d ∧ Dp K H y (.list ds) ∧ SeqAt.shaped d = true ∧ SeqAt.shaped (.list ds) = true ∧ PyData.depthAll ds ≤ 2 ∧ Q (.bl (if neg = true then !(ds.any fun z => PyData.eqv z d) else ds.any fun z => PyData.eqv z d)) H
theorem op_inDL {X : Cx} (hu : X.A.units + 64 < cLine) : OpR X (compareOp .In) (rInDL X.K false) := by
  intro pins s σ H x y v u Q I rx ry h
  obtain ⟨d, ds, hd, he, sd, se, dp, q⟩ := h
  obtain ⟨as, r1⟩ := Dp.reads I d x v hd rx
  obtain ⟨bs, r2⟩ := Dp.reads I (.list ds) y u he ry
  exact SeqAt.in_list_reads r2 r1 (SeqAt.canLay_of_shaped se) (SeqAt.canLay_of_shaped sd) (Nat.lt_of_le_of_lt (Nat.add_le_add_left (Nat.le_trans (Nat.min_le_left _ _) dp) _) (by omega)) ⟨.bl _, H, I, rfl, q⟩
theorem op_notInDL {X : Cx} (hu : X.A.units + 64 < cLine) : OpR X (compareOp .NotIn) (rInDL X.K true) := by
  intro pins s σ H x y v u Q I rx ry h
  obtain ⟨d, ds, hd, he, sd, se, dp, q⟩ := h
  obtain ⟨as, r1⟩ := Dp.reads I d x v hd rx
  obtain ⟨bs, r2⟩ := Dp.reads I (.list ds) y u he ry
  exact SeqAt.notIn_list_reads r2 r1 (SeqAt.canLay_of_shaped se) (SeqAt.canLay_of_shaped sd) (Nat.lt_of_le_of_lt (Nat.add_le_add_left (Nat.le_trans (Nat.min_le_left _ _) dp) _) (by omega)) ⟨.bl _, H, I, rfl, q⟩
/-! ### effects -/
def effD (an : List Fl) : List Str → PyData
  | a :: b :: c :: r => if a = "ask" then dD (a :: b :: c :: r) else if setB an a b = true then .tuple [.str "set", .str b] else .none
  | _ => .none
def isNo : PyData → Bool
  | .none => true
  | _ => false
structure DdOk (d : List Str) : Prop where
  l : 3 ≤ d.length
  sh : ∀ z ∈ d, Sh 0 (.str z)
structure CwOk (c : Cw) : Prop where
  l : c.ds.length ≤ 12
  ok : ∀ d ∈ c.ds, DdOk d
theorem DdOk.cut {d : List Str} (h : DdOk d) : ∃ a b c r, d = a :: b :: c :: r := by
  match d, h.l with
  | a :: b :: c :: r, _ => exact ⟨a, b, c, r, rfl⟩
theorem eff_sh {an : List Fl} {d : List Str} (h : DdOk d) : Sh 1 (effD an d) := by
  obtain ⟨a, b, c, r, rfl⟩ := h.cut
  have sb := h.sh b (by simp)
  have st : Sh 0 (.str "set") := ⟨by decide +kernel, Nat.zero_le _⟩
  show Sh 1 (if a = "ask" then dD (a :: b :: c :: r) else if setB an a b = true then .tuple [.str "set", .str b] else .none)
  by_cases h1 : a = "ask"
  · rw [if_pos h1]
    exact Sh.tup fun e he => by
      obtain ⟨z, hz, rfl⟩ := List.mem_map.mp he
      exact h.sh z hz
  · rw [if_neg h1]
    by_cases h2 : setB an a b = true
    · rw [if_pos h2]
      exact Sh.tup fun e he => by
        rcases List.mem_cons.mp he with e1 | he
        · rw [e1]; exact st
        · rw [List.mem_singleton.mp he]; exact sb
    · rw [if_neg h2]
      exact ⟨rfl, Nat.zero_le _⟩
def EfV (H : Hp) (v : V) (d : PyData) : Prop := (v = .non ∧ d = .none) ∨ (v ≠ .non ∧ isNo d = false ∧ Tp H v d)
theorem EfV.same {H H' : Hp} {v : V} {d : PyData} (h : EfV H v d) (s : Tk H H') : EfV H' v d := by
  rcases h with h | ⟨h1, h2, h3⟩
  · exact .inl h
  · exact .inr ⟨h1, h2, Tp.keep s _ _ h3⟩
theorem EfV.dp {K : PySem.W.Frag} {H : Hp} {v : V} {d : PyData} (h : EfV H v d) : Dp K H v d := by
  rcases h with ⟨rfl, rfl⟩ | ⟨_, _, h3⟩
  · exact .non
  · exact h3.dp
inductive EfAll (H : Hp) : List V → List PyData → Prop
  | nil : EfAll H [] []
  | cons {v d vs ds} : EfV H v d → EfAll H vs ds → EfAll H (v :: vs) (d :: ds)
theorem EfAll.same {H H' : Hp} (s : Tk H H') : ∀ {vs : List V} {ds : List PyData}, EfAll H vs ds → EfAll H' vs ds
  | _, _, .nil => .nil
  | _, _, .cons h r => .cons (h.same s) (r.same s)
theorem EfAll.dp {K : PySem.W.Frag} {H : Hp} : ∀ {vs : List V} {ds : List PyData}, EfAll H vs ds → DpAll K H vs ds
  | _, _, .nil => .nil
  | _, _, .cons h r => .cons h.dp r.dp
theorem EfAll.len {H : Hp} : ∀ {vs : List V} {ds : List PyData}, EfAll H vs ds → vs.length = ds.length
  | _, _, .nil => rfl
  | _, _, .cons _ r => by rw [List.length_cons, List.length_cons, r.len]
theorem EfAll.snoc {H : Hp} {v : V} {d : PyData} (h : EfV H v d) : ∀ {vs : List V} {ds : List PyData}, EfAll H vs ds → EfAll H (vs ++ [v]) (ds ++ [d])
  | _, _, .nil => .cons h .nil
  | _, _, .cons h1 r => .cons h1 (EfAll.snoc h r)
theorem EfAll.snoc' {H : Hp} {v : V} {d : PyData} {vs : List V} {ds : List PyData} (r : EfAll H vs ds) (h : EfV H v d) : EfAll H (vs ++ [v]) (ds ++ [d]) := EfAll.snoc h r
theorem effs_sh {an : List Fl} {ds : List (List Str)} (h : ∀ d ∈ ds, DdOk d) : SeqAt.shaped (.list (ds.map (effD an))) = true ∧ PyData.depthAll (ds.map (effD an)) ≤ 2 := by
  have a : ∀ e ∈ ds.map (effD an), Sh 1 e := fun e he => by
    obtain ⟨d, hd, rfl⟩ := List.mem_map.mp he
    exact eff_sh (h d hd)
  exact ⟨(Sh.lst a).shaped (by decide), Nat.le_trans (depth_all _ fun e he => (a e he).2) (by decide)⟩
/-! ### rows of deeds -/
def kAt (w z : Str) (j : Nat) : List Key := [.inr w, .inr z, .inl j]
def wde1 (nm : Str) (c : Cw) (own an : List Fl) (j : Nat) (d : List Str) : List (List Key) :=
  (if astB nm own an d (c.ds.take j) = true then [] else [kAt "deed" c.nam j]) ++ (if (!isNo (effD an d) && ((c.ds.take j).map (effD an)).any fun z => PyData.eqv z (effD an d)) = true then [kAt "twice" c.nam j] else [])
def wdeR (nm : Str) (c : Cw) (own an : List Fl) : Nat → List (List Key)
  | 0 => []
  | j + 1 => wdeR nm c own an j ++ (match c.ds[j]? with
    | some d => wde1 nm c own an j d
    | none => [])
theorem wde_len {nm : Str} {c : Cw} {own an : List Fl} : ∀ j, (wdeR nm c own an j).length ≤ 2 * j
  | 0 => Nat.le_refl _
  | j + 1 => by
    have ih := wde_len (nm := nm) (c := c) (own := own) (an := an) j
    unfold wdeR
    rw [List.length_append]
    have : (match c.ds[j]? with
      | some d => wde1 nm c own an j d
      | none => []).length ≤ 2 := by
      cases c.ds[j]? with
      | none => exact Nat.zero_le _
      | some d =>
        show (wde1 nm c own an j d).length ≤ 2
        unfold wde1
        rw [List.length_append]
        have a1 : (if astB nm own an d (c.ds.take j) = true then [] else [kAt "deed" c.nam j]).length ≤ 1 := by split <;> simp
        have a2 : (if (!isNo (effD an d) && ((c.ds.take j).map (effD an)).any fun z => PyData.eqv z (effD an d)) = true then [kAt "twice" c.nam j] else []).length ≤ 1 := by split <;> simp
        omega
    omega
def FaceN (C : Addr) (H : Hp) (fa : Addr) (nm : Str) (cs rs : List (Str × PyData)) : Prop := ∃ (dx : Addr) (v2 v3 v4 v5 : V), H fa = some (.ins C dx (ff (.str nm) v2 v3 v4 v5)) ∧ TpR H v3 (rowsD cs) ∧ TpR H v4 (rowsD rs)
theorem FaceN.r {C : Addr} {H : Hp} {fa : Addr} {nm : Str} {cs rs : List (Str × PyData)} (h : FaceN C H fa nm cs rs) : FaceR C H fa cs rs := by
  obtain ⟨dx, v2, v3, v4, v5, h1, h2, h3⟩ := h
  exact ⟨dx, _, v2, v3, v4, v5, h1, h2, h3⟩
theorem FaceN.same {C : Addr} {H H' : Hp} {fa : Addr} {nm : Str} {cs rs : List (Str × PyData)} (h : FaceN C H fa nm cs rs) (s : Same H H') : FaceN C H' fa nm cs rs := by
  obtain ⟨dx, v2, v3, v4, v5, h1, h2, h3⟩ := h
  exact ⟨dx, v2, v3, v4, v5, s _ _ h1, h2.same s, h3.same s⟩
theorem cut_take {xs : List V} {j : Nat} (h : j ≤ xs.length) : cutV xs none (some (j : Int)) = xs.take j := by
  unfold cutV
  have e0 : HT.sIx xs.length 0 none = 0 := rfl
  have e1 : HT.sIx xs.length xs.length (some (j : Int)) = j := by
    show (if (j : Int) < 0 then ((j : Int) + (xs.length : Nat)).toNat else min (j : Int).toNat xs.length) = j
    rw [if_neg (by omega)]
    show min j xs.length = j
    omega
  rw [e0, e1]
  rfl
theorem npW {σ : L2.St} {H : Hp} {Q : Option Int → Hp → Prop} (h : Q none H) : tNoPart σ H Q := h
theorem TpAll.take {H : Hp} : ∀ {vs : List V} {ds : List PyData} (k : Nat), TpAll H vs ds → TpAll H (vs.take k) (ds.take k)
  | _, _, 0, _ => .nil
  | _, _, _ + 1, .nil => .nil
  | _, _, k + 1, .cons h r => .cons h (r.take k)
abbrev sWde : Stmt := top 25
abbrev nWde : List Str := ["face", "call", "number", "name", "ask", "answer", "deeds", "asked", "answered", "found", "done", "place", "deed", "effect"]
def spWde (C : Addr) : Sp := fun vs H Q _ => ∃ (fa t : Addr) (nm : Str) (cs rs : List (Str × PyData)) (c : Cw) (own an : List Fl), vs = [.ref fa, .ref t] ∧ FaceN C H fa nm cs rs ∧ Tp H (.ref t) c.d ∧ CwOk c ∧ rs.lookup c.ask = some (.tuple (own.map Fl.d)) ∧ rs.lookup c.ans = some (.tuple (an.map Fl.d)) ∧ FOkR own ∧ FOkR an ∧
  ∀ (p : Addr) (T : List Row) (H' : Hp), Same H H' → H p = none → RwL H' p T → T.map (·.2) = wdeR nm c own an c.ds.length → Q (.ref p) H'
section
variable {P : Program} {w : World} {K : PySem.W.Frag} {mg : Str → Option Value} {base : Heap}
theorem scWde : FnScope nWde ["face", "call"] (defScope sWde) := ⟨rfl, rfl, rfl, by decide +kernel, rfl, by decide +kernel, by decide +kernel⟩
theorem ok_wde {C f : Addr} {fd : FuncData} (F : Fun K "wrong_deeds" "wrong_deeds" sWde f fd) (G : Glb mg) (ge : mg "enumerate" = none) (DB : Has P w K mg base "fields_by_name" 2 ["face", "record"] (spFbn9 C)) (DA : Has P w K mg base "is_as_told" 2 pAst (spAst C)) (DE : Has P w K mg base "effect_of" 1 nEff spEff) : FnOk P w K mg base CX0 3 f fd ["face", "call"] (spWde C) := by
  refine F.ok scWde (fun vs H Q E h => ?_) (fun cdv A outer s H vs Q E hr h => ?_)
  · obtain ⟨fa, t, nm, cs, rs, c, own, an, rfl, _⟩ := h
    rfl
  · obtain ⟨fa, t, nm, cs, rs, c, own, an, rfl, hF, tc, cok, r1, r2, okD, okE, q⟩ := h
    have hu := hu_of hr
    refine ⟨_, (pss_cons (ps_asg (pv 1) (pg_tup rfl (pgs_cons (pg_name (i := 2) scWde.nd rfl (Or.inl rfl)) (pgs_cons (pg_name (i := 3) scWde.nd rfl (Or.inl rfl)) (pgs_cons (pg_name (i := 4) scWde.nd rfl (Or.inl rfl)) (pgs_cons (pg_name (i := 5) scWde.nd rfl (Or.inl rfl)) (pgs_cons (pg_name (i := 6) scWde.nd rfl (Or.inl rfl)) pgs_nil)))))))
      (pss_cons (ps_set (i := 7) scWde.nd rfl (Or.inl rfl) (pe_has DB (hr.mono (by omega)) rfl (pa_cons (pv 0) (pa_cons (pv 4) pa_nil))))
      (pss_cons (ps_set (i := 8) scWde.nd rfl (Or.inl rfl) (pe_has DB (hr.mono (by omega)) rfl (pa_cons (pv 0) (pa_cons (pv 5) pa_nil))))
      (pss_cons (ps_set (i := 9) scWde.nd rfl (Or.inl rfl) (pe_lst pa_nil))
      (pss_cons (ps_set (i := 10) scWde.nd rfl (Or.inl rfl) (pe_lst pa_nil))
      (pss_cons (ps_for PassesOwn.never rfl (pi_enumT rfl G.enumerate (pa_cons (pv 6) pa_nil)) (pg_tup rfl (pgs_cons (pg_name (i := 11) scWde.nd rfl (Or.inl rfl)) (pgs_cons (pg_name (i := 12) scWde.nd rfl (Or.inl rfl)) pgs_nil)))
      (C8.pss_cut (ps_if (pt_not (pt_val (pe_has DA (hr.mono (by omega)) rfl (pa_cons (pv 0) (pa_cons (pv 12) (pa_cons (pv 7) (pa_cons (pv 8) (pa_cons (pe_slice sl_tup (pv 6) po_none (po_some (pv 11))) pa_nil))))))))
      (pss_one (ps_expr (pe_bm PySem.F.plainAttrs_list PySem.F.slot_list_append PySem.F.type_list_append mt_append (pv 9) (pa_cons (pe_tup (pa_cons pe_str (pa_cons (pv 3) (pa_cons (pv 11) pa_nil)))) pa_nil))))
      pss_nil)
      (C8.pss_cut (ps_set (i := 13) scWde.nd rfl (Or.inl rfl) (pe_has DE (hr.mono (by omega)) rfl (pa_cons (pv 12) (pa_cons (pv 8) pa_nil))))
      (C8.pss_cut (ps_if (PW.pt (pw_and (pt_cmpR op_notN (pv 13) pe_non (nomark _)) (pw_and1 (pt_cmpR (op_inDL hr.units) (pv 13) (pv 10) rfl))))
      (pss_one (ps_expr (pe_bm PySem.F.plainAttrs_list PySem.F.slot_list_append PySem.F.type_list_append mt_append (pv 9) (pa_cons (pe_tup (pa_cons pe_str (pa_cons (pv 3) (pa_cons (pv 11) pa_nil)))) pa_nil))))
      pss_nil)
      (pss_one (ps_expr (pe_bm PySem.F.plainAttrs_list PySem.F.slot_list_append PySem.F.type_list_append mt_append (pv 10) (pa_cons (pv 13) pa_nil))))))))
      (pss_one (ps_ret (pv 9))))))))), ?_⟩
    obtain ⟨t', e, xs, et, ht, he, txs⟩ := cw_at tc
    cases et
    have lx : xs.length = c.ds.length := by rw [txs.length, List.length_map]
    have l20 : c.ds.length ≤ 20 := Nat.le_trans cok.l (by decide)
    refine ⟨_, rfl, t, _, rfl, SqT.of ht, rfl, _, _, rfl, _, _, rfl, _, _, rfl, _, _, rfl, _, _, rfl, rfl, ?_⟩
    try dsimp only [List.set_cons_succ, List.set_cons_zero]
    refine ⟨_, rfl, _, rfl, fa, c.ask, cs, rs, own, rfl, hF.r, r1, okD.nd, okD.l, fun D H1 hD S1 fb1 => ?_⟩
    try dsimp only [List.set_cons_succ, List.set_cons_zero]
    refine ⟨_, rfl, _, rfl, fa, c.ans, cs, rs, an, rfl, hF.r.same S1, r2, okE.nd, okE.l, fun E2 H2 hE2 S2 fb2 => ?_⟩
    try dsimp only [List.set_cons_succ, List.set_cons_zero]
    have fb1 := fb1.same S2
    have S02 := S1.trans S2
    refine ⟨Nat.zero_le _, fun Fo hFo => ?_⟩
    have S3 : Same H2 (upd H2 Fo (.lst [])) := Same.new hFo
    have e3 : (upd H2 Fo (.lst [])) Fo = some (.lst []) := upd_same
    generalize (upd H2 Fo (.lst [])) = H3 at *
    try dsimp only [List.set_cons_succ, List.set_cons_zero]
    refine ⟨Nat.zero_le _, fun Dn hDn => ?_⟩
    have S4 : Same H3 (upd H3 Dn (.lst [])) := Same.new hDn
    have e4 : (upd H3 Dn (.lst [])) Dn = some (.lst []) := upd_same
    have e3' := S4 _ _ e3
    have nFD : Fo ≠ Dn := fun h => by rw [← h, e3] at hDn; cases hDn
    have Dn0 : H2 Dn = none := S3.free hDn
    have S24 := S3.trans S4
    generalize (upd H3 Dn (.lst [])) = H4 at *
    try dsimp only [List.set_cons_succ, List.set_cons_zero]
    refine ⟨_, rfl, e, xs, rfl, SqT.of (S24 _ _ (S02 _ _ he)), ?_⟩
    refine L2.for_it walk_enumT (fun j σ H5 => ∃ (T : List Row) (vs : List V), (∃ a11 a12 a13, σ = [some (.ref fa), some (.ref t), some (.int c.num), some (.str c.nam), some (.str c.ask), some (.str c.ans), some (.ref e), some (.ref D), some (.ref E2), some (.ref Fo), some (.ref Dn), a11, a12, a13]) ∧ Same H2 H5 ∧ RwL H5 Fo T ∧ T.map (·.2) = wdeR nm c own an j ∧ H5 Dn = some (.lst vs) ∧ EfAll H5 vs ((c.ds.take j).map (effD an))) ?_ ?_ ?_ ?_
    · exact ⟨[], [], ⟨_, _, _, rfl⟩, S24, RwL.nil e3', rfl, e4, .nil⟩
    · rintro j σ H5 _ ⟨T, vs, _, S5, _⟩
      exact SqT.of (S5 _ _ (S02 _ _ he))
    · rintro j x σ H5 H6 hj ⟨T, vs, ⟨a11, a12, a13, rfl⟩, S5, X5, eT5, h5D, ef5⟩ ⟨Tt, y1, y2, rfl, hT, rfl, g1, g2⟩
      cases g1
      obtain ⟨dd, hd1, td⟩ := txs.get' g2
      obtain ⟨d, hdd, rfl⟩ : ∃ d, c.ds[j]? = some d ∧ dd = dD d := by
        rw [List.getElem?_map] at hd1
        cases q : c.ds[j]? with
        | none => rw [q] at hd1; cases hd1
        | some dd => rw [q] at hd1; exact ⟨dd, rfl, (Option.some.inj hd1).symm⟩
      have dok := cok.ok d (List.mem_of_getElem? hdd)
      have hj20 : j < c.ds.length := (List.getElem?_eq_some_iff.mp hdd).1
      obtain ⟨td1, rfl, htd⟩ := dD_at td
      obtain ⟨a, b, c3, r, rfl⟩ := dok.cut
      have S6 : Same H5 (upd H5 Tt (.tup [.int (j : Nat), .ref td1])) := Same.new hT
      have eT : (upd H5 Tt (.tup [.int (j : Nat), .ref td1])) Tt = some (.tup [.int (j : Nat), .ref td1]) := upd_same
      have X6 := X5.same S6
      have h6D := S6 _ _ h5D
      have ef6 := ef5.same (Same.tk S6)
      have S26 := S5.trans S6
      generalize (upd H5 Tt (.tup [.int (j : Nat), .ref td1])) = H6 at *
      refine ⟨Tt, _, rfl, SqT.of eT, rfl, _, _, rfl, _, _, rfl, rfl, ?_⟩
      try dsimp only [List.set_cons_succ, List.set_cons_zero]
      obtain ⟨dx, w2, w3, w4, w5, hA, _⟩ := id hF
      have S06 := S02.trans S26
      have htd6 := S06 _ _ htd
      have two : ∀ {H' : Hp} {T' : List Row} {t9 : Addr} {y : List Key}, Same H2 H' → RwL H' Fo T' → H' Dn = some (.lst vs) → EfAll H' vs ((c.ds.take j).map (effD an)) → H' t9 = none →
          Same H2 (upd (upd H' t9 (.tup (y.map kV))) Fo (.lst (T'.map (fun q => V.ref q.1) ++ [.ref t9]))) ∧ RwL (upd (upd H' t9 (.tup (y.map kV))) Fo (.lst (T'.map (fun q => V.ref q.1) ++ [.ref t9]))) Fo (T' ++ [(t9, y)]) ∧ (upd (upd H' t9 (.tup (y.map kV))) Fo (.lst (T'.map (fun q => V.ref q.1) ++ [.ref t9]))) Dn = some (.lst vs) ∧ Tk H' (upd (upd H' t9 (.tup (y.map kV))) Fo (.lst (T'.map (fun q => V.ref q.1) ++ [.ref t9]))) := fun {H' T' t9 y} S' X' hD' ef' ht9 => by
        have n1 : Dn ≠ t9 := fun h => by rw [← h, hD'] at ht9; cases ht9
        have hFo' : (upd H' t9 (.tup (y.map kV))) Fo = some (.lst (T'.map fun q => V.ref q.1)) := Same.new ht9 _ _ X'.l
        exact ⟨Same.two S' hFo ht9, RwL.more X' ht9, by rw [upd_ne (Ne.symm nFD), upd_ne n1]; exact hD', (Same.tk (Same.new ht9)).trans (Tk.wr hFo')⟩
      have small : ∀ {T' : List Row}, T'.length ≤ 100 → (T'.map fun q => V.ref q.1).length < sizeLine := fun {T'} h => by
        rw [List.length_map]
        exact Nat.lt_of_le_of_lt h (by decide)
      have lT : T.length ≤ 2 * j := by
        have := congrArg List.length eT5
        rw [List.length_map] at this
        rw [this]
        exact wde_len j
      refine ⟨fun σ H' => ∃ T', σ = [some (.ref fa), some (.ref t), some (.int c.num), some (.str c.nam), some (.str c.ask), some (.str c.ans), some (.ref e), some (.ref D), some (.ref E2), some (.ref Fo), some (.ref Dn), some (.int (j : Nat)), some (.ref td1), a13] ∧ Same H2 H' ∧ RwL H' Fo T' ∧ T'.map (·.2) = wdeR nm c own an j ++ (if astB nm own an (a :: b :: c3 :: r) (c.ds.take j) = true then [] else [kAt "deed" c.nam j]) ∧ H' Dn = some (.lst vs) ∧ EfAll H' vs ((c.ds.take j).map (effD an)) ∧ T'.length ≤ 2 * j + 1, ?_, ?_⟩
      · refine ⟨_, rfl, _, rfl, _, rfl, _, rfl, _, rfl, npW ⟨_, rfl, _, rfl, ?_⟩⟩
        refine ⟨e, xs, rfl, SqT.of (S06 _ _ he), fun h => ?_, fun p hp => ?_⟩
        · have e1 : HT.sIx xs.length xs.length (some ((j : Nat) : Int)) = j := by
            show (if (j : Int) < 0 then ((j : Int) + (xs.length : Nat)).toNat else min (j : Int).toNat xs.length) = j
            rw [if_neg (by omega)]
            show min j xs.length = j
            omega
          rw [e1] at h
          omega
        rw [cut_take (by omega)]
        have S7 := Same.new (H := H6) (o := .tup (xs.take j)) hp
        have e7 : (upd H6 p (.tup (xs.take j))) p = some (.tup (xs.take j)) := upd_same
        generalize (upd H6 p (.tup (xs.take j))) = H7 at *
        have S07 := S06.trans S7
        refine ⟨fa, td1, D, E2, p, dx, nm, w2, w3, w4, w5, own, an, a, b, c3, r, xs.take j, c.ds.take j, rfl, S07 _ _ hA, S07 _ _ htd, fb1.same (S26.trans S7), fb2.same (S26.trans S7), okD, okE, e7, ?_, fun d hd => ?_, ?_, fun H8 S8 => ?_⟩
        · have := TpAll.keep (Same.tk S07) _ _ (txs.take j)
          rw [← List.map_take] at this
          exact this
        · intro h0
          have := (cok.ok d (List.mem_of_mem_take hd)).l
          rw [h0] at this
          exact absurd this (by decide)
        · rw [List.length_take]
          omega
        · have S28 := S26.trans (S7.trans S8)
          have S68 := S7.trans S8
          refine ⟨_, rfl, ?_⟩
          cases hb : astB nm own an (a :: b :: c3 :: r) (c.ds.take j) with
          | true =>
            refine iteF ?_
            exact ⟨T, rfl, S28, X6.same S68, by rw [if_pos rfl, List.append_nil]; exact eT5, S68 _ _ h6D, ef6.same (Same.tk S68), by omega⟩
          | false =>
            refine iteT ?_
            refine ⟨_, rfl, .inl ⟨rfl, _, SqL.of (X6.same S68).l⟩, ?_⟩
            refine ⟨_, rfl, _, rfl, (by show 3 ≤ sizeLine; decide), fun t9 ht9 => ?_⟩
            have hFo' : (upd H8 t9 (.tup ((kAt "deed" c.nam j).map kV))) Fo = some (.lst (T.map fun q => V.ref q.1)) := Same.new ht9 _ _ (X6.same S68).l
            refine ⟨Fo, _, _, rfl, rfl, hFo', small (by omega), ?_⟩
            obtain ⟨z1, z2, z3, z4⟩ := two (y := kAt "deed" c.nam j) S28 (X6.same S68) (S68 _ _ h6D) (ef6.same (Same.tk S68)) ht9
            refine ⟨_, rfl, z1, z2, ?_, z3, (ef6.same (Same.tk S68)).same z4, ?_⟩
            · rw [List.map_append, eT5, if_neg Bool.false_ne_true]
              rfl
            · rw [List.length_append]
              show T.length + 1 ≤ _
              omega
      rintro σ H7 ⟨T7, rfl, S7, X7, eT7, h7D, ef7, lT7⟩
      try dsimp only [List.set_cons_succ, List.set_cons_zero]
      -- its effect
      refine ⟨fun σ H' => ∃ v, σ = [some (.ref fa), some (.ref t), some (.int c.num), some (.str c.nam), some (.str c.ask), some (.str c.ans), some (.ref e), some (.ref D), some (.ref E2), some (.ref Fo), some (.ref Dn), some (.int (j : Nat)), some (.ref td1), some v] ∧ Same H7 H' ∧ EfV H' v (effD an (a :: b :: c3 :: r)), ?_, ?_⟩
      · have htd7 := S7 _ _ (S02 _ _ htd)
        have tdT : Tp H7 (.ref td1) (dD (a :: b :: c3 :: r)) := Tp.keep (Same.tk (S02.trans S7)) _ _ td
        refine ⟨_, rfl, _, rfl, td1, E2, an, a, b, c3, r, rfl, htd7, fb2.same S7, fun h => ?_, fun h1 h2 p hp => ?_, fun h1 h2 => ?_⟩
        · refine ⟨_, rfl, Same.refl _, .inr ⟨(fun h => nomatch h), ?_, ?_⟩⟩
          · show isNo (if a = "ask" then dD (a :: b :: c3 :: r) else _) = false
            rw [if_pos h]
            rfl
          · show Tp H7 _ (if a = "ask" then dD (a :: b :: c3 :: r) else _)
            rw [if_pos h]
            exact tdT
        · refine ⟨_, rfl, Same.new hp, .inr ⟨(fun h => nomatch h), ?_, ?_⟩⟩
          · show isNo (if a = "ask" then dD (a :: b :: c3 :: r) else if setB an a b = true then .tuple [.str "set", .str b] else .none) = false
            rw [if_neg h1, if_pos h2]
            rfl
          · show Tp _ _ (if a = "ask" then dD (a :: b :: c3 :: r) else if setB an a b = true then .tuple [.str "set", .str b] else .none)
            rw [if_neg h1, if_pos h2]
            exact .tup upd_same (.cons (.str _) (.cons (.str _) .nil))
        · refine ⟨_, rfl, Same.refl _, .inl ⟨rfl, ?_⟩⟩
          show (if a = "ask" then dD (a :: b :: c3 :: r) else if setB an a b = true then .tuple [.str "set", .str b] else .none) = PyData.none
          rw [if_neg h1, if_neg (by rw [h2]; exact Bool.false_ne_true)]
      rintro σ H8 ⟨v, rfl, S78, efv⟩
      have S8 := S7.trans S78
      have X8 := X7.same S78
      have h8D := S78 _ _ h7D
      have ef8 := ef7.same (Same.tk S78)
      try dsimp only [List.set_cons_succ, List.set_cons_zero]
      have effsh := effs_sh (an := an) (ds := c.ds.take j) fun d hd => cok.ok d (List.mem_of_mem_take hd)
      have dsh : SeqAt.shaped (effD an (a :: b :: c3 :: r)) = true := (eff_sh dok).shaped (by decide)
      -- twice
      refine ⟨fun σ H' => ∃ T', σ = [some (.ref fa), some (.ref t), some (.int c.num), some (.str c.nam), some (.str c.ask), some (.str c.ans), some (.ref e), some (.ref D), some (.ref E2), some (.ref Fo), some (.ref Dn), some (.int (j : Nat)), some (.ref td1), some v] ∧ Same H2 H' ∧ RwL H' Fo T' ∧ T'.map (·.2) = wdeR nm c own an j ++ wde1 nm c own an j (a :: b :: c3 :: r) ∧ H' Dn = some (.lst vs) ∧ EfAll H' vs ((c.ds.take j).map (effD an)) ∧ EfV H' v (effD an (a :: b :: c3 :: r)), ?_, ?_⟩
      · refine ⟨_, rfl, rfl, _, rfl, ?_⟩
        have ew : ∀ {tw : Bool}, (!isNo (effD an (a :: b :: c3 :: r)) && ((c.ds.take j).map (effD an)).any fun z => PyData.eqv z (effD an (a :: b :: c3 :: r))) = tw → wdeR nm c own an j ++ wde1 nm c own an j (a :: b :: c3 :: r) = T7.map (·.2) ++ (if tw = true then [kAt "twice" c.nam j] else []) := fun {tw} h => by
          rw [eT7, List.append_assoc]
          unfold wde1
          rw [h]
        rcases id efv with ⟨rfl, e0⟩ | ⟨nv, e0, tv⟩
        · refine iteF (iteF ?_)
          refine ⟨T7, rfl, S8, X8, ?_, h8D, ef8, efv⟩
          rw [ew (tw := false) (by rw [e0]; rfl)]
          simp
        · rw [show (!decide (v = V.non)) = true by rw [decide_eq_false nv]; rfl]
          refine iteT ?_
          refine ⟨_, rfl, _, rfl, _, _, efv.dp, Dp.lst (SqL.of h8D) ef8.dp, dsh, effsh.1, effsh.2, _, rfl, ?_⟩
          rw [if_neg Bool.false_ne_true]
          cases hany : ((c.ds.take j).map (effD an)).any fun z => PyData.eqv z (effD an (a :: b :: c3 :: r)) with
          | false =>
            refine iteF ?_
            refine ⟨T7, rfl, S8, X8, ?_, h8D, ef8, efv⟩
            rw [ew (tw := false) (by rw [e0, hany]; rfl)]
            simp
          | true =>
            refine iteT ?_
            refine ⟨_, rfl, .inl ⟨rfl, _, SqL.of X8.l⟩, ?_⟩
            refine ⟨_, rfl, _, rfl, (by show 3 ≤ sizeLine; decide), fun t9 ht9 => ?_⟩
            have hFo' : (upd H8 t9 (.tup ((kAt "twice" c.nam j).map kV))) Fo = some (.lst (T7.map fun q => V.ref q.1)) := Same.new ht9 _ _ X8.l
            refine ⟨Fo, _, _, rfl, rfl, hFo', small (by omega), ?_⟩
            obtain ⟨z1, z2, z3, z4⟩ := two (y := kAt "twice" c.nam j) S8 X8 h8D ef8 ht9
            refine ⟨_, rfl, z1, z2, ?_, z3, ef8.same z4, efv.same z4⟩
            rw [ew (tw := true) (by rw [e0, hany]; rfl), List.map_append]
            rfl
      rintro σ H9 ⟨T9, rfl, S9, X9, eT9, h9D, ef9, efv9⟩
      -- done
      refine ⟨_, rfl, .inl ⟨rfl, _, SqL.of h9D⟩, _, rfl, Dn, _, _, rfl, rfl, h9D, ?_, ?_⟩
      · rw [ef9.len, List.length_map, List.length_take]
        exact Nat.lt_of_le_of_lt (show _ ≤ 20 by omega) (by decide)
      have W := Tk.wr (o := .lst (vs ++ [v])) h9D
      refine ⟨T9, vs ++ [v], ⟨_, _, _, rfl⟩, Same.wr S9 Dn0, ⟨by rw [upd_ne nFD]; exact X9.l, fun q hq => W _ _ (X9.t q hq)⟩, ?_, upd_same, ?_⟩
      · rw [eT9]
        show _ = wdeR nm c own an j ++ (match c.ds[j]? with
          | some d => wde1 nm c own an j d
          | none => [])
        rw [hdd]
      · rw [List.take_add_one, hdd, List.map_append]
        exact (ef9.same W).snoc' (efv9.same W)
    · rintro σ H5 ⟨T, vs, ⟨a11, a12, a13, rfl⟩, S5, X5, eT5, h5D, ef5⟩
      rw [lx] at eT5
      exact ⟨_, rfl, q Fo T H5 (S02.trans S5) (S02.free hFo) X5 eT5⟩
end
end Fh

set_option Elab.async false
set_option linter.all false
set_option maxRecDepth 100000
set_option maxHeartbeats 4000000
namespace Fh
open PySem L2 PyProof.Rows
/-! ### fields that no deed sets -/
theorem FbN.upd {H : Hp} {D R : Addr} {fl : List Fl} {kr : List (Key × V)} {o : HO} (h : FbN H D fl) (hR : H R = some (.dK kr)) (n : D ≠ R) : FbN (upd H R o) D fl := by
  obtain ⟨kvs, h1, h2, h3⟩ := h
  refine ⟨kvs, by rw [upd_ne n]; exact h1, h2, fun f hf => ?_⟩
  obtain ⟨t, u, a, b, c⟩ := h3 f hf
  have nt : t ≠ R := fun e => by rw [e, hR] at b; cases b
  exact ⟨t, u, a, by rw [upd_ne nt]; exact b, Tp.keep (tk_wr hR) _ _ c⟩

def unsB (c : Cw) (an : List Fl) (f : Fl) : Bool := !((c.ds.map (effD an)).any fun z => PyData.eqv z (.tuple [.str "set", .str f.nam]))
def kUns (a b : Str) : List Key := [.inr "unset", .inr a, .inr b]
def unsF (c : Cw) (an : List Fl) (fl : List Fl) : List (List Key) := (fl.filter (unsB c an)).map fun f => kUns c.nam f.nam
def unsL (c : Cw) (an : List Fl) : List (List Key) := unsF c an (an.filter fun f => f.must)
abbrev sUns : Stmt := top 30
abbrev nUns : List Str := ["face", "call", "number", "name", "ask", "answer", "deeds", "answered", "effects", "deed", "musts", "field"]
def spUns (C : Addr) : Sp := fun vs H Q _ => ∃ (fa t : Addr) (cs rs : List (Str × PyData)) (c : Cw) (an : List Fl), vs = [.ref fa, .ref t] ∧ FaceR C H fa cs rs ∧ Tp H (.ref t) c.d ∧ CwOk c ∧ rs.lookup c.ans = some (.tuple (an.map Fl.d)) ∧ FOkR an ∧
  ∀ (p : Addr) (T : List Row) (H' : Hp), Same H H' → H p = none → RwL H' p T → T.map (·.2) = unsL c an → Q (.ref p) H'
section
variable {P : Program} {w : World} {K : PySem.W.Frag} {mg : Str → Option Value} {base : Heap}
theorem scUns : FnScope nUns ["face", "call"] (defScope sUns) := ⟨rfl, rfl, rfl, by decide +kernel, rfl, by decide +kernel, by decide +kernel⟩
theorem ok_uns {C f : Addr} {fd : FuncData} (F : Fun K "unset_fields" "unset_fields" sUns f fd) (DB : Has P w K mg base "fields_by_name" 2 ["face", "record"] (spFbn9 C)) (DE : Has P w K mg base "effect_of" 1 nEff spEff) : FnOk P w K mg base CX0 3 f fd ["face", "call"] (spUns C) := by
  refine F.ok scUns (fun vs H Q E h => ?_) (fun cdv A outer s H vs Q E hr h => ?_)
  · obtain ⟨fa, t, cs, rs, c, an, rfl, _⟩ := h
    rfl
  · obtain ⟨fa, t, cs, rs, c, an, rfl, hF, tc, cok, r2, okE, q⟩ := h
    have hu := hu_of hr
    refine ⟨_, (pss_cons (ps_asg (pv 1) (pg_tup rfl (pgs_cons (pg_name (i := 2) scUns.nd rfl (Or.inl rfl)) (pgs_cons (pg_name (i := 3) scUns.nd rfl (Or.inr rfl)) (pgs_cons (pg_name (i := 4) scUns.nd rfl (Or.inl rfl)) (pgs_cons (pg_name (i := 5) scUns.nd rfl (Or.inl rfl)) (pgs_cons (pg_name (i := 6) scUns.nd rfl (Or.inl rfl)) pgs_nil)))))))
      (pss_cons (ps_set (i := 7) scUns.nd rfl (Or.inr rfl) (pe_has DB (hr.mono (by omega)) rfl (pa_cons (pv 0) (pa_cons (pv 5) pa_nil))))
      (pss_cons (ps_set (i := 8) scUns.nd rfl (Or.inr rfl) (pe_lc (own := [("deed", 9)]) (g := (gName 9)) (tt := tYes) (te := tCall spEff [] E0 (tCons (tVar 9) (tCons (tVar 7) tNil))) rfl scUns.nd (pi_tup (pv 6)) (blkOk_by (N := nUns) (sc := defScope sUns) (by decide +kernel)) (fun _ _ _ _ _ => (pg_name (i := 9) scUns.nd rfl (Or.inl rfl))) (fun _ _ _ _ _ => pts_nil) (fun _ _ _ _ _ => (pe_has DE (hr.mono (by omega)) rfl (pa_cons (pv 9) (pa_cons (pv 7) pa_nil))))))
      (C8.pss_cut (ps_lock (ps_setLc (i := 10) (own := [("field", 11)]) (g := (gName 11)) (tt := tTest (tOp rEq (tOp (rIxT K) (tDGet (tVar 7) (tVar 11)) (tC (.int 1))) (tC (.str "must")))) (te := tVar 11) rfl scUns.nd rfl rfl (sw_true rfl rfl rfl (by decide +kernel)) (pi_keys (pv 7)) (blkOk_by (N := nUns) (sc := defScope sUns) (by decide +kernel)) (fun _ _ _ _ _ => (pg_name (i := 11) scUns.nd rfl (Or.inl rfl))) (fun _ _ _ _ _ => pts_one (pt_cmpR op_eq (pe_ix ix_tup (pe_dget hu (pv 7) (pv 11) (fun _ _ => rfl)) pe_int (fun _ _ => rfl)) pe_str (nomark _))) (fun _ _ _ _ _ => (pv 11))))
      (pss_one (ps_ret (pe_lc (own := [("field", 11)]) (g := (gName 11)) (tt := tTest (tOp (rInDL K true) (tTup (tCons (tC (.str "set")) (tCons (tVar 11) tNil))) (tVar 8))) (te := tTup (tCons (tC (.str "unset")) (tCons (tVar 3) (tCons (tVar 11) tNil)))) rfl scUns.nd (pi_list (pv 10)) (blkOk_by (N := nUns) (sc := defScope sUns) (by decide +kernel)) (fun _ _ _ _ _ => (pg_name (i := 11) scUns.nd rfl (Or.inl rfl))) (fun _ _ _ _ _ => pts_one (pt_cmpR (op_notInDL hr.units) (pe_tup (pa_cons pe_str (pa_cons (pv 11) pa_nil))) (pv 8) rfl)) (fun _ _ _ _ _ => (pe_tup (pa_cons pe_str (pa_cons (pv 3) (pa_cons (pv 11) pa_nil)))))))))))), ?_⟩
    obtain ⟨t', e, xs, et, ht, he, txs⟩ := cw_at tc
    cases et
    have lx : xs.length = c.ds.length := by rw [txs.length, List.length_map]
    have l20 : c.ds.length ≤ 20 := Nat.le_trans cok.l (by decide)
    refine ⟨_, rfl, t, _, rfl, SqT.of ht, rfl, _, _, rfl, _, _, rfl, _, _, rfl, _, _, rfl, _, _, rfl, rfl, ?_⟩
    try dsimp only [List.set_cons_succ, List.set_cons_zero]
    refine ⟨_, rfl, _, rfl, fa, c.ans, cs, rs, an, rfl, hF, r2, okE.nd, okE.l, fun E2 H2 hE2 S2 fb2 => ?_⟩
    try dsimp only [List.set_cons_succ, List.set_cons_zero]
    -- effects
    refine ⟨_, rfl, e, rfl, ⟨_, SqT.of (S2 _ _ he)⟩, fun L hL => ?_⟩
    refine lc_tup (xs := xs) (fun k H4 => Same H2 H4 ∧ ∃ vs, H4 L = some (.lst vs) ∧ EfAll H4 vs ((c.ds.take k).map (effD an))) ?_ ?_ ?_ ?_
    · exact ⟨Same.new hL, [], upd_same, .nil⟩
    · rintro k H4 _ ⟨S4, _⟩
      exact SqT.of (S4 _ _ (S2 _ _ he))
    · rintro k x H4 hx4 ⟨S4, vs, h4, ef4⟩
      obtain ⟨dd, hd1, td⟩ := txs.get' hx4
      obtain ⟨d, hdd, rfl⟩ : ∃ d, c.ds[k]? = some d ∧ dd = dD d := by
        rw [List.getElem?_map] at hd1
        cases q : c.ds[k]? with
        | none => rw [q] at hd1; cases hd1
        | some dd => rw [q] at hd1; exact ⟨dd, rfl, (Option.some.inj hd1).symm⟩
      have dok := cok.ok d (List.mem_of_getElem? hdd)
      have hk20 : k < c.ds.length := (List.getElem?_eq_some_iff.mp hdd).1
      obtain ⟨td1, rfl, htd⟩ := dD_at td
      obtain ⟨a, b, c3, r, rfl⟩ := dok.cut
      have S04 := S2.trans S4
      have fin : ∀ (y : V) (H5 : Hp), Same H4 H5 → EfV H5 y (effD an (a :: b :: c3 :: r)) → ∃ acc, H5 L = some (.lst acc) ∧ acc.length < sizeLine ∧ Same H2 (upd H5 L (.lst (acc ++ [y]))) ∧ ∃ vs, (upd H5 L (.lst (acc ++ [y]))) L = some (.lst vs) ∧ EfAll (upd H5 L (.lst (acc ++ [y]))) vs ((c.ds.take (k + 1)).map (effD an)) := fun y H5 S5 ev => by
        have h5 := S5 _ _ h4
        have W := Tk.wr (o := .lst (vs ++ [y])) h5
        refine ⟨vs, h5, ?_, Same.wr (S4.trans S5) hL, _, upd_same, ?_⟩
        · rw [ef4.len, List.length_map, List.length_take]
          exact Nat.lt_of_le_of_lt (show _ ≤ 20 by omega) (by decide)
        · rw [List.take_add_one, hdd, List.map_append]
          exact ((ef4.same (Same.tk S5)).same W).snoc' (ev.same W)
      refine ⟨rfl, yes (iteT ?_)⟩
      try dsimp only [List.set_cons_succ, List.set_cons_zero]
      refine ⟨_, rfl, _, rfl, td1, E2, an, a, b, c3, r, rfl, S04 _ _ htd, fb2.same S4, fun h => ?_, fun h1 h2 p hp => ?_, fun h1 h2 => ?_⟩
      · refine fin _ _ (Same.refl _) (.inr ⟨(fun h => nomatch h), ?_, ?_⟩)
        · show isNo (if a = "ask" then dD (a :: b :: c3 :: r) else if setB an a b = true then .tuple [.str "set", .str b] else .none) = false
          rw [if_pos h]
          rfl
        · show Tp H4 _ (if a = "ask" then dD (a :: b :: c3 :: r) else if setB an a b = true then .tuple [.str "set", .str b] else .none)
          rw [if_pos h]
          exact Tp.keep (Same.tk S04) _ _ td
      · refine fin _ _ (Same.new hp) (.inr ⟨(fun h => nomatch h), ?_, ?_⟩)
        · show isNo (if a = "ask" then dD (a :: b :: c3 :: r) else if setB an a b = true then .tuple [.str "set", .str b] else .none) = false
          rw [if_neg h1, if_pos h2]
          rfl
        · show Tp _ _ (if a = "ask" then dD (a :: b :: c3 :: r) else if setB an a b = true then .tuple [.str "set", .str b] else .none)
          rw [if_neg h1, if_pos h2]
          exact .tup upd_same (.cons (.str _) (.cons (.str _) .nil))
      · refine fin _ _ (Same.refl _) (.inl ⟨rfl, ?_⟩)
        show (if a = "ask" then dD (a :: b :: c3 :: r) else if setB an a b = true then .tuple [.str "set", .str b] else .none) = PyData.none
        rw [if_neg h1, if_neg (by rw [h2]; exact Bool.false_ne_true)]
    rintro H4 ⟨S4, vs, h4, ef4⟩
    rw [lx, List.take_length] at ef4
    try dsimp only [List.set_cons_succ, List.set_cons_zero]
    have S04 := S2.trans S4
    have fb4 := fb2.same S4
    -- those that must be
    refine ⟨fun σ H' => ∃ l, σ = [some (.ref fa), some (.ref t), some (.int c.num), some (.str c.nam), some (.str c.ask), some (.str c.ans), some (.ref e), some (.ref E2), some (.ref L), none, some (.ref l), none] ∧ Same H4 H' ∧ H' l = some (.lst ((an.filter fun f => f.must).map fun f => V.str f.nam)), ?_, ?_⟩
    · obtain ⟨kr, hkr, ekr, ykr⟩ := id fb4
      refine ⟨E2, .dK kr, hkr, True.intro, fun od => ?_⟩
      refine ⟨_, rfl, E2, od, rfl, .inl ⟨kr, upd_same, fun D hD => ?_⟩⟩
      have nD : D ≠ E2 := fun e => by rw [e, upd_same] at hD; cases hD
      have hRz : (upd H4 E2 (.frz od (.dK kr))) E2 = some (.frz od (.dK kr)) := upd_same
      have ktz : ∀ g ∈ an, ∃ (t5 : Addr) (u5 : V), valV kr (Sum.inr g.nam) = some (.ref t5) ∧ (upd H4 E2 (.frz od (.dK kr))) t5 = some (.tup [u5, .str (needS g.must)]) := fun g hg => by
        obtain ⟨t5, u5, v5, ht5, tu5⟩ := ykr g hg
        have nt5 : t5 ≠ E2 := fun e => by rw [e, hkr] at ht5; cases ht5
        exact ⟨t5, u5, v5, by rw [upd_ne nt5]; exact ht5⟩
      have bck : ∀ b o, H4 b = some o → b ≠ E2 → (upd H4 E2 (.frz od (.dK kr))) b = some o := fun b o e q => by rw [upd_ne q]; exact e
      obtain ⟨Hz, eHz⟩ : ∃ Hz, Hz = (upd H4 E2 (.frz od (.dK kr))) := ⟨_, rfl⟩
      rw [← eHz] at hRz ktz bck hD
      rw [← eHz]
      refine L2.lc_it walk_keys (fun i H7 => Same Hz H7 ∧ H7 D = some (.lst (((an.take i).filter fun f => f.must).map fun f => V.str f.nam))) ?_ ?_ ?_ ?_
      · exact ⟨Same.new hD, upd_same⟩
      · rintro i H7 _ ⟨S7, _⟩
        exact S7 _ _ hRz
      · rintro i x H7' H7 hi ⟨S7, h7⟩ ⟨rfl, kk, vv, hkk, rfl⟩
        have h1 : (kr.map Prod.fst)[i]? = some kk := by rw [List.getElem?_map, hkk]; rfl
        rw [ekr, List.getElem?_map] at h1
        cases hg : an[i]? with
        | none => rw [hg] at h1; cases h1
        | some g =>
          rw [hg] at h1
          cases h1
          have gm := List.mem_of_getElem? hg
          obtain ⟨t5, u5, v5, ht5⟩ := ktz g gm
          have hR7 := S7 _ _ hRz
          have st : (an.take (i + 1)).filter (fun f => f.must) = (an.take i).filter (fun f => f.must) ++ (if g.must = true then [g] else []) := by
            rw [List.take_add_one, hg, List.filter_append]
            congr 1
            show List.filter (fun f : Fl => f.must) [g] = _
            cases hm : g.must <;> simp [List.filter, hm]
          refine ⟨rfl, ?_⟩
          try dsimp only [List.set_cons_succ, List.set_cons_zero]
          refine ⟨_, rfl, _, rfl, E2, _, rfl, .inl ⟨kr, Sum.inr g.nam, .inr ⟨od, hR7⟩, rfl, v5.symm⟩, t5, _, _, _, rfl, rfl, SqT.of (S7 _ _ ht5), rfl, rfl, _, rfl, ?_⟩
          rw [need_must]
          cases q2 : g.must with
          | false =>
            refine iteF ⟨S7, ?_⟩
            rw [st, q2, if_neg Bool.false_ne_true, List.append_nil]
            exact h7
          | true =>
            refine iteT ⟨_, rfl, _, h7, ?_, Same.wr S7 hD, ?_⟩
            · rw [List.length_map]
              have := List.length_filter_le (fun f : Fl => f.must) (an.take i)
              rw [List.length_take] at this
              have := okE.l
              exact Nat.lt_of_le_of_lt (show _ ≤ 100 by omega) (by decide)
            · rw [upd_same, st, q2, if_pos rfl, List.map_append]
              rfl
      · rintro H7 ⟨S7, h7⟩
        have lk : kr.length = an.length := by
          have := congrArg List.length ekr
          rwa [List.length_map, List.length_map] at this
        rw [lk, List.take_length] at h7
        refine ⟨S7 _ _ hRz, D, rfl, fun b o e => ?_, by rw [upd_ne nD]; exact h7⟩
        by_cases q : b = E2
        · rw [q] at e ⊢
          rw [upd_same, ← e, hkr]
        · rw [upd_ne q]
          exact S7 _ _ (bck b o e q)
    rintro σ H7 ⟨l, rfl, S7, h7⟩
    have h7L := S7 _ _ h4
    have ef7 := ef4.same (Same.tk S7)
    have effsh := effs_sh (an := an) (ds := c.ds) cok.ok
    have S07 := S04.trans S7
    obtain ⟨FL, eFL⟩ : ∃ FL, FL = an.filter fun f => f.must := ⟨_, rfl⟩
    have lFL : FL.length ≤ 100 := by
      rw [eFL]
      exact Nat.le_trans (List.length_filter_le _ _) okE.l
    have nFL : ∀ f ∈ FL, Sh 0 (.str f.nam) := fun f hf => by
      rw [eFL] at hf
      exact okE.ns f (List.mem_filter.mp hf).1
    unfold unsL at q
    rw [← eFL] at h7 q
    try dsimp only [List.set_cons_succ, List.set_cons_zero]
    refine ⟨_, rfl, l, rfl, ⟨_, SqL.of h7⟩, fun D2 hD2 => ?_⟩
    refine lc_list (xs := FL.map fun f => V.str f.nam) (fun k H8 => Same H7 H8 ∧ ∃ T, RwL H8 D2 T ∧ T.map (·.2) = unsF c an (FL.take k)) ?_ ?_ ?_ ?_
    · exact ⟨Same.new hD2, [], RwL.nil upd_same, rfl⟩
    · rintro k H8 _ ⟨S8, _⟩
      exact SqL.of (S8 _ _ h7)
    · rintro k y H8 hy ⟨S8, T, X8, e8⟩
      rw [List.getElem?_map] at hy
      cases hg : FL[k]? with
      | none => rw [hg] at hy; cases hy
      | some g =>
        rw [hg] at hy
        cases hy
        have gm := List.mem_of_getElem? hg
        have ea : unsF c an (FL.take (k + 1)) = unsF c an (FL.take k) ++ (if unsB c an g = true then [kUns c.nam g.nam] else []) := by
          unfold unsF
          rw [List.take_add_one, hg, List.filter_append, List.map_append]
          congr 1
          show ((List.filter (unsB c an) [g]).map fun f => kUns c.nam f.nam) = _
          cases hb : unsB c an g <;> simp [List.filter, hb]
        refine ⟨rfl, ?_⟩
        try dsimp only [List.set_cons_succ, List.set_cons_zero]
        refine ⟨_, rfl, (by show 2 ≤ sizeLine; decide), fun t9 ht9 => ?_⟩
        have S9 := Same.new (H := H8) (o := .tup [.str "set", .str g.nam]) ht9
        have d9 : Tp (upd H8 t9 (.tup [.str "set", .str g.nam])) (.ref t9) (.tuple [.str "set", .str g.nam]) := .tup upd_same (.cons (.str _) (.cons (.str _) .nil))
        have X9 := X8.same S9
        generalize (upd H8 t9 (.tup [.str "set", .str g.nam])) = H9 at *
        have S79 := S8.trans S9
        have s2 : SeqAt.shaped (.tuple [.str "set", .str g.nam]) = true := by
          refine (Sh.tup (n := 0) fun d hd => ?_).shaped (by decide)
          rcases List.mem_cons.mp hd with e1 | hd
          · rw [e1]; exact ⟨by decide +kernel, Nat.zero_le _⟩
          · rw [List.mem_singleton.mp hd]; exact nFL g gm
        refine ⟨_, rfl, _, _, d9.dp, Dp.lst (SqL.of (S79 _ _ h7L)) (ef7.same (Same.tk S79)).dp, s2, effsh.1, effsh.2, _, rfl, ?_⟩
        rw [if_pos rfl]
        show if unsB c an g = true then _ else _
        rw [ea, ← e8]
        cases hb : unsB c an g with
        | false =>
          refine iteF ⟨S79, T, X9, ?_⟩
          rw [if_neg Bool.false_ne_true, List.append_nil]
        | true =>
          refine iteT ?_
          refine ⟨_, rfl, _, rfl, (by show 3 ≤ sizeLine; decide), fun t7 ht7 => ?_⟩
          have nD' : D2 ≠ t7 := fun e => by rw [← e, X9.l] at ht7; cases ht7
          refine ⟨_, by rw [upd_ne nD']; exact X9.l, ?_, Same.two S79 hD2 ht7, _, RwL.more (y := kUns c.nam g.nam) X9 ht7, ?_⟩
          · rw [List.length_map]
            have := congrArg List.length e8
            rw [List.length_map] at this
            rw [this]
            unfold unsF
            rw [List.length_map]
            refine Nat.lt_of_le_of_lt (List.length_filter_le _ _) ?_
            rw [List.length_take]
            exact Nat.lt_of_le_of_lt (show _ ≤ 100 by omega) (by decide)
          · rw [List.map_append, if_pos rfl]
            rfl
    · rintro H8 ⟨S8, T, X8, e8⟩
      rw [List.length_map, List.take_length] at e8
      exact q D2 T H8 (S07.trans S8) (S07.free hD2) X8 e8
end
end Fh

set_option Elab.async false
set_option linter.all false
set_option maxRecDepth 100000
set_option maxHeartbeats 4000000
namespace Fh
open PySem L2 PyProof.Rows
/-! ### wrong -/
def flO (recs : List Rec) (z : Str) : List Fl := match recs.find? (fun r => decide (r.1 = z)) with
  | some r => r.2
  | none => []
theorem look_flO : ∀ {recs : List Rec} {z : Str}, z ∈ recs.map (·.1) → (recs.map rD).lookup z = some (.tuple ((flO recs z).map Fl.d))
  | [], _, h => by cases h
  | r :: recs, z, h => by
    rw [List.map_cons, List.lookup_cons]
    by_cases e : z = r.1
    · subst e
      have : (r.1 == (rD r).1) = true := beq_self_eq_true _
      rw [this]
      unfold flO
      rw [List.find?_cons, decide_eq_true rfl]
      rfl
    · have h1 : (z == (rD r).1) = false := beq_eq_false_iff_ne.mpr e
      rw [h1]
      have h2 : z ∈ recs.map (·.1) := by
        rcases List.mem_cons.mp h with h | h
        · exact absurd h e
        · exact h
      have := look_flO h2
      unfold flO at this ⊢
      rw [List.find?_cons, decide_eq_false fun h => e h.symm]
      exact this
theorem flO_mem {recs : List Rec} {z : Str} : flO recs z = [] ∨ ∃ r ∈ recs, flO recs z = r.2 := by
  unfold flO
  cases q : recs.find? (fun r => decide (r.1 = z)) with
  | none => exact .inl rfl
  | some r => exact .inr ⟨r, List.mem_of_find?_eq_some q, rfl⟩
def wroC (nm : Str) (recs : List Rec) (c : Cw) : List (List Key) := if (stoL recs c [c.ask, c.ans]).isEmpty = true then wdeR nm c (flO recs c.ask) (flO recs c.ans) c.ds.length ++ unsL c (flO recs c.ans) else stoL recs c [c.ask, c.ans]
def txK (x : List Str) : List Key := x.map Sum.inr
def nobL (cs : List (Str × PyData)) (recs : List Rec) : List (List Str) := recs.flatMap fun r => (r.2.filter fun f => nobK cs (recs.map rD) f.kd).map fun f => [("nobody" : Str), r.1, f.kd.nm.getD ""]
def wroL (nm : Str) (cs : List (Str × PyData)) (recs : List Rec) (cws : List Cw) : List (List Key) := ((nobL cs recs).map txK ++ (endL (turns cs (recs.map rD) recs recs.length) recs).map txK) ++ cws.flatMap (wroC nm recs)
/-- what a row of what is wrong looks like -/
def WrK (x : List Key) : Prop := ∃ (w a : Str) (r : List Key), x = .inr w :: .inr a :: r ∧ (((w = "nobody" ∨ w = "unset") ∧ ∃ b : Str, r = [.inr b]) ∨ (w = "endless" ∧ r = []) ∨ ((w = "deed" ∨ w = "twice") ∧ ∃ j : Int, r = [.inl j]))
theorem WrK.cm {x y : List Key} (h : WrK x) (g : WrK y) : Cm x y := by
  obtain ⟨w, a, r, rfl, hr⟩ := h
  obtain ⟨w2, a2, r2, rfl, hr2⟩ := g
  by_cases e : w = w2
  · refine .inl ⟨by rw [e], ?_⟩
    by_cases e2 : a = a2
    · refine .inl ⟨by rw [e2], ?_⟩
      subst e
      rcases hr with ⟨hw, b, rfl⟩ | ⟨hw, rfl⟩ | ⟨hw, j, rfl⟩ <;> rcases hr2 with ⟨hw2, b2, rfl⟩ | ⟨hw2, rfl⟩ | ⟨hw2, j2, rfl⟩
      · by_cases eb : b = b2
        · exact .inl ⟨by rw [eb], True.intro⟩
        · exact .inr ⟨fun h => eb (Sum.inr.inj h), .inr ⟨b, b2, rfl, rfl⟩⟩
      · exact True.intro
      · rcases hw with rfl | rfl <;> rcases hw2 with h | h <;> exact absurd h (by decide +kernel)
      · exact True.intro
      · exact True.intro
      · exact True.intro
      · rcases hw with rfl | rfl <;> rcases hw2 with h | h <;> exact absurd h (by decide +kernel)
      · exact True.intro
      · by_cases eb : j = j2
        · exact .inl ⟨by rw [eb], True.intro⟩
        · exact .inr ⟨fun h => eb (Sum.inl.inj h), .inl ⟨j, j2, rfl, rfl⟩⟩
    · exact .inr ⟨fun h => e2 (Sum.inr.inj h), .inr ⟨a, a2, rfl, rfl⟩⟩
  · exact .inr ⟨fun h => e (Sum.inr.inj h), .inr ⟨w, w2, rfl, rfl⟩⟩
theorem WrK.fst {x : List Key} (h : WrK x) : ∃ z r, x = .inr z :: r := by
  obtain ⟨w, a, r, rfl, _⟩ := h
  exact ⟨w, _, rfl⟩
theorem sto_wrk {recs : List Rec} {c : Cw} {zs : List Str} : ∀ x ∈ stoL recs c zs, WrK x := fun x hx => by
  obtain ⟨z, _, rfl⟩ := List.mem_map.mp hx
  exact ⟨_, _, _, rfl, .inl ⟨.inl rfl, _, rfl⟩⟩
theorem uns_wrk {c : Cw} {an : List Fl} : ∀ x ∈ unsL c an, WrK x := fun x hx => by
  obtain ⟨z, _, rfl⟩ := List.mem_map.mp hx
  exact ⟨_, _, _, rfl, .inl ⟨.inr rfl, _, rfl⟩⟩
theorem wde1_wrk {nm : Str} {c : Cw} {own an : List Fl} {j : Nat} {d : List Str} : ∀ x ∈ wde1 nm c own an j d, WrK x := fun x hx => by
  rcases List.mem_append.mp hx with h | h
  · split at h
    · cases h
    · rw [List.mem_singleton.mp h]
      exact ⟨_, _, _, rfl, .inr (.inr ⟨.inl rfl, _, rfl⟩)⟩
  · split at h
    · rw [List.mem_singleton.mp h]
      exact ⟨_, _, _, rfl, .inr (.inr ⟨.inr rfl, _, rfl⟩)⟩
    · cases h
theorem wdeR_wrk {nm : Str} {c : Cw} {own an : List Fl} : ∀ j, ∀ x ∈ wdeR nm c own an j, WrK x
  | 0, x, hx => by cases hx
  | j + 1, x, hx => by
    rcases List.mem_append.mp hx with h | h
    · exact wdeR_wrk j x h
    · cases q : c.ds[j]? with
      | none => rw [q] at h; cases h
      | some d =>
        rw [q] at h
        exact wde1_wrk x h
theorem wroC_wrk {nm : Str} {recs : List Rec} {c : Cw} : ∀ x ∈ wroC nm recs c, WrK x := fun x hx => by
  unfold wroC at hx
  split at hx
  · rcases List.mem_append.mp hx with h | h
    · exact wdeR_wrk _ x h
    · exact uns_wrk x h
  · exact sto_wrk x hx
theorem wroL_wrk {nm : Str} {cs : List (Str × PyData)} {recs : List Rec} {cws : List Cw} : ∀ x ∈ wroL nm cs recs cws, WrK x := fun x hx => by
  rcases List.mem_append.mp hx with h | h
  · rcases List.mem_append.mp h with h | h
    · obtain ⟨y, hy, rfl⟩ := List.mem_map.mp h
      obtain ⟨r, _, hr⟩ := List.mem_flatMap.mp hy
      obtain ⟨f, _, rfl⟩ := List.mem_map.mp hr
      exact ⟨_, _, _, rfl, .inl ⟨.inl rfl, _, rfl⟩⟩
    · obtain ⟨y, hy, rfl⟩ := List.mem_map.mp h
      obtain ⟨r, _, rfl⟩ := List.mem_map.mp hy
      exact ⟨_, _, _, rfl, .inr (.inl ⟨rfl, rfl⟩)⟩
  · obtain ⟨c, _, hc⟩ := List.mem_flatMap.mp h
    exact wroC_wrk x hc
theorem wroC_len {nm : Str} {recs : List Rec} (ok : RecsOk recs) {c : Cw} (l : c.ds.length ≤ 12) : (wroC nm recs c).length ≤ 29 := by
  unfold wroC
  split
  · rw [List.length_append]
    have a := wde_len (nm := nm) (c := c) (own := flO recs c.ask) (an := flO recs c.ans) c.ds.length
    have b : (unsL c (flO recs c.ans)).length ≤ 5 := by
      unfold unsL unsF
      rw [List.length_map]
      refine Nat.le_trans (List.length_filter_le _ _) (Nat.le_trans (List.length_filter_le _ _) ?_)
      rcases flO_mem (recs := recs) (z := c.ans) with h | ⟨r, hr, h⟩
      · rw [h]; exact Nat.zero_le _
      · rw [h]; exact ok.fl r hr
    omega
  · unfold stoL
    rw [List.length_map]
    exact Nat.le_trans (List.length_filter_le _ _) (by show 2 ≤ 29; decide)
theorem wroF_len {nm : Str} {recs : List Rec} (ok : RecsOk recs) : ∀ {cws : List Cw}, (∀ c ∈ cws, c.ds.length ≤ 12) → (cws.flatMap (wroC nm recs)).length ≤ 29 * cws.length
  | [], _ => Nat.zero_le _
  | c :: cws, h => by
    have a := wroC_len (nm := nm) ok (h c List.mem_cons_self)
    have b := wroF_len (nm := nm) ok (cws := cws) fun d hd => h d (List.mem_cons_of_mem _ hd)
    rw [List.flatMap_cons, List.length_append, List.length_cons]
    omega
theorem TxL.rw {H : Hp} {p : Addr} {T : List TxR} (x : TxL H p T) : RwL H p (T.map tr) := by
  refine ⟨by rw [x.l, List.map_map]; rfl, fun q hq => ?_⟩
  obtain ⟨r, hr, rfl⟩ := List.mem_map.mp hq
  have := x.t r hr
  show H r.1 = some (.tup ((r.2.map Sum.inr).map kV))
  rw [List.map_map]
  exact this
abbrev sWro : Stmt := top 21
abbrev nWro : List Str := ["face", "found", "call", "strangers"]
def spStrX (C : Addr) : Sp := fun vs H Q _ => ∃ (a : Addr) (cs : List (Str × PyData)) (recs : List Rec), vs = [.ref a] ∧ FaceR C H a cs (recs.map rD) ∧ cs.length ≤ 100 ∧ RecsOk recs ∧
  ∀ (p : Addr) (T : List TxR) (H' : Hp), Same H H' → H p = none → TxL H' p T → T.map (·.2) = nobL cs recs → T.length ≤ 30 → Q (.ref p) H'
def spWro (C : Addr) : Sp := fun vs H Q _ => ∃ (fa dx e : Addr) (nm : Str) (v2 v3 v4 : V) (cs : List (Str × PyData)) (recs : List Rec) (xs : List V) (cws : List Cw), vs = [.ref fa] ∧ H fa = some (.ins C dx (ff (.str nm) v2 v3 v4 (.ref e))) ∧ TpR H v3 (rowsD cs) ∧ TpR H v4 (rowsD (recs.map rD)) ∧ H e = some (.tup xs) ∧ TpAll H xs (cws.map Cw.d) ∧
  cs.length ≤ 100 ∧ Cs1 cs ∧ RecsOk recs ∧ (∀ z, FOkR (flO recs z)) ∧ cws.length ≤ 7 ∧ (∀ c ∈ cws, CwOk c) ∧
  ∀ (p : Addr) (T : List Row) (H' : Hp), Same H H' → H p = none → RwL H' p T → T.length < 300 → (T.map (·.2)).Pairwise (fun x y => rowLe x y = true) → (T.map (·.2)).Nodup → (∀ x, x ∈ T.map (·.2) ↔ x ∈ wroL nm cs recs cws) → Q (.ref p) H'
section
variable {P : Program} {w : World} {K : PySem.W.Frag} {mg : Str → Option Value} {base : Heap}
theorem scWro : FnScope nWro ["face"] (defScope sWro) := ⟨rfl, rfl, rfl, by decide +kernel, rfl, by decide +kernel, by decide +kernel⟩
theorem ok_wro {C f : Addr} {fd : FuncData} (F : Fun K "wrong" "wrong" sWro f fd) (G : Glb mg) (cl : Cls K C) (n5 : NoAttr K C "calls") (DA : Has P w K mg base "strangers_in_kinds" 4 ["face"] (spStrX C)) (DB : Has P w K mg base "endless_records" 6 ["face"] (spEnd C)) (DS : Has P w K mg base "strangers_of" 1 ["face", "call"] (spSto C)) (DW : Has P w K mg base "wrong_deeds" 3 ["face", "call"] (spWde C)) (DU : Has P w K mg base "unset_fields" 3 ["face", "call"] (spUns C)) : FnOk P w K mg base CX0 7 f fd ["face"] (spWro C) := by
  refine F.ok scWro (fun vs H Q E h => ?_) (fun cdv A outer s H vs Q E hr h => ?_)
  · obtain ⟨fa, dx, e, nm, v2, v3, v4, cs, recs, xs, cws, rfl, _⟩ := h
    rfl
  · obtain ⟨fa, dx, e, nm, v2, v3, v4, cs, recs, xs, cws, rfl, hA, t3, t4, he, txs, lc, c1, ok, fok, l7, cok, q⟩ := h
    have hu := hu_of hr
    refine ⟨_, (pss_cons (ps_set (i := 1) scWro.nd rfl (Or.inl rfl) (pe_op op_cat (pe_has DA (hr.mono (by omega)) rfl (pa_cons (pv 0) pa_nil)) (pe_has DB (hr.mono (by omega)) rfl (pa_cons (pv 0) pa_nil))))
      (pss_cons (ps_for PassesOwn.never rfl (pi_tup (pe_fld (pv 0) rfl)) (pg_name (i := 2) scWro.nd rfl (Or.inl rfl))
      (pss_cons (ps_set (i := 3) scWro.nd rfl (Or.inl rfl) (pe_has DS (hr.mono (by omega)) rfl (pa_cons (pv 0) (pa_cons (pv 2) pa_nil))))
      (pss_one (ps_expr (pe_bm PySem.F.plainAttrs_list PySem.F.slot_list_extend PySem.F.type_list_extend mt_extend (pv 1) (pa_cons (pe_mid (pe_ifExp (pt_truth (pv 3) (fun _ => rfl)) (pv 3) (pe_op op_cat (pe_has DW (hr.mono (by omega)) rfl (pa_cons (pv 0) (pa_cons (pv 2) pa_nil))) (pe_has DU (hr.mono (by omega)) rfl (pa_cons (pv 0) (pa_cons (pv 2) pa_nil)))))) pa_nil))))))
      (pss_one (ps_ret (pe_callB (cr_sortedSKx rfl hr.units) (by rfl) G.sorted (by decide +kernel) (pa_cons (pe_callTy (cr_setKx rfl hr.units) (by rfl) G.set (by decide +kernel) (pa_cons (pv 1) pa_nil)) pa_nil)))))), ?_⟩
    have lx : xs.length = cws.length := by rw [txs.length, List.length_map]
    have hF : FaceR C H fa cs (recs.map rD) := ⟨dx, _, v2, v3, v4, _, hA, t3, t4⟩
    have hN : FaceN C H fa nm cs (recs.map rD) := ⟨dx, v2, v3, v4, _, hA, t3, t4⟩
    have l6 := ok.len
    refine ⟨_, rfl, fa, cs, recs, rfl, hF, lc, ok, fun p1 T1 H1 S1 hp1 X1 N1 l1 => ?_⟩
    refine ⟨_, rfl, fa, cs, recs, rfl, hF.same S1, lc, c1, ok, fun p2 T2 H2 S2 hp2 X2 e2 => ?_⟩
    have l2 : T2.length ≤ 6 := by
      have z := congrArg List.length e2
      rw [List.length_map] at z
      rw [z]
      unfold endL
      rw [List.length_map]
      exact Nat.le_trans (List.length_filter_le _ _) l6
    have X12 := (X1.same S2).rw
    have X22 := X2.rw
    refine ⟨p1, p2, _, _, rfl, rfl, X12.l, X22.l, ?_, fun p hp => ?_⟩
    · rw [List.length_map, List.length_map, List.length_map, List.length_map, sizeLine_eq]
      omega
    have S02 := S1.trans S2
    have S3 : Same H2 (upd H2 p (.lst ((T1.map tr).map (fun q => V.ref q.1) ++ (T2.map tr).map fun q => V.ref q.1))) := Same.new hp
    have X3 : RwL (upd H2 p (.lst ((T1.map tr).map (fun q => V.ref q.1) ++ (T2.map tr).map fun q => V.ref q.1))) p (T1.map tr ++ T2.map tr) := ⟨by rw [upd_same, List.map_append], fun q hq => by
      rcases List.mem_append.mp hq with h | h
      · exact S3 _ _ (X12.t q h)
      · exact S3 _ _ (X22.t q h)⟩
    have e3 : (T1.map tr ++ T2.map tr).map (·.2) = (nobL cs recs).map txK ++ (endL (turns cs (recs.map rD) recs recs.length) recs).map txK := by
      rw [List.map_append, ← N1, ← e2, List.map_map, List.map_map, List.map_map, List.map_map]
      rfl
    have l3 : (T1.map tr ++ T2.map tr).length ≤ 36 := by
      rw [List.length_append, List.length_map, List.length_map]
      omega
    generalize (upd H2 p (.lst ((T1.map tr).map (fun q => V.ref q.1) ++ (T2.map tr).map fun q => V.ref q.1))) = H3 at *
    generalize (T1.map tr ++ T2.map tr) = T3 at *
    have S03 := S02.trans S3
    have hpn : H p = none := S02.free hp
    try dsimp only [List.set_cons_succ, List.set_cons_zero]
    refine ⟨_, rfl, fa, C, dx, _, _, rfl, S03 _ _ hA, cl, n5, ff_calls, e, rfl, ⟨_, SqT.of (S03 _ _ he)⟩, ?_⟩
    refine for_tup (xs := xs) (fun i σ H4 => ∃ T, (∃ a2 a3, σ = [some (.ref fa), some (.ref p), a2, a3]) ∧ Same H H4 ∧ RwL H4 p T ∧ T.map (·.2) = ((nobL cs recs).map txK ++ (endL (turns cs (recs.map rD) recs recs.length) recs).map txK) ++ (cws.take i).flatMap (wroC nm recs)) ?_ ?_ ?_ ?_
    · exact ⟨T3, ⟨_, _, rfl⟩, S03, X3, by rw [e3]; simp⟩
    · rintro i σ H4 _ ⟨T, _, S4, _⟩
      exact SqT.of (S4 _ _ he)
    · rintro i x σ H4 hx ⟨T, ⟨a2, a3, rfl⟩, S4, X4, e4⟩
      obtain ⟨dd, hd, td⟩ := txs.get' hx
      obtain ⟨c, hc, rfl⟩ : ∃ c, cws[i]? = some c ∧ dd = c.d := by
        rw [List.getElem?_map] at hd
        cases q : cws[i]? with
        | none => rw [q] at hd; cases hd
        | some c => rw [q] at hd; exact ⟨c, rfl, (Option.some.inj hd).symm⟩
      have co := cok c (List.mem_of_getElem? hc)
      have hi : i < cws.length := (List.getElem?_eq_some_iff.mp hc).1
      obtain ⟨t, _, _, rfl, _⟩ := cw_at td
      have lT : T.length ≤ 240 := by
        have z := congrArg List.length e4
        rw [List.length_map, List.length_append] at z
        have a := congrArg List.length e3
        rw [List.length_map] at a
        rw [← a] at z
        have b := wroF_len (nm := nm) ok (cws := cws.take i) fun c hc => (cok c (List.mem_of_mem_take hc)).l
        rw [List.length_take] at b
        omega
      try dsimp only [List.set_cons_succ, List.set_cons_zero]
      refine ⟨_, rfl, _, rfl, fa, t, cs, recs, c, rfl, hF.same S4, by omega, Tp.keep (Same.tk S4) _ _ td, fun p5 T5 H5 S5 hp5 X5 e5 => ?_⟩
      try dsimp only [List.set_cons_succ, List.set_cons_zero]
      have S05 := S4.trans S5
      have X45 := X4.same S5
      refine ⟨_, rfl, .inl ⟨rfl, _, SqL.of X45.l⟩, ?_⟩
      refine ⟨fun v H' => ∃ (b : Addr) (T6 : List Row), v = .ref b ∧ Same H5 H' ∧ RwL H' b T6 ∧ T6.map (·.2) = wroC nm recs c, ?_, ?_⟩
      · refine ⟨_, rfl, _, .inl ⟨_, SqL.of X5.l, rfl⟩, ?_⟩
        cases hT5 : T5 with
        | nil =>
          rw [hT5] at e5
          have e5 : stoL recs c [c.ask, c.ans] = [] := e5.symm
          refine iteF ?_
          have nms : ∀ z ∈ [c.ask, c.ans], z ∈ recs.map (·.1) := fun z hz => by
            have h1 := List.map_eq_nil_iff.mp e5
            have h2 := List.filter_eq_nil_iff.mp h1 z hz
            exact Classical.byContradiction fun h => h2 (by rw [decide_eq_false h]; rfl)
          have k1 := look_flO (nms c.ask (by simp))
          have k2 := look_flO (nms c.ans (by simp))
          refine ⟨_, rfl, _, rfl, fa, t, nm, cs, recs.map rD, c, flO recs c.ask, flO recs c.ans, rfl, hN.same S05, Tp.keep (Same.tk S05) _ _ td, co, k1, k2, fok _, fok _, fun p6 T6 H6 S6 hp6 X6 e6 => ?_⟩
          have S06 := S05.trans S6
          refine ⟨_, rfl, _, rfl, fa, t, cs, recs.map rD, c, flO recs c.ans, rfl, hF.same S06, Tp.keep (Same.tk S06) _ _ td, co, k2, fok _, fun p7 T7 H7 S7 hp7 X7 e7 => ?_⟩
          have X67 := X6.same S7
          have ew : wroC nm recs c = wdeR nm c (flO recs c.ask) (flO recs c.ans) c.ds.length ++ unsL c (flO recs c.ans) := by
            unfold wroC
            rw [e5]
            rfl
          have lw := wroC_len (nm := nm) ok co.l
          rw [ew, List.length_append, ← e6, ← e7, List.length_map, List.length_map] at lw
          refine ⟨p6, p7, _, _, rfl, rfl, X67.l, X7.l, ?_, fun p8 hp8 => ?_⟩
          · rw [List.length_map, List.length_map, sizeLine_eq]
            omega
          have S8 := Same.new (H := H7) (o := .lst (T6.map (fun q => V.ref q.1) ++ T7.map fun q => V.ref q.1)) hp8
          refine ⟨p8, T6 ++ T7, rfl, (S6.trans S7).trans S8, ⟨by rw [upd_same, List.map_append], fun q hq => ?_⟩, ?_⟩
          · rcases List.mem_append.mp hq with h | h
            · exact S8 _ _ (X67.t q h)
            · exact S8 _ _ (X7.t q h)
          · rw [List.map_append, e6, e7, ew]
        | cons q5 r5 =>
          refine iteT ?_
          refine ⟨_, rfl, p5, T5, rfl, Same.refl _, X5, ?_⟩
          have ne : (stoL recs c [c.ask, c.ans]).isEmpty = false := by
            rw [← e5, hT5]
            rfl
          unfold wroC
          rw [ne, if_neg Bool.false_ne_true]
          exact e5
      rintro v H6 ⟨b, T6, rfl, S6, X6, e6⟩
      have X46 := X45.same S6
      have lw := wroC_len (nm := nm) ok co.l
      rw [← e6, List.length_map] at lw
      refine ⟨p, b, _, _, rfl, rfl, X46.l, X6.l, ?_, ?_⟩
      · rw [List.length_map, List.length_map, sizeLine_eq]
        omega
      have away : ∀ {q : Row}, H6 q.1 = some (.tup (q.2.map kV)) → (upd H6 p (.lst (T.map (fun q => V.ref q.1) ++ T6.map fun q => V.ref q.1))) q.1 = some (.tup (q.2.map kV)) := fun {q} h => by
        rw [upd_ne fun h2 => by rw [h2, X46.l] at h; cases h]
        exact h
      refine ⟨T ++ T6, ⟨_, _, rfl⟩, Same.wr (S05.trans S6) hpn, ⟨by rw [upd_same, List.map_append], fun q hq => ?_⟩, ?_⟩
      · rcases List.mem_append.mp hq with h | h
        · exact away (X46.t q h)
        · exact away (X6.t q h)
      · rw [List.map_append, e4, e6, List.take_add_one, hc, List.flatMap_append, List.append_assoc]
        congr 1
        congr 1
        show _ = [c].flatMap (wroC nm recs)
        rw [List.flatMap_cons, List.flatMap_nil, List.append_nil]
    · rintro σ H4 ⟨T, ⟨a2, a3, rfl⟩, S4, X4, e4⟩
      rw [lx, List.take_length] at e4
      have e4 : T.map (·.2) = wroL nm cs recs cws := e4
      have wk : ∀ q ∈ T, WrK q.2 := fun q hq => wroL_wrk q.2 (by rw [← e4]; exact List.mem_map.mpr ⟨q, hq, rfl⟩)
      have lT : T.length < 300 := by
        have z := congrArg List.length e4
        rw [List.length_map] at z
        rw [z]
        unfold wroL
        rw [List.length_append]
        have a := congrArg List.length e3
        rw [List.length_map] at a
        rw [← a]
        have b := wroF_len (nm := nm) ok (cws := cws) fun c hc => (cok c hc).l
        omega
      refine ⟨_, rfl, p, T, rfl, SqL.of X4.l, fun q hq => SqT.of (X4.t q hq), lT, fun S T' hS s1 s2 nd lT' => ?_⟩
      have S5 : Same H4 (upd H4 S (SetKx P w S T')) := Same.new hS
      refine ⟨S, T', rfl, upd_same, fun q hq => SqT.of (S5 _ _ (X4.t q (s1 q hq))), fun q hq q2 hq2 => (wk q (s1 q hq)).cm (wk q2 (s1 q2 hq2)), fun q hq => (wk q (s1 q hq)).fst, lT', fun T4 r pm pw hr' => ?_⟩
      have S6 : Same (upd H4 S (SetKx P w S T')) (upd (upd H4 S (SetKx P w S T')) r (.lst (T4.map fun q => V.ref q.1))) := Same.new hr'
      have sub4 : ∀ q ∈ T4, q ∈ T := fun q hq => s1 q (pm.mem_iff.mp hq)
      have S56 := S5.trans S6
      refine q r T4 _ (S4.trans S56) ((S4.trans S5).free hr') ⟨upd_same, fun q hq => S56 _ _ (X4.t q (sub4 q hq))⟩ (by rw [pm.length_eq]; exact lT') pw (((pm.map (·.2)).nodup_iff).mpr nd) fun x => ?_
      rw [← e4]
      constructor
      · intro hx
        obtain ⟨q, hq, rfl⟩ := List.mem_map.mp hx
        exact List.mem_map.mpr ⟨q, sub4 q hq, rfl⟩
      · intro hx
        obtain ⟨q, hq, rfl⟩ := List.mem_map.mp hx
        exact ((pm.map (·.2)).mem_iff).mpr (s2 q hq)
end
end Fh

set_option Elab.async false
set_option linter.all false
set_option maxRecDepth 100000
set_option maxHeartbeats 4000000
namespace Fh
open PySem L2 PyProof.Rows
/-! ### strangers in kinds, exactly -/
def nobP (cs rs : List (Str × PyData)) (z : Str) (fl : List Fl) : List (List Str) := (fl.filter fun f => nobK cs rs f.kd).map fun f => [("nobody" : Str), z, f.kd.nm.getD ""]
def nobR (cs rs : List (Str × PyData)) (r : Rec) : List (List Str) := nobP cs rs r.1 r.2
section
variable {P : Program} {w : World} {K : PySem.W.Frag} {mg : Str → Option Value} {base : Heap}
theorem ok_strX {C f : Addr} {fd : FuncData} (F : Fun K "strangers_in_kinds" "strangers_in_kinds" sStr f fd) (G : Glb mg) (cl : Cls K C) (n4 : NoAttr K C "records") (DN : Has P w K mg base "names_nobody" 3 ["face", "kind"] (spNob C fun _ => True)) (DI : Has P w K mg base "name_in" 3 ["kind"] (spNin fun _ => True)) : FnOk P w K mg base CX0 4 f fd ["face"] (spStrX C) := by
  refine F.ok scStr (fun vs H Q E h => ?_) (fun cdv A outer s H vs Q E hr h => ?_)
  · obtain ⟨a, cs, recs, rfl, _⟩ := h
    rfl
  · obtain ⟨a, cs, recs, rfl, hF, lc, ok, q⟩ := h
    have ok6 := ok.len
    refine ⟨_, pss_cons (ps_set (i := 1) scStr.nd rfl (Or.inl rfl) (pe_lst pa_nil))
      (pss_cons (ps_for PassesOwn.never rfl (pi_tup (pe_fld (pv 0) rfl)) (pg_tup rfl (pgs_cons (pg_name (i := 2) scStr.nd rfl (.inr rfl)) (pgs_cons (pg_name (i := 3) scStr.nd rfl (.inl rfl)) pgs_nil)))
        (pss_cons (ps_setLc (i := 4) (own := [("number", 5), ("name", 6), ("kind", 7), ("need", 8)]) (g := gTup K 4 (gCons (gName 5) (gCons (gName 6) (gCons (gName 7) (gCons (gName 8) gNil))))) (tt := tYes) (te := tVar 7) rfl scStr.nd rfl rfl (sw_true rfl rfl rfl (by decide +kernel)) (pi_tup (pv 3)) (blkOk_by (N := nStr) (sc := defScope sStr) (by decide +kernel))
            (fun _ _ _ _ _ => pg_tup rfl (pgs_cons (pg_name (i := 5) scStr.nd rfl (.inl rfl)) (pgs_cons (pg_name (i := 6) scStr.nd rfl (.inl rfl)) (pgs_cons (pg_name (i := 7) scStr.nd rfl (.inl rfl)) (pgs_cons (pg_name (i := 8) scStr.nd rfl (.inl rfl)) pgs_nil))))) (fun _ _ _ _ _ => pts_nil) (fun _ _ _ _ _ => pv 7))
        (pss_one (ps_expr (pe_bm PySem.F.plainAttrs_list PySem.F.slot_list_extend PySem.F.type_list_extend mt_extend (pv 1) (pa_cons (pe_lc (own := [("kind", 7)]) (g := gName 7) (te := tTup (tCons (tC (.str "nobody")) (tCons (tVar 2) (tCons (tCall (spNin fun _ => True) [] E0 (tCons (tVar 7) tNil)) tNil)))) rfl scStr.nd (pi_list (pv 4)) (blkOk_by (N := nStr) (sc := defScope sStr) (by decide +kernel))
            (fun _ _ _ _ _ => pg_name (i := 7) scStr.nd rfl (Or.inl rfl)) (fun _ _ _ _ _ => pts_one (pt_val (pe_has DN (hr.mono (by decide)) rfl (pa_cons (pv 0) (pa_cons (pv 7) pa_nil))))) (fun _ _ _ _ _ => pe_tup (pa_cons pe_str (pa_cons (pv 2) (pa_cons (pe_has DI (hr.mono (by decide)) rfl (pa_cons (pv 7) pa_nil)) pa_nil))))) pa_nil))))))
      (pss_one (ps_ret (pv 1)))), ?_⟩
    obtain ⟨dx, v1, v2, v3, v4, v5, hA, t3, t4⟩ := id hF
    obtain ⟨b, xs, rfl, hb, tq⟩ := TpR.inv t4
    have el : xs.length = recs.length := by rw [tq.length, List.length_map, List.length_map]
    refine ⟨Nat.zero_le _, fun p hp => ?_⟩
    have S0 : Same H (upd H p (.lst [])) := Same.new hp
    refine ⟨_, rfl, a, C, dx, _, _, rfl, S0 _ _ hA, cl, n4, ff_records, b, rfl, ⟨_, .inl (Rd.same hb S0)⟩, ?_⟩
    refine for_tup (xs := xs) (fun i σ H3 => ∃ T, (∃ a2 a3 a4 a5 a6 a7 a8, σ = [some (.ref a), some (.ref p), a2, a3, a4, a5, a6, a7, a8]) ∧ Same H H3 ∧ TxL H3 p T ∧ T.map (·.2) = (recs.take i).flatMap (nobR cs (recs.map rD)) ∧ T.length ≤ 5 * i) ?_ ?_ ?_ ?_
    · exact ⟨[], ⟨_, _, _, _, _, _, _, rfl⟩, S0, ⟨upd_same, fun q h => nomatch h⟩, rfl, Nat.le_refl _⟩
    · rintro i σ H3 _ ⟨T, _, S3, _⟩
      exact .inl (Rd.same hb S3)
    · rintro i x σ H3 hx ⟨T, ⟨a2, a3, a4, a5, a6, a7, a8, rfl⟩, S3, X3, N3, l3⟩
      obtain ⟨r, tp, u, hr', rfl, htp, tu⟩ := recs_at tq hx
      have hi := (List.getElem?_eq_some_iff.mp hr').1
      have lf := ok.fl r (List.mem_of_getElem? hr')
      refine ⟨tp, _, rfl, SqT.of (S3 _ _ htp), rfl, _, _, rfl, _, _, rfl, rfl, ?_⟩
      obtain ⟨c, ys, rfl, hc, tys⟩ := Tp.inv tu
      have ly : ys.length = r.2.length := by rw [tys.length, List.length_map]
      refine ⟨_, rfl, c, rfl, ⟨_, SqT.of (S3 _ _ hc)⟩, fun D hD => ?_⟩
      refine lc_tup (xs := ys) (fun j H4 => Same H3 H4 ∧ ∃ us : List V, H4 D = some (.lst us) ∧ us.length = (r.2.take j).length ∧ TpAll H us ((r.2.take j).map fun f => f.kd.d)) ?_ ?_ ?_ ?_
      · exact ⟨Same.new hD, [], upd_same, rfl, .nil⟩
      · rintro j H4 _ ⟨S4, _⟩
        exact SqT.of (S4 _ _ (S3 _ _ hc))
      · rintro j y H4 hy ⟨S4, us, h4, lu, hu4⟩
        obtain ⟨f2, t2, u2, hf2, rfl, ht2, tu2⟩ := flds_at (fs := r.2) tys hy
        have hj : j < 5 := by
          have := (List.getElem?_eq_some_iff.mp hf2).1
          omega
        refine ⟨t2, _, rfl, SqT.of (S4 _ _ (S3 _ _ ht2)), rfl, _, _, rfl, _, _, rfl, _, _, rfl, _, _, rfl, rfl, rfl, yes (iteT ?_)⟩
        have et : r.2.take (j + 1) = r.2.take j ++ [f2] := by rw [List.take_add_one, hf2]; rfl
        refine ⟨_, rfl, _, h4, ?_, Same.wr S4 hD, us ++ [u2], upd_same, ?_, ?_⟩
        · rw [lu, List.length_take]
          exact Nat.lt_of_le_of_lt (Nat.min_le_left _ _) (Nat.lt_of_lt_of_le hj (by decide))
        · rw [et, List.length_append, List.length_append, lu]
          rfl
        · rw [et, List.map_append]
          exact hu4.app (TpAll.one tu2)
      · rintro H4 ⟨S4, us, h4, lu, hu4⟩
        rw [ly, List.take_length] at lu hu4
        have S04 : Same H H4 := fun b o e => S4 b o (S3 b o e)
        have hp4 := S4 _ _ X3.l
        refine ⟨_, rfl, .inl ⟨rfl, _, SqL.of hp4⟩, ?_⟩
        refine ⟨_, rfl, D, rfl, ⟨_, SqL.of h4⟩, fun D2 hD2 => ?_⟩
        refine lc_list (xs := us) (fun j H5 => Same H4 H5 ∧ ∃ T2, TxL H5 D2 T2 ∧ T2.map (·.2) = nobP cs (recs.map rD) r.1 (r.2.take j) ∧ T2.length ≤ j) ?_ ?_ ?_ ?_
        · exact ⟨Same.new hD2, [], ⟨upd_same, fun q h => nomatch h⟩, rfl, Nat.le_refl _⟩
        · rintro j H5 _ ⟨S5, _⟩
          exact SqL.of (S5 _ _ h4)
        · rintro j y H5 hy ⟨S5, T2, X5, N5, l5⟩
          have hj : j < 5 := by
            have := (List.getElem?_eq_some_iff.mp hy).1
            omega
          obtain ⟨dd, hd, tk⟩ := hu4.get' hy
          obtain ⟨f3, hf3, ek3⟩ : ∃ f3, r.2[j]? = some f3 ∧ f3.kd.d = dd := by
            rw [List.getElem?_map] at hd
            cases q : r.2[j]? with
            | none => rw [q] at hd; cases hd
            | some f3 => rw [q] at hd; exact ⟨f3, rfl, Option.some.inj hd⟩
          subst ek3
          have stp : nobP cs (recs.map rD) r.1 (r.2.take (j + 1)) = nobP cs (recs.map rD) r.1 (r.2.take j) ++ (if nobK cs (recs.map rD) f3.kd = true then [[("nobody" : Str), r.1, f3.kd.nm.getD ""]] else []) := by
            unfold nobP
            rw [List.take_add_one, hf3, List.filter_append, List.map_append]
            congr 1
            show (List.filter (fun f : Fl => nobK cs (recs.map rD) f.kd) [f3]).map _ = _
            cases hb : nobK cs (recs.map rD) f3.kd <;> simp [List.filter, hb]
          obtain ⟨k, ek⟩ : ∃ k, k = f3.kd := ⟨_, rfl⟩
          rw [← ek] at tk stp
          have S05 : Same H H5 := fun b o e => S5 b o (S04 b o e)
          refine ⟨rfl, ?_⟩
          refine ⟨_, rfl, _, rfl, a, y, k, cs, recs.map rD, rfl, hF.same S05, lc, (by rw [List.length_map]; omega), Tp.keep (Same.tk S05) _ _ tk, trivial, fun H6 S6 => ?_⟩
          have S56 : Same H4 H6 := fun b o e => S6 b o (S5 b o e)
          have S06 : Same H H6 := fun b o e => S6 b o (S05 b o e)
          cases hnk : nobK cs (recs.map rD) k with
          | false => exact ⟨false, rfl, iteF ⟨S56, T2, ⟨S6 _ _ X5.l, fun q h => S6 _ _ (X5.t q h)⟩, by rw [stp, hnk, if_neg Bool.false_ne_true, List.append_nil]; exact N5, Nat.le_succ_of_le l5⟩⟩
          | true =>
            obtain ⟨z, hz⟩ := nob_name hnk
            refine ⟨true, rfl, iteT ?_⟩
            refine ⟨_, rfl, _, rfl, y, k, z, rfl, Tp.keep (Same.tk S06) _ _ tk, hz, trivial, (by show 3 ≤ sizeLine; decide), fun t ht => ?_⟩
            have l6 := S6 _ _ X5.l
            have nD : t ≠ D2 := fun e => by rw [e, l6] at ht; cases ht
            refine ⟨_, by rw [upd_ne (Ne.symm nD)]; exact l6, ?_, ?_, T2 ++ [(t, [("nobody" : Str), r.1, z])], ⟨?_, fun q hq => ?_⟩, ?_, ?_⟩
            · rw [List.length_map]
              exact Nat.lt_of_le_of_lt l5 (Nat.lt_of_lt_of_le hj (by decide))
            · intro b o e
              have nb : b ≠ D2 := ne_of_none e hD2
              rw [upd_ne nb, upd_ne (ne_of_none (S56 b o e) ht)]
              exact S56 b o e
            · rw [upd_same, List.map_append]
              rfl
            · rcases List.mem_append.mp hq with h | h
              · have e6 := S6 _ _ (X5.t q h)
                have nb : q.1 ≠ D2 := fun e => by rw [e, l6] at e6; cases e6
                rw [upd_ne nb, upd_ne (ne_of_none e6 ht)]
                exact e6
              · rw [List.mem_singleton.mp h]
                show (upd _ D2 _) t = _
                rw [upd_ne nD, upd_same]
                rfl
            · rw [stp, hnk, if_pos rfl, hz, List.map_append, N5]
              rfl
            · rw [List.length_append]
              exact Nat.succ_le_succ l5
        · rintro H5 ⟨S5, T2, X5, N5, l5⟩
          have hp5 := S5 _ _ hp4
          have lt2 : T2.length ≤ 5 := by omega
          refine ⟨p, D2, _, _, rfl, rfl, hp5, X5.l, ?_, ?_⟩
          · rw [List.length_map, List.length_map, sizeLine_eq]
            omega
          · refine ⟨T ++ T2, ⟨_, _, _, _, _, _, _, rfl⟩, Same.wr (fun b o e => S5 b o (S04 b o e)) hp, ⟨by rw [upd_same, List.map_append], fun q hq => ?_⟩, ?_, ?_⟩
            · have e5 : H5 q.1 = some (.tup (q.2.map V.str)) := by
                rcases List.mem_append.mp hq with h | h
                · exact S5 _ _ (S4 _ _ (X3.t q h))
                · exact X5.t q h
              rw [upd_ne (fun e => by rw [e, hp5] at e5; cases e5)]
              exact e5
            · rw [lu, List.take_length] at N5
              rw [List.map_append, N3, N5, List.take_add_one, hr', List.flatMap_append]
              congr 1
              show _ = [r].flatMap (nobR cs (recs.map rD))
              rw [List.flatMap_cons, List.flatMap_nil, List.append_nil]
              rfl
            · rw [List.length_append]
              omega
    · rintro σ H3 ⟨T, ⟨a2, a3, a4, a5, a6, a7, a8, rfl⟩, S3, X3, N3, l3⟩
      exact ⟨_, rfl, q p T H3 S3 hp X3 (by rw [el, List.take_length] at N3; exact N3) (by omega)⟩
end
end Fh

set_option Elab.async false
set_option linter.all false
set_option maxRecDepth 100000
set_option maxHeartbeats 4000000
namespace Fh
open PySem L2 PyProof.Rows
/-! ### the drawing: a word picked -/
def rEqM9 (K : PySem.W.Frag) : R2 := fun x y H Q => ∃ (a b : Addr) (xs : List V), x = .ref a ∧ y = .ref b ∧ SqL K H a xs ∧ SqL K H b [] ∧ Q (.bl xs.isEmpty) H
section
variable {X : Cx}
theorem op_eqM9 (hu : X.A.units + 64 < cLine) : OpR X (compareOp .Eq) (rEqM9 X.K) := by
  intro pins s σ H x y v u Q I rx ry want
  obtain ⟨a, b, xs, rfl, rfl, ha, hb, q⟩ := want
  cases (show v = Value.ref a from rx)
  cases (show u = Value.ref b from ry)
  obtain ⟨us, r1, p1, _⟩ := I.list ha
  obtain ⟨ws, r2, p2, _⟩ := I.list hb
  have l2 : ws = [] := List.eq_nil_of_length_eq_zero r2.length.symm
  subst l2
  cases xs with
  | nil =>
    have l1 : us = [] := List.eq_nil_of_length_eq_zero r1.length.symm
    subst l1
    exact SeqAt.RcAt.lists (e := fun _ => true) p1.isList p2.isList rfl (by omega) (fun j h1 h2 => absurd h2 (Nat.not_lt_zero j)) _ _ _ _ ⟨.bl true, H, I, rfl, q⟩
  | cons x xs =>
    have ne : (us.toArray.size != ([] : List Value).toArray.size) = true := by
      rw [List.size_toArray, ← r1.length]
      simp
    exact SeqAt.RcAt.lists_lengths p1.isList p2.isList ne (by omega) _ _ _ _ ⟨.bl false, H, I, rfl, q⟩
end

abbrev sPik : Stmt := top 41
abbrev nPik : List Str := ["_law_bag_here", "_law_pool", "_law_strange", "_law_some"]
abbrev pPik : List Str := ["_law_bag_here", "_law_pool", "_law_strange"]
def spPik : Sp := fun vs H Q _ => ∃ (b l : Addr) (zs : List Str) (s : Str) (n : Nat), vs = [.ref b, .ref l, .str s] ∧ Bag H b n ∧ n + 10 ≤ most ∧ H l = some (.lst (zs.map V.str)) ∧ zs.length ≤ 100 ∧
  ∀ (z : Str) (H' : Hp), (z ∈ zs ∨ z = s) → Kp b H H' → Bag H' b (n + 2) → Q (.str z) H'
section
variable {P : Program} {w : World} {K : PySem.W.Frag} {mg : Str → Option Value} {base : Heap}
theorem scPik : FnScope nPik pPik (defScope sPik) := ⟨rfl, rfl, rfl, by decide +kernel, rfl, by decide +kernel, by decide +kernel⟩
theorem ok_pik {f : Addr} {fd : FuncData} (F : Fun K "_law_pick" "_law_pick" sPik f fd) (G : Glb mg) (DT : Has P w K mg base "_law_take" 1 ["_law_bag_here", "_law_size"] spTake) : FnOk P w K mg base CX0 2 f fd pPik spPik := by
  refine F.ok scPik (fun vs H Q E h => ?_) (fun cdv A outer s H vs Q E hr h => ?_)
  · obtain ⟨b, l, zs, s, n, rfl, _⟩ := h
    rfl
  · obtain ⟨b, l, zs, st, n, rfl, hB, hn, hl, lz, q⟩ := h
    have hm : most = 1000000 := rfl
    refine ⟨_, (C8.pss_cut (ps_set (i := 3) scPik.nd rfl (Or.inl rfl) (pe_ix ix_list (pe_lst (pa_cons (pv 1) (pa_cons (pe_op op_cat (pv 1) (pe_lst (pa_cons (pv 2) pa_nil))) pa_nil))) (pe_callTy call_int1 (by rfl) G.int (by decide +kernel) (pa_cons (pe_or (pe_cmpR op_eq (pe_has DT (hr.mono (by omega)) rfl (pa_cons (pv 0) (pa_cons pe_int pa_nil))) pe_int (nomark _)) (pe_one (pe_cmpR (op_eqM9 hr.units) (pv 1) (pe_lst pa_nil) (nomark _)))) pa_nil)) (fun _ _ => rfl)))
      (pss_one (ps_ret (pe_ix ix_list (pv 3) (pe_has DT (hr.mono (by omega)) rfl (pa_cons (pv 0) (pa_cons (pe_callB call_len_seq (by rfl) G.len (by decide +kernel) (pa_cons (pv 3) pa_nil)) pa_nil))) (fun _ _ => rfl))))), ?_⟩
    refine ⟨fun σ H' => ∃ (a' : Addr) (ys : List Str), σ = [some (.ref b), some (.ref l), some (.str st), some (.ref a')] ∧ ys ≠ [] ∧ ys.length ≤ 101 ∧ (∀ z ∈ ys, z ∈ zs ∨ z = st) ∧ H' a' = some (.lst (ys.map V.str)) ∧ Kp b H H' ∧ Bag H' b (n + 1), ?_, ?_⟩
    · refine ⟨_, rfl, _, rfl, _, rfl, (by show 1 ≤ sizeLine; decide), fun t1 ht1 => ?_⟩
      have S1 := Same.new (H := H) (o := .lst [.str st]) ht1
      have e1 : (upd H t1 (.lst [.str st])) t1 = some (.lst [.str st]) := upd_same
      generalize (upd H t1 (.lst [.str st])) = H1 at *
      refine ⟨l, t1, _, _, rfl, rfl, S1 _ _ hl, e1, ?_, fun t2 ht2 => ⟨(by show 2 ≤ sizeLine; decide), fun t3 ht3 => ?_⟩⟩
      · rw [List.length_map, sizeLine_eq]
        show zs.length + 1 ≤ _
        omega
      have S2 := Same.new (H := H1) (o := .lst (zs.map V.str ++ [.str st])) ht2
      have e2 : (upd H1 t2 (.lst (zs.map V.str ++ [.str st]))) t2 = some (.lst (zs.map V.str ++ [.str st])) := upd_same
      generalize (upd H1 t2 (.lst (zs.map V.str ++ [.str st]))) = H2 at *
      have S3 := Same.new (H := H2) (o := .lst [.ref l, .ref t2]) ht3
      have e3 : (upd H2 t3 (.lst [.ref l, .ref t2])) t3 = some (.lst [.ref l, .ref t2]) := upd_same
      have n3 : t3 ≠ b := new_ne ht3 ((hB.same S1).same S2)
      have n2 : t2 ≠ b := new_ne ht2 (hB.same S1)
      generalize (upd H2 t3 (.lst [.ref l, .ref t2])) = H3 at *
      have S03 := (S1.trans S2).trans S3
      have nl : l ≠ b := fun e => by
        obtain ⟨x, y, z, hb, _⟩ := hB
        rw [e, hb] at hl
        cases zs with
        | nil => cases hl
        | cons z r => cases hl
      refine ⟨_, rfl, b, 8, n, rfl, by decide, by decide, hB.same S03, by omega, fun d H4 d0 d1 k4 b4 => ?_⟩
      have K4 : Kp b H H4 := (Kp.refl.same S03).trans k4
      have h4l := K4 _ _ nl hl
      have h42 := k4 _ _ n2 (S3 _ _ e2)
      have h43 := k4 _ _ n3 e3
      have two : ∀ (H5 : Hp), Same H4 H5 → ∃ (a' : Addr) (ys : List Str), ([some (.ref b), some (.ref l), some (.str st), some (.ref t2)] : L2.St) = [some (.ref b), some (.ref l), some (.str st), some (.ref a')] ∧ ys ≠ [] ∧ ys.length ≤ 101 ∧ (∀ z ∈ ys, z ∈ zs ∨ z = st) ∧ H5 a' = some (.lst (ys.map V.str)) ∧ Kp b H H5 ∧ Bag H5 b (n + 1) := fun H5 S5 => by
        refine ⟨t2, zs ++ [st], rfl, (fun h => by cases (List.append_eq_nil_iff.mp h).2), by rw [List.length_append]; show zs.length + 1 ≤ 101; omega, fun z hz => ?_, ?_, K4.same S5, b4.same S5⟩
        · rcases List.mem_append.mp hz with h | h
          · exact .inl h
          · exact .inr (List.mem_singleton.mp h)
        · rw [List.map_append]
          exact S5 _ _ h42
      refine ⟨rfl, _, rfl, ite2 (fun h => ?_) (fun h => ?_)⟩
      · refine .inr ⟨_, rfl, ?_⟩
        exact ⟨t3, _, _, _, rfl, rfl, SqL.of h43, rfl, two H4 (Same.refl _)⟩
      · refine ⟨_, rfl, Nat.zero_le _, fun t4 ht4 => ?_⟩
        have S5 := Same.new (H := H4) (o := .lst []) ht4
        have e5 : (upd H4 t4 (.lst [])) t4 = some (.lst []) := upd_same
        generalize (upd H4 t4 (.lst [])) = H5 at *
        refine ⟨l, t4, _, rfl, rfl, SqL.of (S5 _ _ h4l), SqL.of e5, .inr ⟨_, rfl, ?_⟩⟩
        cases zs with
        | nil => exact ⟨t3, _, _, _, rfl, rfl, SqL.of (S5 _ _ h43), rfl, two H5 S5⟩
        | cons z r => exact ⟨t3, _, _, _, rfl, rfl, SqL.of (S5 _ _ h43), rfl, l, z :: r, rfl, (fun h => nomatch h), by omega, fun y hy => .inl hy, S5 _ _ h4l, K4.same S5, b4.same S5⟩
    rintro σ H6 ⟨a', ys, rfl, ne, ly, hy, h6, K6, b6⟩
    have l1 : 1 ≤ ys.length := List.length_pos_iff.mpr ne
    have na : a' ≠ b := fun e => by
      obtain ⟨x, y, z, hb, _⟩ := b6
      rw [e, hb] at h6
      cases ys with
      | nil => exact ne rfl
      | cons z r => cases h6
    try dsimp only [List.set_cons_succ, List.set_cons_zero]
    refine ⟨_, rfl, _, rfl, _, rfl, a', _, rfl, .inl (SqL.of h6), b, _, _, rfl, (by rw [List.length_map]; omega), (by rw [List.length_map]; omega), b6, by omega, fun d H7 d0 d1 k7 b7 => ?_⟩
    obtain ⟨v, ev, ev2, _⟩ := atI_in (xs := ys.map V.str) d0 d1
    rw [List.getElem?_map] at ev2
    cases hz : ys[d.toNat]? with
    | none => rw [hz] at ev2; cases ev2
    | some z =>
      rw [hz] at ev2
      cases ev2
      exact ⟨a', _, _, _, rfl, rfl, SqL.of (k7 _ _ na h6), ev, q z H7 (hy z (List.mem_of_getElem? hz)) (K6.trans k7) b7⟩
end
end Fh

set_option Elab.async false
set_option linter.all false
set_option maxRecDepth 100000
set_option maxHeartbeats 4000000
namespace Fh
open PySem L2 PyProof.Rows
/-! ### a kind drawn -/
abbrev sKnd : Stmt := top 42
abbrev nKnd : List Str := ["_law_bag_here", "_law_menus", "_law_forms", "_law_way", "_law_kind"]
abbrev pKnd : List Str := ["_law_bag_here", "_law_menus", "_law_forms"]
def Kb.nm1 (k : Kb) : Option Str := (Kn.one k).nm
/-- a name of a pool, or the strange one -/
def InP (zs : List Str) (s z : Str) : Prop := z ∈ zs ∨ z = s
def KbIn (ms fs : List Str) : Kb → Prop
  | .ch z => InP ms "menu" z
  | .rc z => InP fs "form" z
  | _ => True
def KnIn (ms fs : List Str) : Kn → Prop
  | .one k => KbIn ms fs k
  | .lst k => KbIn ms fs k
def KnQ (ms fs : List Str) (k : Kn) : Prop := (∀ z, k.nm = some z → Nm z) ∧ KnIn ms fs k
def spKnd : Sp := fun vs H Q _ => ∃ (b lm lf : Addr) (ms fs : List Str) (n : Nat), vs = [.ref b, .ref lm, .ref lf] ∧ Bag H b n ∧ n + 30 ≤ most ∧ H lm = some (.lst (ms.map V.str)) ∧ H lf = some (.lst (fs.map V.str)) ∧ ms.length ≤ 100 ∧ fs.length ≤ 100 ∧ (∀ z ∈ ms, Nm z) ∧ (∀ z ∈ fs, Nm z) ∧
  ∀ (v : V) (k : Kn) (H' : Hp), Tp H' v k.d → KnQ ms fs k → Kp b H H' → Bag H' b (n + 6) → Q v H'
theorem ls_ne {H : Hp} {a b : Addr} {zs : List Str} {n : Nat} (h : H a = some (.lst (zs.map V.str))) (hB : Bag H b n) : a ≠ b := fun e => by
  obtain ⟨x, y, z, hb, _⟩ := hB
  rw [e, hb] at h
  cases zs with
  | nil => cases h
  | cons z r => cases h
section
variable {P : Program} {w : World} {K : PySem.W.Frag} {mg : Str → Option Value} {base : Heap}
theorem scKnd : FnScope nKnd pKnd (defScope sKnd) := ⟨rfl, rfl, rfl, by decide +kernel, rfl, by decide +kernel, by decide +kernel⟩
theorem ok_knd {f : Addr} {fd : FuncData} (F : Fun K "_law_kind_drawn" "_law_kind_drawn" sKnd f fd) (G : Glb mg) (nmM : Nm "menu") (nmF : Nm "form") (DT : Has P w K mg base "_law_take" 1 ["_law_bag_here", "_law_size"] spTake) (DP : Has P w K mg base "_law_pick" 2 pPik spPik) : FnOk P w K mg base CX0 3 f fd pKnd spKnd := by
  refine F.ok scKnd (fun vs H Q E h => ?_) (fun cdv A outer s H vs Q E hr h => ?_)
  · obtain ⟨b, lm, lf, ms, fs, n, rfl, _⟩ := h
    rfl
  · obtain ⟨b, lm, lf, ms, fs, n, rfl, hB, hn, hm, hf, l1, l2, nm, nf, q⟩ := h
    have hmost : most = 1000000 := rfl
    refine ⟨_, (pss_cons (ps_set (i := 3) scKnd.nd rfl (Or.inl rfl) (pe_has DT (hr.mono (by omega)) rfl (pa_cons (pv 0) (pa_cons pe_int pa_nil))))
      (pss_cons (ps_set (i := 4) scKnd.nd rfl (Or.inl rfl) (pe_ix ix_list (pe_lst (pa_cons pe_str (pa_cons pe_str (pa_cons pe_str (pa_cons pe_str (pa_cons pe_str pa_nil)))))) (pe_op op_mod (pv 3) pe_int) (fun _ _ => rfl)))
      (C8.pss_cut (ps_if (pt_cmpR op_in_seq (pv 3) (pe_tup (pa_cons pe_int (pa_cons pe_int pa_nil))) rfl)
      (pss_one (ps_set (i := 4) scKnd.nd rfl (Or.inl rfl) (pe_tup (pa_cons pe_str (pa_cons (pe_has DP (hr.mono (by omega)) rfl (pa_cons (pv 0) (pa_cons (pv 1) (pa_cons pe_str pa_nil)))) pa_nil)))))
      pss_nil)
      (C8.pss_cut (ps_if (pt_cmpR op_in_seq (pv 3) (pe_tup (pa_cons pe_int (pa_cons pe_int pa_nil))) rfl)
      (pss_one (ps_set (i := 4) scKnd.nd rfl (Or.inl rfl) (pe_tup (pa_cons pe_str (pa_cons (pe_has DP (hr.mono (by omega)) rfl (pa_cons (pv 0) (pa_cons (pv 2) (pa_cons pe_str pa_nil)))) pa_nil)))))
      pss_nil)
      (pss_one (ps_ret (pe_ix ix_list (pe_lst (pa_cons (pv 4) (pa_cons (pv 4) (pa_cons (pe_tup (pa_cons pe_str (pa_cons (pv 4) pa_nil))) pa_nil)))) (pe_has DT (hr.mono (by omega)) rfl (pa_cons (pv 0) (pa_cons pe_int pa_nil))) (fun _ _ => rfl)))))))), ?_⟩
    have nmb := ls_ne hm hB
    have nfb := ls_ne hf hB
    refine ⟨_, rfl, b, 9, n, rfl, by decide, by decide, hB, by omega, fun d H1 d0 d1 k1 b1 => ?_⟩
    try dsimp only [List.set_cons_succ, List.set_cons_zero]
    refine ⟨(by show 5 ≤ sizeLine; decide), fun t1 ht1 => ?_⟩
    have S2 := Same.new (H := H1) (o := .lst [.str "whole", .str "truth", .str "text", .str "text", .str "whole"]) ht1
    have e2 : (upd H1 t1 (.lst [.str "whole", .str "truth", .str "text", .str "text", .str "whole"])) t1 = some (.lst [.str "whole", .str "truth", .str "text", .str "text", .str "whole"]) := upd_same
    have b2 := b1.same S2
    have K2 : Kp b H (upd H1 t1 (.lst [.str "whole", .str "truth", .str "text", .str "text", .str "whole"])) := k1.same S2
    generalize (upd H1 t1 (.lst [.str "whole", .str "truth", .str "text", .str "text", .str "whole"])) = H2 at *
    obtain ⟨kb0, v0, ev0, tv0, nm0⟩ : ∃ (k : Kb) (v : V), atI [V.str "whole", .str "truth", .str "text", .str "text", .str "whole"] (d % 5) = some v ∧ Tp H2 v k.d ∧ KnQ ms fs (.one k) := by
      rcases (by omega : d % 5 = 0 ∨ d % 5 = 1 ∨ d % 5 = 2 ∨ d % 5 = 3 ∨ d % 5 = 4) with h | h | h | h | h <;> rw [h]
      · exact ⟨.whole, _, rfl, .str _, fun z hz => (by cases hz), trivial⟩
      · exact ⟨.truth, _, rfl, .str _, fun z hz => (by cases hz), trivial⟩
      · exact ⟨.text, _, rfl, .str _, fun z hz => (by cases hz), trivial⟩
      · exact ⟨.text, _, rfl, .str _, fun z hz => (by cases hz), trivial⟩
      · exact ⟨.whole, _, rfl, .str _, fun z hz => (by cases hz), trivial⟩
    refine ⟨_, rfl, _, _, rfl, rfl, (by show (0 : Int) < 5; decide), t1, _, _, _, rfl, rfl, SqL.of e2, ev0, ?_⟩
    try dsimp only [List.set_cons_succ, List.set_cons_zero]
    have h2m := K2 _ _ nmb hm
    have h2f := K2 _ _ nfb hf
    -- a choice
    refine ⟨fun σ H' => ∃ (v : V) (k : Kb), σ = [some (.ref b), some (.ref lm), some (.ref lf), some (.int d), some v] ∧ Tp H' v k.d ∧ KnQ ms fs (.one k) ∧ Kp b H H' ∧ Bag H' b (n + 3), ?_, ?_⟩
    · refine ⟨_, rfl, (by show 2 ≤ sizeLine; decide), fun t3 ht3 => ?_⟩
      have S3 := Same.new (H := H2) (o := .tup [.int 5, .int 6]) ht3
      have e3 : (upd H2 t3 (.tup [.int 5, .int 6])) t3 = some (.tup [.int 5, .int 6]) := upd_same
      generalize (upd H2 t3 (.tup [.int 5, .int 6])) = H3 at *
      refine ⟨t3, _, rfl, .inr (SqT.of e3), rfl, rfl, _, rfl, ite2 (fun _ => ?_) (fun _ => ?_)⟩
      · refine ⟨_, rfl, _, rfl, b, lm, ms, "menu", n + 1, rfl, b2.same S3, by omega, S3 _ _ h2m, l1, fun z H4 hz k4 b4 => ?_⟩
        refine ⟨(by show 2 ≤ sizeLine; decide), fun t5 ht5 => ?_⟩
        refine ⟨_, .ch z, rfl, .tup upd_same (.cons (.str _) (.cons (.str _) .nil)), ⟨fun y hy => ?_, hz⟩, ((K2.same S3).trans k4).new ht5, (b4.new ht5).mono (by omega)⟩
        cases hy
        rcases hz with h | h
        · exact nm z h
        · rw [h]; exact nmM
      · exact ⟨v0, kb0, rfl, Tp.keep (Same.tk S3) _ _ tv0, nm0, K2.same S3, (b2.same S3).mono (by omega)⟩
    rintro σ H5 ⟨v5, k5, rfl, tv5, nm5, K5, b5⟩
    have h5f := K5 _ _ nfb hf
    -- a record
    refine ⟨fun σ H' => ∃ (v : V) (k : Kb), σ = [some (.ref b), some (.ref lm), some (.ref lf), some (.int d), some v] ∧ Tp H' v k.d ∧ KnQ ms fs (.one k) ∧ Kp b H H' ∧ Bag H' b (n + 5), ?_, ?_⟩
    · refine ⟨_, rfl, (by show 2 ≤ sizeLine; decide), fun t3 ht3 => ?_⟩
      have S3 := Same.new (H := H5) (o := .tup [.int 7, .int 8]) ht3
      have e3 : (upd H5 t3 (.tup [.int 7, .int 8])) t3 = some (.tup [.int 7, .int 8]) := upd_same
      generalize (upd H5 t3 (.tup [.int 7, .int 8])) = H6 at *
      refine ⟨t3, _, rfl, .inr (SqT.of e3), rfl, rfl, _, rfl, ite2 (fun _ => ?_) (fun _ => ?_)⟩
      · refine ⟨_, rfl, _, rfl, b, lf, fs, "form", n + 3, rfl, b5.same S3, by omega, S3 _ _ h5f, l2, fun z H7 hz k7 b7 => ?_⟩
        refine ⟨(by show 2 ≤ sizeLine; decide), fun t5 ht5 => ?_⟩
        refine ⟨_, .rc z, rfl, .tup upd_same (.cons (.str _) (.cons (.str _) .nil)), ⟨fun y hy => ?_, hz⟩, ((K5.same S3).trans k7).new ht5, (b7.new ht5).mono (by omega)⟩
        cases hy
        rcases hz with h | h
        · exact nf z h
        · rw [h]; exact nmF
      · exact ⟨v5, k5, rfl, Tp.keep (Same.tk S3) _ _ tv5, nm5, K5.same S3, (b5.same S3).mono (by omega)⟩
    rintro σ H8 ⟨v8, k8, rfl, tv8, nm8, K8, b8⟩
    try dsimp only [List.set_cons_succ, List.set_cons_zero]
    refine ⟨_, rfl, _, rfl, _, rfl, (by show 2 ≤ sizeLine; decide), fun t9 ht9 => ⟨(by show 3 ≤ sizeLine; decide), fun tA htA => ?_⟩⟩
    have S9 := Same.new (H := H8) (o := .tup [.str "list", v8]) ht9
    have d9 : Tp (upd H8 t9 (.tup [.str "list", v8])) (.ref t9) (Kn.lst k8).d := .tup upd_same (.cons (.str _) (.cons (Tp.keep (Same.tk S9) _ _ tv8) .nil))
    have b9 := b8.same S9
    have K9 := K8.same S9
    have tv9 := Tp.keep (Same.tk S9) _ _ tv8
    generalize (upd H8 t9 (.tup [.str "list", v8])) = H9 at *
    have SA := Same.new (H := H9) (o := .lst [v8, v8, .ref t9]) htA
    have eA : (upd H9 tA (.lst [v8, v8, .ref t9])) tA = some (.lst [v8, v8, .ref t9]) := upd_same
    have nA : tA ≠ b := new_ne htA b9
    generalize (upd H9 tA (.lst [v8, v8, .ref t9])) = HA at *
    refine ⟨_, rfl, b, 3, _, rfl, by decide, by decide, b9.same SA, by omega, fun e HB e0 e1 kB bB => ?_⟩
    have TB : Tk H9 HB := (Same.tk SA).trans (kB.tk (b9.same SA))
    have KB := (K9.same SA).trans kB
    rcases (by omega : e = 0 ∨ e = 1 ∨ e = 2) with rfl | rfl | rfl
    · exact ⟨tA, _, _, _, rfl, rfl, SqL.of (kB _ _ nA eA), rfl, q _ (.one k8) HB (Tp.keep TB _ _ tv9) nm8 KB bB⟩
    · exact ⟨tA, _, _, _, rfl, rfl, SqL.of (kB _ _ nA eA), rfl, q _ (.one k8) HB (Tp.keep TB _ _ tv9) nm8 KB bB⟩
    · exact ⟨tA, _, _, _, rfl, rfl, SqL.of (kB _ _ nA eA), rfl, q _ (.lst k8) HB (Tp.keep TB _ _ d9) ⟨fun z hz => nm8.1 z (by cases k8 <;> exact hz), nm8.2⟩ KB bB⟩
end
end Fh

set_option Elab.async false
set_option linter.all false
set_option maxRecDepth 100000
set_option maxHeartbeats 4000000
namespace Fh
open PySem L2 PyProof.Rows
/-! ### unlike names -/
abbrev sUlk : Stmt := top 44
abbrev nUlk : List Str := ["_law_bag_here", "_law_size", "_law_few", "_law_spot"]
def spUlk : Sp := fun vs H Q _ => ∃ (b : Addr) (size n : Nat), vs = [.ref b, .int size] ∧ Bag H b n ∧ size ≤ 7 ∧ n + 300 ≤ most ∧
  ∀ (p : Addr) (zs : List Str) (H' : Hp), H p = none → H' p = some (.lst (zs.map V.str)) → zs.length = size → zs.Nodup → (∀ z ∈ zs, Nm z) → Kp b H H' → Bag H' b (n + 130) → Q (.ref p) H'
def fewL : List Str := ["a", "b", "c", "id", "sum", "who", "note", "longname"]
theorem nm_lit {z : Str} (h1 : (decide (1 ≤ z.length) && decide (z.length ≤ 8) && z.cps.toList.all fun c => decide (97 ≤ c) && decide (c ≤ 122)) = true) : Nm z := by
  rw [Bool.and_eq_true, Bool.and_eq_true] at h1
  refine ⟨of_decide_eq_true h1.1.1, of_decide_eq_true h1.1.2, fun c hc => ?_⟩
  have := List.all_eq_true.mp h1.2 c hc
  rw [Bool.and_eq_true] at this
  exact ⟨of_decide_eq_true this.1, of_decide_eq_true this.2⟩
theorem few_nm : ∀ z ∈ fewL, Nm z := fun z hz => by
  unfold fewL at hz
  simp only [List.mem_cons, List.not_mem_nil, or_false] at hz
  rcases hz with rfl | rfl | rfl | rfl | rfl | rfl | rfl | rfl <;> exact nm_lit (by decide +kernel)
theorem few_nd : fewL.Nodup := by decide +kernel
theorem ix_at {y : Int} {n : Nat} (h0 : 0 ≤ y) (h1 : y < (n : Int)) : seqIndex? y n = some y.toNat := by
  unfold seqIndex?
  have a : ¬ y < 0 := by omega
  simp only [if_neg a]
  rw [if_pos]
  simp [h0, h1]
def rLenQ (K : PySem.W.Frag) : List V → Hp → VK → Prop := fun xs H Q => ∃ (p : Addr) (ys : List V), xs = [V.ref p] ∧ (SqL K H p ys ∨ SqT K H p ys) ∧ Q (V.int ys.length) H
theorem map_eraseQ {α β : Type} (f : α → β) : ∀ (l : List α) (k : Nat), (l.eraseIdx k).map f = (l.map f).eraseIdx k
  | [], _ => rfl
  | _ :: _, 0 => rfl
  | x :: l, k + 1 => by
    show f x :: (l.eraseIdx k).map f = f x :: (l.map f).eraseIdx k
    rw [map_eraseQ f l k]
theorem erase_perm {α : Type} : ∀ {l : List α} {k : Nat} {z : α}, l[k]? = some z → (z :: l.eraseIdx k).Perm l
  | [], _, _, h => by cases h
  | x :: l, 0, z, h => by
    cases h
    exact .refl _
  | x :: l, k + 1, z, h => (List.Perm.swap x z (l.eraseIdx k)).trans ((erase_perm (l := l) (k := k) h).cons x)
section
variable {P : Program} {w : World} {K : PySem.W.Frag} {mg : Str → Option Value} {base : Heap}
theorem scUlk : FnScope nUlk ["_law_bag_here", "_law_size"] (defScope sUlk) := ⟨rfl, rfl, rfl, by decide +kernel, rfl, by decide +kernel, by decide +kernel⟩
theorem ok_ulk {f : Addr} {fd : FuncData} (F : Fun K "_law_unlike" "_law_unlike" sUlk f fd) (G : Glb mg) (DT : Has P w K mg base "_law_take" 1 ["_law_bag_here", "_law_size"] spTake) (DN : Has P w K mg base "_law_unlike_names" 3 ["_law_bag_here", "_law_size", "_law_taken"] spUnlikeN) : FnOk P w K mg base CX0 4 f fd ["_law_bag_here", "_law_size"] spUlk := by
  refine F.ok scUlk (fun vs H Q E h => ?_) (fun cdv A outer s H vs Q E hr h => ?_)
  · obtain ⟨b, size, n, rfl, _⟩ := h
    rfl
  · obtain ⟨b, size, n, rfl, hB, hs, hn, q⟩ := h
    have hmost : most = 1000000 := rfl
    refine ⟨_, (pss_cons (ps_set (i := 2) scUlk.nd rfl (Or.inr rfl) (pe_lst (pa_cons pe_str (pa_cons pe_str (pa_cons pe_str (pa_cons pe_str (pa_cons pe_str (pa_cons pe_str (pa_cons pe_str (pa_cons pe_str pa_nil))))))))))
      (pss_cons (ps_if (pt_cmpR op_eq (pe_has DT (hr.mono (by omega)) rfl (pa_cons (pv 0) (pa_cons pe_int pa_nil))) pe_int (nomark _))
      (pss_one (ps_ret (pe_has DN (hr.mono (by omega)) rfl (pa_cons (pv 0) (pa_cons (pv 1) (pa_cons (pe_lst pa_nil) pa_nil))))))
      pss_nil)
      (pss_one (ps_ret (pe_lc (own := [("_law_spot", 3)]) (g := (gName 3)) (tt := tYes) (te := tBM K "list" rPopAt (tVar 2) (tCons (tCall spTake [] E0 (tCons (tVar 0) (tCons (tCB (rLenQ K) (tCons (tVar 2) tNil)) tNil))) tNil)) rfl scUlk.nd (pi_range1 rfl G.range (pa_cons (pv 1) pa_nil)) (blkOk_by (N := nUlk) (sc := defScope sUlk) (by decide +kernel)) (fun _ _ _ _ _ => (pg_name (i := 3) scUlk.nd rfl (Or.inl rfl))) (fun _ _ _ _ _ => pts_nil) (fun _ _ _ _ _ => (pe_bm PySem.F.plainAttrs_list PySem.F.slot_list_pop PySem.F.type_list_pop mt_popAt (pv 2) (pa_cons (pe_has DT (hr.mono (by omega)) rfl (pa_cons (pv 0) (pa_cons (pe_callB call_len_seq (by rfl) G.len (by decide +kernel) (pa_cons (pv 2) pa_nil)) pa_nil))) pa_nil)))))))), ?_⟩
    refine ⟨(by show 8 ≤ sizeLine; decide), fun L hL => ?_⟩
    have S1 := Same.new (H := H) (o := .lst (fewL.map V.str)) hL
    have e1 : (upd H L (.lst (fewL.map V.str))) L = some (.lst (fewL.map V.str)) := upd_same
    have nLb : L ≠ b := new_ne hL hB
    have b1 := hB.same S1
    show _
    generalize hH1 : (upd H L (.lst (fewL.map V.str))) = H1 at *
    have goal1 : H1 = (upd H L (.lst [.str "a", .str "b", .str "c", .str "id", .str "sum", .str "who", .str "note", .str "longname"])) := hH1.symm
    rw [← goal1]
    try dsimp only [List.set_cons_succ, List.set_cons_zero]
    refine ⟨_, rfl, b, 3, n, rfl, by decide, by decide, b1, by omega, fun d H2 d0 d1 k2 b2 => ⟨rfl, _, rfl, ite2 (fun _ => ?_) (fun _ => ?_)⟩⟩
    · refine ⟨_, rfl, _, rfl, Nat.zero_le _, fun E3 hE3 => ?_⟩
      have S3 := Same.new (H := H2) (o := .lst []) hE3
      have e3 : (upd H2 E3 (.lst [])) E3 = some (.lst (([] : List Str).map V.str)) := upd_same
      refine ⟨b, E3, size, [], n + 1, rfl, b2.same S3, by omega, by omega, e3, by decide, by omega, fun p zs H4 hp h4 lz nd nm k4 b4 => ?_⟩
      have K2 : Kp b H H2 := (Kp.refl.same S1).trans k2
      exact q p zs H4 ((K2.same S3).free (b2.same S3).at hp) h4 (by omega) nd (fun z hz => (nm z hz).1) ((K2.same S3).trans k4) (b4.mono (by omega))
    · have h2L := k2 _ _ nLb e1
      have K2 : Kp b H H2 := (Kp.refl.same S1).trans k2
      refine ⟨_, rfl, (size : Int), rfl, by omega, by omega, fun D hD => ?_⟩
      have nDb : D ≠ b := new_ne hD b2
      have nDL : D ≠ L := fun e => by rw [e, h2L] at hD; cases hD
      refine lc_range (lo := 0) (n := size) (fun i H3 => Kp b H H3 ∧ Bag H3 b (n + 1 + i) ∧ ∃ zs rest : List Str, H3 D = some (.lst (zs.map V.str)) ∧ H3 L = some (.lst (rest.map V.str)) ∧ zs.length = i ∧ (zs ++ rest).Perm fewL) ?_ ?_ ?_
      · exact ⟨K2.new hD, b2.new hD, [], fewL, upd_same, by rw [upd_ne (Ne.symm nDL)]; exact h2L, rfl, .refl _⟩
      · rintro i H3 hi ⟨K3, b3, zs, rest, h3D, h3L, lz, pm⟩
        have lr : rest.length = 8 - i := by
          have := pm.length_eq
          rw [List.length_append] at this
          have : zs.length + rest.length = 8 := this
          omega
        refine ⟨rfl, yes (iteT ?_)⟩
        try dsimp only [List.set_cons_succ, List.set_cons_zero]
        refine ⟨_, rfl, .inl ⟨rfl, _, SqL.of h3L⟩, ?_⟩
        refine ⟨_, rfl, _, rfl, L, _, rfl, .inl (SqL.of h3L), b, _, _, rfl, (by rw [List.length_map]; omega), (by rw [List.length_map]; omega), b3, by omega, fun e H4 e0 e1 k4 b4 => ?_⟩
        have h4L := k4 _ _ nLb h3L
        have h4D := k4 _ _ nDb h3D
        obtain ⟨v, ev, ev2, _⟩ := atI_in (xs := rest.map V.str) e0 e1
        have ev3 := ev2
        rw [List.getElem?_map] at ev3
        cases hz : rest[e.toNat]? with
        | none => rw [hz] at ev3; cases ev3
        | some z =>
          rw [hz] at ev3
          cases ev3
          refine ⟨L, _, e, e.toNat, _, rfl, rfl, h4L, by omega, (by rw [List.length_map] at e1; omega), ix_at e0 e1, ev2, ?_⟩
          have eL : (upd H4 L (.lst ((rest.map V.str).eraseIdx e.toNat))) D = some (.lst (zs.map V.str)) := by rw [upd_ne nDL]; exact h4D
          refine ⟨_, eL, ?_, ?_⟩
          · rw [List.length_map]
            exact Nat.lt_of_le_of_lt (show _ ≤ 8 by omega) (by decide)
          have K4 := K3.trans k4
          have L0 : H L = none := hL
          refine ⟨(K4.wr L0).wr (K2.free b2.at hD), ((b4.ne nLb).ne nDb).mono (by omega), zs ++ [z], rest.eraseIdx e.toNat, by rw [upd_same, List.map_append]; rfl, ?_, by rw [List.length_append, lz]; rfl, ?_⟩
          · rw [upd_ne (Ne.symm nDL), upd_same, map_eraseQ]
          · rw [List.append_assoc]
            exact ((erase_perm hz).append_left zs).trans pm
      · rintro H3 ⟨K3, b3, zs, rest, h3D, h3L, lz, pm⟩
        refine q D zs H3 (K2.free b2.at hD) h3D lz ?_ (fun z hz => few_nm z (pm.mem_iff.mp (List.mem_append_left _ hz))) K3 (b3.mono (by omega))
        have := (pm.nodup_iff).mpr few_nd
        exact (List.nodup_append.mp this).1
end
end Fh

set_option Elab.async false
set_option linter.all false
set_option maxRecDepth 100000
set_option maxHeartbeats 4000000
namespace Fh
open PySem L2 PyProof.Rows
/-! ### a deed drawn -/
def six : List Str := ["take", "add", "tell", "copy", "ask", "get"]
abbrev sDed : Stmt := top 45
abbrev nDed : List Str := ["_law_bag_here", "_law_own", "_law_ins", "_law_outs", "_law_way"]
abbrev pDed : List Str := ["_law_bag_here", "_law_own", "_law_ins", "_law_outs"]
/-- what the names in a deed are names of -/
def DdIn (is os : List Str) : List Str → Prop
  | a :: b :: c :: _ => ((a = "take" ∨ a = "add") → InP is "in" b ∧ InP is "in" c) ∧ ((a = "tell" ∨ a = "copy") → InP os "out" b ∧ InP is "in" c) ∧ (a = "get" → InP os "out" b)
  | _ => True
def spDed : Sp := fun vs H Q _ => ∃ (b li lo : Addr) (own : Str) (is os : List Str) (n : Nat), vs = [.ref b, .str own, .ref li, .ref lo] ∧ Bag H b n ∧ n + 40 ≤ most ∧ Nm own ∧ H li = some (.lst (is.map V.str)) ∧ H lo = some (.lst (os.map V.str)) ∧ is.length ≤ 100 ∧ os.length ≤ 100 ∧ (∀ z ∈ is, Nm z) ∧ (∀ z ∈ os, Nm z) ∧
  ∀ (t : Addr) (d : List Str) (H' : Hp), H' t = some (.tup (d.map V.str)) → 3 ≤ d.length → d.length ≤ 4 → d.headD "" ∈ six → (∀ z ∈ d, Nm z) → DdIn is os d → Kp b H H' → Bag H' b (n + 20) → Q (.ref t) H'
theorem eqS {x y : Str} (h : decide (V.str x = V.str y) = true) : x = y := by
  have e := of_decide_eq_true h
  injection e
theorem neS {x y : Str} (h : ¬ (decide (V.str x = V.str y) = true)) : x ≠ y := fun e => h (by rw [e]; exact decide_eq_true rfl)
theorem dd_in {is os : List Str} {wy x y : Str} {r : List Str} (e : wy = "take") (h1 : InP is "in" x) (h2 : InP is "in" y) : DdIn is os (wy :: x :: y :: r) := by
  subst e
  exact ⟨fun _ => ⟨h1, h2⟩, fun h => by rcases h with h | h <;> exact absurd h (by decide +kernel), fun h => absurd h (by decide +kernel)⟩
theorem dd_in2 {is os : List Str} {wy x y : Str} {r : List Str} (e : wy = "add") (h1 : InP is "in" x) (h2 : InP is "in" y) : DdIn is os (wy :: x :: y :: r) := by
  subst e
  exact ⟨fun _ => ⟨h1, h2⟩, fun h => by rcases h with h | h <;> exact absurd h (by decide +kernel), fun h => absurd h (by decide +kernel)⟩
theorem dd_ask {is os : List Str} {wy x y : Str} {r : List Str} (e : wy = "ask") : DdIn is os (wy :: x :: y :: r) := by
  subst e
  exact ⟨fun h => by rcases h with h | h <;> exact absurd h (by decide +kernel), fun h => by rcases h with h | h <;> exact absurd h (by decide +kernel), fun h => absurd h (by decide +kernel)⟩
theorem dd_out {is os : List Str} {wy x y : Str} {r : List Str} (e1 : wy ≠ "take") (e2 : wy ≠ "add") (h1 : InP os "out" x) (h2 : wy ≠ "get" → InP is "in" y) : DdIn is os (wy :: x :: y :: r) :=
  ⟨fun h => h.elim (fun h => absurd h e1) (fun h => absurd h e2), fun h => ⟨h1, h2 (fun e => by rcases h with h | h <;> (rw [e] at h; exact absurd h (by decide +kernel)))⟩, fun _ => h1⟩
section
variable {P : Program} {w : World} {K : PySem.W.Frag} {mg : Str → Option Value} {base : Heap}
theorem scDed : FnScope nDed pDed (defScope sDed) := ⟨rfl, rfl, rfl, by decide +kernel, rfl, by decide +kernel, by decide +kernel⟩
theorem ok_ded {f : Addr} {fd : FuncData} (F : Fun K "_law_deed_drawn" "_law_deed_drawn" sDed f fd) (G : Glb mg) (DT : Has P w K mg base "_law_take" 1 ["_law_bag_here", "_law_size"] spTake) (DP : Has P w K mg base "_law_pick" 2 pPik spPik) (DN : Has P w K mg base "_law_drawn_name" 2 ["_law_bag_here"] spName) : FnOk P w K mg base CX0 3 f fd pDed spDed := by
  refine F.ok scDed (fun vs H Q E h => ?_) (fun cdv A outer s H vs Q E hr h => ?_)
  · obtain ⟨b, li, lo, own, is, os, n, rfl, _⟩ := h
    rfl
  · obtain ⟨b, li, lo, own, is, os, n, rfl, hB, hn, no, hi, ho, l1, l2, ni, nos, q⟩ := h
    have hmost : most = 1000000 := rfl
    refine ⟨_, (pss_cons (ps_set (i := 4) scDed.nd rfl (Or.inl rfl) (pe_ix ix_list (pe_lst (pa_cons pe_str (pa_cons pe_str (pa_cons pe_str (pa_cons pe_str (pa_cons pe_str (pa_cons pe_str (pa_cons pe_str (pa_cons pe_str pa_nil))))))))) (pe_has DT (hr.mono (by omega)) rfl (pa_cons (pv 0) (pa_cons pe_int pa_nil))) (fun _ _ => rfl)))
      (pss_cons (ps_if (pt_cmpR op_eq (pv 4) pe_str (nomark _))
      (pss_one (ps_ret (pe_tup (pa_cons (pv 4) (pa_cons (pe_has DP (hr.mono (by omega)) rfl (pa_cons (pv 0) (pa_cons (pv 2) (pa_cons pe_str pa_nil)))) (pa_cons (pe_has DP (hr.mono (by omega)) rfl (pa_cons (pv 0) (pa_cons (pv 2) (pa_cons pe_str pa_nil)))) (pa_cons (pe_has DN (hr.mono (by omega)) rfl (pa_cons (pv 0) pa_nil)) pa_nil)))))))
      pss_nil)
      (pss_cons (ps_if (pt_cmpR op_eq (pv 4) pe_str (nomark _))
      (pss_one (ps_ret (pe_tup (pa_cons (pv 4) (pa_cons (pe_has DP (hr.mono (by omega)) rfl (pa_cons (pv 0) (pa_cons (pv 2) (pa_cons pe_str pa_nil)))) (pa_cons (pe_has DP (hr.mono (by omega)) rfl (pa_cons (pv 0) (pa_cons (pv 2) (pa_cons pe_str pa_nil)))) pa_nil))))))
      pss_nil)
      (pss_cons (ps_if (pt_cmpR op_eq (pv 4) pe_str (nomark _))
      (pss_one (ps_ret (pe_tup (pa_cons (pv 4) (pa_cons (pe_ix ix_list (pe_lst (pa_cons pe_str (pa_cons pe_str (pa_cons pe_str (pa_cons (pv 1) pa_nil))))) (pe_has DT (hr.mono (by omega)) rfl (pa_cons (pv 0) (pa_cons pe_int pa_nil))) (fun _ _ => rfl)) (pa_cons (pe_ix ix_list (pe_lst (pa_cons pe_str (pa_cons pe_str (pa_cons pe_str pa_nil)))) (pe_has DT (hr.mono (by omega)) rfl (pa_cons (pv 0) (pa_cons pe_int pa_nil))) (fun _ _ => rfl)) pa_nil))))))
      pss_nil)
      (pss_one (ps_ret (pe_tup (pa_cons (pv 4) (pa_cons (pe_has DP (hr.mono (by omega)) rfl (pa_cons (pv 0) (pa_cons (pv 3) (pa_cons pe_str pa_nil)))) (pa_cons (pe_has DP (hr.mono (by omega)) rfl (pa_cons (pv 0) (pa_cons (pe_ix ix_list (pe_lst (pa_cons (pv 2) (pa_cons (pv 3) pa_nil))) (pe_callTy call_int1 (by rfl) G.int (by decide +kernel) (pa_cons (pe_cmpR op_eq (pv 4) pe_str (nomark _)) pa_nil)) (fun _ _ => rfl)) (pa_cons pe_str pa_nil)))) pa_nil)))))))))), ?_⟩
    have nib := ls_ne hi hB
    have nob := ls_ne ho hB
    have nIn : Nm "in" := nm_lit (by decide +kernel)
    have nOut : Nm "out" := nm_lit (by decide +kernel)
    refine ⟨(by show 8 ≤ sizeLine; decide), fun t1 ht1 => ?_⟩
    have S1 := Same.new (H := H) (o := .lst [.str "take", .str "add", .str "tell", .str "copy", .str "ask", .str "get", .str "tell", .str "copy"]) ht1
    have e1 : (upd H t1 (.lst [.str "take", .str "add", .str "tell", .str "copy", .str "ask", .str "get", .str "tell", .str "copy"])) t1 = some (.lst [.str "take", .str "add", .str "tell", .str "copy", .str "ask", .str "get", .str "tell", .str "copy"]) := upd_same
    have n1 : t1 ≠ b := new_ne ht1 hB
    generalize (upd H t1 (.lst [.str "take", .str "add", .str "tell", .str "copy", .str "ask", .str "get", .str "tell", .str "copy"])) = H1 at *
    refine ⟨_, rfl, b, 8, n, rfl, by decide, by decide, hB.same S1, by omega, fun d H2 d0 d1 k2 b2 => ?_⟩
    have K2 : Kp b H H2 := (Kp.refl.same S1).trans k2
    obtain ⟨wy, ew, nw, sw⟩ : ∃ wy : Str, atI [V.str "take", .str "add", .str "tell", .str "copy", .str "ask", .str "get", .str "tell", .str "copy"] d = some (.str wy) ∧ Nm wy ∧ wy ∈ six := by
      rcases (by omega : d = 0 ∨ d = 1 ∨ d = 2 ∨ d = 3 ∨ d = 4 ∨ d = 5 ∨ d = 6 ∨ d = 7) with rfl | rfl | rfl | rfl | rfl | rfl | rfl | rfl <;> exact ⟨_, rfl, nm_lit (by decide +kernel), by decide +kernel⟩
    refine ⟨t1, _, _, _, rfl, rfl, SqL.of (k2 _ _ n1 e1), ew, ?_⟩
    try dsimp only [List.set_cons_succ, List.set_cons_zero]
    have h2i := K2 _ _ nib hi
    have h2o := K2 _ _ nob ho
    have orN : ∀ {zs : List Str} {z st : Str}, (∀ y ∈ zs, Nm y) → Nm st → (z ∈ zs ∨ z = st) → Nm z := fun {zs z st} h1 h2 h => by
      rcases h with h | h
      · exact h1 z h
      · rw [h]; exact h2
    refine ⟨_, rfl, rfl, _, rfl, ite2 (fun g1 => ?_) (fun g1 => ?_)⟩
    · refine ⟨_, rfl, _, rfl, _, rfl, b, li, is, "in", n + 1, rfl, b2, by omega, h2i, l1, fun z1 H3 hz1 k3 b3 => ?_⟩
      refine ⟨_, rfl, _, rfl, b, li, is, "in", n + 1 + 2, rfl, b3, by omega, k3 _ _ nib h2i, l1, fun z2 H4 hz2 k4 b4 => ?_⟩
      refine ⟨_, rfl, b, n + 1 + 2 + 2, rfl, b4, by omega, fun z3 H5 nz3 k5 b5 => ⟨(by show 4 ≤ sizeLine; decide), fun t ht => ?_⟩⟩
      refine q t [wy, z1, z2, z3] _ upd_same (by show 3 ≤ 4; decide) (by show 4 ≤ 4; decide) sw (fun z hz => ?_) (dd_in (eqS g1) hz1 hz2) ((((K2.trans k3).trans k4).trans k5).new ht) ((b5.new ht).mono (by omega))
      simp only [List.mem_cons, List.not_mem_nil, or_false] at hz
      rcases hz with rfl | rfl | rfl | rfl
      · exact nw
      · exact orN ni nIn hz1
      · exact orN ni nIn hz2
      · exact nz3
    refine ⟨_, rfl, rfl, _, rfl, ite2 (fun g2 => ?_) (fun g2 => ?_)⟩
    · refine ⟨_, rfl, _, rfl, _, rfl, b, li, is, "in", n + 1, rfl, b2, by omega, h2i, l1, fun z1 H3 hz1 k3 b3 => ?_⟩
      refine ⟨_, rfl, _, rfl, b, li, is, "in", n + 1 + 2, rfl, b3, by omega, k3 _ _ nib h2i, l1, fun z2 H4 hz2 k4 b4 => ⟨(by show 3 ≤ sizeLine; decide), fun t ht => ?_⟩⟩
      refine q t [wy, z1, z2] _ upd_same (by show 3 ≤ 3; decide) (by show 3 ≤ 4; decide) sw (fun z hz => ?_) (dd_in2 (eqS g2) hz1 hz2) (((K2.trans k3).trans k4).new ht) ((b4.new ht).mono (by omega))
      simp only [List.mem_cons, List.not_mem_nil, or_false] at hz
      rcases hz with rfl | rfl | rfl
      · exact nw
      · exact orN ni nIn hz1
      · exact orN ni nIn hz2
    refine ⟨_, rfl, rfl, _, rfl, ite2 (fun g3 => ?_) (fun g3 => ?_)⟩
    · refine ⟨_, rfl, _, rfl, (by show 4 ≤ sizeLine; decide), fun t3 ht3 => ?_⟩
      have S3 := Same.new (H := H2) (o := .lst [.str "bank", .str "shop", .str "till", .str own]) ht3
      have e3 : (upd H2 t3 (.lst [.str "bank", .str "shop", .str "till", .str own])) t3 = some (.lst [.str "bank", .str "shop", .str "till", .str own]) := upd_same
      have n3 : t3 ≠ b := new_ne ht3 b2
      have b3 := b2.same S3
      generalize (upd H2 t3 (.lst [.str "bank", .str "shop", .str "till", .str own])) = H3 at *
      refine ⟨_, rfl, b, 4, _, rfl, by decide, by decide, b3, by omega, fun d4 H4 d40 d41 k4 b4 => ?_⟩
      obtain ⟨z1, ez1, nz1⟩ : ∃ z : Str, atI [V.str "bank", .str "shop", .str "till", .str own] d4 = some (.str z) ∧ Nm z := by
        rcases (by omega : d4 = 0 ∨ d4 = 1 ∨ d4 = 2 ∨ d4 = 3) with rfl | rfl | rfl | rfl
        · exact ⟨_, rfl, nm_lit (by decide +kernel)⟩
        · exact ⟨_, rfl, nm_lit (by decide +kernel)⟩
        · exact ⟨_, rfl, nm_lit (by decide +kernel)⟩
        · exact ⟨_, rfl, no⟩
      refine ⟨t3, _, _, _, rfl, rfl, SqL.of (k4 _ _ n3 e3), ez1, (by show 3 ≤ sizeLine; decide), fun t5 ht5 => ?_⟩
      have S5 := Same.new (H := H4) (o := .lst [.str "pay", .str "see", .str "a"]) ht5
      have e5 : (upd H4 t5 (.lst [.str "pay", .str "see", .str "a"])) t5 = some (.lst [.str "pay", .str "see", .str "a"]) := upd_same
      have n5 : t5 ≠ b := new_ne ht5 b4
      have b5 := b4.same S5
      generalize (upd H4 t5 (.lst [.str "pay", .str "see", .str "a"])) = H5 at *
      refine ⟨_, rfl, b, 3, _, rfl, by decide, by decide, b5, by omega, fun d6 H6 d60 d61 k6 b6 => ?_⟩
      obtain ⟨z2, ez2, nz2⟩ : ∃ z : Str, atI [V.str "pay", .str "see", .str "a"] d6 = some (.str z) ∧ Nm z := by
        rcases (by omega : d6 = 0 ∨ d6 = 1 ∨ d6 = 2) with rfl | rfl | rfl <;> exact ⟨_, rfl, nm_lit (by decide +kernel)⟩
      refine ⟨t5, _, _, _, rfl, rfl, SqL.of (k6 _ _ n5 e5), ez2, (by show 3 ≤ sizeLine; decide), fun t ht => ?_⟩
      refine q t [wy, z1, z2] _ upd_same (by show 3 ≤ 3; decide) (by show 3 ≤ 4; decide) sw (fun z hz => ?_) (dd_ask (eqS g3)) ((((K2.same S3).trans k4).same S5 |>.trans k6).new ht) ((b6.new ht).mono (by omega))
      simp only [List.mem_cons, List.not_mem_nil, or_false] at hz
      rcases hz with rfl | rfl | rfl
      · exact nw
      · exact nz1
      · exact nz2
    · refine ⟨_, rfl, _, rfl, _, rfl, b, lo, os, "out", n + 1, rfl, b2, by omega, h2o, l2, fun z1 H3 hz1 k3 b3 => ?_⟩
      have K3 := K2.trans k3
      refine ⟨_, rfl, _, rfl, _, rfl, (by show 2 ≤ sizeLine; decide), fun t4 ht4 => ?_⟩
      have S4 := Same.new (H := H3) (o := .lst [.ref li, .ref lo]) ht4
      have e4 : (upd H3 t4 (.lst [.ref li, .ref lo])) t4 = some (.lst [.ref li, .ref lo]) := upd_same
      have b4 := b3.same S4
      have K4 := K3.same S4
      generalize (upd H3 t4 (.lst [.ref li, .ref lo])) = H4 at *
      refine ⟨_, rfl, rfl, .inr ⟨_, rfl, ?_⟩⟩
      have fin : ∀ (z2 : Str) (H' : Hp), Nm z2 → (wy ≠ "get" → InP is "in" z2) → Kp b H H' → Bag H' b (n + 1 + 2 + 2) → 3 ≤ sizeLine ∧ ∀ p, H' p = none → Q (.ref p) (upd H' p (.tup [.str wy, .str z1, .str z2])) := fun z2 H' nz2 hz2 k' b' => ⟨(by decide), fun t ht => q t [wy, z1, z2] _ upd_same (by show 3 ≤ 3; decide) (by show 3 ≤ 4; decide) sw (fun z hz => by
        simp only [List.mem_cons, List.not_mem_nil, or_false] at hz
        rcases hz with rfl | rfl | rfl
        · exact nw
        · exact orN nos nOut hz1
        · exact nz2) (dd_out (neS g1) (neS g2) hz1 hz2) (k'.new ht) ((b'.new ht).mono (by omega))⟩
      cases hg : decide (V.str wy = V.str "get") with
      | true => exact ⟨t4, _, _, _, rfl, rfl, SqL.of e4, rfl, b, lo, os, "in", n + 1 + 2, rfl, b4, by omega, K4 _ _ nob ho, l2, fun z H' hz k5 b5 => fin z H' (orN nos nIn hz) (fun h => absurd (eqS hg) h) (K4.trans k5) b5⟩
      | false => exact ⟨t4, _, _, _, rfl, rfl, SqL.of e4, rfl, b, li, is, "in", n + 1 + 2, rfl, b4, by omega, K4 _ _ nib hi, l1, fun z H' hz k5 b5 => fin z H' (orN ni nIn hz) (fun _ => hz) (K4.trans k5) b5⟩
end
end Fh

set_option Elab.async false
set_option linter.all false
set_option maxRecDepth 100000
set_option maxHeartbeats 4000000
namespace Fh
open PySem L2 PyProof.Rows
/-! ### fields drawn -/
theorem nm_shQ {z : Str} (h : Nm z) : Sh 0 (.str z) := ⟨strOk_of fun c hc => by have := h.sg c hc; unfold Lt at this; omega, Nat.le_refl _⟩
theorem kb_shQ {k : Kb} (h : ∀ z, (Kn.one k).nm = some z → Nm z) : Sh 1 k.d := by
  cases k with
  | whole => exact ⟨by decide +kernel, by decide +kernel⟩
  | truth => exact ⟨by decide +kernel, by decide +kernel⟩
  | text => exact ⟨by decide +kernel, by decide +kernel⟩
  | rc z =>
    refine Sh.tup fun d hd => ?_
    rcases List.mem_cons.mp hd with e | hd
    · rw [e]; exact ⟨by decide +kernel, Nat.zero_le _⟩
    · rw [List.mem_singleton.mp hd]; exact nm_shQ (h z rfl)
  | ch z =>
    refine Sh.tup fun d hd => ?_
    rcases List.mem_cons.mp hd with e | hd
    · rw [e]; exact ⟨by decide +kernel, Nat.zero_le _⟩
    · rw [List.mem_singleton.mp hd]; exact nm_shQ (h z rfl)
theorem kn_shQ {k : Kn} (h : ∀ z, k.nm = some z → Nm z) : SeqAt.shaped k.d = true := by
  cases k with
  | one b => exact (kb_shQ h).shaped (by decide)
  | lst b =>
    have hb : Sh 1 b.d := kb_shQ (k := b) fun z hz => h z hz
    refine (Sh.tup (n := 1) fun d hd => ?_).shaped (by decide)
    rcases List.mem_cons.mp hd with e | hd
    · rw [e]; exact ⟨by decide +kernel, Nat.zero_le _⟩
    · rw [List.mem_singleton.mp hd]; exact hb
/-- fields as they are drawn, or changed -/
structure FlW (fl : List Fl) : Prop where
  l5 : fl.length ≤ 5
  nd : (fl.map Fl.nam).Nodup
  nm : ∀ f ∈ fl, Nm f.nam
  nk : ∀ f ∈ fl, ∀ z, f.kd.nm = some z → Nm z
  rise : (fl.map Fl.num).Pairwise (· < ·)
  rg : ∀ f ∈ fl, 1 ≤ f.num ∧ f.num ≤ 30
theorem FlW.ok {fl : List Fl} (h : FlW fl) : FOkR fl := ⟨h.nd, Nat.le_trans h.l5 (by decide), fun f hf => kn_shQ (h.nk f hf), fun f hf => nm_shQ (h.nm f hf)⟩
structure RecsW (recs : List Rec) : Prop where
  l6 : recs.length ≤ 6
  nd : (recs.map (·.1)).Nodup
  nm : ∀ r ∈ recs, Nm r.1
  fl : ∀ r ∈ recs, FlW r.2
theorem RecsW.ok {recs : List Rec} (h : RecsW recs) : RecsOk recs := ⟨h.l6, fun r hr => (h.fl r hr).l5⟩
theorem flw_nil : FlW [] := ⟨by decide, List.nodup_nil, (fun f h => by cases h), (fun f h => by cases h), List.Pairwise.nil, fun f h => by cases h⟩
theorem RecsW.at {recs : List Rec} (h : RecsW recs) (z : Str) : FlW (flO recs z) := by
  rcases flO_mem (recs := recs) (z := z) with e | ⟨r, hr, e⟩
  · rw [e]; exact flw_nil
  · rw [e]; exact h.fl r hr
abbrev sFrm : Stmt := top 43
abbrev nFrm : List Str := ["_law_bag_here", "_law_menus", "_law_forms", "_law_size", "_law_marks", "_law_found", "_law_mark", "_law_word"]
def spFrm : Sp := fun vs H Q _ => ∃ (b lm lf : Addr) (ms fs : List Str) (n : Nat), vs = [.ref b, .ref lm, .ref lf] ∧ Bag H b n ∧ n + 600 ≤ most ∧ H lm = some (.lst (ms.map V.str)) ∧ H lf = some (.lst (fs.map V.str)) ∧ ms.length ≤ 100 ∧ fs.length ≤ 100 ∧ (∀ z ∈ ms, Nm z) ∧ (∀ z ∈ fs, Nm z) ∧
  ∀ (v : V) (fl : List Fl) (H' : Hp), Tp H' v (.tuple (fl.map Fl.d)) → FlW fl → (∀ f ∈ fl, KnIn ms fs f.kd) → Kp b H H' → Bag H' b (n + 300) → Q v H'
section
variable {P : Program} {w : World} {K : PySem.W.Frag} {mg : Str → Option Value} {base : Heap}
theorem scFrm : FnScope nFrm pKnd (defScope sFrm) := ⟨rfl, rfl, rfl, by decide +kernel, rfl, by decide +kernel, by decide +kernel⟩
theorem ok_frm {f : Addr} {fd : FuncData} (F : Fun K "_law_form_drawn" "_law_form_drawn" sFrm f fd) (G : Glb mg) (gz : mg "zip" = none) (DT : Has P w K mg base "_law_take" 1 ["_law_bag_here", "_law_size"] spTake) (DR : Has P w K mg base "_law_rising" 2 ["_law_bag_here", "_law_size", "_law_most"] spRis) (DU : Has P w K mg base "_law_unlike" 4 ["_law_bag_here", "_law_size"] spUlk) (DK : Has P w K mg base "_law_kind_drawn" 3 pKnd spKnd) : FnOk P w K mg base CX0 5 f fd pKnd spFrm := by
  refine F.ok scFrm (fun vs H Q E h => ?_) (fun cdv A outer s H vs Q E hr h => ?_)
  · obtain ⟨b, lm, lf, ms, fs, n, rfl, _⟩ := h
    rfl
  · obtain ⟨b, lm, lf, ms, fs, n, rfl, hB, hn, hm, hf, l1, l2, nm, nf, q⟩ := h
    have hmost : most = 1000000 := rfl
    refine ⟨_, (pss_cons (ps_set (i := 3) scFrm.nd rfl (Or.inl rfl) (pe_has DT (hr.mono (by omega)) rfl (pa_cons (pv 0) (pa_cons pe_int pa_nil))))
      (pss_cons (ps_par (i := 4) (j := 5) rfl scFrm.nd rfl rfl (by decide) rfl rfl (pa_cons (pe_has DR (hr.mono (by omega)) rfl (pa_cons (pv 0) (pa_cons (pv 3) (pa_cons pe_int pa_nil)))) (pa_cons (pe_lst pa_nil) pa_nil)) (by rfl))
      (pss_cons (ps_for PassesOwn.never rfl (pi_zip rfl gz (pa_cons (pv 4) (pa_cons (pe_has DU (hr.mono (by omega)) rfl (pa_cons (pv 0) (pa_cons (pv 3) pa_nil))) pa_nil))) (pg_tup rfl (pgs_cons (pg_name (i := 6) scFrm.nd rfl (Or.inl rfl)) (pgs_cons (pg_name (i := 7) scFrm.nd rfl (Or.inl rfl)) pgs_nil)))
      (pss_one (ps_expr (pe_bm PySem.F.plainAttrs_list PySem.F.slot_list_append PySem.F.type_list_append mt_append (pv 5) (pa_cons (pe_tup (pa_cons (pv 6) (pa_cons (pv 7) (pa_cons (pe_has DK (hr.mono (by omega)) rfl (pa_cons (pv 0) (pa_cons (pv 1) (pa_cons (pv 2) pa_nil)))) (pa_cons (pe_ix ix_list (pe_lst (pa_cons pe_str (pa_cons pe_str pa_nil))) (pe_has DT (hr.mono (by omega)) rfl (pa_cons (pv 0) (pa_cons pe_int pa_nil))) (fun _ _ => rfl)) pa_nil))))) pa_nil)))))
      (pss_one (ps_ret (pe_callTy call_tuple_of (by rfl) G.tuple (by decide +kernel) (pa_cons (pv 5) pa_nil))))))), ?_⟩
    have nmb := ls_ne hm hB
    have nfb := ls_ne hf hB
    refine ⟨_, rfl, b, 6, n, rfl, by decide, by decide, hB, by omega, fun d H1 d0 d1 k1 b1 => ?_⟩
    obtain ⟨sz, rfl⟩ : ∃ sz : Nat, d = sz := ⟨d.toNat, by omega⟩
    try dsimp only [List.set_cons_succ, List.set_cons_zero]
    refine ⟨_, rfl, _, rfl, b, sz, n + 1, rfl, by omega, b1, by omega, fun p1 ns H2 hp1 h2 ln k2 b2 rise rg => ⟨Nat.zero_le _, fun Fo hFo => ⟨_, _, rfl, ?_⟩⟩⟩
    have S3 := Same.new (H := H2) (o := .lst []) hFo
    have e3 : (upd H2 Fo (.lst [])) Fo = some (.lst []) := upd_same
    have nFb : Fo ≠ b := new_ne hFo b2
    have b3 := b2.same S3
    have K3 : Kp b H (upd H2 Fo (.lst [])) := (k1.trans k2).same S3
    have h3 := S3 _ _ h2
    have np1 : p1 ≠ b := new_ne hp1 b1
    generalize (upd H2 Fo (.lst [])) = H3 at *
    try dsimp only [List.set_cons_succ, List.set_cons_zero]
    refine ⟨_, rfl, _, rfl, _, rfl, b, sz, n + 1 + 40, rfl, b3, by omega, by omega, fun p2 zs H4 hp2 h4 lz nd nz k4 b4 => ?_⟩
    have nb2 : p2 ≠ b := new_ne hp2 b3
    have K4 := K3.trans k4
    have h41 := k4 _ _ np1 h3
    have h4F := k4 _ _ nFb e3
    have n2F : p2 ≠ Fo := fun e => by rw [e, e3] at hp2; cases hp2
    have n1F : p1 ≠ Fo := fun e => by rw [← e, h2] at hFo; cases hFo
    have Fo0 : H Fo = none := (k1.trans k2).free b2.at hFo
    refine ⟨p1, p2, _, _, rfl, SqL.of h41, SqL.of h4, ?_⟩
    refine L2.for_it (walk_zip (xs := ns.map V.int) (ys := zs.map V.str) (n := sz) (by rw [List.length_map, List.length_map, ln, lz]; omega)) (fun i σ H5 => ∃ (vs : List V) (fl : List Fl), (∃ a6 a7, σ = [some (.ref b), some (.ref lm), some (.ref lf), some (.int sz), some (.ref p1), some (.ref Fo), a6, a7]) ∧ Kp b H H5 ∧ Bag H5 b (n + 1 + 40 + 130 + 8 * i) ∧ H5 p1 = some (.lst (ns.map V.int)) ∧ H5 p2 = some (.lst (zs.map V.str)) ∧ H5 Fo = some (.lst vs) ∧ TpAll H5 vs (fl.map Fl.d) ∧ fl.map Fl.nam = zs.take i ∧ fl.map Fl.num = ns.take i ∧ ∀ f ∈ fl, KnQ ms fs f.kd) ?_ ?_ ?_ ?_
    · exact ⟨[], [], ⟨_, _, rfl⟩, K4, b4, h41, h4, h4F, .nil, rfl, rfl, fun f h => nomatch h⟩
    · rintro i σ H5 _ ⟨vs, fl, _, _, _, c1, c2, _⟩
      exact ⟨SqL.of c1, SqL.of c2⟩
    · rintro i x σ H5 H6 hi ⟨vs, fl, ⟨a6, a7, rfl⟩, K5, b5, c1, c2, c3, tf, en, eu, nk⟩ ⟨Tt, y1, y2, rfl, hT, rfl, g1, g2⟩
      dsimp only at g1 g2
      rw [List.getElem?_map] at g1 g2
      cases hx : ns[i]? with
      | none => rw [hx] at g1; cases g1
      | some x =>
      cases hz : zs[i]? with
      | none => rw [hz] at g2; cases g2
      | some z =>
      rw [hx] at g1
      rw [hz] at g2
      cases g1
      cases g2
      have S6 : Same H5 (upd H5 Tt (.tup [.int x, .str z])) := Same.new hT
      have eT : (upd H5 Tt (.tup [.int x, .str z])) Tt = some (.tup [.int x, .str z]) := upd_same
      have b6 := b5.same S6
      have K6 := K5.same S6
      have c16 := S6 _ _ c1
      have c26 := S6 _ _ c2
      have c36 := S6 _ _ c3
      have tf6 := TpAll.keep (Same.tk S6) _ _ tf
      generalize (upd H5 Tt (.tup [.int x, .str z])) = H6 at *
      refine ⟨Tt, _, rfl, SqT.of eT, rfl, _, _, rfl, _, _, rfl, rfl, ?_⟩
      try dsimp only [List.set_cons_succ, List.set_cons_zero]
      refine ⟨_, rfl, .inl ⟨rfl, _, SqL.of c36⟩, ?_⟩
      refine ⟨_, rfl, _, rfl, _, rfl, _, rfl, _, rfl, b, lm, lf, ms, fs, _, rfl, b6, by omega, K6 _ _ nmb hm, K6 _ _ nfb hf, l1, l2, nm, nf, fun v k H7 tv nkv k7 b7 => ?_⟩
      refine ⟨(by show 2 ≤ sizeLine; decide), fun t8 ht8 => ?_⟩
      have S8 := Same.new (H := H7) (o := .lst [.str "must", .str "may"]) ht8
      have e8 : (upd H7 t8 (.lst [.str "must", .str "may"])) t8 = some (.lst [.str "must", .str "may"]) := upd_same
      have n8 : t8 ≠ b := new_ne ht8 b7
      have b8 := b7.same S8
      have tv8 := Tp.keep (Same.tk S8) _ _ tv
      have T68 : Tk H6 (upd H7 t8 (.lst [.str "must", .str "may"])) := (k7.tk b6).trans (Same.tk S8)
      have K68 : Kp b H6 (upd H7 t8 (.lst [.str "must", .str "may"])) := k7.same S8
      generalize (upd H7 t8 (.lst [.str "must", .str "may"])) = H8 at *
      refine ⟨_, rfl, b, 2, _, rfl, by decide, by decide, b8, by omega, fun d9 H9 d90 d91 k9 b9 => ?_⟩
      obtain ⟨mu, ew⟩ : ∃ mu : Bool, atI [V.str "must", .str "may"] d9 = some (.str (needS mu)) := by
        rcases (by omega : d9 = 0 ∨ d9 = 1) with rfl | rfl
        · exact ⟨true, rfl⟩
        · exact ⟨false, rfl⟩
      have K69 := K68.trans k9
      have T69 := T68.trans (k9.tk b8)
      refine ⟨t8, _, _, _, rfl, rfl, SqL.of (k9 _ _ n8 e8), ew, (by show 4 ≤ sizeLine; decide), fun tA htA => ?_⟩
      have SA := Same.new (H := H9) (o := .tup [.int x, .str z, v, .str (needS mu)]) htA
      have dA : Tp (upd H9 tA (.tup [.int x, .str z, v, .str (needS mu)])) (.ref tA) (Fl.d ⟨x, z, k, mu⟩) := .tup upd_same (.cons (.int _) (.cons (.str _) (.cons (Tp.keep ((k9.tk b8).trans (Same.tk SA)) _ _ tv8) (.cons (.str _) .nil))))
      have bA := b9.same SA
      have KA : Kp b H6 (upd H9 tA (.tup [.int x, .str z, v, .str (needS mu)])) := K69.same SA
      have TA := T69.trans (Same.tk SA)
      generalize (upd H9 tA (.tup [.int x, .str z, v, .str (needS mu)])) = HA at *
      have cA := KA _ _ nFb c36
      have W : Tk HA (upd HA Fo (.lst (vs ++ [.ref tA]))) := Tk.wr cA
      have iz : i < sz := hi
      refine ⟨Fo, _, _, rfl, rfl, cA, ?_, ?_⟩
      · have e1 := tf.length
        have e2 := congrArg List.length en
        rw [List.length_map] at e1
        rw [List.length_map, List.length_take] at e2
        exact Nat.lt_of_le_of_lt (show _ ≤ 10 by omega) (by decide)
      refine ⟨vs ++ [.ref tA], fl ++ [⟨x, z, k, mu⟩], ⟨_, _, rfl⟩, (K6.trans KA).wr Fo0, (bA.ne nFb).mono (by omega), by rw [upd_ne n1F]; exact KA _ _ np1 c16, by rw [upd_ne n2F]; exact KA _ _ nb2 c26, upd_same, ?_, ?_, ?_, fun f hf => ?_⟩
      · rw [List.map_append]
        exact (TpAll.keep W _ _ (TpAll.keep TA _ _ tf6)).app (TpAll.one (Tp.keep W _ _ dA))
      · rw [List.map_append, en, List.take_add_one, hz]
        rfl
      · rw [List.map_append, eu, List.take_add_one, hx]
        rfl
      · rcases List.mem_append.mp hf with h | h
        · exact nk f h
        · rw [List.mem_singleton.mp h]
          exact nkv
    · rintro σ H5 ⟨vs, fl, ⟨a6, a7, rfl⟩, K5, b5, c1, c2, c3, tf, en, eu, nk⟩
      rw [← lz, List.take_length] at en
      rw [← ln, List.take_length] at eu
      have lf5 : fl.length ≤ 5 := by
        have := congrArg List.length en
        rw [List.length_map] at this
        omega
      refine ⟨_, rfl, Fo, _, rfl, .inl ⟨SqL.of c3, fun p9 hp9 => ?_⟩⟩
      refine q _ fl _ (.tup upd_same (TpAll.keep (Same.tk (Same.new hp9)) _ _ tf)) ⟨lf5, by rw [en]; exact nd, fun f hf => nz f.nam (by rw [← en]; exact List.mem_map.mpr ⟨f, hf, rfl⟩), fun f hf => (nk f hf).1, by rw [eu]; exact rise, fun f hf => rg f.num (by rw [← eu]; exact List.mem_map.mpr ⟨f, hf, rfl⟩)⟩ (fun f hf => (nk f hf).2) (K5.new hp9) ((b5.new hp9).mono (by omega))
end
end Fh

set_option Elab.async false
set_option linter.all false
set_option maxRecDepth 100000
set_option maxHeartbeats 4000000
namespace Fh
open PySem L2 PyProof.Rows
/-! ### comprehensions by what they stand for -/
section
variable {K : PySem.W.Frag} {a : Addr} {β : Type} {xs : List V} {l : List β} {dx val : β → PyData} {keep : β → Bool} {g : TG} {ws : List Nat} {tt : TT} {te : TE} {σ : L2.St} {H : Hp} {D : Addr} {Qd : Hp → Prop}
theorem filt_stepG {α : Type} (p : α → Bool) {l : List α} {i : Nat} {x : α} (e : l[i]? = some x) : (l.take (i + 1)).filter p = (l.take i).filter p ++ (if p x = true then [x] else []) := by
  rw [List.take_add_one, e, List.filter_append]
  show _ ++ [x].filter p = _
  cases q : p x with
  | true => rw [List.filter_cons_of_pos q]; rfl
  | false => rw [List.filter_cons_of_neg (by rw [q]; exact Bool.false_ne_true)]; rfl
theorem mapAt {α γ : Type} {f : α → γ} {l : List α} {j : Nat} {y : γ} (h : (l.map f)[j]? = some y) : ∃ b, l[j]? = some b ∧ f b = y := by
  rw [List.getElem?_map] at h
  cases q : l[j]? with
  | none => rw [q] at h; cases h
  | some b => rw [q] at h; exact ⟨b, rfl, Option.some.inj h⟩
/-- what stands in a comprehension over data that draws nothing -/
def StepG (dx val : β → PyData) (keep : β → Bool) (l : List β) (g : TG) (ws : List Nat) (tt : TT) (te : TE) (σ : L2.St) (H : Hp) : Prop :=
  ∀ (j : Nat) (b : β) (x : V) (H' : Hp), l[j]? = some b → Same H H' → Tp H' x (dx b) → ∀ (N : Hp → Prop) (M : V → Hp → Prop), (keep b = false → ∀ H'', Same H' H'' → N H'') → (keep b = true → ∀ y H'', Same H' H'' → Tp H'' y (val b) → M y H'') →
    g x (wipe σ ws) H' fun σ2 H2 => wipe σ2 ws = wipe σ ws ∧ tt σ2 H2 fun b H3 => if b = true then te σ2 H3 M else N H3
theorem lcG_tup (hA : ∀ H', Same H H' → SqT K H' a xs) (tx : TpAll H xs (l.map dx)) (hl : l.length < sizeLine) (hD : H D = none) (st : StepG dx val keep l g ws tt te σ H)
    (hd : ∀ H' zs, Same H H' → H' D = some (.lst zs) → TpAll H' zs ((l.filter keep).map val) → Qd H') :
    ∃ W : Nat → Nat → Hp → Prop, (∃ m, W 0 m (upd H D (.lst []))) ∧ ∀ k m H, W k m H →
      ((Itt K a).stop k H ∧ Qd H) ∨ ((Itt K a).go k H ∧ ∃ Nx : Hp → Prop, (∀ H', Nx H' → ∃ m', m' < m ∧ W (k + 1) m' H') ∧ ∀ x H', (Itt K a).yld k H x H' → g x (wipe σ ws) H' fun σ2 H2 => wipe σ2 ws = wipe σ ws ∧ tt σ2 H2 fun b H3 =>
        if b = true then te σ2 H3 fun y H4 => ∃ acc, H4 D = some (.lst acc) ∧ acc.length < sizeLine ∧ Nx (upd H4 D (.lst (acc ++ [y]))) else Nx H3) := by
  have lx : xs.length = l.length := by rw [tx.length, List.length_map]
  refine lc_tup (xs := xs) (fun j H' => Same H H' ∧ ∃ zs, H' D = some (.lst zs) ∧ TpAll H' zs (((l.take j).filter keep).map val)) ⟨Same.new hD, [], upd_same, .nil⟩ (fun j H' _ ⟨s, _⟩ => hA H' s) (fun j x H' hx ⟨s, zs, h, tz⟩ => ?_) (fun H' ⟨s, zs, h, tz⟩ => ?_)
  · obtain ⟨d, hd2, td⟩ := tx.get' hx
    obtain ⟨b, hb, rfl⟩ := mapAt hd2
    have e := filt_stepG keep hb
    refine st j b x H' hb s (Tp.keep (Same.tk s) _ _ td) _ _ (fun hk H3 s3 => ?_) (fun hk y H3 s3 ty => ?_)
    · rw [hk, if_neg Bool.false_ne_true, List.append_nil] at e
      refine ⟨s.trans s3, zs, s3 _ _ h, ?_⟩
      rw [e]
      exact TpAll.keep (Same.tk s3) _ _ tz
    · rw [hk, if_pos rfl] at e
      refine ⟨_, s3 _ _ h, ?_, Same.wr (s.trans s3) hD, _, upd_same, ?_⟩
      · rw [tz.length, List.length_map]
        exact Nat.lt_of_le_of_lt (Nat.le_trans (List.length_filter_le _ _) (by rw [List.length_take]; omega)) hl
      · have W : Tk H3 (upd H3 D (.lst (zs ++ [y]))) := Tk.wr (s3 _ _ h)
        rw [e, List.map_append]
        exact (TpAll.keep W _ _ (TpAll.keep (Same.tk s3) _ _ tz)).app (TpAll.one (Tp.keep W _ _ ty))
  · rw [lx, List.take_length] at tz
    exact hd H' zs s h tz
theorem lcG_list (hA : ∀ H', Same H H' → SqL K H' a xs) (tx : TpAll H xs (l.map dx)) (hl : l.length < sizeLine) (hD : H D = none) (st : StepG dx val keep l g ws tt te σ H)
    (hd : ∀ H' zs, Same H H' → H' D = some (.lst zs) → TpAll H' zs ((l.filter keep).map val) → Qd H') :
    ∃ W : Nat → Nat → Hp → Prop, (∃ m, W 0 m (upd H D (.lst []))) ∧ ∀ k m H, W k m H →
      ((Itl K a).stop k H ∧ Qd H) ∨ ((Itl K a).go k H ∧ ∃ Nx : Hp → Prop, (∀ H', Nx H' → ∃ m', m' < m ∧ W (k + 1) m' H') ∧ ∀ x H', (Itl K a).yld k H x H' → g x (wipe σ ws) H' fun σ2 H2 => wipe σ2 ws = wipe σ ws ∧ tt σ2 H2 fun b H3 =>
        if b = true then te σ2 H3 fun y H4 => ∃ acc, H4 D = some (.lst acc) ∧ acc.length < sizeLine ∧ Nx (upd H4 D (.lst (acc ++ [y]))) else Nx H3) := by
  have lx : xs.length = l.length := by rw [tx.length, List.length_map]
  refine lc_list (xs := xs) (fun j H' => Same H H' ∧ ∃ zs, H' D = some (.lst zs) ∧ TpAll H' zs (((l.take j).filter keep).map val)) ⟨Same.new hD, [], upd_same, .nil⟩ (fun j H' _ ⟨s, _⟩ => hA H' s) (fun j x H' hx ⟨s, zs, h, tz⟩ => ?_) (fun H' ⟨s, zs, h, tz⟩ => ?_)
  · obtain ⟨d, hd2, td⟩ := tx.get' hx
    obtain ⟨b, hb, rfl⟩ := mapAt hd2
    have e := filt_stepG keep hb
    refine st j b x H' hb s (Tp.keep (Same.tk s) _ _ td) _ _ (fun hk H3 s3 => ?_) (fun hk y H3 s3 ty => ?_)
    · rw [hk, if_neg Bool.false_ne_true, List.append_nil] at e
      refine ⟨s.trans s3, zs, s3 _ _ h, ?_⟩
      rw [e]
      exact TpAll.keep (Same.tk s3) _ _ tz
    · rw [hk, if_pos rfl] at e
      refine ⟨_, s3 _ _ h, ?_, Same.wr (s.trans s3) hD, _, upd_same, ?_⟩
      · rw [tz.length, List.length_map]
        exact Nat.lt_of_le_of_lt (Nat.le_trans (List.length_filter_le _ _) (by rw [List.length_take]; omega)) hl
      · have W : Tk H3 (upd H3 D (.lst (zs ++ [y]))) := Tk.wr (s3 _ _ h)
        rw [e, List.map_append]
        exact (TpAll.keep W _ _ (TpAll.keep (Same.tk s3) _ _ tz)).app (TpAll.one (Tp.keep W _ _ ty))
  · rw [lx, List.take_length] at tz
    exact hd H' zs s h tz
theorem filt_all {β : Type} {l : List β} : l.filter (fun _ => true) = l := List.filter_eq_self.mpr fun _ _ => rfl
theorem tp_strs {H : Hp} : ∀ {zs : List V} {ts : List Str}, TpAll H zs (ts.map PyData.str) → zs = ts.map V.str
  | zs, [], h => h.inil
  | zs, t :: ts, h => by
    obtain ⟨v, r, rfl, t1, q⟩ := TpAll.icons h
    rw [t1.istr, tp_strs q]
    rfl
theorem tp_strsM {H : Hp} {β : Type} {f : β → Str} {zs : List V} {l : List β} (h : TpAll H zs (l.map fun b => PyData.str (f b))) : zs = (l.map f).map V.str := tp_strs (by rw [List.map_map]; exact h)
end
/-- dict(a list of rows): by name the rows' second -/
theorem recs_dict {K : PySem.W.Frag} {H : Hp} : ∀ {xs : List V} {recs : List Rec}, TpAll H xs ((recs.map rD).map fun r => .tuple [.str r.1, r.2]) → (recs.map (·.1)).Nodup →
    ∃ (ps : List Addr) (kvs : List (Key × V)), xs = ps.map V.ref ∧ Paired (fun p kv => SqT K H p [kV kv.1, kv.2]) ps kvs ∧ kvs.map Prod.fst = recs.map (fun r => (Sum.inr r.1 : Key)) ∧ (∀ z, z ∉ recs.map (·.1) → valV kvs (.inr z) = none) ∧ (∀ z, z ∈ recs.map (·.1) → ∃ v, valV kvs (.inr z) = some v ∧ Tp H v (fieldsD (flO recs z)))
  | xs, [], q, _ => by
    rw [List.map_nil, List.map_nil] at q
    cases q.inil
    exact ⟨[], [], rfl, .nil, rfl, fun _ _ => rfl, fun z h => by cases h⟩
  | xs, r :: recs, q, nd => by
    rw [List.map_cons, List.map_cons] at q
    rw [List.map_cons, List.nodup_cons] at nd
    obtain ⟨x, rest, rfl, hx, q2⟩ := q.icons
    obtain ⟨a, y, u, rfl, ha, hy, hu⟩ := Tp.pair hx
    cases hy.istr
    obtain ⟨ps, kvs, rfl, pr, e, h1, h2⟩ := recs_dict (K := K) q2 nd.2
    refine ⟨a :: ps, (Sum.inr r.1, u) :: kvs, rfl, .cons (SqT.of ha) pr, by rw [List.map_cons, List.map_cons, e], fun z hz => ?_, fun z hz => ?_⟩
    · rw [List.map_cons, List.mem_cons] at hz
      rw [valV_neg fun e => hz (.inl (by exact (Sum.inr.inj e).symm))]
      exact h1 z fun h => hz (.inr h)
    · by_cases e : z = r.1
      · subst e
        refine ⟨u, valV_pos rfl, ?_⟩
        unfold flO
        rw [List.find?_cons, decide_eq_true rfl]
        exact hu
      · rw [List.map_cons, List.mem_cons] at hz
        obtain ⟨v, hv, tv⟩ := h2 z (hz.resolve_left e)
        refine ⟨v, by rw [valV_neg fun h => e (by exact (Sum.inr.inj h).symm)]; exact hv, ?_⟩
        unfold flO at tv ⊢
        rw [List.find?_cons, decide_eq_false fun h => e h.symm]
        exact tv
theorem put_newG {kvs : List (Key × V)} {k : Key} {v : V} (h : k ∉ kvs.map Prod.fst) : putK kvs k v = kvs ++ [(k, v)] := by
  exact putK_new h
theorem merge_ndG : ∀ (l acc : List (Key × V)), ((acc ++ l).map Prod.fst).Nodup → mergeK acc l = acc ++ l
  | [], acc, _ => (List.append_nil acc).symm
  | p :: l, acc, h => by
    show mergeK (putK acc p.1 p.2) l = _
    have hn : p.1 ∉ acc.map Prod.fst := by
      rw [List.map_append, List.nodup_append] at h
      exact fun m => h.2.2 _ m _ (by rw [List.map_cons]; exact List.mem_cons_self) rfl
    rw [put_newG hn, merge_ndG l (acc ++ [(p.1, p.2)]) (by rw [List.append_assoc]; exact h), List.append_assoc]
    rfl
theorem merge_recs {recs : List Rec} {kvs : List (Key × V)} (nd : (recs.map (·.1)).Nodup) (e : kvs.map Prod.fst = recs.map (fun r => (Sum.inr r.1 : Key))) : mergeK [] kvs = kvs := by
  refine merge_ndG kvs [] ?_
  rw [List.nil_append, e]
  have : recs.map (fun r => (Sum.inr r.1 : Key)) = (recs.map (·.1)).map (Sum.inr : Str → Key) := by rw [List.map_map]; rfl
  rw [this]
  exact List.Pairwise.map _ (fun a b h e => h (Sum.inr.inj e)) nd
/-- dict(a list of pairs), by name -/
def rDpL (K : PySem.W.Frag) : List V → Hp → VK → Prop := fun xs H Q => ∃ (a : Addr) (ps : List Addr) (kvs : List (Key × V)), xs = [.ref a] ∧ SqL K H a (ps.map V.ref) ∧ Paired (fun p kv => SqT K H p [kV kv.1, kv.2]) ps kvs ∧ ∀ p, H p = none → Q (.ref p) (upd H p (.dK (mergeK [] kvs)))
theorem call_dpL {X : Cx} (hc : X.calm = true) : CallR X (.type "dict") (rDpL X.K) := call_dictP hc
theorem blk_in {N : List Str} {sc scope : Scope} {own : List (Str × Nat)} (h : blkC N ⟨.function, [], false, false, []⟩ scope own = true) : BlkOk N sc scope own := by
  have h := blkOk_by h
  exact ⟨h.kind, h.uniq, h.ix, fun y hy e => absurd (h.free y hy e) (by intro z; rcases z with z | z <;> cases z), h.own⟩
end Fh

set_option Elab.async false
set_option linter.all false
set_option maxRecDepth 100000
set_option maxHeartbeats 4000000
namespace Fh
open PySem L2 PyProof.Rows
/-! ### calls drawn -/
abbrev DdW (d : List Str) : Prop := 3 ≤ d.length ∧ d.length ≤ 4 ∧ (∀ z ∈ d, Nm z) ∧ d.headD "" ∈ six
structure CwW (c : Cw) : Prop where
  nm : Nm c.nam
  na : Nm c.ask
  nb : Nm c.ans
  l : c.ds.length ≤ 6
  ds : ∀ d ∈ c.ds, DdW d
theorem CwW.ok {c : Cw} (h : CwW c) : CwOk c := ⟨Nat.le_trans h.l (by decide), fun d hd => ⟨(h.ds d hd).1, fun z hz => nm_shQ ((h.ds d hd).2.2.1 z hz)⟩⟩
structure CwsW (cws : List Cw) : Prop where
  l6 : cws.length ≤ 6
  nd : (cws.map Cw.nam).Nodup
  ok : ∀ c ∈ cws, CwW c
  rise : (cws.map Cw.num).Pairwise (· < ·)
  rg : ∀ c ∈ cws, 1 ≤ c.num ∧ c.num ≤ 30
theorem flO_none {recs : List Rec} {z : Str} (h : z ∉ recs.map (·.1)) : flO recs z = [] := by
  unfold flO
  cases q : recs.find? (fun r => decide (r.1 = z)) with
  | none => rfl
  | some r => exact absurd (List.mem_map.mpr ⟨r, List.mem_of_find?_eq_some q, by have := List.find?_some q; exact of_decide_eq_true this⟩) h
abbrev sAct : Stmt := top 46
abbrev nAct : List Str := ["_law_bag_here", "_law_own", "_law_found_forms", "_law_size", "_law_forms", "_law_found", "_law_one", "_law_fields", "_law_mark", "_law_word", "_law_ask", "_law_back", "_law_sides", "_law_field", "_law_deeds", "_law_turn"]
abbrev pAct : List Str := ["_law_bag_here", "_law_own", "_law_found_forms"]
def ActIn (recs : List Rec) (c : Cw) : Prop := InP (recs.map (·.1)) "form" c.ask ∧ InP (recs.map (·.1)) "back" c.ans ∧ ∀ d ∈ c.ds, DdIn ((flO recs c.ask).map Fl.nam) ((flO recs c.ans).map Fl.nam) d
def spAct : Sp := fun vs H Q _ => ∃ (b l : Addr) (own : Str) (recs : List Rec) (xs : List V) (n : Nat), vs = [.ref b, .str own, .ref l] ∧ Bag H b n ∧ n + 1100 ≤ most ∧ Nm own ∧ H l = some (.lst xs) ∧ l ≠ b ∧ TpAll H xs ((recs.map rD).map fun r => .tuple [.str r.1, r.2]) ∧ RecsW recs ∧
  ∀ (v : V) (cws : List Cw) (H' : Hp), Tp H' v (.tuple (cws.map Cw.d)) → CwsW cws → (∀ c ∈ cws, ActIn recs c) → Kp b H H' → Bag H' b (n + 1000) → Q v H'
section
variable {P : Program} {w : World} {K : PySem.W.Frag} {mg : Str → Option Value} {base : Heap}
theorem scAct : FnScope nAct pAct (defScope sAct) := ⟨rfl, rfl, rfl, by decide +kernel, rfl, by decide +kernel, by decide +kernel⟩
theorem ok_act {f : Addr} {fd : FuncData} (F : Fun K "_law_acts_drawn" "_law_acts_drawn" sAct f fd) (G : Glb mg) (gz : mg "zip" = none) (DT : Has P w K mg base "_law_take" 1 ["_law_bag_here", "_law_size"] spTake) (DR : Has P w K mg base "_law_rising" 2 ["_law_bag_here", "_law_size", "_law_most"] spRis) (DU : Has P w K mg base "_law_unlike" 4 ["_law_bag_here", "_law_size"] spUlk) (DP : Has P w K mg base "_law_pick" 2 pPik spPik) (DD : Has P w K mg base "_law_deed_drawn" 3 pDed spDed) : FnOk P w K mg base CX0 5 f fd pAct spAct := by
  refine F.ok scAct (fun vs H Q E h => ?_) (fun cdv A outer s H vs Q E hr h => ?_)
  · obtain ⟨b, l, own, recs, xs, n, rfl, _⟩ := h
    rfl
  · obtain ⟨b, l, own, recs, xs, n, rfl, hB, hn, no, hl, nlb, tx, rw9, q⟩ := h
    have hmost : most = 1000000 := rfl
    have hu := hu_of hr
    have nform : Nm "form" := nm_lit (by decide +kernel)
    have nback : Nm "back" := nm_lit (by decide +kernel)
    have lr6 := rw9.l6
    refine ⟨_, (pss_cons (ps_set (i := 3) scAct.nd rfl (Or.inl rfl) (pe_has DT (hr.mono (by omega)) rfl (pa_cons (pv 0) (pa_cons pe_int pa_nil))))
      (pss_cons (ps_par (i := 4) (j := 5) rfl scAct.nd rfl rfl (by decide) rfl rfl (pa_cons (pe_lc (own := [("_law_one", 6), ("_law_fields", 7)]) (g := (gTup K 2 (gCons (gName 6) (gCons (gName 7) gNil)))) (tt := tYes) rfl scAct.nd (pi_list (pv 2)) (blkOk_by (N := nAct) (sc := defScope sAct) (by decide +kernel)) (fun _ _ _ _ _ => (pg_tup rfl (pgs_cons (pg_name (i := 6) scAct.nd rfl (Or.inl rfl)) (pgs_cons (pg_name (i := 7) scAct.nd rfl (Or.inl rfl)) pgs_nil)))) (fun _ _ _ _ _ => pts_nil) (fun _ _ _ _ _ => (pv 6))) (pa_cons (pe_lst pa_nil) pa_nil)) (by rfl))
      (pss_cons (ps_for PassesOwn.never rfl (pi_zip rfl gz (pa_cons (pe_has DR (hr.mono (by omega)) rfl (pa_cons (pv 0) (pa_cons (pv 3) (pa_cons pe_int pa_nil)))) (pa_cons (pe_has DU (hr.mono (by omega)) rfl (pa_cons (pv 0) (pa_cons (pv 3) pa_nil))) pa_nil))) (pg_tup rfl (pgs_cons (pg_name (i := 8) scAct.nd rfl (Or.inl rfl)) (pgs_cons (pg_name (i := 9) scAct.nd rfl (Or.inl rfl)) pgs_nil)))
      (pss_cons (ps_par (i := 10) (j := 11) rfl scAct.nd rfl rfl (by decide) rfl rfl (pa_cons (pe_has DP (hr.mono (by omega)) rfl (pa_cons (pv 0) (pa_cons (pv 4) (pa_cons pe_str pa_nil)))) (pa_cons (pe_has DP (hr.mono (by omega)) rfl (pa_cons (pv 0) (pa_cons (pv 4) (pa_cons pe_str pa_nil)))) pa_nil)) (by rfl))
      (C8.pss_cut (ps_set (i := 12) scAct.nd rfl (Or.inr rfl) (pe_lc (own := [("_law_one", 6)]) (g := (gName 6)) (tt := tYes) (te := tLc (iTup K (tDGet2 (tCB (rDpL K) (tCons (tVar 2) tNil)) (tVar 6) (tTup tNil))) (gName 13) tYes (tOp (rIxT K) (tVar 13) (tC (.int 1))) [13]) rfl scAct.nd (pi_tup (pe_tup (pa_cons (pv 10) (pa_cons (pv 11) pa_nil)))) (blkOk_by (N := nAct) (sc := defScope sAct) (by decide +kernel)) (fun _ _ _ _ _ => (pg_name (i := 6) scAct.nd rfl (Or.inl rfl))) (fun _ _ _ _ _ => pts_nil) (fun _ _ _ _ _ => (pe_lc (own := [("_law_field", 13)]) (g := (gName 13)) (tt := tYes) rfl scAct.nd (pi_tup (pe_dget2 hu (pe_callTy (call_dpL rfl) (by rfl) G.dict (by decide +kernel) (pa_cons (pv 2) pa_nil)) (pv 6) (pe_tup pa_nil) ⟨rfl, rfl, rfl, rfl⟩)) (blk_in (N := nAct) (by decide +kernel)) (fun _ _ _ _ _ => (pg_name (i := 13) scAct.nd rfl (Or.inl rfl))) (fun _ _ _ _ _ => pts_nil) (fun _ _ _ _ _ => (pe_ix ix_tup (pv 13) pe_int (fun _ _ => rfl)))))))
      (C8.pss_cut (ps_setLc (i := 14) (own := [("_law_turn", 15)]) (g := (gName 15)) (tt := tYes) (te := tCall spDed [] E0 (tCons (tVar 0) (tCons (tVar 1) (tCons (tOp (rIxL K) (tVar 12) (tC (.int 0))) (tCons (tOp (rIxL K) (tVar 12) (tC (.int 1))) tNil))))) rfl scAct.nd rfl rfl (sw_true rfl rfl rfl (by decide +kernel)) (pi_range1 rfl G.range (pa_cons (pe_has DT (hr.mono (by omega)) rfl (pa_cons (pv 0) (pa_cons pe_int pa_nil))) pa_nil)) (blkOk_by (N := nAct) (sc := defScope sAct) (by decide +kernel)) (fun _ _ _ _ _ => (pg_name (i := 15) scAct.nd rfl (Or.inl rfl))) (fun _ _ _ _ _ => pts_nil) (fun _ _ _ _ _ => (pe_has DD (hr.mono (by omega)) rfl (pa_cons (pv 0) (pa_cons (pv 1) (pa_cons (pe_ix ix_list (pv 12) pe_int (fun _ _ => rfl)) (pa_cons (pe_ix ix_list (pv 12) pe_int (fun _ _ => rfl)) pa_nil)))))))
      (pss_one (ps_expr (pe_bm PySem.F.plainAttrs_list PySem.F.slot_list_append PySem.F.type_list_append mt_append (pv 5) (pa_cons (pe_tup (pa_cons (pv 8) (pa_cons (pv 9) (pa_cons (pv 10) (pa_cons (pv 11) (pa_cons (pe_callTy call_tuple_of (by rfl) G.tuple (by decide +kernel) (pa_cons (pv 14) pa_nil)) pa_nil)))))) pa_nil))))))))
      (pss_one (ps_ret (pe_callTy call_tuple_of (by rfl) G.tuple (by decide +kernel) (pa_cons (pv 5) pa_nil))))))), ?_⟩
    refine ⟨_, rfl, b, 7, n, rfl, by decide, by decide, hB, by omega, fun d H1 d0 d1 k1 b1 => ?_⟩
    obtain ⟨sz, rfl⟩ : ∃ sz : Nat, d = sz := ⟨d.toNat, by omega⟩
    try dsimp only [List.set_cons_succ, List.set_cons_zero]
    have hl1 := k1 _ _ nlb hl
    have tx1 := TpAll.keep (k1.tk hB) _ _ tx
    refine ⟨_, rfl, l, rfl, ⟨_, SqL.of hl1⟩, fun D hD => ?_⟩
    refine lcG_list (xs := xs) (l := recs) (dx := fun r => .tuple [.str r.1, (rD r).2]) (val := fun r => .str r.1) (keep := fun _ => true) (fun H' S => SqL.of (S _ _ hl1)) (by rw [List.map_map] at tx1; exact tx1) (by show recs.length < sizeLine; exact Nat.lt_of_le_of_lt lr6 (by decide)) hD ?_ ?_
    · intro j r x H' hj S' tr N M hN hM
      obtain ⟨a, y, u, rfl, ha, hy, hu2⟩ := Tp.pair tr
      rw [hy.istr] at ha
      exact ⟨a, _, rfl, SqT.of ha, rfl, _, _, rfl, _, _, rfl, rfl, rfl, yes (iteT ⟨_, rfl, hM rfl _ _ (Same.refl _) (.str _)⟩)⟩
    intro H2 zs S2 hD2 tz
    rw [filt_all] at tz
    have ez := tp_strsM tz
    subst ez
    refine ⟨Nat.zero_le _, fun Fo hFo => ⟨_, _, rfl, ?_⟩⟩
    have S3 := Same.new (H := H2) (o := .lst []) hFo
    have e3 : (upd H2 Fo (.lst [])) Fo = some (.lst []) := upd_same
    have b2 := b1.same S2
    have K2 : Kp b H H2 := k1.same S2
    have nDb : D ≠ b := new_ne hD b1
    have nFb : Fo ≠ b := new_ne hFo b2
    have b3 := b2.same S3
    have K3 : Kp b H (upd H2 Fo (.lst [])) := K2.same S3
    have eD3 := S3 _ _ hD2
    have Fo0 : H Fo = none := K2.free b2.at hFo
    generalize (upd H2 Fo (.lst [])) = H3 at *
    try dsimp only [List.set_cons_succ, List.set_cons_zero]
    refine ⟨_, rfl, _, rfl, b, sz, n + 1, rfl, by omega, b3, by omega, fun p1 ns H4 hp1 h41 ln k4 b4 rise rg => ?_⟩
    refine ⟨_, rfl, _, rfl, b, sz, n + 1 + 40, rfl, b4, by omega, by omega, fun p2 zs H5 hp2 h52 lz nd nz k5 b5 => ?_⟩
    have nb2 : p2 ≠ b := new_ne hp2 b4
    have n1b : p1 ≠ b := new_ne hp1 b3
    have K4 := K3.trans k4
    have K5 := K4.trans k5
    have h51 := k5 _ _ n1b h41
    have h5F := k5 _ _ nFb (k4 _ _ nFb e3)
    have h5D := k5 _ _ nDb (k4 _ _ nDb eD3)
    have n2F : p2 ≠ Fo := fun e => by rw [e, k4 _ _ nFb e3] at hp2; cases hp2
    have n1F : p1 ≠ Fo := fun e => by rw [e, e3] at hp1; cases hp1
    have nDF : D ≠ Fo := fun e => by rw [← e, hD2] at hFo; cases hFo
    refine ⟨p1, p2, _, _, rfl, SqL.of h51, SqL.of h52, ?_⟩
    refine L2.for_it (walk_zip (xs := ns.map V.int) (ys := zs.map V.str) (n := sz) (by rw [List.length_map, List.length_map, ln, lz]; omega)) (fun i σ H6 => ∃ (vs : List V) (cl : List Cw), (∃ a6 a7 a8 a9 a10 a11 a12 a13 a14 a15, σ = [some (.ref b), some (.str own), some (.ref l), some (.int sz), some (.ref D), some (.ref Fo), a6, a7, a8, a9, a10, a11, a12, a13, a14, a15]) ∧ Kp b H H6 ∧ Bag H6 b (n + 1 + 40 + 130 + 130 * i) ∧ H6 p1 = some (.lst (ns.map V.int)) ∧ H6 p2 = some (.lst (zs.map V.str)) ∧ H6 D = some (.lst ((recs.map (·.1)).map V.str)) ∧ H6 Fo = some (.lst vs) ∧ TpAll H6 vs (cl.map Cw.d) ∧ cl.map Cw.nam = zs.take i ∧ cl.map Cw.num = ns.take i ∧ ∀ c ∈ cl, CwW c ∧ ActIn recs c) ?_ ?_ ?_ ?_
    · exact ⟨[], [], ⟨_, _, _, _, _, _, _, _, _, _, rfl⟩, K5, b5, h51, h52, h5D, h5F, .nil, rfl, rfl, fun f h => nomatch h⟩
    · rintro i σ H6 _ ⟨vs, cl, _, _, _, c1, c2, _⟩
      exact ⟨SqL.of c1, SqL.of c2⟩
    · rintro i x σ H6 H7 hi ⟨vs, cl, ⟨a6, a7, a8, a9, a10, a11, a12, a13, a14, a15, rfl⟩, K6, b6, c1, c2, cD, cF, tv, en, eu, cw9⟩ ⟨Tt, y1, y2, rfl, hT, rfl, g1, g2⟩
      dsimp only at g1 g2
      obtain ⟨x, hx, rfl⟩ := mapAt g1
      obtain ⟨z, hz, rfl⟩ := mapAt g2
      have S7 : Same H6 (upd H6 Tt (.tup [.int x, .str z])) := Same.new hT
      have eT : (upd H6 Tt (.tup [.int x, .str z])) Tt = some (.tup [.int x, .str z]) := upd_same
      have b7 := b6.same S7
      have K7 := K6.same S7
      have c17 := S7 _ _ c1
      have c27 := S7 _ _ c2
      have cD7 := S7 _ _ cD
      have cF7 := S7 _ _ cF
      have tv7 := TpAll.keep (Same.tk S7) _ _ tv
      generalize (upd H6 Tt (.tup [.int x, .str z])) = H7 at *
      refine ⟨Tt, _, rfl, SqT.of eT, rfl, _, _, rfl, _, _, rfl, rfl, ?_⟩
      try dsimp only [List.set_cons_succ, List.set_cons_zero]
      have lrs : (recs.map (·.1)).length ≤ 100 := by rw [List.length_map]; omega
      have lzi : i < 6 := by
        have : i < sz := hi
        omega
      refine ⟨_, rfl, _, rfl, b, D, _, "form", _, rfl, b7, by omega, cD7, lrs, fun ask H8 hask k8 b8 => ?_⟩
      have cD8 := k8 _ _ nDb cD7
      refine ⟨_, rfl, _, rfl, b, D, _, "back", _, rfl, b8, by omega, cD8, lrs, fun back H9 hback k9 b9 => ⟨_, _, rfl, ?_⟩⟩
      have K9 := (K7.trans k8).trans k9
      have K79 := k8.trans k9
      have c19 := K79 _ _ n1b c17
      have c29 := K79 _ _ nb2 c27
      have cD9 := K79 _ _ nDb cD7
      have cF9 := K79 _ _ nFb cF7
      have tv9 := TpAll.keep (K79.tk b7) _ _ tv7
      have hl9 := K9 _ _ nlb hl
      have tx9 := TpAll.keep (K9.tk hB) _ _ tx
      try dsimp only [List.set_cons_succ, List.set_cons_zero]
      refine ⟨fun σ H' => ∃ (Ds s1 s2 : Addr) (a6 a13 : Option V), σ = [some (.ref b), some (.str own), some (.ref l), some (.int sz), some (.ref D), some (.ref Fo), a6, a7, some (.int x), some (.str z), some (.str ask), some (.str back), some (.ref Ds), a13, a14, a15] ∧ Same H9 H' ∧ H' Ds = some (.lst [.ref s1, .ref s2]) ∧ H' s1 = some (.lst (((flO recs ask).map Fl.nam).map V.str)) ∧ H' s2 = some (.lst (((flO recs back).map Fl.nam).map V.str)) ∧ H9 Ds = none ∧ H9 s1 = none ∧ H9 s2 = none, ?_, ?_⟩
      · refine ⟨_, rfl, _, rfl, (by show 2 ≤ sizeLine; decide), fun t ht => ⟨t, rfl, ⟨_, SqT.of upd_same⟩, fun Ds hDs => ?_⟩⟩
        have St := Same.new (H := H9) (o := .tup [.str ask, .str back]) ht
        have et : (upd H9 t (.tup [.str ask, .str back])) t = some (.tup [.str ask, .str back]) := upd_same
        have hl0 := St _ _ hl9
        have tx0 := TpAll.keep (Same.tk St) _ _ tx9
        have D9 : H9 Ds = none := St.free hDs
        generalize hH0 : (upd H9 t (.tup [.str ask, .str back])) = H0 at *
        refine lc_tup (xs := [V.str ask, .str back]) (fun j H' => Same H0 H' ∧ ∃ rs : List Addr, H' Ds = some (.lst (rs.map V.ref)) ∧ rs.length = j ∧ ∀ (i : Nat) (r : Addr), rs[i]? = some r → ∃ zz, [ask, back][i]? = some zz ∧ H' r = some (.lst (((flO recs zz).map Fl.nam).map V.str)) ∧ H0 r = none) ?_ ?_ ?_ ?_
        · exact ⟨Same.new hDs, [], upd_same, rfl, fun i r h => nomatch h⟩
        · rintro j H' _ ⟨S', _⟩
          exact SqT.of (S' _ _ et)
        · rintro j y H' hy ⟨S', rs, hD', lrs9, hrs⟩
          obtain ⟨zz, hzz, rfl⟩ := mapAt (f := V.str) (l := [ask, back]) hy
          refine ⟨rfl, yes (iteT ?_)⟩
          have tx' := TpAll.keep (Same.tk S') _ _ tx0
          obtain ⟨ps, kvs, rfl, pr, ek, k1, k2⟩ := recs_dict (K := K) tx' rw9.nd
          refine ⟨_, rfl, l, ps, kvs, rfl, SqL.of (S' _ _ hl0), pr, fun p hp => ?_⟩
          rw [merge_recs rw9.nd ek]
          have S1 := Same.new (H := H') (o := .dK kvs) hp
          have e1 : (upd H' p (.dK kvs)) p = some (.dK kvs) := upd_same
          generalize (upd H' p (.dK kvs)) = H1 at *
          refine ⟨p, rfl, .inl ⟨_, .inl e1⟩, _, rfl, Nat.zero_le _, fun e he => ?_⟩
          have S2 := Same.new (H := H1) (o := .tup []) he
          have e2 : (upd H1 e (.tup [])) e = some (.tup []) := upd_same
          generalize (upd H1 e (.tup [])) = H2 at *
          obtain ⟨o, a', ys, hg, hv, ha', ty⟩ : ∃ (o : Option V) (a' : Addr) (ys : List V), valV kvs (.inr zz) = o ∧ o.getD (.ref e) = .ref a' ∧ H2 a' = some (.tup ys) ∧ TpAll H2 ys ((flO recs zz).map Fl.d) := by
            by_cases hz' : zz ∈ recs.map (·.1)
            · obtain ⟨v, hv, tv'⟩ := k2 zz hz'
              obtain ⟨a', ys, rfl, ha', ty⟩ := Tp.inv (Tp.keep (Same.tk (S1.trans S2)) _ _ tv')
              exact ⟨_, a', ys, hv, rfl, ha', ty⟩
            · refine ⟨_, e, [], k1 zz hz', rfl, e2, ?_⟩
              rw [flO_none hz']
              exact .nil
          refine ⟨o, by rw [← hg]; exact DGet.k (k := .inr zz) (S2 _ _ e1), ?_⟩
          rw [hv]
          refine ⟨a', rfl, ⟨_, SqT.of ha'⟩, fun D2 hD2 => ?_⟩
          have S02 := (S'.trans S1).trans S2
          refine lcG_tup (xs := ys) (l := flO recs zz) (dx := Fl.d) (val := fun f => .str f.nam) (keep := fun _ => true) (fun H' S => SqT.of (S _ _ ha')) ty (Nat.lt_of_le_of_lt (rw9.at zz).l5 (by decide)) hD2 ?_ ?_
          · intro j f x H'' hj S'' tf N M hN hM
            obtain ⟨t4, x1, x2, x3, x4, rfl, h4, t1, t2, t3, t4'⟩ := Tp.four tf
            rw [t2.istr] at h4
            exact ⟨rfl, yes (iteT ⟨_, rfl, t4, _, _, _, rfl, rfl, SqT.of h4, rfl, hM rfl _ _ (Same.refl _) (.str _)⟩)⟩
          intro H3' zs' S3' hD3 tz'
          rw [filt_all] at tz'
          have ez' := tp_strsM tz'
          subst ez'
          have S23 := (S1.trans S2).trans S3'
          have hD3' := S23 _ _ hD'
          have nDD : D2 ≠ Ds := fun e => by rw [e, (S1.trans S2) _ _ hD'] at hD2; cases hD2
          refine ⟨_, hD3', ?_, Same.wr (S'.trans S23) hDs, rs ++ [D2], by rw [upd_same, List.map_append]; rfl, by rw [List.length_append, lrs9]; rfl, fun i r hr => ?_⟩
          · rw [List.length_map, lrs9]
            have := (List.getElem?_eq_some_iff.mp hzz).1
            exact Nat.lt_of_lt_of_le this (show 2 ≤ sizeLine by decide)
          · by_cases hi' : i < rs.length
            · rw [List.getElem?_append_left hi'] at hr
              obtain ⟨zz', q1, q2, q3⟩ := hrs i r hr
              refine ⟨zz', q1, ?_, q3⟩
              rw [upd_ne fun e => by rw [e] at q2; rw [hD'] at q2; cases rs with
                | nil => cases hr
                | cons r0 rr => cases hzl : (flO recs zz').map Fl.nam with
                  | nil => rw [hzl] at q2; cases q2
                  | cons z0 zr => rw [hzl] at q2; cases q2]
              exact S23 _ _ q2
            · rw [List.getElem?_append_right (by omega)] at hr
              have hi2 : i = rs.length := by
                have := (List.getElem?_eq_some_iff.mp hr).1
                simp at this
                omega
              subst hi2
              rw [Nat.sub_self] at hr
              cases hr
              rw [← lrs9] at hzz
              exact ⟨zz, hzz, by rw [upd_ne nDD]; exact hD3, S02.free hD2⟩
        · rintro H' ⟨S', rs, hD', lrs9, hrs⟩
          match rs, lrs9 with
          | [s1, s2], _ =>
            obtain ⟨z1, q1, q2, q3⟩ := hrs 0 s1 rfl
            obtain ⟨z2, w1, w2, w3⟩ := hrs 1 s2 rfl
            cases q1
            cases w1
            try dsimp only [List.set_cons_succ, List.set_cons_zero]
            exact ⟨Ds, s1, s2, _, _, rfl, St.trans S', hD', q2, w2, D9, St.free q3, St.free w3⟩
      rintro σ HA ⟨Ds, s1, s2, a6, a13, rfl, SA, eDs, es1, es2, nDs, ns1, ns2⟩
      have bA := b9.same SA
      have KA := K9.same SA
      have c1A := SA _ _ c19
      have c2A := SA _ _ c29
      have cDA := SA _ _ cD9
      have cFA := SA _ _ cF9
      have tvA := TpAll.keep (Same.tk SA) _ _ tv9
      have nDsb : Ds ≠ b := new_ne nDs b9
      have ns1b : s1 ≠ b := new_ne ns1 b9
      have ns2b : s2 ≠ b := new_ne ns2 b9
      have lis : ∀ zz, ((flO recs zz).map Fl.nam).length ≤ 100 := fun zz => by rw [List.length_map]; exact Nat.le_trans (rw9.at zz).l5 (by decide)
      have nmis : ∀ zz, ∀ y ∈ (flO recs zz).map Fl.nam, Nm y := fun zz y hy => by
        obtain ⟨f, hf, rfl⟩ := List.mem_map.mp hy
        exact (rw9.at zz).nm f hf
      have mem_or : ∀ {y : Str} {st : Str}, Nm st → (y ∈ recs.map (·.1) ∨ y = st) → Nm y := fun {y st} h1 h2 => by
        rcases h2 with h | h
        · obtain ⟨r, hr, rfl⟩ := List.mem_map.mp h
          exact rw9.nm r hr
        · rw [h]; exact h1
      have nask := mem_or nform hask
      have nbk := mem_or nback hback
      refine ⟨fun σ H' => ∃ (Dd : Addr) (vs2 : List V) (ds : List (List Str)) (a15 : Option V), σ = [some (.ref b), some (.str own), some (.ref l), some (.int sz), some (.ref D), some (.ref Fo), a6, a7, some (.int x), some (.str z), some (.str ask), some (.str back), some (.ref Ds), a13, some (.ref Dd), a15] ∧ Kp b HA H' ∧ HA Dd = none ∧ Bag H' b (n + 1 + 40 + 130 + 130 * i + 2 + 2 + 1 + 20 * 6) ∧ H' Dd = some (.lst vs2) ∧ TpAll H' vs2 (ds.map dD) ∧ ds.length ≤ 6 ∧ ∀ d ∈ ds, DdW d ∧ DdIn ((flO recs ask).map Fl.nam) ((flO recs back).map Fl.nam) d, ?_, ?_⟩
      · refine ⟨_, rfl, b, 7, _, rfl, by decide, by decide, bA, by omega, fun d HB d0 d1 kB bB => ?_⟩
        refine ⟨d, rfl, by omega, by omega, fun Dd hDd => ?_⟩
        have nDdb : Dd ≠ b := new_ne hDd bB
        have KAB := kB
        have Dd0 : HA Dd = none := kB.free bB.at hDd
        refine lc_range (lo := 0) (n := d.toNat) (fun j H' => Kp b HA H' ∧ Bag H' b (n + 1 + 40 + 130 + 130 * i + 2 + 2 + 1 + 20 * j) ∧ ∃ (vs2 : List V) (ds : List (List Str)), H' Dd = some (.lst vs2) ∧ TpAll H' vs2 (ds.map dD) ∧ ds.length = j ∧ ∀ d ∈ ds, DdW d ∧ DdIn ((flO recs ask).map Fl.nam) ((flO recs back).map Fl.nam) d) ?_ ?_ ?_
        · exact ⟨kB.new hDd, (bB.new hDd).mono (by omega), [], [], upd_same, .nil, rfl, fun d h => nomatch h⟩
        · rintro j H' hj ⟨K', b', vs2, ds, e', t', l', ok'⟩
          have hj6 : j < 6 := by omega
          refine ⟨rfl, yes (iteT ?_)⟩
          refine ⟨_, rfl, _, rfl, _, rfl, Ds, _, 0, _, rfl, rfl, SqL.of (K' _ _ nDsb eDs), rfl, _, rfl, Ds, _, 1, _, rfl, rfl, SqL.of (K' _ _ nDsb eDs), rfl, ?_⟩
          refine ⟨b, s1, s2, own, _, _, _, rfl, b', by omega, no, K' _ _ ns1b es1, K' _ _ ns2b es2, lis _, lis _, nmis _, nmis _, fun t4 d4 H4 h4 l3 l4 s4 nm4 din k4' b4' => ?_⟩
          have e4 := k4' _ _ nDdb e'
          have W4 : Tk H4 (upd H4 Dd (.lst (vs2 ++ [.ref t4]))) := Tk.wr e4
          refine ⟨_, e4, ?_, (K'.trans k4').wr Dd0, (b4'.ne nDdb).mono (by omega), vs2 ++ [.ref t4], ds ++ [d4], upd_same, ?_, by rw [List.length_append, l']; rfl, fun d hd => ?_⟩
          · rw [t'.length, List.length_map, l']
            exact Nat.lt_of_lt_of_le hj6 (by decide)
          · rw [List.map_append]
            exact (TpAll.keep W4 _ _ (TpAll.keep (k4'.tk b') _ _ t')).app (TpAll.one (Tp.keep W4 _ _ (.tup h4 (TpAll.strs d4))))
          · rcases List.mem_append.mp hd with h | h
            · exact ok' d h
            · rw [List.mem_singleton.mp h]
              exact ⟨⟨l3, l4, nm4, s4⟩, din⟩
        · rintro H' ⟨K', b', vs2, ds, e', t', l', ok'⟩
          try dsimp only [List.set_cons_succ, List.set_cons_zero]
          exact ⟨Dd, vs2, ds, _, rfl, K', Dd0, b'.mono (by omega), e', t', by omega, ok'⟩
      rintro σ HB ⟨Dd, vs2, ds, a15, rfl, KB, nDd, bB, eDd, tds, lds, dds⟩
      have nDdb : Dd ≠ b := new_ne nDd bA
      have cFB := KB _ _ nFb cFA
      have nDdF : Dd ≠ Fo := fun e => by rw [e, cFA] at nDd; cases nDd
      try dsimp only [List.set_cons_succ, List.set_cons_zero]
      refine ⟨_, rfl, .inl ⟨rfl, _, SqL.of cFB⟩, ?_⟩
      refine ⟨_, rfl, _, rfl, _, rfl, _, rfl, _, rfl, Dd, _, rfl, .inl ⟨SqL.of eDd, fun tp htp => ⟨(by show 5 ≤ sizeLine; decide), fun tc htc => ?_⟩⟩⟩
      have SP := Same.new (H := HB) (o := .tup vs2) htp
      have eP : Tp (upd HB tp (.tup vs2)) (.ref tp) (.tuple (ds.map dD)) := .tup upd_same (TpAll.keep (Same.tk SP) _ _ tds)
      have bC := bB.same SP
      generalize (upd HB tp (.tup vs2)) = HC at *
      have SQ := Same.new (H := HC) (o := .tup [.int x, .str z, .str ask, .str back, .ref tp]) htc
      have eQ : Tp (upd HC tc (.tup [.int x, .str z, .str ask, .str back, .ref tp])) (.ref tc) (Cw.d ⟨x, z, ask, back, ds⟩) := .tup upd_same (.cons (.int _) (.cons (.str _) (.cons (.str _) (.cons (.str _) (.cons (Tp.keep (Same.tk SQ) _ _ eP) .nil)))))
      have bD := bC.same SQ
      generalize (upd HC tc (.tup [.int x, .str z, .str ask, .str back, .ref tp])) = HD at *
      have SPQ := SP.trans SQ
      have KD := (KA.trans KB).same SPQ
      have KAD : Kp b HA HD := KB.same SPQ
      have cFD := SPQ _ _ cFB
      have W : Tk HD (upd HD Fo (.lst (vs ++ [.ref tc]))) := Tk.wr cFD
      refine ⟨Fo, _, _, rfl, rfl, cFD, ?_, ?_⟩
      · have e1 := tv.length
        have e2 := congrArg List.length en
        rw [List.length_map] at e1
        rw [List.length_map, List.length_take] at e2
        exact Nat.lt_of_le_of_lt (show _ ≤ 10 by omega) (by decide)
      refine ⟨vs ++ [.ref tc], cl ++ [⟨x, z, ask, back, ds⟩], ⟨_, _, _, _, _, _, _, _, _, _, rfl⟩, KD.wr Fo0, (bD.ne nFb).mono (by omega), by rw [upd_ne n1F]; exact KAD _ _ n1b c1A, by rw [upd_ne n2F]; exact KAD _ _ nb2 c2A, by rw [upd_ne nDF]; exact KAD _ _ nDb cDA, upd_same, ?_, ?_, ?_, fun c hc => ?_⟩
      · rw [List.map_append]
        exact (TpAll.keep W _ _ (TpAll.keep (KAD.tk bA) _ _ tvA)).app (TpAll.one (Tp.keep W _ _ eQ))
      · rw [List.map_append, en, List.take_add_one, hz]
        rfl
      · rw [List.map_append, eu, List.take_add_one, hx]
        rfl
      · rcases List.mem_append.mp hc with h | h
        · exact cw9 c h
        · rw [List.mem_singleton.mp h]
          exact ⟨⟨nz z (List.mem_of_getElem? hz), nask, nbk, lds, fun d hd => (dds d hd).1⟩, hask, hback, fun d hd => (dds d hd).2⟩
    · rintro σ H6 ⟨vs, cl, ⟨a6, a7, a8, a9, a10, a11, a12, a13, a14, a15, rfl⟩, K6, b6, c1, c2, cD, cF, tv, en, eu, cw9⟩
      rw [← lz, List.take_length] at en
      have lz2 : ns.take sz = ns := by rw [← ln, List.take_length]
      rw [lz2] at eu
      have lc : cl.length ≤ 6 := by
        have := congrArg List.length en
        rw [List.length_map] at this
        omega
      refine ⟨_, rfl, Fo, _, rfl, .inl ⟨SqL.of cF, fun p9 hp9 => ?_⟩⟩
      refine q _ cl _ (.tup upd_same (TpAll.keep (Same.tk (Same.new hp9)) _ _ tv)) ⟨lc, by rw [en]; exact nd, fun c hc => (cw9 c hc).1, by rw [eu]; exact rise, fun f hf => rg f.num (by rw [← eu]; exact List.mem_map.mpr ⟨f, hf, rfl⟩)⟩ (fun c hc => (cw9 c hc).2) (K6.new hp9) ((b6.new hp9).mono (by omega))
end
end Fh

set_option Elab.async false
set_option linter.all false
set_option maxRecDepth 100000
set_option maxHeartbeats 4000000
/-! tuple(zip(a, b)) of two lists of one length -/
namespace Fh
open PySem PySem.Spec PyProof.Rows L2
/-- the zip ahead of turn i -/
structure ZAt (h : Heap) (z TI TO i1 i2 l1 l2 S : Addr) (xs ys : Array Value) (i : Nat) : Prop where
  ti : PySem.IsPair h TI (.ref i1) (.ref i2)
  a1 : h.IsListIter i1 l1 i
  a2 : h.IsListIter i2 l2 i
  b1 : h.IsList l1 xs
  b2 : h.IsList l2 ys
  tt : ∃ a b, PySem.IsPair h TO a b
  zp : IsZip h z TI TO .none ∨ ∃ T f oT, IsZipHeld h z TI TO T f ∧ h.get? T = some oT ∧ T ≠ z ∧ T ≠ i1 ∧ T ≠ i2 ∧ T ≠ S
/-- the pairs given out so far -/
def Outs (h : Heap) (xs ys : Array Value) (bad : List Addr) (ps : List Addr) : Prop := ∀ (j : Nat) (p : Addr), ps[j]? = some p → p ∉ bad ∧ ∃ x y, xs[j]? = some x ∧ ys[j]? = some y ∧ PySem.IsPair h p x y
def lstO (ps : List Addr) (c : Nat) : Obj := { cls := .type "list", dict := none, data := .seq (ps.map Value.ref).toArray c, slots := #[] }
structure OffS (S z TI TO i1 i2 l1 l2 : Addr) : Prop where
  z : S ≠ z
  ti : S ≠ TI
  to : S ≠ TO
  a1 : S ≠ i1
  a2 : S ≠ i2
  b1 : S ≠ l1
  b2 : S ≠ l2
section
variable {prog : Program} {w : World} {A : Around} {R : Result → Shared → Prop} {z TI TO i1 i2 l1 l2 S : Addr} {xs ys : Array Value}
theorem ZAt.off {h h' : Heap} {i : Nat} (Z : ZAt h z TI TO i1 i2 l1 l2 S xs ys i) (o : OffS S z TI TO i1 i2 l1 l2) (k : ∀ b ob, b ≠ S → h.get? b = some ob → h'.get? b = some ob) : ZAt h' z TI TO i1 i2 l1 l2 S xs ys i := by
  refine ⟨k _ _ (Ne.symm o.ti) Z.ti, Z.a1.at fun ob e => k _ ob (Ne.symm o.a1) e, Z.a2.at fun ob e => k _ ob (Ne.symm o.a2) e, Z.b1.at fun ob e => k _ ob (Ne.symm o.b1) e, Z.b2.at fun ob e => k _ ob (Ne.symm o.b2) e, let ⟨a, b, q⟩ := Z.tt; ⟨a, b, k _ _ (Ne.symm o.to) q⟩, ?_⟩
  rcases Z.zp with hz | ⟨T, f, oT, hz, hT, r1, r2, r3, r4⟩
  · exact .inl (k _ _ (Ne.symm o.z) hz)
  · exact .inr ⟨T, f, oT, k _ _ (Ne.symm o.z) hz, k _ _ r4 hT, r1, r2, r3, r4⟩
theorem ext_zip (hA : A.in1.handled = none) (D : ZipApart z TI TO i1 i2 l1 l2) (o : OffS S z TI TO i1 i2 l1 l2) (hsz : xs.size = ys.size) (hn : xs.size < sizeLine) (res : Value) (B0 : Nat) :
    ∀ (k i : Nat) (s : Shared) (ps : List Addr) (c : Nat), xs.size - i = k → i ≤ xs.size → ZAt s.heap z TI TO i1 i2 l1 l2 S xs ys i → s.heap.get? S = some (lstO ps c) → ps.length = i → ps.Nodup → Outs s.heap xs ys [S, z, TO, i1, i2] ps → (∀ p ∈ ps, B0 ≤ p) → B0 ≤ s.heap.objs.size →
      (∀ (h' : Heap) (ps' : List Addr) (c' : Nat), (∀ b ob, b ∉ [S, z, TO, i1, i2] → s.heap.get? b = some ob → h'.get? b = some ob) → h'.get? S = some (lstO ps' c') → ps'.length = xs.size → ps'.Nodup → Outs h' xs ys [S, z, TO, i1, i2] ps' → (∀ p ∈ ps', B0 ≤ p) → R (.ok (.ret res)) { s with heap := h' }) →
      codeAny (model prog w) A (.builtin "list.extend.loop" ⟨[.ref S, .ref z, res], []⟩) R s := by
  intro k
  induction k with
  | zero =>
    intro i s ps c hk hi Z hS hl hnd hO hB hB0 hR
    have hin : i = xs.size := by omega
    (refine codeAny_builtin F.entry_extend_loop ?_; rw [Around.under_plainId F.plain_extend_loop _]; show wpAny _ A.in1 (pyNext (.ref z) >>= _) _ _ s; refine wpAny_bind ?_)
    have hend : xs[i]? = none ∨ ys[i]? = none := .inl (Array.getElem?_eq_none (by omega))
    have fin : ∀ h' : Heap, (∀ b ob, b ≠ z → b ≠ TO → b ≠ i1 → b ≠ i2 → s.heap.get? b = some ob → h'.get? b = some ob) → R (.ok (.ret res)) { s with heap := h' } := fun h' hk' => by
      refine hR h' ps c (fun b ob hb e => ?_) (hk' _ _ o.z o.to o.a1 o.a2 hS) (by omega) hnd (fun j p hp => ?_) hB
      · simp only [List.mem_cons, List.not_mem_nil, or_false, not_or] at hb
        exact hk' b ob hb.2.1 hb.2.2.1 hb.2.2.2.1 hb.2.2.2.2 e
      · obtain ⟨nb, x, y, hx, hy, hp'⟩ := hO j p hp
        refine ⟨nb, x, y, hx, hy, ?_⟩
        simp only [List.mem_cons, List.not_mem_nil, or_false, not_or] at nb
        exact hk' _ _ nb.2.1 nb.2.2.1 nb.2.2.2.1 nb.2.2.2.2 hp'
    obtain ⟨ta, tb, hTO⟩ := Z.tt
    rcases Z.zp with hz | ⟨T, f, oT, hz, hT, r1, r2, r3, r4⟩
    · exact wpAny_pyNext_zip_end hA D hz Z.ti hTO Z.a1 Z.a2 Z.b1 Z.b2 hend fun h' hk' => wpAny_pure (fin h' hk')
    · exact wpAny_pyNext_zip_end_held hA D hz hT Z.ti Z.a1 Z.a2 Z.b1 Z.b2 hend fun h' hk' => wpAny_pure (fin h' fun b ob n1 _ n3 n4 e => hk' b ob n1 n3 n4 e)
  | succ k ih =>
    intro i s ps c hk hi Z hS hl hnd hO hB hB0 hR
    have hlt : i < xs.size := by omega
    have hlt2 : i < ys.size := by omega
    have ex := Array.getElem?_eq_getElem hlt
    have ey := Array.getElem?_eq_getElem hlt2
    (refine codeAny_builtin F.entry_extend_loop ?_; rw [Around.under_plainId F.plain_extend_loop _]; show wpAny _ A.in1 (pyNext (.ref z) >>= _) _ _ s; refine wpAny_bind ?_)
    have lt : ∀ {c ob}, s.heap.get? c = some ob → s.heap.objs.size ≠ c := fun e => Nat.ne_of_gt (Heap.lt_size e)
    have n1 : s.heap.objs.size ≠ i1 := let ⟨_, e, _⟩ := Z.a1; lt e
    have n2 : s.heap.objs.size ≠ i2 := let ⟨_, e, _⟩ := Z.a2; lt e
    have nS : s.heap.objs.size ≠ S := lt hS
    have nz : s.heap.objs.size ≠ z := by
      rcases Z.zp with hz | ⟨T, f, oT, hz, _⟩
      · exact lt hz
      · exact lt hz
    have go : ∀ h' : Heap, s.heap.objs.size ≠ TO → ZAt h' z TI TO i1 i2 l1 l2 S xs ys (i + 1) → PySem.IsPair h' s.heap.objs.size xs[i] ys[i] → h'.objs.size = s.heap.objs.size + 1 →
        (∀ b ob, b ≠ z → b ≠ TO → b ≠ i1 → b ≠ i2 → s.heap.get? b = some ob → h'.get? b = some ob) →
        wpAny (model prog w) A.in1 (updateSeq S (·.push (.ref s.heap.objs.size)) >>= fun _ => again (.builtin "list.extend.loop" ⟨[.ref S, .ref z, res], []⟩)) (fun fin s' => match fin with
          | .done f => R (.ok f) s'
          | .again c' => c'.quiet = true ∧ codeAny (model prog w) A c' R s') (fun e s' => R (.error e) s') { s with heap := h' } := by
      intro h' nTO Z' hp' hsz' hk'
      have hS' : h'.get? S = some (lstO ps c) := hk' _ _ o.z o.to o.a1 o.a2 hS
      have szl : ((ps.map Value.ref).toArray).size = i := by simp [hl]
      refine wpAny_bind (wpAny_updateSeq (s := { s with heap := h' }) hS' rfl (wpAny_pure ⟨plainId_quiet F.plain_extend_loop _, ?_⟩) (by rw [szl]; omega) (by show (((ps.map Value.ref).toArray).push _).size ≤ sizeLine + 1; rw [Array.size_push, szl]; omega))
      have oth : ∀ b ob, b ≠ S → h'.get? b = some ob → (h'.update S (Obj.mapSeq (·.push (.ref s.heap.objs.size)))).get? b = some ob := fun b ob hb e => (Heap.get?_update_other _ _ (Ne.symm hb)).trans e
      have hS2 := Heap.get?_update_self (Obj.mapSeq (·.push (Value.ref s.heap.objs.size))) hS' rfl
      have eA : ((ps.map Value.ref).toArray.push (Value.ref s.heap.objs.size)) = ((ps ++ [s.heap.objs.size]).map Value.ref).toArray := by simp
      have hS3 : ∃ c', (h'.update S (Obj.mapSeq (·.push (Value.ref s.heap.objs.size)))).get? S = some (lstO (ps ++ [s.heap.objs.size]) c') := by
        rw [hS2]
        unfold lstO
        rw [← eA]
        exact ⟨_, rfl⟩
      obtain ⟨c', hS4⟩ := hS3
      have sz2 : (h'.update S (Obj.mapSeq (·.push (Value.ref s.heap.objs.size)))).objs.size = h'.objs.size := by simp
      have kept : ∀ b ob, b ∉ [S, z, TO, i1, i2] → s.heap.get? b = some ob → (h'.update S (Obj.mapSeq (·.push (Value.ref s.heap.objs.size)))).get? b = some ob := fun b ob hb e => by
        simp only [List.mem_cons, List.not_mem_nil, or_false, not_or] at hb
        exact oth b ob hb.1 (hk' b ob hb.2.1 hb.2.2.1 hb.2.2.2.1 hb.2.2.2.2 e)
      refine ih (i + 1) { s with heap := h'.update S (Obj.mapSeq (·.push (Value.ref s.heap.objs.size))) } (ps ++ [s.heap.objs.size]) c' (by omega) hlt (Z'.off o oth) hS4 (by rw [List.length_append, hl]; rfl) ?_ ?_ ?_ ?_ ?_
      · rw [List.nodup_append]
        refine ⟨hnd, List.nodup_cons.mpr ⟨fun h => (nomatch h), List.nodup_nil⟩, fun a ha b hb e => ?_⟩
        rw [List.mem_singleton.mp hb] at e
        obtain ⟨j, hj⟩ := List.getElem?_of_mem ha
        obtain ⟨_, x, y, _, _, hp⟩ := hO j a hj
        exact lt hp e.symm
      · intro j p hp
        rw [List.getElem?_append] at hp
        split at hp
        · obtain ⟨nb, x, y, hx, hy, hp2⟩ := hO j p hp
          exact ⟨nb, x, y, hx, hy, kept p _ nb hp2⟩
        · rename_i hj
          have hj' : j - ps.length = 0 := by
            by_cases e : j - ps.length = 0
            · exact e
            · rw [List.getElem?_eq_none (by simp; omega)] at hp
              cases hp
          rw [hj'] at hp
          have hjj : j = i := by omega
          subst hjj
          cases hp
          refine ⟨?_, xs[j], ys[j], ex, ey, oth _ _ nS hp'⟩
          simp only [List.mem_cons, List.not_mem_nil, or_false, not_or]
          exact ⟨nS, nz, nTO, n1, n2⟩
      · intro p hp
        rcases List.mem_append.mp hp with h | h
        · exact hB p h
        · rw [List.mem_singleton.mp h]; exact hB0
      · show B0 ≤ (h'.update S (Obj.mapSeq (·.push (Value.ref s.heap.objs.size)))).objs.size
        rw [sz2, hsz']
        omega
      · intro h'' ps' c'' hk'' hS'' hl'' hnd'' hO'' hB''
        exact hR h'' ps' c'' (fun b ob hb e => hk'' b ob hb (kept b ob hb e)) hS'' hl'' hnd'' hO'' hB''
    obtain ⟨ta, tb, hTO⟩ := Z.tt
    rcases Z.zp with hz | ⟨T, f, oT, hz, hT, r1, r2, r3, r4⟩
    · refine wpAny_pyNext_zip_item D hz Z.ti hTO Z.a1 Z.a2 Z.b1 Z.b2 ex ey fun h' q1 q2 q3 q4 q5 q6 hk' => ?_
      exact go h' (lt hTO) ⟨hk' _ _ D.TIz D.TITO D.TIi1 D.TIi2 Z.ti, q3, q4, Z.b1.at fun ob e => hk' _ ob D.l1z D.l1TO D.l1i1 D.l1i2 e, Z.b2.at fun ob e => hk' _ ob D.l2z D.l2TO D.l2i1 D.l2i2 e, ⟨_, _, q2⟩, .inr ⟨s.heap.objs.size, false, _, q1, q5, nz, n1, n2, nS⟩⟩ q5 q6 hk'
    · refine wpAny_pyNext_zip_item_held D hz hT Z.ti Z.a1 Z.a2 Z.b1 Z.b2 ex ey fun h' q1 q3 q4 q5 q6 hk' => ?_
      exact go h' (lt hTO) ⟨hk' _ _ D.TIz D.TIi1 D.TIi2 Z.ti, q3, q4, Z.b1.at fun ob e => hk' _ ob D.l1z D.l1i1 D.l1i2 e, Z.b2.at fun ob e => hk' _ ob D.l2z D.l2i1 D.l2i2 e, ⟨_, _, hk' _ _ D.TOz D.TOi1 D.TOi2 hTO⟩, .inr ⟨T, true, oT, q1, hk' _ _ r1 r2 r3 hT, r1, r2, r3, r4⟩⟩ q5 q6 (fun b ob n1 _ n3 n4 e => hk' b ob n1 n3 n4 e)
end
/-! ### the tuple of it -/
theorem zip_nolen : typeLookup (.type "zip") "__len__" = pure none := am_miss_of_fast (by decide +kernel)
theorem zip_nohint : typeLookup (.type "zip") "__length_hint__" = pure none := am_miss_of_fast (by decide +kernel)
def emptyL : Obj := { cls := .type "list", data := .seq ([] : List Value).toArray }
section
variable {prog : Program} {w : World} {A : Around} {E : Value → Shared → Prop} {s : Shared} {z TI TO i1 i2 l1 l2 : Addr} {xs ys : Array Value}
theorem collect_zip {Q : List Value → Shared → Prop} (hA : A.handled = none) (D : ZipApart z TI TO i1 i2 l1 l2) (hsz : xs.size = ys.size) (hn : xs.size < sizeLine)
    (ti : PySem.IsPair s.heap TI (.ref i1) (.ref i2)) (a1 : s.heap.IsListIter i1 l1 0) (a2 : s.heap.IsListIter i2 l2 0) (b1 : s.heap.IsList l1 xs) (b2 : s.heap.IsList l2 ys) (hz : IsZip s.heap z TI TO .none) (tt : ∃ a b, PySem.IsPair s.heap TO a b)
    (hQ : ∀ (h' : Heap) (ps : List Addr), (∀ b ob, b ∉ [z, TO, i1, i2] → s.heap.get? b = some ob → h'.get? b = some ob) → ps.length = xs.size → ps.Nodup → Outs h' xs ys [] ps → (∀ p ∈ ps, s.heap.objs.size ≤ p) → Q (ps.map Value.ref) { s with heap := h' }) :
    wpAny (model prog w) A (collect (.ref z)) Q E s := by
  have lt : ∀ {c ob}, s.heap.get? c = some ob → s.heap.objs.size ≠ c := fun e => Nat.ne_of_gt (Heap.lt_size e)
  have o : OffS s.heap.objs.size z TI TO i1 i2 l1 l2 := ⟨lt hz, lt ti, let ⟨_, _, q⟩ := tt; lt q, let ⟨_, e, _⟩ := a1; lt e, let ⟨_, e, _⟩ := a2; lt e, let ⟨_, e, _⟩ := b1; lt e, let ⟨_, e, _⟩ := b2; lt e⟩
  have hT1 : ({ s with heap := s.heap.push emptyL } : Shared).TypeIs (.ref z) "zip" := ⟨_, Heap.get?_push_of_some _ hz, rfl⟩
  unfold collect
  (refine wpAny_bind (wpAny_runValue (codeAny_builtin F.entry_proto_collect ?_)); rw [Around.under_plainId F.plain_proto_collect _])
  (show wpAny _ A.in1 (newList [] >>= fun l' => again (.builtin "list.__iadd__" ⟨[l', .ref z], []⟩)) _ _ s; refine wpAny_bind (wpAny_newObj_type ?_))
  (refine wpAny_pure ⟨plainId_quiet F.plain_list_iadd _, codeAny_builtin F.entry_list_iadd ?_⟩; rw [Around.under_plainId F.plain_list_iadd _])
  show wpAny _ A.in1 (Builtin.List.listExtendWith (.ref s.heap.objs.size) (.ref z) (.ref s.heap.objs.size)) _ _ { s with heap := s.heap.push emptyL }
  unfold Builtin.List.listExtendWith
  refine wpAny_bind (wpAny_typeOf hT1 ?_)
  have g1 : Builtin.List.listSameRef (.ref s.heap.objs.size) (.ref z) = false := by simp [Builtin.List.listSameRef, o.z]
  have g2 : (Value.type "zip" == Value.type "list") = false := by decide
  have g3 : (Value.type "zip" == Value.type "tuple") = false := by decide
  simp only [g1, g2, g3, Bool.or_false, Bool.false_eq_true, if_false]
  refine wpAny_bind (wpAny_pyIter_zip (s := { s with heap := s.heap.push emptyL }) (Heap.get?_push_of_some _ hz) ?_)
  (refine wpAny_bind (wpAny_holding ?_); unfold Builtin.List.listLengthHint; refine wpAny_bind (wpAny_specialOf hT1 zip_nolen ?_))
  (show wpAny _ A.in1 (specialOf (Value.ref z) (Str.ofString "__length_hint__") >>= _) _ _ _; refine wpAny_bind (wpAny_specialOf hT1 zip_nohint ?_); refine wpAny_pure ?_)
  show wpAny _ A.in1 (rule "list.extend.makes-room" >>= fun _ => Builtin.List.listTouch (.ref s.heap.objs.size) >>= fun _ => again (.builtin "list.extend.loop" ⟨[.ref s.heap.objs.size, .ref z, .ref s.heap.objs.size], []⟩)) _ _ _
  refine wpAny_bind (wpAny_rule ?_)
  have t1 : (s.heap.push emptyL).get? s.heap.objs.size = some emptyL := Heap.get?_push_size _ rfl
  refine wpAny_bind ?_
  show wpAny _ A.in1 (updateSeq s.heap.objs.size (·.push .none) >>= fun _ => updateSeq s.heap.objs.size (·.pop)) _ _ { s with heap := s.heap.push emptyL }
  refine wpAny_bind (wpAny_updateSeq (s := { s with heap := s.heap.push emptyL }) t1 rfl ?_)
  have t2 := Heap.get?_update_self (Obj.mapSeq (·.push Value.none)) t1 rfl
  refine wpAny_updateSeq (s := { s with heap := (s.heap.push emptyL).update s.heap.objs.size (Obj.mapSeq (·.push Value.none)) }) t2 rfl ?_
  have t3 := Heap.get?_update_self (Obj.mapSeq (·.pop)) t2 rfl
  have oth : ∀ b ob, b ≠ s.heap.objs.size → s.heap.get? b = some ob → (((s.heap.push emptyL).update s.heap.objs.size (Obj.mapSeq (·.push Value.none))).update s.heap.objs.size (Obj.mapSeq (·.pop))).get? b = some ob := fun b ob hb e =>
    (Heap.get?_update_other _ _ (Ne.symm hb)).trans ((Heap.get?_update_other _ _ (Ne.symm hb)).trans (Heap.get?_push_of_some _ e))
  have Z0 : ZAt s.heap z TI TO i1 i2 l1 l2 s.heap.objs.size xs ys 0 := ⟨ti, a1, a2, b1, b2, tt, .inl hz⟩
  have t4 : ∃ c, (((s.heap.push emptyL).update s.heap.objs.size (Obj.mapSeq (·.push Value.none))).update s.heap.objs.size (Obj.mapSeq (·.pop))).get? s.heap.objs.size = some (lstO [] c) := ⟨_, t3⟩
  obtain ⟨c, t5⟩ := t4
  have bsz : s.heap.objs.size ≤ (((s.heap.push emptyL).update s.heap.objs.size (Obj.mapSeq (·.push Value.none))).update s.heap.objs.size (Obj.mapSeq (·.pop))).objs.size := by simp
  refine wpAny_pure ⟨plainId_quiet F.plain_extend_loop _, ext_zip (S := s.heap.objs.size) hA D o hsz hn _ s.heap.objs.size xs.size 0 { s with heap := ((s.heap.push emptyL).update s.heap.objs.size (Obj.mapSeq (·.push Value.none))).update s.heap.objs.size (Obj.mapSeq (·.pop)) } [] c (by omega) (Nat.zero_le _) (Z0.off o oth) t5 rfl List.nodup_nil (fun j p h => by simp at h) (fun p h => by cases h) bsz fun h' ps c' hk' hS' hl hnd hO hB => ?_⟩
  (show wpAny _ A (load s.heap.objs.size >>= _) _ _ _; refine wpAny_bind (wpAny_load (s := { s with heap := h' }) hS' ?_); refine wpAny_pure ?_)
  have e : ((ps.map Value.ref).toArray).toList = ps.map Value.ref := by simp
  show Q ((ps.map Value.ref).toArray).toList { s with heap := h' }
  rw [e]
  refine hQ h' ps (fun b ob hb q => ?_) hl hnd (fun j p hp => ⟨fun h => (nomatch h), (hO j p hp).2⟩) hB
  have nS : b ≠ s.heap.objs.size := fun e => lt q e.symm
  refine hk' b ob (fun hm => ?_) (oth b ob nS q)
  rcases List.mem_cons.mp hm with h | h
  · exact nS h
  · exact hb h
theorem code_tuple_zip {Q1 : Value → Shared → Prop} (hA : A.handled = none) (D : ZipApart z TI TO i1 i2 l1 l2) (hsz : xs.size = ys.size) (hn : xs.size < sizeLine)
    (ti : PySem.IsPair s.heap TI (.ref i1) (.ref i2)) (a1 : s.heap.IsListIter i1 l1 0) (a2 : s.heap.IsListIter i2 l2 0) (b1 : s.heap.IsList l1 xs) (b2 : s.heap.IsList l2 ys) (hz : IsZip s.heap z TI TO .none) (tt : ∃ a b, PySem.IsPair s.heap TO a b)
    (hQ : ∀ (h' : Heap) (ps : List Addr), (∀ b ob, b ∉ [z, TO, i1, i2] → s.heap.get? b = some ob → h'.get? b = some ob) → ps.length = xs.size → ps.Nodup → Outs h' xs ys [] ps → (∀ p ∈ ps, s.heap.objs.size ≤ p) → Q1 (.ref h'.objs.size) { s with heap := h'.push { cls := .type "tuple", data := .seq (ps.map Value.ref).toArray } }) :
    codeAny (model prog w) A (.call (.builtin "tuple.__new__") ⟨[.type "tuple", .ref z], []⟩) (wants Q1 E) s := by
  refine codeAny_of_tree ?_
  show wpAny _ A.in1 (do checkBuiltinCall "tuple.__new__" ⟨[.type "tuple", .ref z], []⟩; again (.builtin "tuple.__new__" ⟨[.type "tuple", .ref z], []⟩)) _ _ s
  (refine wpAny_bind (wpAny_of_eq (F.newCall_tuple_1 _) (wpAny_pure ⟨plainId_quiet F.plain_tuple_new _, codeAny_builtin F.entry_tuple_new ?_⟩)); rw [Around.under_plainId F.plain_tuple_new _])
  have f1 := sub_tuple_self
  have f2 := init_tuple_lookup
  have f3 := madeHere_tuple
  have f4 : s.TypeIs (.ref z) "zip" := ⟨_, hz, rfl⟩
  have hA1 : A.in1.handled = none := hA
  wp_walk using wpAny_typeOf f4, collect_zip (A := A.in1) hA1 D hsz hn ti a1 a2 b1 b2 hz tt
  intro h' ps hk hl hnd hO hB
  show wpAny _ _ (Builtin.Tuple.tupleExact (ps.map Value.ref).toArray >>= fun v => ret v) _ _ { s with heap := h' }
  unfold Builtin.Tuple.tupleExact
  refine wpAny_bind (wpAny_newObj_type ?_ (by show ((ps.map Value.ref).toArray).size ≤ sizeLine; simp; omega))
  exact wpAny_pure (hQ h' ps hk hl hnd hO hB)
theorem call_tuple_zip {Q : Value → Shared → Prop} (hA : A.handled = none) (D : ZipApart z TI TO i1 i2 l1 l2) (hsz : xs.size = ys.size) (hn : xs.size < sizeLine)
    (ti : PySem.IsPair s.heap TI (.ref i1) (.ref i2)) (a1 : s.heap.IsListIter i1 l1 0) (a2 : s.heap.IsListIter i2 l2 0) (b1 : s.heap.IsList l1 xs) (b2 : s.heap.IsList l2 ys) (hz : IsZip s.heap z TI TO .none) (tt : ∃ a b, PySem.IsPair s.heap TO a b)
    (hQ : ∀ (h' : Heap) (ps : List Addr), (∀ b ob, b ∉ [z, TO, i1, i2] → s.heap.get? b = some ob → h'.get? b = some ob) → ps.length = xs.size → ps.Nodup → Outs h' xs ys [] ps → (∀ p ∈ ps, s.heap.objs.size ≤ p) → Q (.ref h'.objs.size) { s with heap := h'.push { cls := .type "tuple", data := .seq (ps.map Value.ref).toArray } }) :
    wpAny (model prog w) A (call (.type "tuple") [.ref z]) Q E s := by
  refine callType_codes (Q₁ := fun obj s1 => s1.TypeIs obj "tuple" ∧ Q obj s1) F.called_tuple (F.typeCall_tuple_1 _) F.entry_object_init
    (code_tuple_zip (A := A.in1) hA D hsz hn ti a1 a2 b1 b2 hz tt fun h' ps hk hl hnd hO hB => ⟨⟨_, Heap.get?_push_size _ rfl, rfl⟩, hQ h' ps hk hl hnd hO hB⟩) fun obj s1 q => ?_
  exact ⟨q.1, F.args_object_init_2 obj _, object_init_meets F.called_tuple.init.lookup F.called_tuple.made (by decide) prog w A.in1 _ s1 ⟨q.1, rfl, q.2⟩⟩
end
end Fh

set_option Elab.async false
set_option linter.all false
set_option maxRecDepth 100000
set_option maxHeartbeats 4000000
namespace Fh
open PySem PySem.Spec PyProof.Rows L2
theorem hok_add {P : Program} {w : World} {H : Hp} {h : Heap} {a : Addr} {xs : List V} {its : List Value} (ok : HOk P w H h) (hn : H a = none) (hz : xs.length ≤ sizeLine) (r : Vals xs its) (ht : IsTup h a its.toArray) : HOk P w (upd H a (.tup xs)) h := fun b u e => by
  by_cases hb : b = a
  · subst hb
    rw [upd_same] at e
    cases e
    exact ⟨hz, its, r, ht⟩
  · rw [upd_ne hb] at e
    exact (ok b u e).stay (fun c v _ q => q) (fun c q => by rw [upd_ne (ne_of_none q hn)]; exact q) fun c ys q => by rw [upd_ne (ne_of_none q hn)]; exact q
theorem inv_grow {X : Cx} {pins : List (Addr × Obj)} {σ : L2.St} {H H' : Hp} {s : Shared} {h' : Heap} {t' : Nat} (I : Inv X pins σ H s) (k : ∀ b u, s.heap.get? b = some u → h'.get? b = some u) (hs : Same H H')
    (hf : ∀ b o, s.heap.get? b = some o → H b = none → H' b = none) (hok : HOk X.prog X.w H' h') : Inv X pins σ H' { s with heap := h', toks := t' } :=
  I.un ⟨fun b ob q _ _ _ => k b ob q, fun b ob q _ _ _ => ⟨ob.slots, k b ob q⟩, fun b ob q n _ => hf b ob q n, fun b ob q _ => ⟨ob, k b ob q⟩, fun b xs q => hs _ _ q, fun b o u q => hs _ _ q, fun b ps q => ⟨#[], by rw [hs _ _ q]; simp⟩⟩ hok
/-- pairs laid one after another -/
def putP (H : Hp) : List (Addr × V × V) → Hp
  | [] => H
  | (p, x, y) :: r => upd (putP H r) p (.tup [x, y])
theorem putP_out {H : Hp} {a : Addr} : ∀ {l : List (Addr × V × V)}, a ∉ l.map (·.1) → putP H l a = H a
  | [], _ => rfl
  | (p, x, y) :: r, h => by
    have h1 : a ≠ p := fun e => h (by rw [e]; exact List.mem_cons_self)
    have h2 : a ∉ r.map (·.1) := fun e => h (List.mem_cons_of_mem _ e)
    show upd (putP H r) p (.tup [x, y]) a = _
    rw [upd_ne h1, putP_out h2]
theorem putP_at {H : Hp} : ∀ {l : List (Addr × V × V)} {q : Addr × V × V}, (l.map (·.1)).Nodup → q ∈ l → putP H l q.1 = some (.tup [q.2.1, q.2.2])
  | (p, x, y) :: r, q, hn, hq => by
    obtain ⟨h1, h2⟩ := List.nodup_cons.mp hn
    show upd (putP H r) p (.tup [x, y]) q.1 = _
    rcases List.mem_cons.mp hq with rfl | hq
    · rw [upd_same]
    · have hne : q.1 ≠ p := fun e => h1 (by rw [← e]; exact List.mem_map.mpr ⟨q, hq, rfl⟩)
      rw [upd_ne hne, putP_at h2 hq]
theorem hok_putP {P : Program} {w : World} {H : Hp} {h : Heap} (ok : HOk P w H h) : ∀ {l : List (Addr × V × V)}, (l.map (·.1)).Nodup → (∀ q ∈ l, H q.1 = none ∧ ∃ u v, RelV q.2.1 u ∧ RelV q.2.2 v ∧ PySem.IsPair h q.1 u v) → HOk P w (putP H l) h
  | [], _, _ => ok
  | (p, x, y) :: r, hn, hq => by
    obtain ⟨h1, h2⟩ := List.nodup_cons.mp hn
    obtain ⟨hp, u, v, ru, rv, hpr⟩ := hq (p, x, y) List.mem_cons_self
    refine hok_add (its := [u, v]) (hok_putP ok h2 fun q h => hq q (List.mem_cons_of_mem _ h)) (by rw [putP_out h1]; exact hp) (by show 2 ≤ sizeLine; decide) (.cons ru (.cons rv .nil)) ⟨_, hpr, rfl, _, rfl⟩
def tTupZip (K : PySem.W.Frag) (ta : TA) : TE := fun σ H Q => ta σ H fun vs H1 => ∃ (a b : Addr) (xs ys : List V), vs = [.ref a, .ref b] ∧ SqL K H1 a xs ∧ SqL K H1 b ys ∧ xs.length = ys.length ∧ xs.length < sizeLine ∧
  ∀ (R : Addr) (ps : List Addr) (H2 : Hp), Same H1 H2 → H1 R = none → H2 R = some (.tup (ps.map V.ref)) → ps.length = xs.length → (∀ (j : Nat) (p : Addr) (x y : V), ps[j]? = some p → xs[j]? = some x → ys[j]? = some y → H2 p = some (.tup [x, y])) → Q (.ref R) H2
theorem vals_refs9 : ∀ ps : List Addr, Vals (ps.map V.ref) (ps.map Value.ref)
  | [] => .nil
  | p :: r => .cons rfl (vals_refs9 r)
theorem pe_tupZip {X : Cx} {e e2 : Expr} {ta : TA} {p p2 pos pos2 : Pos} (hc : X.calm = true) (hg : Gl X "tuple") (hm : X.mg "tuple" = none) (hg2 : Gl X "zip") (hm2 : X.mg "zip" = none) (ha : PA X [e, e2] ta)
    (hs : starEach [e, e2] X.env = (false, eval e X.env) :: starEach [e2] X.env := by rfl) (hpl : (backTo pos2 (starEach [e2] X.env)).any (·.1) = false := by rfl)
    (hs2 : starEach [.Call (.Name "zip" p2) [e, e2] [] pos2] X.env = (false, eval (.Call (.Name "zip" p2) [e, e2] [] pos2) X.env) :: starEach [] X.env := by rfl) :
    PE X (.Call (.Name "tuple" p) [.Call (.Name "zip" p2) [e, e2] [] pos2] [] pos) (tTupZip X.K ta) := by
  refine ⟨fun pins s σ H Q I h => ?_⟩
  refine Call_ (ld_blt I hg hm boot_tuple (PyProof.Rows.callWith_type1 (args_cons (Call_ (ld_blt I hg2 hm2 PyProof.Rows.boot_zip (PyProof.Rows.callWith_type1 (thn (ha.run pos2 pins s σ H _ I h) fun us s1 ⟨vs, H1, I1, r1, q1⟩ => ?_) hs hpl))) hs2) hs2 rfl))
  obtain ⟨a, b, xs, ys, ex, hqx, hqy, hlen, hlt, q⟩ := q1
  subst ex
  cases r1 with
  | cons r rr =>
    cases rr with
    | cons r' rr =>
      cases rr
      cases r
      cases r'
      obtain ⟨its, rv, pl, _⟩ := I1.list hqx
      obtain ⟨its2, rv2, pl2, _⟩ := I1.list hqy
      refine call_zip_2 pl.isList pl2.isList fun h' hz hTI hTO h1 h2 hsz hk => args_nil ?_
      have l1 := rv.length
      have l2 := rv2.length
      refine call_tuple_zip (s := { s1 with heap := h' }) (xs := its.toArray) (ys := its2.toArray) (I1.ok.hd hc) (PySem.W.ktu_apart s1.heap.objs.size a b pl.lt pl2.lt) (by simp; omega) (by simp; omega) hTI h1 h2
        (pl.isList.at fun o e => hk _ o e) (pl2.isList.at fun o e => hk _ o e) hz ⟨_, _, hTO⟩ fun h'' ps hk2 hl hnd hO hB => ?_
      have hl' : ps.length = xs.length := by rw [hl]; simp; omega
      have kept : ∀ c ob, s1.heap.get? c = some ob → h''.get? c = some ob := fun c ob e => hk2 c ob (fun hm => by
        have hlt := Heap.lt_size e
        simp only [List.mem_cons, List.not_mem_nil, or_false] at hm
        have hlt' : c < s1.heap.objs.size := hlt
        have key : ∀ (m n : Nat), m < n → (m = n + 4 ∨ m = n + 3 ∨ m = n ∨ m = n + 1) → False := fun m n h1 h2 => by omega
        exact key c s1.heap.objs.size hlt' hm) (hk c ob e)
      have new : ∀ p' ∈ ps, s1.heap.objs.size ≤ p' := fun p' hp' => Nat.le_trans (by rw [hsz]; exact Nat.le_add_right _ _) (hB p' hp')
      have none1 : ∀ p' ∈ ps, H1 p' = none := fun p' hp' => I1.hok.fresh (new p' hp')
      have hfst : (ps.zip (xs.zip ys)).map (·.1) = ps := by
        rw [List.map_fst_zip]
        rw [List.length_zip]
        omega
      have hnd' : ((ps.zip (xs.zip ys)).map (·.1)).Nodup := by rw [hfst]; exact hnd
      have hmem : ∀ (j : Nat) (p' : Addr) (x y : V), ps[j]? = some p' → xs[j]? = some x → ys[j]? = some y → (p', x, y) ∈ ps.zip (xs.zip ys) := fun j p' x y e1 e2 e3 => by
        refine List.mem_of_getElem? (i := j) ?_
        rw [List.getElem?_zip_eq_some]
        refine ⟨e1, ?_⟩
        rw [List.getElem?_zip_eq_some]
        exact ⟨e2, e3⟩
      have okP : HOk X.prog X.w (putP H1 (ps.zip (xs.zip ys))) h'' := by
        refine hok_putP (I1.hok.kept kept) hnd' fun t ht => ?_
        obtain ⟨j, hj⟩ := List.getElem?_of_mem ht
        rw [List.getElem?_zip_eq_some] at hj
        obtain ⟨e1, e2⟩ := hj
        rw [List.getElem?_zip_eq_some] at e2
        obtain ⟨_, u, v, hu, hv, hp'⟩ := hO j _ e1
        obtain ⟨u', hu', ru⟩ := rv.get e2.1
        obtain ⟨v', hv', rv'⟩ := rv2.get e2.2
        have eu : u = u' := by
          have : its[j]? = some u := by simpa using hu
          rw [hu'] at this
          exact (Option.some.inj this).symm
        have ev : v = v' := by
          have : its2[j]? = some v := by simpa using hv
          rw [hv'] at this
          exact (Option.some.inj this).symm
        exact ⟨none1 _ (List.mem_of_getElem? e1), u, v, by rw [eu]; exact ru, by rw [ev]; exact rv', hp'⟩
      have kp : ∀ c ob, h''.get? c = some ob → (h''.push { cls := .type "tuple", data := .seq (ps.map Value.ref).toArray }).get? c = some ob := fun c ob e => Heap.get?_push_of_some _ e
      have nR : putP H1 (ps.zip (xs.zip ys)) h''.objs.size = none := okP.fresh (Nat.le_refl _)
      have okR : HOk X.prog X.w (upd (putP H1 (ps.zip (xs.zip ys))) h''.objs.size (.tup (ps.map V.ref))) (h''.push { cls := .type "tuple", data := .seq (ps.map Value.ref).toArray }) :=
        hok_add (its := ps.map Value.ref) (okP.kept kp) nR (by rw [List.length_map]; omega) (vals_refs9 ps) (IsTup.new _ _)
      have sm : Same H1 (upd (putP H1 (ps.zip (xs.zip ys))) h''.objs.size (.tup (ps.map V.ref))) := fun c o ec => by
        have hc1 : c ∉ (ps.zip (xs.zip ys)).map (·.1) := fun hm => by
          rw [hfst] at hm
          rw [none1 c hm] at ec
          cases ec
        have hc2 : putP H1 (ps.zip (xs.zip ys)) c = some o := by rw [putP_out hc1]; exact ec
        rw [upd_ne (ne_of_none hc2 nR)]
        exact hc2
      have free : ∀ c o, s1.heap.get? c = some o → H1 c = none → upd (putP H1 (ps.zip (xs.zip ys))) h''.objs.size (.tup (ps.map V.ref)) c = none := fun c o ec hn => by
        have hlt : c < s1.heap.objs.size := Heap.lt_size ec
        have hc1 : c ∉ (ps.zip (xs.zip ys)).map (·.1) := fun hm => by
          rw [hfst] at hm
          exact absurd (Nat.lt_of_lt_of_le hlt (new c hm)) (Nat.lt_irrefl _)
        have hc3 : c ≠ h''.objs.size := Nat.ne_of_lt (Heap.lt_size (kept c o ec))
        rw [upd_ne hc3, putP_out hc1]
        exact hn
      have I3 : Inv X pins σ (upd (putP H1 (ps.zip (xs.zip ys))) h''.objs.size (.tup (ps.map V.ref))) { s1 with heap := h''.push { cls := .type "tuple", data := .seq (ps.map Value.ref).toArray } } :=
        inv_grow (t' := s1.toks) I1 (fun c ob e => kp c ob (kept c ob e)) sm free okR
      have hR1 : H1 h''.objs.size = none := by
        cases eR : H1 h''.objs.size with
        | none => rfl
        | some o =>
          have hc1 : h''.objs.size ∉ (ps.zip (xs.zip ys)).map (·.1) := fun hm => by
            rw [hfst] at hm
            rw [none1 _ hm] at eR
            cases eR
          rw [putP_out hc1, eR] at nR
          cases nR
      refine ⟨.ref h''.objs.size, _, I3, rfl, q h''.objs.size ps _ sm hR1 upd_same hl' fun j p' x y e1 e2 e3 => ?_⟩
      have := putP_at (H := H1) hnd' (hmem j p' x y e1 e2 e3)
      rw [upd_ne (ne_of_none this nR)]
      exact this
end Fh

set_option Elab.async false
set_option linter.all false
set_option maxRecDepth 100000
set_option maxHeartbeats 4000000
namespace Fh
open PySem L2 PyProof.Rows
/-! ### the parts of a face, drawn -/
abbrev Opt := List (Int × Str)
structure OpW (os : Opt) : Prop where
  l1 : 1 ≤ os.length
  l6 : os.length ≤ 6
  nd : (os.map (·.2)).Nodup
  nm : ∀ o ∈ os, Nm o.2
  rise : (os.map (·.1)).Pairwise (· < ·)
  rg : ∀ o ∈ os, 1 ≤ o.1 ∧ o.1 ≤ 30
abbrev Cho := Str × Opt
structure CsW (cs : List Cho) : Prop where
  l6 : cs.length ≤ 6
  nd : (cs.map (·.1)).Nodup
  nm : ∀ c ∈ cs, Nm c.1
  op : ∀ c ∈ cs, OpW c.2
def csP (cs : List Cho) : List (Str × PyData) := cs.map fun c => (c.1, optsD c.2)
theorem look_csP : ∀ {cs : List Cho} {z : Str}, z ∈ cs.map (·.1) → ∃ c ∈ cs, (csP cs).lookup z = some (optsD c.2)
  | [], _, h => by cases h
  | c :: cs, z, h => by
    unfold csP
    rw [List.map_cons, List.lookup_cons]
    by_cases e : z = c.1
    · have : (z == c.1) = true := by rw [e]; exact beq_self_eq_true _
      rw [this]
      exact ⟨c, List.mem_cons_self, rfl⟩
    · have h1 : (z == c.1) = false := beq_eq_false_iff_ne.mpr e
      rw [h1]
      have h2 : z ∈ cs.map (·.1) := by
        rcases List.mem_cons.mp h with h | h
        · exact absurd h e
        · exact h
      obtain ⟨c2, hc, e2⟩ := look_csP h2
      exact ⟨c2, List.mem_cons_of_mem _ hc, e2⟩
theorem csP_names {cs : List Cho} : (csP cs).map (·.1) = cs.map (·.1) := by
  unfold csP
  rw [List.map_map]
  rfl
theorem CsW.cs1 {cs : List Cho} (h : CsW cs) : Cs1 (csP cs) := fun z hz => by
  have hz2 : z ∈ cs.map (·.1) := by
    rw [← csP_names]
    exact of_decide_eq_true hz
  obtain ⟨c, hc, e⟩ := look_csP hz2
  have o := h.op c hc
  have l1 := o.l1
  obtain ⟨cn, os⟩ := c
  match os, o, l1, e with
  | (n, u) :: os, o, _, e =>
    have r := o.rg (n, u) List.mem_cons_self
    exact ⟨n, u, os, e, r.1, Int.le_trans r.2 (by decide), ⟨(fun h => nomatch h), Nat.le_trans o.l6 (by decide), o.nd, fun q hq => ⟨(o.rg q hq).1, Int.le_trans (o.rg q hq).2 (by decide)⟩⟩⟩
structure PtW (own : Str) (age : Int) (cs : List Cho) (recs : List Rec) (cws : List Cw) : Prop where
  on : Nm own
  a1 : 1 ≤ age
  a2 : age ≤ 100
  co : CsW cs
  rc : RecsW recs
  cw : CwsW cws
  nd : (cs.map (·.1) ++ recs.map (·.1)).Nodup
def ptD (own : Str) (age : Int) (cs : List Cho) (recs : List Rec) (cws : List Cw) : PyData := .tuple [.str own, .int age, rowsD (csP cs), rowsD (recs.map rD), .tuple (cws.map Cw.d)]
theorem zip_tp {H : Hp} : ∀ {ps : List Addr} {ns : List Int} {zs : List Str}, ps.length = ns.length → zs.length = ns.length → (∀ (j : Nat) (p : Addr) (x y : V), ps[j]? = some p → (ns.map V.int)[j]? = some x → (zs.map V.str)[j]? = some y → H p = some (.tup [x, y])) → TpAll H (ps.map V.ref) ((ns.zip zs).map fun o => .tuple [.int o.1, .str o.2])
  | [], [], [], _, _, _ => .nil
  | p :: ps, n :: ns, z :: zs, l1, l2, h => .cons (.tup (h 0 p _ _ rfl rfl rfl) (.cons (.int _) (.cons (.str _) .nil))) (zip_tp (by simpa using l1) (by simpa using l2) fun j p x y e1 e2 e3 => h (j + 1) p x y e1 e2 e3)
theorem op_zip {ns : List Int} {zs : List Str} (l : zs.length = ns.length) (l1 : 1 ≤ ns.length) (l6 : ns.length ≤ 6) (nd : zs.Nodup) (nm : ∀ z ∈ zs, Nm z) (rise : ns.Pairwise (· < ·)) (rg : ∀ x ∈ ns, 1 ≤ x ∧ x ≤ 30) : OpW (ns.zip zs) := by
  have e1 : (ns.zip zs).map (·.1) = ns := List.map_fst_zip (by omega)
  have e2 : (ns.zip zs).map (·.2) = zs := List.map_snd_zip (by omega)
  have el : (ns.zip zs).length = ns.length := by rw [List.length_zip]; omega
  exact ⟨by omega, by omega, by rw [e2]; exact nd, fun o ho => nm _ (by rw [← e2]; exact List.mem_map.mpr ⟨o, ho, rfl⟩), by rw [e1]; exact rise, fun o ho => rg _ (by rw [← e1]; exact List.mem_map.mpr ⟨o, ho, rfl⟩)⟩
abbrev sAll : Stmt := top 47
abbrev nAll : List Str := ["_law_bag_here", "_law_own", "_law_age", "_law_size", "_law_many", "_law_some", "_law_menus", "_law_spot", "_law_forms", "_law_opts", "_law_one", "_law_marks", "_law_recs"]
structure InvW (cs : List Cho) (recs : List Rec) (cws : List Cw) : Prop where
  kn : ∀ r ∈ recs, ∀ f ∈ r.2, KnIn (cs.map (·.1)) (recs.map (·.1)) f.kd
  ac : ∀ c ∈ cws, ActIn recs c
def spAll : Sp := fun vs H Q _ => ∃ (b : Addr) (n : Nat), vs = [.ref b] ∧ Bag H b n ∧ n + 5000 ≤ most ∧
  ∀ (v : V) (own : Str) (age : Int) (cs : List Cho) (recs : List Rec) (cws : List Cw) (H' : Hp), Tp H' v (ptD own age cs recs cws) → PtW own age cs recs cws → InvW cs recs cws → Kp b H H' → Bag H' b (n + 4000) → Q v H'
section
variable {P : Program} {w : World} {K : PySem.W.Frag} {mg : Str → Option Value} {base : Heap}
theorem scAll : FnScope nAll ["_law_bag_here"] (defScope sAll) := ⟨rfl, rfl, rfl, by decide +kernel, rfl, by decide +kernel, by decide +kernel⟩
theorem ok_all {f : Addr} {fd : FuncData} (F : Fun K "_law_all_drawn" "_law_all_drawn" sAll f fd) (G : Glb mg) (gz : mg "zip" = none) (DT : Has P w K mg base "_law_take" 1 ["_law_bag_here", "_law_size"] spTake) (DN : Has P w K mg base "_law_drawn_name" 2 ["_law_bag_here"] spName) (DX : Has P w K mg base "_law_unlike_names" 3 ["_law_bag_here", "_law_size", "_law_taken"] spUnlikeN) (DR : Has P w K mg base "_law_rising" 2 ["_law_bag_here", "_law_size", "_law_most"] spRis) (DU : Has P w K mg base "_law_unlike" 4 ["_law_bag_here", "_law_size"] spUlk) (DF : Has P w K mg base "_law_form_drawn" 5 pKnd spFrm) (DA : Has P w K mg base "_law_acts_drawn" 5 pAct spAct) : FnOk P w K mg base CX0 6 f fd ["_law_bag_here"] spAll := by
  refine F.ok scAll (fun vs H Q E h => ?_) (fun cdv A outer s H vs Q E hr h => ?_)
  · obtain ⟨b, n, rfl, _⟩ := h
    rfl
  · obtain ⟨b, n, rfl, hB, hn, q⟩ := h
    have hmost : most = 1000000 := rfl
    have hu := hu_of hr
    refine ⟨_, (pss_cons (ps_par (i := 1) (j := 2) rfl scAll.nd rfl rfl (by decide) rfl rfl (pa_cons (pe_has DN (hr.mono (by omega)) rfl (pa_cons (pv 0) pa_nil)) (pa_cons (pe_op op_add pe_int (pe_has DT (hr.mono (by omega)) rfl (pa_cons (pv 0) (pa_cons (pe_ix ix_list (pe_lst (pa_cons pe_int (pa_cons pe_int pa_nil))) (pe_has DT (hr.mono (by omega)) rfl (pa_cons (pv 0) (pa_cons pe_int pa_nil))) (fun _ _ => rfl)) pa_nil)))) pa_nil)) (by rfl))
      (pss_cons (ps_par (i := 3) (j := 4) rfl scAll.nd rfl rfl (by decide) rfl rfl (pa_cons (pe_has DT (hr.mono (by omega)) rfl (pa_cons (pv 0) (pa_cons pe_int pa_nil))) (pa_cons (pe_has DT (hr.mono (by omega)) rfl (pa_cons (pv 0) (pa_cons pe_int pa_nil))) pa_nil)) (by rfl))
      (pss_cons (ps_set (i := 5) scAll.nd rfl (Or.inr rfl) (pe_has DX (hr.mono (by omega)) rfl (pa_cons (pv 0) (pa_cons (pe_op op_add (pv 3) (pv 4)) (pa_cons (pe_lst pa_nil) pa_nil)))))
      (C8.pss_cut (ps_set (i := 6) scAll.nd rfl (Or.inr rfl) (pe_callB cr_sortedS (by rfl) G.sorted (by decide +kernel) (pa_cons (pe_lc (own := [("_law_spot", 7)]) (g := (gName 7)) (tt := tYes) (te := tBM K "list" rPopAt (tVar 5) (tCons (tCall spTake [] E0 (tCons (tVar 0) (tCons (tCB (rLenQ K) (tCons (tVar 5) tNil)) tNil))) tNil)) rfl scAll.nd (pi_range1 rfl G.range (pa_cons (pv 3) pa_nil)) (blkOk_by (N := nAll) (sc := defScope sAll) (by decide +kernel)) (fun _ _ _ _ _ => (pg_name (i := 7) scAll.nd rfl (Or.inl rfl))) (fun _ _ _ _ _ => pts_nil) (fun _ _ _ _ _ => (pe_bm PySem.F.plainAttrs_list PySem.F.slot_list_pop PySem.F.type_list_pop mt_popAt (pv 5) (pa_cons (pe_has DT (hr.mono (by omega)) rfl (pa_cons (pv 0) (pa_cons (pe_callB call_len_seq (by rfl) G.len (by decide +kernel) (pa_cons (pv 5) pa_nil)) pa_nil))) pa_nil)))) pa_nil)))
      (pss_cons (ps_asg (pe_tup (pa_cons (pe_callB cr_sortedS (by rfl) G.sorted (by decide +kernel) (pa_cons (pv 5) pa_nil)) (pa_cons (pe_lst pa_nil) pa_nil))) (pg_tup rfl (pgs_cons (pg_name (i := 8) scAll.nd rfl (Or.inr rfl)) (pgs_cons (pg_name (i := 9) scAll.nd rfl (Or.inl rfl)) pgs_nil))))
      (C8.pss_cut (ps_for PassesOwn.never rfl (pi_list (pv 6)) (pg_name (i := 10) scAll.nd rfl (Or.inl rfl))
      (pss_cons (ps_set (i := 11) scAll.nd rfl (Or.inl rfl) (pe_has DR (hr.mono (by omega)) rfl (pa_cons (pv 0) (pa_cons (pe_op op_add pe_int (pe_has DT (hr.mono (by omega)) rfl (pa_cons (pv 0) (pa_cons pe_int pa_nil)))) (pa_cons pe_int pa_nil)))))
      (pss_one (ps_expr (pe_bm PySem.F.plainAttrs_list PySem.F.slot_list_append PySem.F.type_list_append mt_append (pv 9) (pa_cons (pe_tup (pa_cons (pv 10) (pa_cons (pe_tupZip rfl (by rfl) G.tuple (by rfl) gz (pa_cons (pv 11) (pa_cons (pe_has DU (hr.mono (by omega)) rfl (pa_cons (pv 0) (pa_cons (pe_callB call_len_seq (by rfl) G.len (by decide +kernel) (pa_cons (pv 11) pa_nil)) pa_nil))) pa_nil))) pa_nil))) pa_nil))))))
      (C8.pss_cut (ps_setLc (i := 12) (own := [("_law_one", 10)]) (g := (gName 10)) (tt := tYes) (te := tTup (tCons (tVar 10) (tCons (tCall spFrm [] E0 (tCons (tVar 0) (tCons (tVar 6) (tCons (tVar 8) tNil)))) tNil))) rfl scAll.nd rfl rfl (sw_true rfl rfl rfl (by decide +kernel)) (pi_list (pv 8)) (blkOk_by (N := nAll) (sc := defScope sAll) (by decide +kernel)) (fun _ _ _ _ _ => (pg_name (i := 10) scAll.nd rfl (Or.inl rfl))) (fun _ _ _ _ _ => pts_nil) (fun _ _ _ _ _ => (pe_tup (pa_cons (pv 10) (pa_cons (pe_has DF (hr.mono (by omega)) rfl (pa_cons (pv 0) (pa_cons (pv 6) (pa_cons (pv 8) pa_nil)))) pa_nil)))))
      (pss_one (ps_ret (pe_tup (pa_cons (pv 1) (pa_cons (pv 2) (pa_cons (pe_callTy call_tuple_of (by rfl) G.tuple (by decide +kernel) (pa_cons (pv 9) pa_nil)) (pa_cons (pe_callTy call_tuple_of (by rfl) G.tuple (by decide +kernel) (pa_cons (pv 12) pa_nil)) (pa_cons (pe_has DA (hr.mono (by omega)) rfl (pa_cons (pv 0) (pa_cons (pv 1) (pa_cons (pv 12) pa_nil)))) pa_nil))))))))))))))), ?_⟩
    refine ⟨_, rfl, b, n, rfl, hB, by omega, fun own H1 no k1 b1 => ?_⟩
    refine ⟨_, rfl, (by show 2 ≤ sizeLine; decide), fun t2 ht2 => ?_⟩
    have S2 := Same.new (H := H1) (o := .lst [.int 4, .int 99]) ht2
    have e2 : (upd H1 t2 (.lst [.int 4, .int 99])) t2 = some (.lst [.int 4, .int 99]) := upd_same
    have n2b : t2 ≠ b := new_ne ht2 b1
    have b2 := b1.same S2
    have K2 := k1.same S2
    generalize (upd H1 t2 (.lst [.int 4, .int 99])) = H2 at *
    refine ⟨_, rfl, b, 2, _, rfl, by decide, by decide, b2, by omega, fun d H3 d0 d1 k3 b3 => ?_⟩
    obtain ⟨m, em, m0, m1⟩ : ∃ m : Int, atI [V.int 4, .int 99] d = some (.int m) ∧ 0 < m ∧ m ≤ 99 := by
      rcases (by omega : d = 0 ∨ d = 1) with rfl | rfl
      · exact ⟨4, rfl, by decide, by decide⟩
      · exact ⟨99, rfl, by decide, by decide⟩
    refine ⟨t2, _, _, _, rfl, rfl, SqL.of (k3 _ _ n2b e2), em, b, m, _, rfl, m0, by omega, b3, by omega, fun e H4 e0 e1 k4 b4 => ⟨_, _, rfl, rfl, _, _, rfl, ?_⟩⟩
    have K4 := (K2.trans k3).trans k4
    obtain ⟨age, hage⟩ : ∃ age, 1 + e = age := ⟨_, rfl⟩
    simp only [hage]
    try dsimp only [List.set_cons_succ, List.set_cons_zero]
    refine ⟨_, rfl, b, 5, _, rfl, by decide, by decide, b4, by omega, fun sz H5 sz0 sz1 k5 b5 => ?_⟩
    refine ⟨_, rfl, b, 7, _, rfl, by decide, by decide, b5, by omega, fun mn H6 mn0 mn1 k6 b6 => ⟨_, _, rfl, ?_⟩⟩
    have K6 := (K4.trans k5).trans k6
    try dsimp only [List.set_cons_succ, List.set_cons_zero]
    refine ⟨_, rfl, _, rfl, _, rfl, _, _, rfl, rfl, Nat.zero_le _, fun E7 hE7 => ?_⟩
    have S7 := Same.new (H := H6) (o := .lst []) hE7
    have e7 : (upd H6 E7 (.lst [])) E7 = some (.lst (([] : List Str).map V.str)) := upd_same
    have b7 := b6.same S7
    have K7 := K6.same S7
    generalize (upd H6 E7 (.lst [])) = H7 at *
    refine ⟨b, E7, sz + mn, [], _, rfl, b7, by omega, by omega, e7, by decide, by omega, fun L zs H8 hL hL8 lz nd nm k8 b8 => ?_⟩
    have K8 := K7.trans k8
    have nLb : L ≠ b := new_ne hL b7
    have L0 : H L = none := K7.free b7.at hL
    try dsimp only [List.set_cons_succ, List.set_cons_zero]
    refine ⟨fun σ H' => ∃ (M : Addr) (ms rest : List Str) (a7 : Option V), σ = [some (.ref b), some (.str own), some (.int age), some (.int sz), some (.int mn), some (.ref L), some (.ref M), a7, none, none, none, none, none] ∧ Kp b H H' ∧ Bag H' b (n + 140) ∧ H' M = some (.lst (ms.map V.str)) ∧ H' L = some (.lst (rest.map V.str)) ∧ ms.length ≤ 4 ∧ rest.length ≤ 6 ∧ (ms ++ rest).Nodup ∧ (∀ z ∈ ms ++ rest, Nm z) ∧ H M = none, ?_, ?_⟩
    · refine ⟨_, rfl, sz, rfl, by omega, by omega, fun D hD => ?_⟩
      have nDb : D ≠ b := new_ne hD b8
      have nDL : D ≠ L := fun e => by rw [e, hL8] at hD; cases hD
      have D0 : H D = none := K8.free b8.at hD
      have lz12 : zs.length ≤ 10 := by omega
      refine lc_range (lo := 0) (n := sz.toNat) (fun i H3 => Kp b H H3 ∧ Bag H3 b (n + 135 + i) ∧ ∃ ms rest : List Str, H3 D = some (.lst (ms.map V.str)) ∧ H3 L = some (.lst (rest.map V.str)) ∧ ms.length = i ∧ (ms ++ rest).Perm zs) ?_ ?_ ?_
      · exact ⟨K8.new hD, (b8.new hD).mono (by omega), [], zs, upd_same, by rw [upd_ne (Ne.symm nDL)]; exact hL8, rfl, .refl _⟩
      · rintro i H3 hi ⟨K3, b3, ms, rest, h3D, h3L, lm, pm⟩
        have lr := pm.length_eq
        rw [List.length_append] at lr
        refine ⟨rfl, yes (iteT ?_)⟩
        try dsimp only [List.set_cons_succ, List.set_cons_zero]
        refine ⟨_, rfl, .inl ⟨rfl, _, SqL.of h3L⟩, ?_⟩
        refine ⟨_, rfl, _, rfl, L, _, rfl, .inl (SqL.of h3L), b, _, _, rfl, (by rw [List.length_map]; omega), (by rw [List.length_map]; omega), b3, by omega, fun e H4 e0 e1 k4 b4 => ?_⟩
        have h4L := k4 _ _ nLb h3L
        have h4D := k4 _ _ nDb h3D
        obtain ⟨v, ev, ev2, _⟩ := atI_in (xs := rest.map V.str) e0 e1
        obtain ⟨z, hz, rfl⟩ := mapAt ev2
        refine ⟨L, _, e, e.toNat, _, rfl, rfl, h4L, by omega, (by rw [List.length_map] at e1; omega), ix_at e0 e1, ev2, ?_⟩
        have eL : (upd H4 L (.lst ((rest.map V.str).eraseIdx e.toNat))) D = some (.lst (ms.map V.str)) := by rw [upd_ne nDL]; exact h4D
        refine ⟨_, eL, ?_, ?_⟩
        · rw [List.length_map]
          exact Nat.lt_of_le_of_lt (show _ ≤ 10 by omega) (by decide)
        have K4 := K3.trans k4
        refine ⟨(K4.wr L0).wr D0, ((b4.ne nLb).ne nDb).mono (by omega), ms ++ [z], rest.eraseIdx e.toNat, by rw [upd_same, List.map_append]; rfl, ?_, by rw [List.length_append, lm]; rfl, ?_⟩
        · rw [upd_ne (Ne.symm nDL), upd_same, map_eraseQ]
        · rw [List.append_assoc]
          exact ((erase_perm hz).append_left ms).trans pm
      · rintro H3 ⟨K3, b3, ms, rest, h3D, h3L, lm, pm⟩
        have lr := pm.length_eq
        rw [List.length_append] at lr
        refine ⟨D, ms, rfl, SqL.of h3D, by omega, fun ys p py sy hp => ?_⟩
        try dsimp only [List.set_cons_succ, List.set_cons_zero]
        have npL : p ≠ L := fun e => by rw [e, h3L] at hp; cases hp
        have pm2 : (ys ++ rest).Perm zs := (py.append_right rest).trans pm
        refine ⟨p, ys, rest, _, rfl, K3.new hp, (b3.new hp).mono (by omega), upd_same, by rw [upd_ne (Ne.symm npL)]; exact h3L, by rw [py.length_eq]; omega, by omega, (pm2.nodup_iff).mpr nd, fun z hz => (nm z (pm2.mem_iff.mp hz)).1, K3.free b3.at hp⟩
    rintro σ HA ⟨M, ms, rest, a7, rfl, KA, bA, eM, eL, lm, lr, nd9, nm9, M0⟩
    have nMb : M ≠ b := ls_ne eM bA
    refine ⟨_, rfl, L, rest, rfl, SqL.of eL, by omega, fun fs p pf sf hp => ⟨Nat.zero_le _, fun O hO => ⟨(by show 2 ≤ sizeLine; decide), fun t ht => ?_⟩⟩⟩
    have SP := Same.new (H := HA) (o := .lst (fs.map V.str)) hp
    have eP : (upd HA p (.lst (fs.map V.str))) p = some (.lst (fs.map V.str)) := upd_same
    have nPb : p ≠ b := new_ne hp bA
    have p0 := KA.free bA.at hp
    have bB := bA.same SP
    have KB := KA.same SP
    have eMB := SP _ _ eM
    generalize (upd HA p (.lst (fs.map V.str))) = HB at *
    have SO := Same.new (H := HB) (o := .lst []) hO
    have eO : (upd HB O (.lst [])) O = some (.lst []) := upd_same
    have nOb : O ≠ b := new_ne hO bB
    have O0 := KB.free bB.at hO
    have nOM : O ≠ M := fun e => by rw [e, eMB] at hO; cases hO
    have nOp : O ≠ p := fun e => by rw [e, eP] at hO; cases hO
    have bC := bB.same SO
    have KC := KB.same SO
    have eMC := SO _ _ eMB
    have ePC := SO _ _ eP
    generalize (upd HB O (.lst [])) = HC at *
    have ST := Same.new (H := HC) (o := .tup [.ref p, .ref O]) ht
    have eT : (upd HC t (.tup [.ref p, .ref O])) t = some (.tup [.ref p, .ref O]) := upd_same
    have bD := bC.same ST
    have KD := KC.same ST
    have eMD := ST _ _ eMC
    have ePD := ST _ _ ePC
    have eOD := ST _ _ eO
    generalize (upd HC t (.tup [.ref p, .ref O])) = HD at *
    have pmf : (ms ++ fs).Perm (ms ++ rest) := pf.append_left ms
    have ndf := (pmf.nodup_iff).mpr nd9
    have nmf : ∀ z ∈ ms ++ fs, Nm z := fun z hz => nm9 z (pmf.mem_iff.mp hz)
    have lf : fs.length ≤ 6 := by rw [pf.length_eq]; exact lr
    refine ⟨t, _, rfl, SqT.of eT, rfl, _, _, rfl, _, _, rfl, rfl, ?_⟩
    try dsimp only [List.set_cons_succ, List.set_cons_zero]
    refine ⟨fun σ H' => ∃ (vs : List V) (cs : List Cho) (a10 a11 : Option V), σ = [some (.ref b), some (.str own), some (.int age), some (.int sz), some (.int mn), some (.ref L), some (.ref M), a7, some (.ref p), some (.ref O), a10, a11, none] ∧ Kp b H H' ∧ Bag H' b (n + 140 + 4 * 180) ∧ H' M = some (.lst (ms.map V.str)) ∧ H' p = some (.lst (fs.map V.str)) ∧ H' O = some (.lst vs) ∧ TpAll H' vs (cs.map fun c => .tuple [.str c.1, optsD c.2]) ∧ cs.map (·.1) = ms ∧ (∀ c ∈ cs, OpW c.2), ?_, ?_⟩
    · refine ⟨_, rfl, M, rfl, ⟨_, SqL.of eMD⟩, ?_⟩
      refine for_list (xs := ms.map V.str) (fun i σ H' => ∃ (vs : List V) (cs : List Cho) (a10 a11 : Option V), σ = [some (.ref b), some (.str own), some (.int age), some (.int sz), some (.int mn), some (.ref L), some (.ref M), a7, some (.ref p), some (.ref O), a10, a11, none] ∧ Kp b H H' ∧ Bag H' b (n + 140 + 180 * i) ∧ H' M = some (.lst (ms.map V.str)) ∧ H' p = some (.lst (fs.map V.str)) ∧ H' O = some (.lst vs) ∧ TpAll H' vs (cs.map fun c => .tuple [.str c.1, optsD c.2]) ∧ cs.map (·.1) = ms.take i ∧ (∀ c ∈ cs, OpW c.2)) ?_ ?_ ?_ ?_
      · exact ⟨[], [], _, _, rfl, KD, bD, eMD, ePD, eOD, .nil, rfl, fun c h => nomatch h⟩
      · rintro i σ H' _ ⟨vs, cs, a10, a11, rfl, K', b', eM', _⟩
        exact SqL.of eM'
      · rintro i x σ H' hx ⟨vs, cs, a10, a11, rfl, K', b', eM', eP', eO', tvs, ecs, ops⟩
        obtain ⟨z, hz, rfl⟩ := mapAt hx
        have hi : i < 4 := by
          have := (List.getElem?_eq_some_iff.mp hz).1
          omega
        try dsimp only [List.set_cons_succ, List.set_cons_zero]
        refine ⟨_, rfl, _, rfl, b, 6, _, rfl, by decide, by decide, b', by omega, fun d H1 d0 d1 k1' b1' => ?_⟩
        obtain ⟨s9, hs9⟩ : ∃ s9 : Nat, 1 + d = (s9 : Int) := ⟨(1 + d).toNat, by omega⟩
        refine ⟨_, _, rfl, rfl, ?_⟩
        simp only [hs9]
        refine ⟨b, s9, _, rfl, by omega, b1', by omega, fun p1 ns H2 hp1 h21 ln k2' b2' rise rg => ?_⟩
        try dsimp only [List.set_cons_succ, List.set_cons_zero]
        have K2' := (K'.trans k1').trans k2'
        have K02 := k1'.trans k2'
        have eO2 := K02 _ _ nOb eO'
        have n1b : p1 ≠ b := new_ne hp1 b1'
        refine ⟨_, rfl, .inl ⟨rfl, _, SqL.of eO2⟩, ?_⟩
        refine ⟨_, rfl, _, rfl, _, rfl, _, rfl, p1, _, rfl, .inl (SqL.of h21), b, (ns.map V.int).length, _, rfl, b2', by rw [List.length_map]; omega, by omega, fun p2 zs2 H3 hp2 h32 lz2 nd2 nm2 k3' b3' => ?_⟩
        have lz3 : zs2.length = ns.length := by rw [lz2, List.length_map]
        have K3' := K2'.trans k3'
        have K03 := K02.trans k3'
        refine ⟨p1, p2, _, _, rfl, SqL.of (k3' _ _ n1b h21), SqL.of h32, by rw [List.length_map, List.length_map, lz3], by rw [List.length_map]; exact Nat.lt_of_le_of_lt (show _ ≤ 6 by omega) (by decide), fun R ps H4 S4 hR hR4 lps hps => ⟨(by show 2 ≤ sizeLine; decide), fun t9 ht9 => ?_⟩⟩
        have S5 := Same.new (H := H4) (o := .tup [.str z, .ref R]) ht9
        have tz : Tp H4 (.ref R) (optsD (ns.zip zs2)) := .tup hR4 (zip_tp (by rw [lps, List.length_map]) lz3 hps)
        have t5 : Tp (upd H4 t9 (.tup [.str z, .ref R])) (.ref t9) (.tuple [.str z, optsD (ns.zip zs2)]) := .tup upd_same (.cons (.str _) (.cons (Tp.keep (Same.tk S5) _ _ tz) .nil))
        have S45 := S4.trans S5
        generalize (upd H4 t9 (.tup [.str z, .ref R])) = H5 at *
        have K5' := K3'.same S45
        have K05 : Kp b H' H5 := K03.same S45
        have b5' := b3'.same S45
        have eO5 := K05 _ _ nOb eO'
        have W5 : Tk H5 (upd H5 O (.lst (vs ++ [.ref t9]))) := Tk.wr eO5
        refine ⟨O, _, _, rfl, rfl, eO5, ?_, ?_⟩
        · have e1 := tvs.length
          have e2 := congrArg List.length ecs
          rw [List.length_map] at e1
          rw [List.length_map, List.length_take] at e2
          exact Nat.lt_of_le_of_lt (show _ ≤ 10 by omega) (by decide)
        refine ⟨vs ++ [.ref t9], cs ++ [(z, ns.zip zs2)], _, _, rfl, K5'.wr O0, (b5'.ne nOb).mono (by omega), by rw [upd_ne (Ne.symm nOM)]; exact K05 _ _ nMb eM', by rw [upd_ne (Ne.symm nOp)]; exact K05 _ _ nPb eP', upd_same, ?_, ?_, fun c hc => ?_⟩
        · rw [List.map_append]
          exact (TpAll.keep W5 _ _ (TpAll.keep (K05.tk b') _ _ tvs)).app (TpAll.one (Tp.keep W5 _ _ t5))
        · rw [List.map_append, ecs, List.take_add_one, hz]
          rfl
        · rcases List.mem_append.mp hc with h | h
          · exact ops c h
          · rw [List.mem_singleton.mp h]
            exact op_zip lz3 (by omega) (by omega) nd2 nm2 rise rg
      · rintro σ H' ⟨vs, cs, a10, a11, rfl, K', b', eM', eP', eO', tvs, ecs, ops⟩
        rw [List.length_map] at b' ecs
        rw [List.take_length] at ecs
        exact ⟨vs, cs, _, _, rfl, K', b'.mono (by omega), eM', eP', eO', tvs, ecs, ops⟩
    rintro σ HE ⟨vs, cs, a10, a11, rfl, KE, bE, eME, ePE, eOE, tvs, ecs, ops⟩
    refine ⟨fun σ H' => ∃ (R : Addr) (us : List V) (recs : List Rec) (a10 a11 : Option V), σ = [some (.ref b), some (.str own), some (.int age), some (.int sz), some (.int mn), some (.ref L), some (.ref M), a7, some (.ref p), some (.ref O), a10, a11, some (.ref R)] ∧ Kp b HE H' ∧ Bag H' b (n + 140 + 4 * 180 + 6 * 301) ∧ R ≠ b ∧ H' R = some (.lst us) ∧ TpAll H' us ((recs.map rD).map fun r => .tuple [.str r.1, r.2]) ∧ recs.map (·.1) = fs ∧ (∀ r ∈ recs, FlW r.2 ∧ ∀ f ∈ r.2, KnIn ms fs f.kd) ∧ HE R = none, ?_, ?_⟩
    · refine ⟨_, rfl, p, rfl, ⟨_, SqL.of ePE⟩, fun R hR => ?_⟩
      have nRb : R ≠ b := new_ne hR bE
      refine lc_list (xs := fs.map V.str) (fun i H' => Kp b HE H' ∧ Bag H' b (n + 140 + 4 * 180 + 301 * i) ∧ ∃ (us : List V) (recs : List Rec), H' R = some (.lst us) ∧ TpAll H' us ((recs.map rD).map fun r => .tuple [.str r.1, r.2]) ∧ recs.map (·.1) = fs.take i ∧ ∀ r ∈ recs, FlW r.2 ∧ ∀ f ∈ r.2, KnIn ms fs f.kd) ?_ ?_ ?_ ?_
      · exact ⟨Kp.refl.new hR, bE.new hR, [], [], upd_same, .nil, rfl, fun r h => nomatch h⟩
      · rintro i H' _ ⟨K', _⟩
        exact SqL.of (K' _ _ nPb ePE)
      · rintro i x H' hx ⟨K', b', us, recs, eR, tus, erc, fls⟩
        obtain ⟨z, hz, rfl⟩ := mapAt hx
        have hi : i < 6 := by
          have := (List.getElem?_eq_some_iff.mp hz).1
          omega
        refine ⟨rfl, yes (iteT ?_)⟩
        refine ⟨_, rfl, _, rfl, _, rfl, _, rfl, b, M, p, ms, fs, _, rfl, b', by omega, K' _ _ nMb eME, K' _ _ nPb ePE, by omega, by omega, fun y hy => nmf y (List.mem_append_left _ hy), fun y hy => nmf y (List.mem_append_right _ hy), fun v fl H1 tv flw kin k1' b1' => ⟨(by show 2 ≤ sizeLine; decide), fun t9 ht9 => ?_⟩⟩
        have S5 := Same.new (H := H1) (o := .tup [.str z, v]) ht9
        have t5 : Tp (upd H1 t9 (.tup [.str z, v])) (.ref t9) (.tuple [.str z, fieldsD fl]) := .tup upd_same (.cons (.str _) (.cons (Tp.keep (Same.tk S5) _ _ tv) .nil))
        have b5' := b1'.same S5
        have K05 : Kp b H' (upd H1 t9 (.tup [.str z, v])) := k1'.same S5
        generalize (upd H1 t9 (.tup [.str z, v])) = H5 at *
        have eR5 := K05 _ _ nRb eR
        have W5 : Tk H5 (upd H5 R (.lst (us ++ [.ref t9]))) := Tk.wr eR5
        refine ⟨_, eR5, ?_, (K'.trans K05).wr hR, (b5'.ne nRb).mono (by omega), us ++ [.ref t9], recs ++ [(z, fl)], upd_same, ?_, ?_, fun r hr => ?_⟩
        · have e1 := tus.length
          have e2 := congrArg List.length erc
          rw [List.length_map, List.length_map] at e1
          rw [List.length_map, List.length_take] at e2
          exact Nat.lt_of_le_of_lt (show _ ≤ 10 by omega) (by decide)
        · rw [List.map_append, List.map_append]
          exact (TpAll.keep W5 _ _ (TpAll.keep (K05.tk b') _ _ tus)).app (TpAll.one (Tp.keep W5 _ _ t5))
        · rw [List.map_append, erc, List.take_add_one, hz]
          rfl
        · rcases List.mem_append.mp hr with h | h
          · exact fls r h
          · rw [List.mem_singleton.mp h]
            exact ⟨flw, kin⟩
      · rintro H' ⟨K', b', us, recs, eR, tus, erc, fls⟩
        rw [List.length_map] at b' erc
        rw [List.take_length] at erc
        try dsimp only [List.set_cons_succ, List.set_cons_zero]
        exact ⟨R, us, recs, _, _, rfl, K', b'.mono (by omega), nRb, eR, tus, erc, fls, hR⟩
    rintro σ HF ⟨R, us, recs, a10', a11', rfl, KF, bF, nRb, eR, tus, erc, fls, R0⟩
    have rcw : RecsW recs := ⟨by
      have := congrArg List.length erc
      rw [List.length_map] at this
      omega, by rw [erc]; exact (List.nodup_append.mp ndf).2.1, fun r hr => nmf _ (List.mem_append_right _ (by rw [← erc]; exact List.mem_map.mpr ⟨r, hr, rfl⟩)), fun r hr => (fls r hr).1⟩
    have csw : CsW cs := ⟨by
      have := congrArg List.length ecs
      rw [List.length_map] at this
      omega, by rw [ecs]; exact (List.nodup_append.mp ndf).1, fun c hc => nmf _ (List.mem_append_left _ (by rw [← ecs]; exact List.mem_map.mpr ⟨c, hc, rfl⟩)), ops⟩
    have eOF := KF _ _ nOb eOE
    have tvF := TpAll.keep (KF.tk bE) _ _ tvs
    refine ⟨_, rfl, _, rfl, _, rfl, O, _, rfl, .inl ⟨SqL.of eOF, fun t3 ht3 => ?_⟩⟩
    have S3' := Same.new (H := HF) (o := .tup vs) ht3
    have e3' : Tp (upd HF t3 (.tup vs)) (.ref t3) (rowsD (csP cs)) := .tup upd_same (by
      have := TpAll.keep (Same.tk S3') _ _ tvF
      unfold csP
      rw [List.map_map]
      exact this)
    have b3' := bF.same S3'
    have K3' := (KE.trans KF).same S3'
    have eR3 := S3' _ _ eR
    have tu3 := TpAll.keep (Same.tk S3') _ _ tus
    generalize (upd HF t3 (.tup vs)) = HG at *
    refine ⟨_, rfl, R, _, rfl, .inl ⟨SqL.of eR3, fun t4 ht4 => ?_⟩⟩
    have S4' := Same.new (H := HG) (o := .tup us) ht4
    have e4' : Tp (upd HG t4 (.tup us)) (.ref t4) (rowsD (recs.map rD)) := .tup upd_same (TpAll.keep (Same.tk S4') _ _ tu3)
    have b4' := b3'.same S4'
    have K4' := K3'.same S4'
    have eR4 := S4' _ _ eR3
    have tu4 := TpAll.keep (Same.tk S4') _ _ tu3
    have e34 := Tp.keep (Same.tk S4') _ _ e3'
    generalize (upd HG t4 (.tup us)) = HI at *
    refine ⟨_, rfl, _, rfl, _, rfl, b, R, own, recs, us, _, rfl, b4', by omega, no, eR4, nRb, tu4, rcw, fun v cws HJ tv cww cin kJ bJ => ⟨(by show 5 ≤ sizeLine; decide), fun tp htp => ?_⟩⟩
    have SK := Same.new (H := HJ) (o := .tup [.str own, .int age, .ref t3, .ref t4, v]) htp
    have kt := (kJ.tk b4').trans (Same.tk SK)
    refine q _ own age cs recs cws _ (.tup upd_same (.cons (.str _) (.cons (.int _) (.cons (Tp.keep kt _ _ e34) (.cons (Tp.keep kt _ _ e4') (.cons (Tp.keep (Same.tk SK) _ _ tv) .nil)))))) ⟨no, by omega, by omega, csw, rcw, cww, by rw [ecs, erc]; exact ndf⟩ ⟨by rw [ecs, erc]; exact fun r hr => (fls r hr).2, cin⟩ ((K4'.trans kJ).new htp) ((bJ.new htp).mono (by omega))
end
end Fh

set_option Elab.async false
set_option linter.all false
set_option maxRecDepth 100000
set_option maxHeartbeats 4000000
namespace Fh
open PySem PySem.Spec PyProof.Rows L2
open AutoSeq1 (wpAny_loadPart')
section
variable {prog : Program} {w : World} {A : Around} {E : Value → Shared → Prop} {s : Shared}
/-- tuples whose items are equal as far as both go -/
theorem tup_neq {l b : Addr} {xs ys : Array Value} {Q : Value → Shared → Prop} (hl : s.heap.IsTuple l xs) (hb : s.heap.IsTuple b ys) (hu : A.units < cLine)
    (eq : ∀ p ∈ xs.toList.zip ys.toList, SeqAt.EqP prog w A.in1 s p.1 p.2 true) (h : Q (.bool (xs.size != ys.size)) s) : wpAny (model prog w) A (richCompare .NotEq (.ref l) (.ref b)) Q E s := by
  obtain ⟨⟨c1, dd, d1, sl⟩, ho, hc, n, hd⟩ := hl
  obtain ⟨⟨c2, dd2, d2, sl2⟩, ho2, hc2, n2, hd2⟩ := hb
  dsimp only at hc hd hc2 hd2
  subst hc hd hc2 hd2
  refine wpAny_richCompare_same_room (op := .NotEq) ⟨_, ho, rfl⟩ ⟨_, ho2, rfl⟩ F.slot_tuple_ne (GQ.call_here F.slot_tuple_ne ⟨_, ho, rfl⟩ F.entry_tuple_ne (F.args_tuple_ne_2 _ _) ?_) hu
  have q0 := AutoSeq1.sub_tuple_tuple
  obtain ⟨hp, g, d, tk, os⟩ := s
  have fin : wants (fun v s' => v ≠ .notImplemented ∧ Q v s') E (.ok (.ret (.bool (xs.size != ys.size)))) ⟨hp, g, d, tk, os⟩ := ⟨(fun x => nomatch x), h⟩
  wp_walk using wpAny_loadPart' ho, wpAny_loadPart' ho2, wpAny_forIn_list _ (fun rest r s' => r.1 = none ∧ s' = ⟨hp, g, d, tk, os⟩ ∧ ∀ p ∈ rest, SeqAt.EqP prog w A.in1 ⟨hp, g, d, tk, os⟩ p.1 p.2 true) _
  case turn =>
    rintro ⟨y, x⟩ rest r s' ⟨hr, rfl, all⟩
    refine wpAny_bind (all (y, x) List.mem_cons_self _ _ ?_)
    wp_walk
    exact ⟨rfl, rfl, fun p hp' => all p (List.mem_cons_of_mem _ hp')⟩
  case fin =>
    rintro ⟨r1, r2⟩ s' ⟨hr, rfl, _⟩
    dsimp only at hr
    subst hr
    wp_walk
    simpa [Builtin.Tuple.tupleCompareSizes] using fin
  case h => exact ⟨rfl, rfl, eq⟩
end
section
variable {X : Cx}
/-- t == () -/
def rEqMt (K : PySem.W.Frag) : R2 := fun x y H Q => ∃ (a b : Addr) (xs : List V), x = .ref a ∧ y = .ref b ∧ SqT K H a xs ∧ SqT K H b [] ∧ Q (.bl xs.isEmpty) H
theorem op_eqMt (hu : X.A.units + 64 < cLine) : OpR X (compareOp .Eq) (rEqMt X.K) := by
  intro pins s σ H x y v u Q I rx ry want
  obtain ⟨a, b, xs, rfl, rfl, ha, hb, q⟩ := want
  cases (show v = Value.ref a from rx)
  cases (show u = Value.ref b from ry)
  obtain ⟨us, r1, p1, _⟩ := I.tuple ha
  obtain ⟨ws, r2, p2, _⟩ := I.tuple hb
  have l2 : ws = [] := List.eq_nil_of_length_eq_zero r2.length.symm
  subst l2
  refine PySem.W.eq_tuplesT (n := 0) (e := fun _ => true) p1 p2 (fun j h1 h2 => absurd h2 (Nat.not_lt_zero j)) (by omega) ?_
  have e1 : ((List.range (min us.toArray.size ([] : List Value).toArray.size)).all (fun _ => true) && us.toArray.size == ([] : List Value).toArray.size) = xs.isEmpty := by
    rw [List.size_toArray, ← r1.length]
    cases xs <;> simp
  rw [e1]
  exact ⟨.bl _, H, I, rfl, q⟩
/-- t != () -/
def rNeMt (K : PySem.W.Frag) : R2 := fun x y H Q => ∃ (a b : Addr) (xs : List V), x = .ref a ∧ y = .ref b ∧ SqT K H a xs ∧ SqT K H b [] ∧ Q (.bl (!xs.isEmpty)) H
theorem op_neMt (hu : X.A.units + 64 < cLine) : OpR X (compareOp .NotEq) (rNeMt X.K) := by
  intro pins s σ H x y v u Q I rx ry want
  obtain ⟨a, b, xs, rfl, rfl, ha, hb, q⟩ := want
  cases (show v = Value.ref a from rx)
  cases (show u = Value.ref b from ry)
  obtain ⟨us, r1, p1, _⟩ := I.tuple ha
  obtain ⟨ws, r2, p2, _⟩ := I.tuple hb
  have l2 : ws = [] := List.eq_nil_of_length_eq_zero r2.length.symm
  subst l2
  show wpAny (model X.prog X.w) X.A (richCompare .NotEq (.ref a) (.ref b)) (EP X pins σ Q) X.xe s
  refine tup_neq p1 p2 (by omega) (by simp) ?_
  have e1 : (us.toArray.size != ([] : List Value).toArray.size) = !xs.isEmpty := by
    rw [List.size_toArray, ← r1.length]
    cases xs <;> simp
  rw [e1]
  exact ⟨.bl _, H, I, rfl, q⟩
end
end Fh

set_option Elab.async false
set_option linter.all false
set_option maxRecDepth 100000
set_option maxHeartbeats 4000000
namespace Fh
open PySem L2 PyProof.Rows
/-! ### tracked data cut, joined, set -/
section
variable {X : Cx}
def rNeM9 (K : PySem.W.Frag) : R2 := fun x y H Q => ∃ (a b : Addr) (xs : List V), x = .ref a ∧ y = .ref b ∧ SqL K H a xs ∧ SqL K H b [] ∧ Q (.bl (!xs.isEmpty)) H
theorem op_neM9 (hu : X.A.units + 64 < cLine) : OpR X (compareOp .NotEq) (rNeM9 X.K) := by
  intro pins s σ H x y v u Q I rx ry want
  obtain ⟨a, b, xs, rfl, rfl, ha, hb, q⟩ := want
  cases (show v = Value.ref a from rx)
  cases (show u = Value.ref b from ry)
  obtain ⟨us, r1, p1, _⟩ := I.list ha
  obtain ⟨ws, r2, p2, _⟩ := I.list hb
  have l2 : ws = [] := List.eq_nil_of_length_eq_zero r2.length.symm
  subst l2
  cases xs with
  | nil =>
    have l1 : us = [] := List.eq_nil_of_length_eq_zero r1.length.symm
    subst l1
    exact SeqAt.RcNeAt.lists (e := fun _ => true) p1.isList p2.isList rfl (by omega) (fun j h1 h2 => absurd h2 (Nat.not_lt_zero j)) _ _ _ _ ⟨.bl false, H, I, rfl, q⟩
  | cons x xs =>
    have ne : (us.toArray.size != ([] : List Value).toArray.size) = true := by
      rw [List.size_toArray, ← r1.length]
      simp
    exact SeqAt.RcNeAt.lists_lengths p1.isList p2.isList ne (by omega) _ _ _ _ ⟨.bl true, H, I, rfl, q⟩
end
theorem atI_nat {α : Type} {xs : List α} {i : Nat} {x : α} (h : xs[i]? = some x) : atI xs (i : Int) = some x := by
  have hl := (List.getElem?_eq_some_iff.mp h).1
  unfold atI ixN
  rw [if_pos (by omega), if_pos (by omega)]
  show xs[(i : Int).toNat]? = _
  rw [Int.toNat_natCast]
  exact h
/-- a test, by a word between it and what follows -/
def tMidT (t : TT) : TT := fun σ H Q => ∃ Mid : Bool → Hp → Prop, t σ H Mid ∧ ∀ c H', Mid c H' → Q c H'
theorem pt_mid {X : Cx} {e : Expr} {t : TT} (h : PT X e t) : PT X e (tMidT t) := ⟨fun pins s σ H Q I hq => by
  obtain ⟨Mid, hm, hu⟩ := hq
  exact thn (h.run pins s σ H Mid I hm) fun c s1 ⟨H1, I1, q1⟩ => ⟨H1, I1, hu c H1 q1⟩⟩
theorem tpAt {H : Hp} {v : V} {ds : List PyData} {i : Nat} {d : PyData} (h : Tp H v (.tuple ds)) (e : ds[i]? = some d) : ∃ a xs x, v = .ref a ∧ H a = some (.tup xs) ∧ atI xs (i : Int) = some x ∧ Tp H x d := by
  obtain ⟨a, xs, rfl, ha, tx⟩ := Tp.inv h
  obtain ⟨x, hx, td⟩ := tx.get e
  exact ⟨a, xs, x, rfl, ha, atI_nat hx, td⟩
def cutG {α : Type} (xs : List α) (lo hi : Option Int) : List α := (xs.drop (HT.sIx xs.length 0 lo)).take (HT.sIx xs.length xs.length hi - HT.sIx xs.length 0 lo)
theorem cutG_to {α : Type} (xs : List α) (k : Nat) : cutG xs none (some (k : Int)) = xs.take k := by
  unfold cutG
  rw [HT.sIx_none, HT.sIx_nat, List.drop_zero, Nat.sub_zero]
  by_cases h : k ≤ xs.length
  · rw [Nat.min_eq_left h]
  · rw [Nat.min_eq_right (by omega), List.take_of_length_le (Nat.le_refl _), List.take_of_length_le (by omega)]
theorem cutG_from {α : Type} (xs : List α) (k : Nat) : cutG xs (some (k : Int)) none = xs.drop k := by
  unfold cutG
  rw [HT.sIx_none, HT.sIx_nat]
  by_cases h : k ≤ xs.length
  · rw [Nat.min_eq_left h, List.take_of_length_le (by rw [List.length_drop]; omega)]
  · rw [Nat.min_eq_right (by omega), Nat.sub_self, List.take_zero, List.drop_eq_nil_of_le (by omega)]
theorem cutG_mid {α : Type} (xs : List α) (k l : Nat) : cutG xs (some (k : Int)) (some (l : Int)) = (xs.take l).drop k := by
  unfold cutG
  rw [HT.sIx_nat, HT.sIx_nat]
  by_cases h : k ≤ xs.length
  · by_cases h2 : l ≤ xs.length
    · rw [Nat.min_eq_left h, Nat.min_eq_left h2, List.drop_take]
    · rw [Nat.min_eq_left h, Nat.min_eq_right (by omega), List.take_of_length_le (l := xs) (by omega), List.take_of_length_le (by rw [List.length_drop]; omega)]
  · rw [Nat.min_eq_right (a := k) (by omega), List.drop_eq_nil_of_le (Nat.le_refl _), List.take_nil, List.drop_eq_nil_of_le (by rw [List.length_take]; omega)]
theorem TpAll.dropG {H : Hp} : ∀ {vs : List V} {ds : List PyData} (k : Nat), TpAll H vs ds → TpAll H (vs.drop k) (ds.drop k)
  | _, _, 0, h => h
  | _, _, _ + 1, .nil => .nil
  | _, _, k + 1, .cons _ t => TpAll.dropG k t
theorem TpAll.takeG {H : Hp} : ∀ {vs : List V} {ds : List PyData} (k : Nat), TpAll H vs ds → TpAll H (vs.take k) (ds.take k)
  | _, _, 0, h => by rw [List.take_zero, List.take_zero]; exact .nil
  | _, _, _ + 1, .nil => .nil
  | _, _, k + 1, .cons h t => .cons h (TpAll.takeG k t)
theorem TpAll.setG {H : Hp} : ∀ {vs : List V} {ds : List PyData} (k : Nat) {v : V} {d : PyData}, TpAll H vs ds → Tp H v d → TpAll H (vs.set k v) (ds.set k d)
  | _, _, _, _, _, .nil, _ => .nil
  | _, _, 0, _, _, .cons _ t, hd => .cons hd t
  | _, _, k + 1, _, _, .cons h t, hd => .cons h (TpAll.setG k t hd)
theorem TpAll.cut {H : Hp} {vs : List V} {ds : List PyData} {lo hi : Option Int} (h : TpAll H vs ds) : TpAll H (cutV vs lo hi) (cutG ds lo hi) := by
  unfold cutV cutG
  rw [h.length]
  exact (h.dropG _).takeG _
section
variable {K : PySem.W.Frag} {H : Hp} {v u : V} {ds es : List PyData} {Q : V → Hp → Prop}
theorem tpIx {i : Nat} {d : PyData} (h : Tp H v (.tuple ds)) (e : ds[i]? = some d) (q : ∀ x, Tp H x d → Q x H) : rIxT K v (.int (i : Int)) H Q := by
  obtain ⟨a, xs, rfl, ha, tx⟩ := Tp.inv h
  obtain ⟨x, hx, td⟩ := tx.get e
  exact ⟨a, xs, _, x, rfl, rfl, SqT.of ha, atI_nat hx, q x td⟩
theorem tpIxL {a : Addr} {xs : List V} {i : Nat} {d : PyData} (ha : H a = some (.lst xs)) (tx : TpAll H xs ds) (e : ds[i]? = some d) (q : ∀ x, Tp H x d → Q x H) : rIxL K (.ref a) (.int (i : Int)) H Q := by
  obtain ⟨x, hx, td⟩ := tx.get e
  exact ⟨a, xs, _, x, rfl, rfl, SqL.of ha, atI_nat hx, q x td⟩
theorem tpSl {lo hi : Option Int} (h : Tp H v (.tuple ds)) (q : ∀ r H', Same H H' → Tp H' r (.tuple (cutG ds lo hi)) → Q r H') : rSlA K v lo hi H Q := by
  obtain ⟨a, xs, rfl, ha, tx⟩ := Tp.inv h
  refine ⟨a, xs, rfl, SqT.of ha, fun h => ?_, fun _ p hp => ?_⟩
  · have e : cutG ds lo hi = ds := by
      unfold cutG
      rw [← tx.length, h.1, h.2, List.drop_zero, Nat.sub_zero, tx.length, List.take_length]
    refine q _ H (Same.refl H) ?_
    rw [e]
    exact .tup ha tx
  · exact q _ _ (Same.new hp) (.tup upd_same (TpAll.keep (Same.tk (Same.new hp)) _ _ tx.cut))
theorem tpSlL {a : Addr} {xs : List V} {lo hi : Option Int} (ha : H a = some (.lst xs)) (tx : TpAll H xs ds) (q : ∀ r ys H', Same H H' → H r = none → H' r = some (.lst ys) → TpAll H' ys (cutG ds lo hi) → Q (.ref r) H') : rSlL K (.ref a) lo hi H Q :=
  ⟨a, xs, rfl, SqL.of ha, fun p hp => q p _ _ (Same.new hp) hp upd_same (TpAll.keep (Same.tk (Same.new hp)) _ _ tx.cut)⟩
theorem tpCat (h : Tp H v (.tuple ds)) (g : Tp H u (.tuple es)) (l : ds.length + es.length ≤ 10000) (q : ∀ r H', Same H H' → Tp H' r (.tuple (ds ++ es)) → Q r H') : rCatA K v u H Q := by
  obtain ⟨a, xs, rfl, ha, tx⟩ := Tp.inv h
  obtain ⟨b, ys, rfl, hb, ty⟩ := Tp.inv g
  refine ⟨a, b, xs, ys, rfl, rfl, SqT.of ha, SqT.of hb, by rw [tx.length, ty.length]; exact Nat.le_trans l (by decide), fun e => ?_, fun _ e => ?_, fun _ _ p hp => ?_⟩
  · have l0 := tx.length
    rw [e] at l0
    refine q _ H (Same.refl H) ?_
    rw [List.eq_nil_of_length_eq_zero l0.symm, List.nil_append]
    exact .tup hb ty
  · have l0 := ty.length
    rw [e] at l0
    refine q _ H (Same.refl H) ?_
    rw [List.eq_nil_of_length_eq_zero l0.symm, List.append_nil]
    exact .tup ha tx
  · exact q _ _ (Same.new hp) (.tup upd_same (TpAll.keep (Same.tk (Same.new hp)) _ _ (tx.app ty)))
theorem tpTup {xs : List V} (tx : TpAll H xs ds) (l : ds.length ≤ 10000) (q : ∀ r H', Same H H' → Tp H' r (.tuple ds) → Q r H') : xs.length ≤ sizeLine ∧ ∀ p, H p = none → Q (.ref p) (upd H p (.tup xs)) :=
  ⟨by rw [tx.length]; exact Nat.le_trans l (by decide), fun p hp => q _ _ (Same.new hp) (.tup upd_same (TpAll.keep (Same.tk (Same.new hp)) _ _ tx))⟩
theorem tupNew {xs : List V} {p : Addr} (hp : H p = none) (tx : TpAll H xs ds) : Same H (upd H p (.tup xs)) ∧ Tp (upd H p (.tup xs)) (.ref p) (.tuple ds) := ⟨Same.new hp, .tup upd_same (TpAll.keep (Same.tk (Same.new hp)) _ _ tx)⟩
theorem tpSet {a : Addr} {xs : List V} {i : Nat} {N : Hp → Prop} (ha : H a = some (.lst xs)) (tx : TpAll H xs ds) (hi : i < ds.length) {d : PyData} (td : Tp H v d) (q : ∀ H', H' = upd H a (.lst (xs.set i v)) → Tk H H' → TpAll H' (xs.set i v) (ds.set i d) → N H') : rSetL (.ref a) (.int (i : Int)) v H N := by
  have hl : i < xs.length := by rw [tx.length]; exact hi
  refine ⟨a, xs, _, i, rfl, rfl, ha, ?_, q _ rfl (Tk.wr ha) (TpAll.keep (Tk.wr ha) _ _ (tx.setG i td))⟩
  unfold ixN
  rw [if_pos (by omega), if_pos (by omega), Int.toNat_natCast]
end
theorem npT {σ : L2.St} {H : Hp} {Q : Option Int → Hp → Prop} (h : Q none H) : tNoPart σ H Q := h
theorem set_cut {α : Type} {l : List α} {i : Nat} {x : α} (h : i < l.length) : l.take i ++ [x] ++ l.drop (i + 1) = l.set i x := by
  rw [List.set_eq_take_append_cons_drop, if_pos h, List.append_assoc]
  rfl
/-! ### fields, records, calls with one of them otherwise -/
theorem map_setG {α β : Type} {f : α → β} {l : List α} {i : Nat} {x y : α} (h : l[i]? = some y) (e : f x = f y) : (l.set i x).map f = l.map f := by
  rw [List.map_set, e]
  have h2 : (l.map f)[i]? = some (f y) := by rw [List.getElem?_map, h]; rfl
  exact List.ext_getElem? fun j => by
    rw [List.getElem?_set]
    split
    · rename_i ej
      subst ej
      split
      · exact h2.symm
      · rename_i hn
        rw [List.getElem?_eq_none (by omega)]
    · rfl
theorem mem_setG {α : Type} {l : List α} {i : Nat} {x z : α} (h : z ∈ l.set i x) : z ∈ l ∨ z = x := List.mem_or_eq_of_mem_set h
theorem FlW.set {fl : List Fl} (h : FlW fl) {i : Nat} {f g : Fl} (hf : fl[i]? = some f) (en : g.nam = f.nam) (eu : g.num = f.num) (nk : ∀ z, g.kd.nm = some z → Nm z) : FlW (fl.set i g) := by
  have hm := List.mem_of_getElem? hf
  refine ⟨by rw [List.length_set]; exact h.l5, by rw [map_setG hf en]; exact h.nd, fun q hq => ?_, fun q hq => ?_, by rw [map_setG hf eu]; exact h.rise, fun q hq => ?_⟩
  · rcases mem_setG hq with h1 | h1
    · exact h.nm q h1
    · rw [h1, en]; exact h.nm f hm
  · rcases mem_setG hq with h1 | h1
    · exact h.nk q h1
    · rw [h1]; exact nk
  · rcases mem_setG hq with h1 | h1
    · exact h.rg q h1
    · rw [h1, eu]; exact h.rg f hm
theorem RecsW.set {recs : List Rec} (h : RecsW recs) {i : Nat} {r : Rec} (hr : recs[i]? = some r) {fl : List Fl} (hf : FlW fl) : RecsW (recs.set i (r.1, fl)) := by
  have hm := List.mem_of_getElem? hr
  refine ⟨by rw [List.length_set]; exact h.l6, by rw [map_setG (f := fun q : Rec => q.1) (x := (r.1, fl)) hr rfl]; exact h.nd, fun q hq => ?_, fun q hq => ?_⟩
  · rcases mem_setG hq with h1 | h1
    · exact h.nm q h1
    · rw [h1]; exact h.nm r hm
  · rcases mem_setG hq with h1 | h1
    · exact h.fl q h1
    · rw [h1]; exact hf
theorem CwsW.set {cws : List Cw} (h : CwsW cws) {i : Nat} {c d : Cw} (hc : cws[i]? = some c) (en : d.nam = c.nam) (eu : d.num = c.num) (hd : CwW d) : CwsW (cws.set i d) := by
  have hm := List.mem_of_getElem? hc
  refine ⟨by rw [List.length_set]; exact h.l6, by rw [map_setG hc en]; exact h.nd, fun q hq => ?_, by rw [map_setG hc eu]; exact h.rise, fun q hq => ?_⟩
  · rcases mem_setG hq with h1 | h1
    · exact h.ok q h1
    · rw [h1]; exact hd
  · rcases mem_setG hq with h1 | h1
    · exact h.rg q h1
    · rw [h1, eu]; exact h.rg c hm
theorem PtW.setR {own : Str} {age : Int} {cs : List Cho} {recs : List Rec} {cws : List Cw} (h : PtW own age cs recs cws) {i : Nat} {r : Rec} (hr : recs[i]? = some r) {fl : List Fl} (hf : FlW fl) : PtW own age cs (recs.set i (r.1, fl)) cws :=
  ⟨h.on, h.a1, h.a2, h.co, h.rc.set hr hf, h.cw, by rw [map_setG (f := fun q : Rec => q.1) (x := (r.1, fl)) hr rfl]; exact h.nd⟩
theorem PtW.setC {own : Str} {age : Int} {cs : List Cho} {recs : List Rec} {cws : List Cw} (h : PtW own age cs recs cws) {i : Nat} {c d : Cw} (hc : cws[i]? = some c) (en : d.nam = c.nam) (eu : d.num = c.num) (hd : CwW d) : PtW own age cs recs (cws.set i d) :=
  ⟨h.on, h.a1, h.a2, h.co, h.rc, h.cw.set hc en eu hd, h.nd⟩
theorem PtW.names {own : Str} {age : Int} {cs : List Cho} {recs : List Rec} {cws : List Cw} (h : PtW own age cs recs cws) : ∀ z ∈ cs.map (·.1) ++ recs.map (·.1), Nm z := fun z hz => by
  rcases List.mem_append.mp hz with hz | hz
  · obtain ⟨c, hc, rfl⟩ := List.mem_map.mp hz
    exact h.co.nm c hc
  · obtain ⟨c, hc, rfl⟩ := List.mem_map.mp hz
    exact h.rc.nm c hc
end Fh

set_option Elab.async false
set_option linter.all false
set_option maxRecDepth 100000
set_option maxHeartbeats 4000000
namespace Fh
open PySem L2 PyProof.Rows
/-! ### names gone astray -/
def rowsL (recs : List Rec) : List PyData := (recs.map rD).map fun r => .tuple [.str r.1, r.2]
theorem rowsL_at {recs : List Rec} {i : Nat} {r : Rec} (h : recs[i]? = some r) : (rowsL recs)[i]? = some (.tuple [.str r.1, fieldsD r.2]) := by
  unfold rowsL
  rw [List.getElem?_map, List.getElem?_map, h]
  rfl
theorem rowsL_set {recs : List Rec} {i : Nat} {r : Rec} : (rowsL recs).set i (.tuple [.str r.1, fieldsD r.2]) = rowsL (recs.set i r) := by
  unfold rowsL
  rw [List.map_set, List.map_set]
  rfl
theorem rowsL_len {recs : List Rec} : (rowsL recs).length = recs.length := by
  unfold rowsL
  rw [List.length_map, List.length_map]
abbrev nStr9 : List Str := ["_law_bag_here", "_law_parts", "_law_recs", "_law_acts", "_law_pool", "_law_one", "_law_some", "_law_turn", "_law_word", "_law_spot", "_law_at", "_law_fields", "_law_kind"]
abbrev pStr9 : List Str := ["_law_bag_here", "_law_parts"]
def spStr9 : Sp := fun vs H Q _ => ∃ (b : Addr) (v : V) (own : Str) (age : Int) (cs : List Cho) (recs : List Rec) (cws : List Cw) (n : Nat), vs = [.ref b, v] ∧ Bag H b n ∧ n + 100 ≤ most ∧ Tp H v (ptD own age cs recs cws) ∧ PtW own age cs recs cws ∧
  ∀ (v' : V) (recs' : List Rec) (cws' : List Cw) (H' : Hp), Tp H' v' (ptD own age cs recs' cws') → PtW own age cs recs' cws' → Kp b H H' → Bag H' b (n + 50) → Q v' H'
section
variable {P : Program} {w : World} {K : PySem.W.Frag} {mg : Str → Option Value} {base : Heap}
end
end Fh

set_option Elab.async false
set_option linter.all false
set_option maxRecDepth 100000
set_option maxHeartbeats 4000000
namespace Fh
open PySem L2 PyProof.Rows
/-! ### what is due -/
theorem sortset {P : Program} {w : World} {K : PySem.W.Frag} {H : Hp} {p : Addr} {T : List Row} {Q : V → Hp → Prop} (X : RwL H p T) (wk : ∀ q ∈ T, WrK q.2) (l : T.length < 300)
    (q : ∀ (r : Addr) (T4 : List Row) (H' : Hp), Same H H' → H r = none → RwL H' r T4 → T4.length < 300 → (T4.map (·.2)).Pairwise (fun x y => rowLe x y = true) → (T4.map (·.2)).Nodup → (∀ x, x ∈ T4.map (·.2) ↔ x ∈ T.map (·.2)) → Q (.ref r) H') :
    rSetKx K P w [.ref p] H fun y H1 => rSortedSKx K P w [y] H1 Q := by
  refine ⟨p, T, rfl, SqL.of X.l, fun q hq => SqT.of (X.t q hq), l, fun S T' hS s1 s2 nd lT' => ?_⟩
  have S5 : Same H (upd H S (SetKx P w S T')) := Same.new hS
  refine ⟨S, T', rfl, upd_same, fun q hq => SqT.of (S5 _ _ (X.t q (s1 q hq))), fun q hq q2 hq2 => (wk q (s1 q hq)).cm (wk q2 (s1 q2 hq2)), fun q hq => (wk q (s1 q hq)).fst, lT', fun T4 r pm pw hr' => ?_⟩
  have S6 : Same (upd H S (SetKx P w S T')) (upd (upd H S (SetKx P w S T')) r (.lst (T4.map fun q => V.ref q.1))) := Same.new hr'
  have sub4 : ∀ q ∈ T4, q ∈ T := fun q hq => s1 q (pm.mem_iff.mp hq)
  have S56 := S5.trans S6
  refine q r T4 _ S56 (S5.free hr') ⟨upd_same, fun q hq => S56 _ _ (X.t q (sub4 q hq))⟩ (by rw [pm.length_eq]; exact lT') pw (((pm.map (·.2)).nodup_iff).mpr nd) fun x => ?_
  constructor
  · intro hx
    obtain ⟨q, hq, rfl⟩ := List.mem_map.mp hx
    exact List.mem_map.mpr ⟨q, sub4 q hq, rfl⟩
  · intro hx
    obtain ⟨q, hq, rfl⟩ := List.mem_map.mp hx
    exact ((pm.map (·.2)).mem_iff).mpr (s2 q hq)
/-- x[i] of a text or a tuple -/
theorem ix_both {X : Cx} {r1 r2 : R2} (h1 : IxR X r1) (h2 : IxR X r2) : IxR X (fun x y H Q => r1 x y H Q ∨ r2 x y H Q) := by
  intro value slice pins s σ H x y v u Q I rx ry h hs
  rcases h with h | h
  · exact h1 value slice pins s σ H x y v u Q I rx ry h hs
  · exact h2 value slice pins s σ H x y v u Q I rx ry h hs
/-- [x for x, y in rows] over a tuple -/
theorem lc_fst {K : PySem.W.Frag} {a i j : Nat} {p : Addr} {xs : List V} {rows : List (Str × PyData)} {σ : L2.St} {H : Hp} {D : Addr} {Qd : Hp → Prop} (hij : i ≠ j) (hi : i < σ.length) (hw : ∀ x y : Option V, wipe (((wipe σ [i, j]).set i x).set j y) [i, j] = wipe σ [i, j]) (hp : H p = some (.tup xs)) (tx : TpAll H xs (rows.map fun r => .tuple [.str r.1, r.2])) (l : rows.length ≤ 100) (hD : H D = none)
    (hd : ∀ H', Same H H' → H' D = some (.lst ((rows.map (·.1)).map V.str)) → Qd H') :
    ∃ W : Nat → Nat → Hp → Prop, (∃ m, W 0 m (upd H D (.lst []))) ∧ ∀ k m H, W k m H →
      ((Itt K p).stop k H ∧ Qd H) ∨ ((Itt K p).go k H ∧ ∃ Nx : Hp → Prop, (∀ H', Nx H' → ∃ m', m' < m ∧ W (k + 1) m' H') ∧ ∀ x H', (Itt K p).yld k H x H' → gTup K 2 (gCons (gName i) (gCons (gName j) gNil)) x (wipe σ [i, j]) H' fun σ2 H2 => wipe σ2 [i, j] = wipe σ [i, j] ∧ tYes σ2 H2 fun b H3 =>
        if b = true then tVar i σ2 H3 fun y H4 => ∃ acc, H4 D = some (.lst acc) ∧ acc.length < sizeLine ∧ Nx (upd H4 D (.lst (acc ++ [y]))) else Nx H3) := by
  refine lcG_tup (xs := xs) (l := rows) (dx := fun r => .tuple [.str r.1, r.2]) (val := fun r => .str r.1) (keep := fun _ => true) (fun H' S => SqT.of (S _ _ hp)) tx (Nat.lt_of_le_of_lt l (by decide)) hD ?_ ?_
  · intro k r x H' hk S' tr N M hN hM
    obtain ⟨a, y, u, rfl, ha, hy, hu2⟩ := Tp.pair tr
    rw [hy.istr] at ha
    refine ⟨a, _, rfl, SqT.of ha, rfl, _, _, rfl, _, _, rfl, rfl, ?_, yes (iteT ⟨.str r.1, ?_, hM rfl _ _ (Same.refl _) (.str _)⟩)⟩
    · exact hw _ _
    · show (((wipe σ [i, j]).set i (some (.str r.1))).set j (some u))[i]? = some (some (.str r.1))
      rw [List.getElem?_set_ne (Ne.symm hij), List.getElem?_set_self]
      rw [wipe_length]
      exact hi
  intro H' zs S' hD' tz
  rw [filt_all] at tz
  have ez := tp_strsM tz
  subst ez
  exact hd H' S' hD'
def dueL (cs : List Cho) (recs : List Rec) (cws : List Cw) : List (List Key) := (nobL (csP cs) recs).map txK ++ cws.flatMap fun c => stoL recs c [c.ask, c.ans]
theorem due_wrk {cs : List Cho} {recs : List Rec} {cws : List Cw} : ∀ x ∈ dueL cs recs cws, WrK x := fun x hx => by
  rcases List.mem_append.mp hx with h | h
  · obtain ⟨y, hy, rfl⟩ := List.mem_map.mp h
    obtain ⟨r, _, hr⟩ := List.mem_flatMap.mp hy
    obtain ⟨f, _, rfl⟩ := List.mem_map.mp hr
    exact ⟨_, _, _, rfl, .inl ⟨.inl rfl, _, rfl⟩⟩
  · obtain ⟨c, _, hc⟩ := List.mem_flatMap.mp h
    exact sto_wrk x hc
abbrev nDue : List Str := ["_law_parts", "_law_menus", "_law_forms", "_law_one", "_law_some", "_law_found", "_law_fields", "_law_mark", "_law_word", "_law_kind", "_law_need", "_law_inner", "_law_ask", "_law_back", "_law_deeds"]
def spDue : Sp := fun vs H Q _ => ∃ (v : V) (own : Str) (age : Int) (cs : List Cho) (recs : List Rec) (cws : List Cw), vs = [v] ∧ Tp H v (ptD own age cs recs cws) ∧ PtW own age cs recs cws ∧
  ∀ (r : Addr) (T : List Row) (H' : Hp), Same H H' → H r = none → RwL H' r T → T.length < 300 → (T.map (·.2)).Pairwise (fun x y => rowLe x y = true) → (T.map (·.2)).Nodup → (∀ x, x ∈ T.map (·.2) ↔ x ∈ dueL cs recs cws) → Q (.ref r) H'
section
variable {P : Program} {w : World} {K : PySem.W.Frag} {mg : Str → Option Value} {base : Heap}
end
end Fh

set_option Elab.async false
set_option linter.all false
set_option maxRecDepth 100000
set_option maxHeartbeats 4000000
namespace Fh
open PySem L2 PyProof.Rows
/-! ### told right -/
def keyK : Key → PyData
  | .inl i => .int i
  | .inr z => .str z
def rowK (x : List Key) : PyData := .tuple (x.map keyK)
def rowsK (xs : List (List Key)) : PyData := .list (xs.map rowK)
theorem eqv_key : ∀ k : Key, PyData.eqv (keyK k) (keyK k) = true
  | .inl i => beq_self_eq_true i
  | .inr z => beq_self_eq_true z
theorem eqv_all {α : Type} {f : α → PyData} (h : ∀ x, PyData.eqv (f x) (f x) = true) : ∀ l : List α, PyData.eqvAll (l.map f) (l.map f) = true
  | [] => rfl
  | x :: l => by
    show (PyData.eqv (f x) (f x) && PyData.eqvAll (l.map f) (l.map f)) = true
    rw [h x, eqv_all h l]
    rfl
theorem eqv_rows (xs : List (List Key)) : PyData.eqv (rowsK xs) (rowsK xs) = true := eqv_all (f := rowK) (fun x => eqv_all (f := keyK) eqv_key x) xs
/-- every text of a row is a name -/
def RwNm (x : List Key) : Prop := ∀ z, (Sum.inr z : Key) ∈ x → Nm z
theorem sh_rows {xs : List (List Key)} (h : ∀ x ∈ xs, RwNm x) : SeqAt.shaped (rowsK xs) = true := by
  refine (Sh.lst (n := 1) fun d hd => ?_).shaped (by decide)
  obtain ⟨x, hx, rfl⟩ := List.mem_map.mp hd
  refine Sh.tup fun e he => ?_
  obtain ⟨k, hk, rfl⟩ := List.mem_map.mp he
  cases k with
  | inl i => exact Sh.int i
  | inr z => exact nm_shQ (h x hx z hk)
theorem dp_keys {K : PySem.W.Frag} {H : Hp} : ∀ x : List Key, DpAll K H (x.map kV) (x.map keyK)
  | [] => .nil
  | .inl i :: x => .cons (.int i) (dp_keys x)
  | .inr z :: x => .cons (.str z) (dp_keys x)
theorem dp_rowsA {K : PySem.W.Frag} {H : Hp} : ∀ {T : List Row}, (∀ q ∈ T, H q.1 = some (.tup (q.2.map kV))) → DpAll K H (T.map fun q => V.ref q.1) ((T.map (·.2)).map rowK)
  | [], _ => .nil
  | q :: T, h => .cons (.tup (SqT.of (h q List.mem_cons_self)) (dp_keys q.2)) (dp_rowsA fun r hr => h r (List.mem_cons_of_mem _ hr))
theorem dp_rows {K : PySem.W.Frag} {H : Hp} {p : Addr} {T : List Row} (X : RwL H p T) : Dp K H (.ref p) (rowsK (T.map (·.2))) := .lst (SqL.of X.l) (dp_rowsA X.t)
theorem nm_w {w : Str} (h : w = "nobody" ∨ w = "unset" ∨ w = "endless" ∨ w = "deed" ∨ w = "twice") : Nm w := by
  rcases h with rfl | rfl | rfl | rfl | rfl <;> exact nm_lit (by decide +kernel)
theorem rw3 {w a b : Str} (h1 : Nm w) (h2 : Nm a) (h3 : Nm b) : RwNm [.inr w, .inr a, .inr b] := fun z hz => by
  simp only [List.mem_cons, List.not_mem_nil, or_false, Sum.inr.injEq] at hz
  rcases hz with rfl | rfl | rfl
  · exact h1
  · exact h2
  · exact h3
theorem rw3i {w a : Str} {j : Int} (h1 : Nm w) (h2 : Nm a) : RwNm [.inr w, .inr a, .inl j] := fun z hz => by
  simp only [List.mem_cons, List.not_mem_nil, or_false, Sum.inr.injEq, reduceCtorEq] at hz
  rcases hz with rfl | rfl
  · exact h1
  · exact h2
theorem rw2 {w a : Str} (h1 : Nm w) (h2 : Nm a) : RwNm [.inr w, .inr a] := fun z hz => by
  simp only [List.mem_cons, List.not_mem_nil, or_false, Sum.inr.injEq] at hz
  rcases hz with rfl | rfl
  · exact h1
  · exact h2
theorem nob_nm {cs : List (Str × PyData)} {recs : List Rec} (h : RecsW recs) : ∀ x ∈ (nobL cs recs).map txK, RwNm x := fun x hx => by
  obtain ⟨y, hy, rfl⟩ := List.mem_map.mp hx
  obtain ⟨r, hr, hy⟩ := List.mem_flatMap.mp hy
  obtain ⟨f, hf, rfl⟩ := List.mem_map.mp hy
  obtain ⟨hf, hk⟩ := List.mem_filter.mp hf
  obtain ⟨z, hz⟩ := nob_name hk
  have nz : Nm (f.kd.nm.getD "") := by rw [hz]; exact (h.fl r hr).nk f hf z hz
  exact rw3 (nm_w (.inl rfl)) (h.nm r hr) nz
theorem sto_nm {recs : List Rec} {c : Cw} (h : CwW c) : ∀ x ∈ stoL recs c [c.ask, c.ans], RwNm x := fun x hx => by
  obtain ⟨z, hz, rfl⟩ := List.mem_map.mp hx
  have hz := (List.mem_filter.mp hz).1
  refine rw3 (nm_w (.inl rfl)) h.nm ?_
  simp only [List.mem_cons, List.not_mem_nil, or_false] at hz
  rcases hz with rfl | rfl
  · exact h.na
  · exact h.nb
theorem wde1_nm {nm : Str} {c : Cw} (h : CwW c) {own an : List Fl} {j : Nat} {d : List Str} : ∀ x ∈ wde1 nm c own an j d, RwNm x := fun x hx => by
  rcases List.mem_append.mp hx with g | g
  · split at g
    · cases g
    · rw [List.mem_singleton.mp g]; exact rw3i (nm_w (.inr (.inr (.inr (.inl rfl))))) h.nm
  · split at g
    · rw [List.mem_singleton.mp g]; exact rw3i (nm_w (.inr (.inr (.inr (.inr rfl))))) h.nm
    · cases g
theorem wdeR_nm {nm : Str} {c : Cw} (h : CwW c) {own an : List Fl} : ∀ j, ∀ x ∈ wdeR nm c own an j, RwNm x
  | 0, x, hx => by cases hx
  | j + 1, x, hx => by
    rcases List.mem_append.mp hx with g | g
    · exact wdeR_nm h j x g
    · cases q : c.ds[j]? with
      | none => rw [q] at g; cases g
      | some d =>
        rw [q] at g
        exact wde1_nm h x g
theorem uns_nm {c : Cw} (h : CwW c) {an : List Fl} (ha : FlW an) : ∀ x ∈ unsL c an, RwNm x := fun x hx => by
  obtain ⟨f, hf, rfl⟩ := List.mem_map.mp hx
  exact rw3 (nm_w (.inr (.inl rfl))) h.nm (ha.nm f (List.mem_filter.mp (List.mem_filter.mp hf).1).1)
theorem wroC_nm {nm : Str} {recs : List Rec} {c : Cw} (hr : RecsW recs) (h : CwW c) : ∀ x ∈ wroC nm recs c, RwNm x := fun x hx => by
  unfold wroC at hx
  split at hx
  · rcases List.mem_append.mp hx with g | g
    · exact wdeR_nm h _ x g
    · exact uns_nm h (hr.at _) x g
  · exact sto_nm h x hx
theorem wroL_nm {nm : Str} {cs : List (Str × PyData)} {recs : List Rec} {cws : List Cw} (hr : RecsW recs) (h : CwsW cws) : ∀ x ∈ wroL nm cs recs cws, RwNm x := fun x hx => by
  rcases List.mem_append.mp hx with g | g
  · rcases List.mem_append.mp g with g | g
    · exact nob_nm hr x g
    · obtain ⟨y, hy, rfl⟩ := List.mem_map.mp g
      obtain ⟨r, hr2, rfl⟩ := List.mem_map.mp hy
      exact rw2 (nm_w (.inr (.inr (.inl rfl)))) (hr.nm r (List.mem_filter.mp hr2).1)
  · obtain ⟨c, hc, hx⟩ := List.mem_flatMap.mp g
    exact wroC_nm hr (h.ok c hc) x hx
theorem due_nm {cs : List Cho} {recs : List Rec} {cws : List Cw} (hr : RecsW recs) (h : CwsW cws) : ∀ x ∈ dueL cs recs cws, RwNm x := fun x hx => by
  rcases List.mem_append.mp hx with g | g
  · exact nob_nm hr x g
  · obtain ⟨c, hc, hx⟩ := List.mem_flatMap.mp g
    exact sto_nm (h.ok c hc) x hx
/-- sorted rows without two alike that have the same members are the same -/
theorem rows_same {l m : List (List Key)} (n1 : l.Nodup) (n2 : m.Nodup) (h : ∀ x, x ∈ l ↔ x ∈ m) (p1 : l.Pairwise fun x y => rowLe x y = true) (p2 : m.Pairwise fun x y => rowLe x y = true) : l = m :=
  rows_one ((List.perm_ext_iff_of_nodup n1 n2).mpr h) p1 p2
abbrev nTrt : List Str := ["_law_told", "_law_one"]
def spTrt : Sp := fun vs H Q _ => ∃ (p : Addr) (T : List Row), vs = [.ref p] ∧ RwL H p T ∧ T.length < 300 ∧ (∀ q ∈ T, WrK q.2 ∧ RwNm q.2) ∧ (T.map (·.2)).Pairwise (fun x y => rowLe x y = true) ∧ (T.map (·.2)).Nodup ∧
  ∀ H', Same H H' → Q (.bl true) H'
section
variable {P : Program} {w : World} {K : PySem.W.Frag} {mg : Str → Option Value} {base : Heap}
end
end Fh

set_option Elab.async false
set_option linter.all false
set_option maxRecDepth 100000
set_option maxHeartbeats 4000000
namespace Fh
open PySem L2 PyProof.Rows
abbrev sInit : Stmt := inClass (top 34) 0
abbrev sFace : Stmt := top 48
structure ClsF (K : PySem.W.Frag) (mg : Str → Option Value) (C : Addr) : Prop where
  cl : Cls K C
  n1 : NoAttr K C "name"
  n2 : NoAttr K C "edition"
  n3 : NoAttr K C "choices"
  n4 : NoAttr K C "records"
  n5 : NoAttr K C "calls"
  mgC : mg "Face" = some (.ref C)
def spInitF (C : Addr) : Sp := fun vs H Q _ => ∃ (x dx : Addr) (v1 v2 v3 v4 v5 : V), vs = [.ref x, v1, v2, v3, v4, v5] ∧ H x = some (.ins C dx []) ∧ Q .non (upd H x (.ins C dx (ff v1 v2 v3 v4 v5)))
section
variable {P : Program} {w : World} {K : PySem.W.Frag} {mg : Str → Option Value} {base : Heap}
abbrev pInit : List Str := ["self", "name", "edition", "choices", "records", "calls"]
theorem scInit : FnScope pInit pInit (defScope sInit) := ⟨rfl, rfl, rfl, by decide +kernel, rfl, by decide +kernel, by decide +kernel⟩
theorem ok_init {f C : Addr} {fd : FuncData} {kws : List (Str × V)} (F : FunD K "__init__" "Face.__init__" (defArgs sInit) (defBody sInit) (defScope sInit) [] kws f fd) (T : ClsF K mg C) : FnOk P w K mg base CX0 1 f fd pInit (spInitF C) := by
  refine F.ok scInit (fun vs H Q E h => ?_) (fun cdv A outer s H vs Q E hr h => ?_)
  · obtain ⟨x, dx, v1, v2, v3, v4, v5, rfl, _⟩ := h
    rfl
  · obtain ⟨x, dx, v1, v2, v3, v4, v5, rfl, hx, k⟩ := h
    refine ⟨_, PSs.nox (pss_cons (ps_fld (pv 0) (pv 1) rfl) (pss_cons (ps_fld (pv 0) (pv 2) rfl) (pss_cons (ps_fld (pv 0) (pv 3) rfl) (pss_cons (ps_fld (pv 0) (pv 4) rfl) (pss_one (ps_fld (pv 0) (pv 5) rfl)))))), ?_⟩
    refine ⟨_, rfl, _, rfl, x, C, dx, _, rfl, hx, T.cl, T.n1, (by show 0 < 1000; decide), ?_⟩
    refine ⟨_, rfl, _, rfl, x, C, dx, _, rfl, upd_same, T.cl, T.n2, ?_, ?_⟩
    · exact Nat.lt_of_le_of_lt (putF_len _ _ _) (by show 0 + 1 < 1000; decide)
    refine ⟨_, rfl, _, rfl, x, C, dx, _, rfl, upd_same, T.cl, T.n3, ?_, ?_⟩
    · exact Nat.lt_of_le_of_lt (Nat.le_trans (putF_len _ _ _) (Nat.succ_le_succ (putF_len _ _ _))) (by show 0 + 1 + 1 < 1000; decide)
    refine ⟨_, rfl, _, rfl, x, C, dx, _, rfl, upd_same, T.cl, T.n4, ?_, ?_⟩
    · exact Nat.lt_of_le_of_lt (Nat.le_trans (putF_len _ _ _) (Nat.succ_le_succ (Nat.le_trans (putF_len _ _ _) (Nat.succ_le_succ (putF_len _ _ _))))) (by show 0 + 1 + 1 + 1 < 1000; decide)
    refine ⟨_, rfl, _, rfl, x, C, dx, _, rfl, upd_same, T.cl, T.n5, ?_, ?_⟩
    · exact Nat.lt_of_le_of_lt (Nat.le_trans (putF_len _ _ _) (Nat.succ_le_succ (Nat.le_trans (putF_len _ _ _) (Nat.succ_le_succ (Nat.le_trans (putF_len _ _ _) (Nat.succ_le_succ (putF_len _ _ _))))))) (by show 0 + 1 + 1 + 1 + 1 < 1000; decide)
    have e : upd (upd (upd (upd (upd H x (.ins C dx (putF "name" v1 []))) x (.ins C dx (putF "edition" v2 (putF "name" v1 [])))) x (.ins C dx (putF "choices" v3 (putF "edition" v2 (putF "name" v1 []))))) x (.ins C dx (putF "records" v4 (putF "choices" v3 (putF "edition" v2 (putF "name" v1 [])))))) x (.ins C dx (ff v1 v2 v3 v4 v5)) = upd H x (.ins C dx (ff v1 v2 v3 v4 v5)) := by
      rw [upd_upd, upd_upd, upd_upd, upd_upd]
    rw [← e] at k
    exact k
end
structure MkF (P : Program) (w : World) (K : PySem.W.Frag) (mg : Str → Option Value) (base : Heap) (C : Addr) : Prop where
  ex : ∃ (f : Addr) (fd : FuncData) (e1 e2 e3 : Addr), Mk K C f ∧ FnOk P w K mg base CX0 1 f fd pInit (spInitF C) ∧ FunD K "__init__" "Face.__init__" (defArgs sInit) (defBody sInit) (defScope sInit) [] [("choices", .ref e1), ("records", .ref e2), ("calls", .ref e3)] f fd
  mgC : mg "Face" = some (.ref C)
def g0 {α : Type} (us mv ws : List α) : List α := us ++ ws
section
variable {K : PySem.W.Frag} {f : Addr} {fd : FuncData} {e1 e2 e3 : Addr}
abbrev DInit (K : PySem.W.Frag) (e1 e2 e3 f : Addr) (fd : FuncData) : Prop := FunD K "__init__" "Face.__init__" (defArgs sInit) (defBody sInit) (defScope sInit) [] [("choices", .ref e1), ("records", .ref e2), ("calls", .ref e3)] f fd
theorem kb0 (F : DInit K e1 e2 e3 f fd) : ∃ mv : List Value, KBn K fd pInit 3 ["choices", "records", "calls"] (fun us ws => g0 us mv ws) (fun vs zs => g0 vs [] zs) :=
  FunD.kbinds0 F 3 ["choices", "records", "calls"] [] (fun {α} us mv ws => g0 us mv ws) (by simp) (fun q h => by cases h) (fun r1 _ r3 => r1.append r3) fun D doc pm an cdv ct us mv ws h1 h2 h3 => by
    match us, h1, ws, h3, mv, h2 with
    | [_, _, _], _, [_, _, _], _, [], _ => exact rfl
end
def spFace (C : Addr) : Sp := fun vs H Q _ => ∃ (p : Addr) (v1 v2 v3 v4 v5 : V), vs = [.ref p] ∧ H p = some (.tup [v1, v2, v3, v4, v5]) ∧
  ∀ (x dx : Addr) (H' : Hp), Same H H' → H x = none → H' x = some (.ins C dx (ff v1 v2 v3 v4 v5)) → Q (.ref x) H'
section
variable {P : Program} {w : World} {K : PySem.W.Frag} {mg : Str → Option Value} {base : Heap}
theorem scFace : FnScope ["_law_parts"] ["_law_parts"] (defScope sFace) := ⟨rfl, rfl, rfl, by decide +kernel, rfl, by decide +kernel, by decide +kernel⟩
theorem ok_face {f C : Addr} {fd : FuncData} (F : Fun K "_law_made_face" "_law_made_face" sFace f fd) (M : MkF P w K mg base C) : FnOk P w K mg base CX0 3 f fd ["_law_parts"] (spFace C) := by
  obtain ⟨fi, fdi, e1, e2, e3, mk, FI, DI⟩ := M.ex
  obtain ⟨mv, hb⟩ := kb0 DI
  refine F.ok scFace (fun vs H Q E h => ?_) (fun cdv A outer s H vs Q E hr h => ?_)
  · obtain ⟨p, v1, v2, v3, v4, v5, rfl, _⟩ := h
    rfl
  · obtain ⟨p, v1, v2, v3, v4, v5, rfl, hp, k⟩ := h
    refine ⟨_, pss_one (ps_ret (pe_makeK mk FI hr rfl M.mgC hb pass0 (pa_cons (pe_ix ix_tup (pv 0) pe_int (fun _ _ => rfl)) (pa_cons (pe_ix ix_tup (pv 0) pe_int (fun _ _ => rfl)) pa_nil))
      (pk_cons (pe_ix ix_tup (pv 0) pe_int (fun _ _ => rfl)) (pk_cons (pe_ix ix_tup (pv 0) pe_int (fun _ _ => rfl)) (pk_cons (pe_ix ix_tup (pv 0) pe_int (fun _ _ => rfl)) pk_nil))))), ?_⟩
    refine ⟨_, rfl, p, _, _, _, rfl, rfl, SqT.of hp, rfl, _, rfl, p, _, _, _, rfl, rfl, SqT.of hp, rfl, _, rfl, p, _, _, _, rfl, rfl, SqT.of hp, rfl, _, rfl, p, _, _, _, rfl, rfl, SqT.of hp, rfl, _, rfl, p, _, _, _, rfl, rfl, SqT.of hp, rfl, rfl, rfl, fun x dx hx hdx hne => ?_⟩
    refine ⟨x, dx, v1, v2, v3, v4, v5, rfl, upd_same, rfl, k x dx _ ?_ hx upd_same⟩
    refine Same.wr (Same.wr (Same.new hdx) hx) hx
end

end Fh

set_option Elab.async false
set_option linter.all false
set_option maxRecDepth 100000
set_option maxHeartbeats 4000000
namespace Fh
open PySem L2 PyProof.Rows
/-! ### the law -/
theorem ptD_inv {H : Hp} {v : V} {own : Str} {age : Int} {cs : List Cho} {recs : List Rec} {cws : List Cw} (h : Tp H v (ptD own age cs recs cws)) :
    ∃ (p e : Addr) (v3 v4 : V) (xs : List V), v = .ref p ∧ H p = some (.tup [.str own, .int age, v3, v4, .ref e]) ∧ TpR H v3 (rowsD (csP cs)) ∧ TpR H v4 (rowsD (recs.map rD)) ∧ H e = some (.tup xs) ∧ TpAll H xs (cws.map Cw.d) := by
  obtain ⟨p, ys, rfl, hp, q⟩ := Tp.inv h
  obtain ⟨v1, r1, rfl, t1, q⟩ := TpAll.icons q
  obtain ⟨v2, r2, rfl, t2, q⟩ := TpAll.icons q
  obtain ⟨v3, r3, rfl, t3, q⟩ := TpAll.icons q
  obtain ⟨v4, r4, rfl, t4, q⟩ := TpAll.icons q
  obtain ⟨v5, r5, rfl, t5, q⟩ := TpAll.icons q
  rw [q.inil] at hp
  obtain ⟨e, xs, rfl, he, tx⟩ := Tp.inv t5
  rw [t1.istr, t2.iint] at hp
  obtain ⟨a3, y3, rfl, h3, s3⟩ := Tp.inv t3
  obtain ⟨a4, y4, rfl, h4, s4⟩ := Tp.inv t4
  exact ⟨p, e, _, _, xs, rfl, hp, ⟨a3, y3, _, rfl, rfl, .inl h3, s3⟩, ⟨a4, y4, _, rfl, rfl, .inl h4, s4⟩, he, tx⟩
theorem wro_facts {own : Str} {age : Int} {cs : List Cho} {recs : List Rec} {cws : List Cw} (pw : PtW own age cs recs cws) : (csP cs).length ≤ 100 ∧ Cs1 (csP cs) ∧ RecsOk recs ∧ (∀ z, FOkR (flO recs z)) ∧ cws.length ≤ 7 ∧ (∀ c ∈ cws, CwOk c) := by
  refine ⟨?_, pw.co.cs1, pw.rc.ok, fun z => (pw.rc.at z).ok, Nat.le_trans pw.cw.l6 (by decide), fun c hc => (pw.cw.ok c hc).ok⟩
  unfold csP
  rw [List.length_map]
  exact Nat.le_trans pw.co.l6 (by decide)
def hdK : List Key → Str
  | .inr w :: _ => w
  | _ => ""
def sdK : List Key → Str
  | _ :: .inr a :: _ => a
  | _ => ""
theorem sto_hd {recs : List Rec} {c : Cw} {zs : List Str} : ∀ x ∈ stoL recs c zs, hdK x = "nobody" ∧ sdK x = c.nam := fun x hx => by
  obtain ⟨z, _, rfl⟩ := List.mem_map.mp hx
  exact ⟨rfl, rfl⟩
theorem uns_hd {c : Cw} {an : List Fl} : ∀ x ∈ unsL c an, hdK x = "unset" ∧ sdK x = c.nam := fun x hx => by
  obtain ⟨z, _, rfl⟩ := List.mem_map.mp hx
  exact ⟨rfl, rfl⟩
theorem wde_hd {nm : Str} {c : Cw} {own an : List Fl} : ∀ j, ∀ x ∈ wdeR nm c own an j, (hdK x = "deed" ∨ hdK x = "twice") ∧ sdK x = c.nam
  | 0, x, hx => by cases hx
  | j + 1, x, hx => by
    rcases List.mem_append.mp hx with g | g
    · exact wde_hd j x g
    · cases q : c.ds[j]? with
      | none => rw [q] at g; cases g
      | some d =>
        rw [q] at g
        rcases List.mem_append.mp g with g | g
        · split at g
          · cases g
          · rw [List.mem_singleton.mp g]; exact ⟨.inl rfl, rfl⟩
        · split at g
          · rw [List.mem_singleton.mp g]; exact ⟨.inr rfl, rfl⟩
          · cases g
theorem wroC_hd {nm : Str} {recs : List Rec} {c : Cw} {x : List Key} (hx : x ∈ wroC nm recs c) : sdK x = c.nam ∧ ((hdK x = "nobody" ∧ x ∈ stoL recs c [c.ask, c.ans]) ∨ ((hdK x = "deed" ∨ hdK x = "twice" ∨ hdK x = "unset") ∧ stoL recs c [c.ask, c.ans] = [])) := by
  unfold wroC at hx
  split at hx
  · rename_i h
    have h0 := List.isEmpty_iff.mp h
    rcases List.mem_append.mp hx with g | g
    · obtain ⟨h1, h2⟩ := wde_hd _ x g
      exact ⟨h2, .inr ⟨h1.elim .inl fun h => .inr (.inl h), h0⟩⟩
    · obtain ⟨h1, h2⟩ := uns_hd x g
      exact ⟨h2, .inr ⟨.inr (.inr h1), h0⟩⟩
  · obtain ⟨h1, h2⟩ := sto_hd x hx
    exact ⟨h2, .inl ⟨h1, hx⟩⟩
theorem nob_hd {cs : List (Str × PyData)} {recs : List Rec} : ∀ x ∈ (nobL cs recs).map txK, hdK x = "nobody" := fun x hx => by
  obtain ⟨y, hy, rfl⟩ := List.mem_map.mp hx
  obtain ⟨r, _, hr⟩ := List.mem_flatMap.mp hy
  obtain ⟨f, _, rfl⟩ := List.mem_map.mp hr
  rfl
theorem end_hd {D : Szs} {recs : List Rec} : ∀ x ∈ (endL D recs).map txK, hdK x = "endless" := fun x hx => by
  obtain ⟨y, hy, rfl⟩ := List.mem_map.mp hx
  obtain ⟨r, _, rfl⟩ := List.mem_map.mp hy
  rfl
theorem due_iff {nm : Str} {cs : List Cho} {recs : List Rec} {cws : List Cw} {x : List Key} : (x ∈ wroL nm (csP cs) recs cws ∧ hdK x = "nobody") ↔ x ∈ dueL cs recs cws := by
  constructor
  · rintro ⟨h, e⟩
    rcases List.mem_append.mp h with h | h
    · rcases List.mem_append.mp h with h | h
      · exact List.mem_append_left _ h
      · rw [end_hd x h] at e
        exact absurd e (by decide +kernel)
    · obtain ⟨c, hc, h⟩ := List.mem_flatMap.mp h
      rcases (wroC_hd h).2 with ⟨_, g⟩ | ⟨g, _⟩
      · exact List.mem_append_right _ (List.mem_flatMap.mpr ⟨c, hc, g⟩)
      · rw [e] at g
        rcases g with g | g | g <;> exact absurd g (by decide +kernel)
  · intro h
    rcases List.mem_append.mp h with h | h
    · exact ⟨List.mem_append_left _ (List.mem_append_left _ h), nob_hd x h⟩
    · obtain ⟨c, hc, h⟩ := List.mem_flatMap.mp h
      refine ⟨List.mem_append_right _ (List.mem_flatMap.mpr ⟨c, hc, ?_⟩), (sto_hd x h).1⟩
      unfold wroC
      rw [if_neg]
      · exact h
      · intro he
        rw [List.isEmpty_iff.mp he] at h
        cases h
def goneB (recs : List Rec) (c : Cw) : Bool := (!decide (c.ask ∈ recs.map (·.1))) || !decide (c.ans ∈ recs.map (·.1))
theorem gone_sto {recs : List Rec} {c : Cw} (h : goneB recs c = true) : stoL recs c [c.ask, c.ans] ≠ [] := fun e => by
  have h1 := List.map_eq_nil_iff.mp e
  have h2 := List.filter_eq_nil_iff.mp h1
  have a := h2 c.ask (by simp)
  have b := h2 c.ans (by simp)
  unfold goneB at h
  rw [Bool.or_eq_true] at h
  rcases h with h | h
  · exact a h
  · exact b h
theorem nd_same {cws : List Cw} (nd : (cws.map Cw.nam).Nodup) {c d : Cw} (hc : c ∈ cws) (hd : d ∈ cws) (e : c.nam = d.nam) : c = d := by
  induction cws with
  | nil => cases hc
  | cons a r ih =>
    rw [List.map_cons, List.nodup_cons] at nd
    rcases List.mem_cons.mp hc with h1 | hc2
    · rcases List.mem_cons.mp hd with h2 | hd2
      · rw [h1, h2]
      · exact absurd (List.mem_map.mpr ⟨d, hd2, by rw [← e, h1]⟩) nd.1
    · rcases List.mem_cons.mp hd with h2 | hd2
      · exact absurd (List.mem_map.mpr ⟨c, hc2, by rw [e, h2]⟩) nd.1
      · exact ih nd.2 hc2 hd2
def goneL (recs : List Rec) (cws : List Cw) : List Str := (cws.filter (goneB recs)).map Cw.nam
theorem none_gone {nm : Str} {cs : List Cho} {recs : List Rec} {cws : List Cw} (cw : CwsW cws) {x : List Key} (hx : x ∈ wroL nm (csP cs) recs cws) (hh : hdK x ∈ (["deed", "twice", "unset"] : List Str)) : sdK x ∉ goneL recs cws := fun hg => by
  simp only [List.mem_cons, List.not_mem_nil, or_false] at hh
  rcases List.mem_append.mp hx with h | h
  · rcases List.mem_append.mp h with h | h
    · rw [nob_hd x h] at hh
      exact absurd hh (by decide +kernel)
    · rw [end_hd x h] at hh
      exact absurd hh (by decide +kernel)
  · obtain ⟨c, hc, h⟩ := List.mem_flatMap.mp h
    obtain ⟨h1, h2⟩ := wroC_hd h
    rcases h2 with ⟨e, _⟩ | ⟨_, e⟩
    · rw [e] at hh
      exact absurd hh (by decide +kernel)
    · obtain ⟨d, hd, ed⟩ := List.mem_map.mp hg
      obtain ⟨hd, gd⟩ := List.mem_filter.mp hd
      have := nd_same cw.nd hc hd (by rw [ed, h1])
      subst this
      exact gone_sto gd e
theorem tp_rows {H : Hp} {p : Addr} {T : List Row} (X : RwL H p T) : TpAll H (T.map fun q => V.ref q.1) ((T.map (·.2)).map rowK) := by
  have go : ∀ x : List Key, TpAll H (x.map kV) (x.map keyK) := fun x => by
    induction x with
    | nil => exact .nil
    | cons k x ih => cases k with
      | inl i => exact .cons (.int i) ih
      | inr z => exact .cons (.str z) ih
  have go2 : ∀ {T : List Row}, (∀ q ∈ T, H q.1 = some (.tup (q.2.map kV))) → TpAll H (T.map fun q => V.ref q.1) ((T.map (·.2)).map rowK) := fun {T} => by
    induction T with
    | nil => exact fun _ => .nil
    | cons q T ih => exact fun h => .cons (.tup (h q List.mem_cons_self) (go q.2)) (ih fun r hr => h r (List.mem_cons_of_mem _ hr))
  exact go2 X.t
/-- a row of what is wrong, at hand -/
theorem wrk_at {H : Hp} {v : V} {x : List Key} (h : Tp H v (rowK x)) (w : WrK x) : ∃ (a : Addr) (r : List V), v = .ref a ∧ H a = some (.tup (.str (hdK x) :: .str (sdK x) :: r)) := by
  obtain ⟨wd, a, r, rfl, _⟩ := w
  obtain ⟨p, xs, rfl, hp, q⟩ := Tp.inv h
  obtain ⟨v1, r1, rfl, t1, q⟩ := TpAll.icons q
  obtain ⟨v2, r2, rfl, t2, q⟩ := TpAll.icons q
  have e1 : v1 = .str wd := t1.istr
  have e2 : v2 = .str a := t2.istr
  rw [e1, e2] at hp
  exact ⟨p, r2, rfl, hp⟩
abbrev nLaw : List Str := ["_law_script", "_law_k", "_law_bag_here", "_law_parts", "_law_due", "_law_told", "_law_one", "_law_forms", "_law_some", "_law_gone"]
def spLaw (K : PySem.W.Frag) : Sp := fun vs H Q _ => ∃ (a : Addr) (ns : List Int), vs = [.ref a] ∧ SqL K H a (ns.map V.int) ∧ ∀ H', Q (.bl true) H'
section
variable {P : Program} {w : World} {K : PySem.W.Frag} {mg : Str → Option Value} {base : Heap}
end
end Fh

set_option Elab.async false
set_option linter.all false
set_option maxRecDepth 100000
set_option maxHeartbeats 4000000
namespace Fh
open PySem PySem.Spec PyProof.Rows L2
/-! ### dict(a tuple of pairs) -/
theorem tup_no_keys : typeLookup (.type "tuple") "keys" = pure none := am_miss_of_fast (by first | decide +kernel | rfl)
section
variable {P : Program} {w : World} {A : Around} {E : Value → Shared → Prop}
theorem asks_keys {s : Shared} {a : Addr} {xs : Array Value} {k : Nat} {sl : Array (Option Value)} {Q : Option Value → Shared → Prop} (hx : s.heap.get? a = some { cls := .type "tuple", dict := none, data := .seq xs k, slots := sl }) (hA : A.handled = none)
    (h : ∀ h' tk, (∀ b ob, s.heap.get? b = some ob → h'.get? b = some ob) → Q none { s with heap := h', toks := tk }) : wpAny (model P w) A (getAttr? (.ref a) "keys") Q E s := by
  obtain ⟨hp, g, d, tk, os⟩ := s
  have ty : ∀ tk', (⟨hp, g, d, tk', os⟩ : Shared).TypeIs (.ref a) "tuple" := fun _ => ⟨_, hx, rfl⟩
  have f1 := sub_AttributeError
  have f2 := F.slot_tuple_getattribute.lookup
  have f3 := F.slot_tuple_getattribute.bind (.ref a)
  have f4 := am_tuple_getattr_none
  have nm : (["__module__", "__name__", "__qualname__", "__doc__", "__annotations__"] : List Str).contains "keys" = false := by decide +kernel
  have sz : ("keys" : Str).length + 100 ≤ sizeLine := by first | size_fits | decide +kernel
  unfold getAttr? getAttrBy? getAttrBy
  repeat (any_goals (first | assumption | exact ty _ | ((with_reducible show wpAny _ _ (call (Value.builtin "tuple.__getattribute__") _ _) _ _ _); refine call_meets F.slot_tuple_getattribute (ty _) am_entry_tuple_getattribute (F.args_tuple_getattribute_2 _ _) (meets_getattribute_miss_tuple a xs k sl "keys" _ tup_no_keys nm sz) ⟨hx, hA, fun h' tk' e ne => ?_⟩) | wp_step))
  obtain ⟨t', u', he⟩ := ne.there
  show wpAny _ _ (getattributeRaised _ _ _ _ _ _ _) _ _ _
  unfold getattributeRaised
  repeat (any_goals (first | assumption | wp_step))
  all_goals first | exact h _ _ ne.keeps | (dsimp only; repeat (any_goals (first | assumption | exact h _ _ ne.keeps | wp_step)))
end
end Fh

set_option Elab.async false
set_option linter.all false
set_option maxRecDepth 100000
set_option maxHeartbeats 4000000
namespace Fh
open PySem PySem.Spec PyProof.Rows L2
section
variable {P : Program} {w : World} {A : Around} {E : Value → Shared → Prop} {prs : List (Key × Value)}
/-- a pair with a key at b -/
def PairAt (h : Heap) (b : Addr) (q : Key × Value) : Prop := ∃ u, IsTup h b #[u, q.2] ∧ keyIs q.1 u = true
theorem PairAt.at {h h' : Heap} {b : Addr} {q : Key × Value} (p : PairAt h b q) (e : ∀ o, h.get? b = some o → h'.get? b = some o) : PairAt h' b q := by
  obtain ⟨u, ⟨o, ho, r⟩, k⟩ := p
  exact ⟨u, ⟨o, e o ho, r⟩, k⟩
theorem fillD {R : Result → Shared → Prop} {I S : Addr} {fp wr : List Addr} {G : Array GenState → Array GenState → Prop} {Pv : Nat → Value → Prop} {St : Nat → Shared → Prop} {s0 : Shared} {res : Value}
    (W : WalksS P w A.in1 I fp wr G prs.length Pv St) (hS : S ∉ fp) (hb : prs.length < 1000) (hk : ∀ i v, Pv i v → ∃ q b, prs[i]? = some q ∧ v = .ref b ∧ b ∉ S :: wr ∧ PairAt s0.heap b q)
    (fin : ∀ s', Moved (S :: wr) G s0 s' → s'.heap.DictOf (mixKind P w) S (merged [] prs) → R (.ok (.ret res)) s') :
    ∀ (d i : Nat) (s : Shared) (n : Int) (t : Tok), i + d = prs.length → St i s → Moved (S :: wr) G s0 s → s.heap.DictOf (mixKind P w) S (merged [] (prs.take i)) →
      codeAny (model P w) A (.builtin "dict.update.loop" ⟨[.ref S, .ref I, .int n t, res], []⟩) R s := by
  have out : S ∉ wr := fun h => hS (W.sub _ h)
  have more : ∀ {s1 s2 : Shared}, Moved wr G s1 s2 → Moved (S :: wr) G s1 s2 := fun m => m.mono fun b hb => List.mem_cons_of_mem _ hb
  intro d
  induction d with
  | zero =>
    intro i s n t e st mv so
    have ei : i = prs.length := by omega
    rw [ei] at st so
    rw [List.take_length] at so
    refine codeAny_builtin ud_entry ?_
    rw [Around.under_plainId ud_plain _]
    refine wpAny_bind (m := pyNext (.ref I)) (W.done s _ _ st fun s1 m1 => ?_)
    refine wpAny_bind (m := Builtin.Dict.addKeywords S []) (wpAny_pure (wpAny_pure ?_))
    exact fin s1 (Moved.trans W.gtrans mv (more m1)) (so.at fun o e => m1.heap _ o out e)
  | succ d ih =>
    intro i s n t e st mv so
    refine codeAny_builtin ud_entry ?_
    rw [Around.under_plainId ud_plain _]
    refine wpAny_bind (m := pyNext (.ref I)) (W.item i s _ _ (by omega) st fun v s1 pv st1 m1 => ?_)
    obtain ⟨q, b, hq, rfl, nb, pq⟩ := hk i v pv
    have mv1 := Moved.trans W.gtrans mv (more m1)
    obtain ⟨u, tup, ku⟩ := pq.at (h' := s1.heap) fun o e => mv1.heap _ o nb e
    have so1 : s1.heap.DictOf (mixKind P w) S (merged [] (prs.take i)) := so.at fun o e => m1.heap _ o out e
    obtain ⟨o, ho, hc, n', hd⟩ := id tup
    have ln : (merged [] (prs.take i)).length + 1 ≤ sizeLine := by
      have z : (merged [] (prs.take i)).length ≤ i := by
        have gen : ∀ l : List (Key × Value), ∀ acc, (merged acc l).length ≤ acc.length + l.length := by
          intro l
          induction l with
          | nil => intro acc; exact Nat.le_refl _
          | cons x l ih2 =>
            intro acc
            have z1 := ih2 (stored acc x.1 x.2)
            have z2 := stored_length_le acc x.1 x.2
            show (merged (stored acc x.1 x.2) l).length ≤ _
            rw [List.length_cons]
            omega
        have z1 := gen (prs.take i) []
        rw [List.length_take, List.length_nil] at z1
        omega
      rw [sizeLine_eq]
      omega
    refine wpAny_bind (m := holding [Value.ref b] _) (wpAny_holding ?_)
    refine wpAny_bind (wpAny_tryCatch ?_)
    unfold Builtin.Dict.pairItems
    refine wpAny_bind (wpAny_typeOf (T := "tuple") ⟨o, ho, hc⟩ ?_)
    rw [if_pos (by first | decide | rfl | simp)]
    refine wpAny_bind (wpAny_seqItems ho hd (wpAny_pure ?_))
    refine wpAny_holding (wpAny_dictSet_pairs (knd := mixKind P w) (k := q.1) ku so1 (fun h2 so2 sb => ?_) (by omega))
    rw [← merged_take_succ _ _ _ _ hq] at so2
    have other : ∀ b o, b ≠ S → s1.heap.get? b = some o → h2.get? b = some o := fun b o n g => sb.extBut b o n g
    exact wpAny_pure ⟨plainId_quiet ud_plain _, ih (i + 1) _ (n + 1) 0 (by omega) (W.frame _ s1 _ _ st1 (by first | exact Nat.le_succ _ | exact Nat.le_add_right _ _ | exact Nat.le_refl _) fun b hb o g => other b o (fun h => hS (h ▸ hb)) g) (Moved.trans W.gtrans mv ((more m1).then_heap (by first | exact Nat.le_succ _ | exact Nat.le_add_right _ _ | exact Nat.le_refl _) fun b o hb g => other b o (fun h => hb (h ▸ List.mem_cons_self)) g)) so2⟩
end
end Fh

set_option Elab.async false
set_option linter.all false
set_option maxRecDepth 100000
set_option maxHeartbeats 4000000
namespace Fh
open PySem PySem.Spec PyProof.Rows L2
section
variable {P : Program} {w : World} {A : Around} {E : Value → Shared → Prop} {prs : List (Key × Value)}
/-- dict(a tuple of pairs) -/
theorem call_dictTup {s : Shared} {l : Addr} {items : Array Value} {n : Nat} {sl : Array (Option Value)} {Q : Value → Shared → Prop} (hh : A.handled = none) (hl : s.heap.get? l = some { cls := .type "tuple", dict := none, data := .seq items n, slots := sl }) (hn : items.size = prs.length) (hb : prs.length < 1000)
    (hk : ∀ (i : Nat) (v : Value), items[i]? = some v → ∃ q b, prs[i]? = some q ∧ v = Value.ref b ∧ PairAt s.heap b q)
    (h : ∀ h' tk, h'.DictOf (mixKind P w) s.heap.objs.size (merged [] prs) → (∀ b o, s.heap.get? b = some o → h'.get? b = some o) → Q (.ref s.heap.objs.size) { s with heap := h', toks := tk }) :
    wpAny (model P w) A (call (.type "dict") [.ref l]) Q E s := by
  refine callType_codes (Q₁ := fun obj s₁ => obj = .ref s.heap.objs.size ∧ s₁ = { s with heap := s.heap.push { cls := .type "dict", data := .dict #[] } }) PySem.F.kt_called_dict (PySem.F.kt_typeCall_dict_1 _) PySem.F.entry_dict_init (kt_code_dict_new _ ⟨rfl, rfl⟩) ?_
  rintro obj s₁ ⟨rfl, rfl⟩
  have new : (s.heap.push { cls := .type "dict", data := .dict #[] }).DictOf (mixKind P w) s.heap.objs.size [] := Heap.DictOf.new s.heap
  have up : ∀ {b : Addr} {o : Obj}, s.heap.get? b = some o → (s.heap.push { cls := .type "dict", data := .dict #[] }).get? b = some o := fun e => Heap.get?_push_of_some _ e
  refine ⟨new.typeIs, PySem.F.args_dict_init_2 _ _, ?_⟩
  unfold Builtin.«dict.__init__»
  refine wpAny_bind ?_
  unfold Builtin.Dict.selfAndRest
  refine wpAny_bind (wpAny_notOrdered_dict new.typeIs ?_)
  show wpAny _ _ (pure (s.heap.objs.size, [Value.ref l])) _ _ _
  refine wpAny_pure ?_
  show wpAny _ _ (Builtin.Dict.updateFrom "dict.__init__" s.heap.objs.size (.ref l) [] .none) _ _ _
  unfold Builtin.Dict.updateFrom
  refine wpAny_bind (wpAny_typeOf (T := "tuple") ⟨_, up hl, rfl⟩ ?_)
  rw [if_pos (by first | decide | rfl | simp)]
  refine wpAny_bind (asks_keys (up hl) hh fun h1 tk1 k1 => ?_)
  rw [if_pos (show (none : Option Value).isNone = true from rfl)]
  refine wpAny_bind (wpAny_rule ?_)
  have at1 : h1.get? l = some { cls := .type "tuple", dict := none, data := .seq items n, slots := sl } := k1 _ _ (up hl)
  have tup1 : h1.IsTuple l items := ⟨_, at1, rfl, n, rfl⟩
  have S1 : s.heap.objs.size < h1.objs.size := by
    have e : (s.heap.push { cls := .type "dict", data := .dict #[] }).get? s.heap.objs.size = some { cls := .type "dict", data := .dict #[] } := Heap.get?_push_size _ rfl
    exact Heap.lt_size (k1 _ _ e)
  have lt : l < s.heap.objs.size := Heap.lt_size hl
  refine wpAny_bind (wpAny_pyIter_tuple (s := { s with heap := h1, toks := tk1 }) tup1 ?_)
  have k2 : ∀ {b : Addr} {o : Obj}, h1.get? b = some o → (h1.push { cls := .type "tuple_iterator", data := .fields #[.ref l, .int 0 0] }).get? b = some o := fun e => Heap.get?_push_of_some _ e
  have h3 : A.in1.in1.handled = none := by simp [hh]
  have W := (Walks.tuple (prog := P) (w := w) h3 h1.objs.size l (Nat.ne_of_lt (Nat.lt_trans lt S1)) items).toS
  rw [hn] at W
  have key := fillD (P := P) (w := w) (A := A.in1) (R := wants (fun r s₂ => r = .none ∧ Q (.ref s.heap.objs.size) s₂) E) (S := s.heap.objs.size) (res := Value.none) (s0 := { s with heap := h1.push { cls := .type "tuple_iterator", data := .fields #[.ref l, .int 0 0] }, toks := tk1 }) W (by simp [Nat.ne_of_lt S1, Nat.ne_of_gt lt]) hb
    (fun i v hv => by
      obtain ⟨q, b, e1, e2, e3⟩ := hk i v hv
      have e4 := e3
      obtain ⟨u, ⟨o, ho, _⟩, _⟩ := e4
      have lb := Heap.lt_size ho
      refine ⟨q, b, e1, e2, ?_, e3.at fun o e => k2 (k1 _ _ (up e))⟩
      simp only [List.mem_cons, List.not_mem_nil, or_false, not_or]
      exact ⟨Nat.ne_of_lt lb, Nat.ne_of_lt (Nat.lt_trans lb S1)⟩)
    (fun s' mv dd => by
      obtain ⟨h', g', d', tk', os'⟩ := s'
      have eg : g' = s.gens := mv.gens
      have ed : d' = s.drawn := mv.drawn
      have eo : os' = s.os := mv.os
      subst eg
      subst ed
      subst eo
      exact ⟨rfl, h h' tk' dd fun b o e => mv.heap b o (by
        simp only [List.mem_cons, List.not_mem_nil, or_false, not_or]
        exact ⟨Nat.ne_of_lt (Heap.lt_size e), Nat.ne_of_lt (Nat.lt_trans (Heap.lt_size e) S1)⟩) (k2 (k1 _ _ (up e)))⟩)
    prs.length 0 { s with heap := h1.push { cls := .type "tuple_iterator", data := .fields #[.ref l, .int 0 0] }, toks := tk1 } 0 0 (Nat.zero_add _) ⟨⟨_, Heap.get?_push_size _ rfl, rfl, rfl⟩, tup1.push _⟩ ⟨fun _ _ _ e => e, W.grefl _, rfl, rfl, Nat.le_refl _⟩ ((new.at fun o e => k1 _ _ e).at fun o e => k2 e)
  first
    | exact wpAny_pure ⟨plainId_quiet ud_plain _, key⟩
    | exact wpAny_bind (wpAny_pure (wpAny_pure ⟨plainId_quiet ud_plain _, key⟩))
end
/-- a tuple with no dict of its own -/
def PlainT (o : Obj) : Prop := ∃ (xs : Array Value) (n : Nat) (sl : Array (Option Value)), o = { cls := .type "tuple", dict := none, data := .seq xs n, slots := sl }
section
variable {X : Cx}
/-- dict(xs) of a frozen tuple of pairs -/
def rDictT (K : PySem.W.Frag) : List V → Hp → VK → Prop := fun xs H Q => ∃ (a : Addr) (o : Obj) (ps : List Addr) (kvs : List (Key × V)), xs = [.ref a] ∧ H a = some (.frz o (.tup (ps.map V.ref))) ∧ PlainT o ∧ Paired (fun p kv => SqT K H p [kV kv.1, kv.2]) ps kvs ∧ ps.length < 1000 ∧
    ∀ p, H p = none → Q (.ref p) (upd H p (.dK (mergeK [] kvs)))
theorem cr_dictT (hcalm : X.calm = true) : CallR X (.type "dict") (rDictT X.K) := by
  intro pins s σ H xs us Q I r q
  obtain ⟨a, o, ps, kvs, rfl, hq, pl, hp, few, q⟩ := q
  rw [Vals.ref1 r]
  obtain ⟨ho, _, its, rv, tp⟩ := I.hok a _ hq
  have ei := refs_at rv
  subst ei
  obtain ⟨prs, rel, hl, hpr⟩ := pairs_of I hp
  obtain ⟨ys, n, sl, rfl⟩ := pl
  obtain ⟨o2, ho2, _, n2, hd2⟩ := tp
  rw [ho] at ho2
  cases Option.some.inj ho2
  cases hd2
  refine call_dictTup (prs := prs) (I.ok.hd hcalm) ho (by simp [hl]) (by rw [hl]; exact few) (fun i v hv => ?_) fun h' tk hd' k => ?_
  · have lt : i < prs.length := by
      have z : i < (ps.map Value.ref).toArray.size := by
        rcases Nat.lt_or_ge i (ps.map Value.ref).toArray.size with h | h
        · exact h
        · rw [Array.getElem?_eq_none h] at hv; cases hv
      simp at z
      omega
    obtain ⟨b, u, e1, e2, e3⟩ := hpr i prs[i] (List.getElem?_eq_getElem lt)
    have ev : v = Value.ref b := by
      have z : (ps.map Value.ref)[i]? = some v := by simpa using hv
      rw [List.getElem?_map, e1] at z
      exact (Option.some.inj z).symm
    exact ⟨prs[i], b, List.getElem?_eq_getElem lt, ev, u, e2, e3⟩
  · have hm : (s.heap.objs.size == sysModules) = false := beq_eq_false_iff_ne.mpr (Nat.ne_of_gt I.big)
    have hlen : (mergeK [] kvs).length ≤ sizeLine := by
      refine Nat.le_trans (length_mergeK kvs []) ?_
      rw [List.length_nil, Nat.zero_add, rel.length, hl, sizeLine_eq]
      omega
    exact ⟨.ref s.heap.objs.size, upd H s.heap.objs.size (.dK (mergeK [] kvs)), I.laid (t' := tk) k (Nat.le_refl _) (show ObjOk X.prog X.w _ _ _ (.dK (mergeK [] kvs)) from ⟨hlen, hm, merged [] prs, KV.merge rel .nil, hd'⟩), rfl, q _ (I.hok.fresh (Nat.le_refl _))⟩
end
end Fh

set_option Elab.async false
set_option linter.all false
set_option maxRecDepth 100000
set_option maxHeartbeats 4000000
namespace Fh
open PySem PySem.Spec PyProof.Rows L2
/-! ### tuples held as the very objects they are -/
section
variable {X : Cx} {es : List Expr} {t : TA} {pos : Pos}
def tTupF (t : TA) : TE := fun σ H Q => t σ H fun xs H1 => xs.length ≤ sizeLine ∧ ∀ p o, H1 p = none → PlainT o → Q (.ref p) (upd H1 p (.frz o (.tup xs)))
theorem pe_tupF {x1} (h : PA X es t) : PE X (.Tuple es x1 pos) (tTupF t) := by
  refine ⟨fun pins s σ H Q I hq => ?_⟩
  refine wpAny_Tuple_spliced (thn (h.run pos pins s σ H _ I hq) fun us s1 ⟨xs, H1, I1, r, z, q⟩ => ⟨by rw [← r.length]; exact z, ?_⟩)
  have fresh : H1 s1.heap.objs.size = none := I1.hok.fresh (Nat.le_refl _)
  exact ⟨.ref s1.heap.objs.size, upd H1 s1.heap.objs.size (.frz _ (.tup xs)), I1.laid (t' := s1.toks) (fun b u e => Heap.get?_push_of_some _ e) (Nat.le_refl _) ⟨Heap.get?_push_size _ rfl, z, us, r, ⟨_, Heap.get?_push_size _ rfl, rfl, _, rfl⟩⟩, rfl, q _ _ fresh ⟨_, _, _, rfl⟩⟩
/-- tuple(a list) -/
def rTupF (K : PySem.W.Frag) : List V → Hp → VK → Prop := fun xs H Q => ∃ p ys, xs = [V.ref p] ∧ SqL K H p ys ∧ ∀ l o, H l = none → PlainT o → Q (.ref l) (upd H l (.frz o (.tup ys)))
theorem cr_tupleF : CallR X (.type "tuple") (rTupF X.K) := by
  intro pins s σ H xs us Q I r h
  obtain ⟨p, ys, rfl, hq, q⟩ := h
  rw [Vals.ref1 r]
  obtain ⟨its, r', pl, hz⟩ := I.list hq
  have hlen := r'.length
  refine call_tuple_list pl.isList (fun h' kp => ?_) (by simp only [List.size_toArray] <;> omega)
  have I1 : Inv X pins σ H { s with heap := h' } := I.kept (t' := s.toks) kp
  exact ⟨.ref h'.objs.size, upd H h'.objs.size (.frz { cls := .type "tuple", data := .seq its.toArray } (.tup ys)), I1.laid (t' := s.toks) (fun b o e => Heap.get?_push_of_some _ e) (Nat.le_refl _) ⟨Heap.get?_push_size _ rfl, hz, its, r', IsTup.new _ _⟩, rfl, q _ _ (I1.hok.fresh (Nat.le_refl _)) ⟨_, _, _, rfl⟩⟩
end
end Fh

set_option Elab.async false
set_option linter.all false
set_option maxRecDepth 100000
set_option maxHeartbeats 4000000
namespace Fh
open PySem L2 PyProof.Rows
/-! ### the parts of a face with rows held as the very objects -/
def Fk (H H' : Hp) : Prop := ∀ a o u, H a = some (.frz o u) → H' a = some (.frz o u)
theorem Fk.refl {H : Hp} : Fk H H := fun _ _ _ h => h
theorem Fk.trans {H H1 H2 : Hp} (a : Fk H H1) (b : Fk H1 H2) : Fk H H2 := fun c o u h => b c o u (a c o u h)
theorem Same.fk {H H' : Hp} (s : Same H H') : Fk H H' := fun a o u h => s a _ h
theorem Kp.fk {b : Addr} {H H' : Hp} {n : Nat} (k : Kp b H H') (hb : Bag H b n) : Fk H H' := fun a o u h => k a _ (fun e => by
  obtain ⟨x, y, z, hb, _⟩ := hb
  rw [e, hb] at h
  cases h) h
theorem Fk.wr {H : Hp} {p : Addr} {ys : List V} {o : HO} (h : H p = some (.lst ys)) : Fk H (upd H p o) := fun a ob u e => by
  rw [upd_ne fun q => by rw [q, h] at e; cases e]
  exact e
theorem Fk.new {H : Hp} {p : Addr} {o : HO} (h : H p = none) : Fk H (upd H p o) := Same.fk (Same.new h)
def TpF (H : Hp) (v : V) (d : PyData) : Prop := ∃ (a : Addr) (o : Obj) (xs : List V) (ds : List PyData), v = .ref a ∧ d = .tuple ds ∧ H a = some (.frz o (.tup xs)) ∧ PlainT o ∧ TpAll H xs ds
theorem TpF.keep {H H' : Hp} {v : V} {d : PyData} (h : TpF H v d) (f : Fk H H') (t : Tk H H') : TpF H' v d := by
  obtain ⟨a, o, xs, ds, e1, e2, h1, h2, h3⟩ := h
  exact ⟨a, o, xs, ds, e1, e2, f _ _ _ h1, h2, TpAll.keep t _ _ h3⟩
theorem TpF.tr {H : Hp} {v : V} {d : PyData} (h : TpF H v d) : TpR H v d := by
  obtain ⟨a, o, xs, ds, e1, e2, h1, h2, h3⟩ := h
  exact ⟨a, xs, ds, e1, e2, .inr ⟨o, h1⟩, h3⟩
theorem TpF.inv {H : Hp} {v : V} {ds : List PyData} (h : TpF H v (.tuple ds)) : ∃ a o xs, v = .ref a ∧ H a = some (.frz o (.tup xs)) ∧ PlainT o ∧ TpAll H xs ds := by
  obtain ⟨a, o, xs, ds', rfl, e, h1, h2, h3⟩ := h
  cases e
  exact ⟨a, o, xs, rfl, h1, h2, h3⟩
theorem SqT.fz {K : PySem.W.Frag} {H : Hp} {a : Addr} {o : Obj} {xs : List V} (h : H a = some (.frz o (.tup xs))) : SqT K H a xs := .inl (.inr ⟨o, h⟩)
def PtF (H : Hp) (v : V) (own : Str) (age : Int) (cs : List Cho) (recs : List Rec) (cws : List Cw) : Prop := ∃ (p : Addr) (v3 v4 v5 : V), v = .ref p ∧ H p = some (.tup [.str own, .int age, v3, v4, v5]) ∧ TpF H v3 (rowsD (csP cs)) ∧ TpF H v4 (rowsD (recs.map rD)) ∧ Tp H v5 (.tuple (cws.map Cw.d))
theorem PtF.keep {H H' : Hp} {v : V} {own : Str} {age : Int} {cs : List Cho} {recs : List Rec} {cws : List Cw} (h : PtF H v own age cs recs cws) (f : Fk H H') (t : Tk H H') : PtF H' v own age cs recs cws := by
  obtain ⟨p, v3, v4, v5, e, hp, t3, t4, t5⟩ := h
  exact ⟨p, v3, v4, v5, e, t _ _ hp, t3.keep f t, t4.keep f t, Tp.keep t _ _ t5⟩
theorem PtF.same {H H' : Hp} {v : V} {own : Str} {age : Int} {cs : List Cho} {recs : List Rec} {cws : List Cw} (h : PtF H v own age cs recs cws) (s : Same H H') : PtF H' v own age cs recs cws := h.keep (Same.fk s) (Same.tk s)
/-- a slice: some tuple of what is cut -/
theorem slA {K : PySem.W.Frag} {H : Hp} {a : Addr} {xs : List V} {lo hi : Option Int} {Q : V → Hp → Prop} (ha : H a = some (.tup xs)) (q : ∀ (r : Addr) (H' : Hp), Same H H' → H' r = some (.tup (cutV xs lo hi)) → Q (.ref r) H') : rSlA K (.ref a) lo hi H Q := by
  refine ⟨a, xs, rfl, SqT.of ha, fun h => q a H (Same.refl H) ?_, fun _ p hp => q p _ (Same.new hp) upd_same⟩
  have e : cutV xs lo hi = xs := by
    unfold cutV
    rw [h.1, h.2, List.drop_zero, Nat.sub_zero, List.take_length]
  rw [e]
  exact ha
theorem catA {K : PySem.W.Frag} {H : Hp} {a b : Addr} {xs ys : List V} {Q : V → Hp → Prop} (ha : H a = some (.tup xs)) (hb : H b = some (.tup ys)) (hl : xs.length + ys.length ≤ sizeLine) (q : ∀ (r : Addr) (H' : Hp), Same H H' → H' r = some (.tup (xs ++ ys)) → Q (.ref r) H') : rCatA K (.ref a) (.ref b) H Q := by
  refine ⟨a, b, xs, ys, rfl, rfl, SqT.of ha, SqT.of hb, hl, fun e => ?_, fun _ e => ?_, fun _ _ p hp => ?_⟩
  · exact q b H (Same.refl H) (by rw [e, List.nil_append]; exact hb)
  · exact q a H (Same.refl H) (by rw [e, List.append_nil]; exact ha)
  · exact q p _ (Same.new hp) upd_same
def spAllF : Sp := fun vs H Q _ => ∃ (b : Addr) (n : Nat), vs = [.ref b] ∧ Bag H b n ∧ n + 5000 ≤ most ∧
  ∀ (v : V) (own : Str) (age : Int) (cs : List Cho) (recs : List Rec) (cws : List Cw) (H' : Hp), PtF H' v own age cs recs cws → PtW own age cs recs cws → InvW cs recs cws → Kp b H H' → Bag H' b (n + 4000) → Q v H'
section
variable {P : Program} {w : World} {K : PySem.W.Frag} {mg : Str → Option Value} {base : Heap}
theorem ok_allF {f : Addr} {fd : FuncData} (F : Fun K "_law_all_drawn" "_law_all_drawn" sAll f fd) (G : Glb mg) (gz : mg "zip" = none) (DT : Has P w K mg base "_law_take" 1 ["_law_bag_here", "_law_size"] spTake) (DN : Has P w K mg base "_law_drawn_name" 2 ["_law_bag_here"] spName) (DX : Has P w K mg base "_law_unlike_names" 3 ["_law_bag_here", "_law_size", "_law_taken"] spUnlikeN) (DR : Has P w K mg base "_law_rising" 2 ["_law_bag_here", "_law_size", "_law_most"] spRis) (DU : Has P w K mg base "_law_unlike" 4 ["_law_bag_here", "_law_size"] spUlk) (DF : Has P w K mg base "_law_form_drawn" 5 pKnd spFrm) (DA : Has P w K mg base "_law_acts_drawn" 5 pAct spAct) : FnOk P w K mg base CX0 6 f fd ["_law_bag_here"] spAllF := by
  refine F.ok scAll (fun vs H Q E h => ?_) (fun cdv A outer s H vs Q E hr h => ?_)
  · obtain ⟨b, n, rfl, _⟩ := h
    rfl
  · obtain ⟨b, n, rfl, hB, hn, q⟩ := h
    have hmost : most = 1000000 := rfl
    have hu := hu_of hr
    refine ⟨_, (pss_cons (ps_par (i := 1) (j := 2) rfl scAll.nd rfl rfl (by decide) rfl rfl (pa_cons (pe_has DN (hr.mono (by omega)) rfl (pa_cons (pv 0) pa_nil)) (pa_cons (pe_op op_add pe_int (pe_has DT (hr.mono (by omega)) rfl (pa_cons (pv 0) (pa_cons (pe_ix ix_list (pe_lst (pa_cons pe_int (pa_cons pe_int pa_nil))) (pe_has DT (hr.mono (by omega)) rfl (pa_cons (pv 0) (pa_cons pe_int pa_nil))) (fun _ _ => rfl)) pa_nil)))) pa_nil)) (by rfl))
      (pss_cons (ps_par (i := 3) (j := 4) rfl scAll.nd rfl rfl (by decide) rfl rfl (pa_cons (pe_has DT (hr.mono (by omega)) rfl (pa_cons (pv 0) (pa_cons pe_int pa_nil))) (pa_cons (pe_has DT (hr.mono (by omega)) rfl (pa_cons (pv 0) (pa_cons pe_int pa_nil))) pa_nil)) (by rfl))
      (pss_cons (ps_set (i := 5) scAll.nd rfl (Or.inr rfl) (pe_has DX (hr.mono (by omega)) rfl (pa_cons (pv 0) (pa_cons (pe_op op_add (pv 3) (pv 4)) (pa_cons (pe_lst pa_nil) pa_nil)))))
      (C8.pss_cut (ps_set (i := 6) scAll.nd rfl (Or.inr rfl) (pe_callB cr_sortedS (by rfl) G.sorted (by decide +kernel) (pa_cons (pe_lc (own := [("_law_spot", 7)]) (g := (gName 7)) (tt := tYes) (te := tBM K "list" rPopAt (tVar 5) (tCons (tCall spTake [] E0 (tCons (tVar 0) (tCons (tCB (rLenQ K) (tCons (tVar 5) tNil)) tNil))) tNil)) rfl scAll.nd (pi_range1 rfl G.range (pa_cons (pv 3) pa_nil)) (blkOk_by (N := nAll) (sc := defScope sAll) (by decide +kernel)) (fun _ _ _ _ _ => (pg_name (i := 7) scAll.nd rfl (Or.inl rfl))) (fun _ _ _ _ _ => pts_nil) (fun _ _ _ _ _ => (pe_bm PySem.F.plainAttrs_list PySem.F.slot_list_pop PySem.F.type_list_pop mt_popAt (pv 5) (pa_cons (pe_has DT (hr.mono (by omega)) rfl (pa_cons (pv 0) (pa_cons (pe_callB call_len_seq (by rfl) G.len (by decide +kernel) (pa_cons (pv 5) pa_nil)) pa_nil))) pa_nil)))) pa_nil)))
      (pss_cons (ps_asg (pe_tup (pa_cons (pe_callB cr_sortedS (by rfl) G.sorted (by decide +kernel) (pa_cons (pv 5) pa_nil)) (pa_cons (pe_lst pa_nil) pa_nil))) (pg_tup rfl (pgs_cons (pg_name (i := 8) scAll.nd rfl (Or.inr rfl)) (pgs_cons (pg_name (i := 9) scAll.nd rfl (Or.inl rfl)) pgs_nil))))
      (C8.pss_cut (ps_for PassesOwn.never rfl (pi_list (pv 6)) (pg_name (i := 10) scAll.nd rfl (Or.inl rfl))
      (pss_cons (ps_set (i := 11) scAll.nd rfl (Or.inl rfl) (pe_has DR (hr.mono (by omega)) rfl (pa_cons (pv 0) (pa_cons (pe_op op_add pe_int (pe_has DT (hr.mono (by omega)) rfl (pa_cons (pv 0) (pa_cons pe_int pa_nil)))) (pa_cons pe_int pa_nil)))))
      (pss_one (ps_expr (pe_bm PySem.F.plainAttrs_list PySem.F.slot_list_append PySem.F.type_list_append mt_append (pv 9) (pa_cons (pe_tup (pa_cons (pv 10) (pa_cons (pe_tupZip rfl (by rfl) G.tuple (by rfl) gz (pa_cons (pv 11) (pa_cons (pe_has DU (hr.mono (by omega)) rfl (pa_cons (pv 0) (pa_cons (pe_callB call_len_seq (by rfl) G.len (by decide +kernel) (pa_cons (pv 11) pa_nil)) pa_nil))) pa_nil))) pa_nil))) pa_nil))))))
      (C8.pss_cut (ps_setLc (i := 12) (own := [("_law_one", 10)]) (g := (gName 10)) (tt := tYes) (te := tTup (tCons (tVar 10) (tCons (tCall spFrm [] E0 (tCons (tVar 0) (tCons (tVar 6) (tCons (tVar 8) tNil)))) tNil))) rfl scAll.nd rfl rfl (sw_true rfl rfl rfl (by decide +kernel)) (pi_list (pv 8)) (blkOk_by (N := nAll) (sc := defScope sAll) (by decide +kernel)) (fun _ _ _ _ _ => (pg_name (i := 10) scAll.nd rfl (Or.inl rfl))) (fun _ _ _ _ _ => pts_nil) (fun _ _ _ _ _ => (pe_tup (pa_cons (pv 10) (pa_cons (pe_has DF (hr.mono (by omega)) rfl (pa_cons (pv 0) (pa_cons (pv 6) (pa_cons (pv 8) pa_nil)))) pa_nil)))))
      (pss_one (ps_ret (pe_tup (pa_cons (pv 1) (pa_cons (pv 2) (pa_cons (pe_callTy cr_tupleF (by rfl) G.tuple (by decide +kernel) (pa_cons (pv 9) pa_nil)) (pa_cons (pe_callTy cr_tupleF (by rfl) G.tuple (by decide +kernel) (pa_cons (pv 12) pa_nil)) (pa_cons (pe_has DA (hr.mono (by omega)) rfl (pa_cons (pv 0) (pa_cons (pv 1) (pa_cons (pv 12) pa_nil)))) pa_nil))))))))))))))), ?_⟩
    refine ⟨_, rfl, b, n, rfl, hB, by omega, fun own H1 no k1 b1 => ?_⟩
    refine ⟨_, rfl, (by show 2 ≤ sizeLine; decide), fun t2 ht2 => ?_⟩
    have S2 := Same.new (H := H1) (o := .lst [.int 4, .int 99]) ht2
    have e2 : (upd H1 t2 (.lst [.int 4, .int 99])) t2 = some (.lst [.int 4, .int 99]) := upd_same
    have n2b : t2 ≠ b := new_ne ht2 b1
    have b2 := b1.same S2
    have K2 := k1.same S2
    generalize (upd H1 t2 (.lst [.int 4, .int 99])) = H2 at *
    refine ⟨_, rfl, b, 2, _, rfl, by decide, by decide, b2, by omega, fun d H3 d0 d1 k3 b3 => ?_⟩
    obtain ⟨m, em, m0, m1⟩ : ∃ m : Int, atI [V.int 4, .int 99] d = some (.int m) ∧ 0 < m ∧ m ≤ 99 := by
      rcases (by omega : d = 0 ∨ d = 1) with rfl | rfl
      · exact ⟨4, rfl, by decide, by decide⟩
      · exact ⟨99, rfl, by decide, by decide⟩
    refine ⟨t2, _, _, _, rfl, rfl, SqL.of (k3 _ _ n2b e2), em, b, m, _, rfl, m0, by omega, b3, by omega, fun e H4 e0 e1 k4 b4 => ⟨_, _, rfl, rfl, _, _, rfl, ?_⟩⟩
    have K4 := (K2.trans k3).trans k4
    obtain ⟨age, hage⟩ : ∃ age, 1 + e = age := ⟨_, rfl⟩
    simp only [hage]
    try dsimp only [List.set_cons_succ, List.set_cons_zero]
    refine ⟨_, rfl, b, 5, _, rfl, by decide, by decide, b4, by omega, fun sz H5 sz0 sz1 k5 b5 => ?_⟩
    refine ⟨_, rfl, b, 7, _, rfl, by decide, by decide, b5, by omega, fun mn H6 mn0 mn1 k6 b6 => ⟨_, _, rfl, ?_⟩⟩
    have K6 := (K4.trans k5).trans k6
    try dsimp only [List.set_cons_succ, List.set_cons_zero]
    refine ⟨_, rfl, _, rfl, _, rfl, _, _, rfl, rfl, Nat.zero_le _, fun E7 hE7 => ?_⟩
    have S7 := Same.new (H := H6) (o := .lst []) hE7
    have e7 : (upd H6 E7 (.lst [])) E7 = some (.lst (([] : List Str).map V.str)) := upd_same
    have b7 := b6.same S7
    have K7 := K6.same S7
    generalize (upd H6 E7 (.lst [])) = H7 at *
    refine ⟨b, E7, sz + mn, [], _, rfl, b7, by omega, by omega, e7, by decide, by omega, fun L zs H8 hL hL8 lz nd nm k8 b8 => ?_⟩
    have K8 := K7.trans k8
    have nLb : L ≠ b := new_ne hL b7
    have L0 : H L = none := K7.free b7.at hL
    try dsimp only [List.set_cons_succ, List.set_cons_zero]
    refine ⟨fun σ H' => ∃ (M : Addr) (ms rest : List Str) (a7 : Option V), σ = [some (.ref b), some (.str own), some (.int age), some (.int sz), some (.int mn), some (.ref L), some (.ref M), a7, none, none, none, none, none] ∧ Kp b H H' ∧ Bag H' b (n + 140) ∧ H' M = some (.lst (ms.map V.str)) ∧ H' L = some (.lst (rest.map V.str)) ∧ ms.length ≤ 4 ∧ rest.length ≤ 6 ∧ (ms ++ rest).Nodup ∧ (∀ z ∈ ms ++ rest, Nm z) ∧ H M = none, ?_, ?_⟩
    · refine ⟨_, rfl, sz, rfl, by omega, by omega, fun D hD => ?_⟩
      have nDb : D ≠ b := new_ne hD b8
      have nDL : D ≠ L := fun e => by rw [e, hL8] at hD; cases hD
      have D0 : H D = none := K8.free b8.at hD
      have lz12 : zs.length ≤ 10 := by omega
      refine lc_range (lo := 0) (n := sz.toNat) (fun i H3 => Kp b H H3 ∧ Bag H3 b (n + 135 + i) ∧ ∃ ms rest : List Str, H3 D = some (.lst (ms.map V.str)) ∧ H3 L = some (.lst (rest.map V.str)) ∧ ms.length = i ∧ (ms ++ rest).Perm zs) ?_ ?_ ?_
      · exact ⟨K8.new hD, (b8.new hD).mono (by omega), [], zs, upd_same, by rw [upd_ne (Ne.symm nDL)]; exact hL8, rfl, .refl _⟩
      · rintro i H3 hi ⟨K3, b3, ms, rest, h3D, h3L, lm, pm⟩
        have lr := pm.length_eq
        rw [List.length_append] at lr
        refine ⟨rfl, yes (iteT ?_)⟩
        try dsimp only [List.set_cons_succ, List.set_cons_zero]
        refine ⟨_, rfl, .inl ⟨rfl, _, SqL.of h3L⟩, ?_⟩
        refine ⟨_, rfl, _, rfl, L, _, rfl, .inl (SqL.of h3L), b, _, _, rfl, (by rw [List.length_map]; omega), (by rw [List.length_map]; omega), b3, by omega, fun e H4 e0 e1 k4 b4 => ?_⟩
        have h4L := k4 _ _ nLb h3L
        have h4D := k4 _ _ nDb h3D
        obtain ⟨v, ev, ev2, _⟩ := atI_in (xs := rest.map V.str) e0 e1
        obtain ⟨z, hz, rfl⟩ := mapAt ev2
        refine ⟨L, _, e, e.toNat, _, rfl, rfl, h4L, by omega, (by rw [List.length_map] at e1; omega), ix_at e0 e1, ev2, ?_⟩
        have eL : (upd H4 L (.lst ((rest.map V.str).eraseIdx e.toNat))) D = some (.lst (ms.map V.str)) := by rw [upd_ne nDL]; exact h4D
        refine ⟨_, eL, ?_, ?_⟩
        · rw [List.length_map]
          exact Nat.lt_of_le_of_lt (show _ ≤ 10 by omega) (by decide)
        have K4 := K3.trans k4
        refine ⟨(K4.wr L0).wr D0, ((b4.ne nLb).ne nDb).mono (by omega), ms ++ [z], rest.eraseIdx e.toNat, by rw [upd_same, List.map_append]; rfl, ?_, by rw [List.length_append, lm]; rfl, ?_⟩
        · rw [upd_ne (Ne.symm nDL), upd_same, map_eraseQ]
        · rw [List.append_assoc]
          exact ((erase_perm hz).append_left ms).trans pm
      · rintro H3 ⟨K3, b3, ms, rest, h3D, h3L, lm, pm⟩
        have lr := pm.length_eq
        rw [List.length_append] at lr
        refine ⟨D, ms, rfl, SqL.of h3D, by omega, fun ys p py sy hp => ?_⟩
        try dsimp only [List.set_cons_succ, List.set_cons_zero]
        have npL : p ≠ L := fun e => by rw [e, h3L] at hp; cases hp
        have pm2 : (ys ++ rest).Perm zs := (py.append_right rest).trans pm
        refine ⟨p, ys, rest, _, rfl, K3.new hp, (b3.new hp).mono (by omega), upd_same, by rw [upd_ne (Ne.symm npL)]; exact h3L, by rw [py.length_eq]; omega, by omega, (pm2.nodup_iff).mpr nd, fun z hz => (nm z (pm2.mem_iff.mp hz)).1, K3.free b3.at hp⟩
    rintro σ HA ⟨M, ms, rest, a7, rfl, KA, bA, eM, eL, lm, lr, nd9, nm9, M0⟩
    have nMb : M ≠ b := ls_ne eM bA
    refine ⟨_, rfl, L, rest, rfl, SqL.of eL, by omega, fun fs p pf sf hp => ⟨Nat.zero_le _, fun O hO => ⟨(by show 2 ≤ sizeLine; decide), fun t ht => ?_⟩⟩⟩
    have SP := Same.new (H := HA) (o := .lst (fs.map V.str)) hp
    have eP : (upd HA p (.lst (fs.map V.str))) p = some (.lst (fs.map V.str)) := upd_same
    have nPb : p ≠ b := new_ne hp bA
    have p0 := KA.free bA.at hp
    have bB := bA.same SP
    have KB := KA.same SP
    have eMB := SP _ _ eM
    generalize (upd HA p (.lst (fs.map V.str))) = HB at *
    have SO := Same.new (H := HB) (o := .lst []) hO
    have eO : (upd HB O (.lst [])) O = some (.lst []) := upd_same
    have nOb : O ≠ b := new_ne hO bB
    have O0 := KB.free bB.at hO
    have nOM : O ≠ M := fun e => by rw [e, eMB] at hO; cases hO
    have nOp : O ≠ p := fun e => by rw [e, eP] at hO; cases hO
    have bC := bB.same SO
    have KC := KB.same SO
    have eMC := SO _ _ eMB
    have ePC := SO _ _ eP
    generalize (upd HB O (.lst [])) = HC at *
    have ST := Same.new (H := HC) (o := .tup [.ref p, .ref O]) ht
    have eT : (upd HC t (.tup [.ref p, .ref O])) t = some (.tup [.ref p, .ref O]) := upd_same
    have bD := bC.same ST
    have KD := KC.same ST
    have eMD := ST _ _ eMC
    have ePD := ST _ _ ePC
    have eOD := ST _ _ eO
    generalize (upd HC t (.tup [.ref p, .ref O])) = HD at *
    have pmf : (ms ++ fs).Perm (ms ++ rest) := pf.append_left ms
    have ndf := (pmf.nodup_iff).mpr nd9
    have nmf : ∀ z ∈ ms ++ fs, Nm z := fun z hz => nm9 z (pmf.mem_iff.mp hz)
    have lf : fs.length ≤ 6 := by rw [pf.length_eq]; exact lr
    refine ⟨t, _, rfl, SqT.of eT, rfl, _, _, rfl, _, _, rfl, rfl, ?_⟩
    try dsimp only [List.set_cons_succ, List.set_cons_zero]
    refine ⟨fun σ H' => ∃ (vs : List V) (cs : List Cho) (a10 a11 : Option V), σ = [some (.ref b), some (.str own), some (.int age), some (.int sz), some (.int mn), some (.ref L), some (.ref M), a7, some (.ref p), some (.ref O), a10, a11, none] ∧ Kp b H H' ∧ Bag H' b (n + 140 + 4 * 180) ∧ H' M = some (.lst (ms.map V.str)) ∧ H' p = some (.lst (fs.map V.str)) ∧ H' O = some (.lst vs) ∧ TpAll H' vs (cs.map fun c => .tuple [.str c.1, optsD c.2]) ∧ cs.map (·.1) = ms ∧ (∀ c ∈ cs, OpW c.2), ?_, ?_⟩
    · refine ⟨_, rfl, M, rfl, ⟨_, SqL.of eMD⟩, ?_⟩
      refine for_list (xs := ms.map V.str) (fun i σ H' => ∃ (vs : List V) (cs : List Cho) (a10 a11 : Option V), σ = [some (.ref b), some (.str own), some (.int age), some (.int sz), some (.int mn), some (.ref L), some (.ref M), a7, some (.ref p), some (.ref O), a10, a11, none] ∧ Kp b H H' ∧ Bag H' b (n + 140 + 180 * i) ∧ H' M = some (.lst (ms.map V.str)) ∧ H' p = some (.lst (fs.map V.str)) ∧ H' O = some (.lst vs) ∧ TpAll H' vs (cs.map fun c => .tuple [.str c.1, optsD c.2]) ∧ cs.map (·.1) = ms.take i ∧ (∀ c ∈ cs, OpW c.2)) ?_ ?_ ?_ ?_
      · exact ⟨[], [], _, _, rfl, KD, bD, eMD, ePD, eOD, .nil, rfl, fun c h => nomatch h⟩
      · rintro i σ H' _ ⟨vs, cs, a10, a11, rfl, K', b', eM', _⟩
        exact SqL.of eM'
      · rintro i x σ H' hx ⟨vs, cs, a10, a11, rfl, K', b', eM', eP', eO', tvs, ecs, ops⟩
        obtain ⟨z, hz, rfl⟩ := mapAt hx
        have hi : i < 4 := by
          have := (List.getElem?_eq_some_iff.mp hz).1
          omega
        try dsimp only [List.set_cons_succ, List.set_cons_zero]
        refine ⟨_, rfl, _, rfl, b, 6, _, rfl, by decide, by decide, b', by omega, fun d H1 d0 d1 k1' b1' => ?_⟩
        obtain ⟨s9, hs9⟩ : ∃ s9 : Nat, 1 + d = (s9 : Int) := ⟨(1 + d).toNat, by omega⟩
        refine ⟨_, _, rfl, rfl, ?_⟩
        simp only [hs9]
        refine ⟨b, s9, _, rfl, by omega, b1', by omega, fun p1 ns H2 hp1 h21 ln k2' b2' rise rg => ?_⟩
        try dsimp only [List.set_cons_succ, List.set_cons_zero]
        have K2' := (K'.trans k1').trans k2'
        have K02 := k1'.trans k2'
        have eO2 := K02 _ _ nOb eO'
        have n1b : p1 ≠ b := new_ne hp1 b1'
        refine ⟨_, rfl, .inl ⟨rfl, _, SqL.of eO2⟩, ?_⟩
        refine ⟨_, rfl, _, rfl, _, rfl, _, rfl, p1, _, rfl, .inl (SqL.of h21), b, (ns.map V.int).length, _, rfl, b2', by rw [List.length_map]; omega, by omega, fun p2 zs2 H3 hp2 h32 lz2 nd2 nm2 k3' b3' => ?_⟩
        have lz3 : zs2.length = ns.length := by rw [lz2, List.length_map]
        have K3' := K2'.trans k3'
        have K03 := K02.trans k3'
        refine ⟨p1, p2, _, _, rfl, SqL.of (k3' _ _ n1b h21), SqL.of h32, by rw [List.length_map, List.length_map, lz3], by rw [List.length_map]; exact Nat.lt_of_le_of_lt (show _ ≤ 6 by omega) (by decide), fun R ps H4 S4 hR hR4 lps hps => ⟨(by show 2 ≤ sizeLine; decide), fun t9 ht9 => ?_⟩⟩
        have S5 := Same.new (H := H4) (o := .tup [.str z, .ref R]) ht9
        have tz : Tp H4 (.ref R) (optsD (ns.zip zs2)) := .tup hR4 (zip_tp (by rw [lps, List.length_map]) lz3 hps)
        have t5 : Tp (upd H4 t9 (.tup [.str z, .ref R])) (.ref t9) (.tuple [.str z, optsD (ns.zip zs2)]) := .tup upd_same (.cons (.str _) (.cons (Tp.keep (Same.tk S5) _ _ tz) .nil))
        have S45 := S4.trans S5
        generalize (upd H4 t9 (.tup [.str z, .ref R])) = H5 at *
        have K5' := K3'.same S45
        have K05 : Kp b H' H5 := K03.same S45
        have b5' := b3'.same S45
        have eO5 := K05 _ _ nOb eO'
        have W5 : Tk H5 (upd H5 O (.lst (vs ++ [.ref t9]))) := Tk.wr eO5
        refine ⟨O, _, _, rfl, rfl, eO5, ?_, ?_⟩
        · have e1 := tvs.length
          have e2 := congrArg List.length ecs
          rw [List.length_map] at e1
          rw [List.length_map, List.length_take] at e2
          exact Nat.lt_of_le_of_lt (show _ ≤ 10 by omega) (by decide)
        refine ⟨vs ++ [.ref t9], cs ++ [(z, ns.zip zs2)], _, _, rfl, K5'.wr O0, (b5'.ne nOb).mono (by omega), by rw [upd_ne (Ne.symm nOM)]; exact K05 _ _ nMb eM', by rw [upd_ne (Ne.symm nOp)]; exact K05 _ _ nPb eP', upd_same, ?_, ?_, fun c hc => ?_⟩
        · rw [List.map_append]
          exact (TpAll.keep W5 _ _ (TpAll.keep (K05.tk b') _ _ tvs)).app (TpAll.one (Tp.keep W5 _ _ t5))
        · rw [List.map_append, ecs, List.take_add_one, hz]
          rfl
        · rcases List.mem_append.mp hc with h | h
          · exact ops c h
          · rw [List.mem_singleton.mp h]
            exact op_zip lz3 (by omega) (by omega) nd2 nm2 rise rg
      · rintro σ H' ⟨vs, cs, a10, a11, rfl, K', b', eM', eP', eO', tvs, ecs, ops⟩
        rw [List.length_map] at b' ecs
        rw [List.take_length] at ecs
        exact ⟨vs, cs, _, _, rfl, K', b'.mono (by omega), eM', eP', eO', tvs, ecs, ops⟩
    rintro σ HE ⟨vs, cs, a10, a11, rfl, KE, bE, eME, ePE, eOE, tvs, ecs, ops⟩
    refine ⟨fun σ H' => ∃ (R : Addr) (us : List V) (recs : List Rec) (a10 a11 : Option V), σ = [some (.ref b), some (.str own), some (.int age), some (.int sz), some (.int mn), some (.ref L), some (.ref M), a7, some (.ref p), some (.ref O), a10, a11, some (.ref R)] ∧ Kp b HE H' ∧ Bag H' b (n + 140 + 4 * 180 + 6 * 301) ∧ R ≠ b ∧ H' R = some (.lst us) ∧ TpAll H' us ((recs.map rD).map fun r => .tuple [.str r.1, r.2]) ∧ recs.map (·.1) = fs ∧ (∀ r ∈ recs, FlW r.2 ∧ ∀ f ∈ r.2, KnIn ms fs f.kd) ∧ HE R = none, ?_, ?_⟩
    · refine ⟨_, rfl, p, rfl, ⟨_, SqL.of ePE⟩, fun R hR => ?_⟩
      have nRb : R ≠ b := new_ne hR bE
      refine lc_list (xs := fs.map V.str) (fun i H' => Kp b HE H' ∧ Bag H' b (n + 140 + 4 * 180 + 301 * i) ∧ ∃ (us : List V) (recs : List Rec), H' R = some (.lst us) ∧ TpAll H' us ((recs.map rD).map fun r => .tuple [.str r.1, r.2]) ∧ recs.map (·.1) = fs.take i ∧ ∀ r ∈ recs, FlW r.2 ∧ ∀ f ∈ r.2, KnIn ms fs f.kd) ?_ ?_ ?_ ?_
      · exact ⟨Kp.refl.new hR, bE.new hR, [], [], upd_same, .nil, rfl, fun r h => nomatch h⟩
      · rintro i H' _ ⟨K', _⟩
        exact SqL.of (K' _ _ nPb ePE)
      · rintro i x H' hx ⟨K', b', us, recs, eR, tus, erc, fls⟩
        obtain ⟨z, hz, rfl⟩ := mapAt hx
        have hi : i < 6 := by
          have := (List.getElem?_eq_some_iff.mp hz).1
          omega
        refine ⟨rfl, yes (iteT ?_)⟩
        refine ⟨_, rfl, _, rfl, _, rfl, _, rfl, b, M, p, ms, fs, _, rfl, b', by omega, K' _ _ nMb eME, K' _ _ nPb ePE, by omega, by omega, fun y hy => nmf y (List.mem_append_left _ hy), fun y hy => nmf y (List.mem_append_right _ hy), fun v fl H1 tv flw kin k1' b1' => ⟨(by show 2 ≤ sizeLine; decide), fun t9 ht9 => ?_⟩⟩
        have S5 := Same.new (H := H1) (o := .tup [.str z, v]) ht9
        have t5 : Tp (upd H1 t9 (.tup [.str z, v])) (.ref t9) (.tuple [.str z, fieldsD fl]) := .tup upd_same (.cons (.str _) (.cons (Tp.keep (Same.tk S5) _ _ tv) .nil))
        have b5' := b1'.same S5
        have K05 : Kp b H' (upd H1 t9 (.tup [.str z, v])) := k1'.same S5
        generalize (upd H1 t9 (.tup [.str z, v])) = H5 at *
        have eR5 := K05 _ _ nRb eR
        have W5 : Tk H5 (upd H5 R (.lst (us ++ [.ref t9]))) := Tk.wr eR5
        refine ⟨_, eR5, ?_, (K'.trans K05).wr hR, (b5'.ne nRb).mono (by omega), us ++ [.ref t9], recs ++ [(z, fl)], upd_same, ?_, ?_, fun r hr => ?_⟩
        · have e1 := tus.length
          have e2 := congrArg List.length erc
          rw [List.length_map, List.length_map] at e1
          rw [List.length_map, List.length_take] at e2
          exact Nat.lt_of_le_of_lt (show _ ≤ 10 by omega) (by decide)
        · rw [List.map_append, List.map_append]
          exact (TpAll.keep W5 _ _ (TpAll.keep (K05.tk b') _ _ tus)).app (TpAll.one (Tp.keep W5 _ _ t5))
        · rw [List.map_append, erc, List.take_add_one, hz]
          rfl
        · rcases List.mem_append.mp hr with h | h
          · exact fls r h
          · rw [List.mem_singleton.mp h]
            exact ⟨flw, kin⟩
      · rintro H' ⟨K', b', us, recs, eR, tus, erc, fls⟩
        rw [List.length_map] at b' erc
        rw [List.take_length] at erc
        try dsimp only [List.set_cons_succ, List.set_cons_zero]
        exact ⟨R, us, recs, _, _, rfl, K', b'.mono (by omega), nRb, eR, tus, erc, fls, hR⟩
    rintro σ HF ⟨R, us, recs, a10', a11', rfl, KF, bF, nRb, eR, tus, erc, fls, R0⟩
    have rcw : RecsW recs := ⟨by
      have := congrArg List.length erc
      rw [List.length_map] at this
      omega, by rw [erc]; exact (List.nodup_append.mp ndf).2.1, fun r hr => nmf _ (List.mem_append_right _ (by rw [← erc]; exact List.mem_map.mpr ⟨r, hr, rfl⟩)), fun r hr => (fls r hr).1⟩
    have csw : CsW cs := ⟨by
      have := congrArg List.length ecs
      rw [List.length_map] at this
      omega, by rw [ecs]; exact (List.nodup_append.mp ndf).1, fun c hc => nmf _ (List.mem_append_left _ (by rw [← ecs]; exact List.mem_map.mpr ⟨c, hc, rfl⟩)), ops⟩
    have eOF := KF _ _ nOb eOE
    have tvF := TpAll.keep (KF.tk bE) _ _ tvs
    refine ⟨_, rfl, _, rfl, _, rfl, O, _, rfl, SqL.of eOF, fun t3 o3 ht3 pl3 => ?_⟩
    have S3' := Same.new (H := HF) (o := .frz o3 (.tup vs)) ht3
    have e3' : TpF (upd HF t3 (.frz o3 (.tup vs))) (.ref t3) (rowsD (csP cs)) := ⟨t3, o3, vs, _, rfl, rfl, upd_same, pl3, by
      have := TpAll.keep (Same.tk S3') _ _ tvF
      unfold csP
      rw [List.map_map]
      exact this⟩
    have b3' := bF.same S3'
    have K3' := (KE.trans KF).same S3'
    have eR3 := S3' _ _ eR
    have tu3 := TpAll.keep (Same.tk S3') _ _ tus
    generalize (upd HF t3 (.frz o3 (.tup vs))) = HG at *
    refine ⟨_, rfl, R, _, rfl, SqL.of eR3, fun t4 o4 ht4 pl4 => ?_⟩
    have S4' := Same.new (H := HG) (o := .frz o4 (.tup us)) ht4
    have e4' : TpF (upd HG t4 (.frz o4 (.tup us))) (.ref t4) (rowsD (recs.map rD)) := ⟨t4, o4, us, _, rfl, rfl, upd_same, pl4, TpAll.keep (Same.tk S4') _ _ tu3⟩
    have b4' := b3'.same S4'
    have K4' := K3'.same S4'
    have eR4 := S4' _ _ eR3
    have tu4 := TpAll.keep (Same.tk S4') _ _ tu3
    have e34 := e3'.keep (Same.fk S4') (Same.tk S4')
    generalize (upd HG t4 (.frz o4 (.tup us))) = HI at *
    refine ⟨_, rfl, _, rfl, _, rfl, b, R, own, recs, us, _, rfl, b4', by omega, no, eR4, nRb, tu4, rcw, fun v cws HJ tv cww cin kJ bJ => ⟨(by show 5 ≤ sizeLine; decide), fun tp htp => ?_⟩⟩
    have SK := Same.new (H := HJ) (o := .tup [.str own, .int age, .ref t3, .ref t4, v]) htp
    have kt := (kJ.tk b4').trans (Same.tk SK)
    have kf := (kJ.fk b4').trans (Same.fk SK)
    refine q _ own age cs recs cws _ ⟨tp, _, _, _, rfl, upd_same, e34.keep kf kt, e4'.keep kf kt, Tp.keep (Same.tk SK) _ _ tv⟩ ⟨no, by omega, by omega, csw, rcw, cww, by rw [ecs, erc]; exact ndf⟩ ⟨by rw [ecs, erc]; exact fun r hr => (fls r hr).2, cin⟩ ((K4'.trans kJ).new htp) ((bJ.new htp).mono (by omega))
end
end Fh

set_option Elab.async false
set_option linter.all false
set_option maxRecDepth 100000
set_option maxHeartbeats 4000000
namespace Fh
open PySem L2 PyProof.Rows
/-! ### deeds that are so -/
theorem eqv_strC (x y : Str) : PyData.eqv (.str x) (.str y) = PyData.eqv (.str y) (.str x) := by
  show (x == y) = (y == x)
  exact Bool.beq_comm
theorem kb_comm (a b : Kb) : PyData.eqv a.d b.d = PyData.eqv b.d a.d := by
  have two : ∀ (w x y z : Str), PyData.eqv (.tuple [.str w, .str x]) (.tuple [.str y, .str z]) = PyData.eqv (.tuple [.str y, .str z]) (.tuple [.str w, .str x]) := fun w x y z => by
    show ((w == y) && ((x == z) && true)) = ((y == w) && ((z == x) && true))
    rw [Bool.beq_comm (a := w), Bool.beq_comm (a := x)]
  cases a <;> cases b <;> first | exact eqv_strC _ _ | rfl | exact two _ _ _ _
theorem kd_comm (a b : Kn) : PyData.eqv a.d b.d = PyData.eqv b.d a.d := by
  have l2 : ∀ (w y : Str) (d e : PyData), PyData.eqv d e = PyData.eqv e d → PyData.eqv (.tuple [.str w, d]) (.tuple [.str y, e]) = PyData.eqv (.tuple [.str y, e]) (.tuple [.str w, d]) := fun w y d e h => by
    show ((w == y) && (PyData.eqv d e && true)) = ((y == w) && (PyData.eqv e d && true))
    rw [Bool.beq_comm (a := w), h]
  cases a with
  | one a => cases b with
    | one b => exact kb_comm a b
    | lst b => cases a with
      | rc z => exact l2 _ _ _ _ (by cases b <;> first | exact eqv_strC _ _ | rfl)
      | ch z => exact l2 _ _ _ _ (by cases b <;> first | exact eqv_strC _ _ | rfl)
      | _ => rfl
  | lst a => cases b with
    | lst b => exact l2 _ _ _ _ (kb_comm a b)
    | one b => cases b with
      | rc z => exact l2 _ _ _ _ (by cases a <;> first | exact eqv_strC _ _ | rfl)
      | ch z => exact l2 _ _ _ _ (by cases a <;> first | exact eqv_strC _ _ | rfl)
      | _ => rfl
def musT (k : Str) (f : Fl) : Bool := PyData.eqv (.tuple [f.kd.d, .str (needS f.must)]) (.tuple [.str k, .str "must"])
def txL (fl : List Fl) (k : Str) : List Str := (fl.filter (musT k)).map Fl.nam
theorem find_self : ∀ {fl : List Fl} {f : Fl}, (fl.map Fl.nam).Nodup → f ∈ fl → fl.find? (fun g => decide (g.nam = f.nam)) = some f
  | [], _, _, h => by cases h
  | g :: fl, f, nd, h => by
    rw [List.map_cons, List.nodup_cons] at nd
    rw [List.find?_cons]
    rcases List.mem_cons.mp h with e | h2
    · rw [e, decide_eq_true rfl]
    · rw [decide_eq_false fun e => nd.1 (by rw [e]; exact List.mem_map.mpr ⟨f, h2, rfl⟩)]
      exact find_self nd.2 h2
theorem tx_eqG {fl : List Fl} {k z : Str} (nd : (fl.map Fl.nam).Nodup) (h : z ∈ txL fl k) : eqG fl z k = true := by
  obtain ⟨f, hf, rfl⟩ := List.mem_map.mp h
  obtain ⟨hf, hk⟩ := List.mem_filter.mp hf
  unfold eqG
  rw [find_self nd hf]
  exact hk
/-- a deed is right wherever an ask is ahead, if asked -/
def GdD (own : Str) (ins outs : List Fl) (asked : Bool) (d : List Str) : Prop := ∀ ahead : List (List Str), (asked = true → inV (.str "ask") (ahead.map fun e => V.str (e.headD "")) = true) → astB own ins outs d ahead = true
theorem ast_cons {own : Str} {ins outs : List Fl} {a b c : Str} {r : List Str} {ahead : List (List Str)} : astB own ins outs (a :: b :: c :: r) ahead =
    if inV (.str a) [.str "take", .str "add"] = true then eqG ins b "text" && eqG ins c "whole"
    else if a = "tell" then (match outs.find? (fun g => decide (g.nam = b)) with
      | some g => PyData.eqv g.kd.d (.str "whole") && eqG ins c "text"
      | none => false)
    else if a = "copy" then (match outs.find? (fun g => decide (g.nam = b)), ins.find? (fun g => decide (g.nam = c)) with
      | some g, some s => ccB g s
      | _, _ => false)
    else if a = "ask" then !decide (b = own)
    else inN outs b && inV (.str "ask") (ahead.map fun e => V.str (e.headD "")) := rfl
theorem inV_ta {w : Str} : inV (.str w) [.str "take", .str "add"] = decide (w ∈ (["take", "add"] : List Str)) := inV_names (zs := ["take", "add"])
theorem gd_take {own : Str} {ins outs : List Fl} {asked : Bool} {w b c : Str} {r : List Str} (hw : w = "take" ∨ w = "add") (h1 : eqG ins b "text" = true) (h2 : eqG ins c "whole" = true) : GdD own ins outs asked (w :: b :: c :: r) := fun ahead _ => by
  rw [ast_cons]
  have e : inV (.str w) [.str "take", .str "add"] = true := by
    rw [inV_ta, decide_eq_true_iff]
    rcases hw with rfl | rfl <;> simp
  rw [if_pos e, h1, h2]
  rfl
theorem not_ta {w : Str} (h : decide (w ∈ (["take", "add"] : List Str)) = false) : inV (.str w) [.str "take", .str "add"] = false := by rw [inV_ta]; exact h
theorem gd_tell {own : Str} {ins outs : List Fl} {asked : Bool} {g : Fl} {c : Str} {r : List Str} (nd : (outs.map Fl.nam).Nodup) (hg : g ∈ outs) (h1 : PyData.eqv g.kd.d (.str "whole") = true) (h2 : eqG ins c "text" = true) : GdD own ins outs asked ("tell" :: g.nam :: c :: r) := fun ahead _ => by
  rw [ast_cons]
  rw [not_ta (by decide +kernel), if_neg Bool.false_ne_true, if_pos rfl, find_self nd hg, h2]
  show (PyData.eqv g.kd.d (.str "whole") && true) = true
  rw [h1]
  rfl
theorem gd_copy {own : Str} {ins outs : List Fl} {asked : Bool} {g f : Fl} {r : List Str} (nd : (outs.map Fl.nam).Nodup) (nd2 : (ins.map Fl.nam).Nodup) (hg : g ∈ outs) (hf : f ∈ ins) (h : ccB g f = true) : GdD own ins outs asked ("copy" :: g.nam :: f.nam :: r) := fun ahead _ => by
  rw [ast_cons]
  rw [not_ta (by decide +kernel), if_neg Bool.false_ne_true, if_neg (by decide +kernel), if_pos rfl, find_self nd hg, find_self nd2 hf]
  exact h
theorem gd_ask {own : Str} {ins outs : List Fl} {asked : Bool} {b c : Str} {r : List Str} (h : b ≠ own) : GdD own ins outs asked ("ask" :: b :: c :: r) := fun ahead _ => by
  rw [ast_cons]
  rw [not_ta (by decide +kernel), if_neg Bool.false_ne_true, if_neg (by decide +kernel), if_neg (by decide +kernel), if_pos rfl, decide_eq_false h]
  rfl
theorem gd_get {own : Str} {ins outs : List Fl} {g : Fl} {c : Str} {r : List Str} (nd : (outs.map Fl.nam).Nodup) (hg : g ∈ outs) : GdD own ins outs true ("get" :: g.nam :: c :: r) := fun ahead ha => by
  rw [ast_cons]
  rw [not_ta (by decide +kernel), if_neg Bool.false_ne_true, if_neg (by decide +kernel), if_neg (by decide +kernel), if_neg (by decide +kernel), ha rfl]
  unfold inN
  rw [find_self nd hg]
  rfl
/-- all deeds of a call are as told -/
def RichOk (own : Str) (recs : List Rec) (c : Cw) : Prop := ∀ (i : Nat) (d : List Str), c.ds[i]? = some d → astB own (flO recs c.ask) (flO recs c.ans) d (c.ds.take i) = true
theorem inV_head {z : Str} {L : List (List Str)} {r : List Str} : inV (.str z) (((z :: r) :: L).map fun e => V.str (e.headD "")) = true := by
  have e : (((z :: r) :: L).map fun e => V.str (e.headD "")) = (z :: L.map fun e => e.headD "").map V.str := by
    rw [List.map_cons, List.map_cons, List.map_map]
    rfl
  rw [e, inV_names, decide_eq_true_iff]
  exact List.mem_cons_self
def askL (asked : Bool) (o : Str) : List (List Str) := if asked = true then [[("ask" : Str), o, ("pay" : Str)]] else []
theorem rich_of {own : Str} {ins outs : List Fl} {asked : Bool} {ds : List (List Str)} {o : Str} (h : ∀ d ∈ ds, GdD own ins outs asked d) (ho : o ≠ own) (i : Nat) (d : List Str)
    (hd : (askL asked o ++ ds)[i]? = some d) : astB own ins outs d ((askL asked o ++ ds).take i) = true := by
  cases asked with
  | false =>
    have e0 : askL false o = [] := rfl
    rw [e0] at hd ⊢
    exact h d (List.mem_of_getElem? hd) _ fun e => absurd e Bool.false_ne_true
  | true =>
    have e0 : askL true o = [[("ask" : Str), o, ("pay" : Str)]] := rfl
    rw [e0] at hd ⊢
    cases i with
    | zero =>
      cases hd
      exact gd_ask (asked := false) ho _ fun e => absurd e Bool.false_ne_true
    | succ i =>
      have hd : ds[i]? = some d := hd
      refine h d (List.mem_of_getElem? hd) _ fun _ => ?_
      exact inV_head (L := ds.take i)
/-- list(x), by name -/
def rLiQ (K : PySem.W.Frag) : List V → Hp → VK → Prop := fun xs H Q => ∃ p ys, xs = [.ref p] ∧ (SqL K H p ys ∨ SqT K H p ys) ∧ ∀ l, H l = none → Q (.ref l) (upd H l (.lst ys))
theorem call_liQ {X : Cx} : CallR X (.type "list") (rLiQ X.K) := call_list_of
end Fh

set_option Elab.async false
set_option linter.all false
set_option maxRecDepth 100000
set_option maxHeartbeats 4000000
namespace Fh
open PySem L2 PyProof.Rows
/-! ### calls whose deeds are so -/
theorem tup_ne {H : Hp} {a b : Addr} {xs : List V} {n : Nat} (h : H a = some (.tup xs)) (hB : Bag H b n) : a ≠ b := fun e => by
  obtain ⟨x, y, z, hb, _⟩ := hB
  rw [e, hb] at h
  cases h
theorem frz_ne {H : Hp} {a b : Addr} {o : Obj} {u : HO} {n : Nat} (h : H a = some (.frz o u)) (hB : Bag H b n) : a ≠ b := fun e => by
  obtain ⟨x, y, z, hb, _⟩ := hB
  rw [e, hb] at h
  cases h
theorem tp_dp2 {K : PySem.W.Frag} {H : Hp} {a : Addr} {x y : V} {d e : PyData} (h : H a = some (.tup [x, y])) (t1 : Tp H x d) (t2 : Tp H y e) : Dp K H (.ref a) (.tuple [d, e]) := .tup (SqT.of h) (.cons (Tp.dp _ _ t1) (.cons (Tp.dp _ _ t2) .nil))
theorem need_nm (b : Bool) : Nm (needS b) := by cases b <;> exact nm_lit (by decide +kernel)
theorem sh_two {k : Kn} {b : Bool} (h : ∀ z, k.nm = some z → Nm z) : SeqAt.shaped (.tuple [k.d, .str (needS b)]) = true := by
  have hk : Sh 2 k.d := by
    cases k with
    | one b => exact (kb_shQ h).mono (by decide)
    | lst b =>
      have hb : Sh 1 b.d := kb_shQ (k := b) fun z hz => h z hz
      refine Sh.tup (n := 1) fun d hd => ?_
      rcases List.mem_cons.mp hd with e | hd
      · rw [e]; exact ⟨by decide +kernel, Nat.zero_le _⟩
      · rw [List.mem_singleton.mp hd]; exact hb
  refine (Sh.tup (n := 2) fun d hd => ?_).shaped (by decide)
  rcases List.mem_cons.mp hd with e | hd
  · rw [e]; exact hk
  · rw [List.mem_singleton.mp hd]; exact (nm_shQ (need_nm b)).mono (by decide)
theorem sh_km {k : Str} (h : Nm k) : SeqAt.shaped (.tuple [.str k, .str "must"]) = true := by
  refine (Sh.tup (n := 0) fun d hd => ?_).shaped (by decide)
  rcases List.mem_cons.mp hd with e | hd
  · rw [e]; exact nm_shQ h
  · rw [List.mem_singleton.mp hd]; exact nm_shQ (nm_lit (by decide +kernel))
theorem tp_erase {H : Hp} : ∀ {vs : List V} {ds : List PyData} {k : Nat}, TpAll H vs ds → TpAll H (vs.eraseIdx k) (ds.eraseIdx k)
  | _, _, _, .nil => .nil
  | _, _, 0, .cons _ t => t
  | _, _, k + 1, .cons h t => .cons h (tp_erase t)
/-- the names of the fields of a kind that must be -/
theorem lc_mus {K : PySem.W.Frag} {k : Str} {a : Addr} {xs : List V} {ins : List Fl} {σ : L2.St} {H : Hp} {D : Addr} {Qd : Hp → Prop} (hk : Nm k) (hl : 12 < σ.length) (ha : H a = some (.lst xs)) (tx : TpAll H xs (ins.map Fl.d)) (fw : FlW ins) (hD : H D = none)
    (hd : ∀ H', Same H H' → H' D = some (.lst ((txL ins k).map V.str)) → Qd H') :
    ∃ W : Nat → Nat → Hp → Prop, (∃ m, W 0 m (upd H D (.lst []))) ∧ ∀ j m H, W j m H →
      ((Itl K a).stop j H ∧ Qd H) ∨ ((Itl K a).go j H ∧ ∃ Nx : Hp → Prop, (∀ H', Nx H' → ∃ m', m' < m ∧ W (j + 1) m' H') ∧ ∀ x H', (Itl K a).yld j H x H' → gName 12 x (wipe σ [12]) H' fun σ2 H2 => wipe σ2 [12] = wipe σ [12] ∧ tTest (tOp (rEqD K) (tSl (rSlA K) (tVar 12) (tPart (tC (.int 2))) tNoPart) (tTup (tCons (tC (.str k)) (tCons (tC (.str "must")) tNil)))) σ2 H2 fun b H3 =>
        if b = true then tOp (rIxT K) (tVar 12) (tC (.int 1)) σ2 H3 fun y H4 => ∃ acc, H4 D = some (.lst acc) ∧ acc.length < sizeLine ∧ Nx (upd H4 D (.lst (acc ++ [y]))) else Nx H3) := by
  refine lcG_list (xs := xs) (l := ins) (dx := Fl.d) (val := fun f => .str f.nam) (keep := musT k) (fun H' S => SqL.of (S _ _ ha)) tx (Nat.lt_of_le_of_lt fw.l5 (by decide)) hD ?_ ?_
  · intro j f x H' hj S' tf N M hN hM
    have hm := List.mem_of_getElem? hj
    have gx : ((wipe σ [12]).set 12 (some x))[12]? = some (some x) := by
      rw [List.getElem?_set_self]
      rw [wipe_length]
      exact hl
    have wx : wipe ((wipe σ [12]).set 12 (some x)) [12] = wipe σ [12] := by
      show ((σ.set 12 none).set 12 (some x)).set 12 none = σ.set 12 none
      rw [List.set_set, List.set_set]
    obtain ⟨t4, x1, x2, x3, x4, rfl, h4, t1, t2, t3, t4'⟩ := Tp.four tf
    rw [t2.istr] at h4
    refine ⟨wx, _, gx, _, rfl, npT ?_⟩
    refine tpSl (lo := some 2) (hi := none) tf fun r H2 S2 tr => ?_
    refine ⟨(by show 2 ≤ sizeLine; decide), fun p2 hp2 => ?_⟩
    obtain ⟨S3, tp2⟩ := tupNew (xs := [.str k, .str "must"]) hp2 (.cons (.str k) (.cons (.str "must") .nil))
    have tr3 := Tp.keep (Same.tk S3) _ _ tr
    have S23 := S2.trans S3
    generalize (upd H2 p2 (.tup [.str k, .str "must"])) = H3 at *
    refine ⟨.tuple [f.kd.d, .str (needS f.must)], .tuple [.str k, .str "must"], Tp.dp _ _ tr3, Tp.dp _ _ tp2, sh_two (fw.nk f hm), sh_km hk, _, rfl, ?_⟩
    show (if musT k f = true then _ else _)
    cases hmk : musT k f with
    | false => exact iteF (hN hmk _ S23)
    | true => exact iteT ⟨_, gx, t4, _, _, _, rfl, rfl, SqT.of (S23 _ _ h4), rfl, hM hmk _ _ S23 (.str _)⟩
  intro H' zs S' hD' tz
  have ez := tp_strsM tz
  subst ez
  exact hd H' S' hD'
abbrev sRch : Stmt := top 49
abbrev nRch : List Str := ["_law_bag_here", "_law_parts", "_law_found", "_law_mark", "_law_word", "_law_ask", "_law_back", "_law_deeds", "_law_ins", "_law_outs", "_law_side", "_law_texts", "_law_one", "_law_wholes", "_law_some", "_law_way", "_law_source", "_law_many", "_law_is_asked", "_law_own", "_law_fit", "_law_order", "_law_turn", "_law_other"]
abbrev pRch : List Str := ["_law_bag_here", "_law_parts"]
def spRch : Sp := fun vs H Q _ => ∃ (b : Addr) (v : V) (own : Str) (age : Int) (cs : List Cho) (recs : List Rec) (cws : List Cw) (n : Nat), vs = [.ref b, v] ∧ Bag H b n ∧ n + 400 ≤ most ∧ PtF H v own age cs recs cws ∧ PtW own age cs recs cws ∧
  ∀ (v' : V) (cws' : List Cw) (H' : Hp), PtF H' v' own age cs recs cws' → PtW own age cs recs cws' → (∀ c ∈ cws', RichOk own recs c ∧ ∃ c0 ∈ cws, c.ask = c0.ask ∧ c.ans = c0.ans) → Kp b H H' → Bag H' b (n + 300) → Q v' H'
section
variable {P : Program} {w : World} {K : PySem.W.Frag} {mg : Str → Option Value} {base : Heap}
theorem scRch : FnScope nRch pRch (defScope sRch) := ⟨rfl, rfl, rfl, by decide +kernel, rfl, by decide +kernel, by decide +kernel⟩
theorem ok_rch {f : Addr} {fd : FuncData} (F : Fun K "_law_rich" "_law_rich" sRch f fd) (G : Glb mg) (DT : Has P w K mg base "_law_take" 1 ["_law_bag_here", "_law_size"] spTake) : FnOk P w K mg base CX0 2 f fd pRch spRch := by
  refine F.ok scRch (fun vs H Q E h => ?_) (fun cdv A outer s H vs Q E hr h => ?_)
  · obtain ⟨b, v, own, age, cs, recs, cws, n, rfl, _⟩ := h
    rfl
  · obtain ⟨b, v, own, age, cs, recs, cws, n, rfl, hB, hn, hv, pw, q⟩ := h
    have hmost : most = 1000000 := rfl
    have hu := hu_of hr
    obtain ⟨p, v3, v4, v5, rfl, hp, t3, t4, t5⟩ := hv
    obtain ⟨pr, or, xr, rfl, hpr, plr, txr⟩ := TpF.inv t4
    obtain ⟨pc, xc, rfl, hpc, txc⟩ := Tp.inv t5
    have lxc : xc.length = cws.length := by rw [txc.length, List.length_map]
    have lw6 := pw.cw.l6
    obtain ⟨ps, kvs, exr, prd, ek, k1, k2⟩ := recs_dict (K := K) txr pw.rc.nd
    refine ⟨_, (pss_cons (ps_set (i := 2) scRch.nd rfl (Or.inl rfl) (pe_lst pa_nil))
      (pss_cons (ps_for PassesOwn.never rfl (pi_tup (pe_ix ix_tup (pv 1) pe_int (fun _ _ => rfl))) (pg_tup rfl (pgs_cons (pg_name (i := 3) scRch.nd rfl (Or.inl rfl)) (pgs_cons (pg_name (i := 4) scRch.nd rfl (Or.inl rfl)) (pgs_cons (pg_name (i := 5) scRch.nd rfl (Or.inl rfl)) (pgs_cons (pg_name (i := 6) scRch.nd rfl (Or.inl rfl)) (pgs_cons (pg_name (i := 7) scRch.nd rfl (Or.inl rfl)) pgs_nil))))))
      (C8.pss_cut (ps_asg (pe_lc (own := [("_law_side", 10)]) (g := (gName 10)) (tt := tYes) (te := tCB (rLiQ K) (tCons (tDGet2 (tCB (rDictT K) (tCons (tOp (rIxT K) (tVar 1) (tC (.int 3))) tNil)) (tVar 10) (tTup tNil)) tNil)) rfl scRch.nd (pi_tup (pe_tup (pa_cons (pv 5) (pa_cons (pv 6) pa_nil)))) (blkOk_by (N := nRch) (sc := defScope sRch) (by decide +kernel)) (fun _ _ _ _ _ => (pg_name (i := 10) scRch.nd rfl (Or.inl rfl))) (fun _ _ _ _ _ => pts_nil) (fun _ _ _ _ _ => (pe_callTy call_liQ (by rfl) G.list (by decide +kernel) (pa_cons (pe_dget2 hu (pe_callTy (cr_dictT rfl) (by rfl) G.dict (by decide +kernel) (pa_cons (pe_ix ix_tup (pv 1) pe_int (fun _ _ => rfl)) pa_nil)) (pv 10) (pe_tup pa_nil) ⟨rfl, rfl, rfl, rfl⟩) pa_nil)))) (pg_lst rfl (pgs_cons (pg_name (i := 8) scRch.nd rfl (Or.inl rfl)) (pgs_cons (pg_name (i := 9) scRch.nd rfl (Or.inl rfl)) pgs_nil))))
      (C8.pss_cut (ps_setLc (i := 11) (own := [("_law_one", 12)]) (g := (gName 12)) (tt := tTest (tOp (rEqD K) (tSl (rSlA K) (tVar 12) (tPart (tC (.int 2))) tNoPart) (tTup (tCons (tC (.str "text")) (tCons (tC (.str "must")) tNil))))) (te := tOp (rIxT K) (tVar 12) (tC (.int 1))) rfl scRch.nd rfl rfl (sw_true rfl rfl rfl (by decide +kernel)) (pi_list (pv 8)) (blkOk_by (N := nRch) (sc := defScope sRch) (by decide +kernel)) (fun _ _ _ _ _ => (pg_name (i := 12) scRch.nd rfl (Or.inl rfl))) (fun _ _ _ _ _ => pts_one (pt_cmpR (op_eqD hr.units) (pe_slice sl_tupA (pv 12) (po_some pe_int) po_none) (pe_tup (pa_cons pe_str (pa_cons pe_str pa_nil))) (nomark _))) (fun _ _ _ _ _ => (pe_ix ix_tup (pv 12) pe_int (fun _ _ => rfl))))
      (C8.pss_cut (ps_setLc (i := 13) (own := [("_law_one", 12)]) (g := (gName 12)) (tt := tTest (tOp (rEqD K) (tSl (rSlA K) (tVar 12) (tPart (tC (.int 2))) tNoPart) (tTup (tCons (tC (.str "whole")) (tCons (tC (.str "must")) tNil))))) (te := tOp (rIxT K) (tVar 12) (tC (.int 1))) rfl scRch.nd rfl rfl (sw_true rfl rfl rfl (by decide +kernel)) (pi_list (pv 8)) (blkOk_by (N := nRch) (sc := defScope sRch) (by decide +kernel)) (fun _ _ _ _ _ => (pg_name (i := 12) scRch.nd rfl (Or.inl rfl))) (fun _ _ _ _ _ => pts_one (pt_cmpR (op_eqD hr.units) (pe_slice sl_tupA (pv 12) (po_some pe_int) po_none) (pe_tup (pa_cons pe_str (pa_cons pe_str pa_nil))) (nomark _))) (fun _ _ _ _ _ => (pe_ix ix_tup (pv 12) pe_int (fun _ _ => rfl))))
      (pss_cons (ps_set (i := 14) scRch.nd rfl (Or.inr rfl) (pe_lst pa_nil))
      (C8.pss_cut (ps_if (pt_mid (PW.pt (pw_and (pt_cmpR (op_neM9 hr.units) (pv 11) (pe_lst pa_nil) (nomark _)) (pw_and (pt_cmpR (op_neM9 hr.units) (pv 13) (pe_lst pa_nil) (nomark _)) (pw_and1 (pt_cmpR op_eq (pe_has DT (hr.mono (by omega)) rfl (pa_cons (pv 0) (pa_cons pe_int pa_nil))) pe_int (nomark _)))))))
      (pss_one (ps_for PassesOwn.never rfl (pi_list (pe_lst (pa_cons (pe_tup (pa_cons pe_str (pa_cons pe_str pa_nil))) (pa_cons (pe_tup (pa_cons pe_str pa_nil)) pa_nil)))) (pg_name (i := 15) scRch.nd rfl (Or.inl rfl))
      (pss_cons (ps_set (i := 16) scRch.nd rfl (Or.inl rfl) (pe_ix ix_list (pv 11) (pe_has DT (hr.mono (by omega)) rfl (pa_cons (pv 0) (pa_cons (pe_callB call_len_seq (by rfl) G.len (by decide +kernel) (pa_cons (pv 11) pa_nil)) pa_nil))) (fun _ _ => rfl)))
      (pss_cons (ps_set (i := 17) scRch.nd rfl (Or.inl rfl) (pe_ix ix_list (pv 13) (pe_has DT (hr.mono (by omega)) rfl (pa_cons (pv 0) (pa_cons (pe_callB call_len_seq (by rfl) G.len (by decide +kernel) (pa_cons (pv 13) pa_nil)) pa_nil))) (fun _ _ => rfl)))
      (pss_one (ps_expr (pe_bm PySem.F.plainAttrs_list PySem.F.slot_list_append PySem.F.type_list_append mt_append (pv 14) (pa_cons (pe_op op_catA (pe_tup (pa_cons (pe_ix ix_tup (pv 15) pe_int (fun _ _ => rfl)) (pa_cons (pv 16) (pa_cons (pv 17) pa_nil)))) (pe_slice sl_tupA (pv 15) (po_some pe_int) po_none)) pa_nil))))))))
      pss_nil)
      (C8.pss_cut (ps_set (i := 18) scRch.nd rfl (Or.inl rfl) (pe_cmpR op_eq (pe_has DT (hr.mono (by omega)) rfl (pa_cons (pv 0) (pa_cons pe_int pa_nil))) pe_int (nomark _)))
      (C8.pss_cut (ps_for PassesOwn.never rfl (pi_list (pv 9)) (pg_name (i := 19) scRch.nd rfl (Or.inr rfl))
      (C8.pss_cut (ps_setLc (i := 20) (own := [("_law_one", 12)]) (g := (gName 12)) (tt := tTest (tOp (rEqD K) (tOp (rIxT K) (tVar 12) (tC (.int 2))) (tOp (rIxT K) (tVar 19) (tC (.int 2))))) (te := tVar 12) rfl scRch.nd rfl rfl (sw_true rfl rfl rfl (by decide +kernel)) (pi_list (pv 8)) (blkOk_by (N := nRch) (sc := defScope sRch) (by decide +kernel)) (fun _ _ _ _ _ => (pg_name (i := 12) scRch.nd rfl (Or.inl rfl))) (fun _ _ _ _ _ => pts_one (pt_cmpR (op_eqD hr.units) (pe_ix ix_tup (pv 12) pe_int (fun _ _ => rfl)) (pe_ix ix_tup (pv 19) pe_int (fun _ _ => rfl)) (nomark _))) (fun _ _ _ _ _ => (pv 12)))
      (C8.pss_cut (ps_setLc (i := 20) (own := [("_law_one", 12)]) (g := (gName 12)) (tt := tOr (tTest (tOp rEq (tOp (rIxT K) (tVar 12) (tC (.int 3))) (tC (.str "must")))) (tTest (tOp rEq (tOp (rIxT K) (tVar 19) (tC (.int 3))) (tC (.str "may"))))) (te := tOp (rIxT K) (tVar 12) (tC (.int 1))) rfl scRch.nd rfl rfl (sw_true rfl rfl rfl (by decide +kernel)) (pi_list (pv 20)) (blkOk_by (N := nRch) (sc := defScope sRch) (by decide +kernel)) (fun _ _ _ _ _ => (pg_name (i := 12) scRch.nd rfl (Or.inl rfl))) (fun _ _ _ _ _ => pts_one (PW.pt (pw_or (pt_cmpR op_eq (pe_ix ix_tup (pv 12) pe_int (fun _ _ => rfl)) pe_str (nomark _)) (pw_or1 (pt_cmpR op_eq (pe_ix ix_tup (pv 19) pe_int (fun _ _ => rfl)) pe_str (nomark _)))))) (fun _ _ _ _ _ => (pe_ix ix_tup (pv 12) pe_int (fun _ _ => rfl))))
      (pss_one (ps_if (pt_mid (PW.pt (pw_and (pt_cmpR (op_neM9 hr.units) (pv 20) (pe_lst pa_nil) (nomark _)) (pw_and1 (pt_cmpR op_gt (pe_has DT (hr.mono (by omega)) rfl (pa_cons (pv 0) (pa_cons pe_int pa_nil))) pe_int (nomark _))))))
      (pss_one (ps_expr (pe_bm PySem.F.plainAttrs_list PySem.F.slot_list_append PySem.F.type_list_append mt_append (pv 14) (pa_cons (pe_tup (pa_cons pe_str (pa_cons (pe_ix ix_tup (pv 19) pe_int (fun _ _ => rfl)) (pa_cons (pe_ix ix_list (pv 20) (pe_has DT (hr.mono (by omega)) rfl (pa_cons (pv 0) (pa_cons (pe_callB call_len_seq (by rfl) G.len (by decide +kernel) (pa_cons (pv 20) pa_nil)) pa_nil))) (fun _ _ => rfl)) pa_nil)))) pa_nil))))
      (pss_one (ps_if (pt_mid (PW.pt (pw_and (pt_cmpR (op_eqD hr.units) (pe_ix ix_tup (pv 19) pe_int (fun _ _ => rfl)) pe_str (nomark _)) (pw_and1 (pt_cmpR (op_neM9 hr.units) (pv 11) (pe_lst pa_nil) (nomark _))))))
      (pss_one (ps_expr (pe_bm PySem.F.plainAttrs_list PySem.F.slot_list_append PySem.F.type_list_append mt_append (pv 14) (pa_cons (pe_tup (pa_cons pe_str (pa_cons (pe_ix ix_tup (pv 19) pe_int (fun _ _ => rfl)) (pa_cons (pe_ix ix_list (pv 11) (pe_has DT (hr.mono (by omega)) rfl (pa_cons (pv 0) (pa_cons (pe_callB call_len_seq (by rfl) G.len (by decide +kernel) (pa_cons (pv 11) pa_nil)) pa_nil))) (fun _ _ => rfl)) pa_nil)))) pa_nil))))
      (pss_one (ps_if (pt_val (pv 18))
      (pss_one (ps_expr (pe_bm PySem.F.plainAttrs_list PySem.F.slot_list_append PySem.F.type_list_append mt_append (pv 14) (pa_cons (pe_tup (pa_cons pe_str (pa_cons (pe_ix ix_tup (pv 19) pe_int (fun _ _ => rfl)) (pa_cons pe_str pa_nil)))) pa_nil))))
      pss_nil)))))))))
      (C8.pss_cut (ps_setLc (i := 21) (own := [("_law_turn", 22)]) (g := (gName 22)) (tt := tYes) (te := tBM K "list" rPopAt (tVar 14) (tCons (tCall spTake [] E0 (tCons (tVar 0) (tCons (tCB (rLenQ K) (tCons (tVar 14) tNil)) tNil))) tNil)) rfl scRch.nd rfl rfl (sw_true rfl rfl rfl (by decide +kernel)) (pi_range1 rfl G.range (pa_cons (pe_callB call_len_seq (by rfl) G.len (by decide +kernel) (pa_cons (pv 14) pa_nil)) pa_nil)) (blkOk_by (N := nRch) (sc := defScope sRch) (by decide +kernel)) (fun _ _ _ _ _ => (pg_name (i := 22) scRch.nd rfl (Or.inl rfl))) (fun _ _ _ _ _ => pts_nil) (fun _ _ _ _ _ => (pe_bm PySem.F.plainAttrs_list PySem.F.slot_list_pop PySem.F.type_list_pop mt_popAt (pv 14) (pa_cons (pe_has DT (hr.mono (by omega)) rfl (pa_cons (pv 0) (pa_cons (pe_callB call_len_seq (by rfl) G.len (by decide +kernel) (pa_cons (pv 14) pa_nil)) pa_nil))) pa_nil))))
      (pss_cons (ps_set (i := 23) scRch.nd rfl (Or.inl rfl) (pe_ix ix_list (pe_lst (pa_cons pe_str (pa_cons pe_str pa_nil))) (pe_callTy call_int1 (by rfl) G.int (by decide +kernel) (pa_cons (pe_cmpR op_eq (pe_ix ix_tup (pv 1) pe_int (fun _ _ => rfl)) pe_str (nomark _)) pa_nil)) (fun _ _ => rfl)))
      (C8.pss_cut (ps_set (i := 21) scRch.nd rfl (Or.inl rfl) (pe_op op_cat (pe_op op_rep (pe_lst (pa_cons (pe_tup (pa_cons pe_str (pa_cons (pv 23) (pa_cons pe_str pa_nil)))) pa_nil)) (pe_callTy call_int1 (by rfl) G.int (by decide +kernel) (pa_cons (pv 18) pa_nil))) (pv 21)))
      (pss_one (ps_expr (pe_bm PySem.F.plainAttrs_list PySem.F.slot_list_append PySem.F.type_list_append mt_append (pv 2) (pa_cons (pe_tup (pa_cons (pv 3) (pa_cons (pv 4) (pa_cons (pv 5) (pa_cons (pv 6) (pa_cons (pe_callTy call_tuple_of (by rfl) G.tuple (by decide +kernel) (pa_cons (pe_slice sl_list (pv 21) po_none (po_some pe_int)) pa_nil)) pa_nil)))))) pa_nil)))))))))))))))
      (pss_one (ps_ret (pe_op op_catA (pe_slice sl_tupA (pv 1) po_none (po_some pe_int)) (pe_tup (pa_cons (pe_callTy call_tuple_of (by rfl) G.tuple (by decide +kernel) (pa_cons (pv 2) pa_nil)) pa_nil))))))), ?_⟩
    refine ⟨Nat.zero_le _, fun Fo hFo => ?_⟩
    have S0 := Same.new (H := H) (o := .lst []) hFo
    have e0 : (upd H Fo (.lst [])) Fo = some (.lst []) := upd_same
    have nFb : Fo ≠ b := new_ne hFo hB
    have b0 := hB.same S0
    have hp0 := S0 _ _ hp
    have hpc0 := S0 _ _ hpc
    generalize (upd H Fo (.lst [])) = H0 at *
    have outsW : ∀ z, FlW (flO recs z) := fun z => pw.rc.at z
    refine ⟨_, rfl, p, _, _, _, rfl, rfl, SqT.of hp0, rfl, pc, rfl, ⟨_, SqT.of hpc0⟩, ?_⟩
    refine for_tup (xs := xc) (fun i σ H' => ∃ (vs : List V) (cl : List Cw) (a3 a4 a5 a6 a7 a8 a9 a10 a11 a12 a13 a14 a15 a16 a17 a18 a19 a20 a21 a22 a23 : Option V), σ = [some (.ref b), some (.ref p), some (.ref Fo), a3, a4, a5, a6, a7, a8, a9, a10, a11, a12, a13, a14, a15, a16, a17, a18, a19, a20, a21, a22, a23] ∧ Kp b H H' ∧ Bag H' b (n + 40 * i) ∧ H' Fo = some (.lst vs) ∧ TpAll H' vs (cl.map Cw.d) ∧ cl.map Cw.nam = (cws.take i).map Cw.nam ∧ cl.map Cw.num = (cws.take i).map Cw.num ∧ ∀ c ∈ cl, CwW c ∧ RichOk own recs c ∧ ∃ c0 ∈ cws, c.ask = c0.ask ∧ c.ans = c0.ans) ?_ ?_ ?_ ?_
    · exact ⟨[], [], _, _, _, _, _, _, _, _, _, _, _, _, _, _, _, _, _, _, _, _, _, rfl, Kp.refl.same S0, b0, e0, .nil, rfl, rfl, fun c h => nomatch h⟩
    · rintro i σ H' _ ⟨vs, cl, a3, a4, a5, a6, a7, a8, a9, a10, a11, a12, a13, a14, a15, a16, a17, a18, a19, a20, a21, a22, a23, rfl, K', _⟩
      exact SqT.of (K' _ _ (tup_ne hpc hB) hpc)
    · rintro i x σ H1 hx ⟨vs, cl, a3, a4, a5, a6, a7, a8, a9, a10, a11, a12, a13, a14, a15, a16, a17, a18, a19, a20, a21, a22, a23, rfl, K1, b1, eF1, tv1, en1, eu1, ok1⟩
      obtain ⟨d, hd, td⟩ := txc.get' hx
      obtain ⟨c, hc, rfl⟩ := mapAt hd
      have hi := (List.getElem?_eq_some_iff.mp hc).1
      have cw9 := pw.cw.ok c (List.mem_of_getElem? hc)
      obtain ⟨t, e, xs, rfl, ht, he, txs⟩ := cw_at (Tp.keep (K1.tk hB) _ _ td)
      have hp1 := K1 _ _ (tup_ne hp hB) hp
      have hpr1 := K1 _ _ (frz_ne hpr hB) hpr
      have txr1 := TpAll.keep (K1.tk hB) _ _ txr
      refine ⟨t, _, rfl, SqT.of ht, rfl, _, _, rfl, _, _, rfl, _, _, rfl, _, _, rfl, _, _, rfl, rfl, ?_⟩
      try dsimp only [List.set_cons_succ, List.set_cons_zero]
      refine ⟨fun σ H' => ∃ (Li Lo : Addr) (vi vo : List V) (a10 a11 a12 a13 a14 a15 a16 a17 a18 a19 a20 a21 a22 a23 : Option V), σ = [some (.ref b), some (.ref p), some (.ref Fo), some (.int c.num), some (.str c.nam), some (.str c.ask), some (.str c.ans), some (.ref e), some (.ref Li), some (.ref Lo), a10, a11, a12, a13, a14, a15, a16, a17, a18, a19, a20, a21, a22, a23] ∧ Same H1 H' ∧ H' Li = some (.lst vi) ∧ TpAll H' vi ((flO recs c.ask).map Fl.d) ∧ H' Lo = some (.lst vo) ∧ TpAll H' vo ((flO recs c.ans).map Fl.d) ∧ H1 Li = none ∧ H1 Lo = none, ?_, ?_⟩
      · refine ⟨_, rfl, _, rfl, (by show 2 ≤ sizeLine; decide), fun t9 ht9 => ⟨t9, rfl, ⟨_, SqT.of upd_same⟩, fun Ds hDs => ?_⟩⟩
        have St := Same.new (H := H1) (o := .tup [.str c.ask, .str c.ans]) ht9
        have et : (upd H1 t9 (.tup [.str c.ask, .str c.ans])) t9 = some (.tup [.str c.ask, .str c.ans]) := upd_same
        have hpT := St _ _ hp1
        have hprT := St _ _ hpr1
        have txrT := TpAll.keep (Same.tk St) _ _ txr1
        have D9 : H1 Ds = none := St.free hDs
        generalize hH0 : (upd H1 t9 (.tup [.str c.ask, .str c.ans])) = HT at *
        refine lc_tup (xs := [V.str c.ask, .str c.ans]) (fun j H' => Same HT H' ∧ ∃ rs : List Addr, H' Ds = some (.lst (rs.map V.ref)) ∧ rs.length = j ∧ ∀ (i : Nat) (r : Addr), rs[i]? = some r → ∃ zz vs, [c.ask, c.ans][i]? = some zz ∧ H' r = some (.lst vs) ∧ TpAll H' vs ((flO recs zz).map Fl.d) ∧ HT r = none ∧ r ≠ Ds) ?_ ?_ ?_ ?_
        · exact ⟨Same.new hDs, [], upd_same, rfl, fun i r h => nomatch h⟩
        · rintro j H' _ ⟨S', _⟩
          exact SqT.of (S' _ _ et)
        · rintro j y H' hy ⟨S', rs, hD', lrs9, hrs⟩
          obtain ⟨zz, hzz, rfl⟩ := mapAt (f := V.str) (l := [c.ask, c.ans]) hy
          refine ⟨rfl, yes (iteT ?_)⟩
          obtain ⟨ps', kvs', exr', prd', ek', k1', k2'⟩ := recs_dict (K := K) (TpAll.keep (Same.tk S') _ _ txrT) pw.rc.nd
          have fews : ps'.length < 1000 := by
            have e1 := congrArg List.length exr'
            have e2 := txr.length
            rw [List.length_map] at e1
            rw [List.length_map, List.length_map] at e2
            have := pw.rc.l6
            omega
          refine ⟨_, rfl, p, _, _, _, rfl, rfl, SqT.of (S' _ _ hpT), rfl, pr, or, ps', kvs', rfl, by rw [← exr']; exact S' _ _ hprT, plr, prd', fews, fun pd hpd => ?_⟩
          rw [merge_recs pw.rc.nd ek']
          have S1 := Same.new (H := H') (o := .dK kvs') hpd
          have e1 : (upd H' pd (.dK kvs')) pd = some (.dK kvs') := upd_same
          generalize (upd H' pd (.dK kvs')) = Ha at *
          refine ⟨pd, rfl, .inl ⟨_, .inl e1⟩, _, rfl, Nat.zero_le _, fun en hen => ?_⟩
          have S2 := Same.new (H := Ha) (o := .tup []) hen
          have e2 : (upd Ha en (.tup [])) en = some (.tup []) := upd_same
          generalize (upd Ha en (.tup [])) = Hb at *
          obtain ⟨o, a', ys, hg, hv, ha', ty⟩ : ∃ (o : Option V) (a' : Addr) (ys : List V), valV kvs' (.inr zz) = o ∧ o.getD (.ref en) = .ref a' ∧ Hb a' = some (.tup ys) ∧ TpAll Hb ys ((flO recs zz).map Fl.d) := by
            by_cases hz' : zz ∈ recs.map (·.1)
            · obtain ⟨v, hv, tv'⟩ := k2' zz hz'
              obtain ⟨a', ys, rfl, ha', ty⟩ := Tp.inv (Tp.keep (Same.tk (S1.trans S2)) _ _ tv')
              exact ⟨_, a', ys, hv, rfl, ha', ty⟩
            · refine ⟨_, en, [], k1' zz hz', rfl, e2, ?_⟩
              rw [flO_none hz']
              exact .nil
          refine ⟨o, by rw [← hg]; exact DGet.k (k := .inr zz) (S2 _ _ e1), ?_⟩
          rw [hv]
          refine ⟨a', ys, rfl, .inr (SqT.of ha'), fun l hl => ?_⟩
          have S3 := Same.new (H := Hb) (o := .lst ys) hl
          have S03 := (S'.trans S1).trans (S2.trans S3)
          have S13' := (S1.trans S2).trans S3
          have hDl := S13' _ _ hD'
          have nlD : l ≠ Ds := fun e => by rw [e, (S1.trans S2) _ _ hD'] at hl; cases hl
          have el : (upd Hb l (.lst ys)) l = some (.lst ys) := upd_same
          have tyl := TpAll.keep (Same.tk S3) _ _ ty
          have l0 : HT l = none := ((S'.trans S1).trans S2).free hl
          generalize (upd Hb l (.lst ys)) = Hc at *
          have W : Tk Hc (upd Hc Ds (.lst (rs.map V.ref ++ [.ref l]))) := Tk.wr hDl
          refine ⟨_, hDl, ?_, Same.wr S03 hDs, rs ++ [l], by rw [upd_same, List.map_append]; rfl, by rw [List.length_append, lrs9]; rfl, fun i r hr => ?_⟩
          · rw [List.length_map, lrs9]
            have := (List.getElem?_eq_some_iff.mp hzz).1
            exact Nat.lt_of_lt_of_le this (show 2 ≤ sizeLine by decide)
          · by_cases hi' : i < rs.length
            · rw [List.getElem?_append_left hi'] at hr
              obtain ⟨zz', vs', q1, q2, q3, q4, q5⟩ := hrs i r hr
              exact ⟨zz', vs', q1, by rw [upd_ne q5]; exact S13' _ _ q2, TpAll.keep ((Same.tk S13').trans W) _ _ q3, q4, q5⟩
            · rw [List.getElem?_append_right (by omega)] at hr
              have hi2 : i = rs.length := by
                have := (List.getElem?_eq_some_iff.mp hr).1
                simp at this
                omega
              subst hi2
              rw [Nat.sub_self] at hr
              cases hr
              rw [← lrs9] at hzz
              exact ⟨zz, ys, hzz, by rw [upd_ne nlD]; exact el, TpAll.keep W _ _ tyl, l0, nlD⟩
        · rintro H' ⟨S', rs, hD', lrs9, hrs⟩
          match rs, lrs9 with
          | [s1, s2], _ =>
            obtain ⟨z1, v1, q1, q2, q3, q4, q5⟩ := hrs 0 s1 rfl
            obtain ⟨z2, v2, w1, w2, w3, w4, w5⟩ := hrs 1 s2 rfl
            cases q1
            cases w1
            refine ⟨Ds, _, rfl, SqL.of hD', rfl, _, _, rfl, _, _, rfl, rfl, ?_⟩
            try dsimp only [List.set_cons_succ, List.set_cons_zero]
            exact ⟨s1, s2, v1, v2, _, _, _, _, _, _, _, _, _, _, _, _, _, _, rfl, St.trans S', q2, q3, w2, w3, St.free q4, St.free w4⟩
      rintro σ H2 ⟨Li, Lo, vi, vo, a10, a11, a12, a13, a14, a15, a16, a17, a18, a19, a20, a21, a22, a23, rfl, S2, eLi, tvi, eLo, tvo, Li0, Lo0⟩
      refine ⟨fun σ H' => ∃ (Lt : Addr) (a10 a12 a13 a14 a15 a16 a17 a18 a19 a20 a21 a22 a23 : Option V), σ = [some (.ref b), some (.ref p), some (.ref Fo), some (.int c.num), some (.str c.nam), some (.str c.ask), some (.str c.ans), some (.ref e), some (.ref Li), some (.ref Lo), a10, some (.ref Lt), a12, a13, a14, a15, a16, a17, a18, a19, a20, a21, a22, a23] ∧ Same H2 H' ∧ H' Lt = some (.lst ((txL (flO recs c.ask) "text").map V.str)) ∧ H2 Lt = none, ?_, ?_⟩
      · refine ⟨_, rfl, Li, rfl, ⟨_, SqL.of eLi⟩, fun D hD => ?_⟩
        refine lc_mus (k := "text") (nm_lit (by decide +kernel)) (show 12 < 24 by decide) eLi tvi (outsW _) hD fun H' S' hD' => ?_
        try dsimp only [List.set_cons_succ, List.set_cons_zero]
        exact ⟨D, _, _, _, _, _, _, _, _, _, _, _, _, _, rfl, S', hD', hD⟩
      rintro σ H2b ⟨Lt, a10, a12, a13, a14, a15, a16, a17, a18, a19, a20, a21, a22, a23, rfl, S2b, eLt, Lt0⟩
      refine ⟨fun σ H' => ∃ (Lw : Addr) (a10 a12 a14 a15 a16 a17 a18 a19 a20 a21 a22 a23 : Option V), σ = [some (.ref b), some (.ref p), some (.ref Fo), some (.int c.num), some (.str c.nam), some (.str c.ask), some (.str c.ans), some (.ref e), some (.ref Li), some (.ref Lo), a10, some (.ref Lt), a12, some (.ref Lw), a14, a15, a16, a17, a18, a19, a20, a21, a22, a23] ∧ Same H2b H' ∧ H' Lw = some (.lst ((txL (flO recs c.ask) "whole").map V.str)) ∧ H2b Lw = none, ?_, ?_⟩
      · refine ⟨_, rfl, Li, rfl, ⟨_, SqL.of (S2b _ _ eLi)⟩, fun D hD => ?_⟩
        refine lc_mus (k := "whole") (nm_lit (by decide +kernel)) (show 12 < 24 by decide) (S2b _ _ eLi) (TpAll.keep (Same.tk S2b) _ _ tvi) (outsW _) hD fun H' S' hD' => ?_
        try dsimp only [List.set_cons_succ, List.set_cons_zero]
        exact ⟨D, _, _, _, _, _, _, _, _, _, _, _, _, rfl, S', hD', hD⟩
      rintro σ H3 ⟨Lw, a10, a12, a14, a15, a16, a17, a18, a19, a20, a21, a22, a23, rfl, S3, eLw, Lw0⟩
      have S13 := (S2.trans S2b).trans S3
      have S23 := S2b.trans S3
      have b3 := b1.same S13
      have K3 := K1.same S13
      have eLi3 := S23 _ _ eLi
      have tvi3 := TpAll.keep (Same.tk S23) _ _ tvi
      have eLo3 := S23 _ _ eLo
      have tvo3 := TpAll.keep (Same.tk S23) _ _ tvo
      have eLt3 := S3 _ _ eLt
      have hp3 := S13 _ _ hp1
      have eF3 := S13 _ _ eF1
      have nLib : Li ≠ b := new_ne Li0 b1
      have nLob : Lo ≠ b := new_ne Lo0 b1
      have nLtb : Lt ≠ b := new_ne Lt0 (b1.same S2)
      have nLwb : Lw ≠ b := new_ne Lw0 (b1.same (S2.trans S2b))
      have nFoS : ∀ {S : Addr}, H3 S = none → Fo ≠ S := fun h e => by rw [← e, eF3] at h; cases h
      refine ⟨Nat.zero_le _, fun S hS => ?_⟩
      have nSb : S ≠ b := new_ne hS b3
      have SS := Same.new (H := H3) (o := .lst []) hS
      have eS4 : (upd H3 S (.lst [])) S = some (.lst []) := upd_same
      have b4 := b3.same SS
      have K34 : Kp b H3 (upd H3 S (.lst [])) := Kp.refl.same SS
      generalize (upd H3 S (.lst [])) = H4 at *
      try dsimp only [List.set_cons_succ, List.set_cons_zero]
      have Gdef : ∀ {asked : Bool} {d : List Str}, True := trivial
      refine ⟨fun σ H' => ∃ (ss : List V) (ds : List (List Str)) (a10 a12 a15 a16 a17 a18 a19 a20 a21 a22 a23 : Option V), σ = [some (.ref b), some (.ref p), some (.ref Fo), some (.int c.num), some (.str c.nam), some (.str c.ask), some (.str c.ans), some (.ref e), some (.ref Li), some (.ref Lo), a10, some (.ref Lt), a12, some (.ref Lw), some (.ref S), a15, a16, a17, a18, a19, a20, a21, a22, a23] ∧ Kp b H3 H' ∧ Bag H' b (n + 40 * i + 5) ∧ H' S = some (.lst ss) ∧ TpAll H' ss (ds.map dD) ∧ ds.length ≤ 2 ∧ (∀ d ∈ ds, DdW d) ∧ ∀ asked, ∀ d ∈ ds, GdD own (flO recs c.ask) (flO recs c.ans) asked d, ?_, ?_⟩
      · refine ⟨fun cc H' => Kp b H4 H' ∧ Bag H' b (n + 40 * i + 1) ∧ (cc = true → txL (flO recs c.ask) "text" ≠ [] ∧ txL (flO recs c.ask) "whole" ≠ []), ?_, ?_⟩
        · have S34 : Same H3 H4 := SS
          refine ⟨_, rfl, Nat.zero_le _, fun E1 hE1 => ?_⟩
          have SE := Same.new (H := H4) (o := .lst []) hE1
          refine ⟨Lt, E1, _, rfl, rfl, SqL.of (SE _ _ (S34 _ _ eLt3)), SqL.of upd_same, _, rfl, ite2 (fun h1 => ?_) (fun _ => ⟨Kp.refl.new hE1, (b4.new hE1).mono (by omega), fun h => absurd h Bool.false_ne_true⟩)⟩
          have n1 : txL (flO recs c.ask) "text" ≠ [] := fun e => by rw [e] at h1; cases h1
          have bE := b4.same SE
          have KE : Kp b H4 (upd H4 E1 (.lst [])) := Kp.refl.same SE
          generalize (upd H4 E1 (.lst [])) = HE at *
          refine ⟨_, rfl, Nat.zero_le _, fun E2 hE2 => ?_⟩
          have SF := Same.new (H := HE) (o := .lst []) hE2
          refine ⟨Lw, E2, _, rfl, rfl, SqL.of (SF _ _ (SE _ _ (S34 _ _ eLw))), SqL.of upd_same, _, rfl, ite2 (fun h2 => ?_) (fun _ => ⟨KE.new hE2, (bE.new hE2).mono (by omega), fun h => absurd h Bool.false_ne_true⟩)⟩
          have n2 : txL (flO recs c.ask) "whole" ≠ [] := fun e => by rw [e] at h2; cases h2
          refine ⟨_, rfl, b, 2, _, rfl, by decide, by decide, bE.same SF, by omega, fun d H' d0 d1 k' b' => ⟨rfl, _, rfl, (KE.same SF).trans k', b', fun _ => ⟨n1, n2⟩⟩⟩
        rintro cc H5 ⟨k5, b5, hcc⟩
        have K35 := K34.trans k5
        have eS5 := k5 _ _ nSb eS4
        cases cc with
        | false => exact iteF ⟨[], [], _, _, _, _, _, _, _, _, _, _, _, rfl, K35, b5.mono (by omega), eS5, .nil, by decide, (fun d h => nomatch h), fun _ d h => nomatch h⟩
        | true =>
          obtain ⟨n1, n2⟩ := hcc rfl
          have l1 : 1 ≤ (txL (flO recs c.ask) "text").length := List.length_pos_iff.mpr n1
          have l2 : 1 ≤ (txL (flO recs c.ask) "whole").length := List.length_pos_iff.mpr n2
          have lm : ∀ k, (txL (flO recs c.ask) k).length ≤ 5 := fun k => by
            unfold txL
            rw [List.length_map]
            exact Nat.le_trans (List.length_filter_le _ _) (outsW _).l5
          have lm1 := lm "text"
          have lm2 := lm "whole"
          have nmx : ∀ k, ∀ z ∈ txL (flO recs c.ask) k, Nm z := fun k z hz => by
            obtain ⟨f, hf, rfl⟩ := List.mem_map.mp hz
            exact (outsW _).nm f (List.mem_filter.mp hf).1
          refine iteT ?_
          refine ⟨(by show 2 ≤ sizeLine; decide), fun p1 hp1' => ?_⟩
          have Sa := Same.new (H := H5) (o := .tup [.str "take", .str "short"]) hp1'
          have ea : (upd H5 p1 (.tup [.str "take", .str "short"])) p1 = some (.tup [.str "take", .str "short"]) := upd_same
          have ba := b5.same Sa
          have K3a := K35.same Sa
          have eSa := Sa _ _ eS5
          have n1S : p1 ≠ S := fun e => by rw [e, eS5] at hp1'; cases hp1'
          have n1b : p1 ≠ b := new_ne hp1' b5
          generalize (upd H5 p1 (.tup [.str "take", .str "short"])) = Ha at *
          refine ⟨(by show 1 ≤ sizeLine; decide), fun p2 hp2' => ?_⟩
          have Sb := Same.new (H := Ha) (o := .tup [.str "add"]) hp2'
          have eb : (upd Ha p2 (.tup [.str "add"])) p2 = some (.tup [.str "add"]) := upd_same
          have bb := ba.same Sb
          have K3b := K3a.same Sb
          have eSb := Sb _ _ eSa
          have eab := Sb _ _ ea
          have n2S : p2 ≠ S := fun e => by rw [e, eSa] at hp2'; cases hp2'
          have n2b : p2 ≠ b := new_ne hp2' ba
          generalize (upd Ha p2 (.tup [.str "add"])) = Hb at *
          refine ⟨(by show 2 ≤ sizeLine; decide), fun l hl => ?_⟩
          have Sc := Same.new (H := Hb) (o := .lst [.ref p1, .ref p2]) hl
          have ec : (upd Hb l (.lst [.ref p1, .ref p2])) l = some (.lst [.ref p1, .ref p2]) := upd_same
          have bc := bb.same Sc
          have K3c := K3b.same Sc
          have eSc := Sc _ _ eSb
          have eac := Sc _ _ eab
          have ebc := Sc _ _ eb
          have nlS : l ≠ S := fun e => by rw [e, eSb] at hl; cases hl
          have nlb : l ≠ b := new_ne hl bb
          generalize (upd Hb l (.lst [.ref p1, .ref p2])) = Hc at *
          refine ⟨l, rfl, ⟨_, SqL.of ec⟩, ?_⟩
          refine for_list (xs := [.ref p1, .ref p2]) (fun j σ H' => ∃ (ss : List V) (ds : List (List Str)) (a10 a12 a15 a16 a17 a18 a19 a20 a21 a22 a23 : Option V), σ = [some (.ref b), some (.ref p), some (.ref Fo), some (.int c.num), some (.str c.nam), some (.str c.ask), some (.str c.ans), some (.ref e), some (.ref Li), some (.ref Lo), a10, some (.ref Lt), a12, some (.ref Lw), some (.ref S), a15, a16, a17, a18, a19, a20, a21, a22, a23] ∧ Kp b H3 H' ∧ Bag H' b (n + 40 * i + 1 + 2 * j) ∧ H' S = some (.lst ss) ∧ TpAll H' ss (ds.map dD) ∧ ds.length = j ∧ (∀ d ∈ ds, DdW d) ∧ (∀ asked, ∀ d ∈ ds, GdD own (flO recs c.ask) (flO recs c.ans) asked d) ∧ H' p1 = some (.tup [.str "take", .str "short"]) ∧ H' p2 = some (.tup [.str "add"]) ∧ H' l = some (.lst [.ref p1, .ref p2])) ?_ ?_ ?_ ?_
          · exact ⟨[], [], _, _, _, _, _, _, _, _, _, _, _, rfl, K3c, bc, eSc, .nil, rfl, (fun d h => nomatch h), (fun _ d h => nomatch h), eac, ebc, ec⟩
          · rintro j σ H' _ ⟨ss, ds, a10, a12, a15, a16, a17, a18, a19, a20, a21, a22, a23, rfl, _, _, _, _, _, _, _, _, _, hl'⟩
            exact SqL.of hl'
          · rintro j x σ H' hx ⟨ss, ds, a10, a12, a15, a16, a17, a18, a19, a20, a21, a22, a23, rfl, K', b', eS', ts', ls', ok', gd', h1', h2', hl'⟩
            have hj2 : j < 2 := (List.getElem?_eq_some_iff.mp hx).1
            obtain ⟨pw9, wd, rr, rfl, hpw, hwd, nwd, hrr⟩ : ∃ (q : Addr) (w : Str) (r : List Str), x = .ref q ∧ H' q = some (.tup (.str w :: r.map V.str)) ∧ (w = "take" ∨ w = "add") ∧ Nm w ∧ (r.length ≤ 1 ∧ ∀ z ∈ r, Nm z) := by
              rcases (by omega : j = 0 ∨ j = 1) with rfl | rfl
              · cases hx
                exact ⟨p1, "take", ["short"], rfl, h1', .inl rfl, nm_lit (by decide +kernel), by decide, fun z hz => by rw [List.mem_singleton.mp hz]; exact nm_lit (by decide +kernel)⟩
              · cases hx
                exact ⟨p2, "add", [], rfl, h2', .inr rfl, nm_lit (by decide +kernel), by decide, fun z hz => nomatch hz⟩
            have nqb : pw9 ≠ b := tup_ne hpw b'
            try dsimp only [List.set_cons_succ, List.set_cons_zero]
            refine ⟨_, rfl, _, rfl, _, rfl, Lt, _, rfl, .inl (SqL.of (K' _ _ nLtb eLt3)), b, _, _, rfl, (by rw [List.length_map]; omega), (by rw [List.length_map]; omega), b', by omega, fun e1 Hx e10 e11 kx bx => ?_⟩
            obtain ⟨v1, ev, ev2, _⟩ := atI_in (xs := (txL (flO recs c.ask) "text").map V.str) e10 e11
            obtain ⟨z1, hz1, rfl⟩ := mapAt ev2
            have Kx := K'.trans kx
            refine ⟨Lt, _, _, _, rfl, rfl, SqL.of (Kx _ _ nLtb eLt3), ev, ?_⟩
            try dsimp only [List.set_cons_succ, List.set_cons_zero]
            refine ⟨_, rfl, _, rfl, _, rfl, Lw, _, rfl, .inl (SqL.of (Kx _ _ nLwb eLw)), b, _, _, rfl, (by rw [List.length_map]; omega), (by rw [List.length_map]; omega), bx, by omega, fun e2 Hy e20 e21 ky by' => ?_⟩
            obtain ⟨v2, ew, ew2, _⟩ := atI_in (xs := (txL (flO recs c.ask) "whole").map V.str) e20 e21
            obtain ⟨z2, hz2, rfl⟩ := mapAt ew2
            have Ky := Kx.trans ky
            have kxy := kx.trans ky
            refine ⟨Lw, _, _, _, rfl, rfl, SqL.of (Ky _ _ nLwb eLw), ew, ?_⟩
            try dsimp only [List.set_cons_succ, List.set_cons_zero]
            have eSy := kxy _ _ nSb eS'
            have hpy := kxy _ _ nqb hpw
            have tpw : Tp Hy (.ref pw9) (.tuple ((wd :: rr).map .str)) := .tup hpy (TpAll.strs (wd :: rr))
            refine ⟨_, rfl, .inl ⟨rfl, _, SqL.of eSy⟩, ?_⟩
            refine ⟨_, rfl, pw9, _, _, _, rfl, rfl, SqT.of hpy, at0, _, rfl, _, rfl, (by show 3 ≤ sizeLine; decide), fun q1 hq1 => ?_⟩
            obtain ⟨Sq, tq⟩ := tupNew (xs := [.str wd, .str z1, .str z2]) hq1 (.cons (.str wd) (.cons (.str z1) (.cons (.str z2) .nil)))
            generalize (upd Hy q1 (.tup [.str wd, .str z1, .str z2])) = Hq at *
            refine ⟨_, rfl, _, rfl, npT ?_⟩
            refine tpSl (lo := some ((1 : Nat) : Int)) (hi := none) (Tp.keep (Same.tk Sq) _ _ tpw) fun r2 Hr Sr tr2 => ?_
            rw [cutG_from] at tr2
            refine tpCat (Tp.keep (Same.tk Sr) _ _ tq) tr2 ?_ fun r3 Hs Ss tr3 => ?_
            · show 3 + (((wd :: rr).map PyData.str).drop 1).length ≤ 10000
              rw [List.length_drop, List.length_map, List.length_cons]
              omega
            have Sys := (Sq.trans Sr).trans Ss
            have eSs := Sys _ _ eSy
            have Ks := Ky.same Sys
            have tr3 : Tp Hs r3 (dD (wd :: z1 :: z2 :: rr)) := by
              have e : ([PyData.str wd, .str z1, .str z2] ++ ((wd :: rr).map PyData.str).drop 1) = (wd :: z1 :: z2 :: rr).map .str := rfl
              rw [e] at tr3
              exact tr3
            have W : Tk Hs (upd Hs S (.lst (ss ++ [r3]))) := Tk.wr eSs
            have T0 : Tk H' Hs := (kxy.tk b').trans (Same.tk Sys)
            have mz1 := List.mem_of_getElem? hz1
            have mz2 := List.mem_of_getElem? hz2
            refine ⟨S, _, _, rfl, rfl, eSs, ?_, ?_⟩
            · rw [ts'.length, List.length_map, ls']
              exact Nat.lt_of_lt_of_le hj2 (by decide)
            have k0s : Kp b H' Hs := kxy.same Sys
            refine ⟨ss ++ [r3], ds ++ [wd :: z1 :: z2 :: rr], _, _, _, _, _, _, _, _, _, _, _, rfl, Ks.wr hS, ((by'.same Sys).ne nSb).mono (by omega), upd_same, ?_, by rw [List.length_append, ls']; rfl, fun d hd => ?_, fun asked d hd => ?_, by rw [upd_ne n1S]; exact k0s _ _ n1b h1', by rw [upd_ne n2S]; exact k0s _ _ n2b h2', by rw [upd_ne nlS]; exact k0s _ _ nlb hl'⟩
            · rw [List.map_append]
              exact (TpAll.keep W _ _ (TpAll.keep T0 _ _ ts')).app (TpAll.one (Tp.keep W _ _ tr3))
            · rcases List.mem_append.mp hd with h | h
              · exact ok' d h
              · rw [List.mem_singleton.mp h]
                refine ⟨Nat.le_add_left 3 _, by show rr.length + 3 ≤ 4; omega, fun z hz => ?_, by
              rcases hwd with rfl | rfl
              · exact (show ("take" : Str) ∈ six by decide +kernel)
              · exact (show ("add" : Str) ∈ six by decide +kernel)⟩
                simp only [List.mem_cons] at hz
                rcases hz with rfl | rfl | rfl | hz
                · exact nwd
                · exact nmx _ _ mz1
                · exact nmx _ _ mz2
                · exact hrr.2 z hz
            · rcases List.mem_append.mp hd with h | h
              · exact gd' asked d h
              · rw [List.mem_singleton.mp h]
                exact gd_take hwd (tx_eqG (outsW _).nd mz1) (tx_eqG (outsW _).nd mz2)
          · rintro σ H' ⟨ss, ds, a10, a12, a15, a16, a17, a18, a19, a20, a21, a22, a23, rfl, K', b', eS', ts', ls', ok', gd', _⟩
            have ls2 : ds.length = 2 := ls'
            exact ⟨ss, ds, _, _, _, _, _, _, _, _, _, _, _, rfl, K', b'.mono (by show _ ≤ _; simp only [List.length_cons, List.length_nil]; omega), eS', ts', by omega, ok', gd'⟩
      rintro σ H5 ⟨ss, ds, a10, a12, a15, a16, a17, a18, a19, a20, a21, a22, a23, rfl, K5, b5, eS5, ts5, ls5, ok5, gd5⟩
      refine ⟨fun σ H' => ∃ (asked : Bool) (a10 a12 a15 a16 a17 a19 a20 a21 a22 a23 : Option V), σ = [some (.ref b), some (.ref p), some (.ref Fo), some (.int c.num), some (.str c.nam), some (.str c.ask), some (.str c.ans), some (.ref e), some (.ref Li), some (.ref Lo), a10, some (.ref Lt), a12, some (.ref Lw), some (.ref S), a15, a16, a17, some (.bl asked), a19, a20, a21, a22, a23] ∧ Kp b H5 H' ∧ Bag H' b (n + 40 * i + 6), ?_, ?_⟩
      · refine ⟨_, rfl, b, 2, _, rfl, by decide, by decide, b5, by omega, fun d H' d0 d1 k' b' => ⟨rfl, ?_⟩⟩
        try dsimp only [List.set_cons_succ, List.set_cons_zero]
        exact ⟨_, _, _, _, _, _, _, _, _, _, _, rfl, k', b'⟩
      rintro σ H6 ⟨asked, a10, a12, a15, a16, a17, a19, a20, a21, a22, a23, rfl, K56, b6⟩
      have K36 := K5.trans K56
      have eS6 := K56 _ _ nSb eS5
      have ts6 := TpAll.keep (K56.tk b5) _ _ ts5
      refine ⟨fun σ H' => ∃ (ss : List V) (ds : List (List Str)) (a10 a12 a15 a16 a17 a19 a20 a21 a22 a23 : Option V), σ = [some (.ref b), some (.ref p), some (.ref Fo), some (.int c.num), some (.str c.nam), some (.str c.ask), some (.str c.ans), some (.ref e), some (.ref Li), some (.ref Lo), a10, some (.ref Lt), a12, some (.ref Lw), some (.ref S), a15, a16, a17, some (.bl asked), a19, a20, a21, a22, a23] ∧ Kp b H3 H' ∧ Bag H' b (n + 40 * i + 6 + 2 * 5) ∧ H' S = some (.lst ss) ∧ TpAll H' ss (ds.map dD) ∧ ds.length ≤ 7 ∧ (∀ d ∈ ds, DdW d) ∧ ∀ d ∈ ds, GdD own (flO recs c.ask) (flO recs c.ans) asked d, ?_, ?_⟩
      · obtain ⟨PvF, hPv⟩ : ∃ PvF : Nat → L2.St → Hp → Prop, PvF = fun j σ H' => ∃ (ss : List V) (ds : List (List Str)) (a10 a12 a15 a16 a17 a19 a20 a21 a22 a23 : Option V), σ = [some (.ref b), some (.ref p), some (.ref Fo), some (.int c.num), some (.str c.nam), some (.str c.ask), some (.str c.ans), some (.ref e), some (.ref Li), some (.ref Lo), a10, some (.ref Lt), a12, some (.ref Lw), some (.ref S), a15, a16, a17, some (.bl asked), a19, a20, a21, a22, a23] ∧ Kp b H3 H' ∧ Bag H' b (n + 40 * i + 6 + 2 * j) ∧ H' S = some (.lst ss) ∧ TpAll H' ss (ds.map dD) ∧ ds.length ≤ 2 + j ∧ (∀ d ∈ ds, DdW d) ∧ ∀ d ∈ ds, GdD own (flO recs c.ask) (flO recs c.ans) asked d := ⟨_, rfl⟩
        have lvo : vo.length = (flO recs c.ans).length := by rw [tvo3.length, List.length_map]
        have lans := (outsW c.ans).l5
        have last_ := (outsW c.ask).l5
        refine ⟨_, rfl, Lo, rfl, ⟨_, SqL.of (K36 _ _ nLob eLo3)⟩, ?_⟩
        refine for_list (xs := vo) PvF ?_ ?_ ?_ ?_
        · rw [hPv]
          exact ⟨ss, ds, _, _, _, _, _, _, _, _, _, _, rfl, K36, b6, eS6, ts6, by omega, ok5, gd5 asked⟩
        · intro j σ H' _ hP
          rw [hPv] at hP
          obtain ⟨ss, ds, a10, a12, a15, a16, a17, a19, a20, a21, a22, a23, rfl, K', _⟩ := hP
          exact SqL.of (K' _ _ nLob eLo3)
        · intro j x σ Hj hx hP
          rw [hPv] at hP
          obtain ⟨ss, ds, a10, a12, a15, a16, a17, a19, a20, a21, a22, a23, rfl, Kj, bj, eSj, tsj, lsj, okj, gdj⟩ := hP
          obtain ⟨dd, hdd, tdd⟩ := tvo3.get' hx
          obtain ⟨g, hg, rfl⟩ := mapAt hdd
          have hgm := List.mem_of_getElem? hg
          have hj5 : j < 5 := by
            have := (List.getElem?_eq_some_iff.mp hg).1
            omega
          have tg := Tp.keep (Kj.tk b3) _ _ tdd
          obtain ⟨g4, y1, y2, y3, y4, rfl, hg4, u1, u2, u3, u4⟩ := Tp.four tg
          rw [u1.iint, u2.istr, u4.istr] at hg4
          have ng4 : g4 ≠ b := tup_ne hg4 bj
          have eLij := Kj _ _ nLib eLi3
          have tvij := TpAll.keep (Kj.tk b3) _ _ tvi3
          have eLtj := Kj _ _ nLtb eLt3
          have shk : ∀ f ∈ flO recs c.ask, SeqAt.shaped f.kd.d = true := (outsW c.ask).ok.sh
          have shg : SeqAt.shaped g.kd.d = true := (outsW c.ans).ok.sh g hgm
          try dsimp only [List.set_cons_succ, List.set_cons_zero]
          have fin : ∀ (HX : Hp) (r : V) (d : List Str) (a10 a12 a20 : Option V), Kp b Hj HX → Bag HX b (n + 40 * i + 6 + 2 * j + 2) → Tp HX r (dD d) → (DdW d) → GdD own (flO recs c.ask) (flO recs c.ans) asked d →
              rAppend (.ref S) [r] HX fun _ H' => PvF (j + 1) [some (.ref b), some (.ref p), some (.ref Fo), some (.int c.num), some (.str c.nam), some (.str c.ask), some (.str c.ans), some (.ref e), some (.ref Li), some (.ref Lo), a10, some (.ref Lt), a12, some (.ref Lw), some (.ref S), a15, a16, a17, some (.bl asked), some (.ref g4), a20, a21, a22, a23] H' := fun HX r d a10 a12 a20 kX bX tX okX gdX => by
            have eSX := kX _ _ nSb eSj
            have W : Tk HX (upd HX S (.lst (ss ++ [r]))) := Tk.wr eSX
            refine ⟨S, _, _, rfl, rfl, eSX, ?_, ?_⟩
            · rw [tsj.length, List.length_map]
              exact Nat.lt_of_le_of_lt (show _ ≤ 10 by omega) (by decide)
            rw [hPv]
            refine ⟨ss ++ [r], ds ++ [d], _, _, _, _, _, _, _, _, _, _, rfl, (Kj.trans kX).wr hS, (bX.ne nSb).mono (by omega), upd_same, ?_, by rw [List.length_append]; show _ + 1 ≤ _; omega, fun d' hd' => ?_, fun d' hd' => ?_⟩
            · rw [List.map_append]
              exact (TpAll.keep W _ _ (TpAll.keep (kX.tk bj) _ _ tsj)).app (TpAll.one (Tp.keep W _ _ tX))
            · rcases List.mem_append.mp hd' with h | h
              · exact okj d' h
              · rw [List.mem_singleton.mp h]; exact okX
            · rcases List.mem_append.mp hd' with h | h
              · exact gdj d' h
              · rw [List.mem_singleton.mp h]; exact gdX
          refine ⟨fun σ H' => ∃ (Lf : Addr) (zs : List V) (a12 : Option V), σ = [some (.ref b), some (.ref p), some (.ref Fo), some (.int c.num), some (.str c.nam), some (.str c.ask), some (.str c.ans), some (.ref e), some (.ref Li), some (.ref Lo), a10, some (.ref Lt), a12, some (.ref Lw), some (.ref S), a15, a16, a17, some (.bl asked), some (.ref g4), some (.ref Lf), a21, a22, a23] ∧ Same Hj H' ∧ H' Lf = some (.lst zs) ∧ TpAll H' zs (((flO recs c.ask).filter fun f => PyData.eqv f.kd.d g.kd.d).map Fl.d), ?_, ?_⟩
          · refine ⟨_, rfl, Li, rfl, ⟨_, SqL.of eLij⟩, fun D hD => ?_⟩
            refine lcG_list (xs := vi) (l := flO recs c.ask) (dx := Fl.d) (val := Fl.d) (keep := fun f => PyData.eqv f.kd.d g.kd.d) (fun H' S => SqL.of (S _ _ eLij)) tvij (Nat.lt_of_le_of_lt last_ (by decide)) hD ?_ ?_
            · intro k f x H' hk S' tf N M hN hM
              obtain ⟨t4, x1, x2, x3, x4, rfl, h4, t1, t2, t3', t4'⟩ := Tp.four tf
              have hg' := S' _ _ hg4
              refine ⟨rfl, _, rfl, t4, _, _, _, rfl, rfl, SqT.of h4, rfl, _, rfl, g4, _, _, _, rfl, rfl, SqT.of hg', rfl, f.kd.d, g.kd.d, Tp.dp _ _ t3', Tp.dp _ _ (Tp.keep (Same.tk S') _ _ u3), shk f (List.mem_of_getElem? hk), shg, _, rfl, ?_⟩
              cases hkp : PyData.eqv f.kd.d g.kd.d with
              | false => exact iteF (hN hkp _ (Same.refl _))
              | true => exact iteT ⟨_, rfl, hM hkp _ _ (Same.refl _) tf⟩
            intro H' zs S' hD' tz
            try dsimp only [List.set_cons_succ, List.set_cons_zero]
            exact ⟨D, zs, _, rfl, S', hD', tz⟩
          rintro σ Hf ⟨Lf, zs, a12, rfl, Sf, eLf, tzf⟩
          refine ⟨fun σ H' => ∃ (Lg : Addr) (a12 : Option V), σ = [some (.ref b), some (.ref p), some (.ref Fo), some (.int c.num), some (.str c.nam), some (.str c.ask), some (.str c.ans), some (.ref e), some (.ref Li), some (.ref Lo), a10, some (.ref Lt), a12, some (.ref Lw), some (.ref S), a15, a16, a17, some (.bl asked), some (.ref g4), some (.ref Lg), a21, a22, a23] ∧ Same Hf H' ∧ H' Lg = some (.lst (((((flO recs c.ask).filter fun f => PyData.eqv f.kd.d g.kd.d).filter fun f => f.must || !g.must).map Fl.nam).map V.str)) ∧ Hf Lg = none, ?_, ?_⟩
          · refine ⟨_, rfl, Lf, rfl, ⟨_, SqL.of eLf⟩, fun D hD => ?_⟩
            refine lcG_list (xs := zs) (l := (flO recs c.ask).filter fun f => PyData.eqv f.kd.d g.kd.d) (dx := Fl.d) (val := fun f => .str f.nam) (keep := fun f => f.must || !g.must) (fun H' S => SqL.of (S _ _ eLf)) tzf (Nat.lt_of_le_of_lt (Nat.le_trans (List.length_filter_le _ _) last_) (by decide)) hD ?_ ?_
            · intro k f x H' hk S' tf N M hN hM
              obtain ⟨t4, x1, x2, x3, x4, rfl, h4, t1, t2, t3', t4'⟩ := Tp.four tf
              rw [t2.istr, t4'.istr] at h4
              have hg' := (Sf.trans S') _ _ hg4
              have fi : (f.must || !g.must) = true → ∃ v, ((List.set (wipe [some (.ref b), some (.ref p), some (.ref Fo), some (.int c.num), some (.str c.nam), some (.str c.ask), some (.str c.ans), some (.ref e), some (.ref Li), some (.ref Lo), a10, some (.ref Lt), a12, some (.ref Lw), some (.ref S), a15, a16, a17, some (.bl asked), some (.ref g4), some (.ref Lf), a21, a22, a23] [12]) 12 (some (V.ref t4)))[12]? = some (some v)) ∧ ∃ (q : Addr) (xs : List V) (k : Int) (y : V), v = .ref q ∧ V.int 1 = .int k ∧ SqT K H' q xs ∧ atI xs k = some y ∧ M y H' := fun h => ⟨_, rfl, t4, _, 1, _, rfl, rfl, SqT.of h4, rfl, hM h _ _ (Same.refl _) (.str _)⟩
              refine ⟨rfl, _, rfl, t4, _, _, _, rfl, rfl, SqT.of h4, rfl, rfl, _, rfl, ?_⟩
              rw [need_must]
              cases hm1 : f.must with
              | true => exact iteT (iteT (fi (by rw [hm1]; rfl)))
              | false =>
                refine iteF ?_
                refine ⟨_, rfl, g4, _, _, _, rfl, rfl, SqT.of hg', rfl, rfl, _, rfl, ?_⟩
                rw [need_may]
                cases hm2 : g.must with
                | true => exact iteF (hN (by simp only [hm1, hm2]; rfl) _ (Same.refl _))
                | false => exact iteT (fi (by rw [hm1, hm2]; rfl))
            intro H' zs' S' hD' tz
            have ez := tp_strsM tz
            subst ez
            try dsimp only [List.set_cons_succ, List.set_cons_zero]
            exact ⟨D, _, rfl, S', hD', hD⟩
          rintro σ Hg ⟨Lg, a12, rfl, Sg, eLg, Lg0⟩
          have Sjg := Sf.trans Sg
          have bg := bj.same Sjg
          have nLgb : Lg ≠ b := new_ne Lg0 (bj.same Sf)
          obtain ⟨fit, hfit⟩ : ∃ fit, fit = ((((flO recs c.ask).filter fun f => PyData.eqv f.kd.d g.kd.d).filter fun f => f.must || !g.must).map Fl.nam) := ⟨_, rfl⟩
          rw [← hfit] at eLg
          have lfit : fit.length ≤ 5 := by
            rw [hfit, List.length_map]
            exact Nat.le_trans (List.length_filter_le _ _) (Nat.le_trans (List.length_filter_le _ _) last_)
          refine ⟨fun cc H' => Kp b Hg H' ∧ Bag H' b (n + 40 * i + 6 + 2 * j + 1) ∧ (cc = true → fit ≠ []), ?_, ?_⟩
          · refine ⟨_, rfl, Nat.zero_le _, fun E1 hE1 => ?_⟩
            have SE := Same.new (H := Hg) (o := .lst []) hE1
            refine ⟨Lg, E1, _, rfl, rfl, SqL.of (SE _ _ eLg), SqL.of upd_same, _, rfl, ite2 (fun h1 => ?_) (fun _ => ⟨Kp.refl.new hE1, (bg.new hE1).mono (by omega), fun h => absurd h Bool.false_ne_true⟩)⟩
            have n1 : fit ≠ [] := fun e => by rw [e] at h1; cases h1
            exact ⟨_, rfl, b, 3, _, rfl, by decide, by decide, bg.same SE, by omega, fun d H' d0 d1 k' b' => ⟨_, _, rfl, rfl, _, rfl, (Kp.refl.same SE).trans k', b', fun _ => n1⟩⟩
          rintro cc Hh ⟨kh, bh, hcc⟩
          have kjh : Kp b Hj Hh := (Kp.refl.same Sjg).trans kh
          have hg4h := kjh _ _ ng4 hg4
          have eSh := kjh _ _ nSb eSj
          cases cc with
          | true =>
            have fne := hcc rfl
            have lfp : 1 ≤ fit.length := List.length_pos_iff.mpr fne
            refine iteT ?_
            refine ⟨_, rfl, .inl ⟨rfl, _, SqL.of eSh⟩, ?_⟩
            have eLgh := kh _ _ nLgb eLg
            refine ⟨_, rfl, g4, _, _, _, rfl, rfl, SqT.of hg4h, rfl, _, rfl, _, rfl, _, rfl, Lg, _, rfl, .inl (SqL.of eLgh), b, _, _, rfl, (by rw [List.length_map]; omega), (by rw [List.length_map]; omega), bh, by omega, fun e1 Hx e10 e11 kx bx => ?_⟩
            obtain ⟨v1, ev, ev2, _⟩ := atI_in (xs := fit.map V.str) e10 e11
            obtain ⟨z, hz, rfl⟩ := mapAt ev2
            have mz := List.mem_of_getElem? hz
            rw [hfit] at mz
            obtain ⟨f, hf, rfl⟩ := List.mem_map.mp mz
            obtain ⟨hf, hf2⟩ := List.mem_filter.mp hf
            obtain ⟨hf, hf1⟩ := List.mem_filter.mp hf
            refine ⟨Lg, _, _, _, rfl, rfl, SqL.of (kx _ _ nLgb eLgh), ev, (by show 3 ≤ sizeLine; decide), fun q1 hq1 => ?_⟩
            obtain ⟨Sq, tq⟩ := tupNew (xs := [.str "copy", .str g.nam, .str f.nam]) hq1 (.cons (.str "copy") (.cons (.str g.nam) (.cons (.str f.nam) .nil)))
            refine fin _ _ [("copy" : Str), g.nam, f.nam] _ _ _ ((kjh.trans kx).same Sq) ((bx.same Sq).mono (by omega)) tq ⟨Nat.le_refl 3, by show 3 ≤ 4; decide, fun z hz => ?_, (show ("copy" : Str) ∈ six by decide +kernel)⟩ (gd_copy (outsW _).nd (outsW _).nd hgm hf ?_)
            · simp only [List.mem_cons, List.not_mem_nil, or_false] at hz
              rcases hz with rfl | rfl | rfl
              · exact nm_lit (by decide +kernel)
              · exact (outsW _).nm g hgm
              · exact (outsW _).nm f hf
            · show (PyData.eqv g.kd.d f.kd.d && (f.must || !g.must)) = true
              have hf1 : PyData.eqv f.kd.d g.kd.d = true := hf1
              have hf2 : (f.must || !g.must) = true := hf2
              rw [kd_comm, hf1, hf2]
              rfl
          | false =>
            refine iteF ?_
            refine ⟨fun cc H' => Same Hh H' ∧ (cc = true → PyData.eqv g.kd.d (.str "whole") = true ∧ txL (flO recs c.ask) "text" ≠ []), ?_, ?_⟩
            · refine ⟨_, rfl, g4, _, _, _, rfl, rfl, SqT.of hg4h, rfl, g.kd.d, .str "whole", Tp.dp _ _ (Tp.keep (kjh.tk bj) _ _ u3), .str _, shg, (nm_shQ (nm_lit (by decide +kernel))).shaped (by decide), _, rfl, ?_⟩
              cases hw : PyData.eqv g.kd.d (.str "whole") with
              | false => exact iteF ⟨Same.refl _, fun h => absurd h Bool.false_ne_true⟩
              | true =>
                refine iteT ⟨_, rfl, Nat.zero_le _, fun E1 hE1 => ?_⟩
                have SE := Same.new (H := Hh) (o := .lst []) hE1
                refine ⟨Lt, E1, _, rfl, rfl, SqL.of (SE _ _ (kjh _ _ nLtb eLtj)), SqL.of upd_same, _, rfl, SE, fun h1 => ⟨rfl, fun e => ?_⟩⟩
                rw [e] at h1
                cases h1
            rintro cc Hi ⟨Si, hcc⟩
            have kji := kjh.same Si
            have bi := bh.same Si
            have hg4i := kji _ _ ng4 hg4
            have eSi := kji _ _ nSb eSj
            cases cc with
            | true =>
              obtain ⟨hw, tne⟩ := hcc rfl
              have ltp : 1 ≤ (txL (flO recs c.ask) "text").length := List.length_pos_iff.mpr tne
              have ltm : (txL (flO recs c.ask) "text").length ≤ 5 := by
                unfold txL
                rw [List.length_map]
                exact Nat.le_trans (List.length_filter_le _ _) last_
              refine iteT ?_
              refine ⟨_, rfl, .inl ⟨rfl, _, SqL.of eSi⟩, ?_⟩
              have eLti := kji _ _ nLtb eLtj
              refine ⟨_, rfl, g4, _, _, _, rfl, rfl, SqT.of hg4i, rfl, _, rfl, _, rfl, _, rfl, Lt, _, rfl, .inl (SqL.of eLti), b, _, _, rfl, (by rw [List.length_map]; omega), (by rw [List.length_map]; omega), bi, by omega, fun e1 Hx e10 e11 kx bx => ?_⟩
              obtain ⟨v1, ev, ev2, _⟩ := atI_in (xs := (txL (flO recs c.ask) "text").map V.str) e10 e11
              obtain ⟨z, hz, rfl⟩ := mapAt ev2
              have mz := List.mem_of_getElem? hz
              have nz : Nm z := by
                obtain ⟨f, hf, rfl⟩ := List.mem_map.mp mz
                exact (outsW _).nm f (List.mem_filter.mp hf).1
              refine ⟨Lt, _, _, _, rfl, rfl, SqL.of (kx _ _ nLtb eLti), ev, (by show 3 ≤ sizeLine; decide), fun q1 hq1 => ?_⟩
              obtain ⟨Sq, tq⟩ := tupNew (xs := [.str "tell", .str g.nam, .str z]) hq1 (.cons (.str "tell") (.cons (.str g.nam) (.cons (.str z) .nil)))
              refine fin _ _ [("tell" : Str), g.nam, z] _ _ _ ((kji.trans kx).same Sq) ((bx.same Sq).mono (by omega)) tq ⟨Nat.le_refl 3, by show 3 ≤ 4; decide, fun y hy => ?_, (show ("tell" : Str) ∈ six by decide +kernel)⟩ (gd_tell (outsW _).nd hgm hw (tx_eqG (outsW _).nd mz))
              simp only [List.mem_cons, List.not_mem_nil, or_false] at hy
              rcases hy with rfl | rfl | rfl
              · exact nm_lit (by decide +kernel)
              · exact (outsW _).nm g hgm
              · exact nz
            | false =>
              refine iteF ?_
              refine ⟨_, rfl, asked, rfl, ?_⟩
              cases hA : asked with
              | false =>
                refine iteF ?_
                rw [hPv]
                rw [hA] at gdj
                exact ⟨ss, ds, _, _, _, _, _, _, _, _, _, _, by rw [hA], Kj.trans kji, bi.mono (by omega), eSi, TpAll.keep (kji.tk bj) _ _ tsj, by omega, okj, by rw [hA]; exact gdj⟩
              | true =>
                refine iteT ?_
                refine ⟨_, rfl, .inl ⟨rfl, _, SqL.of eSi⟩, ?_⟩
                refine ⟨_, rfl, g4, _, _, _, rfl, rfl, SqT.of hg4i, rfl, (by show 3 ≤ sizeLine; decide), fun q1 hq1 => ?_⟩
                obtain ⟨Sq, tq⟩ := tupNew (xs := [.str "get", .str g.nam, .str "left"]) hq1 (.cons (.str "get") (.cons (.str g.nam) (.cons (.str "left") .nil)))
                rw [hA] at fin
                refine fin _ _ [("get" : Str), g.nam, ("left" : Str)] _ _ _ (kji.same Sq) ((bi.same Sq).mono (by omega)) tq ⟨Nat.le_refl 3, by show 3 ≤ 4; decide, fun y hy => ?_, (show ("get" : Str) ∈ six by decide +kernel)⟩ (gd_get (outsW _).nd hgm)
                simp only [List.mem_cons, List.not_mem_nil, or_false] at hy
                rcases hy with rfl | rfl | rfl
                · exact nm_lit (by decide +kernel)
                · exact (outsW _).nm g hgm
                · exact nm_lit (by decide +kernel)
        · intro σ H' hP
          rw [hPv] at hP
          obtain ⟨ss, ds, a10, a12, a15, a16, a17, a19, a20, a21, a22, a23, rfl, K', b', eS', ts', ls', ok', gd'⟩ := hP
          exact ⟨ss, ds, _, _, _, _, _, _, _, _, _, _, rfl, K', b'.mono (by omega), eS', ts', by omega, ok', gd'⟩
      rintro σ H7 ⟨ss7, ds7, a10, a12, a15, a16, a17, a19, a20, a21, a22, a23, rfl, K7, b7, eS7, ts7, ls7, ok7, gd7⟩
      refine ⟨fun σ H' => ∃ (Or : Addr) (os : List V) (ds8 : List (List Str)) (a10 a12 a15 a16 a17 a19 a20 a22 a23 : Option V), σ = [some (.ref b), some (.ref p), some (.ref Fo), some (.int c.num), some (.str c.nam), some (.str c.ask), some (.str c.ans), some (.ref e), some (.ref Li), some (.ref Lo), a10, some (.ref Lt), a12, some (.ref Lw), some (.ref S), a15, a16, a17, some (.bl asked), a19, a20, some (.ref Or), a22, a23] ∧ Kp b H3 H' ∧ Bag H' b (n + 40 * i + 16 + 7) ∧ H' Or = some (.lst os) ∧ TpAll H' os (ds8.map dD) ∧ ds8.Perm ds7, ?_, ?_⟩
      · refine ⟨_, rfl, S, _, rfl, .inl (SqL.of eS7), ss7.length, rfl, by omega, ?_, fun D hD => ?_⟩
        · have := ts7.length
          rw [List.length_map] at this
          omega
        have nDb : D ≠ b := new_ne hD b7
        have nDS : D ≠ S := fun e => by rw [e, eS7] at hD; cases hD
        have D0 : H3 D = none := K7.free b7.at hD
        have l7 : ss7.length = ds7.length := by rw [ts7.length, List.length_map]
        refine lc_range (lo := 0) (n := ss7.length) (fun j H' => Kp b H3 H' ∧ Bag H' b (n + 40 * i + 16 + j) ∧ ∃ (os ss : List V) (dl dr : List (List Str)), H' D = some (.lst os) ∧ H' S = some (.lst ss) ∧ TpAll H' os (dl.map dD) ∧ TpAll H' ss (dr.map dD) ∧ dl.length = j ∧ (dl ++ dr).Perm ds7) ?_ ?_ ?_
        · refine ⟨K7.new hD, b7.new hD, [], ss7, [], ds7, upd_same, by rw [upd_ne (Ne.symm nDS)]; exact eS7, .nil, TpAll.keep (Tk.new hD) _ _ ts7, rfl, .refl _⟩
        · rintro j H' hj ⟨K', b', os, ss, dl, dr, eD', eS', to', ts', ldl, pm⟩
          have lpm := pm.length_eq
          rw [List.length_append] at lpm
          have lss : ss.length = dr.length := by rw [ts'.length, List.length_map]
          refine ⟨rfl, yes (iteT ?_)⟩
          try dsimp only [List.set_cons_succ, List.set_cons_zero]
          refine ⟨_, rfl, .inl ⟨rfl, _, SqL.of eS'⟩, ?_⟩
          refine ⟨_, rfl, _, rfl, S, _, rfl, .inl (SqL.of eS'), b, _, _, rfl, by omega, by omega, b', by omega, fun e1 Hx e10 e11 kx bx => ?_⟩
          have eSx := kx _ _ nSb eS'
          have eDx := kx _ _ nDb eD'
          have tsx := TpAll.keep (kx.tk b') _ _ ts'
          obtain ⟨v, ev, ev2, _⟩ := atI_in (xs := ss) e10 e11
          obtain ⟨dd, hdd, tdd⟩ := tsx.get' ev2
          obtain ⟨dz, hdz, rfl⟩ := mapAt hdd
          refine ⟨S, _, e1, e1.toNat, _, rfl, rfl, eSx, by omega, by omega, ix_at e10 e11, ev2, ?_⟩
          have W1 : Tk Hx (upd Hx S (.lst (ss.eraseIdx e1.toNat))) := Tk.wr eSx
          have eD2 : (upd Hx S (.lst (ss.eraseIdx e1.toNat))) D = some (.lst os) := by rw [upd_ne nDS]; exact eDx
          have W2 : Tk (upd Hx S (.lst (ss.eraseIdx e1.toNat))) (upd (upd Hx S (.lst (ss.eraseIdx e1.toNat))) D (.lst (os ++ [v]))) := Tk.wr eD2
          refine ⟨_, eD2, ?_, ?_⟩
          · rw [to'.length, List.length_map]
            exact Nat.lt_of_le_of_lt (show _ ≤ 10 by omega) (by decide)
          refine ⟨((K'.trans kx).wr hS).wr D0, ((bx.ne nSb).ne nDb).mono (by omega), os ++ [v], ss.eraseIdx e1.toNat, dl ++ [dz], dr.eraseIdx e1.toNat, upd_same, by rw [upd_ne (Ne.symm nDS)]; exact upd_same, ?_, ?_, by rw [List.length_append, ldl]; rfl, ?_⟩
          · rw [List.map_append]
            exact (TpAll.keep (W1.trans W2) _ _ (TpAll.keep (kx.tk b') _ _ to')).app (TpAll.one (Tp.keep (W1.trans W2) _ _ tdd))
          · rw [map_eraseQ]
            exact tp_erase (TpAll.keep (W1.trans W2) _ _ tsx)
          · rw [List.append_assoc]
            exact ((erase_perm hdz).append_left dl).trans pm
        · rintro H' ⟨K', b', os, ss, dl, dr, eD', eS', to', ts', ldl, pm⟩
          have lpm := pm.length_eq
          rw [List.length_append] at lpm
          have dr0 : dr = [] := List.eq_nil_of_length_eq_zero (by omega)
          subst dr0
          rw [List.append_nil] at pm
          try dsimp only [List.set_cons_succ, List.set_cons_zero]
          exact ⟨D, os, dl, _, _, _, _, _, _, _, _, _, rfl, K', b'.mono (by omega), eD', to', pm⟩
      rintro σ H8 ⟨Or, os, ds8, a10, a12, a15, a16, a17, a19, a20, a22, a23, rfl, K8, b8, eO8, to8, pm8⟩
      have hp8 := K8 _ _ (tup_ne hp3 b3) hp3
      refine ⟨(by show 2 ≤ sizeLine; decide), fun l9 hl9 => ?_⟩
      have S9 := Same.new (H := H8) (o := .lst [.str "bank", .str "shop"]) hl9
      have e9 : (upd H8 l9 (.lst [.str "bank", .str "shop"])) l9 = some (.lst [.str "bank", .str "shop"]) := upd_same
      have b9 := b8.same S9
      have K9 := K8.same S9
      have eO9 := S9 _ _ eO8
      have to9 := TpAll.keep (Same.tk S9) _ _ to8
      generalize (upd H8 l9 (.lst [.str "bank", .str "shop"])) = H9 at *
      obtain ⟨other, hoth, hne, noth⟩ : ∃ other : Str, atI [V.str "bank", .str "shop"] (if decide (V.str own = V.str "bank") = true then 1 else 0) = some (.str other) ∧ other ≠ own ∧ Nm other := by
        by_cases h : own = "bank"
        · refine ⟨"shop", by rw [h, decide_eq_true rfl]; rfl, by rw [h]; decide +kernel, nm_lit (by decide +kernel)⟩
        · refine ⟨"bank", by rw [decide_eq_false (sne h)]; rfl, fun h2 => h h2.symm, nm_lit (by decide +kernel)⟩
      refine ⟨_, rfl, p, _, _, _, rfl, rfl, SqT.of (S9 _ _ hp8), at0, rfl, .inr ⟨_, rfl, l9, _, _, _, rfl, rfl, SqL.of e9, hoth, ?_⟩⟩
      try dsimp only [List.set_cons_succ, List.set_cons_zero]
      refine ⟨fun σ H' => ∃ (O2 : Addr) (vs2 : List V) (a10 a12 a15 a16 a17 a19 a20 a22 : Option V), σ = [some (.ref b), some (.ref p), some (.ref Fo), some (.int c.num), some (.str c.nam), some (.str c.ask), some (.str c.ans), some (.ref e), some (.ref Li), some (.ref Lo), a10, some (.ref Lt), a12, some (.ref Lw), some (.ref S), a15, a16, a17, some (.bl asked), a19, a20, some (.ref O2), a22, some (.str other)] ∧ Same H9 H' ∧ H' O2 = some (.lst vs2) ∧ TpAll H' vs2 ((askL asked other ++ ds8).map dD), ?_, ?_⟩
      · refine ⟨_, rfl, (by show 3 ≤ sizeLine; decide), fun ta hta => ?_⟩
        obtain ⟨Sa, tpa⟩ := tupNew (xs := [.str "ask", .str other, .str "pay"]) hta (.cons (.str "ask") (.cons (.str other) (.cons (.str "pay") .nil)))
        generalize (upd H9 ta (.tup [.str "ask", .str other, .str "pay"])) = Ha at *
        refine ⟨(by show 1 ≤ sizeLine; decide), fun la hla => ?_⟩
        have Sb := Same.new (H := Ha) (o := .lst [.ref ta]) hla
        have eb : (upd Ha la (.lst [.ref ta])) la = some (.lst [.ref ta]) := upd_same
        have tpb := Tp.keep (Same.tk Sb) _ _ tpa
        have S9b := Sa.trans Sb
        generalize (upd Ha la (.lst [.ref ta])) = Hb at *
        refine ⟨_, rfl, .inr ⟨asked, rfl, ?_⟩⟩
        refine ⟨la, _, _, rfl, rfl, eb, ?_, ?_, ?_, fun pr2 hpr2 => ?_⟩
        · cases asked <;> decide
        · cases asked <;> decide
        · cases asked
          · exact (show 1 * 0 ≤ sizeLine by decide)
          · exact (show 1 * 1 ≤ sizeLine by decide)
        have erep : (List.replicate (if asked = true then (1 : Int) else 0).toNat [V.ref ta]).flatten = if asked = true then [V.ref ta] else [] := by
          cases asked <;> rfl
        rw [erep]
        have Sc := Same.new (H := Hb) (o := .lst (if asked = true then [V.ref ta] else [])) hpr2
        have ec : (upd Hb pr2 (.lst (if asked = true then [V.ref ta] else []))) pr2 = some (.lst (if asked = true then [V.ref ta] else [])) := upd_same
        have S9c := S9b.trans Sc
        have tpc := Tp.keep (Same.tk Sc) _ _ tpb
        generalize (upd Hb pr2 (.lst (if asked = true then [V.ref ta] else []))) = Hc at *
        have toc := TpAll.keep (Same.tk S9c) _ _ to9
        refine ⟨_, rfl, pr2, Or, _, _, rfl, rfl, ec, S9c _ _ eO9, ?_, fun p8 hp8' => ?_⟩
        · have := toc.length
          rw [List.length_map] at this
          have l8 := pm8.length_eq
          rw [sizeLine_eq]
          cases asked
          · show 0 + os.length ≤ _
            omega
          · show 1 + os.length ≤ _
            omega
        try dsimp only [List.set_cons_succ, List.set_cons_zero]
        refine ⟨p8, _, _, _, _, _, _, _, _, _, rfl, S9c.trans (Same.new hp8'), upd_same, ?_⟩
        have tod := TpAll.keep (Tk.new (o := .lst ((if asked = true then [V.ref ta] else []) ++ os)) hp8') _ _ toc
        have tpd := Tp.keep (Tk.new (o := .lst ((if asked = true then [V.ref ta] else []) ++ os)) hp8') _ _ tpc
        rw [List.map_append]
        cases asked with
        | false => exact tod
        | true => exact (TpAll.one tpd).app tod
      rintro σ HA ⟨O2, vs2, a10, a12, a15, a16, a17, a19, a20, a22, rfl, SA, eO2, to2⟩
      have KA := K9.same SA
      have bA := b9.same SA
      have eFA := KA _ _ nFb eF3
      refine ⟨_, rfl, .inl ⟨rfl, _, SqL.of eFA⟩, ?_⟩
      refine ⟨_, rfl, _, rfl, _, rfl, _, rfl, _, rfl, npT ⟨_, rfl, ?_⟩⟩
      refine tpSlL (lo := none) (hi := some ((6 : Nat) : Int)) eO2 to2 fun r ys HB SB hr eR tR => ?_
      rw [cutG_to, ← List.map_take] at tR
      refine ⟨r, ys, rfl, .inl ⟨SqL.of eR, fun tp htp => ⟨(by show 5 ≤ sizeLine; decide), fun tc htc => ?_⟩⟩⟩
      obtain ⟨SC, tpt⟩ := tupNew (xs := ys) htp tR
      generalize (upd HB tp (.tup ys)) = HC at *
      obtain ⟨SD, tct⟩ := tupNew (xs := [.int c.num, .str c.nam, .str c.ask, .str c.ans, .ref tp]) htc (.cons (.int _) (.cons (.str _) (.cons (.str _) (.cons (.str _) (.cons tpt .nil)))))
      have SAD := (SB.trans SC).trans SD
      generalize (upd HC tc (.tup [.int c.num, .str c.nam, .str c.ask, .str c.ans, .ref tp])) = HD at *
      have eFD := SAD _ _ eFA
      have KD := KA.same SAD
      have T1D : Tk H1 HD := (Same.tk S13).trans (KD.tk b3)
      have W : Tk HD (upd HD Fo (.lst (vs ++ [.ref tc]))) := Tk.wr eFD
      have lcl : cl.length = i := by
        have e2 := congrArg List.length en1
        rw [List.length_map, List.length_map, List.length_take] at e2
        omega
      refine ⟨Fo, _, _, rfl, rfl, eFD, ?_, ?_⟩
      · rw [tv1.length, List.length_map]
        exact Nat.lt_of_le_of_lt (show _ ≤ 10 by omega) (by decide)
      have K1D : Kp b H HD := K3.trans KD
      have okc : ∀ d ∈ askL asked other ++ ds8, DdW d := fun d hd => by
        rcases List.mem_append.mp hd with h | h
        · cases asked with
          | false => cases h
          | true =>
            rw [List.mem_singleton.mp h]
            refine ⟨Nat.le_refl 3, by show 3 ≤ 4; decide, fun y hy => ?_, (show ("ask" : Str) ∈ six by decide +kernel)⟩
            simp only [List.mem_cons, List.not_mem_nil, or_false] at hy
            rcases hy with rfl | rfl | rfl
            · exact nm_lit (by decide +kernel)
            · exact noth
            · exact nm_lit (by decide +kernel)
        · exact ok7 d (pm8.mem_iff.mp h)
      refine ⟨vs ++ [.ref tc], cl ++ [⟨c.num, c.nam, c.ask, c.ans, (askL asked other ++ ds8).take 6⟩], _, _, _, _, _, _, _, _, _, _, _, _, _, _, _, _, _, _, _, _, _, rfl, K1D.wr hFo, ((bA.same SAD).ne nFb).mono (by omega), upd_same, ?_, ?_, ?_, fun c' hc' => ?_⟩
      · rw [List.map_append]
        exact (TpAll.keep W _ _ (TpAll.keep T1D _ _ tv1)).app (TpAll.one (Tp.keep W _ _ tct))
      · rw [List.map_append, en1, List.take_add_one (l := cws), hc, List.map_append]
        rfl
      · rw [List.map_append, eu1, List.take_add_one (l := cws), hc, List.map_append]
        rfl
      · rcases List.mem_append.mp hc' with h | h
        · exact ok1 c' h
        · rw [List.mem_singleton.mp h]
          refine ⟨⟨cw9.nm, cw9.na, cw9.nb, List.length_take_le _ _, fun d hd => okc d (List.mem_of_mem_take hd)⟩, fun k d hk => ?_, c, List.mem_of_getElem? hc, rfl, rfl⟩
          have hk : ((askL asked other ++ ds8).take 6)[k]? = some d := hk
          have hk6 : k < 6 := by
            have := (List.getElem?_eq_some_iff.mp hk).1
            rw [List.length_take] at this
            omega
          rw [List.getElem?_take_of_lt hk6] at hk
          show astB own (flO recs c.ask) (flO recs c.ans) d (((askL asked other ++ ds8).take 6).take k) = true
          rw [List.take_take, Nat.min_eq_left (by omega)]
          exact rich_of (fun d hd => gd7 d (pm8.mem_iff.mp hd)) hne k d hk
    · rintro σ H' ⟨vs, cl, a3, a4, a5, a6, a7, a8, a9, a10, a11, a12, a13, a14, a15, a16, a17, a18, a19, a20, a21, a22, a23, rfl, K', b', eF', tv', en', eu', ok'⟩
      rw [lxc, List.take_length] at en' eu'
      rw [lxc] at b'
      have hp' := K' _ _ (tup_ne hp hB) hp
      have hpr' := K' _ _ (frz_ne hpr hB) hpr
      have t3' := t3.keep (K'.fk hB) (K'.tk hB)
      have t4' := t4.keep (K'.fk hB) (K'.tk hB)
      refine ⟨_, rfl, npT ⟨_, rfl, ?_⟩⟩
      refine slA hp' fun r Ha Sa hr' => ?_
      have hr' : Ha r = some (.tup [.str own, .int age, v3, .ref pr]) := hr'
      refine ⟨_, rfl, Fo, _, rfl, .inl ⟨SqL.of (Sa _ _ eF'), fun tp htp => ?_⟩⟩
      obtain ⟨Sb, tpt⟩ := tupNew (xs := vs) htp (TpAll.keep (Same.tk Sa) _ _ tv')
      generalize (upd Ha tp (.tup vs)) = Hb at *
      refine ⟨(by show 1 ≤ sizeLine; decide), fun t1 ht1 => ?_⟩
      have Sc := Same.new (H := Hb) (o := .tup [.ref tp]) ht1
      have ec : (upd Hb t1 (.tup [.ref tp])) t1 = some (.tup [.ref tp]) := upd_same
      have tpc := Tp.keep (Same.tk Sc) _ _ tpt
      generalize (upd Hb t1 (.tup [.ref tp])) = Hc at *
      refine catA (Sc _ _ (Sb _ _ hr')) ec (by show 4 + 1 ≤ sizeLine; decide) fun r2 Hd Sd hr2 => ?_
      have Sad := ((Sa.trans Sb).trans Sc).trans Sd
      have lcl : cl.length ≤ 6 := by
        have e2 := congrArg List.length en'
        rw [List.length_map, List.length_map] at e2
        omega
      have cww : CwsW cl := ⟨lcl, by rw [en']; exact pw.cw.nd, fun c hc => (ok' c hc).1, by rw [eu']; exact pw.cw.rise, fun c hc => by
        have hm : c.num ∈ cl.map Cw.num := List.mem_map.mpr ⟨c, hc, rfl⟩
        rw [eu'] at hm
        obtain ⟨c2, hc2, e2⟩ := List.mem_map.mp hm
        rw [← e2]
        exact pw.cw.rg c2 hc2⟩
      exact q _ cl Hd ⟨r2, v3, .ref pr, .ref tp, rfl, hr2, t3'.keep (Same.fk Sad) (Same.tk Sad), t4'.keep (Same.fk Sad) (Same.tk Sad), Tp.keep (Same.tk Sd) _ _ tpc⟩ ⟨pw.on, pw.a1, pw.a2, pw.co, pw.rc, cww, pw.nd⟩ (fun c hc => (ok' c hc).2) (K'.same Sad) ((b'.same Sad).mono (by omega))
end
end Fh

set_option Elab.async false
set_option linter.all false
set_option maxRecDepth 100000
set_option maxHeartbeats 4000000
namespace Fh
open PySem PySem.Spec L2 PyProof.Rows
/-! ### slices and sums of tuples, held as the very objects they are -/
section
variable {X : Cx}
def rSlF (K : PySem.W.Frag) : V → Option Int → Option Int → Hp → VK → Prop := fun x lo hi H Q => ∃ a xs, x = .ref a ∧ SqT K H a xs ∧
  (HT.sIx xs.length 0 lo = 0 ∧ HT.sIx xs.length xs.length hi = xs.length → Q (.ref a) H) ∧ (¬ (HT.sIx xs.length 0 lo = 0 ∧ HT.sIx xs.length xs.length hi = xs.length) → ∀ p o, H p = none → PlainT o → Q (.ref p) (upd H p (.frz o (.tup (cutV xs lo hi)))))
theorem sl_tupF : SlR X (rSlF X.K) := by
  intro pins s σ H x v vl vu lo hi sl Q I rx hs pl pu h
  obtain ⟨a, xs, rfl, hx, q1, q2⟩ := h
  cases rx
  obtain ⟨its, r, ht, hz⟩ := I.tuple hx
  have hlen : its.toArray.size = xs.length := by rw [List.size_toArray]; exact r.length.symm
  refine ⟨"tuple", _, PyProof.Rows.slot_tuple_getitem.lookup, ht.typeIs, ?_⟩
  by_cases hw : HT.sIx xs.length 0 lo = 0 ∧ HT.sIx xs.length xs.length hi = xs.length
  · exact getItem_tuple_whole ht hs pl pu (by rw [hlen]; exact hw) ⟨.ref a, H, I, rfl, q1 hw⟩
  · refine HT.getItem_tuple_cut ht hs pl pu (by rw [hlen]; exact hw) ?_ (by rw [hlen]; exact hz)
    rw [hlen]
    refine ⟨.ref s.heap.objs.size, _, I.laid (t' := s.toks) (o := .frz _ (.tup (cutV xs lo hi))) (fun b ob q => Heap.get?_push_of_some _ q) (Nat.le_refl _) ⟨Heap.get?_push_size _ rfl, ?_⟩, rfl, q2 hw _ _ (I.hok.fresh (Nat.le_refl _)) ⟨_, _, _, rfl⟩⟩
    exact ⟨Nat.le_trans (cutV_length xs lo hi) hz, _, (r.drop (HT.sIx xs.length 0 lo)).take (HT.sIx xs.length xs.length hi - HT.sIx xs.length 0 lo), IsTup.new _ _⟩
def rCatF (K : PySem.W.Frag) : R2 := fun x y H Q => ∃ a b xs ys, x = .ref a ∧ y = .ref b ∧ SqT K H a xs ∧ SqT K H b ys ∧ xs.length + ys.length ≤ sizeLine ∧
  (xs = [] → Q (.ref b) H) ∧ (xs ≠ [] → ys = [] → Q (.ref a) H) ∧ (xs ≠ [] → ys ≠ [] → ∀ p o, H p = none → PlainT o → Q (.ref p) (upd H p (.frz o (.tup (xs ++ ys)))))
theorem op_catF : OpR X (binaryOp .Add) (rCatF X.K) := by
  intro pins s σ H x y v u Q I rx ry h
  obtain ⟨a, b, xs, ys, rfl, rfl, ha, hb, hz, q0, q1, q2⟩ := h
  cases rx
  cases ry
  obtain ⟨its, r1, p1, _⟩ := I.tuple ha
  obtain ⟨its2, r2, p2, _⟩ := I.tuple hb
  by_cases hx : xs = []
  · subst hx
    cases r1
    exact cat_tup0 p1 p2 ⟨.ref b, H, I, rfl, q0 rfl⟩
  · refine HT.cat_tup p1 p2 (fun z => hx (r1.nil_iff.mp z)) (fun z => ⟨.ref a, H, I, rfl, q1 hx (r2.nil_iff.mp z)⟩) (fun z => ?_) (by rw [← r1.length, ← r2.length]; exact hz)
    refine ⟨.ref s.heap.objs.size, _, I.laid (t' := s.toks) (o := .frz _ (.tup (xs ++ ys))) (fun b ob q => Heap.get?_push_of_some _ q) (Nat.le_refl _) ⟨Heap.get?_push_size _ rfl, ?_⟩, rfl, q2 hx (fun w => z (r2.nil_iff.mpr w)) _ _ (I.hok.fresh (Nat.le_refl _)) ⟨_, _, _, rfl⟩⟩
    exact ⟨by rw [List.length_append]; exact hz, _, r1.append r2, IsTup.new _ _⟩
/-- a cut of a tuple held so is held so, and the sum of two -/
theorem tpSlF {K : PySem.W.Frag} {H : Hp} {v : V} {ds : List PyData} {lo hi : Option Int} {Q : V → Hp → Prop} (h : TpF H v (.tuple ds)) (q : ∀ r H', Same H H' → TpF H' r (.tuple (cutG ds lo hi)) → Q r H') : rSlF K v lo hi H Q := by
  obtain ⟨a, o, xs, rfl, ha, po, tx⟩ := TpF.inv h
  refine ⟨a, xs, rfl, SqT.fz ha, fun w => ?_, fun _ p o9 hp po9 => ?_⟩
  · refine q _ H (Same.refl H) ⟨a, o, xs, _, rfl, rfl, ha, po, ?_⟩
    have t2 := TpAll.cut (lo := lo) (hi := hi) tx
    have e : cutV xs lo hi = xs := by
      unfold cutV
      rw [w.1, w.2, List.drop_zero, Nat.sub_zero, List.take_length]
    rwa [e] at t2
  · have S := Same.new (H := H) (o := .frz o9 (.tup (cutV xs lo hi))) hp
    exact q _ _ S ⟨p, o9, _, _, rfl, rfl, upd_same, po9, TpAll.keep (Same.tk S) _ _ (TpAll.cut tx)⟩
theorem tpCatF {K : PySem.W.Frag} {H : Hp} {v u : V} {ds es : List PyData} {Q : V → Hp → Prop} (h : TpF H v (.tuple ds)) (g : TpF H u (.tuple es)) (l : ds.length + es.length ≤ 10000) (q : ∀ r H', Same H H' → TpF H' r (.tuple (ds ++ es)) → Q r H') : rCatF K v u H Q := by
  obtain ⟨a, o, xs, rfl, ha, po, tx⟩ := TpF.inv h
  obtain ⟨b, o2, ys, rfl, hb, po2, ty⟩ := TpF.inv g
  have l1 := tx.length
  have l2 := ty.length
  refine ⟨a, b, xs, ys, rfl, rfl, SqT.fz ha, SqT.fz hb, Nat.le_trans (by omega) (show 10000 ≤ sizeLine by decide), fun e => ?_, fun _ e => ?_, fun _ _ p o9 hp po9 => ?_⟩
  · have e1 : ds = [] := List.eq_nil_of_length_eq_zero (by rw [← l1, e]; rfl)
    rw [e1] at q
    exact q _ H (Same.refl H) g
  · have e1 : es = [] := List.eq_nil_of_length_eq_zero (by rw [← l2, e]; rfl)
    rw [e1, List.append_nil] at q
    exact q _ H (Same.refl H) h
  · have S := Same.new (H := H) (o := .frz o9 (.tup (xs ++ ys))) hp
    exact q _ _ S ⟨p, o9, _, _, rfl, rfl, upd_same, po9, TpAll.keep (Same.tk S) _ _ (tx.app ty)⟩
end
end Fh

set_option Elab.async false
set_option linter.all false
set_option maxRecDepth 100000
set_option maxHeartbeats 4000000
namespace Fh
open PySem PySem.Spec PyProof.Rows L2
/-! ### sorted(a list of rows of ints and texts) -/
section
variable {X : Cx}
def rSortedLKx (K : PySem.W.Frag) : List V → Hp → VK → Prop := fun vs H Q => ∃ (l : Addr) (T : List Row), vs = [V.ref l] ∧ SqL K H l (T.map fun p => V.ref p.1) ∧ (∀ p ∈ T, SqT K H p.1 (p.2.map kV)) ∧ (∀ p ∈ T, ∀ q ∈ T, Cm p.2 q.2) ∧ (∀ p ∈ T, ∃ z r, p.2 = .inr z :: r) ∧ T.length < 300 ∧
  ∀ (T' : List Row) (q : Addr), T'.Perm T → (T'.map (·.2)).Pairwise (fun x y => rowLe x y = true) → H q = none → Q (.ref q) (upd H q (.lst (T'.map fun p => V.ref p.1)))
theorem cr_sortedLKx (hc : X.calm = true) (hu : X.A.units + 64 < cLine) : CallR X (.builtin "sorted") (rSortedLKx X.K) := by
  intro pins s σ H vs us Q I r h
  obtain ⟨l, T, rfl, hl, hk, cm, fst, few, q⟩ := h
  obtain ⟨its, rv, pl, _⟩ := I.list hl
  rw [Vals.ref1 r]
  have ei : its = T.map fun p => Value.ref p.1 := refs_valsK rv
  subst ei
  have tup : ∀ p ∈ T, TK X.prog X.w s.heap p.2 p.1 := fun p hp => Inv.key I (hk p hp)
  have lz : (T.map fun p => Value.ref p.1).length ≤ sizeLine := by rw [List.length_map, sizeLine_eq]; omega
  refine SrtO.sorted_ord (vs := T.map fun p => Value.ref p.1) (swoR T) pl.isList lz (fun two h1 a at1 k1 => ?_) fun out so st => ?_
  · exact rows_sortable (s := { s with heap := h1 }) at1 (fun p hp => (tup p hp).at fun o e => (k1 _ o e).2) cm fst (by rw [List.length_map] at two; omega) (by show X.A.units + 1 + 1 < cLine; omega)
  · obtain ⟨T2, p2, rfl⟩ := refs_unmap st.perm
    obtain ⟨ep, he⟩ := PyProof.Rows.sortedAll_at s.heap (T.map fun p => Value.ref p.1) (T2.map fun p => Value.ref p.1).toArray
    have l2 : (T2.map fun p => V.ref p.1).length ≤ sizeLine := by rw [List.length_map, p2.length_eq, sizeLine_eq]; omega
    have hv : Vals (T2.map fun p => V.ref p.1) (T2.map fun p => Value.ref p.1).toArray.toList := by
      rw [List.toList_toArray]
      exact vals_refsK T2
    refine ⟨.ref _, upd H (s.heap.objs.size + 1) (.lst (T2.map fun p => V.ref p.1)), I.laid (t' := s.toks) (fun _ _ => PyProof.Rows.sortedAll_old) (Nat.le_succ _) ⟨l2, (T2.map fun p => Value.ref p.1).toArray.toList, ep, hv, he⟩, rfl, q T2 _ p2 ?_ (I.hok.fresh (Nat.le_succ _))⟩
    have so : (T2.map fun p => Value.ref p.1).Pairwise fun x y => ltvR T y x = false := so
    rw [List.pairwise_map] at so ⊢
    refine so.imp_of_mem fun {x y} hx hy h => ?_
    have h : rowLt (decR T (.ref y.1)) (decR T (.ref x.1)) = false := h
    rw [decR_at tup (p2.mem_iff.mp hx), decR_at tup (p2.mem_iff.mp hy)] at h
    show (!rowLt y.2 x.2) = true
    rw [h]
    rfl
end
end Fh

set_option Elab.async false
set_option linter.all false
set_option maxRecDepth 100000
set_option maxHeartbeats 4000000
namespace Fh
open PySem L2 PyProof.Rows
/-! ### names by numbers -/
def codeS (k : Nat) (h : Str) : Str := (h ++ (⟨#[97 + k / 26]⟩ : Str)) ++ (⟨#[97 + k % 26]⟩ : Str)
def headsL : List (Str × Str × Str) := [("q", "longe", "b"), ("", "z", "x"), ("mm", "k", "prefix"), ("w", "h", "t")]
def allC (h : Str × Str × Str) : List Str := (List.range 12).map (fun k => codeS k h.1) ++ (List.range 36).map (fun k => codeS k h.2.1) ++ (List.range 7).map (fun k => codeS k h.2.2) ++ (["menu", "form", "back", "in", "out"] : List Str)
theorem abc_at15 : ∀ i, i < 26 → ("abcdefghijklmnopqrstuvwxyz" : Str).cps.toList[i]? = some (97 + i) := by decide +kernel
theorem allC_nd : ∀ h ∈ headsL, (allC h).Nodup := by decide +kernel
abbrev sCod : Stmt := top 50
abbrev nCod : List Str := ["_law_at", "_law_head", "_law_letters"]
abbrev pCod : List Str := ["_law_at", "_law_head"]
def spCod : Sp := fun vs H Q _ => ∃ (k : Nat) (h : Str), vs = [.int (k : Int), .str h] ∧ k < 40 ∧ h.length ≤ 10 ∧ Q (.str (codeS k h)) H
section
variable {P : Program} {w : World} {K : PySem.W.Frag} {mg : Str → Option Value} {base : Heap}
theorem scCod : FnScope nCod pCod (defScope sCod) := ⟨rfl, rfl, rfl, by decide +kernel, rfl, by decide +kernel, by decide +kernel⟩
theorem ok_cod {f : Addr} {fd : FuncData} (F : Fun K "_law_code" "_law_code" sCod f fd) : FnOk P w K mg base CX0 1 f fd pCod spCod := by
  refine F.ok scCod (fun vs H Q E h => ?_) (fun cdv A outer s H vs Q E hr h => ?_)
  · obtain ⟨k, h, rfl, _⟩ := h
    rfl
  · obtain ⟨k, h, rfl, hk, hh, q⟩ := h
    refine ⟨_, (pss_cons (ps_set (i := 2) scCod.nd rfl (Or.inl rfl) pe_str)
      (pss_one (ps_ret (pe_op op_add_str (pe_op op_add_str (pv 1) (pe_ix ix_str (pv 2) (pe_op op_fdiv (pv 0) pe_int) (fun _ _ => rfl))) (pe_ix ix_str (pv 2) (pe_op op_mod (pv 0) pe_int) (fun _ _ => rfl)))))), ?_⟩
    have e1 : (k : Int) / 26 = ((k / 26 : Nat) : Int) := by omega
    have e2 : (k : Int) % 26 = ((k % 26 : Nat) : Int) := by omega
    have a1 : atI ("abcdefghijklmnopqrstuvwxyz" : Str).cps.toList ((k : Int) / 26) = some (97 + k / 26) := by
      rw [e1]
      exact atI_nat (abc_at15 _ (by omega))
    have a2 : atI ("abcdefghijklmnopqrstuvwxyz" : Str).cps.toList ((k : Int) % 26) = some (97 + k % 26) := by
      rw [e2]
      exact atI_nat (abc_at15 _ (by omega))
    have l1 : (h ++ (⟨#[97 + k / 26]⟩ : Str)).length = h.length + 1 := by
      show (h.cps ++ #[97 + k / 26]).size = h.cps.size + 1
      rw [Array.size_append]
      rfl
    refine ⟨_, rfl, _, rfl, _, rfl, _, _, rfl, rfl, ⟨by decide, by decide⟩, _, _, _, rfl, rfl, (by decide +kernel), a1, _, _, rfl, rfl, ?_, _, rfl, _, rfl, _, _, rfl, rfl, (by show (0 : Int) < 26; decide), _, _, _, rfl, rfl, (by decide +kernel), a2, _, _, rfl, rfl, ?_, q⟩
    · show h.length + 1 ≤ sizeLine
      rw [sizeLine_eq]
      omega
    · rw [l1]
      show h.length + 1 + 1 ≤ sizeLine
      rw [sizeLine_eq]
      omega
end
end Fh

set_option Elab.async false
set_option linter.all false
set_option maxRecDepth 100000
set_option maxHeartbeats 4000000
namespace Fh
open PySem L2 PyProof.Rows
/-! ### named anew: what is wrong is the same, by the new names -/
def renB (β : Str → Str) : Kb → Kb
  | .rc z => .rc (β z)
  | .ch z => .ch (β z)
  | .whole => .whole
  | .truth => .truth
  | .text => .text
def renK (β : Str → Str) : Kn → Kn
  | .one b => .one (renB β b)
  | .lst b => .lst (renB β b)
def renF (β : Str → Str) (f : Fl) : Fl := ⟨f.num, β f.nam, renK β f.kd, f.must⟩
def renR (β : Str → Str) (r : Rec) : Rec := (β r.1, r.2.map (renF β))
def renD (β : Str → Str) : List Str → List Str
  | a :: b :: c :: r => if a = "ask" then a :: b :: c :: r else a :: β b :: (if a = "get" then c else β c) :: r
  | d => d
theorem renD_ask (β : Str → Str) (b c : Str) (r : List Str) : renD β (("ask" : Str) :: b :: c :: r) = ("ask" : Str) :: b :: c :: r := by
  show (if ("ask" : Str) = "ask" then (("ask" : Str) :: b :: c :: r) else (("ask" : Str) :: β b :: (if ("ask" : Str) = "get" then c else β c) :: r)) = _
  rw [if_pos rfl]
theorem renD_no (β : Str → Str) {a : Str} (h : a ≠ "ask") (b c : Str) (r : List Str) : renD β (a :: b :: c :: r) = a :: β b :: (if a = "get" then c else β c) :: r := by
  show (if a = "ask" then (a :: b :: c :: r) else (a :: β b :: (if a = "get" then c else β c) :: r)) = _
  rw [if_neg h]
theorem effD_ask (an : List Fl) (b c : Str) (r : List Str) : effD an (("ask" : Str) :: b :: c :: r) = dD (("ask" : Str) :: b :: c :: r) := by
  show (if ("ask" : Str) = "ask" then dD (("ask" : Str) :: b :: c :: r) else (if setB an "ask" b = true then PyData.tuple [.str "set", .str b] else .none)) = _
  rw [if_pos rfl]
theorem ask_set (b c : Str) (r : List Str) (z : Str) : PyData.eqv (dD (("ask" : Str) :: b :: c :: r)) (.tuple [.str "set", .str z]) = false := by
  have e : (("ask" : Str) == "set") = false := by decide +kernel
  have : PyData.eqv (dD (("ask" : Str) :: b :: c :: r)) (.tuple [.str "set", .str z]) = ((("ask" : Str) == "set") && (PyData.eqv (.str b) (.str z) && false)) := rfl
  rw [this, e]
  rfl
theorem set_ask (b c : Str) (r : List Str) (z : Str) : PyData.eqv (.tuple [.str "set", .str z]) (dD (("ask" : Str) :: b :: c :: r)) = false := by
  have e : (("set" : Str) == "ask") = false := by decide +kernel
  have : PyData.eqv (.tuple [.str "set", .str z]) (dD (("ask" : Str) :: b :: c :: r)) = ((("set" : Str) == "ask") && (PyData.eqv (.str z) (.str b) && false)) := rfl
  rw [this, e]
  rfl
theorem effD_no (an : List Fl) {a : Str} (h : a ≠ "ask") (b c : Str) (r : List Str) : effD an (a :: b :: c :: r) = if setB an a b = true then .tuple [.str "set", .str b] else .none := by
  show (if a = "ask" then dD (a :: b :: c :: r) else (if setB an a b = true then PyData.tuple [.str "set", .str b] else .none)) = _
  rw [if_neg h]
def renW (β : Str → Str) (c : Cw) : Cw := ⟨c.num, β c.nam, β c.ask, β c.ans, c.ds.map (renD β)⟩
def renKey (β : Str → Str) : Key → Key
  | .inl i => .inl i
  | .inr z => .inr (β z)
def renRow (β : Str → Str) : List Key → List Key
  | w :: r => w :: r.map (renKey β)
  | [] => []
theorem fm_ren {α α' γ γ' : Type} {ρ : α → α'} {φ : γ → γ'} {g : α → List γ} {g' : α' → List γ'} : ∀ {l : List α}, (∀ a ∈ l, g' (ρ a) = (g a).map φ) → (l.map ρ).flatMap g' = (l.flatMap g).map φ
  | [], _ => rfl
  | a :: l, h => by
    rw [List.map_cons, List.flatMap_cons, List.flatMap_cons, List.map_append, h a List.mem_cons_self, fm_ren fun x hx => h x (List.mem_cons_of_mem _ hx)]
theorem filt_ren {α α' : Type} {ρ : α → α'} {p : α → Bool} {p' : α' → Bool} : ∀ {l : List α}, (∀ a ∈ l, p' (ρ a) = p a) → (l.map ρ).filter p' = (l.filter p).map ρ
  | [], _ => rfl
  | a :: l, h => by
    rw [List.map_cons, List.filter_cons, List.filter_cons, h a List.mem_cons_self, filt_ren fun x hx => h x (List.mem_cons_of_mem _ hx)]
    cases p a <;> rfl
theorem any_ren {α α' : Type} {ρ : α → α'} {p : α → Bool} {p' : α' → Bool} : ∀ {l : List α}, (∀ a ∈ l, p' (ρ a) = p a) → (l.map ρ).any p' = l.any p
  | [], _ => rfl
  | a :: l, h => by
    rw [List.map_cons, List.any_cons, List.any_cons, h a List.mem_cons_self, any_ren fun x hx => h x (List.mem_cons_of_mem _ hx)]
theorem any_same {α : Type} {p q : α → Bool} : ∀ {l : List α}, (∀ a ∈ l, p a = q a) → l.any p = l.any q
  | [], _ => rfl
  | a :: l, h => by
    rw [List.any_cons, List.any_cons, h a List.mem_cons_self, any_same fun x hx => h x (List.mem_cons_of_mem _ hx)]
section
variable {β : Str → Str} {M : Str → Prop} (inj : ∀ x y, M x → M y → β x = β y → x = y)
include inj
theorem mem_ren {l : List Str} {z : Str} (hl : ∀ y ∈ l, M y) (hz : M z) : β z ∈ l.map β ↔ z ∈ l := by
  constructor
  · intro h
    obtain ⟨y, hy, e⟩ := List.mem_map.mp h
    rw [← inj y z (hl y hy) hz e]
    exact hy
  · intro h
    exact List.mem_map.mpr ⟨z, h, rfl⟩
theorem beq_ren {x y : Str} (hx : M x) (hy : M y) : (β x == β y) = (x == y) := by
  by_cases e : x = y
  · rw [e, beq_self_eq_true, beq_self_eq_true]
  · rw [beq_eq_false_iff_ne.mpr e, beq_eq_false_iff_ne.mpr fun h => e (inj x y hx hy h)]
theorem find_ren {fl : List Fl} {z : Str} : (∀ f ∈ fl, M f.nam) → M z → (fl.map (renF β)).find? (fun g => decide (g.nam = β z)) = (fl.find? (fun g => decide (g.nam = z))).map (renF β) := by
  induction fl with
  | nil => intro _ _; rfl
  | cons f fl ih =>
    intro hl hz
    rw [List.map_cons, List.find?_cons, List.find?_cons]
    have e : decide ((renF β f).nam = β z) = decide (f.nam = z) := decide_eq_decide.mpr ⟨fun h => inj _ _ (hl f List.mem_cons_self) hz h, fun h => by show β f.nam = β z; rw [h]⟩
    rw [e]
    cases decide (f.nam = z) with
    | true => rfl
    | false => exact ih (fun g hg => hl g (List.mem_cons_of_mem _ hg)) hz
theorem flO_ren {recs : List Rec} {z : Str} : (∀ r ∈ recs, M r.1) → M z → flO (recs.map (renR β)) (β z) = (flO recs z).map (renF β) := by
  induction recs with
  | nil => intro _ _; rfl
  | cons r recs ih =>
    intro hl hz
    have ih := ih (fun g hg => hl g (List.mem_cons_of_mem _ hg)) hz
    unfold flO at ih ⊢
    rw [List.map_cons, List.find?_cons, List.find?_cons]
    have e : decide ((renR β r).1 = β z) = decide (r.1 = z) := decide_eq_decide.mpr ⟨fun h => inj _ _ (hl r List.mem_cons_self) hz h, fun h => by show β r.1 = β z; rw [h]⟩
    rw [e]
    cases decide (r.1 = z) with
    | true => rfl
    | false => exact ih
omit inj in
theorem kd_str (k : Kn) (s : Str) : PyData.eqv (renK β k).d (.str s) = PyData.eqv k.d (.str s) := by
  cases k with
  | one b => cases b <;> rfl
  | lst b => cases b <;> rfl
def KnM (M : Str → Prop) (k : Kn) : Prop := ∀ z, k.nm = some z → M z
theorem kb_eqv {a b : Kb} (ha : ∀ z, (Kn.one a).nm = some z → M z) (hb : ∀ z, (Kn.one b).nm = some z → M z) : PyData.eqv (renB β a).d (renB β b).d = PyData.eqv a.d b.d := by
  have two : ∀ (w x y z : Str), PyData.eqv (.tuple [.str w, .str x]) (.tuple [.str y, .str z]) = ((w == y) && ((x == z) && true)) := fun _ _ _ _ => rfl
  cases a <;> cases b <;> first | rfl | skip
  · show PyData.eqv (.tuple [.str "record", .str (β _)]) (.tuple [.str "record", .str (β _)]) = PyData.eqv (.tuple [.str "record", .str _]) (.tuple [.str "record", .str _])
    rw [two, two, beq_ren inj (ha _ rfl) (hb _ rfl)]
  · show PyData.eqv (.tuple [.str "choice", .str (β _)]) (.tuple [.str "choice", .str (β _)]) = PyData.eqv (.tuple [.str "choice", .str _]) (.tuple [.str "choice", .str _])
    rw [two, two, beq_ren inj (ha _ rfl) (hb _ rfl)]
theorem kd_eqv {a b : Kn} (ha : KnM M a) (hb : KnM M b) : PyData.eqv (renK β a).d (renK β b).d = PyData.eqv a.d b.d := by
  cases a with
  | one a => cases b with
    | one b => exact kb_eqv inj ha hb
    | lst b => cases a <;> first | rfl | (show PyData.eqv (.tuple [.str _, .str (β _)]) (.tuple [.str "list", (renB β b).d]) = PyData.eqv (.tuple [.str _, .str _]) (.tuple [.str "list", b.d]); rfl)
  | lst a => cases b with
    | lst b =>
      show (("list" : Str) == "list" && (PyData.eqv (renB β a).d (renB β b).d && true)) = (("list" : Str) == "list" && (PyData.eqv a.d b.d && true))
      rw [kb_eqv inj ha hb]
    | one b => cases b <;> first | rfl | (show PyData.eqv (.tuple [.str "list", (renB β a).d]) (.tuple [.str _, .str (β _)]) = PyData.eqv (.tuple [.str "list", a.d]) (.tuple [.str _, .str _]); rfl)
def FlM (M : Str → Prop) (fl : List Fl) : Prop := ∀ f ∈ fl, M f.nam ∧ KnM M f.kd
def DdM (M : Str → Prop) : List Str → Prop
  | a :: b :: c :: _ => a ≠ "ask" → M b ∧ (a ≠ "get" → M c)
  | _ => True
theorem eqG_ren {fl : List Fl} (hl : FlM M fl) {z k : Str} (hz : M z) : eqG (fl.map (renF β)) (β z) k = eqG fl z k := by
  unfold eqG
  rw [find_ren inj (fun f hf => (hl f hf).1) hz]
  cases fl.find? (fun g => decide (g.nam = z)) with
  | none => rfl
  | some f =>
    show (PyData.eqv (renK β f.kd).d (.str k) && _) = (PyData.eqv f.kd.d (.str k) && _)
    rw [kd_str]
    rfl
theorem inN_ren {fl : List Fl} (hl : FlM M fl) {z : Str} (hz : M z) : inN (fl.map (renF β)) (β z) = inN fl z := by
  unfold inN
  rw [find_ren inj (fun f hf => (hl f hf).1) hz]
  cases fl.find? (fun g => decide (g.nam = z)) <;> rfl
theorem astB_ren {own : Str} {fl an : List Fl} (hl : FlM M fl) (ha : FlM M an) {d : List Str} {ahead ahead' : List (List Str)} (hd : DdM M d) (he : ahead'.map (fun e => V.str (e.headD "")) = ahead.map (fun e => V.str (e.headD ""))) : astB own (fl.map (renF β)) (an.map (renF β)) (renD β d) ahead' = astB own fl an d ahead := by
  match d, hd with
  | [], _ => rfl
  | [_], _ => rfl
  | [_, _], _ => rfl
  | a :: b :: c :: r, hd =>
    by_cases h4 : a = "ask"
    · subst h4
      rw [renD_ask]
      rfl
    have hd : M b ∧ (a ≠ "get" → M c) := hd h4
    rw [renD_no β h4]
    unfold astB
    dsimp only
    by_cases h1 : inV (.str a) [.str "take", .str "add"] = true
    · have ng : a ≠ "get" := fun e => by rw [e] at h1; exact absurd h1 (by decide +kernel)
      rw [if_pos h1, if_pos h1, if_neg ng, eqG_ren inj hl hd.1, eqG_ren inj hl (hd.2 ng)]
    rw [if_neg h1, if_neg h1]
    by_cases h2 : a = "tell"
    · have ng : a ≠ "get" := fun e => by rw [e] at h2; exact absurd h2 (by decide +kernel)
      rw [if_pos h2, if_pos h2, if_neg ng, find_ren inj (fun f hf => (ha f hf).1) hd.1, eqG_ren inj hl (hd.2 ng)]
      cases an.find? (fun g => decide (g.nam = b)) with
      | none => rfl
      | some f =>
        show (PyData.eqv (renK β f.kd).d (.str "whole") && _) = _
        rw [kd_str]
    rw [if_neg h2, if_neg h2]
    by_cases h3 : a = "copy"
    · have ng : a ≠ "get" := fun e => by rw [e] at h3; exact absurd h3 (by decide +kernel)
      rw [if_pos h3, if_pos h3, if_neg ng, find_ren inj (fun f hf => (ha f hf).1) hd.1, find_ren inj (fun f hf => (hl f hf).1) (hd.2 ng)]
      cases q1 : an.find? (fun g => decide (g.nam = b)) with
      | none => rfl
      | some f => cases q2 : fl.find? (fun g => decide (g.nam = c)) with
        | none => rfl
        | some g =>
          show ccB (renF β f) (renF β g) = ccB f g
          unfold ccB
          show (PyData.eqv (renK β f.kd).d (renK β g.kd).d && _) = _
          rw [kd_eqv inj (ha f (List.mem_of_find?_eq_some q1)).2 (hl g (List.mem_of_find?_eq_some q2)).2]
          rfl
    rw [if_neg h3, if_neg h3, if_neg h4, if_neg h4, inN_ren inj ha hd.1, he]
/-- what a deed sets, by the old names and by the new ones -/
theorem eff_ren {an : List Fl} (ha : FlM M an) {d : List Str} (hd : DdM M d) :
    (∃ b c r, effD an d = dD ("ask" :: b :: c :: r) ∧ effD (an.map (renF β)) (renD β d) = dD ("ask" :: b :: c :: r)) ∨ (effD an d = .none ∧ effD (an.map (renF β)) (renD β d) = .none) ∨ ∃ b, M b ∧ effD an d = .tuple [.str "set", .str b] ∧ effD (an.map (renF β)) (renD β d) = .tuple [.str "set", .str (β b)] := by
  match d, hd with
  | [], _ => exact .inr (.inl ⟨rfl, rfl⟩)
  | [_], _ => exact .inr (.inl ⟨rfl, rfl⟩)
  | [_, _], _ => exact .inr (.inl ⟨rfl, rfl⟩)
  | a :: b :: c :: r, hd =>
    by_cases h4 : a = "ask"
    · subst h4
      exact .inl ⟨b, c, r, effD_ask an b c r, by rw [renD_ask, effD_ask]⟩
    have hd : M b ∧ (a ≠ "get" → M c) := hd h4
    have e : setB (an.map (renF β)) a (β b) = setB an a b := by
      unfold setB
      rw [inN_ren inj ha hd.1]
    cases q : setB an a b with
    | false =>
      refine .inr (.inl ⟨?_, ?_⟩)
      · rw [effD_no an h4, q]
        rfl
      · rw [renD_no β h4, effD_no _ h4, e, q]
        rfl
    | true =>
      refine .inr (.inr ⟨b, hd.1, ?_, ?_⟩)
      · rw [effD_no an h4, q]
        rfl
      · rw [renD_no β h4, effD_no _ h4, e, q]
        rfl
theorem eff_eqv {an : List Fl} (ha : FlM M an) {d e : List Str} (hd : DdM M d) (he : DdM M e) : PyData.eqv (effD (an.map (renF β)) (renD β d)) (effD (an.map (renF β)) (renD β e)) = PyData.eqv (effD an d) (effD an e) := by
  have two : ∀ x z : Str, PyData.eqv (.tuple [.str "set", .str x]) (.tuple [.str "set", .str z]) = ((("set" : Str) == "set") && ((x == z) && true)) := fun _ _ => rfl
  rcases eff_ren inj ha hd with ⟨b, c, r, e1, e2⟩ | ⟨e1, e2⟩ | ⟨b, hb, e1, e2⟩ <;> rcases eff_ren inj ha he with ⟨b', c', r', e3, e4⟩ | ⟨e3, e4⟩ | ⟨b', hb', e3, e4⟩ <;> rw [e1, e2, e3, e4]
  · rw [ask_set, ask_set]
  · rfl
  · rw [set_ask, set_ask]
  · rfl
  · rw [two, two, beq_ren inj hb hb']
theorem eff_set {an : List Fl} (ha : FlM M an) {d : List Str} (hd : DdM M d) {z : Str} (hz : M z) : PyData.eqv (effD (an.map (renF β)) (renD β d)) (.tuple [.str "set", .str (β z)]) = PyData.eqv (effD an d) (.tuple [.str "set", .str z]) := by
  have two : ∀ x z : Str, PyData.eqv (.tuple [.str "set", .str x]) (.tuple [.str "set", .str z]) = ((("set" : Str) == "set") && ((x == z) && true)) := fun _ _ => rfl
  rcases eff_ren inj ha hd with ⟨b, c, r, e1, e2⟩ | ⟨e1, e2⟩ | ⟨b, hb, e1, e2⟩ <;> rw [e1, e2]
  · rw [ask_set, ask_set]
  · rfl
  · rw [two, two, beq_ren inj hb hz]
theorem eff_no {an : List Fl} (ha : FlM M an) {d : List Str} (hd : DdM M d) : isNo (effD (an.map (renF β)) (renD β d)) = isNo (effD an d) := by
  rcases eff_ren inj ha hd with ⟨b, c, r, e1, e2⟩ | ⟨e1, e2⟩ | ⟨b, hb, e1, e2⟩ <;> rw [e1, e2]
  rfl
theorem wdeR_ren {own : Str} {c : Cw} {fl an : List Fl} (hl : FlM M fl) (ha : FlM M an) (hd : ∀ d ∈ c.ds, DdM M d) : ∀ n, wdeR own (renW β c) (fl.map (renF β)) (an.map (renF β)) n = (wdeR own c fl an n).map (renRow β)
  | 0 => rfl
  | n + 1 => by
    unfold wdeR
    rw [wdeR_ren hl ha hd n, List.map_append]
    congr 1
    show (match (c.ds.map (renD β))[n]? with
      | some d => wde1 own (renW β c) (fl.map (renF β)) (an.map (renF β)) n d
      | none => []) = _
    rw [List.getElem?_map]
    cases q : c.ds[n]? with
    | none => rfl
    | some d =>
      have hm := List.mem_of_getElem? q
      show wde1 own (renW β c) (fl.map (renF β)) (an.map (renF β)) n (renD β d) = (wde1 own c fl an n d).map (renRow β)
      unfold wde1
      rw [List.map_append]
      have hh : ((renW β c).ds.take n).map (fun e => V.str (e.headD "")) = (c.ds.take n).map (fun e => V.str (e.headD "")) := by
        show ((c.ds.map (renD β)).take n).map _ = _
        rw [← List.map_take, List.map_map]
        refine List.map_congr_left fun e _ => ?_
        show V.str ((renD β e).headD "") = V.str (e.headD "")
        match e with
        | [] => rfl
        | [_] => rfl
        | [_, _] => rfl
        | a :: b :: c :: r =>
          by_cases h4 : a = "ask"
          · subst h4
            rw [renD_ask]
          · rw [renD_no β h4]
            rfl
      have ha1 : (((renW β c).ds.take n).map (effD (an.map (renF β)))).any (fun z => PyData.eqv z (effD (an.map (renF β)) (renD β d))) = ((c.ds.take n).map (effD an)).any (fun z => PyData.eqv z (effD an d)) := by
        show (((c.ds.map (renD β)).take n).map (effD (an.map (renF β)))).any _ = _
        rw [← List.map_take, List.map_map, List.any_map, List.any_map]
        refine any_same fun e h => ?_
        exact eff_eqv inj ha (hd e (List.mem_of_mem_take h)) (hd d hm)
      rw [astB_ren inj hl ha (hd d hm) hh, eff_no inj ha (hd d hm), ha1]
      congr 1
      · split <;> rfl
      · split <;> rfl
theorem unsL_ren {c : Cw} {an : List Fl} (ha : FlM M an) (hd : ∀ d ∈ c.ds, DdM M d) : unsL (renW β c) (an.map (renF β)) = (unsL c an).map (renRow β) := by
  unfold unsL unsF
  rw [filt_ren (ρ := renF β) (p := fun f : Fl => f.must) (fun _ _ => rfl)]
  rw [filt_ren (ρ := renF β) (p := unsB c an) (fun f hf => ?_)]
  · rw [List.map_map, List.map_map]
    rfl
  · unfold unsB
    congr 1
    show ((c.ds.map (renD β)).map (effD (an.map (renF β)))).any _ = _
    rw [List.map_map, List.any_map, List.any_map]
    refine any_same fun e h => ?_
    exact eff_set inj ha (hd e h) (ha f (List.mem_filter.mp hf).1).1
structure AllM (M : Str → Prop) (cs : List (Str × PyData)) (recs : List Rec) (cws : List Cw) : Prop where
  c : ∀ z ∈ cs.map (·.1), M z
  r : ∀ r ∈ recs, M r.1
  f : ∀ r ∈ recs, FlM M r.2
  w : ∀ c ∈ cws, M c.ask ∧ M c.ans ∧ ∀ d ∈ c.ds, DdM M d
variable {cs cs' : List (Str × PyData)} {recs : List Rec} {cws : List Cw} (hcs : cs'.map (·.1) = (cs.map (·.1)).map β) (A : AllM M cs recs cws)
omit inj in
theorem ren_names : ((recs.map (renR β)).map (·.1)) = (recs.map (·.1)).map β := by
  rw [List.map_map, List.map_map]
  rfl
omit inj in
theorem rD_names (l : List Rec) : (l.map rD).map (·.1) = l.map (·.1) := by
  rw [List.map_map]
  rfl
omit inj in
theorem AllM.rn (A : AllM M cs recs cws) : ∀ z ∈ recs.map (·.1), M z := fun z hz => by
  obtain ⟨r, hr, rfl⟩ := List.mem_map.mp hz
  exact A.r r hr
include hcs A
theorem nobK_ren {k : Kn} (hk : KnM M k) : nobK cs' ((recs.map (renR β)).map rD) (renK β k) = nobK cs (recs.map rD) k := by
  have b : ∀ {b : Kb}, (∀ z, (Kn.one b).nm = some z → M z) → nobB cs' ((recs.map (renR β)).map rD) (renB β b) = nobB cs (recs.map rD) b := fun {b} hb => by
    cases b with
    | rc z =>
      show (!nameIn (β z) _) = (!nameIn z _)
      unfold nameIn
      rw [rD_names, rD_names, ren_names]
      congr 1
      exact decide_eq_decide.mpr (mem_ren inj A.rn (hb z rfl))
    | ch z =>
      show (!nameIn (β z) _) = (!nameIn z _)
      unfold nameIn
      rw [hcs]
      congr 1
      exact decide_eq_decide.mpr (mem_ren inj A.c (hb z rfl))
    | _ => rfl
  cases k with
  | one k => exact b hk
  | lst k => exact b hk
def RelD (β : Str → Str) (M : Str → Prop) (D' D : Szs) : Prop := ∀ z, M z → D' (β z) = D z
theorem recSz_ren {D' D : Szs} (h : RelD β M D' D) {fl : List Fl} (hf : FlM M fl) : recSz cs' ((recs.map (renR β)).map rD) D' (fl.map (renF β)) = recSz cs (recs.map rD) D fl := by
  have nb' : ∀ k : Kn, KnM M k → nobK cs' ((recs.map (renR β)).map rD) (renK β k) = nobK cs (recs.map rD) k := fun k hk => nobK_ren inj hcs A hk
  generalize (recs.map (renR β)).map rD = rs' at *
  unfold recSz mustKs
  rw [filt_ren (ρ := renF β) (p := fun f : Fl => f.must) (fun _ _ => rfl), List.map_map, List.map_map, List.map_map]
  congr 1
  refine List.map_congr_left fun f hm => ?_
  have km := (hf f (List.mem_filter.mp hm).1).2
  show kSz cs' _ D' (renK β f.kd) = kSz cs _ D f.kd
  unfold kSz
  rw [nb' _ km]
  by_cases nb : nobK cs (recs.map rD) f.kd = true
  · rw [if_pos nb, if_pos nb]
  · rw [if_neg nb, if_neg nb]
    cases hk : f.kd with
    | lst b => rfl
    | one b => cases b with
      | rc z => exact h z (km z (by rw [hk]; rfl))
      | _ => rfl
theorem fold_ren : ∀ {l : List Rec} {D' D : Szs}, (∀ r ∈ l, r ∈ recs) → RelD β M D' D → RelD β M ((l.map (renR β)).foldl (step cs' ((recs.map (renR β)).map rD)) D') (l.foldl (step cs (recs.map rD)) D)
  | [], _, _, _, h => h
  | r :: l, D', D, hl, h => by
    have hr := hl r List.mem_cons_self
    refine fold_ren (l := l) (fun x hx => hl x (List.mem_cons_of_mem _ hx)) ?_
    intro z hz
    unfold step
    rw [show recSz cs' ((recs.map (renR β)).map rD) D' (renR β r).2 = recSz cs (recs.map rD) D r.2 from recSz_ren inj hcs A h (A.f r hr)]
    cases recSz cs (recs.map rD) D r.2 with
    | none => exact h z hz
    | some v =>
      show (if β z = β r.1 then some v else D' (β z)) = if z = r.1 then some v else D z
      by_cases e : z = r.1
      · rw [if_pos e, if_pos (by rw [e])]
      · rw [if_neg e, if_neg fun q => e (inj _ _ hz (A.r r hr) q), h z hz]
theorem turns_ren : ∀ n, RelD β M (turns cs' ((recs.map (renR β)).map rD) (recs.map (renR β)) n) (turns cs (recs.map rD) recs n)
  | 0 => fun _ _ => rfl
  | n + 1 => fold_ren inj hcs A (fun _ h => h) (turns_ren n)
omit hcs in
theorem wroC_ren {own : Str} {c : Cw} (hc : c ∈ cws) : wroC own (recs.map (renR β)) (renW β c) = (wroC own recs c).map (renRow β) := by
  obtain ⟨m1, m2, m3⟩ := A.w c hc
  have es : stoL (recs.map (renR β)) (renW β c) [(renW β c).ask, (renW β c).ans] = (stoL recs c [c.ask, c.ans]).map (renRow β) := by
    unfold stoL
    rw [show [(renW β c).ask, (renW β c).ans] = [c.ask, c.ans].map β from rfl, filt_ren (ρ := β) (p := fun z => !decide (z ∈ recs.map (·.1))) (fun z hz => ?_)]
    · rw [List.map_map, List.map_map]
      rfl
    · have mz : M z := by
        rcases List.mem_cons.mp hz with rfl | hz
        · exact m1
        · rw [List.mem_singleton.mp hz]; exact m2
      rw [ren_names]
      congr 1
      exact decide_eq_decide.mpr (mem_ren inj A.rn mz)
  have fM : ∀ z, FlM M (flO recs z) := fun z => by
    rcases flO_mem (recs := recs) (z := z) with e | ⟨r, hr, e⟩
    · rw [e]; exact fun f hf => nomatch hf
    · rw [e]; exact A.f r hr
  unfold wroC
  rw [es]
  have ee : ((stoL recs c [c.ask, c.ans]).map (renRow β)).isEmpty = (stoL recs c [c.ask, c.ans]).isEmpty := by cases stoL recs c [c.ask, c.ans] <;> rfl
  rw [ee]
  split
  · rw [show (renW β c).ask = β c.ask from rfl, show (renW β c).ans = β c.ans from rfl, flO_ren inj A.r m1, flO_ren inj A.r m2, show (renW β c).ds.length = c.ds.length from List.length_map ..]
    rw [wdeR_ren inj (fM c.ask) (fM c.ans) m3, unsL_ren inj (fM c.ans) m3, List.map_append]
  · rfl
/-- all that is wrong, by the new names -/
theorem wroL_ren {own : Str} : wroL own cs' (recs.map (renR β)) (cws.map (renW β)) = (wroL own cs recs cws).map (renRow β) := by
  unfold wroL
  rw [List.map_append, List.map_append]
  congr 1
  · congr 1
    · unfold nobL
      rw [fm_ren (ρ := renR β) (φ := fun x : List Str => match x with
        | w :: r => w :: r.map β
        | [] => []) (g := fun r : Rec => (r.2.filter fun f => nobK cs (recs.map rD) f.kd).map fun f => [("nobody" : Str), r.1, f.kd.nm.getD ""]) (fun r hr => ?_)]
      · rw [List.map_map, List.map_map]
        refine List.map_congr_left fun x _ => ?_
        cases x with
        | nil => rfl
        | cons a r =>
          show txK (a :: r.map β) = renRow β (txK (a :: r))
          unfold txK renRow
          rw [List.map_cons, List.map_map]
          show _ :: _ = _ :: (r.map Sum.inr).map (renKey β)
          rw [List.map_map]
          rfl
      · show (((r.2.map (renF β)).filter _).map _) = _
        rw [filt_ren (ρ := renF β) (p := fun f => nobK cs (recs.map rD) f.kd) (fun f hf => nobK_ren inj hcs A (A.f r hr f hf).2), List.map_map, List.map_map]
        refine List.map_congr_left fun f hf => ?_
        have hn := (List.mem_filter.mp hf).2
        show [("nobody" : Str), β r.1, (renK β f.kd).nm.getD ""] = [("nobody" : Str), β r.1, β (f.kd.nm.getD "")]
        cases hk : f.kd with
        | one b => cases b <;> first | rfl | (rw [hk] at hn; cases hn)
        | lst b => cases b <;> first | rfl | (rw [hk] at hn; cases hn)
    · unfold endL
      rw [List.length_map, filt_ren (ρ := renR β) (p := fun r : Rec => bad (turns cs (recs.map rD) recs recs.length r.1)) (fun r hr => by
        show bad (turns cs' _ _ _ (β r.1)) = _
        rw [turns_ren inj hcs A recs.length r.1 (A.r r hr)]), List.map_map, List.map_map, List.map_map, List.map_map]
      rfl
  · exact fm_ren fun c hc => wroC_ren inj A hc
end
end Fh

set_option Elab.async false
set_option linter.all false
set_option maxRecDepth 100000
set_option maxHeartbeats 4000000
namespace Fh
open PySem L2 PyProof.Rows
/-! ### tables of new names -/
def co (h : Str) : Nat → List Str → Str → Option Str
  | _, [], _ => none
  | n, y :: L, z => if z = y then some (codeS n h) else co h (n + 1) L z
def tbF (h : Str) : Nat → List Str → List (Key × V)
  | _, [] => []
  | n, y :: L => (.inr y, .str (codeS n h)) :: tbF h (n + 1) L
theorem tb_keys (h : Str) : ∀ (L : List Str) (n : Nat), (tbF h n L).map Prod.fst = L.map Sum.inr
  | [], _ => rfl
  | y :: L, n => by
    show _ :: _ = _ :: _
    rw [tb_keys h L (n + 1)]
theorem tb_val (h : Str) : ∀ (L : List Str) (n : Nat) (z : Str), valV (tbF h n L) (.inr z) = (co h n L z).map V.str
  | [], _, _ => rfl
  | y :: L, n, z => by
    show valV ((.inr y, .str (codeS n h)) :: tbF h (n + 1) L) (.inr z) = _
    unfold co
    by_cases e : z = y
    · rw [if_pos e, e, valV_pos rfl]
      rfl
    · rw [if_neg e, valV_neg (fun q => e (Sum.inr.inj q).symm)]
      exact tb_val h L (n + 1) z
theorem tb_app (h : Str) : ∀ (L : List Str) (n : Nat) (y : Str), tbF h n (L ++ [y]) = tbF h n L ++ [(.inr y, .str (codeS (n + L.length) h))]
  | [], n, y => rfl
  | x :: L, n, y => by
    show (_, _) :: tbF h (n + 1) (L ++ [y]) = ((_, _) :: tbF h (n + 1) L) ++ _
    rw [tb_app h L (n + 1) y, show n + (x :: L).length = n + 1 + L.length by rw [List.length_cons]; omega]
    rfl
/-- the names of fields, in the order of the records, each once -/
def fnS (F : List Str) (r : Rec) : List Str := F ++ (r.2.map Fl.nam).filter (fun z => !decide (z ∈ F))
def fnL (recs : List Rec) : List Str := recs.foldl fnS []
theorem fn_next {recs : List Rec} {i : Nat} {r : Rec} (h : recs[i]? = some r) : fnL (recs.take (i + 1)) = fnS (fnL (recs.take i)) r := by
  unfold fnL
  rw [List.take_add_one, h, List.foldl_append]
  rfl
theorem fnS_len (F : List Str) (r : Rec) (h : r.2.length ≤ 5) : (fnS F r).length ≤ F.length + 5 := by
  unfold fnS
  rw [List.length_append]
  have := List.length_filter_le (fun z => !decide (z ∈ F)) (r.2.map Fl.nam)
  rw [List.length_map] at this
  omega
theorem fnS_nd {F : List Str} {r : Rec} (h : F.Nodup) (g : (r.2.map Fl.nam).Nodup) : (fnS F r).Nodup := by
  unfold fnS
  refine List.nodup_append.mpr ⟨h, List.Nodup.sublist List.filter_sublist g, fun x hx y hy e => ?_⟩
  have := (List.mem_filter.mp hy).2
  rw [← e, decide_eq_true hx] at this
  cases this
theorem fn_fold : ∀ {l : List Rec} {F : List Str}, (∀ r ∈ l, FlW r.2) → F.Nodup → (l.foldl fnS F).Nodup ∧ (l.foldl fnS F).length ≤ F.length + 5 * l.length ∧ ∀ z, z ∈ l.foldl fnS F ↔ z ∈ F ∨ ∃ r ∈ l, z ∈ r.2.map Fl.nam
  | [], F, _, nd => ⟨nd, by show F.length ≤ _; omega, fun z => ⟨.inl, fun h => h.elim id fun ⟨_, h, _⟩ => nomatch h⟩⟩
  | r :: l, F, h, nd => by
    have hr := h r List.mem_cons_self
    obtain ⟨a, b, c⟩ := fn_fold (l := l) (fun x hx => h x (List.mem_cons_of_mem _ hx)) (fnS_nd nd hr.nd)
    have := fnS_len F r hr.l5
    refine ⟨a, by rw [List.length_cons]; show (l.foldl fnS (fnS F r)).length ≤ _; omega, fun z => ?_⟩
    show z ∈ l.foldl fnS (fnS F r) ↔ _
    rw [c z]
    unfold fnS
    rw [List.mem_append, List.mem_filter]
    constructor
    · rintro ((h | h) | ⟨x, hx, h⟩)
      · exact .inl h
      · exact .inr ⟨r, List.mem_cons_self, h.1⟩
      · exact .inr ⟨x, List.mem_cons_of_mem _ hx, h⟩
    · rintro (h5 | ⟨x, hx, h5⟩)
      · exact .inl (.inl h5)
      · rcases List.mem_cons.mp hx with e | hx
        · by_cases hz : z ∈ F
          · exact .inl (.inl hz)
          · exact .inl (.inr ⟨by rw [← e]; exact h5, by rw [decide_eq_false hz]; rfl⟩)
        · exact .inr ⟨x, hx, h5⟩
theorem nd_inr {L : List Str} (h : L.Nodup) : (L.map (Sum.inr : Str → Key)).Nodup := by
  rw [List.Nodup, List.pairwise_map]
  exact List.Pairwise.imp (fun h e => h (Sum.inr.inj e)) h
/-- names with their codes, as a table is made of them -/
theorem enum_tab {K : PySem.W.Frag} {H : Hp} {h : Str} : ∀ {ps : List Addr} {L : List Str} {n : Nat}, Paired (fun p kv => SqT K H p [kV kv.1, kv.2]) ps (tbF h n L) → ps.length = L.length
  | [], [], _, _ => rfl
  | _ :: _, [], _, h => by cases h
  | [], _ :: _, _, h => by cases h
  | _ :: _, _ :: _, _, h => by
    cases h with
    | cons _ h => rw [List.length_cons, List.length_cons, enum_tab h]
theorem paired_up {H H' : Hp} (k : Tk H H') : ∀ {ps : List Addr} {kvs : List (Key × V)}, Paired (fun p kv => H p = some (.tup [kV kv.1, kv.2])) ps kvs → Paired (fun p kv => H' p = some (.tup [kV kv.1, kv.2])) ps kvs
  | _, _, .nil => .nil
  | _, _, .cons a q => .cons (k _ _ a) (paired_up k q)
theorem paired_sq {K : PySem.W.Frag} {H : Hp} : ∀ {ps : List Addr} {kvs : List (Key × V)}, Paired (fun p kv => H p = some (.tup [kV kv.1, kv.2])) ps kvs → Paired (fun p kv => SqT K H p [kV kv.1, kv.2]) ps kvs
  | _, _, .nil => .nil
  | _, _, .cons a q => .cons (SqT.of a) (paired_sq q)
theorem paired_app {R : Addr → Key × V → Prop} : ∀ {ps qs : List Addr} {kvs lvs : List (Key × V)}, Paired R ps kvs → Paired R qs lvs → Paired R (ps ++ qs) (kvs ++ lvs)
  | _, _, _, _, .nil, g => g
  | _, _, _, _, .cons a q, g => .cons a (paired_app q g)
abbrev sTab : Stmt := top 51
abbrev nTab : List Str := ["_law_parts", "_law_heads", "_law_rows", "_law_one", "_law_some", "_law_fields", "_law_field", "_law_sides", "_law_k"]
abbrev pTab : List Str := ["_law_parts", "_law_heads"]
def spTab : Sp := fun vs H Q _ => ∃ (v : V) (hd : Addr) (h : Str × Str × Str) (own : Str) (age : Int) (cs : List Cho) (recs : List Rec) (cws : List Cw), vs = [v, .ref hd] ∧ PtF H v own age cs recs cws ∧ PtW own age cs recs cws ∧ H hd = some (.lst [.str h.1, .str h.2.1, .str h.2.2]) ∧ h.1.length ≤ 10 ∧ h.2.1.length ≤ 10 ∧
  ∀ (t d1 d2 : Addr) (L : List Str) (H' : Hp), Same H H' → H' t = some (.tup [.ref d1, .ref d2]) → L.Perm (cs.map (·.1) ++ recs.map (·.1)) → PyProof.Rows.sortedS L = true → H' d1 = some (.dK (tbF h.1 0 L)) → H' d2 = some (.dK (tbF h.2.1 0 (fnL recs))) → Q (.ref t) H'
section
variable {P : Program} {w : World} {K : PySem.W.Frag} {mg : Str → Option Value} {base : Heap}
theorem scTab : FnScope nTab pTab (defScope sTab) := ⟨rfl, rfl, rfl, by decide +kernel, rfl, by decide +kernel, by decide +kernel⟩
theorem ok_tab {f : Addr} {fd : FuncData} (F : Fun K "_law_tables" "_law_tables" sTab f fd) (G : Glb mg) (DC : Has P w K mg base "_law_code" 1 pCod spCod) : FnOk P w K mg base CX0 2 f fd pTab spTab := by
  refine F.ok scTab (fun vs H Q E h => ?_) (fun cdv A outer s H vs Q E hr h => ?_)
  · obtain ⟨v, hd, h, own, age, cs, recs, cws, rfl, _⟩ := h
    rfl
  · obtain ⟨v, hd, h, own, age, cs, recs, cws, rfl, hv, pw, hh, l1, l2, q⟩ := h
    obtain ⟨p, v3, v4, v5, rfl, hp, t3, t4, t5⟩ := hv
    have lr6 := pw.rc.l6
    have lc6 := pw.co.l6
    have lcp : (csP cs).length = cs.length := by unfold csP; rw [List.length_map]
    refine ⟨_, (C8.pss_cut (ps_set (i := 2) scTab.nd rfl (Or.inl rfl) (pe_callB cr_sortedS (by rfl) G.sorted (by decide +kernel) (pa_cons (pe_lc (own := [("_law_one", 3), ("_law_some", 4)]) (g := (gTup K 2 (gCons (gName 3) (gCons (gName 4) gNil)))) (tt := tYes) (te := tVar 3) rfl scTab.nd (pi_tup (pe_op op_catF (pe_ix ix_tup (pv 0) pe_int (fun _ _ => rfl)) (pe_ix ix_tup (pv 0) pe_int (fun _ _ => rfl)))) (blkOk_by (N := nTab) (sc := defScope sTab) (by decide +kernel)) (fun _ _ _ _ _ => (pg_tup rfl (pgs_cons (pg_name (i := 3) scTab.nd rfl (Or.inl rfl)) (pgs_cons (pg_name (i := 4) scTab.nd rfl (Or.inl rfl)) pgs_nil)))) (fun _ _ _ _ _ => pts_nil) (fun _ _ _ _ _ => (pv 3))) pa_nil)))
      (pss_cons (ps_set (i := 5) scTab.nd rfl (Or.inr rfl) (pe_lst pa_nil))
      (C8.pss_cut (ps_for PassesOwn.never rfl (pi_tup (pe_ix ix_tup (pv 0) pe_int (fun _ _ => rfl))) (pg_tup rfl (pgs_cons (pg_name (i := 3) scTab.nd rfl (Or.inl rfl)) (pgs_cons (pg_name (i := 4) scTab.nd rfl (Or.inl rfl)) pgs_nil)))
      (pss_one (ps_set (i := 5) scTab.nd rfl (Or.inr rfl) (pe_op op_cat (pv 5) (pe_lc (own := [("_law_field", 6)]) (g := (gName 6)) (tt := tTest (tOp (rIn K true) (tOp (rIxT K) (tVar 6) (tC (.int 1))) (tVar 5))) (te := tOp (rIxT K) (tVar 6) (tC (.int 1))) rfl scTab.nd (pi_tup (pv 4)) (blkOk_by (N := nTab) (sc := defScope sTab) (by decide +kernel)) (fun _ _ _ _ _ => (pg_name (i := 6) scTab.nd rfl (Or.inl rfl))) (fun _ _ _ _ _ => pts_one (pt_cmpR op_notIn_seq (pe_ix ix_tup (pv 6) pe_int (fun _ _ => rfl)) (pv 5) rfl)) (fun _ _ _ _ _ => (pe_ix ix_tup (pv 6) pe_int (fun _ _ => rfl))))))))
      (C8.pss_cut (ps_set (i := 7) scTab.nd rfl (Or.inl rfl) (pe_callTy (call_dpL rfl) (by rfl) G.dict (by decide +kernel) (pa_cons (pe_lc (own := [("_law_k", 8), ("_law_one", 3)]) (g := (gTup K 2 (gCons (gName 8) (gCons (gName 3) gNil)))) (tt := tYes) (te := tTup (tCons (tVar 3) (tCons (tCall spCod [] E0 (tCons (tVar 8) (tCons (tOp (rIxL K) (tVar 1) (tC (.int 0))) tNil))) tNil))) rfl scTab.nd (pi_enum rfl G.enumerate (pa_cons (pv 2) pa_nil)) (blkOk_by (N := nTab) (sc := defScope sTab) (by decide +kernel)) (fun _ _ _ _ _ => (pg_tup rfl (pgs_cons (pg_name (i := 8) scTab.nd rfl (Or.inl rfl)) (pgs_cons (pg_name (i := 3) scTab.nd rfl (Or.inl rfl)) pgs_nil)))) (fun _ _ _ _ _ => pts_nil) (fun _ _ _ _ _ => (pe_tup (pa_cons (pv 3) (pa_cons (pe_has DC (hr.mono (by omega)) rfl (pa_cons (pv 8) (pa_cons (pe_ix ix_list (pv 1) pe_int (fun _ _ => rfl)) pa_nil))) pa_nil))))) pa_nil)))
      (pss_one (ps_ret (pe_tup (pa_cons (pv 7) (pa_cons (pe_callTy (call_dpL rfl) (by rfl) G.dict (by decide +kernel) (pa_cons (pe_lc (own := [("_law_k", 8), ("_law_one", 3)]) (g := (gTup K 2 (gCons (gName 8) (gCons (gName 3) gNil)))) (tt := tYes) (te := tTup (tCons (tVar 3) (tCons (tCall spCod [] E0 (tCons (tVar 8) (tCons (tOp (rIxL K) (tVar 1) (tC (.int 1))) tNil))) tNil))) rfl scTab.nd (pi_enum rfl G.enumerate (pa_cons (pv 5) pa_nil)) (blkOk_by (N := nTab) (sc := defScope sTab) (by decide +kernel)) (fun _ _ _ _ _ => (pg_tup rfl (pgs_cons (pg_name (i := 8) scTab.nd rfl (Or.inl rfl)) (pgs_cons (pg_name (i := 3) scTab.nd rfl (Or.inl rfl)) pgs_nil)))) (fun _ _ _ _ _ => pts_nil) (fun _ _ _ _ _ => (pe_tup (pa_cons (pv 3) (pa_cons (pe_has DC (hr.mono (by omega)) rfl (pa_cons (pv 8) (pa_cons (pe_ix ix_list (pv 1) pe_int (fun _ _ => rfl)) pa_nil))) pa_nil))))) pa_nil)) pa_nil))))))))), ?_⟩
    rw [show (L2.start nTab [V.ref p, V.ref hd]) = [some (V.ref p), some (V.ref hd), none, none, none, none, none, none, none] from rfl]
    have toTab : ∀ (R : Addr) (L : List Str) (hs : Str) (j : Nat) (H1 : Hp) (Qd : Hp → Prop), True := fun _ _ _ _ _ _ => trivial
    refine ⟨fun σ H' => ∃ (R : Addr) (L : List Str) (a3 a4 : Option V), σ = [some (.ref p), some (.ref hd), some (.ref R), a3, a4, none, none, none, none] ∧ Same H H' ∧ H' R = some (.lst (L.map V.str)) ∧ L.Perm (cs.map (·.1) ++ recs.map (·.1)) ∧ PyProof.Rows.sortedS L = true, ?_, ?_⟩
    · refine ⟨_, rfl, p, _, _, _, rfl, rfl, SqT.of hp, rfl, _, rfl, p, _, _, _, rfl, rfl, SqT.of hp, rfl, ?_⟩
      refine tpCatF t3 t4 (by rw [List.length_map, List.length_map, List.length_map, lcp]; omega) fun r G2 S2 g => ?_
      rw [← List.map_append] at g
      obtain ⟨pq, oq, xq, rfl, hq, _, tq⟩ := TpF.inv g
      refine ⟨pq, rfl, ⟨_, SqT.fz hq⟩, fun D hD => ?_⟩
      refine lcG_tup (xs := xq) (l := csP cs ++ recs.map rD) (dx := fun r => .tuple [.str r.1, r.2]) (val := fun r => .str r.1) (keep := fun _ => true) (fun H' S => SqT.fz (S _ _ hq)) tq (by rw [List.length_append, List.length_map, lcp, sizeLine_eq]; omega) hD ?_ ?_
      · intro j r x H' hj S' tr N M hN hM
        obtain ⟨a, y, u, rfl, ha, hy, hu2⟩ := Tp.pair tr
        rw [hy.istr] at ha
        exact ⟨a, _, rfl, SqT.of ha, rfl, _, _, rfl, _, _, rfl, rfl, rfl, yes (iteT ⟨_, rfl, hM rfl _ _ (Same.refl _) (.str _)⟩)⟩
      intro G3 zs S3 eD tz
      rw [filt_all] at tz
      have ez := tp_strsM tz
      subst ez
      have en : (csP cs ++ recs.map rD).map (fun r => r.1) = cs.map (·.1) ++ recs.map (·.1) := by
        rw [List.map_append, csP_names, List.map_map]
        rfl
      rw [en] at eD
      refine ⟨D, _, rfl, SqL.of eD, by rw [List.length_append, List.length_map, List.length_map]; omega, fun ys py pm so hpy => ?_⟩
      try dsimp only [List.set_cons_succ, List.set_cons_zero]
      exact ⟨py, ys, _, _, rfl, (S2.trans S3).trans (Same.new hpy), upd_same, pm, so⟩
    rintro σ H1 ⟨R, L, a3, a4, rfl, S1, eR, pm, so⟩
    have hp1 := S1 _ _ hp
    have hh1 := S1 _ _ hh
    have t4a := t4.keep (Same.fk S1) (Same.tk S1)
    obtain ⟨pr, or, xr, rfl, hpr, plr, txr⟩ := TpF.inv t4a
    have lxr : xr.length = recs.length := by rw [txr.length, List.length_map, List.length_map]
    have ndL : L.Nodup := (pm.nodup_iff).mpr pw.nd
    have lL : L.length ≤ 12 := by
      have := pm.length_eq
      rw [List.length_append, List.length_map, List.length_map] at this
      omega
    refine ⟨Nat.zero_le _, fun F0 hF0 => ?_⟩
    have S2 := Same.new (H := H1) (o := .lst []) hF0
    have e20 : (upd H1 F0 (.lst [])) F0 = some (.lst []) := upd_same
    generalize (upd H1 F0 (.lst [])) = H2 at *
    try dsimp only [List.set_cons_succ, List.set_cons_zero]
    have fnp : ∀ i, (fnL (recs.take i)).length ≤ 30 ∧ (fnL (recs.take i)).Nodup := fun i => by
      obtain ⟨a, b, _⟩ := fn_fold (l := recs.take i) (F := []) (fun r hr => pw.rc.fl r (List.mem_of_mem_take hr)) List.nodup_nil
      have := List.length_take_le i recs
      rw [List.length_nil] at b
      exact ⟨by show (List.foldl fnS [] (recs.take i)).length ≤ 30; have h6 : (recs.take i).length ≤ 6 := by rw [List.length_take]; omega
                omega, a⟩
    refine ⟨fun σ H' => ∃ (Fo : Addr) (a3 a4 a6 : Option V), σ = [some (.ref p), some (.ref hd), some (.ref R), a3, a4, some (.ref Fo), a6, none, none] ∧ Same H2 H' ∧ H' Fo = some (.lst ((fnL recs).map V.str)), ?_, ?_⟩
    · refine ⟨_, rfl, p, _, _, _, rfl, rfl, SqT.of (S2 _ _ hp1), rfl, pr, rfl, ⟨_, SqT.fz (S2 _ _ hpr)⟩, ?_⟩
      refine for_tup (xs := xr) (fun i σ H' => ∃ (Fo : Addr) (a3 a4 a6 : Option V), σ = [some (.ref p), some (.ref hd), some (.ref R), a3, a4, some (.ref Fo), a6, none, none] ∧ Same H2 H' ∧ H' Fo = some (.lst ((fnL (recs.take i)).map V.str))) ?_ ?_ ?_ ?_
      · exact ⟨F0, _, _, _, rfl, Same.refl _, e20⟩
      · rintro i σ H' _ ⟨Fo, a3, a4, a6, rfl, S', _⟩
        exact SqT.fz (S' _ _ (S2 _ _ hpr))
      · rintro i x σ H3 hx ⟨Fo, a3, a4, a6, rfl, S3, eF⟩
        have txr3 := TpAll.keep (Same.tk (S2.trans S3)) _ _ txr
        obtain ⟨d, hd9, td⟩ := txr3.get' hx
        rw [List.map_map] at hd9
        obtain ⟨r, hr9, rfl⟩ := mapAt hd9
        have fw := pw.rc.fl r (List.mem_of_getElem? hr9)
        have l5 := fw.l5
        obtain ⟨a, y, u, rfl, ha, hy, hu2⟩ := Tp.pair td
        rw [hy.istr] at ha
        obtain ⟨fa, fvs, rfl, hfa, tfs⟩ := Tp.inv hu2
        refine ⟨a, _, rfl, SqT.of ha, rfl, _, _, rfl, _, _, rfl, rfl, ?_⟩
        try dsimp only [List.set_cons_succ, List.set_cons_zero]
        refine ⟨_, rfl, _, rfl, fa, rfl, ⟨_, SqT.of hfa⟩, fun D hD => ?_⟩
        have nFD : Fo ≠ D := fun e => by rw [e, hD] at eF; cases eF
        refine lcG_tup (xs := fvs) (l := r.2) (dx := Fl.d) (val := fun f => .str f.nam) (keep := fun f => !decide (f.nam ∈ fnL (recs.take i))) (fun H' S => SqT.of (S _ _ hfa)) tfs (by rw [sizeLine_eq]; omega) hD ?_ ?_
        · intro j f x H' hj S' tf N M hN hM
          obtain ⟨t4, x1, x2, x3, x4, rfl, h4, u1, u2, u3, u4⟩ := Tp.four tf
          rw [u2.istr] at h4
          refine ⟨rfl, _, rfl, t4, _, _, _, rfl, rfl, SqT.of h4, rfl, _, rfl, Fo, _, rfl, .inl (SqL.of (S' _ _ eF)), rfl, (by rw [List.all_map]; exact List.all_eq_true.mpr fun _ _ => rfl), _, rfl, ?_⟩
          rw [if_pos rfl, inV_names]
          exact ite2 (fun h => ⟨_, rfl, t4, _, _, _, rfl, rfl, SqT.of h4, rfl, hM h _ _ (Same.refl _) (.str _)⟩) (fun h => hN (Bool.eq_false_iff.mpr h) _ (Same.refl _))
        intro H4 zs S4 eD tz
        have ez := tp_strsM tz
        subst ez
        have eF4 := S4 _ _ eF
        refine ⟨Fo, D, _, _, rfl, rfl, eF4, eD, ?_, fun q9 hq9 => ?_⟩
        · have a1 := (fnp i).1
          have a2 := List.length_filter_le (fun f : Fl => !decide (f.nam ∈ fnL (recs.take i))) r.2
          rw [List.length_map, List.length_map, List.length_map, sizeLine_eq]
          omega
        try dsimp only [List.set_cons_succ, List.set_cons_zero]
        refine ⟨q9, _, _, _, rfl, (S3.trans S4).trans (Same.new hq9), ?_⟩
        rw [upd_same, fn_next hr9]
        unfold fnS
        rw [List.map_append, filt_ren (ρ := Fl.nam) (p := fun f : Fl => !decide (f.nam ∈ fnL (recs.take i))) (fun _ _ => rfl)]
      · rintro σ H' ⟨Fo, a3, a4, a6, rfl, S', eF⟩
        rw [lxr, List.take_length] at eF
        exact ⟨Fo, _, _, _, rfl, S', eF⟩
    rintro σ H3 ⟨Fo, a3, a4, a6, rfl, S3, eF⟩
    have lF : (fnL recs).length ≤ 30 ∧ (fnL recs).Nodup := by
      have := fnp recs.length
      rwa [List.take_length] at this
    have hh3 := S3 _ _ (S2 _ _ hh1)
    have eR3 := S3 _ _ (S2 _ _ eR)
    refine ⟨fun σ H' => ∃ (d1 : Addr) (a3 a8 : Option V), σ = [some (.ref p), some (.ref hd), some (.ref R), a3, a4, some (.ref Fo), a6, some (.ref d1), a8] ∧ Same H3 H' ∧ H' d1 = some (.dK (tbF h.1 0 L)), ?_, ?_⟩
    · refine ⟨_, rfl, R, _, rfl, SqL.of eR3, fun D hD => ?_⟩
      refine L2.lc_it (walk_enum (xs := L.map V.str)) (fun j H' => Same H3 H' ∧ ∃ ps : List Addr, H' D = some (.lst (ps.map V.ref)) ∧ ps.length = j ∧ Paired (fun p kv => H' p = some (.tup [kV kv.1, kv.2])) ps (tbF h.1 0 (L.take j))) ?_ ?_ ?_ ?_
      · exact ⟨Same.new hD, [], upd_same, rfl, .nil⟩
      · rintro j H' _ ⟨S', _⟩
        exact SqL.of (S' _ _ eR3)
      · rintro j x Ha Hb hj ⟨S', ps, eD, lps, pps⟩ ⟨Tt, y1, y2, rfl, hT, rfl, g1, g2⟩
        cases g1
        obtain ⟨z, hz, rfl⟩ := mapAt g2
        rw [List.length_map] at hj
        have Sa := Same.new (H := Ha) (o := .tup [.int (j : Int), .str z]) hT
        have ea : (upd Ha Tt (.tup [.int (j : Int), .str z])) Tt = some (.tup [.int (j : Int), .str z]) := upd_same
        have eDa := Sa _ _ eD
        have Sb := S'.trans Sa
        have pa := paired_up (Same.tk Sa) pps
        generalize (upd Ha Tt (.tup [.int (j : Int), .str z])) = Hb at *
        refine ⟨Tt, _, rfl, SqT.of ea, rfl, _, _, rfl, _, _, rfl, rfl, rfl, yes (iteT ?_)⟩
        refine ⟨_, rfl, _, rfl, _, rfl, hd, _, 0, _, rfl, rfl, SqL.of (Sb _ _ hh3), rfl, j, h.1, rfl, by omega, l1, (by show 2 ≤ sizeLine; decide), fun t ht => ?_⟩
        have Sc := Same.new (H := Hb) (o := .tup [.str z, .str (codeS j h.1)]) ht
        have ec : (upd Hb t (.tup [.str z, .str (codeS j h.1)])) t = some (.tup [.str z, .str (codeS j h.1)]) := upd_same
        have pc := paired_up (Same.tk Sc) pa
        have eDc := Sc _ _ eDa
        generalize (upd Hb t (.tup [.str z, .str (codeS j h.1)])) = Hc at *
        have W : Tk Hc (upd Hc D (.lst (ps.map V.ref ++ [.ref t]))) := Tk.wr eDc
        refine ⟨_, eDc, by rw [List.length_map, sizeLine_eq]; omega, Same.wr (Sb.trans Sc) hD, ps ++ [t], by rw [upd_same, List.map_append]; rfl, by rw [List.length_append]; show _ + 1 = _; omega, ?_⟩
        rw [List.take_add_one, hz]
        show Paired _ _ (tbF h.1 0 (L.take j ++ [z]))
        rw [tb_app, Nat.zero_add, List.length_take, Nat.min_eq_left (by omega)]
        exact paired_app (paired_up W pc) (.cons (W _ _ ec) .nil)
      · rintro H' ⟨S', ps, eD, lps, pps⟩
        rw [List.length_map, List.take_length] at pps
        refine ⟨D, ps, _, rfl, SqL.of eD, paired_sq pps, fun pd hpd => ?_⟩
        rw [merge_ndG _ [] (by rw [List.nil_append, tb_keys]; exact nd_inr ndL)]
        try dsimp only [List.set_cons_succ, List.set_cons_zero]
        exact ⟨pd, _, _, rfl, S'.trans (Same.new hpd), upd_same⟩
    rintro σ H4 ⟨d1, a3', a8, rfl, S4, e1⟩
    have hh4 := S4 _ _ hh3
    have eF4 := S4 _ _ eF
    refine ⟨_, rfl, _, rfl, Fo, _, rfl, SqL.of eF4, fun D hD => ?_⟩
    refine L2.lc_it (walk_enum (xs := (fnL recs).map V.str)) (fun j H' => Same H4 H' ∧ ∃ ps : List Addr, H' D = some (.lst (ps.map V.ref)) ∧ ps.length = j ∧ Paired (fun p kv => H' p = some (.tup [kV kv.1, kv.2])) ps (tbF h.2.1 0 ((fnL recs).take j))) ?_ ?_ ?_ ?_
    · exact ⟨Same.new hD, [], upd_same, rfl, .nil⟩
    · rintro j H' _ ⟨S', _⟩
      exact SqL.of (S' _ _ eF4)
    · rintro j x Ha Hb hj ⟨S', ps, eD, lps, pps⟩ ⟨Tt, y1, y2, rfl, hT, rfl, g1, g2⟩
      cases g1
      obtain ⟨z, hz, rfl⟩ := mapAt g2
      rw [List.length_map] at hj
      have lF1 := lF.1
      have Sa := Same.new (H := Ha) (o := .tup [.int (j : Int), .str z]) hT
      have ea : (upd Ha Tt (.tup [.int (j : Int), .str z])) Tt = some (.tup [.int (j : Int), .str z]) := upd_same
      have eDa := Sa _ _ eD
      have Sb := S'.trans Sa
      have pa := paired_up (Same.tk Sa) pps
      generalize (upd Ha Tt (.tup [.int (j : Int), .str z])) = Hb at *
      refine ⟨Tt, _, rfl, SqT.of ea, rfl, _, _, rfl, _, _, rfl, rfl, rfl, yes (iteT ?_)⟩
      refine ⟨_, rfl, _, rfl, _, rfl, hd, _, 1, _, rfl, rfl, SqL.of (Sb _ _ hh4), rfl, j, h.2.1, rfl, by omega, l2, (by show 2 ≤ sizeLine; decide), fun t ht => ?_⟩
      have Sc := Same.new (H := Hb) (o := .tup [.str z, .str (codeS j h.2.1)]) ht
      have ec : (upd Hb t (.tup [.str z, .str (codeS j h.2.1)])) t = some (.tup [.str z, .str (codeS j h.2.1)]) := upd_same
      have pc := paired_up (Same.tk Sc) pa
      have eDc := Sc _ _ eDa
      generalize (upd Hb t (.tup [.str z, .str (codeS j h.2.1)])) = Hc at *
      have W : Tk Hc (upd Hc D (.lst (ps.map V.ref ++ [.ref t]))) := Tk.wr eDc
      refine ⟨_, eDc, by rw [List.length_map, sizeLine_eq]; omega, Same.wr (Sb.trans Sc) hD, ps ++ [t], by rw [upd_same, List.map_append]; rfl, by rw [List.length_append]; show _ + 1 = _; omega, ?_⟩
      rw [List.take_add_one, hz]
      show Paired _ _ (tbF h.2.1 0 ((fnL recs).take j ++ [z]))
      rw [tb_app, Nat.zero_add, List.length_take, Nat.min_eq_left (by omega)]
      exact paired_app (paired_up W pc) (.cons (W _ _ ec) .nil)
    rintro H' ⟨S', ps, eD, lps, pps⟩
    rw [List.length_map, List.take_length] at pps
    refine ⟨D, ps, _, rfl, SqL.of eD, paired_sq pps, fun pd hpd => ⟨(by show 2 ≤ sizeLine; decide), fun t ht => ?_⟩⟩
    rw [merge_ndG _ [] (by rw [List.nil_append, tb_keys]; exact nd_inr lF.2)] at ht ⊢
    have S5 := Same.new (H := H') (o := .dK ([] ++ tbF h.2.1 0 (fnL recs))) hpd
    have e5 : (upd H' pd (.dK ([] ++ tbF h.2.1 0 (fnL recs)))) pd = some (.dK (tbF h.2.1 0 (fnL recs))) := upd_same
    generalize (upd H' pd (.dK ([] ++ tbF h.2.1 0 (fnL recs)))) = H5 at *
    have S6 := Same.new (H := H5) (o := .tup [.ref d1, .ref pd]) ht
    have S56 := (S'.trans S5).trans S6
    exact q t d1 pd L _ ((((S1.trans S2).trans S3).trans S4).trans S56) upd_same pm so (S56 _ _ e1) (S6 _ _ e5)
end
end Fh

set_option Elab.async false
set_option linter.all false
set_option maxRecDepth 100000
set_option maxHeartbeats 4000000
namespace Fh
open PySem L2 PyProof.Rows
/-! ### a kind by new names -/
def sdF (h : Str) (L : List Str) (z : Str) : Str := (co h 0 L z).getD z
theorem get_tab {h : Str} {L : List Str} {H : Hp} {d : Addr} (hd : H d = some (.dK (tbF h 0 L))) (z : Str) : ∃ o, DGet H d (.str z) o ∧ o.getD (.str z) = .str (sdF h L z) := by
  refine ⟨_, DGet.k (k := .inr z) hd, ?_⟩
  rw [tb_val]
  unfold sdF
  cases co h 0 L z <;> rfl
abbrev sKnm : Stmt := top 52
abbrev nKnm : List Str := ["_law_kind", "_law_sides"]
abbrev pKnm : List Str := ["_law_kind", "_law_sides"]
def spKnm (ok : Kn → Prop) : Sp := fun vs H Q _ => ∃ (v : V) (d : Addr) (k : Kn) (L : List Str) (h : Str), vs = [v, .ref d] ∧ Tp H v k.d ∧ H d = some (.dK (tbF h 0 L)) ∧ ok k ∧ ∀ (v' : V) (H' : Hp), Same H H' → Tp H' v' (renK (sdF h L) k).d → Q v' H'
section
variable {P : Program} {w : World} {K : PySem.W.Frag} {mg : Str → Option Value} {base : Heap}
theorem scKnm : FnScope nKnm pKnm (defScope sKnm) := ⟨rfl, rfl, rfl, by decide +kernel, rfl, by decide +kernel, by decide +kernel⟩
theorem none_knm {f : Addr} {fd : FuncData} (F : Fun K "_law_kind_named" "_law_kind_named" sKnm f fd) : FnOk P w K mg base CX0 1 f fd pKnm (spKnm fun _ => False) := by
  refine F.ok scKnm (fun vs H Q E h => ?_) (fun cdv A outer s H vs Q E hr h => ?_)
  · obtain ⟨_, _, _, _, _, _, _, _, hk, _⟩ := h
    exact hk.elim
  · obtain ⟨_, _, _, _, _, _, _, _, hk, _⟩ := h
    exact hk.elim
theorem ok_knm {f : Addr} {fd : FuncData} {n : Nat} {ok ok' : Kn → Prop} (F : Fun K "_law_kind_named" "_law_kind_named" sKnm f fd) (G : Glb mg) (DN : Has P w K mg base "_law_kind_named" n pKnm (spKnm ok')) (hok : ∀ b, ok (.lst b) → ok' (.one b)) : FnOk P w K mg base CX0 (n + 1) f fd pKnm (spKnm ok) := by
  refine F.ok scKnm (fun vs H Q E h => ?_) (fun cdv A outer s H vs Q E hr h => ?_)
  · obtain ⟨v, d, k, L, h, rfl, _⟩ := h
    rfl
  · obtain ⟨v, d, k, L, h, rfl, t, hd, hk, q⟩ := h
    have hu := hu_of hr
    refine ⟨_, (pss_cons (ps_if (pt_val (pe_callB call_isi (by rfl) G.isi (by decide +kernel) (pa_cons (pv 0) (pa_cons (pe_bltn (v := .ty "str") rfl G.str (by decide +kernel) rfl) pa_nil))))
      (pss_one (ps_ret (pv 0)))
      pss_nil)
      (pss_one (ps_ret (pe_tup (pa_cons (pe_ix ix_tup (pv 0) pe_int (fun _ _ => rfl)) (pa_cons (pe_ifExp (pt_cmpR op_eq (pe_ix ix_tup (pv 0) pe_int (fun _ _ => rfl)) pe_str (nomark _)) (pe_has DN hr rfl (pa_cons (pe_ix ix_tup (pv 0) pe_int (fun _ _ => rfl)) (pa_cons (pv 1) pa_nil))) (pe_dget2 hu (pv 1) (pe_ix ix_tup (pv 0) pe_int (fun _ _ => rfl)) (pe_ix ix_tup (pv 0) pe_int (fun _ _ => rfl)) ⟨rfl, rfl, rfl, rfl⟩)) pa_nil)))))), ?_⟩
    rcases kn_inv t with ⟨rfl, hp⟩ | ⟨b, u, rfl, hb, tu⟩
    · refine ⟨_, rfl, _, _, .type "str", .type "str", true, rfl, .ty _, .base (.str _), rfl, true, rfl, iteT ⟨_, rfl, ?_⟩⟩
      have e : renK (sdF h L) k = k := by rcases hp with rfl | rfl | rfl <;> rfl
      exact q _ H (Same.refl H) (by rw [e]; exact t)
    · refine ⟨_, rfl, _, _, .type "tuple", .type "str", false, rfl, .ty _, .base (.tup hb), rfl, false, rfl, iteF ?_⟩
      refine ⟨_, rfl, b, _, _, _, rfl, rfl, SqT.of hb, rfl, _, rfl, b, _, _, _, rfl, rfl, SqT.of hb, rfl, rfl, _, rfl, ?_⟩
      cases k with
      | lst c =>
        refine ite2 (fun _ => ?_) (fun h => absurd (decide_eq_true rfl) h)
        refine ⟨_, rfl, b, _, _, _, rfl, rfl, SqT.of hb, rfl, _, rfl, u, d, .one c, L, h, rfl, tu, hd, hok c hk, fun v' H' S' t' => ⟨(by show 2 ≤ sizeLine; decide), fun t9 ht9 => ?_⟩⟩
        obtain ⟨S9, t9'⟩ := tupNew (xs := [.str "list", v']) ht9 (.cons (.str _) (.cons t' .nil))
        exact q _ _ (S'.trans S9) t9'
      | one c =>
        cases c with
        | whole => cases t
        | truth => cases t
        | text => cases t
        | rc z =>
          cases tu.istr
          refine ite2 (fun h => absurd (of_decide_eq_true h) (sne (by decide +kernel : ("record" : Str) ≠ "list"))) (fun _ => ?_)
          obtain ⟨o, ho, eo⟩ := get_tab hd z
          refine ⟨_, rfl, d, rfl, .inl ⟨_, .inl hd⟩, _, rfl, b, _, _, _, rfl, rfl, SqT.of hb, rfl, _, rfl, b, _, _, _, rfl, rfl, SqT.of hb, rfl, o, ho, (by show 2 ≤ sizeLine; decide), fun t9 ht9 => ?_⟩
          rw [eo]
          obtain ⟨S9, t9'⟩ := tupNew (xs := [.str "record", .str (sdF h L z)]) ht9 (.cons (.str _) (.cons (.str _) .nil))
          exact q _ _ S9 t9'
        | ch z =>
          cases tu.istr
          refine ite2 (fun h => absurd (of_decide_eq_true h) (sne (by decide +kernel : ("choice" : Str) ≠ "list"))) (fun _ => ?_)
          obtain ⟨o, ho, eo⟩ := get_tab hd z
          refine ⟨_, rfl, d, rfl, .inl ⟨_, .inl hd⟩, _, rfl, b, _, _, _, rfl, rfl, SqT.of hb, rfl, _, rfl, b, _, _, _, rfl, rfl, SqT.of hb, rfl, o, ho, (by show 2 ≤ sizeLine; decide), fun t9 ht9 => ?_⟩
          rw [eo]
          obtain ⟨S9, t9'⟩ := tupNew (xs := [.str "choice", .str (sdF h L z)]) ht9 (.cons (.str _) (.cons (.str _) .nil))
          exact q _ _ S9 t9'
end
end Fh

set_option Elab.async false
set_option linter.all false
set_option maxRecDepth 100000
set_option maxHeartbeats 4000000
namespace Fh
open PySem L2 PyProof.Rows
/-! ### a face named anew -/
theorem co_in {h : Str} : ∀ {L : List Str} {n : Nat} {z : Str}, z ∈ L → ∃ c, co h n L z = some c
  | [], _, _, h => by cases h
  | y :: L, n, z, hz => by
    unfold co
    by_cases e : z = y
    · rw [if_pos e]; exact ⟨_, rfl⟩
    · rw [if_neg e]
      exact co_in ((List.mem_cons.mp hz).resolve_left e)
theorem get_in {h : Str} {L : List Str} {H : Hp} {d : Addr} (hd : H d = some (.dK (tbF h 0 L))) {z : Str} (hz : z ∈ L) : DGet H d (.str z) (some (.str (sdF h L z))) := by
  obtain ⟨o, ho, eo⟩ := get_tab hd z
  obtain ⟨c, hc⟩ := co_in (h := h) (n := 0) hz
  have e : (some (.str (sdF h L z)) : Option V) = valV (tbF h 0 L) (.inr z) := by
    rw [tb_val]
    unfold sdF
    rw [hc]
    rfl
  rw [e]
  exact DGet.k (k := .inr z) hd
def csN (sd : Str → Str) (hf : Str) (cs : List Cho) : List Cho := cs.map fun c => (sd c.1, c.2.map fun o => (o.1, codeS o.1.toNat hf))
def flN (sd fd : Str → Str) (f : Fl) : Fl := ⟨f.num, fd f.nam, renK sd f.kd, f.must⟩
def recsN (sd fd : Str → Str) (recs : List Rec) : List Rec := recs.map fun r => (sd r.1, r.2.map (flN sd fd))
def cwN (sd fd : Str → Str) (hc : Str) : Nat → List Cw → List Cw
  | _, [] => []
  | n, c :: l => ⟨c.num, codeS n hc, sd c.ask, sd c.ans, c.ds.map (renD fd)⟩ :: cwN sd fd hc (n + 1) l
theorem cwN_app (sd fd : Str → Str) (hc : Str) : ∀ (l : List Cw) (n : Nat) (c : Cw), cwN sd fd hc n (l ++ [c]) = cwN sd fd hc n l ++ [⟨c.num, codeS (n + l.length) hc, sd c.ask, sd c.ans, c.ds.map (renD fd)⟩]
  | [], n, c => rfl
  | x :: l, n, c => by
    show _ :: cwN sd fd hc (n + 1) (l ++ [c]) = (_ :: cwN sd fd hc (n + 1) l) ++ _
    rw [cwN_app sd fd hc l (n + 1) c, show n + (x :: l).length = n + 1 + l.length by rw [List.length_cons]; omega]
    rfl
theorem cwN_len (sd fd : Str → Str) (hc : Str) : ∀ (l : List Cw) (n : Nat), (cwN sd fd hc n l).length = l.length
  | [], _ => rfl
  | _ :: l, n => by
    show (cwN sd fd hc (n + 1) l).length + 1 = l.length + 1
    rw [cwN_len sd fd hc l (n + 1)]
theorem cutG_from3 {α : Type} (a b c : α) (r : List α) : cutG (a :: b :: c :: r) (some 3) none = r := cutG_from (a :: b :: c :: r) 3
abbrev sNam : Stmt := top 53
abbrev nNam : List Str := ["_law_parts", "_law_heads", "_law_own", "_law_age", "_law_opts", "_law_recs", "_law_acts", "_law_sides", "_law_fields", "_law_forms", "_law_one", "_law_some", "_law_rows", "_law_field", "_law_doors", "_law_k", "_law_mark", "_law_word", "_law_ask", "_law_back", "_law_deeds", "_law_deed", "_law_last", "_law_menus"]
def spNam : Sp := fun vs H Q _ => ∃ (v : V) (hd : Addr) (h : Str × Str × Str) (own : Str) (age : Int) (cs : List Cho) (recs : List Rec) (cws : List Cw), vs = [v, .ref hd] ∧ PtF H v own age cs recs cws ∧ PtW own age cs recs cws ∧ H hd = some (.lst [.str h.1, .str h.2.1, .str h.2.2]) ∧ h.1.length ≤ 10 ∧ h.2.1.length ≤ 10 ∧ h.2.2.length ≤ 10 ∧
  ∀ (v' : V) (L : List Str) (H' : Hp), Same H H' → L.Perm (cs.map (·.1) ++ recs.map (·.1)) → PyProof.Rows.sortedS L = true → Tp H' v' (ptD own age (csN (sdF h.1 L) h.2.1 cs) (recsN (sdF h.1 L) (sdF h.2.1 (fnL recs)) recs) (cwN (sdF h.1 L) (sdF h.2.1 (fnL recs)) h.2.2 0 cws)) → Q v' H'
section
variable {P : Program} {w : World} {K : PySem.W.Frag} {mg : Str → Option Value} {base : Heap}
theorem scNam : FnScope nNam pTab (defScope sNam) := ⟨rfl, rfl, rfl, by decide +kernel, rfl, by decide +kernel, by decide +kernel⟩
theorem ok_nam {f : Addr} {fd : FuncData} (F : Fun K "_law_named" "_law_named" sNam f fd) (G : Glb mg) (DC : Has P w K mg base "_law_code" 1 pCod spCod) (DT : Has P w K mg base "_law_tables" 2 pTab spTab) (DK : Has P w K mg base "_law_kind_named" 3 pKnm (spKnm fun _ => True)) : FnOk P w K mg base CX0 4 f fd pTab spNam := by
  refine F.ok scNam (fun vs H Q E h => ?_) (fun cdv A outer s H vs Q E hr h => ?_)
  · obtain ⟨v, hd, h, own, age, cs, recs, cws, rfl, _⟩ := h
    rfl
  · obtain ⟨v, hd, h, own, age, cs, recs, cws, rfl, hv, pw, hh, l1, l2, l3, q⟩ := h
    have hu := hu_of hr
    have hv0 := hv
    obtain ⟨p, v3, v4, v5, rfl, hp, t3, t4, t5⟩ := hv
    have lr6 := pw.rc.l6
    have lc6 := pw.co.l6
    have lw6 := pw.cw.l6
    have lcp : (csP cs).length = cs.length := by unfold csP; rw [List.length_map]
    refine ⟨_, (pss_cons (ps_asg (pv 0) (pg_tup rfl (pgs_cons (pg_name (i := 2) scNam.nd rfl (Or.inl rfl)) (pgs_cons (pg_name (i := 3) scNam.nd rfl (Or.inl rfl)) (pgs_cons (pg_name (i := 4) scNam.nd rfl (Or.inl rfl)) (pgs_cons (pg_name (i := 5) scNam.nd rfl (Or.inl rfl)) (pgs_cons (pg_name (i := 6) scNam.nd rfl (Or.inl rfl)) pgs_nil)))))))
      (pss_cons (ps_asg (pe_has DT (hr.mono (by omega)) rfl (pa_cons (pv 0) (pa_cons (pv 1) pa_nil))) (pg_tup rfl (pgs_cons (pg_name (i := 7) scNam.nd rfl (Or.inr rfl)) (pgs_cons (pg_name (i := 8) scNam.nd rfl (Or.inr rfl)) pgs_nil))))
      (pss_cons (ps_set (i := 9) scNam.nd rfl (Or.inl rfl) (pe_lst pa_nil))
      (C8.pss_cut (ps_for PassesOwn.never rfl (pi_tup (pv 5)) (pg_tup rfl (pgs_cons (pg_name (i := 10) scNam.nd rfl (Or.inl rfl)) (pgs_cons (pg_name (i := 11) scNam.nd rfl (Or.inl rfl)) pgs_nil)))
      (C8.pss_cut (ps_setLc (i := 12) (own := [("_law_field", 13)]) (g := (gName 13)) (tt := tYes) (te := tTup (tCons (tOp (rIxT K) (tVar 13) (tC (.int 0))) (tCons (tDGet (tVar 8) (tOp (rIxT K) (tVar 13) (tC (.int 1)))) (tCons (tCall (spKnm fun _ => True) [] E0 (tCons (tOp (rIxT K) (tVar 13) (tC (.int 2))) (tCons (tVar 7) tNil))) (tCons (tOp (rIxT K) (tVar 13) (tC (.int 3))) tNil))))) rfl scNam.nd rfl rfl (sw_true rfl rfl rfl (by decide +kernel)) (pi_tup (pv 11)) (blkOk_by (N := nNam) (sc := defScope sNam) (by decide +kernel)) (fun _ _ _ _ _ => (pg_name (i := 13) scNam.nd rfl (Or.inl rfl))) (fun _ _ _ _ _ => pts_nil) (fun _ _ _ _ _ => (pe_tup (pa_cons (pe_ix ix_tup (pv 13) pe_int (fun _ _ => rfl)) (pa_cons (pe_dget hu (pv 8) (pe_ix ix_tup (pv 13) pe_int (fun _ _ => rfl)) (fun _ _ => rfl)) (pa_cons (pe_has DK (hr.mono (by omega)) rfl (pa_cons (pe_ix ix_tup (pv 13) pe_int (fun _ _ => rfl)) (pa_cons (pv 7) pa_nil))) (pa_cons (pe_ix ix_tup (pv 13) pe_int (fun _ _ => rfl)) pa_nil)))))))
      (pss_one (ps_expr (pe_bm PySem.F.plainAttrs_list PySem.F.slot_list_append PySem.F.type_list_append mt_append (pv 9) (pa_cons (pe_tup (pa_cons (pe_dget hu (pv 7) (pv 10) (fun _ _ => rfl)) (pa_cons (pe_callTy call_tuple_of (by rfl) G.tuple (by decide +kernel) (pa_cons (pv 12) pa_nil)) pa_nil))) pa_nil))))))
      (pss_cons (ps_set (i := 14) scNam.nd rfl (Or.inl rfl) (pe_lst pa_nil))
      (C8.pss_cut (ps_for PassesOwn.never rfl (pi_enumT rfl G.enumerate (pa_cons (pv 6) pa_nil)) (pg_tup rfl (pgs_cons (pg_name (i := 15) scNam.nd rfl (Or.inl rfl)) (pgs_cons (pg_tup rfl (pgs_cons (pg_name (i := 16) scNam.nd rfl (Or.inl rfl)) (pgs_cons (pg_name (i := 17) scNam.nd rfl (Or.inl rfl)) (pgs_cons (pg_name (i := 18) scNam.nd rfl (Or.inl rfl)) (pgs_cons (pg_name (i := 19) scNam.nd rfl (Or.inl rfl)) (pgs_cons (pg_name (i := 20) scNam.nd rfl (Or.inl rfl)) pgs_nil)))))) pgs_nil)))
      (pss_cons (ps_set (i := 11) scNam.nd rfl (Or.inl rfl) (pe_lst pa_nil))
      (C8.pss_cut (ps_for PassesOwn.never rfl (pi_tup (pv 20)) (pg_name (i := 21) scNam.nd rfl (Or.inl rfl))
      (pss_one (ps_if (pt_cmpR op_eq (pe_ix ix_tup (pv 21) pe_int (fun _ _ => rfl)) pe_str (nomark _))
      (pss_one (ps_expr (pe_bm PySem.F.plainAttrs_list PySem.F.slot_list_append PySem.F.type_list_append mt_append (pv 11) (pa_cons (pv 21) pa_nil))))
      (pss_cons (ps_setLc (i := 22) (own := [("_law_one", 10)]) (g := (gName 10)) (tt := tYes) (te := tDGet2 (tVar 8) (tVar 10) (tVar 10)) rfl scNam.nd rfl rfl (sw_true rfl rfl rfl (by decide +kernel)) (pi_tup (pe_slice sl_tupA (pv 21) (po_some pe_int) (po_some pe_int))) (blkOk_by (N := nNam) (sc := defScope sNam) (by decide +kernel)) (fun _ _ _ _ _ => (pg_name (i := 10) scNam.nd rfl (Or.inl rfl))) (fun _ _ _ _ _ => pts_nil) (fun _ _ _ _ _ => (pe_dget2 hu (pv 8) (pv 10) (pv 10) ⟨rfl, rfl, rfl, rfl⟩)))
      (pss_one (ps_expr (pe_bm PySem.F.plainAttrs_list PySem.F.slot_list_append PySem.F.type_list_append mt_append (pv 11) (pa_cons (pe_op op_catA (pe_tup (pa_cons (pe_ix ix_tup (pv 21) pe_int (fun _ _ => rfl)) (pa_cons (pe_ix ix_list (pv 22) pe_int (fun _ _ => rfl)) (pa_cons (pe_mid (pe_ifExp (pt_cmpR op_ne (pe_ix ix_tup (pv 21) pe_int (fun _ _ => rfl)) pe_str (nomark _)) (pe_ix ix_list (pv 22) pe_int (fun _ _ => rfl)) (pe_ix ix_tup (pv 21) pe_int (fun _ _ => rfl)))) pa_nil)))) (pe_slice sl_tupA (pv 21) (po_some pe_int) po_none)) pa_nil))))))))
      (pss_one (ps_expr (pe_bm PySem.F.plainAttrs_list PySem.F.slot_list_append PySem.F.type_list_append mt_append (pv 14) (pa_cons (pe_tup (pa_cons (pv 16) (pa_cons (pe_has DC (hr.mono (by omega)) rfl (pa_cons (pv 15) (pa_cons (pe_ix ix_list (pv 1) pe_int (fun _ _ => rfl)) pa_nil))) (pa_cons (pe_dget2 hu (pv 7) (pv 18) (pv 18) ⟨rfl, rfl, rfl, rfl⟩) (pa_cons (pe_dget2 hu (pv 7) (pv 19) (pv 19) ⟨rfl, rfl, rfl, rfl⟩) (pa_cons (pe_callTy call_tuple_of (by rfl) G.tuple (by decide +kernel) (pa_cons (pv 11) pa_nil)) pa_nil)))))) pa_nil)))))))
      (pss_cons (ps_set (i := 23) scNam.nd rfl (Or.inl rfl) (pe_lst pa_nil))
      (C8.pss_cut (ps_for PassesOwn.never rfl (pi_tup (pv 4)) (pg_tup rfl (pgs_cons (pg_name (i := 10) scNam.nd rfl (Or.inl rfl)) (pgs_cons (pg_name (i := 11) scNam.nd rfl (Or.inl rfl)) pgs_nil)))
      (pss_one (ps_expr (pe_bm PySem.F.plainAttrs_list PySem.F.slot_list_append PySem.F.type_list_append mt_append (pv 23) (pa_cons (pe_tup (pa_cons (pe_dget hu (pv 7) (pv 10) (fun _ _ => rfl)) (pa_cons (pe_callTy call_tuple_of (by rfl) G.tuple (by decide +kernel) (pa_cons (pe_lc (own := [("_law_mark", 16), ("_law_word", 17)]) (g := (gTup K 2 (gCons (gName 16) (gCons (gName 17) gNil)))) (tt := tYes) (te := tTup (tCons (tVar 16) (tCons (tCall spCod [] E0 (tCons (tVar 16) (tCons (tOp (rIxL K) (tVar 1) (tC (.int 1))) tNil))) tNil))) rfl scNam.nd (pi_tup (pv 11)) (blkOk_by (N := nNam) (sc := defScope sNam) (by decide +kernel)) (fun _ _ _ _ _ => (pg_tup rfl (pgs_cons (pg_name (i := 16) scNam.nd rfl (Or.inl rfl)) (pgs_cons (pg_name (i := 17) scNam.nd rfl (Or.inl rfl)) pgs_nil)))) (fun _ _ _ _ _ => pts_nil) (fun _ _ _ _ _ => (pe_tup (pa_cons (pv 16) (pa_cons (pe_has DC (hr.mono (by omega)) rfl (pa_cons (pv 16) (pa_cons (pe_ix ix_list (pv 1) pe_int (fun _ _ => rfl)) pa_nil))) pa_nil))))) pa_nil)) pa_nil))) pa_nil)))))
      (pss_one (ps_ret (pe_tup (pa_cons (pv 2) (pa_cons (pv 3) (pa_cons (pe_callTy call_tuple_of (by rfl) G.tuple (by decide +kernel) (pa_cons (pv 23) pa_nil)) (pa_cons (pe_callTy call_tuple_of (by rfl) G.tuple (by decide +kernel) (pa_cons (pv 9) pa_nil)) (pa_cons (pe_callTy call_tuple_of (by rfl) G.tuple (by decide +kernel) (pa_cons (pv 14) pa_nil)) pa_nil)))))))))))))))), ?_⟩
    rw [show (L2.start nNam [V.ref p, V.ref hd]) = [some (V.ref p), some (V.ref hd), none, none, none, none, none, none, none, none, none, none, none, none, none, none, none, none, none, none, none, none, none, none] from rfl]
    refine ⟨_, rfl, p, _, rfl, SqT.of hp, rfl, _, _, rfl, _, _, rfl, _, _, rfl, _, _, rfl, _, _, rfl, rfl, ?_⟩
    try dsimp only [List.set_cons_succ, List.set_cons_zero]
    refine ⟨_, rfl, _, rfl, .ref p, hd, h, own, age, cs, recs, cws, rfl, hv0, pw, hh, l1, l2, fun t d1 d2 L H1 S1 ht pm so e1 e2 => ?_⟩
    refine ⟨t, _, rfl, SqT.of ht, rfl, _, _, rfl, _, _, rfl, rfl, ?_⟩
    try dsimp only [List.set_cons_succ, List.set_cons_zero]
    obtain ⟨sd, hsd⟩ : ∃ sd, sd = sdF h.1 L := ⟨_, rfl⟩
    obtain ⟨fn, hfn⟩ : ∃ fn, fn = sdF h.2.1 (fnL recs) := ⟨_, rfl⟩
    have inL : ∀ {z : Str}, z ∈ cs.map (·.1) ++ recs.map (·.1) → z ∈ L := fun {z} hz => pm.mem_iff.mpr hz
    have inF : ∀ r ∈ recs, ∀ f ∈ r.2, f.nam ∈ fnL recs := fun r hr f hf => ((fn_fold (l := recs) (F := []) (fun r hr => pw.rc.fl r hr) List.nodup_nil).2.2 f.nam).mpr (.inr ⟨r, hr, List.mem_map.mpr ⟨f, hf, rfl⟩⟩)
    have t3a := t3.keep (Same.fk S1) (Same.tk S1)
    have t4a := t4.keep (Same.fk S1) (Same.tk S1)
    have t5a := Tp.keep (Same.tk S1) _ _ t5
    have hh1 := S1 _ _ hh
    obtain ⟨pk, ok9, xk, rfl, hpk, plk, txk⟩ := TpF.inv t3a
    obtain ⟨pr, or, xr, rfl, hpr, plr, txr⟩ := TpF.inv t4a
    obtain ⟨pc, xc, rfl, hpc, txc⟩ := Tp.inv t5a
    have lxr : xr.length = recs.length := by rw [txr.length, List.length_map, List.length_map]
    have lxk : xk.length = cs.length := by rw [txk.length, List.length_map, lcp]
    have lxc : xc.length = cws.length := by rw [txc.length, List.length_map]
    -- the records
    refine ⟨Nat.zero_le _, fun Fo hFo => ?_⟩
    have S2 := Same.new (H := H1) (o := .lst []) hFo
    have e20 : (upd H1 Fo (.lst [])) Fo = some (.lst []) := upd_same
    generalize hH2 : (upd H1 Fo (.lst [])) = H2 at *
    try dsimp only [List.set_cons_succ, List.set_cons_zero]
    refine ⟨fun σ H' => ∃ (us : List V) (a10 a11 a12 a13 : Option V), σ = [some (.ref p), some (.ref hd), some (.str own), some (.int age), some (.ref pk), some (.ref pr), some (.ref pc), some (.ref d1), some (.ref d2), some (.ref Fo), a10, a11, a12, a13, none, none, none, none, none, none, none, none, none, none] ∧ Same H1 H' ∧ H' Fo = some (.lst us) ∧ TpAll H' us ((recsN sd fn recs).map fun r => .tuple [.str r.1, fieldsD r.2]), ?_, ?_⟩
    · refine ⟨_, rfl, pr, rfl, ⟨_, SqT.fz (S2 _ _ hpr)⟩, ?_⟩
      refine for_tup (xs := xr) (fun i σ H' => ∃ (us : List V) (a10 a11 a12 a13 : Option V), σ = [some (.ref p), some (.ref hd), some (.str own), some (.int age), some (.ref pk), some (.ref pr), some (.ref pc), some (.ref d1), some (.ref d2), some (.ref Fo), a10, a11, a12, a13, none, none, none, none, none, none, none, none, none, none] ∧ Same H1 H' ∧ H' Fo = some (.lst us) ∧ us.length = i ∧ TpAll H' us ((recsN sd fn (recs.take i)).map fun r => .tuple [.str r.1, fieldsD r.2])) ?_ ?_ ?_ ?_
      · exact ⟨[], _, _, _, _, rfl, S2, e20, rfl, .nil⟩
      · rintro i σ H' _ ⟨us, a10, a11, a12, a13, rfl, S', _⟩
        exact SqT.fz (S' _ _ hpr)
      · rintro i x σ H3 hx ⟨us, a10, a11, a12, a13, rfl, S3, eF, lus, tus⟩
        have txr3 := TpAll.keep (Same.tk S3) _ _ txr
        obtain ⟨d, hd9, td⟩ := txr3.get' hx
        rw [List.map_map] at hd9
        obtain ⟨r, hr9, rfl⟩ := mapAt hd9
        have hrm := List.mem_of_getElem? hr9
        have fw := pw.rc.fl r hrm
        have l5 := fw.l5
        obtain ⟨a, y, u, rfl, ha, hy, hu2⟩ := Tp.pair td
        rw [hy.istr] at ha
        obtain ⟨fa, fvs, rfl, hfa, tfs⟩ := Tp.inv hu2
        refine ⟨a, _, rfl, SqT.of ha, rfl, _, _, rfl, _, _, rfl, rfl, ?_⟩
        try dsimp only [List.set_cons_succ, List.set_cons_zero]
        have hi6 : i < recs.length := (List.getElem?_eq_some_iff.mp hr9).1
        refine ⟨fun σ H' => ∃ (Rw : Addr) (zs : List V) (a13 : Option V), σ = [some (.ref p), some (.ref hd), some (.str own), some (.int age), some (.ref pk), some (.ref pr), some (.ref pc), some (.ref d1), some (.ref d2), some (.ref Fo), some (.str r.1), some (.ref fa), some (.ref Rw), a13, none, none, none, none, none, none, none, none, none, none] ∧ Same H3 H' ∧ H' Rw = some (.lst zs) ∧ TpAll H' zs ((r.2.map (flN sd fn)).map Fl.d), ?_, ?_⟩
        · refine ⟨_, rfl, fa, rfl, ⟨_, SqT.of hfa⟩, fun D hD => ?_⟩
          refine lcG_tup (xs := fvs) (l := r.2) (dx := Fl.d) (val := fun f => (flN sd fn f).d) (keep := fun _ => true) (fun H' S => SqT.of (S _ _ hfa)) tfs (by rw [sizeLine_eq]; omega) hD ?_ ?_
          · intro j f x H' hj S' tf N M hN hM
            have hfm := List.mem_of_getElem? hj
            obtain ⟨t4, x1, x2, x3, x4, rfl, h4, u1, u2, u3, u4⟩ := Tp.four tf
            rw [u1.iint, u2.istr, u4.istr] at h4
            have e1' := S' _ _ (S3 _ _ e1)
            have e2' := S' _ _ (S3 _ _ e2)
            refine ⟨rfl, yes (iteT ?_)⟩
            refine ⟨_, rfl, t4, _, _, _, rfl, rfl, SqT.of h4, rfl, _, rfl, _, rfl, t4, _, _, _, rfl, rfl, SqT.of h4, rfl, d2, _, rfl, get_in e2' (inF r hrm f hfm), _, rfl, t4, _, _, _, rfl, rfl, SqT.of h4, rfl, _, rfl, x3, d1, f.kd, L, h.1, rfl, u3, e1', trivial, fun v' H'' S'' t' => ?_⟩
            refine ⟨_, rfl, t4, _, _, _, rfl, rfl, SqT.of (S'' _ _ h4), rfl, (by show 4 ≤ sizeLine; decide), fun t ht => ?_⟩
            obtain ⟨S9, t9⟩ := tupNew (xs := [.int f.num, .str (sdF h.2.1 (fnL recs) f.nam), v', .str (needS f.must)]) ht (.cons (.int _) (.cons (.str _) (.cons t' (.cons (.str _) .nil))))
            refine hM rfl _ _ (S''.trans S9) ?_
            rw [hsd, hfn]
            exact t9
          intro H4 zs S4 eR tz
          rw [filt_all] at tz
          try dsimp only [List.set_cons_succ, List.set_cons_zero]
          exact ⟨D, zs, _, rfl, S4, eR, by rw [List.map_map]; exact tz⟩
        rintro σ H4 ⟨Rw, zs, a13', rfl, S4, eR, tz⟩
        have eF4 := S4 _ _ eF
        have S14 := S3.trans S4
        have e14 := S14 _ _ e1
        have inr : r.1 ∈ L := inL (List.mem_append_right _ (List.mem_map.mpr ⟨r, hrm, rfl⟩))
        refine ⟨_, rfl, .inl ⟨rfl, _, SqL.of eF4⟩, _, rfl, _, rfl, d1, _, rfl, get_in e14 inr, _, rfl, Rw, _, rfl, .inl ⟨SqL.of eR, fun tp htp => ⟨(by show 2 ≤ sizeLine; decide), fun t6 ht6 => ?_⟩⟩⟩
        obtain ⟨S5, t5⟩ := tupNew (xs := zs) htp tz
        generalize (upd H4 tp (.tup zs)) = H5 at *
        obtain ⟨S6, t6'⟩ := tupNew (xs := [.str (sdF h.1 L r.1), .ref tp]) ht6 (.cons (.str _) (.cons t5 .nil))
        generalize (upd H5 t6 (.tup [.str (sdF h.1 L r.1), .ref tp])) = H6 at *
        have eF6 := S6 _ _ (S5 _ _ eF4)
        have W : Tk H6 (upd H6 Fo (.lst (us ++ [.ref t6]))) := Tk.wr eF6
        have S46 := (S4.trans S5).trans S6
        refine ⟨Fo, _, _, rfl, rfl, eF6, (by rw [lus, sizeLine_eq]; omega), ?_⟩
        refine ⟨us ++ [.ref t6], _, _, _, _, rfl, Same.wr (S3.trans S46) hFo, upd_same, by rw [List.length_append]; show _ + 1 = _; omega, ?_⟩
        rw [List.take_add_one, hr9]
        have e9 : recsN sd fn (recs.take i ++ [r]) = recsN sd fn (recs.take i) ++ [(sd r.1, r.2.map (flN sd fn))] := by
          unfold recsN
          rw [List.map_append]
          rfl
        show TpAll _ _ ((recsN sd fn (recs.take i ++ [r])).map _)
        rw [e9, List.map_append]
        refine (TpAll.keep W _ _ (TpAll.keep (Same.tk S46) _ _ tus)).app (TpAll.one (Tp.keep W _ _ ?_))
        rw [hsd]
        rw [hsd] at t6'
        exact t6'
      · rintro σ H' ⟨us, a10, a11, a12, a13, rfl, S', eF, lus, tus⟩
        rw [lxr, List.take_length] at tus
        exact ⟨us, _, _, _, _, rfl, S', eF, tus⟩
    rintro σ H3 ⟨us, a10, a11, a12, a13, rfl, S3, eF, tus⟩
    -- the calls
    refine ⟨Nat.zero_le _, fun Do hDo => ?_⟩
    have S4 := Same.new (H := H3) (o := .lst []) hDo
    have e40 : (upd H3 Do (.lst [])) Do = some (.lst []) := upd_same
    have S34 := S3.trans S4
    have eF4 := S4 _ _ eF
    have tus4 := TpAll.keep (Same.tk S4) _ _ tus
    generalize (upd H3 Do (.lst [])) = H4 at *
    try dsimp only [List.set_cons_succ, List.set_cons_zero]
    refine ⟨fun σ H' => ∃ (ws : List V) (a10 a11 a15 a16 a17 a18 a19 a20 a21 a22 : Option V), σ = [some (.ref p), some (.ref hd), some (.str own), some (.int age), some (.ref pk), some (.ref pr), some (.ref pc), some (.ref d1), some (.ref d2), some (.ref Fo), a10, a11, a12, a13, some (.ref Do), a15, a16, a17, a18, a19, a20, a21, a22, none] ∧ Same H3 H' ∧ H' Do = some (.lst ws) ∧ TpAll H' ws ((cwN sd fn h.2.2 0 cws).map Cw.d), ?_, ?_⟩
    · have e14 := S34 _ _ e1
      have e24 := S34 _ _ e2
      have hh4 := S34 _ _ hh1
      have hpc4 := S34 _ _ hpc
      have txc4 := TpAll.keep (Same.tk S34) _ _ txc
      refine ⟨_, rfl, pc, xc, rfl, SqT.of hpc4, ?_⟩
      refine L2.for_it walk_enumT (fun j σ H' => ∃ (ws : List V) (a10 a11 a15 a16 a17 a18 a19 a20 a21 a22 : Option V), σ = [some (.ref p), some (.ref hd), some (.str own), some (.int age), some (.ref pk), some (.ref pr), some (.ref pc), some (.ref d1), some (.ref d2), some (.ref Fo), a10, a11, a12, a13, some (.ref Do), a15, a16, a17, a18, a19, a20, a21, a22, none] ∧ Same H3 H' ∧ Same H3 H' ∧ H' Do = some (.lst ws) ∧ ws.length = j ∧ TpAll H' ws ((cwN sd fn h.2.2 0 (cws.take j)).map Cw.d)) ?_ ?_ ?_ ?_
      · exact ⟨[], _, _, _, _, _, _, _, _, _, _, rfl, S4, S4, e40, rfl, .nil⟩
      · rintro j σ H' _ ⟨_, _, _, _, _, _, _, _, _, _, _, _, S', _⟩
        exact SqT.of ((S3.trans S') _ _ hpc)
      · rintro j x σ H5 H6 hj ⟨ws, a10, a11, a15, a16, a17, a18, a19, a20, a21, a22, rfl, S5, _, eD, lws, tws⟩ ⟨Tt, y1, y2, rfl, hT, rfl, g1, g2⟩
        cases g1
        obtain ⟨dd, hd1, td⟩ := txc.get' g2
        obtain ⟨c, hc, rfl⟩ := mapAt hd1
        have cw9 := pw.cw.ok c (List.mem_of_getElem? hc)
        have ld6 := cw9.l
        have hj6 : j < cws.length := (List.getElem?_eq_some_iff.mp hc).1
        obtain ⟨t, ea, xs, rfl, ht, he, txs⟩ := cw_at (Tp.keep (Same.tk (S3.trans S5)) _ _ td)
        have lxs : xs.length = c.ds.length := by rw [txs.length, List.length_map]
        have S6 : Same H5 (upd H5 Tt (.tup [.int (j : Nat), .ref t])) := Same.new hT
        have eT : (upd H5 Tt (.tup [.int (j : Nat), .ref t])) Tt = some (.tup [.int (j : Nat), .ref t]) := upd_same
        have eD6 := S6 _ _ eD
        have tws6 := TpAll.keep (Same.tk S6) _ _ tws
        have ht6 := S6 _ _ ht
        have he6 := S6 _ _ he
        have txs6 := TpAll.keep (Same.tk S6) _ _ txs
        have S36 := S5.trans S6
        generalize (upd H5 Tt (.tup [.int (j : Nat), .ref t])) = H6 at *
        refine ⟨Tt, _, rfl, SqT.of eT, rfl, _, _, rfl, _, _, rfl, t, _, rfl, SqT.of ht6, rfl, _, _, rfl, _, _, rfl, _, _, rfl, _, _, rfl, _, _, rfl, rfl, rfl, ?_⟩
        try dsimp only [List.set_cons_succ, List.set_cons_zero]
        refine ⟨Nat.zero_le _, fun So hSo => ?_⟩
        have S7 := Same.new (H := H6) (o := .lst []) hSo
        have e70 : (upd H6 So (.lst [])) So = some (.lst []) := upd_same
        have eD7 := S7 _ _ eD6
        have tws7 := TpAll.keep (Same.tk S7) _ _ tws6
        have he7 := S7 _ _ he6
        have txs7 := TpAll.keep (Same.tk S7) _ _ txs6
        have S37 := S36.trans S7
        have nSD : So ≠ Do := fun e => by rw [e, eD6] at hSo; cases hSo
        generalize (upd H6 So (.lst [])) = H7 at *
        try dsimp only [List.set_cons_succ, List.set_cons_zero]
        refine ⟨fun σ H' => ∃ (vs : List V) (a10 a21 a22 : Option V), σ = [some (.ref p), some (.ref hd), some (.str own), some (.int age), some (.ref pk), some (.ref pr), some (.ref pc), some (.ref d1), some (.ref d2), some (.ref Fo), a10, some (.ref So), a12, a13, some (.ref Do), some (.int (j : Nat)), some (.int c.num), some (.str c.nam), some (.str c.ask), some (.str c.ans), some (.ref ea), a21, a22, none] ∧ Same H6 H' ∧ H' So = some (.lst vs) ∧ TpAll H' vs ((c.ds.map (renD fn)).map dD), ?_, ?_⟩
        · refine ⟨_, rfl, ea, rfl, ⟨_, SqT.of he7⟩, ?_⟩
          refine for_tup (xs := xs) (fun i σ H' => ∃ (vs : List V) (a10 a21 a22 : Option V), σ = [some (.ref p), some (.ref hd), some (.str own), some (.int age), some (.ref pk), some (.ref pr), some (.ref pc), some (.ref d1), some (.ref d2), some (.ref Fo), a10, some (.ref So), a12, a13, some (.ref Do), some (.int (j : Nat)), some (.int c.num), some (.str c.nam), some (.str c.ask), some (.str c.ans), some (.ref ea), a21, a22, none] ∧ Same H6 H' ∧ H' So = some (.lst vs) ∧ vs.length = i ∧ TpAll H' vs (((c.ds.take i).map (renD fn)).map dD)) ?_ ?_ ?_ ?_
          · exact ⟨[], _, _, _, rfl, S7, e70, rfl, .nil⟩
          · rintro i σ H' _ ⟨vs, a10, a21, a22, rfl, S', _⟩
            exact SqT.of (S' _ _ he6)
          · rintro i x σ H8 hx ⟨vs, a10, a21, a22, rfl, S8, eS, lvs, tvs⟩
            obtain ⟨dd, hd2, td2⟩ := txs6.get' hx
            obtain ⟨d, hdd, rfl⟩ := mapAt hd2
            have dw := cw9.ds d (List.mem_of_getElem? hdd)
            have hi6 : i < c.ds.length := (List.getElem?_eq_some_iff.mp hdd).1
            have tdd := Tp.keep (Same.tk S8) _ _ td2
            obtain ⟨td1, rfl, htd⟩ := dD_at tdd
            obtain ⟨a, b, c3, r, rfl⟩ : ∃ a b c3 r, d = a :: b :: c3 :: r := by
              have l3 := dw.1
              match d, l3 with
              | a :: b :: c3 :: r, _ => exact ⟨a, b, c3, r, rfl⟩
            have htd : H8 td1 = some (.tup (.str a :: .str b :: .str c3 :: r.map V.str)) := htd
            have a0 : atI (V.str a :: .str b :: .str c3 :: r.map V.str) 0 = some (.str a) := atI_nat (i := 0) rfl
            have a2 : atI (V.str a :: .str b :: .str c3 :: r.map V.str) 2 = some (.str c3) := atI_nat (i := 2) rfl
            have hds : (c.ds.take (i + 1)) = c.ds.take i ++ [a :: b :: c3 :: r] := by
              rw [List.take_add_one, hdd]
              rfl
            refine ⟨_, rfl, td1, _, _, _, rfl, rfl, SqT.of htd, a0, rfl, _, rfl, ite2 (fun ha => ?_) (fun ha => ?_)⟩
            · have ha : a = "ask" := eqS ha
              have W : Tk H8 (upd H8 So (.lst (vs ++ [.ref td1]))) := Tk.wr eS
              refine ⟨_, rfl, .inl ⟨rfl, _, SqL.of eS⟩, _, rfl, So, _, _, rfl, rfl, eS, (by rw [lvs, sizeLine_eq]; omega), ?_⟩
              refine ⟨vs ++ [.ref td1], _, _, _, rfl, Same.wr S8 hSo, upd_same, by rw [List.length_append]; show _ + 1 = _; omega, ?_⟩
              rw [hds, List.map_append, List.map_append]
              refine (TpAll.keep W _ _ tvs).app (TpAll.one ?_)
              subst ha
              rw [renD_ask]
              exact Tp.keep W _ _ tdd
            · have ha : a ≠ "ask" := neS ha
              refine ⟨_, rfl, _, rfl, _, rfl, ?_⟩
              refine tpSl (lo := some 1) (hi := some 3) tdd fun rr H9 S9 tr => ?_
              have tr : Tp H9 rr (.tuple (([b, c3] : List Str).map PyData.str)) := tr
              obtain ⟨ra, rxs, rfl, hra, trx⟩ := Tp.inv tr
              have e29 := (S36.trans (S8.trans S9)) 
              have e2x : H9 d2 = some (.dK (tbF h.2.1 0 (fnL recs))) := (S3.trans e29) _ _ e2
              refine ⟨ra, rfl, ⟨_, SqT.of hra⟩, fun D hD => ?_⟩
              refine lcG_tup (xs := rxs) (l := [b, c3]) (dx := PyData.str) (val := fun z => .str (fn z)) (keep := fun _ => true) (fun H' S => SqT.of (S _ _ hra)) trx (by rw [sizeLine_eq]; show 2 < _; decide) hD ?_ ?_
              · intro jj z x H' hj S' tz N M hN hM
                rw [tz.istr]
                obtain ⟨o, ho, eo⟩ := get_tab (S' _ _ e2x) z
                refine ⟨rfl, yes (iteT ⟨_, rfl, d2, rfl, .inl ⟨_, .inl (S' _ _ e2x)⟩, _, rfl, _, rfl, o, ho, ?_⟩)⟩
                rw [eo, ← hfn]
                exact hM rfl _ _ (Same.refl _) (.str _)
              intro Ha zs Sa eL tz
              rw [filt_all] at tz
              have ez := tp_strsM tz
              subst ez
              try dsimp only [List.set_cons_succ, List.set_cons_zero]
              have S8a := S9.trans Sa
              have htda := S8a _ _ htd
              have eSa := S8a _ _ eS
              refine ⟨_, rfl, .inl ⟨rfl, _, SqL.of eSa⟩, _, rfl, td1, _, _, _, rfl, rfl, SqT.of htda, a0, _, rfl, D, _, 0, _, rfl, rfl, SqL.of eL, (atI_nat (i := 0) rfl : atI [V.str (fn b), V.str (fn c3)] 0 = some (.str (fn b))), ?_⟩
              refine ⟨fun v H' => H' = Ha ∧ v = .str (if a = "get" then c3 else fn c3), ?_, ?_⟩
              · refine ⟨_, rfl, td1, _, _, _, rfl, rfl, SqT.of htda, a0, rfl, _, rfl, ite2 (fun hg => ?_) (fun hg => ?_)⟩
                · have hg : a ≠ "get" := fun e => by
                    subst e
                    exact absurd hg (by decide +kernel)
                  refine ⟨_, rfl, D, _, 1, _, rfl, rfl, SqL.of eL, (atI_nat (i := 1) rfl : atI [V.str (fn b), V.str (fn c3)] 1 = some (.str (fn c3))), rfl, ?_⟩
                  rw [if_neg hg]
                · have hg : a = "get" := by
                    by_cases e : a = "get"
                    · exact e
                    · exfalso
                      apply hg
                      rw [decide_eq_false (sne e)]
                      rfl
                  refine ⟨_, rfl, td1, _, _, _, rfl, rfl, SqT.of htda, a2, rfl, ?_⟩
                  rw [if_pos hg]
              rintro v H' ⟨rfl, rfl⟩
              refine ⟨(by show 3 ≤ sizeLine; decide), fun tn htn => ?_⟩
              generalize hz3 : (if a = "get" then c3 else fn c3) = z3 at *
              obtain ⟨Sb, tb⟩ := tupNew (xs := [.str a, .str (fn b), .str z3]) htn (.cons (.str _) (.cons (.str _) (.cons (.str _) .nil)))
              generalize (upd H' tn (.tup [.str a, .str (fn b), .str z3])) = Hb at *
              refine ⟨_, rfl, _, rfl, npT ?_⟩
              refine tpSl (lo := some 3) (hi := none) (Tp.keep (Same.tk (S8a.trans Sb)) _ _ tdd) fun r4 Hc Sc t4 => ?_
              have t4 : Tp Hc r4 (.tuple (r.map PyData.str)) := by
                have e : cutG ((a :: b :: c3 :: r).map PyData.str) (some 3) none = r.map PyData.str := cutG_from _ 3
                rw [e] at t4
                exact t4
              refine tpCat (Tp.keep (Same.tk Sc) _ _ tb) t4 ?_ fun r5 Hd Sd t5 => ?_
              · have l4 := dw.2.1
                rw [List.length_map]
                show 3 + r.length ≤ 10000
                have l4 : r.length + 1 + 1 + 1 ≤ 4 := l4
                omega
              have S8d := ((S8a.trans Sb).trans Sc).trans Sd
              have eSd := S8d _ _ eS
              have W : Tk Hd (upd Hd So (.lst (vs ++ [r5]))) := Tk.wr eSd
              refine ⟨So, _, _, rfl, rfl, eSd, (by rw [lvs, sizeLine_eq]; omega), ?_⟩
              refine ⟨vs ++ [r5], _, _, _, rfl, Same.wr (S8.trans S8d) hSo, upd_same, by rw [List.length_append]; show _ + 1 = _; omega, ?_⟩
              rw [hds, List.map_append, List.map_append]
              refine (TpAll.keep W _ _ (TpAll.keep (Same.tk S8d) _ _ tvs)).app (TpAll.one (Tp.keep W _ _ ?_))
              rw [renD_no fn ha, hz3]
              exact t5
          · rintro σ H' ⟨vs, a10, a21, a22, rfl, S', eS, lvs, tvs⟩
            rw [lxs, List.take_length] at tvs
            exact ⟨vs, _, _, _, rfl, S', eS, tvs⟩
        rintro σ H8 ⟨vs, a10', a21', a22', rfl, S8, eS, tvs⟩
        have S38 := S36.trans S8
        have eD8 := S8 _ _ eD6
        have hh8 := (S3.trans S38) _ _ hh1
        have e18 := (S3.trans S38) _ _ e1
        obtain ⟨o1, ho1, eo1⟩ := get_tab e18 c.ask
        obtain ⟨o2, ho2, eo2⟩ := get_tab e18 c.ans
        refine ⟨_, rfl, .inl ⟨rfl, _, SqL.of eD8⟩, _, rfl, _, rfl, _, rfl, hd, _, 2, _, rfl, rfl, SqL.of hh8, rfl, j, h.2.2, rfl, by omega, l3, _, rfl, d1, rfl, .inl ⟨_, .inl e18⟩, _, rfl, _, rfl, o1, ho1, _, rfl, d1, rfl, .inl ⟨_, .inl e18⟩, _, rfl, _, rfl, o2, ho2, _, rfl, So, _, rfl, .inl ⟨SqL.of eS, fun tp htp => ⟨(by show 5 ≤ sizeLine; decide), fun t6 ht6 => ?_⟩⟩⟩
        rw [eo1, eo2] at *
        obtain ⟨S9, t9⟩ := tupNew (xs := vs) htp tvs
        generalize (upd H8 tp (.tup vs)) = H9 at *
        obtain ⟨Sa, ta⟩ := tupNew (xs := [.int c.num, .str (codeS j h.2.2), .str (sdF h.1 L c.ask), .str (sdF h.1 L c.ans), .ref tp]) ht6 (.cons (.int _) (.cons (.str _) (.cons (.str _) (.cons (.str _) (.cons t9 .nil)))))
        generalize (upd H9 t6 (.tup [.int c.num, .str (codeS j h.2.2), .str (sdF h.1 L c.ask), .str (sdF h.1 L c.ans), .ref tp])) = Ha at *
        have eDa := Sa _ _ (S9 _ _ eD8)
        have W : Tk Ha (upd Ha Do (.lst (ws ++ [.ref t6]))) := Tk.wr eDa
        have S6a := (S8.trans S9).trans Sa
        refine ⟨Do, _, _, rfl, rfl, eDa, (by rw [lws, sizeLine_eq]; omega), ?_⟩
        refine ⟨ws ++ [.ref t6], _, _, _, _, _, _, _, _, _, _, rfl, Same.wr (S36.trans S6a) hDo, Same.wr (S36.trans S6a) hDo, upd_same, by rw [List.length_append]; show _ + 1 = _; omega, ?_⟩
        rw [List.take_add_one, hc]
        show TpAll _ _ ((cwN sd fn h.2.2 0 (cws.take j ++ [c])).map Cw.d)
        rw [cwN_app, List.map_append, Nat.zero_add, List.length_take, Nat.min_eq_left (by omega)]
        refine (TpAll.keep W _ _ (TpAll.keep (Same.tk S6a) _ _ tws6)).app (TpAll.one (Tp.keep W _ _ ?_))
        rw [hsd]
        exact ta
      · rintro σ H' ⟨ws, a10, a11, a15, a16, a17, a18, a19, a20, a21, a22, rfl, S', _, eD, lws, tws⟩
        rw [lxc, List.take_length] at tws
        exact ⟨ws, _, _, _, _, _, _, _, _, _, _, rfl, S', eD, tws⟩
    rintro σ H5 ⟨ws, a10', a11', a15, a16, a17, a18, a19, a20, a21, a22, rfl, S5, eD, tws⟩
    -- the choices
    refine ⟨Nat.zero_le _, fun Mo hMo => ?_⟩
    have S6 := Same.new (H := H5) (o := .lst []) hMo
    have e60 : (upd H5 Mo (.lst [])) Mo = some (.lst []) := upd_same
    generalize (upd H5 Mo (.lst [])) = H6 at *
    try dsimp only [List.set_cons_succ, List.set_cons_zero]
    refine ⟨fun σ H' => ∃ (ms : List V) (a10 a11 a16 a17 : Option V), σ = [some (.ref p), some (.ref hd), some (.str own), some (.int age), some (.ref pk), some (.ref pr), some (.ref pc), some (.ref d1), some (.ref d2), some (.ref Fo), a10, a11, a12, a13, some (.ref Do), a15, a16, a17, a18, a19, a20, a21, a22, some (.ref Mo)] ∧ Same H5 H' ∧ H' Mo = some (.lst ms) ∧ TpAll H' ms ((csN sd h.2.1 cs).map fun c => .tuple [.str c.1, optsD c.2]), ?_, ?_⟩
    · have S15 : Same H1 H5 := S3.trans S5
      have S16 := S15.trans S6
      have hpk6 := S16 _ _ hpk
      refine ⟨_, rfl, pk, rfl, ⟨_, SqT.fz hpk6⟩, ?_⟩
      refine for_tup (xs := xk) (fun i σ H' => ∃ (ms : List V) (a10 a11 a16 a17 : Option V), σ = [some (.ref p), some (.ref hd), some (.str own), some (.int age), some (.ref pk), some (.ref pr), some (.ref pc), some (.ref d1), some (.ref d2), some (.ref Fo), a10, a11, a12, a13, some (.ref Do), a15, a16, a17, a18, a19, a20, a21, a22, some (.ref Mo)] ∧ Same H5 H' ∧ H' Mo = some (.lst ms) ∧ ms.length = i ∧ TpAll H' ms ((csN sd h.2.1 (cs.take i)).map fun c => .tuple [.str c.1, optsD c.2])) ?_ ?_ ?_ ?_
      · exact ⟨[], _, _, _, _, rfl, S6, e60, rfl, .nil⟩
      · rintro i σ H' _ ⟨ms, a10, a11, a16, a17, rfl, S', _⟩
        exact SqT.fz ((S15.trans S') _ _ hpk)
      · rintro i x σ H7 hx ⟨ms, a10, a11, a16, a17, rfl, S7, eM, lms, tms⟩
        have S17 := S15.trans S7
        have txk7 := TpAll.keep (Same.tk S17) _ _ txk
        obtain ⟨d, hd9, td⟩ := txk7.get' hx
        unfold csP at hd9
        rw [List.map_map] at hd9
        obtain ⟨c, hc, rfl⟩ := mapAt hd9
        have hcm := List.mem_of_getElem? hc
        have hi6 : i < cs.length := (List.getElem?_eq_some_iff.mp hc).1
        have ow := pw.co.op c hcm
        have lo6 := ow.l6
        obtain ⟨a, y, u, rfl, ha, hy, hu2⟩ := Tp.pair td
        rw [hy.istr] at ha
        obtain ⟨oa, ovs, rfl, hoa, tos⟩ := Tp.inv hu2
        have e17 := S17 _ _ e1
        have hh7 := S17 _ _ hh1
        refine ⟨a, _, rfl, SqT.of ha, rfl, _, _, rfl, _, _, rfl, rfl, ?_⟩
        try dsimp only [List.set_cons_succ, List.set_cons_zero]
        have inc : c.1 ∈ L := inL (List.mem_append_left _ (List.mem_map.mpr ⟨c, hcm, rfl⟩))
        refine ⟨_, rfl, .inl ⟨rfl, _, SqL.of eM⟩, _, rfl, _, rfl, d1, _, rfl, get_in e17 inc, _, rfl, oa, rfl, ⟨_, SqT.of hoa⟩, fun D hD => ?_⟩
        refine lcG_tup (xs := ovs) (l := c.2) (dx := fun o => .tuple [.int o.1, .str o.2]) (val := fun o => .tuple [.int o.1, .str (codeS o.1.toNat h.2.1)]) (keep := fun _ => true) (fun H' S => SqT.of (S _ _ hoa)) tos (by rw [sizeLine_eq]; omega) hD ?_ ?_
        · intro jj o x H' hj S' tr N M hN hM
          have rg := ow.rg o (List.mem_of_getElem? hj)
          obtain ⟨a, y, u, rfl, ha, hy, hu2⟩ := Tp.pair tr
          rw [hy.iint] at ha
          refine ⟨a, _, rfl, SqT.of ha, rfl, _, _, rfl, _, _, rfl, rfl, rfl, yes (iteT ?_)⟩
          have eo : ((o.1.toNat : Nat) : Int) = o.1 := by omega
          refine ⟨_, rfl, _, rfl, _, rfl, hd, _, 1, _, rfl, rfl, SqL.of (S' _ _ hh7), (atI_nat (i := 1) rfl : atI [V.str h.1, V.str h.2.1, V.str h.2.2] 1 = some (.str h.2.1)), o.1.toNat, h.2.1, (by rw [eo] : [V.int o.1, V.str h.2.1] = [V.int ((o.1.toNat : Nat) : Int), V.str h.2.1]), by omega, l2, (by show 2 ≤ sizeLine; decide), fun t ht => ?_⟩
          obtain ⟨S9, t9⟩ := tupNew (xs := [.int o.1, .str (codeS o.1.toNat h.2.1)]) ht (.cons (.int _) (.cons (.str _) .nil))
          exact hM rfl _ _ S9 t9
        intro H8 zs S8 eD8 tz
        rw [filt_all] at tz
        refine ⟨D, _, rfl, .inl ⟨SqL.of eD8, fun tp htp => ⟨(by show 2 ≤ sizeLine; decide), fun t6 ht6 => ?_⟩⟩⟩
        obtain ⟨S9, t9⟩ := tupNew (xs := zs) htp tz
        generalize (upd H8 tp (.tup zs)) = H9 at *
        obtain ⟨Sa, ta⟩ := tupNew (xs := [.str (sdF h.1 L c.1), .ref tp]) ht6 (.cons (.str _) (.cons t9 .nil))
        generalize (upd H9 t6 (.tup [.str (sdF h.1 L c.1), .ref tp])) = Ha at *
        have S7a := (S8.trans S9).trans Sa
        have eMa := S7a _ _ eM
        have W : Tk Ha (upd Ha Mo (.lst (ms ++ [.ref t6]))) := Tk.wr eMa
        refine ⟨Mo, _, _, rfl, rfl, eMa, (by rw [lms, sizeLine_eq]; omega), ?_⟩
        refine ⟨ms ++ [.ref t6], _, _, _, _, rfl, Same.wr (S7.trans S7a) hMo, upd_same, by rw [List.length_append]; show _ + 1 = _; omega, ?_⟩
        rw [List.take_add_one, hc]
        have e9 : csN sd h.2.1 (cs.take i ++ [c]) = csN sd h.2.1 (cs.take i) ++ [(sd c.1, c.2.map fun o => (o.1, codeS o.1.toNat h.2.1))] := by
          unfold csN
          rw [List.map_append]
          rfl
        show TpAll _ _ ((csN sd h.2.1 (cs.take i ++ [c])).map _)
        rw [e9, List.map_append]
        refine (TpAll.keep W _ _ (TpAll.keep (Same.tk S7a) _ _ tms)).app (TpAll.one (Tp.keep W _ _ ?_))
        have ee : optsD (c.2.map fun o => (o.1, codeS o.1.toNat h.2.1)) = .tuple (c.2.map fun o => PyData.tuple [.int o.1, .str (codeS o.1.toNat h.2.1)]) := by
          unfold optsD
          rw [List.map_map]
          rfl
        show Tp Ha _ (.tuple [.str (sd c.1), optsD _])
        rw [ee, hsd]
        exact ta
      · rintro σ H' ⟨ms, a10, a11, a16, a17, rfl, S', eM, lms, tms⟩
        rw [lxk, List.take_length] at tms
        exact ⟨ms, _, _, _, _, rfl, S', eM, tms⟩
    rintro σ H7 ⟨ms, a10'', a11'', a16', a17', rfl, S7, eM, tms⟩
    have eF7 := S7 _ _ (S5 _ _ eF)
    have eD7 := S7 _ _ eD
    have T57 : Tk H5 H7 := Same.tk S7
    have T37 : Tk H3 H7 := (Same.tk S5).trans T57
    refine ⟨_, rfl, _, rfl, _, rfl, Mo, _, rfl, .inl ⟨SqL.of eM, fun m1 hm1 => ?_⟩⟩
    obtain ⟨S8, tm⟩ := tupNew (xs := ms) hm1 tms
    generalize (upd H7 m1 (.tup ms)) = H8 at *
    refine ⟨_, rfl, Fo, _, rfl, .inl ⟨SqL.of (S8 _ _ eF7), fun m2 hm2 => ?_⟩⟩
    obtain ⟨S9, tr⟩ := tupNew (xs := us) hm2 (TpAll.keep (T37.trans (Same.tk S8)) _ _ tus)
    generalize (upd H8 m2 (.tup us)) = H9 at *
    refine ⟨_, rfl, Do, _, rfl, .inl ⟨SqL.of (S9 _ _ (S8 _ _ eD7)), fun m3 hm3 => ⟨(by show 5 ≤ sizeLine; decide), fun m4 hm4 => ?_⟩⟩⟩
    obtain ⟨Sa, td⟩ := tupNew (xs := ws) hm3 (TpAll.keep ((T57.trans (Same.tk S8)).trans (Same.tk S9)) _ _ tws)
    generalize (upd H9 m3 (.tup ws)) = Ha at *
    have S7a := (S8.trans S9).trans Sa
    have tm' : Tp Ha (.ref m1) (rowsD (csP (csN sd h.2.1 cs))) := by
      have := Tp.keep (Same.tk (S9.trans Sa)) _ _ tm
      unfold rowsD csP
      rw [List.map_map]
      exact this
    have tr' : Tp Ha (.ref m2) (rowsD ((recsN sd fn recs).map rD)) := by
      have := Tp.keep (Same.tk Sa) _ _ tr
      unfold rowsD
      rw [List.map_map]
      exact this
    obtain ⟨Sb, tp⟩ := tupNew (xs := [.str own, .int age, .ref m1, .ref m2, .ref m3]) hm4 (.cons (.str _) (.cons (.int _) (.cons tm' (.cons tr' (.cons td .nil)))))
    refine q _ L _ (((((S1.trans S3).trans S5).trans S7).trans S7a).trans Sb) pm so ?_
    rw [← hsd, ← hfn]
    exact tp
end
end Fh

set_option Elab.async false
set_option linter.all false
set_option maxRecDepth 100000
set_option maxHeartbeats 4000000
namespace Fh
open PySem L2 PyProof.Rows
open PySem.Spec
/-! ### what is told, by the other names -/
abbrev rTupQ (K : PySem.W.Frag) : List V → Hp → VK → Prop := fun xs H Q => ∃ p ys, xs = [V.ref p] ∧ ((SqL K H p ys ∧ ∀ l, H l = none → Q (.ref l) (upd H l (.tup ys))) ∨ SqT K H p ys ∧ Q (.ref p) H)
theorem blk_fr {N : List Str} {sc scope : Scope} {own : List (Str × Nat)} {z : Str} (h : blkC N ⟨.function, [(z, .free)], false, false, []⟩ scope own = true) (hz : List.lookup z sc.names = some .cell) : BlkOk N sc scope own := by
  have h := blkOk_by h
  refine ⟨h.kind, h.uniq, h.ix, fun y hy e => .inl ?_, h.own⟩
  have key : ∀ (a : Str) (k : NameKind), List.lookup a [(z, NameKind.free)] = some k → a = z := fun a k q => by
    rw [List.lookup_cons] at q
    cases q2 : (a == z) with
    | true => exact eq_of_beq q2
    | false => rw [q2] at q; cases q
  rcases h.free y hy e with q | q
  · rw [key _ _ q]; exact hz
  · rw [key _ _ q]; exact hz
/-- codes of the one head beside those of the other -/
def pz (h h' : Str) : Nat → List Str → List (Str × Str)
  | _, [] => []
  | n, _ :: L => (codeS n h, codeS n h') :: pz h h' (n + 1) L
theorem pz_app (h h' : Str) : ∀ (L : List Str) (n : Nat) (y : Str), pz h h' n (L ++ [y]) = pz h h' n L ++ [(codeS (n + L.length) h, codeS (n + L.length) h')]
  | [], n, y => rfl
  | x :: L, n, y => by
    show _ :: pz h h' (n + 1) (L ++ [y]) = (_ :: pz h h' (n + 1) L) ++ _
    rw [pz_app h h' L (n + 1) y, show n + (x :: L).length = n + 1 + L.length by rw [List.length_cons]; omega]
    rfl
theorem pz_fst (h h' : Str) : ∀ (L : List Str) (n : Nat), (pz h h' n L).map (·.1) = (List.range' n L.length).map (fun k => codeS k h)
  | [], _ => rfl
  | x :: L, n => by
    rw [List.length_cons, List.range'_succ]
    show _ :: (pz h h' (n + 1) L).map (·.1) = _ :: _
    rw [pz_fst h h' L (n + 1)]
def accA (h h' : Str × Str × Str) (L F N : List Str) : List (Str × Str) := pz h.1 h'.1 0 L ++ pz h.2.1 h'.2.1 0 F ++ pz h.2.2 h'.2.2 0 N
theorem acc_sub (h h' : Str × Str × Str) {L F N : List Str} (l1 : L.length ≤ 12) (l2 : F.length ≤ 36) (l3 : N.length ≤ 7) : ((accA h h' L F N).map (·.1)).Sublist (allC h) := by
  have s : ∀ {a b : Nat} (g : Nat → Str), a ≤ b → ((List.range' 0 a).map g).Sublist ((List.range b).map g) := fun {a b} g hab => by
    rw [← List.range_eq_range', ← Nat.min_eq_left hab, ← List.take_range]
    exact (List.take_sublist _ _).map g
  unfold accA allC
  rw [List.map_append, List.map_append, pz_fst, pz_fst, pz_fst]
  exact ((s _ l1).append (s _ l2)).append (s _ l3) |>.trans (List.sublist_append_left _ _)
def kvA (l : List (Str × Str)) : List (Key × V) := l.map fun q => (.inr q.1, .str q.2)
def lkA (l : List (Str × Str)) (z : Str) : Option Str := (l.find? (fun q => decide (q.1 = z))).map (·.2)
theorem kvA_val : ∀ (l : List (Str × Str)) (z : Str), valV (kvA l) (.inr z) = (lkA l z).map V.str
  | [], _ => rfl
  | q :: l, z => by
    show valV ((.inr q.1, .str q.2) :: kvA l) (.inr z) = _
    unfold lkA
    rw [List.find?_cons]
    by_cases e : q.1 = z
    · rw [decide_eq_true e, e, valV_pos rfl]
      rfl
    · rw [decide_eq_false e, valV_neg (fun p => e (Sum.inr.inj p))]
      exact kvA_val l z
theorem kvA_int : ∀ (l : List (Str × Str)) (i : Int), valV (kvA l) (.inl i) = none
  | [], _ => rfl
  | q :: l, i => by
    show valV ((.inr q.1, .str q.2) :: kvA l) (.inl i) = none
    have ne : ((Sum.inr q.1 : Key), V.str q.2).1 ≠ .inl i := fun p => by cases p
    rw [valV_neg ne]
    exact kvA_int l i
theorem put_app {l : List (Str × Str)} {z y : Str} (h : z ∉ l.map (·.1)) : putK (kvA l) (.inr z) (.str y) = kvA (l ++ [(z, y)]) := by
  rw [put_newG (fun hm => h (by
    unfold kvA at hm
    rw [List.map_map] at hm
    obtain ⟨q, hq, e⟩ := List.mem_map.mp hm
    exact List.mem_map.mpr ⟨q, hq, Sum.inr.inj e⟩))]
  unfold kvA
  rw [List.map_append]
  rfl
theorem pz_take (h h' : Str) : ∀ (L : List Str) (n i : Nat), pz h h' n (L.take i) = (pz h h' n L).take i
  | [], _, _ => by rw [List.take_nil]; exact List.take_nil.symm
  | x :: L, n, 0 => rfl
  | x :: L, n, i + 1 => by
    show _ :: pz h h' (n + 1) (L.take i) = _ :: (pz h h' (n + 1) L).take i
    rw [pz_take h h' L (n + 1) i]
theorem new_pair {A l : List (Str × Str)} {q : Str × Str} (nd : (A.map (·.1)).Nodup) (s : (l ++ [q]).Sublist A) : q.1 ∉ l.map (·.1) := fun hm => by
  have n2 := List.Nodup.sublist (s.map (·.1)) nd
  rw [List.map_append] at n2
  exact (List.nodup_append.mp n2).2.2 q.1 hm q.1 (List.mem_singleton.mpr rfl) rfl
theorem co_at {h : Str} : ∀ {L : List Str} {n i : Nat} {z : Str}, L.Nodup → L[i]? = some z → co h n L z = some (codeS (n + i) h)
  | [], _, _, _, _, h => by cases h
  | y :: L, n, 0, z, _, hz => by
    cases hz
    unfold co
    rw [if_pos rfl]
    rfl
  | y :: L, n, i + 1, z, nd, hz => by
    rw [List.nodup_cons] at nd
    have hz : L[i]? = some z := hz
    unfold co
    rw [if_neg (fun e => nd.1 (by rw [← e]; exact List.mem_of_getElem? hz)), co_at nd.2 hz, show n + 1 + i = n + (i + 1) by omega]
theorem sd_at {h : Str} {L : List Str} {i : Nat} {z : Str} (nd : L.Nodup) (hz : L[i]? = some z) : sdF h L z = codeS i h := by
  unfold sdF
  rw [co_at nd hz, Nat.zero_add]
  rfl
theorem get_inz {h : Str} {L : List Str} {H : Hp} {d : Addr} {od : Obj} (hd : H d = some (.frz od (.dK (tbF h 0 L)))) {z : Str} (hz : z ∈ L) : DGet H d (.str z) (some (.str (sdF h L z))) := by
  obtain ⟨c, hc⟩ := co_in (h := h) (n := 0) hz
  refine .inl ⟨tbF h 0 L, Sum.inr z, .inr ⟨od, hd⟩, rfl, ?_⟩
  rw [tb_val]
  unfold sdF
  rw [hc]
  rfl
/-! sorted texts stand in one way -/
theorem rising_le : ∀ {r : List Str} {x : Str}, risingS x r = true → (x :: r).Pairwise (fun a b => a.cps.toList ≤ b.cps.toList)
  | [], x, _ => List.pairwise_singleton _ _
  | y :: r, x, h => by
    have h : (!ltCps y.cps.toList x.cps.toList && risingS y r) = true := h
    rw [Bool.and_eq_true, ltCps_eq] at h
    have ih := rising_le h.2
    have hxy : x.cps.toList ≤ y.cps.toList := by
      have := h.1
      simp at this
      exact this
    refine List.pairwise_cons.mpr ⟨fun z hz => ?_, ih⟩
    rcases List.mem_cons.mp hz with rfl | hz
    · exact hxy
    · exact List.le_trans hxy ((List.pairwise_cons.mp ih).1 z hz)
theorem sortedS_le : ∀ {r : List Str}, sortedS r = true → r.Pairwise (fun a b => a.cps.toList ≤ b.cps.toList)
  | [], _ => List.Pairwise.nil
  | _ :: _, h => rising_le h
theorem sorted_uniq {xs ys : List Str} (h1 : sortedS xs = true) (h2 : sortedS ys = true) (p : xs.Perm ys) : xs = ys := by
  refine List.Perm.eq_of_pairwise (le := fun a b : Str => a.cps.toList ≤ b.cps.toList) (fun a b _ _ e1 e2 => ?_) (sortedS_le h1) (sortedS_le h2) p
  have e := List.le_antisymm e1 e2
  cases a
  cases b
  exact congrArg Str.mk (Array.toList_inj.mp e)
def bkA (l : List (Str × Str)) (z : Str) : Str := (lkA l z).getD z
theorem wrk_ren {β : Str → Str} {x : List Key} (h : WrK x) : WrK (renRow β x) := by
  obtain ⟨w, a, r, rfl, hr⟩ := h
  rcases hr with ⟨hw, b, rfl⟩ | ⟨hw, rfl⟩ | ⟨hw, j, rfl⟩
  · exact ⟨w, β a, _, rfl, .inl ⟨hw, β b, rfl⟩⟩
  · exact ⟨w, β a, _, rfl, .inr (.inl ⟨hw, rfl⟩)⟩
  · exact ⟨w, β a, _, rfl, .inr (.inr ⟨hw, j, rfl⟩)⟩
theorem yat {xs : List V} {i : Nat} {H H' : Hp} {x : V} (h : YAt xs i H x H') : H' = H ∧ xs[i]? = some x := h
theorem get_ren {l : List (Str × Str)} {k : Key} : (valV (kvA l) k).getD (kV k) = kV (renKey (bkA l) k) := by
  cases k with
  | inl i => rw [kvA_int]; rfl
  | inr z =>
    rw [kvA_val]
    show _ = V.str (bkA l z)
    unfold bkA
    cases lkA l z <;> rfl
abbrev sImg : Stmt := top 54
abbrev nImg : List Str := ["_law_parts", "_law_told", "_law_heads", "_law_others", "_law_here", "_law_there", "_law_back", "_law_k", "_law_one", "_law_word"]
abbrev pImg : List Str := ["_law_parts", "_law_told", "_law_heads", "_law_others"]
def spImg : Sp := fun vs H Q _ => ∃ (v : V) (told hd od : Addr) (T : List Row) (h h' : Str × Str × Str) (own : Str) (age : Int) (cs : List Cho) (recs : List Rec) (cws : List Cw), vs = [v, .ref told, .ref hd, .ref od] ∧ PtF H v own age cs recs cws ∧ PtW own age cs recs cws ∧ H hd = some (.lst [.str h.1, .str h.2.1, .str h.2.2]) ∧ H od = some (.lst [.str h'.1, .str h'.2.1, .str h'.2.2]) ∧ h ∈ headsL ∧ h' ∈ headsL ∧
  RwL H told T ∧ (∀ x ∈ T.map (·.2), WrK x) ∧ T.length < 300 ∧
  ∀ (r : Addr) (T' : List Row) (L : List Str) (H' : Hp), Same H H' → H r = none → L.Perm (cs.map (·.1) ++ recs.map (·.1)) → PyProof.Rows.sortedS L = true → RwL H' r T' → (T'.map (·.2)).Perm ((T.map (·.2)).map (renRow (bkA (accA h h' L (fnL recs) (cws.map Cw.nam))))) → (T'.map (·.2)).Pairwise (fun x y => rowLe x y = true) → Q (.ref r) H'
section
variable {P : Program} {w : World} {K : PySem.W.Frag} {mg : Str → Option Value} {base : Heap}
theorem scImg : FnScope nImg pImg (defScope sImg) := ⟨rfl, rfl, rfl, by decide +kernel, rfl, by decide +kernel, by decide +kernel⟩
theorem ok_img {f : Addr} {fd : FuncData} (F : Fun K "_law_image" "_law_image" sImg f fd) (G : Glb mg) (DC : Has P w K mg base "_law_code" 1 pCod spCod) (DT : Has P w K mg base "_law_tables" 2 pTab spTab) : FnOk P w K mg base CX0 3 f fd pImg spImg := by
  refine F.ok scImg (fun vs H Q E h => ?_) (fun cdv A outer s H vs Q E hr h => ?_)
  · obtain ⟨v, told, hd, od, T, h, h', own, age, cs, recs, cws, rfl, _⟩ := h
    rfl
  · obtain ⟨v, told, hd, od, T, h, h', own, age, cs, recs, cws, rfl, hv, pw, hh, ho, mh, mo, X, wk, lT, q⟩ := h
    have hu := hu_of hr
    have hv0 := hv
    obtain ⟨p, v3, v4, v5, rfl, hp, t3, t4, t5⟩ := hv
    have lr6 := pw.rc.l6
    have lc6 := pw.co.l6
    have lw6 := pw.cw.l6
    have hl : ∀ g ∈ headsL, g.1.length ≤ 10 ∧ g.2.1.length ≤ 10 ∧ g.2.2.length ≤ 10 := by decide +kernel
    obtain ⟨b1, b2, b3⟩ := hl h mh
    obtain ⟨c1, c2, c3⟩ := hl h' mo
    refine ⟨_, (pss_cons (ps_par (i := 4) (j := 5) rfl scImg.nd rfl rfl (by decide) rfl rfl (pa_cons (pe_has DT (hr.mono (by omega)) rfl (pa_cons (pv 0) (pa_cons (pv 2) pa_nil))) (pa_cons (pe_has DT (hr.mono (by omega)) rfl (pa_cons (pv 0) (pa_cons (pv 3) pa_nil))) pa_nil)) (by rfl))
      (pss_cons (ps_set (i := 6) scImg.nd rfl (Or.inr rfl) pe_dnewK)
      (C8.pss_cut (ps_for PassesOwn.never rfl (pi_range1 rfl G.range (pa_cons pe_int pa_nil)) (pg_name (i := 7) scImg.nd rfl (Or.inl rfl))
      (pss_one (ps_lock (ps_for PassesOwn.never rfl (pi_keys (pe_ix ix_tup (pv 4) (pv 7) (fun _ _ => rfl))) (pg_name (i := 8) scImg.nd rfl (Or.inl rfl))
      (pss_one (ps_dput hu (pv 6) (pe_dget hu (pe_ix ix_tup (pv 4) (pv 7) (fun _ _ => rfl)) (pv 8) (fun _ _ => rfl)) (pe_dget hu (pe_ix ix_tup (pv 5) (pv 7) (fun _ _ => rfl)) (pv 8) (fun _ _ => rfl)) rfl))))))
      (C8.pss_cut (ps_for PassesOwn.never rfl (pi_range1 rfl G.range (pa_cons (pe_callB call_len_seq (by rfl) G.len (by decide +kernel) (pa_cons (pe_ix ix_tup (pv 0) pe_int (fun _ _ => rfl)) pa_nil)) pa_nil)) (pg_name (i := 7) scImg.nd rfl (Or.inl rfl))
      (pss_one (ps_dput hu (pv 6) (pe_has DC (hr.mono (by omega)) rfl (pa_cons (pv 7) (pa_cons (pe_ix ix_list (pv 2) pe_int (fun _ _ => rfl)) pa_nil))) (pe_has DC (hr.mono (by omega)) rfl (pa_cons (pv 7) (pa_cons (pe_ix ix_list (pv 3) pe_int (fun _ _ => rfl)) pa_nil))) rfl)))
      (pss_one (ps_ret (pe_callB (cr_sortedLKx rfl hr.units) (by rfl) G.sorted (by decide +kernel) (pa_cons (pe_lc (own := [("_law_one", 8)]) (g := (gName 8)) (tt := tYes) (te := tOp (rCatA K) (tSl (rSlA K) (tVar 8) tNoPart (tPart (tC (.int 1)))) (tCB (rTupQ K) (tCons (tLc (iTup K (tSl (rSlA K) (tVar 8) (tPart (tC (.int 1))) tNoPart)) (gName 9) tYes (tDGet2 (tVar 6) (tVar 9) (tVar 9)) [9]) tNil))) rfl scImg.nd (pi_list (pv 1)) (blkOk_by (N := nImg) (sc := defScope sImg) (by decide +kernel)) (fun _ _ _ _ _ => (pg_name (i := 8) scImg.nd rfl (Or.inl rfl))) (fun _ _ _ _ _ => pts_nil) (fun _ _ _ _ _ => (pe_op op_catA (pe_slice sl_tupA (pv 8) po_none (po_some pe_int)) (pe_callTy call_tuple_of (by rfl) G.tuple (by decide +kernel) (pa_cons (pe_lc (own := [("_law_word", 9)]) (g := (gName 9)) (tt := tYes) (te := tDGet2 (tVar 6) (tVar 9) (tVar 9)) rfl scImg.nd (pi_tup (pe_slice sl_tupA (pv 8) (po_some pe_int) po_none)) (blk_fr (N := nImg) (z := "_law_back") (by decide +kernel) rfl) (fun _ _ _ _ _ => (pg_name (i := 9) scImg.nd rfl (Or.inl rfl))) (fun _ _ _ _ _ => pts_nil) (fun _ _ _ _ _ => (pe_dget2 hu (pv 6) (pv 9) (pv 9) ⟨rfl, rfl, rfl, rfl⟩))) pa_nil))))) pa_nil)))))))), ?_⟩
    rw [show (L2.start nImg [V.ref p, V.ref told, V.ref hd, V.ref od]) = [some (V.ref p), some (V.ref told), some (V.ref hd), some (V.ref od), none, none, none, none, none, none] from rfl]
    refine ⟨_, rfl, _, rfl, .ref p, hd, h, own, age, cs, recs, cws, rfl, hv0, pw, hh, b1, b2, fun ta d1 d2 L H1 S1 hta pm so e1 e2 => ?_⟩
    refine ⟨_, rfl, _, rfl, .ref p, od, h', own, age, cs, recs, cws, rfl, hv0.keep (Same.fk S1) (Same.tk S1), pw, S1 _ _ ho, c1, c2, fun tb g1 g2 L' H2 S2 htb pm' so' e1' e2' => ⟨_, _, rfl, ?_⟩⟩
    have eL : L' = L := sorted_uniq so' so (pm'.trans pm.symm)
    subst eL
    try dsimp only [List.set_cons_succ, List.set_cons_zero]
    have S12 := S1.trans S2
    have ndL : L'.Nodup := (pm.nodup_iff).mpr pw.nd
    have fnf := fn_fold (l := recs) (F := []) (fun r hr => pw.rc.fl r hr) List.nodup_nil
    have ndF : (fnL recs).Nodup := fnf.1
    have lF : (fnL recs).length ≤ 30 := by
      have := fnf.2.1
      rw [List.length_nil] at this
      show (recs.foldl fnS []).length ≤ 30
      omega
    have lL : L'.length ≤ 12 := by
      have := pm.length_eq
      rw [List.length_append, List.length_map, List.length_map] at this
      omega
    obtain ⟨A, hA⟩ : ∃ A, A = accA h h' L' (fnL recs) (cws.map Cw.nam) := ⟨_, rfl⟩
    have ndA : (A.map (·.1)).Nodup := by
      rw [hA]
      exact List.Nodup.sublist (acc_sub h h' lL (by omega) (by rw [List.length_map]; omega)) (allC_nd h mh)
    have hta2 := S2 _ _ hta
    have e12 := S2 _ _ e1
    have e22 := S2 _ _ e2
    have hh2 := S12 _ _ hh
    have ho2 := S12 _ _ ho
    have hp2 := S12 _ _ hp
    refine fun Bd hBd => ?_
    have S3 := Same.new (H := H2) (o := .dK []) hBd
    have e30 : (upd H2 Bd (.dK [])) Bd = some (.dK (kvA [])) := upd_same
    generalize (upd H2 Bd (.dK [])) = H3 at *
    try dsimp only [List.set_cons_succ, List.set_cons_zero]
    refine ⟨fun σ H' => ∃ (a7 a8 : Option V), σ = [some (.ref p), some (.ref told), some (.ref hd), some (.ref od), some (.ref ta), some (.ref tb), some (.ref Bd), a7, a8, none] ∧ Same H2 H' ∧ H' Bd = some (.dK (kvA (pz h.1 h'.1 0 L' ++ pz h.2.1 h'.2.1 0 (fnL recs)))), ?_, ?_⟩
    · refine ⟨2, rfl, by decide, by decide, ?_⟩
      refine for_range (lo := 0) (n := 2) (fun k σ H' => ∃ (a7 a8 : Option V), σ = [some (.ref p), some (.ref told), some (.ref hd), some (.ref od), some (.ref ta), some (.ref tb), some (.ref Bd), a7, a8, none] ∧ Same H2 H' ∧ (k = 0 → H' Bd = some (.dK (kvA []))) ∧ (k = 1 → H' Bd = some (.dK (kvA (pz h.1 h'.1 0 L')))) ∧ (2 ≤ k → H' Bd = some (.dK (kvA (pz h.1 h'.1 0 L' ++ pz h.2.1 h'.2.1 0 (fnL recs)))))) ?_ ?_ ?_
      · exact ⟨_, _, rfl, S3, fun _ => e30, fun h => absurd h (by omega), fun h => absurd h (by omega)⟩
      · rintro k σ H4 hk ⟨a7, a8, rfl, S4, b0, b1', b2'⟩
        try dsimp only [List.set_cons_succ, List.set_cons_zero]
        -- the tables of the one turn
        obtain ⟨dd, gg, hs, hs', M, acc, hat, hat', edd, egg, eB, ndM, lM, hsub, nxt⟩ : ∃ (dd gg : Addr) (hs hs' : Str) (M : List Str) (acc : List (Str × Str)), atI [V.ref d1, V.ref d2] (0 + (k : Int)) = some (.ref dd) ∧ atI [V.ref g1, V.ref g2] (0 + (k : Int)) = some (.ref gg) ∧ H2 dd = some (.dK (tbF hs 0 M)) ∧ H2 gg = some (.dK (tbF hs' 0 M)) ∧ H4 Bd = some (.dK (kvA acc)) ∧ M.Nodup ∧ M.length ≤ 30 ∧ (acc ++ pz hs hs' 0 M).Sublist A ∧ ∀ H' : Hp, H' Bd = some (.dK (kvA (acc ++ pz hs hs' 0 M))) → (k + 1 = 0 → H' Bd = some (.dK (kvA []))) ∧ (k + 1 = 1 → H' Bd = some (.dK (kvA (pz h.1 h'.1 0 L')))) ∧ (2 ≤ k + 1 → H' Bd = some (.dK (kvA (pz h.1 h'.1 0 L' ++ pz h.2.1 h'.2.1 0 (fnL recs))))) := by
          rcases (by omega : k = 0 ∨ k = 1) with rfl | rfl
          · refine ⟨d1, g1, h.1, h'.1, L', [], atI_nat (i := 0) rfl, atI_nat (i := 0) rfl, e12, e1', b0 rfl, ndL, by omega, ?_, fun H' e => ⟨fun z => absurd z (by omega), fun _ => e, fun z => absurd z (by omega)⟩⟩
            rw [hA, List.nil_append]
            unfold accA
            rw [List.append_assoc]
            exact List.sublist_append_left _ _
          · refine ⟨d2, g2, h.2.1, h'.2.1, fnL recs, pz h.1 h'.1 0 L', atI_nat (i := 1) rfl, atI_nat (i := 1) rfl, e22, e2', b1' rfl, ndF, lF, ?_, fun H' e => ⟨fun z => absurd z (by omega), fun z => absurd z (by omega), fun _ => e⟩⟩
            rw [hA]
            exact List.sublist_append_left _ _
        have edd4 := S4 _ _ edd
        refine ⟨dd, .dK (tbF hs 0 M), edd4, True.intro, fun odx => ?_⟩
        have ndB : Bd ≠ dd := fun e => by rw [e, edd] at hBd; cases hBd
        obtain ⟨Hz, eHz⟩ : ∃ Hz, Hz = upd H4 dd (.frz odx (.dK (tbF hs 0 M))) := ⟨_, rfl⟩
        rw [← eHz]
        have hz : Hz dd = some (.frz odx (.dK (tbF hs 0 M))) := by rw [eHz]; exact upd_same
        have bck : ∀ b o, H4 b = some o → b ≠ dd → Hz b = some o := fun b o e q => by rw [eHz, upd_ne q]; exact e
        have ntd : ta ≠ dd := fun e => by rw [← e, hta2] at edd; cases edd
        have hztB : Hz Bd = some (.dK (kvA acc)) := bck _ _ eB ndB
        have klen : (tbF hs 0 M).length = M.length := by
          have := congrArg List.length (tb_keys hs M 0)
          rwa [List.length_map, List.length_map] at this
        refine ⟨_, rfl, _, rfl, ta, _, _, _, rfl, rfl, SqT.of (bck _ _ (S4 _ _ hta2) ntd), hat, dd, odx, rfl, .inl ⟨tbF hs 0 M, hz, ?_⟩⟩
        refine L2.for_it (walk_keys (d := dd) (o := odx) (kvs := tbF hs 0 M)) (fun i σ H7 => (∃ a8, σ = [some (.ref p), some (.ref told), some (.ref hd), some (.ref od), some (.ref ta), some (.ref tb), some (.ref Bd), some (.int (0 + (k : Int))), a8, none]) ∧ (∀ b o, Hz b = some o → b ≠ Bd → H7 b = some o) ∧ H7 Bd = some (.dK (kvA (acc ++ pz hs hs' 0 (M.take i))))) ?_ ?_ ?_ ?_
        · refine ⟨⟨_, rfl⟩, fun b o e _ => e, ?_⟩
          rw [List.take_zero]
          show Hz Bd = some (.dK (kvA (acc ++ [])))
          rw [List.append_nil]
          exact hztB
        · rintro i σ H7 _ ⟨_, kp, _⟩
          exact kp _ _ hz (Ne.symm ndB)
        · rintro i x σ H7 H7' hi ⟨⟨a8, rfl⟩, kp, eB7⟩ ⟨rfl, kk, vv, hkk, rfl⟩
          rw [klen] at hi
          obtain ⟨z, hzi⟩ : ∃ z, M[i]? = some z := ⟨_, List.getElem?_eq_getElem hi⟩
          have ek : kk = .inr z := by
            have h1 : ((tbF hs 0 M).map Prod.fst)[i]? = some kk := by rw [List.getElem?_map, hkk]; rfl
            rw [tb_keys, List.getElem?_map, hzi] at h1
            exact (Option.some.inj h1).symm
          subst ek
          have hzM := List.mem_of_getElem? hzi
          have ntb : tb ≠ dd := fun e => by rw [← e, htb] at edd; cases edd
          have nBa : Bd ≠ ta := fun e => by rw [e, hta2] at hBd; cases hBd
          have nBb : Bd ≠ tb := fun e => by rw [e, htb] at hBd; cases hBd
          have nBg : Bd ≠ gg := fun e => by rw [e, egg] at hBd; cases hBd
          have c1 : sdF hs M z = codeS i hs := sd_at ndM hzi
          have c2 : sdF hs' M z = codeS i hs' := sd_at ndM hzi
          try dsimp only [List.set_cons_succ, List.set_cons_zero]
          have hta7 : H7' ta = some (.tup [.ref d1, .ref d2]) := kp _ _ (bck _ _ (S4 _ _ hta2) ntd) (Ne.symm nBa)
          have htb7 : H7' tb = some (.tup [.ref g1, .ref g2]) := kp _ _ (bck _ _ (S4 _ _ htb) ntb) (Ne.symm nBb)
          have gget : DGet H7' gg (.str z) (some (.str (codeS i hs'))) := by
            by_cases e : gg = dd
            · have hz7 := kp _ _ hz (Ne.symm ndB)
              have e9 : tbF hs' 0 M = tbF hs 0 M := by
                have := egg
                rw [e, edd] at this
                injection this with this
                injection this with this
                exact this.symm
              rw [← c2, e]
              have : DGet H7' dd (.str z) (some (.str (sdF hs' M z))) := get_inz (h := hs') (od := odx) (by rw [e9]; exact hz7) hzM
              exact this
            · rw [← c2]
              exact get_in (kp _ _ (bck _ _ (S4 _ _ egg) e) (Ne.symm nBg)) hzM
          have dget : DGet H7' dd (.str z) (some (.str (codeS i hs))) := by
            rw [← c1]
            exact get_inz (kp _ _ hz (Ne.symm ndB)) hzM
          refine ⟨_, rfl, _, rfl, tb, _, _, _, rfl, rfl, SqT.of htb7, hat', _, rfl, gg, _, rfl, gget, _, rfl, _, rfl, _, rfl, ta, _, _, _, rfl, rfl, SqT.of hta7, hat, _, rfl, dd, _, rfl, dget, Bd, _, rfl, .inl ⟨_, .inr (codeS i hs), eB7, rfl, ?_, rfl⟩, ⟨_, rfl⟩, fun b o e n => by rw [upd_ne n]; exact kp b o e n, ?_⟩
          · unfold kvA
            rw [List.length_map]
            have l1 := (hsub.length_le)
            have l2 : (acc ++ pz hs hs' 0 (M.take i)).length ≤ A.length := by
              refine Nat.le_trans ?_ l1
              rw [List.length_append, List.length_append, pz_take, List.length_take]
              omega
            have l3 : A.length ≤ 60 := by
              have := (acc_sub h h' (L := L') (F := fnL recs) (N := cws.map Cw.nam) lL (by omega) (by rw [List.length_map]; omega)).length_le
              rw [← hA, List.length_map] at this
              have l4 : ∀ g : Str × Str × Str, (allC g).length = 60 := fun g => by
                unfold allC
                rw [List.length_append, List.length_append, List.length_append, List.length_map, List.length_map, List.length_map, List.length_range, List.length_range, List.length_range]
                rfl
              rw [l4] at this
              exact this
            rw [sizeLine_eq]
            omega
          · rw [upd_same, put_app (new_pair (q := (codeS i hs, codeS i hs')) ndA ?_)]
            · rw [List.take_add_one, hzi]
              show some (HO.dK (kvA (_ ++ _))) = some (.dK (kvA (acc ++ pz hs hs' 0 (M.take i ++ [z]))))
              rw [pz_app, Nat.zero_add, List.length_take, Nat.min_eq_left (by omega), List.append_assoc]
            · refine List.Sublist.trans ?_ hsub
              have : acc ++ pz hs hs' 0 (M.take i) ++ [(codeS i hs, codeS i hs')] = acc ++ pz hs hs' 0 (M.take (i + 1)) := by
                rw [List.take_add_one, hzi]
                show _ = acc ++ pz hs hs' 0 (M.take i ++ [z])
                rw [pz_app, Nat.zero_add, List.length_take, Nat.min_eq_left (by omega), List.append_assoc]
              rw [this, pz_take]
              exact (List.Sublist.refl _).append (List.take_sublist _ _)
        · rintro σ H7 ⟨⟨a8, rfl⟩, kp, eB7⟩
          rw [klen, List.take_length] at eB7
          have eBu : (upd H7 dd (.dK (tbF hs 0 M))) Bd = some (.dK (kvA (acc ++ pz hs hs' 0 M))) := by rw [upd_ne ndB]; exact eB7
          obtain ⟨n1, n2, n3⟩ := nxt _ eBu
          refine ⟨kp _ _ hz (Ne.symm ndB), _, _, rfl, fun b o e => ?_, n1, n2, n3⟩
          by_cases e9 : b = dd
          · rw [e9, edd] at e
            rw [e9, upd_same]
            exact e
          · rw [upd_ne e9]
            refine kp _ _ (bck _ _ (S4 _ _ e) e9) (fun q => ?_)
            rw [q, hBd] at e
            cases e
      · rintro σ H' ⟨a7, a8, rfl, S', _, _, b2'⟩
        exact ⟨_, _, rfl, S', b2' (Nat.le_refl _)⟩
    rintro σ H4 ⟨a7, a8, rfl, S4, eB4⟩
    have l60 : A.length ≤ 60 := by
      have := (acc_sub h h' (L := L') (F := fnL recs) (N := cws.map Cw.nam) lL (by omega) (by rw [List.length_map]; omega)).length_le
      rw [← hA, List.length_map] at this
      have l4 : ∀ g : Str × Str × Str, (allC g).length = 60 := fun g => by
        unfold allC
        rw [List.length_append, List.length_append, List.length_append, List.length_map, List.length_map, List.length_map, List.length_range, List.length_range, List.length_range]
        rfl
      rw [l4] at this
      exact this
    obtain ⟨B0, hB0⟩ : ∃ B0, B0 = pz h.1 h'.1 0 L' ++ pz h.2.1 h'.2.1 0 (fnL recs) := ⟨_, rfl⟩
    rw [← hB0] at eB4
    have hAB : A = B0 ++ pz h.2.2 h'.2.2 0 (cws.map Cw.nam) := by rw [hA, hB0]; rfl
    have t5b := Tp.keep (Same.tk S12) _ _ t5
    obtain ⟨pc, xc, rfl, hpc, txc⟩ := Tp.inv t5b
    have lxc : xc.length = cws.length := by rw [txc.length, List.length_map]
    refine ⟨fun σ H' => ∃ (a7 : Option V), σ = [some (.ref p), some (.ref told), some (.ref hd), some (.ref od), some (.ref ta), some (.ref tb), some (.ref Bd), a7, a8, none] ∧ Same H2 H' ∧ H' Bd = some (.dK (kvA A)), ?_, ?_⟩
    · refine ⟨_, rfl, p, _, _, _, rfl, rfl, SqT.of (S4 _ _ hp2), rfl, pc, xc, rfl, .inr (SqT.of (S4 _ _ hpc)), _, rfl, by omega, by omega, ?_⟩
      refine for_range (lo := 0) (n := ((xc.length : Nat) : Int).toNat) (fun i σ H' => ∃ (a7 : Option V), σ = [some (.ref p), some (.ref told), some (.ref hd), some (.ref od), some (.ref ta), some (.ref tb), some (.ref Bd), a7, a8, none] ∧ Same H2 H' ∧ H' Bd = some (.dK (kvA (B0 ++ pz h.2.2 h'.2.2 0 ((cws.map Cw.nam).take i))))) ?_ ?_ ?_
      · refine ⟨_, rfl, S4, ?_⟩
        rw [List.take_zero]
        show H4 Bd = some (.dK (kvA (B0 ++ [])))
        rw [List.append_nil]
        exact eB4
      · rintro i σ H5 hi ⟨a7, rfl, S5, eB5⟩
        try dsimp only [List.set_cons_succ, List.set_cons_zero]
        have hi6 : i < cws.length := by omega
        have e0 : (0 + (i : Int)) = (i : Int) := by omega
        obtain ⟨z, hz⟩ : ∃ z, (cws.map Cw.nam)[i]? = some z := ⟨_, List.getElem?_eq_getElem (by rw [List.length_map]; exact hi6)⟩
        have step1 : B0 ++ pz h.2.2 h'.2.2 0 ((cws.map Cw.nam).take i) ++ [(codeS i h.2.2, codeS i h'.2.2)] = B0 ++ pz h.2.2 h'.2.2 0 ((cws.map Cw.nam).take (i + 1)) := by
          rw [List.take_add_one, hz]
          show _ = B0 ++ pz h.2.2 h'.2.2 0 ((cws.map Cw.nam).take i ++ [z])
          rw [pz_app, Nat.zero_add, List.length_take, List.length_map, Nat.min_eq_left (by omega), List.append_assoc]
        have sub1 : (B0 ++ pz h.2.2 h'.2.2 0 ((cws.map Cw.nam).take (i + 1))).Sublist A := by
          rw [hAB, pz_take]
          exact (List.Sublist.refl _).append (List.take_sublist _ _)
        refine ⟨_, rfl, _, rfl, od, _, 2, _, rfl, rfl, SqL.of (S5 _ _ ho2), (atI_nat (i := 2) rfl : atI [V.str h'.1, V.str h'.2.1, V.str h'.2.2] 2 = some (.str h'.2.2)), i, h'.2.2, (by rw [e0] : [V.int (0 + (i : Int)), V.str h'.2.2] = [V.int (i : Int), V.str h'.2.2]), by omega, c3, _, rfl, _, rfl, _, rfl, hd, _, 2, _, rfl, rfl, SqL.of (S5 _ _ hh2), (atI_nat (i := 2) rfl : atI [V.str h.1, V.str h.2.1, V.str h.2.2] 2 = some (.str h.2.2)), i, h.2.2, (by rw [e0] : [V.int (0 + (i : Int)), V.str h.2.2] = [V.int (i : Int), V.str h.2.2]), by omega, b3, Bd, _, rfl, .inl ⟨_, .inr (codeS i h.2.2), eB5, rfl, ?_, rfl⟩, _, rfl, Same.wr S5 hBd, ?_⟩
        · have l2 := sub1.length_le
          rw [← step1, List.length_append] at l2
          unfold kvA
          rw [List.length_map, sizeLine_eq]
          omega
        · rw [upd_same, put_app (new_pair (q := (codeS i h.2.2, codeS i h'.2.2)) ndA (by rw [step1]; exact sub1)), step1]
      · rintro σ H5 ⟨a7, rfl, S5, eB5⟩
        rw [show ((xc.length : Nat) : Int).toNat = (cws.map Cw.nam).length by rw [List.length_map]; omega, List.take_length, ← hAB] at eB5
        exact ⟨_, rfl, S5, eB5⟩
    rintro σ H5 ⟨a7', rfl, S5, eB5⟩
    have X5 := (X.same S12).same S5
    refine ⟨_, rfl, told, rfl, ⟨_, SqL.of X5.l⟩, fun D hD => ?_⟩
    refine L2.lc_it (walk_list (a := told) (xs := T.map fun q => V.ref q.1)) (fun j H' => Same H5 H' ∧ ∃ T' : List Row, RwL H' D T' ∧ T'.map (·.2) = ((T.map (·.2)).take j).map (renRow (bkA A))) ?_ ?_ ?_ ?_
    · exact ⟨Same.new hD, [], RwL.nil upd_same, rfl⟩
    · rintro j H' _ ⟨S', _⟩
      exact SqL.of (S' _ _ X5.l)
    · rintro j x Ha Hb hj ⟨S', T', X', eT'⟩ hy
      obtain ⟨rfl, hx⟩ : Hb = Ha ∧ (T.map fun q => V.ref q.1)[j]? = some x := yat hy
      rw [List.length_map] at hj
      obtain ⟨q9, hq9, rfl⟩ := mapAt hx
      have hqm := List.mem_of_getElem? hq9
      obtain ⟨w9, rest, ew⟩ := (wk q9.2 (List.mem_map.mpr ⟨q9, hqm, rfl⟩)).fst
      have hrow : Hb q9.1 = some (.tup (.str w9 :: rest.map kV)) := by
        have := S' _ _ (X5.t q9 hqm)
        rw [ew] at this
        exact this
      have lrest : rest.length ≤ 3 := by
        obtain ⟨w, a, r, e, hr⟩ := wk q9.2 (List.mem_map.mpr ⟨q9, hqm, rfl⟩)
        rw [ew] at e
        injection e with e1 e2
        rw [e2]
        rcases hr with ⟨_, b, rfl⟩ | ⟨_, rfl⟩ | ⟨_, jj, rfl⟩ <;> simp
      refine ⟨rfl, yes (iteT ?_)⟩
      refine ⟨_, rfl, npT ⟨_, rfl, ?_⟩⟩
      refine slA (lo := none) (hi := some 1) hrow fun r1 Hc Sc hr1 => ?_
      have hr1 : Hc r1 = some (.tup [.str w9]) := by
        rw [show cutV (V.str w9 :: rest.map kV) none (some 1) = [V.str w9] from cutG_to (V.str w9 :: rest.map kV) 1] at hr1
        exact hr1
      refine ⟨_, rfl, _, rfl, npT ?_⟩
      refine slA (lo := some 1) (hi := none) (Sc _ _ hrow) fun r2 Hd Sd hr2 => ?_
      have hr2 : Hd r2 = some (.tup (rest.map kV)) := by
        rw [show cutV (V.str w9 :: rest.map kV) (some 1) none = rest.map kV from cutG_from (V.str w9 :: rest.map kV) 1] at hr2
        exact hr2
      have Sbd := Sc.trans Sd
      have eBd := Sbd _ _ (S' _ _ eB5)
      refine ⟨r2, rfl, ⟨_, SqT.of hr2⟩, fun D2 hD2 => ?_⟩
      refine L2.lc_it (walk_tup (a := r2) (xs := rest.map kV)) (fun i H' => Same Hd H' ∧ H' D2 = some (.lst ((rest.take i).map fun k => kV (renKey (bkA A) k)))) ?_ ?_ ?_ ?_
      · exact ⟨Same.new hD2, by rw [List.take_zero]; exact upd_same⟩
      · rintro i H' _ ⟨S9, _⟩
        exact SqT.of (S9 _ _ hr2)
      · rintro i x He Hf hi ⟨S9, eD2⟩ hy2
        obtain ⟨rfl, hx2⟩ : Hf = He ∧ (rest.map kV)[i]? = some x := yat hy2
        obtain ⟨kk, hkk, rfl⟩ := mapAt hx2
        rw [List.length_map] at hi
        refine ⟨rfl, yes (iteT ?_)⟩
        refine ⟨_, rfl, Bd, rfl, .inl ⟨_, .inl (S9 _ _ eBd)⟩, _, rfl, _, rfl, valV (kvA A) kk, DGet.k (k := kk) (S9 _ _ eBd), _, eD2, ?_, Same.wr S9 hD2, ?_⟩
        · rw [List.length_map, List.length_take, sizeLine_eq]
          omega
        · rw [upd_same, List.take_add_one, hkk, List.map_append, get_ren]
          rfl
      rintro He ⟨S9, eD2⟩
      rw [List.length_map, List.take_length] at eD2
      refine ⟨D2, _, rfl, .inl ⟨SqL.of eD2, fun tp htp => ?_⟩⟩
      have Sf := Same.new (H := He) (o := .tup (rest.map fun k => kV (renKey (bkA A) k))) htp
      have ef : (upd He tp (.tup (rest.map fun k => kV (renKey (bkA A) k)))) tp = some (.tup (rest.map fun k => kV (renKey (bkA A) k))) := upd_same
      generalize (upd He tp (.tup (rest.map fun k => kV (renKey (bkA A) k)))) = Hf at *
      refine catA (Sf _ _ (S9 _ _ (Sd _ _ hr1))) ef (by rw [List.length_map, sizeLine_eq]; show 1 + _ ≤ _; omega) fun r5 Hg Sg hr5 => ?_
      have Sbg := ((Sbd.trans S9).trans Sf).trans Sg
      have Xg := X'.same Sbg
      have W : Tk Hg (upd Hg D (.lst (T'.map (fun q => V.ref q.1) ++ [.ref r5]))) := Tk.wr Xg.l
      have lT' : T'.length ≤ j := by
        have := congrArg List.length eT'
        rw [List.length_map, List.length_map, List.length_take] at this
        omega
      refine ⟨_, Xg.l, by rw [List.length_map, sizeLine_eq]; omega, Same.wr (S'.trans Sbg) hD, T' ++ [(r5, renRow (bkA A) q9.2)], ⟨by rw [upd_same, List.map_append]; rfl, fun q8 hq8 => ?_⟩, ?_⟩
      · rcases List.mem_append.mp hq8 with g | g
        · exact W _ _ (Xg.t q8 g)
        · rw [List.mem_singleton.mp g]
          refine W _ _ ?_
          rw [hr5, ew]
          show some (HO.tup ([V.str w9] ++ _)) = some (HO.tup (V.str w9 :: (rest.map (renKey (bkA A))).map kV))
          rw [List.map_map]
          rfl
      · rw [List.map_append, eT', List.take_add_one (l := T.map (·.2)), List.getElem?_map, hq9, List.map_append]
        rfl
    · rintro H' ⟨S', T', X', eT'⟩
      rw [List.length_map, show T.length = (T.map (·.2)).length from (List.length_map ..).symm, List.take_length] at eT'
      have wk' : ∀ x ∈ T'.map (·.2), WrK x := fun x hx => by
        rw [eT'] at hx
        obtain ⟨y, hy, rfl⟩ := List.mem_map.mp hx
        exact wrk_ren (wk y hy)
      refine ⟨D, T', rfl, SqL.of X'.l, fun q hq => SqT.of (X'.t q hq), fun a ha b hb => (wk' _ (List.mem_map.mpr ⟨a, ha, rfl⟩)).cm (wk' _ (List.mem_map.mpr ⟨b, hb, rfl⟩)), fun a ha => (wk' _ (List.mem_map.mpr ⟨a, ha, rfl⟩)).fst, ?_, fun T2 r pm2 pw2 hr9 => ?_⟩
      · have := congrArg List.length eT'
        rw [List.length_map, List.length_map, List.length_map] at this
        omega
      · have S6 := Same.new (H := H') (o := .lst (T2.map fun p => V.ref p.1)) hr9
        have S26 := (S5.trans S').trans S6
        refine q r T2 L' _ (S12.trans S26) ?_ pm so ⟨upd_same, fun q hq => S6 _ _ (X'.t q (pm2.mem_iff.mp hq))⟩ ?_ pw2
        · exact (S12.trans (S5.trans S')).free hr9
        · rw [← hA, ← eT']
          exact pm2.map _
end
end Fh

set_option Elab.async false
set_option linter.all false
set_option maxRecDepth 100000
set_option maxHeartbeats 4000000
namespace Fh
open PySem L2 PyProof.Rows
/-! ### the one naming beside the other -/
def strays : List Str := ["menu", "form", "back", "in", "out"]
theorem pz_snd (h h' : Str) : ∀ (L : List Str) (n : Nat), (pz h h' n L).map (·.2) = (List.range' n L.length).map (fun k => codeS k h')
  | [], _ => rfl
  | x :: L, n => by
    rw [List.length_cons, List.range'_succ]
    show _ :: (pz h h' (n + 1) L).map (·.2) = _ :: _
    rw [pz_snd h h' L (n + 1)]
theorem pz_at {h h' : Str} : ∀ {L : List Str} {n i : Nat}, i < L.length → (codeS (n + i) h, codeS (n + i) h') ∈ pz h h' n L
  | x :: L, n, 0, _ => List.mem_cons_self
  | x :: L, n, i + 1, hi => by
    have := pz_at (h := h) (h' := h') (L := L) (n := n + 1) (i := i) (Nat.lt_of_succ_lt_succ hi)
    rw [show n + (i + 1) = n + 1 + i by omega]
    exact List.mem_cons_of_mem _ this
section
variable {h h' : Str × Str × Str} {L F N : List Str} (l1 : L.length ≤ 12) (l2 : F.length ≤ 36) (l3 : N.length ≤ 7)
include l1 l2 l3
theorem sub1 : ((accA h h' L F N).map (·.1) ++ strays).Sublist (allC h) := by
  have s : ∀ {a b : Nat} (g : Nat → Str), a ≤ b → ((List.range' 0 a).map g).Sublist ((List.range b).map g) := fun {a b} g hab => by
    rw [← List.range_eq_range', ← Nat.min_eq_left hab, ← List.take_range]
    exact (List.take_sublist _ _).map g
  unfold accA allC
  rw [List.map_append, List.map_append, pz_fst, pz_fst, pz_fst]
  exact (((s _ l1).append (s _ l2)).append (s _ l3)).append (List.Sublist.refl _)
theorem sub2 : ((accA h h' L F N).map (·.2) ++ strays).Sublist (allC h') := by
  have s : ∀ {a b : Nat} (g : Nat → Str), a ≤ b → ((List.range' 0 a).map g).Sublist ((List.range b).map g) := fun {a b} g hab => by
    rw [← List.range_eq_range', ← Nat.min_eq_left hab, ← List.take_range]
    exact (List.take_sublist _ _).map g
  unfold accA allC
  rw [List.map_append, List.map_append, pz_snd, pz_snd, pz_snd]
  exact (((s _ l1).append (s _ l2)).append (s _ l3)).append (List.Sublist.refl _)
end
theorem all_nm : ∀ g ∈ headsL, ∀ z ∈ allC g, (decide (1 ≤ z.length) && decide (z.length ≤ 8) && z.cps.toList.all fun c => decide (97 ≤ c) && decide (c ≤ 122)) = true := by decide +kernel
theorem lkA_in : ∀ {A : List (Str × Str)} {q : Str × Str}, (A.map (·.1)).Nodup → q ∈ A → bkA A q.1 = q.2
  | [], _, _, h => by cases h
  | a :: A, q, nd, hq => by
    rw [List.map_cons, List.nodup_cons] at nd
    unfold bkA lkA
    rw [List.find?_cons]
    rcases List.mem_cons.mp hq with rfl | hq
    · rw [decide_eq_true rfl]
      rfl
    · have ne : a.1 ≠ q.1 := fun e => nd.1 (by rw [e]; exact List.mem_map.mpr ⟨q, hq, rfl⟩)
      rw [decide_eq_false ne]
      exact lkA_in nd.2 hq
theorem lkA_out {A : List (Str × Str)} {z : Str} (h : z ∉ A.map (·.1)) : bkA A z = z := by
  unfold bkA lkA
  have : A.find? (fun q => decide (q.1 = z)) = none := by
    rw [List.find?_eq_none]
    intro q hq e
    exact h (List.mem_map.mpr ⟨q, hq, of_decide_eq_true e⟩)
  rw [this]
  rfl
theorem nd_inj15 {α β : Type} {f : α → β} : ∀ {l : List α} {x y : α}, (l.map f).Nodup → x ∈ l → y ∈ l → f x = f y → x = y
  | [], _, _, _, h, _, _ => by cases h
  | a :: l, x, y, nd, hx, hy, e => by
    rw [List.map_cons, List.nodup_cons] at nd
    rcases List.mem_cons.mp hx with rfl | hx'
    · rcases List.mem_cons.mp hy with rfl | hy'
      · rfl
      · exact absurd (List.mem_map.mpr ⟨y, hy', e.symm⟩) nd.1
    · rcases List.mem_cons.mp hy with rfl | hy'
      · exact absurd (List.mem_map.mpr ⟨x, hx', e⟩) nd.1
      · exact nd_inj15 nd.2 hx' hy' e
theorem code_nd : ∀ g ∈ headsL, ((List.range 40).map (fun k => codeS k g.1)).Nodup ∧ ((List.range 40).map (fun k => codeS k g.2.1)).Nodup ∧ ((List.range 40).map (fun k => codeS k g.2.2)).Nodup := by decide +kernel
theorem code_inj {h : Str × Str × Str} (mh : h ∈ headsL) {i j : Nat} (hi : i < 40) (hj : j < 40) : (codeS i h.1 = codeS j h.1 → i = j) ∧ (codeS i h.2.1 = codeS j h.2.1 → i = j) ∧ (codeS i h.2.2 = codeS j h.2.2 → i = j) := by
  obtain ⟨a, b, c⟩ := code_nd h mh
  exact ⟨fun e => nd_inj15 a (List.mem_range.mpr hi) (List.mem_range.mpr hj) e, fun e => nd_inj15 b (List.mem_range.mpr hi) (List.mem_range.mpr hj) e, fun e => nd_inj15 c (List.mem_range.mpr hi) (List.mem_range.mpr hj) e⟩
theorem code_nm : ∀ g ∈ headsL, ∀ k ∈ List.range 40, (decide (1 ≤ (codeS k g.2.1).length) && decide ((codeS k g.2.1).length ≤ 8) && (codeS k g.2.1).cps.toList.all fun c => decide (97 ≤ c) && decide (c ≤ 122)) = true := by decide +kernel
/-- a code, or a strange name -/
def MA (A : List (Str × Str)) (z : Str) : Prop := z ∈ A.map (·.1) ∨ z ∈ strays
structure Two (h h' : Str × Str × Str) (L F N : List Str) (A : List (Str × Str)) : Prop where
  mh : h ∈ headsL
  mo : h' ∈ headsL
  ndL : L.Nodup
  ndF : F.Nodup
  l1 : L.length ≤ 12
  l2 : F.length ≤ 36
  l3 : N.length ≤ 7
  eA : A = accA h h' L F N
section
variable {h h' : Str × Str × Str} {L F N : List Str} {A : List (Str × Str)} (t : Two h h' L F N A)
include t
theorem Two.n1 : (A.map (·.1) ++ strays).Nodup := by
  rw [t.eA]
  exact List.Nodup.sublist (sub1 t.l1 t.l2 t.l3) (allC_nd h t.mh)
theorem Two.n2 : (A.map (·.2) ++ strays).Nodup := by
  rw [t.eA]
  exact List.Nodup.sublist (sub2 t.l1 t.l2 t.l3) (allC_nd h' t.mo)
theorem Two.nm {z : Str} (hz : MA A z) : Nm z := by
  have : z ∈ allC h := (sub1 t.l1 t.l2 t.l3).subset (by rw [← t.eA]; exact List.mem_append.mpr hz)
  exact nm_lit (all_nm h t.mh z this)
theorem Two.str {z : Str} (hz : z ∈ strays) : bkA A z = z := lkA_out fun hm => (List.nodup_append.mp t.n1).2.2 z hm z hz rfl
theorem Two.inj : ∀ x y, MA A x → MA A y → bkA A x = bkA A y → x = y := fun x y hx hy e => by
  have n1 := (List.nodup_append.mp t.n1).1
  have n2 := List.nodup_append.mp t.n2
  rcases hx with hx | hx
  · obtain ⟨q, hq, rfl⟩ := List.mem_map.mp hx
    rw [lkA_in n1 hq] at e
    rcases hy with hy | hy
    · obtain ⟨q', hq', rfl⟩ := List.mem_map.mp hy
      rw [lkA_in n1 hq'] at e
      rw [nd_inj15 n2.1 hq hq' e]
    · rw [t.str hy] at e
      exact absurd e (n2.2.2 q.2 (List.mem_map.mpr ⟨q, hq, rfl⟩) y hy)
  · rw [t.str hx] at e
    rcases hy with hy | hy
    · obtain ⟨q', hq', rfl⟩ := List.mem_map.mp hy
      rw [lkA_in n1 hq'] at e
      exact absurd e.symm (n2.2.2 q'.2 (List.mem_map.mpr ⟨q', hq', rfl⟩) x hx)
    · rw [t.str hy] at e
      exact e
/-- a side's code -/
theorem Two.sideI {i : Nat} (hi : i < L.length) : codeS i h.1 ∈ A.map (·.1) ∧ bkA A (codeS i h.1) = codeS i h'.1 := by
  have m : (codeS i h.1, codeS i h'.1) ∈ A := by
    rw [t.eA]
    have := pz_at (h := h.1) (h' := h'.1) (n := 0) hi
    rw [Nat.zero_add] at this
    exact List.mem_append_left _ (List.mem_append_left _ this)
  exact ⟨List.mem_map.mpr ⟨_, m, rfl⟩, lkA_in (List.nodup_append.mp t.n1).1 m⟩
theorem Two.fldI {i : Nat} (hi : i < F.length) : codeS i h.2.1 ∈ A.map (·.1) ∧ bkA A (codeS i h.2.1) = codeS i h'.2.1 := by
  have m : (codeS i h.2.1, codeS i h'.2.1) ∈ A := by
    rw [t.eA]
    have := pz_at (h := h.2.1) (h' := h'.2.1) (n := 0) hi
    rw [Nat.zero_add] at this
    exact List.mem_append_left _ (List.mem_append_right _ this)
  exact ⟨List.mem_map.mpr ⟨_, m, rfl⟩, lkA_in (List.nodup_append.mp t.n1).1 m⟩
theorem Two.calI {i : Nat} (hi : i < N.length) : codeS i h.2.2 ∈ A.map (·.1) ∧ bkA A (codeS i h.2.2) = codeS i h'.2.2 := by
  have m : (codeS i h.2.2, codeS i h'.2.2) ∈ A := by
    rw [t.eA]
    have := pz_at (h := h.2.2) (h' := h'.2.2) (n := 0) hi
    rw [Nat.zero_add] at this
    exact List.mem_append_right _ this
  exact ⟨List.mem_map.mpr ⟨_, m, rfl⟩, lkA_in (List.nodup_append.mp t.n1).1 m⟩
omit t in
theorem sd_out {g : Str} {L : List Str} {z : Str} (hz : z ∉ L) : sdF g L z = z := by
  unfold sdF
  have : ∀ (L : List Str) (n : Nat), z ∉ L → co g n L z = none := fun L => by
    induction L with
    | nil => intro n _; rfl
    | cons y L ih =>
      intro n hn
      unfold co
      rw [if_neg (fun e => hn (by rw [e]; exact List.mem_cons_self))]
      exact ih (n + 1) (fun hm => hn (List.mem_cons_of_mem _ hm))
  rw [this L 0 hz]
  rfl
theorem Two.side {z : Str} (hz : z ∈ L ∨ z ∈ strays) : MA A (sdF h.1 L z) ∧ bkA A (sdF h.1 L z) = sdF h'.1 L z := by
  by_cases hm : z ∈ L
  · obtain ⟨i, hi⟩ := List.mem_iff_getElem?.mp hm
    have li := (List.getElem?_eq_some_iff.mp hi).1
    rw [sd_at t.ndL hi, sd_at t.ndL hi]
    exact ⟨.inl (t.sideI li).1, (t.sideI li).2⟩
  · rw [sd_out hm, sd_out hm]
    have hs := hz.resolve_left hm
    exact ⟨.inr hs, t.str hs⟩
theorem Two.fld {z : Str} (hz : z ∈ F ∨ z ∈ strays) : MA A (sdF h.2.1 F z) ∧ bkA A (sdF h.2.1 F z) = sdF h'.2.1 F z := by
  by_cases hm : z ∈ F
  · obtain ⟨i, hi⟩ := List.mem_iff_getElem?.mp hm
    have li := (List.getElem?_eq_some_iff.mp hi).1
    rw [sd_at t.ndF hi, sd_at t.ndF hi]
    exact ⟨.inl (t.fldI li).1, (t.fldI li).2⟩
  · rw [sd_out hm, sd_out hm]
    have hs := hz.resolve_left hm
    exact ⟨.inr hs, t.str hs⟩
/-- unlike names have unlike codes -/
theorem Two.sinj {x y : Str} (hx : x ∈ L) (hy : y ∈ L) (e : sdF h.1 L x = sdF h.1 L y) : x = y := by
  obtain ⟨i, hi⟩ := List.mem_iff_getElem?.mp hx
  obtain ⟨j, hj⟩ := List.mem_iff_getElem?.mp hy
  rw [sd_at t.ndL hi, sd_at t.ndL hj] at e
  have li := (List.getElem?_eq_some_iff.mp hi).1
  have lj := (List.getElem?_eq_some_iff.mp hj).1
  have ij := code_inj t.mh (i := i) (j := j) (by have := t.l1; omega) (by have := t.l1; omega) |>.1 e
  rw [ij, hj] at hi
  exact (Option.some.inj hi).symm
theorem Two.finj {x y : Str} (hx : x ∈ F) (hy : y ∈ F) (e : sdF h.2.1 F x = sdF h.2.1 F y) : x = y := by
  obtain ⟨i, hi⟩ := List.mem_iff_getElem?.mp hx
  obtain ⟨j, hj⟩ := List.mem_iff_getElem?.mp hy
  rw [sd_at t.ndF hi, sd_at t.ndF hj] at e
  have li := (List.getElem?_eq_some_iff.mp hi).1
  have lj := (List.getElem?_eq_some_iff.mp hj).1
  have ij := code_inj t.mh (i := i) (j := j) (by have := t.l2; omega) (by have := t.l2; omega) |>.2.1 e
  rw [ij, hj] at hi
  exact (Option.some.inj hi).symm
end
end Fh

set_option Elab.async false
set_option linter.all false
set_option maxRecDepth 100000
set_option maxHeartbeats 4000000
namespace Fh
open PySem L2 PyProof.Rows
/-! ### the parts by the one names and by the other -/
theorem find_mem {fl : List Fl} {z : Str} {f : Fl} (h : fl.find? (fun g => decide (g.nam = z)) = some f) : z ∈ fl.map Fl.nam := by
  have e := List.find?_some h
  exact List.mem_map.mpr ⟨f, List.mem_of_find?_eq_some h, of_decide_eq_true e⟩
theorem eqG_mem {fl : List Fl} {z k : Str} (h : eqG fl z k = true) : z ∈ fl.map Fl.nam := by
  unfold eqG at h
  cases q : fl.find? (fun g => decide (g.nam = z)) with
  | none => rw [q] at h; cases h
  | some f => exact find_mem q
/-- what is so names fields that are there -/
theorem astB_in {own : Str} {fl an : List Fl} {d : List Str} {ahead : List (List Str)} (h : astB own fl an d ahead = true) : DdIn (fl.map Fl.nam) (an.map Fl.nam) d := by
  match d, h with
  | [], _ => trivial
  | [_], _ => trivial
  | [_, _], _ => trivial
  | a :: b :: c :: r, h =>
    unfold astB at h
    dsimp only at h
    refine ⟨fun g => ?_, fun g => ?_, fun g => ?_⟩
    · have h1 : inV (.str a) [.str "take", .str "add"] = true := by
        rcases g with rfl | rfl <;> rfl
      rw [if_pos h1, Bool.and_eq_true] at h
      exact ⟨.inl (eqG_mem h.1), .inl (eqG_mem h.2)⟩
    · rcases g with rfl | rfl
      · rw [if_neg (by decide +kernel), if_pos rfl] at h
        cases q : an.find? (fun g => decide (g.nam = b)) with
        | none => rw [q] at h; cases h
        | some f =>
          rw [q] at h
          have h : (PyData.eqv f.kd.d (.str "whole") && eqG fl c "text") = true := h
          rw [Bool.and_eq_true] at h
          exact ⟨.inl (find_mem q), .inl (eqG_mem h.2)⟩
      · rw [if_neg (by decide +kernel), if_neg (by decide +kernel), if_pos rfl] at h
        cases q : an.find? (fun g => decide (g.nam = b)) with
        | none => rw [q] at h; cases h
        | some f =>
          cases q2 : fl.find? (fun g => decide (g.nam = c)) with
          | none => rw [q, q2] at h; cases h
          | some f2 => exact ⟨.inl (find_mem q), .inl (find_mem q2)⟩
    · subst g
      rw [if_neg (by decide +kernel), if_neg (by decide +kernel), if_neg (by decide +kernel), if_neg (by decide +kernel), Bool.and_eq_true] at h
      cases q : an.find? (fun g => decide (g.nam = b)) with
      | none =>
        have h1 := h.1
        unfold inN at h1
        rw [q] at h1
        cases h1
      | some f => exact .inl (find_mem q)
theorem rich_inv {own : Str} {cs : List Cho} {recs : List Rec} {cws cws' : List Cw} (iv : InvW cs recs cws) (h : ∀ c ∈ cws', RichOk own recs c ∧ ∃ c0 ∈ cws, c.ask = c0.ask ∧ c.ans = c0.ans) : InvW cs recs cws' :=
  ⟨iv.kn, fun c hc => by
    obtain ⟨ro, c0, hc0, e1, e2⟩ := h c hc
    obtain ⟨a1, a2, _⟩ := iv.ac c0 hc0
    refine ⟨by rw [e1]; exact a1, by rw [e2]; exact a2, fun d hd => ?_⟩
    obtain ⟨i, hi⟩ := List.mem_iff_getElem?.mp hd
    exact astB_in (ro i d hi)⟩
section
variable {h h' : Str × Str × Str} {own : Str} {age : Int} {cs : List Cho} {recs : List Rec} {cws : List Cw} {L : List Str} {A : List (Str × Str)}
  (pw : PtW own age cs recs cws) (iv : InvW cs recs cws) (pm : L.Perm (cs.map (·.1) ++ recs.map (·.1))) (t : Two h h' L (fnL recs) (cws.map Cw.nam) A)
include pm
theorem recL {r : Rec} (hr : r ∈ recs) : r.1 ∈ L := pm.mem_iff.mpr (List.mem_append_right _ (List.mem_map.mpr ⟨r, hr, rfl⟩))
theorem choL {c : Cho} (hc : c ∈ cs) : c.1 ∈ L := pm.mem_iff.mpr (List.mem_append_left _ (List.mem_map.mpr ⟨c, hc, rfl⟩))
theorem knL {k : Kn} (hk : KnIn (cs.map (·.1)) (recs.map (·.1)) k) : ∀ z, k.nm = some z → z ∈ L ∨ z ∈ strays := fun z hz => by
  have b : ∀ {b : Kb}, KbIn (cs.map (·.1)) (recs.map (·.1)) b → (Kn.one b).nm = some z → z ∈ L ∨ z ∈ strays := fun {b} hb e => by
    cases b with
    | rc y =>
      cases e
      rcases hb with q | q
      · exact .inl (pm.mem_iff.mpr (List.mem_append_right _ q))
      · exact .inr (by rw [q]; decide +kernel)
    | ch y =>
      cases e
      rcases hb with q | q
      · exact .inl (pm.mem_iff.mpr (List.mem_append_left _ q))
      · exact .inr (by rw [q]; decide +kernel)
    | _ => cases e
  cases k with
  | one k => exact b hk hz
  | lst k => exact b hk hz
theorem askL5 {z : Str} (hz : InP (recs.map (·.1)) "form" z ∨ InP (recs.map (·.1)) "back" z) : z ∈ L ∨ z ∈ strays := by
  rcases hz with (q | q) | (q | q)
  · exact .inl (pm.mem_iff.mpr (List.mem_append_right _ q))
  · exact .inr (by rw [q]; decide +kernel)
  · exact .inl (pm.mem_iff.mpr (List.mem_append_right _ q))
  · exact .inr (by rw [q]; decide +kernel)
omit pm in
theorem ren_kn {f g : Str → Str} {k : Kn} (e : ∀ z, k.nm = some z → f z = g z) : renK f k = renK g k := by
  cases k with
  | one b => cases b with
    | rc z => show Kn.one (.rc (f z)) = Kn.one (.rc (g z)); rw [e z rfl]
    | ch z => show Kn.one (.ch (f z)) = Kn.one (.ch (g z)); rw [e z rfl]
    | _ => rfl
  | lst b => cases b with
    | rc z => show Kn.lst (.rc (f z)) = Kn.lst (.rc (g z)); rw [e z rfl]
    | ch z => show Kn.lst (.ch (f z)) = Kn.lst (.ch (g z)); rw [e z rfl]
    | _ => rfl
omit pm in
theorem ren_kk {f g : Str → Str} (k : Kn) : renK f (renK g k) = renK (fun z => f (g z)) k := by
  cases k with
  | one b => cases b <;> rfl
  | lst b => cases b <;> rfl
omit pm in
theorem ren_nm {f : Str → Str} (k : Kn) : (renK f k).nm = k.nm.map f := by
  cases k with
  | one b => cases b <;> rfl
  | lst b => cases b <;> rfl
omit pm in
include pw in
theorem fldF {r : Rec} (hr : r ∈ recs) {f : Fl} (hf : f ∈ r.2) : f.nam ∈ fnL recs := ((fn_fold (l := recs) (F := []) (fun r hr => pw.rc.fl r hr) List.nodup_nil).2.2 f.nam).mpr (.inr ⟨r, hr, List.mem_map.mpr ⟨f, hf, rfl⟩⟩)
omit pm in
include pw in
theorem poolF {z s y : Str} (hy : y ∈ strays) (hz : InP ((flO recs s).map Fl.nam) y z) : z ∈ fnL recs ∨ z ∈ strays := by
  rcases hz with q | q
  · rcases flO_mem (recs := recs) (z := s) with e | ⟨r, hr, e⟩
    · rw [e] at q; cases q
    · rw [e] at q
      obtain ⟨f, hf, rfl⟩ := List.mem_map.mp q
      exact .inl (fldF pw hr hf)
  · exact .inr (by rw [q]; exact hy)
/-- the names of a deed -/
theorem ddF (pw : PtW own age cs recs cws) (iv : InvW cs recs cws) {c : Cw} (hc : c ∈ cws) {a b y : Str} {r : List Str} (hd : (a :: b :: y :: r) ∈ c.ds) (na : a ≠ "ask") : (b ∈ fnL recs ∨ b ∈ strays) ∧ (a ≠ "get" → y ∈ fnL recs ∨ y ∈ strays) := by
  obtain ⟨_, _, a3⟩ := iv.ac c hc
  have di := a3 _ hd
  have h6 : a ∈ six := ((pw.cw.ok c hc).ds _ hd).2.2.2
  have sin : ("in" : Str) ∈ strays := by decide +kernel
  have sout : ("out" : Str) ∈ strays := by decide +kernel
  unfold six at h6
  simp only [List.mem_cons, List.not_mem_nil, or_false] at h6
  rcases h6 with e | e | e | e | e | e
  · exact ⟨poolF pw sin (di.1 (.inl e)).1, fun _ => poolF pw sin (di.1 (.inl e)).2⟩
  · exact ⟨poolF pw sin (di.1 (.inr e)).1, fun _ => poolF pw sin (di.1 (.inr e)).2⟩
  · exact ⟨poolF pw sout (di.2.1 (.inl e)).1, fun _ => poolF pw sin (di.2.1 (.inl e)).2⟩
  · exact ⟨poolF pw sout (di.2.1 (.inr e)).1, fun _ => poolF pw sin (di.2.1 (.inr e)).2⟩
  · exact absurd e na
  · exact ⟨poolF pw sout (di.2.2 e), fun g => absurd e g⟩
include pw iv t
theorem cs_two : (csP (csN (sdF h'.1 L) h'.2.1 cs)).map (·.1) = ((csP (csN (sdF h.1 L) h.2.1 cs)).map (·.1)).map (bkA A) := by
  rw [csP_names, csP_names]
  unfold csN
  rw [List.map_map, List.map_map, List.map_map]
  refine List.map_congr_left fun c hc => ?_
  exact (t.side (.inl (choL pm hc))).2.symm
theorem recs_two : recsN (sdF h'.1 L) (sdF h'.2.1 (fnL recs)) recs = (recsN (sdF h.1 L) (sdF h.2.1 (fnL recs)) recs).map (renR (bkA A)) := by
  unfold recsN
  rw [List.map_map]
  refine List.map_congr_left fun r hr => ?_
  show (sdF h'.1 L r.1, r.2.map _) = (bkA A (sdF h.1 L r.1), (r.2.map _).map (renF (bkA A)))
  rw [(t.side (.inl (recL pm hr))).2, List.map_map]
  congr 1
  refine List.map_congr_left fun f hf => ?_
  show Fl.mk f.num (sdF h'.2.1 (fnL recs) f.nam) (renK (sdF h'.1 L) f.kd) f.must = Fl.mk f.num (bkA A (sdF h.2.1 (fnL recs) f.nam)) (renK (bkA A) (renK (sdF h.1 L) f.kd)) f.must
  rw [(t.fld (.inl (fldF pw hr hf))).2, ren_kk]
  congr 1
  exact ren_kn fun z hz => (t.side (knL pm (iv.kn r hr f hf) z hz)).2.symm
theorem ds_two {c : Cw} (hc : c ∈ cws) : c.ds.map (renD (sdF h'.2.1 (fnL recs))) = (c.ds.map (renD (sdF h.2.1 (fnL recs)))).map (renD (bkA A)) := by
  rw [List.map_map]
  refine List.map_congr_left fun d hd => ?_
  show renD _ d = renD (bkA A) (renD _ d)
  match d, hd with
  | [], _ => rfl
  | [_], _ => rfl
  | [_, _], _ => rfl
  | a :: b :: y :: r, hd =>
    by_cases na : a = "ask"
    · subst na
      rw [renD_ask, renD_ask, renD_ask]
    · obtain ⟨hb, hy⟩ := ddF pm pw iv hc hd na
      rw [renD_no _ na, renD_no _ na, renD_no _ na, (t.fld hb).2]
      congr 2
      by_cases g : a = "get"
      · rw [if_pos g, if_pos g, if_pos g]
      · rw [if_neg g, if_neg g, if_neg g, (t.fld (hy g)).2]
theorem cws_two : cwN (sdF h'.1 L) (sdF h'.2.1 (fnL recs)) h'.2.2 0 cws = (cwN (sdF h.1 L) (sdF h.2.1 (fnL recs)) h.2.2 0 cws).map (renW (bkA A)) := by
  have key : ∀ (l : List Cw) (n : Nat), n + l.length ≤ cws.length → (∀ c ∈ l, c ∈ cws) → cwN (sdF h'.1 L) (sdF h'.2.1 (fnL recs)) h'.2.2 n l = (cwN (sdF h.1 L) (sdF h.2.1 (fnL recs)) h.2.2 n l).map (renW (bkA A)) := by
    intro l
    induction l with
    | nil => intro n _ _; rfl
    | cons c l ih =>
      intro n hn hl
      have hc := hl c List.mem_cons_self
      rw [List.length_cons] at hn
      show _ :: _ = renW (bkA A) _ :: _
      rw [ih (n + 1) (by omega) (fun x hx => hl x (List.mem_cons_of_mem _ hx))]
      congr 1
      obtain ⟨a1, a2, _⟩ := iv.ac c hc
      show Cw.mk c.num _ _ _ _ = Cw.mk c.num _ _ _ _
      rw [(t.calI (i := n) (by rw [List.length_map]; omega)).2, (t.side (askL5 pm (.inl a1))).2, (t.side (askL5 pm (.inr a2))).2, ds_two pw iv pm t hc]
  exact key cws 0 (by omega) (fun _ h => h)
theorem recs_flM {r : Rec} (hr : r ∈ recs) : FlM (MA A) (r.2.map (flN (sdF h.1 L) (sdF h.2.1 (fnL recs)))) := fun f hf => by
  obtain ⟨g, hg, rfl⟩ := List.mem_map.mp hf
  refine ⟨(t.fld (.inl (fldF pw hr hg))).1, fun z hz => ?_⟩
  have e : (renK (sdF h.1 L) g.kd).nm = some z := hz
  rw [ren_nm] at e
  cases q : g.kd.nm with
  | none => rw [q] at e; cases e
  | some y =>
    rw [q] at e
    cases e
    exact (t.side (knL pm (iv.kn r hr g hg) y q)).1
theorem cw_mem {c : Cw} (hc : c ∈ cwN (sdF h.1 L) (sdF h.2.1 (fnL recs)) h.2.2 0 cws) : ∃ (i : Nat) (c0 : Cw), cws[i]? = some c0 ∧ c = ⟨c0.num, codeS i h.2.2, sdF h.1 L c0.ask, sdF h.1 L c0.ans, c0.ds.map (renD (sdF h.2.1 (fnL recs)))⟩ := by
  have key : ∀ (l : List Cw) (n : Nat), c ∈ cwN (sdF h.1 L) (sdF h.2.1 (fnL recs)) h.2.2 n l → ∃ (i : Nat) (c0 : Cw), l[i]? = some c0 ∧ c = ⟨c0.num, codeS (n + i) h.2.2, sdF h.1 L c0.ask, sdF h.1 L c0.ans, c0.ds.map (renD (sdF h.2.1 (fnL recs)))⟩ := by
    intro l
    induction l with
    | nil => intro n hh; cases hh
    | cons x l ih =>
      intro n hh
      rcases List.mem_cons.mp hh with e | hh
      · exact ⟨0, x, rfl, e⟩
      · obtain ⟨i, c0, h1, h2⟩ := ih (n + 1) hh
        exact ⟨i + 1, c0, h1, by rw [show n + (i + 1) = n + 1 + i by omega]; exact h2⟩
  obtain ⟨i, c0, h1, h2⟩ := key cws 0 hc
  exact ⟨i, c0, h1, by rw [Nat.zero_add] at h2; exact h2⟩
theorem allM1 : AllM (MA A) (csP (csN (sdF h.1 L) h.2.1 cs)) (recsN (sdF h.1 L) (sdF h.2.1 (fnL recs)) recs) (cwN (sdF h.1 L) (sdF h.2.1 (fnL recs)) h.2.2 0 cws) where
  c := fun z hz => by
    rw [csP_names] at hz
    obtain ⟨c, hc, rfl⟩ := List.mem_map.mp hz
    obtain ⟨c0, hc0, rfl⟩ := List.mem_map.mp hc
    exact (t.side (.inl (choL pm hc0))).1
  r := fun r hr => by
    obtain ⟨r0, hr0, rfl⟩ := List.mem_map.mp hr
    exact (t.side (.inl (recL pm hr0))).1
  f := fun r hr => by
    obtain ⟨r0, hr0, rfl⟩ := List.mem_map.mp hr
    exact recs_flM pw iv pm t hr0
  w := fun c hc => by
    obtain ⟨i, c0, h1, rfl⟩ := cw_mem pw iv pm t hc
    have hc0 := List.mem_of_getElem? h1
    obtain ⟨a1, a2, _⟩ := iv.ac c0 hc0
    refine ⟨(t.side (askL5 pm (.inl a1))).1, (t.side (askL5 pm (.inr a2))).1, fun d hd => ?_⟩
    obtain ⟨d0, hd0, rfl⟩ := List.mem_map.mp hd
    match d0, hd0 with
    | [], _ => trivial
    | [_], _ => trivial
    | [_, _], _ => trivial
    | a :: b :: y :: r, hd0 =>
      by_cases na : a = "ask"
      · subst na
        rw [renD_ask]
        exact fun g => absurd rfl g
      · obtain ⟨hb, hy⟩ := ddF pm pw iv hc0 hd0 na
        rw [renD_no _ na]
        refine fun _ => ⟨(t.fld hb).1, fun g => ?_⟩
        rw [if_neg g]
        exact (t.fld (hy g)).1
theorem callM {c : Cw} (hc : c ∈ cwN (sdF h.1 L) (sdF h.2.1 (fnL recs)) h.2.2 0 cws) : MA A c.nam := by
  obtain ⟨i, c0, h1, rfl⟩ := cw_mem pw iv pm t hc
  have li := (List.getElem?_eq_some_iff.mp h1).1
  exact .inl (t.calI (i := i) (by rw [List.length_map]; exact li)).1
end
end Fh

set_option Elab.async false
set_option linter.all false
set_option maxRecDepth 100000
set_option maxHeartbeats 4000000
namespace Fh
open PySem L2 PyProof.Rows
/-! ### a face named anew is one of those that are drawn; words of what is wrong with it -/
theorem nd_mapI {α β : Type} {f : α → β} : ∀ {l : List α}, (∀ x ∈ l, ∀ y ∈ l, f x = f y → x = y) → l.Nodup → (l.map f).Nodup
  | [], _, _ => List.nodup_nil
  | a :: l, h, nd => by
    rw [List.nodup_cons] at nd
    rw [List.map_cons, List.nodup_cons]
    refine ⟨fun hm => ?_, nd_mapI (fun x hx y hy => h x (List.mem_cons_of_mem _ hx) y (List.mem_cons_of_mem _ hy)) nd.2⟩
    obtain ⟨y, hy, e⟩ := List.mem_map.mp hm
    exact nd.1 (by rw [h a List.mem_cons_self y (List.mem_cons_of_mem _ hy) e.symm]; exact hy)
theorem cwN_num (sd fd : Str → Str) (hc : Str) : ∀ (l : List Cw) (n : Nat), (cwN sd fd hc n l).map Cw.num = l.map Cw.num
  | [], _ => rfl
  | c :: l, n => by
    show c.num :: _ = c.num :: _
    rw [cwN_num sd fd hc l (n + 1)]
theorem cwN_nam (sd fd : Str → Str) (hc hc' : Str) : ∀ (l : List Cw) (n : Nat), (cwN sd fd hc n l).map Cw.nam = (pz hc hc' n (l.map Cw.nam)).map (·.1)
  | [], _ => rfl
  | c :: l, n => by
    show codeS n hc :: _ = codeS n hc :: _
    rw [cwN_nam sd fd hc hc' l (n + 1)]
theorem opt_nm {h : Str × Str × Str} (mh : h ∈ headsL) {k : Nat} (hk : k < 40) : Nm (codeS k h.2.1) := nm_lit (code_nm h mh k (List.mem_range.mpr hk))
theorem op_new {h : Str × Str × Str} (mh : h ∈ headsL) {os : Opt} (ow : OpW os) : OpW (os.map fun o => (o.1, codeS o.1.toNat h.2.1)) where
  l1 := by rw [List.length_map]; exact ow.l1
  l6 := by rw [List.length_map]; exact ow.l6
  nd := by
    rw [List.map_map]
    have nd1 : (os.map (·.1)).Nodup := List.Pairwise.imp (fun h => Int.ne_of_lt h) ow.rise
    have : ((os.map (·.1)).map fun i : Int => codeS i.toNat h.2.1).Nodup := nd_mapI (fun x hx y hy e => by
      obtain ⟨o, ho, rfl⟩ := List.mem_map.mp hx
      obtain ⟨o', ho', rfl⟩ := List.mem_map.mp hy
      have r1 := ow.rg o ho
      have r2 := ow.rg o' ho'
      have := (code_inj mh (i := o.1.toNat) (j := o'.1.toNat) (by omega) (by omega)).2.1 e
      omega) nd1
    rw [List.map_map] at this
    exact this
  nm := fun o ho => by
    obtain ⟨o0, ho0, rfl⟩ := List.mem_map.mp ho
    have r1 := ow.rg o0 ho0
    exact opt_nm mh (by omega)
  rise := by
    rw [List.map_map]
    exact ow.rise
  rg := fun o ho => by
    obtain ⟨o0, ho0, rfl⟩ := List.mem_map.mp ho
    exact ow.rg o0 ho0
section
variable {h h' : Str × Str × Str} {own : Str} {age : Int} {cs : List Cho} {recs : List Rec} {cws : List Cw} {L : List Str} {A : List (Str × Str)}
  (pw : PtW own age cs recs cws) (iv : InvW cs recs cws) (pm : L.Perm (cs.map (·.1) ++ recs.map (·.1))) (t : Two h h' L (fnL recs) (cws.map Cw.nam) A)
include pw iv pm t
theorem ptW1 : PtW own age (csN (sdF h.1 L) h.2.1 cs) (recsN (sdF h.1 L) (sdF h.2.1 (fnL recs)) recs) (cwN (sdF h.1 L) (sdF h.2.1 (fnL recs)) h.2.2 0 cws) := by
  have inL : ∀ z ∈ cs.map (·.1) ++ recs.map (·.1), z ∈ L := fun z hz => pm.mem_iff.mpr hz
  have ndA : ((csN (sdF h.1 L) h.2.1 cs).map (·.1) ++ (recsN (sdF h.1 L) (sdF h.2.1 (fnL recs)) recs).map (·.1)).Nodup := by
    have : (((cs.map (·.1) ++ recs.map (·.1))).map (sdF h.1 L)).Nodup := nd_mapI (fun x hx y hy e => t.sinj (inL x hx) (inL y hy) e) pw.nd
    rw [List.map_append, List.map_map, List.map_map] at this
    unfold csN recsN
    rw [List.map_map, List.map_map]
    exact this
  refine ⟨pw.on, pw.a1, pw.a2, ⟨by unfold csN; rw [List.length_map]; exact pw.co.l6, (List.nodup_append.mp ndA).1, fun c hc => ?_, fun c hc => ?_⟩, ⟨by unfold recsN; rw [List.length_map]; exact pw.rc.l6, (List.nodup_append.mp ndA).2.1, fun r hr => ?_, fun r hr => ?_⟩, ⟨by rw [cwN_len]; exact pw.cw.l6, ?_, fun c hc => ?_, by rw [cwN_num]; exact pw.cw.rise, fun c hc => ?_⟩, ndA⟩
  · obtain ⟨c0, hc0, rfl⟩ := List.mem_map.mp hc
    exact t.nm (t.side (.inl (choL pm hc0))).1
  · obtain ⟨c0, hc0, rfl⟩ := List.mem_map.mp hc
    exact op_new t.mh (pw.co.op c0 hc0)
  · obtain ⟨r0, hr0, rfl⟩ := List.mem_map.mp hr
    exact t.nm (t.side (.inl (recL pm hr0))).1
  · obtain ⟨r0, hr0, rfl⟩ := List.mem_map.mp hr
    have fw := pw.rc.fl r0 hr0
    have fm := recs_flM pw iv pm t hr0
    refine ⟨by show (r0.2.map _).length ≤ 5; rw [List.length_map]; exact fw.l5, ?_, fun f hf => t.nm (fm f hf).1, fun f hf z hz => t.nm ((fm f hf).2 z hz), ?_, fun f hf => ?_⟩
    · show ((r0.2.map (flN _ _)).map Fl.nam).Nodup
      have : ((r0.2.map Fl.nam).map (sdF h.2.1 (fnL recs))).Nodup := nd_mapI (fun x hx y hy e => by
        obtain ⟨f, hf, rfl⟩ := List.mem_map.mp hx
        obtain ⟨g, hg, rfl⟩ := List.mem_map.mp hy
        exact t.finj (fldF pw hr0 hf) (fldF pw hr0 hg) e) fw.nd
      rw [List.map_map] at this ⊢
      exact this
    · show ((r0.2.map (flN _ _)).map Fl.num).Pairwise _
      rw [List.map_map]
      exact fw.rise
    · obtain ⟨f0, hf0, rfl⟩ := List.mem_map.mp hf
      exact fw.rg f0 hf0
  · rw [cwN_nam _ _ h.2.2 h'.2.2]
    refine List.Nodup.sublist ?_ (List.nodup_append.mp t.n1).1
    rw [t.eA]
    exact (List.sublist_append_right _ _).map _
  · obtain ⟨i, c0, h1, rfl⟩ := cw_mem pw iv pm t hc
    have hc0 := List.mem_of_getElem? h1
    have cw9 := pw.cw.ok c0 hc0
    obtain ⟨a1, a2, _⟩ := iv.ac c0 hc0
    refine ⟨t.nm (callM pw iv pm t hc), t.nm (t.side (askL5 pm (.inl a1))).1, t.nm (t.side (askL5 pm (.inr a2))).1, by show (c0.ds.map _).length ≤ 6; rw [List.length_map]; exact cw9.l, fun d hd => ?_⟩
    obtain ⟨d0, hd0, rfl⟩ := List.mem_map.mp hd
    have dw := cw9.ds d0 hd0
    obtain ⟨w1, w2, w3, w4⟩ := dw
    match d0, hd0, w1, w2, w3, w4 with
    | a :: b :: y :: r, hd0, w1, w2, w3, w4 =>
      by_cases na : a = "ask"
      · subst na
        rw [renD_ask]
        exact ⟨w1, w2, w3, w4⟩
      · obtain ⟨hb, hy⟩ := ddF pm pw iv hc0 hd0 na
        rw [renD_no _ na]
        refine ⟨w1, w2, fun z hz => ?_, w4⟩
        rcases List.mem_cons.mp hz with rfl | hz
        · exact w3 _ List.mem_cons_self
        rcases List.mem_cons.mp hz with rfl | hz
        · exact t.nm (t.fld hb).1
        rcases List.mem_cons.mp hz with e | hz
        · rw [e]
          by_cases g : a = "get"
          · rw [if_pos g]
            exact w3 _ (List.mem_cons_of_mem _ (List.mem_cons_of_mem _ List.mem_cons_self))
          · rw [if_neg g]
            exact t.nm (t.fld (hy g)).1
        · exact w3 _ (List.mem_cons_of_mem _ (List.mem_cons_of_mem _ (List.mem_cons_of_mem _ hz)))
  · obtain ⟨i, c0, h1, rfl⟩ := cw_mem pw iv pm t hc
    exact pw.cw.rg c0 (List.mem_of_getElem? h1)
end
/-- words of what is wrong -/
def RowM (M : Str → Prop) (x : List Key) : Prop := ∀ z : Str, (Sum.inr z : Key) ∈ x.tail → M z
section
variable {M : Str → Prop} {cs : List (Str × PyData)} {recs : List Rec} {cws : List Cw}
theorem row3 {w a b : Str} (h1 : M a) (h2 : M b) : RowM M [.inr w, .inr a, .inr b] := fun z hz => by
  rcases List.mem_cons.mp hz with e | hz
  · cases e; exact h1
  · rcases List.mem_cons.mp hz with e | hz
    · cases e; exact h2
    · cases hz
theorem row3i {w a : Str} {j : Int} (h1 : M a) : RowM M [.inr w, .inr a, .inl j] := fun z hz => by
  rcases List.mem_cons.mp hz with e | hz
  · cases e; exact h1
  · rcases List.mem_cons.mp hz with e | hz
    · cases e
    · cases hz
theorem row2 {w a : Str} (h1 : M a) : RowM M [.inr w, .inr a] := fun z hz => by
  rcases List.mem_cons.mp hz with e | hz
  · cases e; exact h1
  · cases hz
theorem wroL_M (A : AllM M cs recs cws) (hc : ∀ c ∈ cws, M c.nam) {own : Str} : ∀ x ∈ wroL own cs recs cws, RowM M x := fun x hx => by
  unfold wroL at hx
  rcases List.mem_append.mp hx with hx | hx
  · rcases List.mem_append.mp hx with hx | hx
    · obtain ⟨y, hy, rfl⟩ := List.mem_map.mp hx
      unfold nobL at hy
      obtain ⟨r, hr, hy⟩ := List.mem_flatMap.mp hy
      obtain ⟨f, hf, rfl⟩ := List.mem_map.mp hy
      obtain ⟨h1, h2⟩ := List.mem_filter.mp hf
      obtain ⟨z, hz⟩ := nob_name h2
      rw [hz]
      exact row3 (A.r r hr) ((A.f r hr f h1).2 z hz)
    · obtain ⟨y, hy, rfl⟩ := List.mem_map.mp hx
      unfold endL at hy
      obtain ⟨r, hr, rfl⟩ := List.mem_map.mp hy
      exact row2 (A.r r (List.mem_filter.mp hr).1)
  · obtain ⟨c, hcm, hx⟩ := List.mem_flatMap.mp hx
    obtain ⟨m1, m2, _⟩ := A.w c hcm
    have mc := hc c hcm
    unfold wroC at hx
    split at hx
    · rcases List.mem_append.mp hx with hx | hx
      · have key : ∀ n, ∀ x ∈ wdeR own c (flO recs c.ask) (flO recs c.ans) n, RowM M x := fun n => by
          induction n with
          | zero => intro x hx; cases hx
          | succ n ih =>
            intro x hx
            unfold wdeR at hx
            rcases List.mem_append.mp hx with hx | hx
            · exact ih x hx
            · cases q : c.ds[n]? with
              | none => rw [q] at hx; cases hx
              | some d =>
                rw [q] at hx
                have hx : x ∈ wde1 own c (flO recs c.ask) (flO recs c.ans) n d := hx
                unfold wde1 at hx
                rcases List.mem_append.mp hx with hx | hx
                · split at hx
                  · cases hx
                  · rw [List.mem_singleton.mp hx]; exact row3i mc
                · split at hx
                  · rw [List.mem_singleton.mp hx]; exact row3i mc
                  · cases hx
        exact key _ x hx
      · unfold unsL unsF at hx
        obtain ⟨f, hf, rfl⟩ := List.mem_map.mp hx
        have hf := (List.mem_filter.mp (List.mem_filter.mp hf).1).1
        have mf : M f.nam := by
          rcases flO_mem (recs := recs) (z := c.ans) with e | ⟨r, hr, e⟩
          · rw [e] at hf; cases hf
          · rw [e] at hf; exact (A.f r hr f hf).1
        exact row3 mc mf
    · unfold stoL at hx
      obtain ⟨z, hz, rfl⟩ := List.mem_map.mp hx
      have hz := (List.mem_filter.mp hz).1
      have mz : M z := by
        rcases List.mem_cons.mp hz with rfl | hz
        · exact m1
        · rw [List.mem_singleton.mp hz]; exact m2
      exact row3 mc mz
theorem renRow_inj {β : Str → Str} (inj : ∀ x y, M x → M y → β x = β y → x = y) {x y : List Key} (hx : RowM M x) (hy : RowM M y) (e : renRow β x = renRow β y) : x = y := by
  have key : ∀ {l m : List Key}, (∀ z, (Sum.inr z : Key) ∈ l → M z) → (∀ z, (Sum.inr z : Key) ∈ m → M z) → l.map (renKey β) = m.map (renKey β) → l = m := by
    intro l
    induction l with
    | nil => intro m _ _ e; cases m with
      | nil => rfl
      | cons a m => cases e
    | cons a l ih =>
      intro m h1 h2 e
      cases m with
      | nil => cases e
      | cons b m =>
        rw [List.map_cons, List.map_cons] at e
        injection e with e1 e2
        have e3 := ih (fun z hz => h1 z (List.mem_cons_of_mem _ hz)) (fun z hz => h2 z (List.mem_cons_of_mem _ hz)) e2
        have e4 : a = b := by
          cases a with
          | inl i => cases b with
            | inl j => injection e1 with e1; rw [e1]
            | inr z => cases e1
          | inr z => cases b with
            | inl j => cases e1
            | inr y => injection e1 with e1; rw [inj z y (h1 z List.mem_cons_self) (h2 y List.mem_cons_self) e1]
        rw [e3, e4]
  cases x with
  | nil => cases y with
    | nil => rfl
    | cons b y => cases e
  | cons a x => cases y with
    | nil => cases e
    | cons b y =>
      have e : a :: x.map (renKey β) = b :: y.map (renKey β) := e
      injection e with e1 e2
      rw [e1, (key hx hy e2 : x = y)]
end
end Fh

set_option Elab.async false
set_option linter.all false
set_option maxRecDepth 100000
set_option maxHeartbeats 4000000
namespace Fh
open PySem L2 PyProof.Rows
/-! ### the law -/
theorem heads_at {x0 x1 x2 x3 : Addr} {H : Hp} (e0 : H x0 = some (.lst [.str "q", .str "longe", .str "b"])) (e1 : H x1 = some (.lst [.str "", .str "z", .str "x"])) (e2 : H x2 = some (.lst [.str "mm", .str "k", .str "prefix"])) (e3 : H x3 = some (.lst [.str "w", .str "h", .str "t"])) {d : Int} (d0 : 0 ≤ d) (d1 : d < 4) :
    ∃ (xo : Addr) (h : Str × Str × Str), atI [V.ref x0, .ref x1, .ref x2, .ref x3] d = some (.ref xo) ∧ h ∈ headsL ∧ H xo = some (.lst [.str h.1, .str h.2.1, .str h.2.2]) := by
  rcases (by omega : d = 0 ∨ d = 1 ∨ d = 2 ∨ d = 3) with rfl | rfl | rfl | rfl
  · exact ⟨x0, ("q", "longe", "b"), rfl, by decide +kernel, e0⟩
  · exact ⟨x1, ("", "z", "x"), rfl, by decide +kernel, e1⟩
  · exact ⟨x2, ("mm", "k", "prefix"), rfl, by decide +kernel, e2⟩
  · exact ⟨x3, ("w", "h", "t"), rfl, by decide +kernel, e3⟩
theorem heads_len : ∀ g ∈ headsL, g.1.length ≤ 10 ∧ g.2.1.length ≤ 10 ∧ g.2.2.length ≤ 10 := by decide +kernel
abbrev sLaw : Stmt := top 55
abbrev nLawE : List Str := ["_law_script", "_law_k", "_law_bag_here", "_law_parts", "_law_heads", "_law_one", "_law_other", "_law_told"]
section
variable {P : Program} {w : World} {K : PySem.W.Frag} {mg : Str → Option Value} {base : Heap}
theorem scLaw : FnScope nLawE ["_law_script"] (defScope sLaw) := ⟨rfl, rfl, rfl, by decide +kernel, rfl, by decide +kernel, by decide +kernel⟩
theorem ok_law {f C : Addr} {fd : FuncData} (F : Fun K "law" "law" sLaw f fd) (G : Glb mg) (DB : Has P w K mg base "_law_bag" 1 ["_law_script", "_law_at"] (spBag K)) (DT : Has P w K mg base "_law_take" 1 ["_law_bag_here", "_law_size"] spTake) (DR : Has P w K mg base "_law_rich" 2 pRch spRch) (DA : Has P w K mg base "_law_all_drawn" 6 ["_law_bag_here"] spAllF)
    (DF : Has P w K mg base "_law_made_face" 3 ["_law_parts"] (spFace C)) (DW : Has P w K mg base "wrong" 7 ["face"] (spWro C)) (DN : Has P w K mg base "_law_named" 4 pTab spNam) (DI : Has P w K mg base "_law_image" 3 pImg spImg) : FnOk P w K mg base CX0 8 f fd ["_law_script"] (spLaw K) := by
  refine F.ok scLaw (fun vs H Q E h => ?_) (fun cdv A outer s H vs Q E hr h => ?_)
  · obtain ⟨a, ns, rfl, _⟩ := h
    rfl
  · obtain ⟨a, ns, rfl, hS, k⟩ := h
    have hu := hu_of hr
    have hmost : most = 1000000 := rfl
    refine ⟨_, (pss_cons (ps_for PassesOwn.never rfl (pi_range1 rfl G.range (pa_cons (pe_mid (pe_callB (call_max2 rfl) (by rfl) G.max (by decide +kernel) (pa_cons pe_int (pa_cons (pe_callB (call_min2 rfl) (by rfl) G.min (by decide +kernel) (pa_cons pe_int (pa_cons (pe_callB call_len_seq (by rfl) G.len (by decide +kernel) (pa_cons (pv 0) pa_nil)) pa_nil))) pa_nil)))) pa_nil)) (pg_name (i := 1) scLaw.nd rfl (Or.inl rfl))
      (pss_cons (ps_set (i := 2) scLaw.nd rfl (Or.inl rfl) (pe_has DB (hr.mono (by omega)) rfl (pa_cons (pv 0) (pa_cons (pv 1) pa_nil))))
      (pss_cons (ps_set (i := 3) scLaw.nd rfl (Or.inl rfl) (pe_has DA (hr.mono (by omega)) rfl (pa_cons (pv 2) pa_nil)))
      (C8.pss_cut (ps_if (pt_cmpR op_eq (pe_has DT (hr.mono (by omega)) rfl (pa_cons (pv 2) (pa_cons pe_int pa_nil))) pe_int (nomark _))
      (pss_one (ps_set (i := 3) scLaw.nd rfl (Or.inl rfl) (pe_has DR (hr.mono (by omega)) rfl (pa_cons (pv 2) (pa_cons (pv 3) pa_nil)))))
      pss_nil)
      (C8.pss_cut (ps_set (i := 4) scLaw.nd rfl (Or.inl rfl) (pe_lst (pa_cons (pe_lst (pa_cons pe_str (pa_cons pe_str (pa_cons pe_str pa_nil)))) (pa_cons (pe_lst (pa_cons pe_str (pa_cons pe_str (pa_cons pe_str pa_nil)))) (pa_cons (pe_lst (pa_cons pe_str (pa_cons pe_str (pa_cons pe_str pa_nil)))) (pa_cons (pe_lst (pa_cons pe_str (pa_cons pe_str (pa_cons pe_str pa_nil)))) pa_nil))))))
      (pss_cons (ps_par (i := 5) (j := 6) rfl scLaw.nd rfl rfl (by decide) rfl rfl (pa_cons (pe_ix ix_list (pv 4) (pe_has DT (hr.mono (by omega)) rfl (pa_cons (pv 2) (pa_cons pe_int pa_nil))) (fun _ _ => rfl)) (pa_cons (pe_ix ix_list (pv 4) (pe_has DT (hr.mono (by omega)) rfl (pa_cons (pv 2) (pa_cons pe_int pa_nil))) (fun _ _ => rfl)) pa_nil)) (by rfl))
      (C8.pss_cut (ps_set (i := 7) scLaw.nd rfl (Or.inl rfl) (pe_has DW (hr.mono (by omega)) rfl (pa_cons (pe_has DF (hr.mono (by omega)) rfl (pa_cons (pe_has DN (hr.mono (by omega)) rfl (pa_cons (pv 3) (pa_cons (pv 5) pa_nil))) pa_nil)) pa_nil)))
      (pss_one (ps_if (pt_mid (pt_cmpR (op_neD hr.units) (pe_has DW (hr.mono (by omega)) rfl (pa_cons (pe_has DF (hr.mono (by omega)) rfl (pa_cons (pe_has DN (hr.mono (by omega)) rfl (pa_cons (pv 3) (pa_cons (pv 6) pa_nil))) pa_nil)) pa_nil)) (pe_has DI (hr.mono (by omega)) rfl (pa_cons (pv 3) (pa_cons (pv 7) (pa_cons (pv 5) (pa_cons (pv 6) pa_nil))))) (nomark _)))
      (pss_one (ps_ret pe_bl))
      pss_nil)))))))))
      (pss_one (ps_ret pe_bl))), ?_⟩
    rw [show (L2.start nLawE [V.ref a]) = [some (V.ref a), none, none, none, none, none, none, none] from rfl]
    refine ⟨fun v H1 => ∃ m : Int, v = .int m ∧ 0 ≤ m ∧ m ≤ 8 ∧ H = H1, ?_, ?_⟩
    · refine ⟨_, rfl, a, _, rfl, .inl hS, _, _, rfl, _, _, rfl, ?_⟩
      refine ⟨_, rfl, ?_, ?_, rfl⟩
      · split <;> split <;> omega
      · split <;> split <;> omega
    rintro v H1 ⟨m, rfl, m0, m8, rfl⟩
    refine ⟨m, rfl, by omega, by omega, ?_⟩
    refine for_range (lo := 0) (n := m.toNat) (fun i σ H1 => (∃ a1 a2 a3 a4 a5 a6 a7, σ = [some (.ref a), a1, a2, a3, a4, a5, a6, a7]) ∧ Same H H1) ?_ ?_ ?_
    · exact ⟨⟨_, _, _, _, _, _, _, rfl⟩, Same.refl H⟩
    · rintro i σ H1 hi ⟨⟨a1, a2, a3, a4, a5, a6, a7, rfl⟩, sm1⟩
      try dsimp only [List.set_cons_succ, List.set_cons_zero]
      refine ⟨_, rfl, _, rfl, a, ns, _, rfl, SqL.ext hS sm1, by omega, by omega, fun b H2 sm2 hb B2 => ?_⟩
      have hb0 : H b = none := sm1.free hb
      have toS : ∀ {H' : Hp}, Kp b H2 H' → Same H H' := fun {H'} kp c o e => kp c o (fun q => by rw [q, hb0] at e; cases e) (sm2 _ _ (sm1 _ _ e))
      try dsimp only [List.set_cons_succ, List.set_cons_zero]
      refine ⟨_, rfl, b, 0, rfl, B2, by decide, fun v0 own age cs recs0 cws0 H3 tv0 pw0 iv0 K3 B3 => ?_⟩
      try dsimp only [List.set_cons_succ, List.set_cons_zero]
      refine ⟨fun σ H' => ∃ (v : V) (cws : List Cw), σ = [some (.ref a), some (.int (0 + (i : Int))), some (.ref b), some v, a4, a5, a6, a7] ∧ Kp b H2 H' ∧ Bag H' b 4310 ∧ PtF H' v own age cs recs0 cws ∧ PtW own age cs recs0 cws ∧ InvW cs recs0 cws, ?_, ?_⟩
      · refine ⟨_, rfl, b, 2, _, rfl, by decide, by decide, B3, by decide, fun d H4 d0 d1 k4 B4 => ⟨rfl, _, rfl, ite2 (fun _ => ?_) (fun _ => ⟨v0, cws0, rfl, K3.trans k4, B4.mono (by omega), tv0.keep (k4.fk B3) (k4.tk B3), pw0, iv0⟩)⟩⟩
        refine ⟨_, rfl, _, rfl, b, v0, own, age, cs, recs0, cws0, _, rfl, B4, by decide, tv0.keep (k4.fk B3) (k4.tk B3), pw0, fun v1 cws1 H5 tv1 pw1 ro K5 B5 => ?_⟩
        try dsimp only [List.set_cons_succ, List.set_cons_zero]
        exact ⟨v1, cws1, rfl, (K3.trans k4).trans K5, B5.mono (by omega), tv1, pw1, rich_inv iv0 ro⟩
      rintro σ H4 ⟨v1, cws, rfl, K4, B4, tv1, pw1, iv1⟩
      have lr6 := pw1.rc.l6
      have lc6 := pw1.co.l6
      have lw6 := pw1.cw.l6
      refine ⟨fun σ H' => ∃ (Hd x0 x1 x2 x3 : Addr), σ = [some (.ref a), some (.int (0 + (i : Int))), some (.ref b), some v1, some (.ref Hd), a5, a6, a7] ∧ Same H4 H' ∧ H' Hd = some (.lst [.ref x0, .ref x1, .ref x2, .ref x3]) ∧ H' x0 = some (.lst [.str "q", .str "longe", .str "b"]) ∧ H' x1 = some (.lst [.str "", .str "z", .str "x"]) ∧ H' x2 = some (.lst [.str "mm", .str "k", .str "prefix"]) ∧ H' x3 = some (.lst [.str "w", .str "h", .str "t"]) ∧ Hd ≠ b ∧ x0 ≠ b ∧ x1 ≠ b ∧ x2 ≠ b ∧ x3 ≠ b, ?_, ?_⟩
      · refine ⟨(by show 3 ≤ sizeLine; decide), fun x0 hx0 => ?_⟩
        have S1 := Same.new (H := H4) (o := .lst [.str "q", .str "longe", .str "b"]) hx0
        have e1 : (upd H4 x0 (.lst [.str "q", .str "longe", .str "b"])) x0 = some (.lst [.str "q", .str "longe", .str "b"]) := upd_same
        generalize (upd H4 x0 (.lst [.str "q", .str "longe", .str "b"])) = G1 at *
        refine ⟨(by show 3 ≤ sizeLine; decide), fun x1 hx1 => ?_⟩
        have S2 := Same.new (H := G1) (o := .lst [.str "", .str "z", .str "x"]) hx1
        have e2 : (upd G1 x1 (.lst [.str "", .str "z", .str "x"])) x1 = some (.lst [.str "", .str "z", .str "x"]) := upd_same
        generalize (upd G1 x1 (.lst [.str "", .str "z", .str "x"])) = G2 at *
        refine ⟨(by show 3 ≤ sizeLine; decide), fun x2 hx2 => ?_⟩
        have S3 := Same.new (H := G2) (o := .lst [.str "mm", .str "k", .str "prefix"]) hx2
        have e3 : (upd G2 x2 (.lst [.str "mm", .str "k", .str "prefix"])) x2 = some (.lst [.str "mm", .str "k", .str "prefix"]) := upd_same
        generalize (upd G2 x2 (.lst [.str "mm", .str "k", .str "prefix"])) = G3 at *
        refine ⟨(by show 3 ≤ sizeLine; decide), fun x3 hx3 => ?_⟩
        have S4 := Same.new (H := G3) (o := .lst [.str "w", .str "h", .str "t"]) hx3
        have e4 : (upd G3 x3 (.lst [.str "w", .str "h", .str "t"])) x3 = some (.lst [.str "w", .str "h", .str "t"]) := upd_same
        generalize (upd G3 x3 (.lst [.str "w", .str "h", .str "t"])) = G4 at *
        refine ⟨(by show 4 ≤ sizeLine; decide), fun Hd hHd => ?_⟩
        have S5 := Same.new (H := G4) (o := .lst [.ref x0, .ref x1, .ref x2, .ref x3]) hHd
        have S45 := S4.trans S5
        have B5 := B4.same S1
        have B6 := B5.same S2
        have B7 := B6.same S3
        have B8 := B7.same S4
        try dsimp only [List.set_cons_succ, List.set_cons_zero]
        exact ⟨Hd, x0, x1, x2, x3, rfl, ((S1.trans S2).trans S3).trans S45, upd_same, (S2.trans (S3.trans S45)) _ _ e1, (S3.trans S45) _ _ e2, S45 _ _ e3, S5 _ _ e4, new_ne hHd B8, new_ne hx0 B4, new_ne hx1 B5, new_ne hx2 B6, new_ne hx3 B7⟩
      rintro σ H5 ⟨Hd, x0, x1, x2, x3, rfl, S5, eH, e0, e1, e2, e3, nH, n0, n1, n2, n3⟩
      have B5 := B4.same S5
      refine ⟨_, rfl, _, rfl, b, 4, _, rfl, by decide, by decide, B5, by decide, fun d H6 d0 d1 k6 B6 => ?_⟩
      obtain ⟨xa, ha, eva, mha, ehA⟩ := heads_at (k6 _ _ n0 e0) (k6 _ _ n1 e1) (k6 _ _ n2 e2) (k6 _ _ n3 e3) d0 d1
      have nxa : xa ≠ b := fun e => by
        obtain ⟨q1, q2, q3, q4, _⟩ := B6
        rw [e, q4] at ehA
        cases ehA
      refine ⟨Hd, _, _, _, rfl, rfl, SqL.of (k6 _ _ nH eH), eva, ?_⟩
      refine ⟨_, rfl, _, rfl, b, 4, _, rfl, by decide, by decide, B6, by decide, fun d' H7 d0' d1' k7 B7 => ?_⟩
      have k67 := k6.trans k7
      obtain ⟨xb, hb9, evb, mhb, ehB⟩ := heads_at (k67 _ _ n0 e0) (k67 _ _ n1 e1) (k67 _ _ n2 e2) (k67 _ _ n3 e3) d0' d1'
      have ehA7 := k7 _ _ nxa ehA
      refine ⟨Hd, _, _, _, rfl, rfl, SqL.of (k67 _ _ nH eH), evb, _, _, rfl, ?_⟩
      try dsimp only [List.set_cons_succ, List.set_cons_zero]
      have K7 : Kp b H4 H7 := (Kp.refl.same S5).trans k67
      have tv7 := tv1.keep (K7.fk B4) (K7.tk B4)
      have K27 := K4.trans K7
      obtain ⟨p1, p2, p3⟩ := heads_len ha mha
      obtain ⟨q1, q2, q3⟩ := heads_len hb9 mhb
      have fnf := fn_fold (l := recs0) (F := []) (fun r hr => pw1.rc.fl r hr) List.nodup_nil
      have lF : (fnL recs0).length ≤ 30 := by
        have := fnf.2.1
        rw [List.length_nil] at this
        show (recs0.foldl fnS []).length ≤ 30
        omega
      have two : ∀ {g g' : Str × Str × Str} {L : List Str}, g ∈ headsL → g' ∈ headsL → L.Perm (cs.map (·.1) ++ recs0.map (·.1)) → Two g g' L (fnL recs0) (cws.map Cw.nam) (accA g g' L (fnL recs0) (cws.map Cw.nam)) := fun {g g' L} m1 m2 pm => ⟨m1, m2, (pm.nodup_iff).mpr pw1.nd, fnf.1, by
        have := pm.length_eq
        rw [List.length_append, List.length_map, List.length_map] at this
        omega, by omega, by rw [List.length_map]; omega, rfl⟩
      refine ⟨fun σ H' => ∃ (told : Addr) (T : List Row) (L : List Str), σ = [some (.ref a), some (.int (0 + (i : Int))), some (.ref b), some v1, some (.ref Hd), some (.ref xa), some (.ref xb), some (.ref told)] ∧ Same H7 H' ∧ RwL H' told T ∧ T.length < 300 ∧ (T.map (·.2)).Nodup ∧ L.Perm (cs.map (·.1) ++ recs0.map (·.1)) ∧ PyProof.Rows.sortedS L = true ∧ ∀ x, x ∈ T.map (·.2) ↔ x ∈ wroL own (csP (csN (sdF ha.1 L) ha.2.1 cs)) (recsN (sdF ha.1 L) (sdF ha.2.1 (fnL recs0)) recs0) (cwN (sdF ha.1 L) (sdF ha.2.1 (fnL recs0)) ha.2.2 0 cws), ?_, ?_⟩
      · refine ⟨_, rfl, _, rfl, v1, xa, ha, own, age, cs, recs0, cws, rfl, tv7, pw1, ehA7, p1, p2, p3, fun v2 L G1 S1 pm so tp => ?_⟩
        obtain ⟨pp, ee, v3, v4, xs, rfl, hp, t3, t4, he, txs⟩ := ptD_inv tp
        refine ⟨pp, _, _, _, _, _, rfl, hp, fun x dx G2 S2 hx0 hx => ?_⟩
        have pwA := ptW1 pw1 iv1 pm (two mha mhb pm)
        obtain ⟨w1, w2, w3, w4, w5, w6⟩ := wro_facts pwA
        refine ⟨x, dx, ee, own, _, v3, v4, _, _, xs, _, rfl, hx, t3.same S2, t4.same S2, S2 _ _ he, TpAll.keep (Same.tk S2) _ _ txs, w1, w2, w3, w4, w5, w6, fun told T G3 S3 htold X l300 pwt ndt mt => ?_⟩
        try dsimp only [List.set_cons_succ, List.set_cons_zero]
        exact ⟨told, T, L, rfl, (S1.trans S2).trans S3, X, l300, ndt, pm, so, mt⟩
      rintro σ H8 ⟨told, T, L, rfl, S8, X, l300, ndt, pm, so, mt⟩
      refine ⟨fun c H' => c = false ∧ Same H8 H', ?_, ?_⟩
      · have tv8 := tv7.keep (Same.fk S8) (Same.tk S8)
        refine ⟨_, rfl, _, rfl, v1, xb, hb9, own, age, cs, recs0, cws, rfl, tv8, pw1, S8 _ _ ehB, q1, q2, q3, fun v2 L2 G1 S1 pm2 so2 tp => ?_⟩
        have eL : L2 = L := sorted_uniq so2 so (pm2.trans pm.symm)
        subst eL
        obtain ⟨pp, ee, v3, v4, xs, rfl, hp, t3, t4, he, txs⟩ := ptD_inv tp
        refine ⟨pp, _, _, _, _, _, rfl, hp, fun x dx G2 S2 hx0 hx => ?_⟩
        have tw := two mha mhb pm
        have pwB := ptW1 pw1 iv1 pm (two mhb mha pm)
        obtain ⟨w1, w2, w3, w4, w5, w6⟩ := wro_facts pwB
        refine ⟨x, dx, ee, own, _, v3, v4, _, _, xs, _, rfl, hx, t3.same S2, t4.same S2, S2 _ _ he, TpAll.keep (Same.tk S2) _ _ txs, w1, w2, w3, w4, w5, w6, fun told2 T2 G3 S3 htold2 X2 l2 pw2 nd2 m2 => ?_⟩
        have S13 := (S1.trans S2).trans S3
        have AM := allM1 pw1 iv1 pm tw
        have CM := fun c hc => callM pw1 iv1 pm tw (c := c) hc
        have rM := wroL_M AM CM (own := own)
        have wkT : ∀ x ∈ T.map (·.2), WrK x := fun x hx => wroL_wrk x ((mt x).mp hx)
        refine ⟨_, rfl, _, rfl, _, rfl, _, rfl, v1, told, xa, xb, T, ha, hb9, own, age, cs, recs0, cws, rfl, tv8.keep (Same.fk S13) (Same.tk S13), pw1, S13 _ _ (S8 _ _ ehA7), S13 _ _ (S8 _ _ ehB), mha, mhb, X.same S13, wkT, l300, fun r T' L3 G4 S4 hr0 pm3 so3 X4 pmT pwT => ?_⟩
        have eL3 : L3 = L2 := sorted_uniq so3 so (pm3.trans pm.symm)
        subst eL3
        have ew : wroL own (csP (csN (sdF hb9.1 L3) hb9.2.1 cs)) (recsN (sdF hb9.1 L3) (sdF hb9.2.1 (fnL recs0)) recs0) (cwN (sdF hb9.1 L3) (sdF hb9.2.1 (fnL recs0)) hb9.2.2 0 cws) = (wroL own (csP (csN (sdF ha.1 L3) ha.2.1 cs)) (recsN (sdF ha.1 L3) (sdF ha.2.1 (fnL recs0)) recs0) (cwN (sdF ha.1 L3) (sdF ha.2.1 (fnL recs0)) ha.2.2 0 cws)).map (renRow (bkA (accA ha hb9 L3 (fnL recs0) (cws.map Cw.nam)))) := by
          rw [recs_two pw1 iv1 pm tw, cws_two pw1 iv1 pm tw]
          exact wroL_ren tw.inj (cs_two pw1 iv1 pm tw) AM
        have ndT' : (T'.map (·.2)).Nodup := (pmT.nodup_iff).mpr (nd_mapI (fun x hx y hy e => renRow_inj tw.inj (rM x ((mt x).mp hx)) (rM y ((mt y).mp hy)) e) ndt)
        have same1 : T2.map (·.2) = T'.map (·.2) := rows_same nd2 ndT' (fun x => by
          rw [m2, pmT.mem_iff, ew, List.mem_map, List.mem_map]
          constructor
          · rintro ⟨y, hy, e⟩
            exact ⟨y, (mt y).mpr hy, e⟩
          · rintro ⟨y, hy, e⟩
            exact ⟨y, (mt y).mp hy, e⟩) pw2 pwT
        have nm2 : ∀ x ∈ T2.map (·.2), RwNm x := fun x hx => wroL_nm pwB.rc pwB.cw x ((m2 x).mp hx)
        refine ⟨rowsK (T2.map (·.2)), rowsK (T'.map (·.2)), dp_rows (X2.same S4), dp_rows X4, sh_rows nm2, sh_rows (by rw [← same1]; exact nm2), _, rfl, ?_⟩
        rw [same1, eqv_rows]
        exact ⟨rfl, S13.trans S4⟩
      rintro c H9 ⟨rfl, S9⟩
      refine iteF ?_
      exact ⟨⟨_, _, _, _, _, _, _, rfl⟩, (toS K27).trans (S8.trans S9)⟩
    · rintro σ H1 _
      exact k _
end
end Fh

set_option Elab.async false
set_option linter.all false
set_option maxRecDepth 100000
set_option maxHeartbeats 0
namespace Fh
open PySem PySem.Spec PyProof.Rows L2
theorem toFun {K : PySem.W.Frag} {x q : Str} {st : Stmt} {f : Addr} {fd : FuncData} (F : FunD K x q (defArgs st) (defBody st) (defScope st) [] [] f fd) : Fun K x q st f fd := by
  obtain ⟨oc, od, dV, kV, doc, pm, an, cdv, ct, osl, e, lk, hcd, hD, _⟩ := F.ex
  rcases hD with ⟨_, rfl⟩ | ⟨e, _⟩
  · exact ⟨⟨oc, od, kV, doc, pm, an, cdv, ct, osl, e, lk, hcd⟩, F.kp⟩
  · exact absurd rfl e
mutual
theorem dpB_ok {K : PySem.W.Frag} : ∀ {d : PyData} {u : Value}, dpB K d u = true → ∃ v, RelV v u ∧ ∀ H : Hp, Dp K H v d
  | .str x, .str y t, h => by
    have e : x = y := of_decide_eq_true h
    subst e
    exact ⟨.str x, ⟨t, rfl⟩, fun H => .str x⟩
  | .tuple ds, .ref a, h => by
    unfold dpB at h
    split at h
    · rename_i cd its n sl lk
      obtain ⟨h1, h2⟩ := He.ba h
      obtain ⟨xs, r, q⟩ := dpBs_ok h2
      exact ⟨.ref a, rfl, fun H => .tup (.inr ⟨_, its, n, lk, rfl, rfl, of_decide_eq_true h1, r⟩) (q H)⟩
    · cases h
theorem dpBs_ok {K : PySem.W.Frag} : ∀ {ds : List PyData} {us : List Value}, dpBs K ds us = true → ∃ xs, Vals xs us ∧ ∀ H : Hp, DpAll K H xs ds
  | [], [], _ => ⟨[], .nil, fun H => .nil⟩
  | d :: ds, u :: us, h => by
    obtain ⟨h1, h2⟩ := He.ba h
    obtain ⟨v, r, q⟩ := dpB_ok h1
    obtain ⟨xs, rs, qs⟩ := dpBs_ok h2
    exact ⟨v :: xs, .cons r rs, fun H => .cons (q H) (qs H)⟩
end
section
variable {P : Program} {w : World} {K : PySem.W.Frag} {mg : Str → Option Value} {base : Heap}
theorem none_nob {C f : Addr} {fd : FuncData} (F : Fun K "names_nobody" "names_nobody" sNob f fd) : FnOk P w K mg base CX0 1 f fd ["face", "kind"] (spNob C fun _ => False) := by
  refine F.ok scNob (fun vs H Q E h => ?_) (fun cdv A outer s H vs Q E hr h => ?_)
  · obtain ⟨_, _, _, _, _, _, _, _, _, _, hk, _⟩ := h
    exact hk.elim
  · obtain ⟨_, _, _, _, _, _, _, _, _, _, hk, _⟩ := h
    exact hk.elim
theorem none_nin {f : Addr} {fd : FuncData} (F : Fun K "name_in" "name_in" sNin f fd) : FnOk P w K mg base CX0 1 f fd ["kind"] (spNin fun _ => False) := by
  refine F.ok scNin (fun vs H Q E h => ?_) (fun cdv A outer s H vs Q E hr h => ?_)
  · obtain ⟨_, _, _, _, _, _, hk, _⟩ := h
    exact hk.elim
  · obtain ⟨_, _, _, _, _, _, hk, _⟩ := h
    exact hk.elim
end
theorem setw_of {K : PySem.W.Frag} {a : Addr} (h : dpB K swD (.ref a) = true) (H : Hp) : SqT K H a [.str "tell", .str "copy", .str "get"] := by
  obtain ⟨v, r, q⟩ := dpB_ok h
  cases v with
  | ref b =>
    cases r
    cases q H with
    | tup h1 h2 =>
      cases h2 with
      | cons a1 h2 => cases h2 with
        | cons a2 h2 => cases h2 with
          | cons a3 h2 =>
            cases h2
            cases a1
            cases a2
            cases a3
            exact h1
  | _ => have q0 := q H; cases q0

theorem facts {P : Program} {w : World} {K : PySem.W.Frag} {h : Heap} {mg : Str → Option Value} {f : Addr} (X : K.In h) (G : h.Ns mainGlobals mg) (hfa : mg ("law" : Str) = some (.ref f)) (c : He.SaysX fa fn [] [] ex w h K) :
    ∃ fd : FuncData, (∀ (s : Shared) (v : Value), BindsTo s fd ⟨[v], []⟩ [("_law_script", v)]) ∧ ∀ base : Heap, K.In base → base.Ns mainGlobals mg → FnOk P w K mg base CX0 8 f fd ["_law_script"] (spLaw K) := by
  have d := c.t.d
  have gl : ∀ (i : Nat) {x : Str}, fa[i]? = some (.glo x) → mg x = some (.ref (He.ga K x)) := fun i x hi => He.glo_ok X G (d.fact i hi)
  have fr : ∀ (i : Nat) {x : Str}, fa[i]? = some (.free x) → mg x = none := fun i x hi => He.free_ok X G (d.fact i hi)
  have na : ∀ (i : Nat) {x y : Str}, fa[i]? = some (.noat x y) → NoAttr K (He.ga K x) y := fun i x y hi => He.noat_ok (d.fact i hi)
  have it : ∀ (i : Nat) {x : Str} {z : Int}, fa[i]? = some (.int x z) → ∃ t, mg x = some (.int z t) := fun i x z hi => He.int_ok X G (d.fact i hi)
  have GG : Glb mg := ⟨fr 43 rfl, fr 44 rfl, fr 45 rfl, fr 46 rfl, fr 47 rfl, fr 48 rfl, fr 49 rfl, fr 50 rfl, fr 51 rfl, fr 52 rfl, fr 53 rfl, fr 54 rfl, fr 55 rfl, fr 56 rfl, fr 57 rfl, fr 58 rfl, fr 59 rfl⟩
  have cl : Cls K (fC K) := He.cls_ok (d.fact 60 (f := .cls "Face") rfl)
  have mk : Mk K (fC K) (He.ma K (fC K) "__init__") := He.mkr_ok (d.fact 66 (f := .mkr "Face") rfl)
  have T : ClsF K mg (fC K) := ⟨cl, na 61 rfl, na 62 rfl, na 63 rfl, na 64 rfl, na 65 rfl, gl 0 rfl⟩
  obtain ⟨fdI, DI⟩ := d.def_ 0 (d := dInit) rfl
  have mm0 : Meth K (fC K) "fields_of" (He.ma K (fC K) "fields_of") := He.meth_ok (d.fact 67 (f := .meth "Face" "fields_of") rfl)
  obtain ⟨fdm0, Dm0⟩ := d.def_ 1 (d := mdef "fields_of" "Face.fields_of" sFields) rfl
  have mm1 : Meth K (fC K) "options_of" (He.ma K (fC K) "options_of") := He.meth_ok (d.fact 68 (f := .meth "Face" "options_of") rfl)
  obtain ⟨fdm1, Dm1⟩ := d.def_ 2 (d := mdef "options_of" "Face.options_of" sOptions) rfl
  obtain ⟨fd0, D0⟩ := d.def_ 3 (d := fdef "word_of" sWord) rfl
  obtain ⟨fd1, D1⟩ := d.def_ 4 (d := fdef "name_in" sNin) rfl
  obtain ⟨fd2, D2⟩ := d.def_ 5 (d := fdef "names_nobody" sNob) rfl
  obtain ⟨fd3, D3⟩ := d.def_ 6 (d := fdef "number_of" sNum) rfl
  obtain ⟨fd4, D4⟩ := d.def_ 7 (d := fdef "digits_of" sDigits) rfl
  obtain ⟨fd5, D5⟩ := d.def_ 8 (d := fdef "told_size" sTold) rfl
  obtain ⟨fd6, D6⟩ := d.def_ 9 (d := fdef "part_size" sPart) rfl
  obtain ⟨fd7, D7⟩ := d.def_ 10 (d := fdef "field_size" sFSize) rfl
  obtain ⟨fd8, D8⟩ := d.def_ 11 (d := fdef "least_of" sLeastOf) rfl
  obtain ⟨fd9, D9⟩ := d.def_ 12 (d := fdef "least_sizes" sLSizes) rfl
  obtain ⟨fd10, D10⟩ := d.def_ 13 (d := fdef "least_size" sLSize) rfl
  obtain ⟨fd11, D11⟩ := d.def_ 14 (d := fdef "wrong" sWro) rfl
  obtain ⟨fd12, D12⟩ := d.def_ 15 (d := fdef "strangers_in_kinds" sStr) rfl
  obtain ⟨fd13, D13⟩ := d.def_ 16 (d := fdef "endless_records" sEnd) rfl
  obtain ⟨fd14, D14⟩ := d.def_ 17 (d := fdef "strangers_of" sSto) rfl
  obtain ⟨fd15, D15⟩ := d.def_ 18 (d := fdef "wrong_deeds" sWde) rfl
  obtain ⟨fd16, D16⟩ := d.def_ 19 (d := fdef "fields_by_name" sFbn9) rfl
  obtain ⟨fd17, D17⟩ := d.def_ 20 (d := fdef "is_as_told" sAst) rfl
  obtain ⟨fd18, D18⟩ := d.def_ 21 (d := fdef "can_copy" sCan) rfl
  obtain ⟨fd19, D19⟩ := d.def_ 22 (d := fdef "effect_of" sEff) rfl
  obtain ⟨fd20, D20⟩ := d.def_ 23 (d := fdef "unset_fields" sUns) rfl
  obtain ⟨fd21, D21⟩ := d.def_ 24 (d := fdef "_law_bag" sBag) rfl
  obtain ⟨fd22, D22⟩ := d.def_ 25 (d := fdef "_law_take" sTake) rfl
  obtain ⟨fd23, D23⟩ := d.def_ 26 (d := fdef "_law_drawn_name" sName) rfl
  obtain ⟨fd24, D24⟩ := d.def_ 27 (d := fdef "_law_unlike_names" sUnlikeN) rfl
  obtain ⟨fd25, D25⟩ := d.def_ 28 (d := fdef "_law_rising" sRis) rfl
  obtain ⟨fd26, D26⟩ := d.def_ 29 (d := fdef "_law_pick" sPik) rfl
  obtain ⟨fd27, D27⟩ := d.def_ 30 (d := fdef "_law_kind_drawn" sKnd) rfl
  obtain ⟨fd28, D28⟩ := d.def_ 31 (d := fdef "_law_form_drawn" sFrm) rfl
  obtain ⟨fd29, D29⟩ := d.def_ 32 (d := fdef "_law_unlike" sUlk) rfl
  obtain ⟨fd30, D30⟩ := d.def_ 33 (d := fdef "_law_deed_drawn" sDed) rfl
  obtain ⟨fd31, D31⟩ := d.def_ 34 (d := fdef "_law_acts_drawn" sAct) rfl
  obtain ⟨fd32, D32⟩ := d.def_ 35 (d := fdef "_law_all_drawn" sAll) rfl
  obtain ⟨fd33, D33⟩ := d.def_ 36 (d := fdef "_law_made_face" sFace) rfl
  obtain ⟨fd34, D34⟩ := d.def_ 37 (d := fdef "_law_rich" sRch) rfl
  obtain ⟨fd35, D35⟩ := d.def_ 38 (d := fdef "_law_code" sCod) rfl
  obtain ⟨fd36, D36⟩ := d.def_ 39 (d := fdef "_law_tables" sTab) rfl
  obtain ⟨fd37, D37⟩ := d.def_ 40 (d := fdef "_law_kind_named" sKnm) rfl
  obtain ⟨fd38, D38⟩ := d.def_ 41 (d := fdef "_law_named" sNam) rfl
  obtain ⟨fd39, D39⟩ := d.def_ 42 (d := fdef "_law_image" sImg) rfl
  obtain ⟨fd40, D40⟩ := d.def_ 43 (d := fdef "law" sLaw) rfl
  have e2 := hfa.symm.trans (gl 42 (x := "law") rfl)
  cases e2
  have bL := FunD.bindsA (ps := ["_law_script"]) D40 fun _ _ _ _ _ _ us hl => match us, hl with | [_], _ => rfl
  refine ⟨fd40, fun s v => bL s [v] rfl, fun base _ _ => ?_⟩
  have FI : DInit K (kwOf ("Face", some "__init__") "choices" K) (kwOf ("Face", some "__init__") "records" K) (kwOf ("Face", some "__init__") "calls" K) (He.ma K (fC K) "__init__") fdI := DI
  have M : MkF P w K mg base (fC K) := ⟨⟨_, fdI, _, _, _, mk, ok_init FI T, FI⟩, gl 0 rfl⟩
  have i1 := it 70 (x := "BASE") (z := 256) rfl
  have i2 := it 71 (x := "FIRST_LONG_SIZE") (z := 200) rfl
  have i3 := it 72 (x := "GREATEST_LEAST") (z := 60) rfl
  have NN : Nums mg := ⟨i1, i2, i3⟩
  have SW : SetW K mg := ⟨He.ga K "SETTING_WORDS", gl 1 rfl, setw_of c.more⟩
  have nMenu : Nm "menu" := nm_lit (by decide +kernel)
  have nForm : Nm "form" := nm_lit (by decide +kernel)
  have W : Has P w K mg base "word_of" 1 ["kind"] spWord := ⟨⟨_, fd0, gl 2 rfl, D0.kp, FunD.bindsN D0 (fun _ _ _ _ _ _ us hl => match us, hl with | [_], _ => rfl), ok_word (toFun (x := "word_of") (q := "word_of") (st := sWord) D0) GG⟩⟩
  have I0 : Has P w K mg base "name_in" 1 ["kind"] (spNin fun _ => False) := ⟨⟨_, fd1, gl 3 rfl, D1.kp, FunD.bindsN D1 (fun _ _ _ _ _ _ us hl => match us, hl with | [_], _ => rfl), none_nin (toFun (x := "name_in") (q := "name_in") (st := sNin) D1)⟩⟩
  have I1 : Has P w K mg base "name_in" 2 ["kind"] (spNin isOne) := ⟨⟨_, fd1, gl 3 rfl, D1.kp, FunD.bindsN D1 (fun _ _ _ _ _ _ us hl => match us, hl with | [_], _ => rfl), ok_nin (toFun (x := "name_in") (q := "name_in") (st := sNin) D1) I0 (fun b hb => by obtain ⟨_, hb⟩ := hb; cases hb)⟩⟩
  have I2 : Has P w K mg base "name_in" 3 ["kind"] (spNin fun _ => True) := ⟨⟨_, fd1, gl 3 rfl, D1.kp, FunD.bindsN D1 (fun _ _ _ _ _ _ us hl => match us, hl with | [_], _ => rfl), ok_nin (toFun (x := "name_in") (q := "name_in") (st := sNin) D1) I1 (fun b _ => ⟨b, rfl⟩)⟩⟩
  have B0 : Has P w K mg base "names_nobody" 1 ["face", "kind"] (spNob (fC K) fun _ => False) := ⟨⟨_, fd2, gl 4 rfl, D2.kp, FunD.bindsN D2 (fun _ _ _ _ _ _ us hl => match us, hl with | [_, _], _ => rfl), none_nob (toFun (x := "names_nobody") (q := "names_nobody") (st := sNob) D2)⟩⟩
  have B1 : Has P w K mg base "names_nobody" 2 ["face", "kind"] (spNob (fC K) isOne) := ⟨⟨_, fd2, gl 4 rfl, D2.kp, FunD.bindsN D2 (fun _ _ _ _ _ _ us hl => match us, hl with | [_, _], _ => rfl), ok_nob (toFun (x := "names_nobody") (q := "names_nobody") (st := sNob) D2) GG cl T.n3 T.n4 B0 (fun b hb => by obtain ⟨_, hb⟩ := hb; cases hb)⟩⟩
  have B2 : Has P w K mg base "names_nobody" 3 ["face", "kind"] (spNob (fC K) fun _ => True) := ⟨⟨_, fd2, gl 4 rfl, D2.kp, FunD.bindsN D2 (fun _ _ _ _ _ _ us hl => match us, hl with | [_, _], _ => rfl), ok_nob (toFun (x := "names_nobody") (q := "names_nobody") (st := sNob) D2) GG cl T.n3 T.n4 B1 (fun b _ => ⟨b, rfl⟩)⟩⟩
  have O : HasM P w K mg base (fC K) "options_of" 1 ["self", "choice"] (spOptions (fC K)) := ⟨cl, _, fdm1, mm1, FunD.bindsN (ps := ["self", "choice"]) Dm1 (fun _ _ _ _ _ _ us hl => match us, hl with | [_, _], _ => rfl), ok_options (toFun (x := "options_of") (q := "Face.options_of") (st := sOptions) Dm1) cl T.n3⟩
  have Fi : HasM P w K mg base (fC K) "fields_of" 1 ["self", "record"] (spFields (fC K)) := ⟨cl, _, fdm0, mm0, FunD.bindsN (ps := ["self", "record"]) Dm0 (fun _ _ _ _ _ _ us hl => match us, hl with | [_, _], _ => rfl), ok_fields (toFun (x := "fields_of") (q := "Face.fields_of") (st := sFields) Dm0) cl T.n4⟩
  have U : Has P w K mg base "number_of" 2 ["face", "kind", "value"] (spNum (fC K)) := ⟨⟨_, fd3, gl 5 rfl, D3.kp, FunD.bindsN D3 (fun _ _ _ _ _ _ us hl => match us, hl with | [_, _, _], _ => rfl), ok_num (toFun (x := "number_of") (q := "number_of") (st := sNum) D3) W O⟩⟩
  have Dg : Has P w K mg base "digits_of" 1 ["number"] spDigits := ⟨⟨_, fd4, gl 6 rfl, D4.kp, FunD.bindsN D4 (fun _ _ _ _ _ _ us hl => match us, hl with | [_], _ => rfl), ok_digits (toFun (x := "digits_of") (q := "digits_of") (st := sDigits) D4) GG NN⟩⟩
  have Td : Has P w K mg base "told_size" 1 ["size"] spTold := ⟨⟨_, fd5, gl 7 rfl, D5.kp, FunD.bindsN D5 (fun _ _ _ _ _ _ us hl => match us, hl with | [_], _ => rfl), ok_told (toFun (x := "told_size") (q := "told_size") (st := sTold) D5) NN⟩⟩
  have Pt : Has P w K mg base "part_size" 2 ["size"] spPart := ⟨⟨_, fd6, gl 8 rfl, D6.kp, FunD.bindsN D6 (fun _ _ _ _ _ _ us hl => match us, hl with | [_], _ => rfl), ok_part (toFun (x := "part_size") (q := "part_size") (st := sPart) D6) GG Td⟩⟩
  have Fs : Has P w K mg base "field_size" 3 ["size"] spFSize := ⟨⟨_, fd7, gl 9 rfl, D7.kp, FunD.bindsN D7 (fun _ _ _ _ _ _ us hl => match us, hl with | [_], _ => rfl), ok_fsize (toFun (x := "field_size") (q := "field_size") (st := sFSize) D7) Pt⟩⟩
  have Lo : Has P w K mg base "least_of" 2 ["face", "kind"] (spLeastOf (fC K)) := ⟨⟨_, fd8, gl 10 rfl, D8.kp, FunD.bindsN D8 (fun _ _ _ _ _ _ us hl => match us, hl with | [_, _], _ => rfl), ok_leastOf (toFun (x := "least_of") (q := "least_of") (st := sLeastOf) D8) W O⟩⟩
  have Ls : Has P w K mg base "least_size" 4 ["face", "kind", "sizes"] (spLSize (fC K)) := ⟨⟨_, fd10, gl 12 rfl, D10.kp, FunD.bindsN D10 (fun _ _ _ _ _ _ us hl => match us, hl with | [_, _, _], _ => rfl), ok_lsize (toFun (x := "least_size") (q := "least_size") (st := sLSize) D10) GG B2 W Dg U Lo⟩⟩
  have Lss : Has P w K mg base "least_sizes" 5 ["face"] (spLSizes (fC K)) := ⟨⟨_, fd9, gl 11 rfl, D9.kp, FunD.bindsN D9 (fun _ _ _ _ _ _ us hl => match us, hl with | [_], _ => rfl), ok_lsizes (toFun (x := "least_sizes") (q := "least_sizes") (st := sLSizes) D9) GG cl T.n4 Ls Fs⟩⟩
  have Sk : Has P w K mg base "strangers_in_kinds" 4 ["face"] (spStrX (fC K)) := ⟨⟨_, fd12, gl 14 rfl, D12.kp, FunD.bindsN D12 (fun _ _ _ _ _ _ us hl => match us, hl with | [_], _ => rfl), ok_strX (toFun (x := "strangers_in_kinds") (q := "strangers_in_kinds") (st := sStr) D12) GG cl T.n4 B2 I2⟩⟩
  have En : Has P w K mg base "endless_records" 6 ["face"] (spEnd (fC K)) := ⟨⟨_, fd13, gl 15 rfl, D13.kp, FunD.bindsN D13 (fun _ _ _ _ _ _ us hl => match us, hl with | [_], _ => rfl), ok_end (toFun (x := "endless_records") (q := "endless_records") (st := sEnd) D13) NN cl T.n4 Lss⟩⟩
  have Fb : Has P w K mg base "fields_by_name" 2 ["face", "record"] (spFbn9 (fC K)) := ⟨⟨_, fd16, gl 18 rfl, D16.kp, FunD.bindsN D16 (fun _ _ _ _ _ _ us hl => match us, hl with | [_, _], _ => rfl), ok_fbn9 (toFun (x := "fields_by_name") (q := "fields_by_name") (st := sFbn9) D16) Fi⟩⟩
  have Cc : Has P w K mg base "can_copy" 1 ["goal", "source"] spCan := ⟨⟨_, fd18, gl 20 rfl, D18.kp, FunD.bindsN D18 (fun _ _ _ _ _ _ us hl => match us, hl with | [_, _], _ => rfl), ok_can (toFun (x := "can_copy") (q := "can_copy") (st := sCan) D18)⟩⟩
  have Ef : Has P w K mg base "effect_of" 1 ["deed", "answered"] spEff := ⟨⟨_, fd19, gl 21 rfl, D19.kp, FunD.bindsN D19 (fun _ _ _ _ _ _ us hl => match us, hl with | [_, _], _ => rfl), ok_eff (toFun (x := "effect_of") (q := "effect_of") (st := sEff) D19) SW⟩⟩
  have As : Has P w K mg base "is_as_told" 2 ["face", "deed", "asked", "answered", "ahead"] (spAst (fC K)) := ⟨⟨_, fd17, gl 19 rfl, D17.kp, FunD.bindsN D17 (fun _ _ _ _ _ _ us hl => match us, hl with | [_, _, _, _, _], _ => rfl), ok_ast (toFun (x := "is_as_told") (q := "is_as_told") (st := sAst) D17) cl T.n1 Cc⟩⟩
  have So : Has P w K mg base "strangers_of" 1 ["face", "call"] (spSto (fC K)) := ⟨⟨_, fd14, gl 16 rfl, D14.kp, FunD.bindsN D14 (fun _ _ _ _ _ _ us hl => match us, hl with | [_, _], _ => rfl), ok_sto (toFun (x := "strangers_of") (q := "strangers_of") (st := sSto) D14) cl T.n4⟩⟩
  have Wd : Has P w K mg base "wrong_deeds" 3 ["face", "call"] (spWde (fC K)) := ⟨⟨_, fd15, gl 17 rfl, D15.kp, FunD.bindsN D15 (fun _ _ _ _ _ _ us hl => match us, hl with | [_, _], _ => rfl), ok_wde (toFun (x := "wrong_deeds") (q := "wrong_deeds") (st := sWde) D15) GG GG.enumerate Fb As Ef⟩⟩
  have Us : Has P w K mg base "unset_fields" 3 ["face", "call"] (spUns (fC K)) := ⟨⟨_, fd20, gl 22 rfl, D20.kp, FunD.bindsN D20 (fun _ _ _ _ _ _ us hl => match us, hl with | [_, _], _ => rfl), ok_uns (toFun (x := "unset_fields") (q := "unset_fields") (st := sUns) D20) Fb Ef⟩⟩
  have Wr : Has P w K mg base "wrong" 7 ["face"] (spWro (fC K)) := ⟨⟨_, fd11, gl 13 rfl, D11.kp, FunD.bindsN D11 (fun _ _ _ _ _ _ us hl => match us, hl with | [_], _ => rfl), ok_wro (toFun (x := "wrong") (q := "wrong") (st := sWro) D11) GG cl T.n5 Sk En So Wd Us⟩⟩
  have LB : Has P w K mg base "_law_bag" 1 ["_law_script", "_law_at"] (spBag K) := ⟨⟨_, fd21, gl 23 rfl, D21.kp, FunD.bindsN D21 (fun _ _ _ _ _ _ us hl => match us, hl with | [_, _], _ => rfl), ok_bag (toFun (x := "_law_bag") (q := "_law_bag") (st := sBag) D21) GG⟩⟩
  have LT : Has P w K mg base "_law_take" 1 ["_law_bag_here", "_law_size"] spTake := ⟨⟨_, fd22, gl 24 rfl, D22.kp, FunD.bindsN D22 (fun _ _ _ _ _ _ us hl => match us, hl with | [_, _], _ => rfl), ok_take (toFun (x := "_law_take") (q := "_law_take") (st := sTake) D22)⟩⟩
  have LN : Has P w K mg base "_law_drawn_name" 2 ["_law_bag_here"] spName := ⟨⟨_, fd23, gl 25 rfl, D23.kp, FunD.bindsN D23 (fun _ _ _ _ _ _ us hl => match us, hl with | [_], _ => rfl), ok_name (toFun (x := "_law_drawn_name") (q := "_law_drawn_name") (st := sName) D23) GG LT⟩⟩
  have LX : Has P w K mg base "_law_unlike_names" 3 ["_law_bag_here", "_law_size", "_law_taken"] spUnlikeN := ⟨⟨_, fd24, gl 26 rfl, D24.kp, FunD.bindsN D24 (fun _ _ _ _ _ _ us hl => match us, hl with | [_, _, _], _ => rfl), ok_unlikeN (toFun (x := "_law_unlike_names") (q := "_law_unlike_names") (st := sUnlikeN) D24) GG LN⟩⟩
  have LR : Has P w K mg base "_law_rising" 2 ["_law_bag_here", "_law_size", "_law_most"] spRis := ⟨⟨_, fd25, gl 27 rfl, D25.kp, FunD.bindsN D25 (fun _ _ _ _ _ _ us hl => match us, hl with | [_, _, _], _ => rfl), ok_ris (toFun (x := "_law_rising") (q := "_law_rising") (st := sRis) D25) GG LT⟩⟩
  have LP : Has P w K mg base "_law_pick" 2 ["_law_bag_here", "_law_pool", "_law_strange"] spPik := ⟨⟨_, fd26, gl 28 rfl, D26.kp, FunD.bindsN D26 (fun _ _ _ _ _ _ us hl => match us, hl with | [_, _, _], _ => rfl), ok_pik (toFun (x := "_law_pick") (q := "_law_pick") (st := sPik) D26) GG LT⟩⟩
  have LK : Has P w K mg base "_law_kind_drawn" 3 ["_law_bag_here", "_law_menus", "_law_forms"] spKnd := ⟨⟨_, fd27, gl 29 rfl, D27.kp, FunD.bindsN D27 (fun _ _ _ _ _ _ us hl => match us, hl with | [_, _, _], _ => rfl), ok_knd (toFun (x := "_law_kind_drawn") (q := "_law_kind_drawn") (st := sKnd) D27) GG nMenu nForm LT LP⟩⟩
  have LU : Has P w K mg base "_law_unlike" 4 ["_law_bag_here", "_law_size"] spUlk := ⟨⟨_, fd29, gl 31 rfl, D29.kp, FunD.bindsN D29 (fun _ _ _ _ _ _ us hl => match us, hl with | [_, _], _ => rfl), ok_ulk (toFun (x := "_law_unlike") (q := "_law_unlike") (st := sUlk) D29) GG LT LX⟩⟩
  have LD : Has P w K mg base "_law_deed_drawn" 3 ["_law_bag_here", "_law_own", "_law_ins", "_law_outs"] spDed := ⟨⟨_, fd30, gl 32 rfl, D30.kp, FunD.bindsN D30 (fun _ _ _ _ _ _ us hl => match us, hl with | [_, _, _, _], _ => rfl), ok_ded (toFun (x := "_law_deed_drawn") (q := "_law_deed_drawn") (st := sDed) D30) GG LT LP LN⟩⟩
  have LM : Has P w K mg base "_law_form_drawn" 5 ["_law_bag_here", "_law_menus", "_law_forms"] spFrm := ⟨⟨_, fd28, gl 30 rfl, D28.kp, FunD.bindsN D28 (fun _ _ _ _ _ _ us hl => match us, hl with | [_, _, _], _ => rfl), ok_frm (toFun (x := "_law_form_drawn") (q := "_law_form_drawn") (st := sFrm) D28) GG GG.zip LT LR LU LK⟩⟩
  have LC : Has P w K mg base "_law_acts_drawn" 5 ["_law_bag_here", "_law_own", "_law_found_forms"] spAct := ⟨⟨_, fd31, gl 33 rfl, D31.kp, FunD.bindsN D31 (fun _ _ _ _ _ _ us hl => match us, hl with | [_, _, _], _ => rfl), ok_act (toFun (x := "_law_acts_drawn") (q := "_law_acts_drawn") (st := sAct) D31) GG GG.zip LT LR LU LP LD⟩⟩
  have LA : Has P w K mg base "_law_all_drawn" 6 ["_law_bag_here"] spAllF := ⟨⟨_, fd32, gl 34 rfl, D32.kp, FunD.bindsN D32 (fun _ _ _ _ _ _ us hl => match us, hl with | [_], _ => rfl), ok_allF (toFun (x := "_law_all_drawn") (q := "_law_all_drawn") (st := sAll) D32) GG GG.zip LT LN LX LR LU LM LC⟩⟩
  have LF : Has P w K mg base "_law_made_face" 3 ["_law_parts"] (spFace (fC K)) := ⟨⟨_, fd33, gl 35 rfl, D33.kp, FunD.bindsN D33 (fun _ _ _ _ _ _ us hl => match us, hl with | [_], _ => rfl), ok_face (toFun (x := "_law_made_face") (q := "_law_made_face") (st := sFace) D33) M⟩⟩
  have LRi : Has P w K mg base "_law_rich" 2 ["_law_bag_here", "_law_parts"] spRch := ⟨⟨_, fd34, gl 36 rfl, D34.kp, FunD.bindsN D34 (fun _ _ _ _ _ _ us hl => match us, hl with | [_, _], _ => rfl), ok_rch (toFun (x := "_law_rich") (q := "_law_rich") (st := sRch) D34) GG LT⟩⟩
  have LCo : Has P w K mg base "_law_code" 1 ["_law_at", "_law_head"] spCod := ⟨⟨_, fd35, gl 37 rfl, D35.kp, FunD.bindsN D35 (fun _ _ _ _ _ _ us hl => match us, hl with | [_, _], _ => rfl), ok_cod (toFun (x := "_law_code") (q := "_law_code") (st := sCod) D35)⟩⟩
  have LTa : Has P w K mg base "_law_tables" 2 ["_law_parts", "_law_heads"] spTab := ⟨⟨_, fd36, gl 38 rfl, D36.kp, FunD.bindsN D36 (fun _ _ _ _ _ _ us hl => match us, hl with | [_, _], _ => rfl), ok_tab (toFun (x := "_law_tables") (q := "_law_tables") (st := sTab) D36) GG LCo⟩⟩
  have KN0 : Has P w K mg base "_law_kind_named" 1 ["_law_kind", "_law_sides"] (spKnm fun _ => False) := ⟨⟨_, fd37, gl 39 rfl, D37.kp, FunD.bindsN D37 (fun _ _ _ _ _ _ us hl => match us, hl with | [_, _], _ => rfl), none_knm (toFun (x := "_law_kind_named") (q := "_law_kind_named") (st := sKnm) D37)⟩⟩
  have KN1 : Has P w K mg base "_law_kind_named" 2 ["_law_kind", "_law_sides"] (spKnm isOne) := ⟨⟨_, fd37, gl 39 rfl, D37.kp, FunD.bindsN D37 (fun _ _ _ _ _ _ us hl => match us, hl with | [_, _], _ => rfl), ok_knm (toFun (x := "_law_kind_named") (q := "_law_kind_named") (st := sKnm) D37) GG KN0 (fun b hb => by obtain ⟨_, hb⟩ := hb; cases hb)⟩⟩
  have KN2 : Has P w K mg base "_law_kind_named" 3 ["_law_kind", "_law_sides"] (spKnm fun _ => True) := ⟨⟨_, fd37, gl 39 rfl, D37.kp, FunD.bindsN D37 (fun _ _ _ _ _ _ us hl => match us, hl with | [_, _], _ => rfl), ok_knm (toFun (x := "_law_kind_named") (q := "_law_kind_named") (st := sKnm) D37) GG KN1 (fun b _ => ⟨b, rfl⟩)⟩⟩
  have LNa : Has P w K mg base "_law_named" 4 ["_law_parts", "_law_heads"] spNam := ⟨⟨_, fd38, gl 40 rfl, D38.kp, FunD.bindsN D38 (fun _ _ _ _ _ _ us hl => match us, hl with | [_, _], _ => rfl), ok_nam (toFun (x := "_law_named") (q := "_law_named") (st := sNam) D38) GG LCo LTa KN2⟩⟩
  have LIm : Has P w K mg base "_law_image" 3 ["_law_parts", "_law_told", "_law_heads", "_law_others"] spImg := ⟨⟨_, fd39, gl 41 rfl, D39.kp, FunD.bindsN D39 (fun _ _ _ _ _ _ us hl => match us, hl with | [_, _, _, _], _ => rfl), ok_img (toFun (x := "_law_image") (q := "_law_image") (st := sImg) D39) GG LCo LTa⟩⟩
  exact ok_law (toFun (x := "law") (q := "law") (st := sLaw) D40) GG LB LT LRi LA LF Wr LNa LIm
end Fh
open PySem PySem.W PySem.Calls PyProof.Rows
theorem PySem.Challenge.cw_facehouse_k15_whole_renamed_holds : PySem.Challenge.rw_facehouse_k15_whole_renamed.Holds := by
  w_on; o_law
  refine HandSHeadRun.head_any (r := Fh.R) (q := view Fh.R.prog [55]) (H := Fh.hk) (ob := Fh.ob) (M := 20000) (loose := Fh.loose) (d := HandSHeadRun.topDef Fh.R.prog 55) (kwd := []) Fh.ob_eq
    (by kernel_rfl) (fun s => by kernel_rfl) Fh.run (by kernel_rfl) (by kernel_rfl) (by kernel_rfl) (by rfl) (by first | assumption | decide +kernel) (by decide +kernel) ⟨rfl, rfl, rfl, rfl, rfl, by decide +kernel⟩ ?hw ?hc
  case hw => w_witness2
  case hc =>
    refine L2.walk_ofE (l := PySem.Challenge.rw_facehouse_k15_whole_renamed) (n := 63) (k := 8) (x := "_law_script") (CX := L2.CX0) rfl (by decide) (by kernel_rfl) ⟨rfl, by decide, by decide⟩ ?F (fun _ _ _ _ z => z)
    intro w mg fa h Y G hmg0
    obtain ⟨K, KX, c⟩ := Y
    have hmg : mg ("law" : PySem.Str) = some (.ref fa) := by
      have e : (HandSHeadRun.topDef Fh.R.prog 55).name = ("law" : PySem.Str) := by kernel_rfl
      rw [← e]
      exact hmg0
    obtain ⟨fd, hb, hF⟩ := Fh.facts (P := (PySem.Challenge.rw_facehouse_k15_whole_renamed).prog) (w := w) KX G hmg c
    exact ⟨K, fd, Fh.spLaw K, KX, hb, fun H a ns hl _ hS => ⟨a, ns, rfl, hS, fun _ => rfl⟩, hF⟩
