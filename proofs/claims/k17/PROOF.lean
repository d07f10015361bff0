import PyProof.Rows.All
import Wide.All
import OpenK.AllK
import Wide.FinOn
import HandS.ForMost
import HandS.TupAny
import HandS.Zip
import HandS.Flow
import HandS.Wide
import HandS.IsInst
import HandS.FStr
import HandS.OwnEq
import HandS.MakeKwOnly
import HandS.Codes
import HandS.Walk
import HandS.DictComp
import HandS.Style
import HandS.More
import PySem.Challenge.RW_facehouse_k17_whole_least_bodies
import HandS.HeadHook1
import HandS.HeadHook2
import HandS.HeadHook3
import HandS.HeadHook4
import HandS.Head0
import HandS.Head1
import HandS.Head2
import HandS.HeadEnd
import HandS.TupSets
import PyProof.Rows.SetFrom
import PyProof.DictKinds
import PyProof.Walks
import KE.SortData
import KE.OsSortAny
import HandS.List
import HandS.Dict
import KE.KEqNest
import HandS.Deep
import HandS.TupLe
set_option Elab.async false
set_option linter.all false
set_option maxRecDepth 100000
set_option maxHeartbeats 4000000
namespace Fh
open PySem L2 PyProof.Rows

/-! ### rules of our own -/
theorem bits_le {i : Int} {n : Nat} (h : i.natAbs < 2 ^ n) : Builtin.Int.intBits i ≤ n := by
  unfold Builtin.Int.intBits
  split
  · exact Nat.zero_le _
  · rename_i hz
    have h0 : i.natAbs ≠ 0 := fun e => hz (by simp [Int.natAbs_eq_zero.mp e])
    exact (Nat.log2_lt h0).mpr h
def CPowW (i j : Int) : Prop := 0 ≤ j ∧ j ≤ 1000 ∧ i.natAbs < 2 ^ 100
theorem CPowW.ok {i j : Int} (h : CPowW i j) : (Builtin.Int.intBits i : Int) * j ≤ 2 ^ 27 := by
  obtain ⟨h0, h1, h2⟩ := h
  have hb : (Builtin.Int.intBits i : Int) ≤ 100 := by exact_mod_cast bits_le h2
  calc (Builtin.Int.intBits i : Int) * j ≤ 100 * 1000 := Int.mul_le_mul hb h1 h0 (by decide)
    _ ≤ 2 ^ 27 := by decide
theorem op_powW {X : Cx} : OpR X (binaryOp .Pow) (rI CPowW fun i j => .int (i ^ j.toNat)) := opI fun _ _ _ _ _ _ _ hc q => pow_int hc.1 hc.ok q

/-- what an expression gives, by a word between it and what follows -/
def tMid (t : TE) : TE := fun σ H Q => ∃ Mid : V → Hp → Prop, t σ H Mid ∧ ∀ v H', Mid v H' → Q v H'
theorem pe_mid {X : Cx} {e : Expr} {t : TE} (h : PE X e t) : PE X e (tMid t) := by
  refine ⟨fun pins s σ H Q I hq => ?_⟩
  obtain ⟨Mid, hm, hu⟩ := hq
  exact thn (h.run pins s σ H Mid I hm) fun v s1 ⟨x, H1, I1, r1, q1⟩ => ⟨x, H1, I1, r1, hu x H1 q1⟩
theorem atI_in {α : Type} {xs : List α} {i : Int} (h0 : 0 ≤ i) (h1 : i < (xs.length : Int)) : ∃ v, atI xs i = some v ∧ xs[i.toNat]? = some v ∧ v ∈ xs := by
  have hj : i.toNat < xs.length := by omega
  have e : ixN xs.length i = some i.toNat := by
    unfold ixN
    rw [if_pos h0, if_pos h1]
  refine ⟨xs[i.toNat], ?_, List.getElem?_eq_getElem hj, List.getElem_mem hj⟩
  unfold atI
  rw [e]
  exact List.getElem?_eq_getElem hj

/-! ### the bag -/
/-- a bag at b, drawn from at most n times -/
def Bag (H : Hp) (b : Addr) (n : Nat) : Prop := ∃ x y z : Int, H b = some (.lst [.int x, .int y, .int z]) ∧ 0 ≤ y ∧ y < 2 ^ 61 ∧ 0 ≤ z ∧ z ≤ (n : Int)
theorem Bag.mono {H : Hp} {b : Addr} {n m : Nat} (h : Bag H b n) (hm : n ≤ m) : Bag H b m := by
  obtain ⟨x, y, z, e, a1, a2, a3, a4⟩ := h
  exact ⟨x, y, z, e, a1, a2, a3, by omega⟩
/-- all but what stands at b is kept -/
def Kp (b : Addr) (H H' : Hp) : Prop := ∀ a o, a ≠ b → H a = some o → H' a = some o
theorem Kp.refl {b : Addr} {H : Hp} : Kp b H H := fun _ _ _ h => h
theorem Kp.trans {b : Addr} {H H1 H2 : Hp} (x : Kp b H H1) (y : Kp b H1 H2) : Kp b H H2 := fun a o n h => y a o n (x a o n h)
theorem Kp.same {b : Addr} {H H1 H2 : Hp} (x : Kp b H H1) (y : Same H1 H2) : Kp b H H2 := fun a o n h => y a o (x a o n h)
theorem Kp.upd {b : Addr} {H : Hp} {o : HO} : Kp b H (upd H b o) := fun a u n h => by rw [upd_ne n]; exact h
theorem Kp.new {b p : Addr} {H H1 : Hp} {o : HO} (x : Kp b H H1) (h : H1 p = none) : Kp b H (L2.upd H1 p o) := fun a u n e => by
  rw [upd_ne (ne_of_none (x a u n e) h)]
  exact x a u n e
theorem Kp.wr {b p : Addr} {H H1 : Hp} {o : HO} (x : Kp b H H1) (h : H p = none) : Kp b H (L2.upd H1 p o) := fun a u n e => by
  rw [upd_ne (ne_of_none e h)]
  exact x a u n e
theorem Bag.same {H H' : Hp} {b : Addr} {n : Nat} (h : Bag H b n) (s : Same H H') : Bag H' b n := by
  obtain ⟨x, y, z, e, a⟩ := h
  exact ⟨x, y, z, s _ _ e, a⟩
theorem Bag.new {H : Hp} {b p : Addr} {n : Nat} {o : HO} (h : Bag H b n) (hp : H p = none) : Bag (L2.upd H p o) b n := by
  obtain ⟨x, y, z, e, a⟩ := h
  exact ⟨x, y, z, by rw [upd_ne (ne_of_none e hp)]; exact e, a⟩
theorem Bag.ne {H : Hp} {b p : Addr} {n : Nat} {o : HO} (h : Bag H b n) (hp : p ≠ b) : Bag (L2.upd H p o) b n := by
  obtain ⟨x, y, z, e, a⟩ := h
  exact ⟨x, y, z, by rw [upd_ne (Ne.symm hp)]; exact e, a⟩
theorem Kp.free {b p : Addr} {H H' : Hp} (x : Kp b H H') (hb : ∃ o, H' b = some o) (h : H' p = none) : H p = none := by
  cases q : H p with
  | none => rfl
  | some o =>
    by_cases e : p = b
    · subst e
      obtain ⟨u, hu⟩ := hb
      rw [h] at hu
      cases hu
    · rw [x p o e q] at h
      cases h
theorem Bag.at {H : Hp} {b : Addr} {n : Nat} (h : Bag H b n) : ∃ o, H b = some o := let ⟨_, _, _, e, _⟩ := h; ⟨_, e⟩

/-! ### promises: the bag and a draw -/
def most : Nat := 1000000
def spTake : Sp := fun vs H Q _ => ∃ (b : Addr) (size : Int) (n : Nat), vs = [.ref b, .int size] ∧ 0 < size ∧ size < 1073741824 ∧ Bag H b n ∧ n ≤ most ∧
  ∀ (d : Int) (H' : Hp), 0 ≤ d → d < size → Kp b H H' → Bag H' b (n + 1) → Q (.int d) H'
def spBag (K : PySem.W.Frag) : Sp := fun vs H Q _ => ∃ (a : Addr) (ns : List Int) (i : Int), vs = [.ref a, .int i] ∧ SqL K H a (ns.map V.int) ∧ 0 ≤ i ∧ i ≤ 100 ∧
  ∀ (p : Addr) (H' : Hp), Same H H' → H p = none → Bag H' p 0 → Q (.ref p) H'
theorem basis_le {y z : Int} (hy : 0 ≤ y) (hy2 : y < 2 ^ 61) (hz : 0 ≤ z) (hz2 : z ≤ 1000001) : (y * (2 * z + 1) + 6007 * z * z + 31).natAbs < 2 ^ 100 := by
  have h1 : y * (2 * z + 1) ≤ 2 ^ 61 * 2000003 := Int.mul_le_mul (by omega) (by omega) (by omega) (by decide)
  have h2 : (6007 * z) * z ≤ (6007 * 1000001) * 1000001 := Int.mul_le_mul (by omega) hz2 hz (by decide)
  have h3 : 0 ≤ y * (2 * z + 1) := Int.mul_nonneg hy (by omega)
  have h4 : 0 ≤ (6007 * z) * z := Int.mul_nonneg (by omega) hz
  omega
end Fh

set_option Elab.async false
set_option linter.all false
set_option maxRecDepth 100000
set_option maxHeartbeats 4000000
namespace Fh
open PySem L2 PyProof.Rows
def top (i : Nat) : Stmt := PySem.Challenge.pw_facehouse_k17_whole_least_bodies.main.body.getD i (.Pass ⟨0, 0, 0, 0⟩)
abbrev sBag : Stmt := top 76
abbrev sTake : Stmt := top 77
/-- built-in names that no module's name hides -/
structure Glb (mg : Str → Option Value) : Prop where
  len : mg "len" = none
  abs : mg "abs" = none
  int : mg "int" = none
  range : mg "range" = none
  list : mg "list" = none
  min : mg "min" = none
  max : mg "max" = none
  tuple : mg "tuple" = none
  dict : mg "dict" = none
  enumerate : mg "enumerate" = none
  isi : mg "isinstance" = none
  str : mg "str" = none
  sorted : mg "sorted" = none
  set : mg "set" = none
  sum : mg "sum" = none
  zip : mg "zip" = none
  divmod : mg "divmod" = none
section
variable {P : Program} {w : World} {K : PySem.W.Frag} {mg : Str → Option Value} {base : Heap}
theorem scBag : FnScope ["_law_script", "_law_at", "_law_cell", "_law_far"] ["_law_script", "_law_at"] (defScope sBag) := ⟨rfl, rfl, rfl, by decide +kernel, rfl, by decide +kernel, by decide +kernel⟩
theorem scTake : FnScope ["_law_bag_here", "_law_size", "_law_digit", "_law_primes", "_law_stage", "_law_basis", "_law_found"] ["_law_bag_here", "_law_size"] (defScope sTake) := ⟨rfl, rfl, rfl, by decide +kernel, rfl, by decide +kernel, by decide +kernel⟩
theorem ok_take {f : Addr} {fd : FuncData} (F : Fun K "_law_take" "_law_take" sTake f fd) : FnOk P w K mg base CX0 1 f fd ["_law_bag_here", "_law_size"] spTake := by
  refine F.ok scTake (fun vs H Q E h => ?_) (fun cdv A outer s H vs Q E hr h => ?_)
  · obtain ⟨b, size, n, rfl, _⟩ := h
    rfl
  · obtain ⟨b, size, n, rfl, hs0, hs1, ⟨x, y, z, hb, y0, y1, z0, z1⟩, hn, k⟩ := h
    have hn' : n ≤ 1000000 := hn
    refine ⟨_, pss_cons (ps_if (pt_cmpR op_gt (pe_ix ix_list (pv 0) pe_int (fun _ _ => rfl)) pe_int (nomark _))
        (pss_cons (ps_set (i := 2) scTake.nd rfl (Or.inl rfl) (pe_op op_mod (pe_ix ix_list (pv 0) pe_int (fun _ _ => rfl)) (pv 1)))
        (pss_cons (ps_asg (pe_op op_fdiv (pe_ix ix_list (pv 0) pe_int (fun _ _ => rfl)) (pv 1)) (pg_sub (pv 0) pe_int set_list))
        (pss_one (ps_ret (pv 2))))) pss_nil)
      (pss_cons (ps_set (i := 3) scTake.nd rfl (Or.inl rfl) (pe_tup (pa_cons pe_int (pa_cons pe_int (pa_cons pe_int (pa_cons pe_int (pa_cons pe_int (pa_cons pe_int (pa_cons pe_int (pa_cons pe_int pa_nil))))))))))
      (pss_cons (ps_asg (pe_op op_add (pe_ix ix_list (pv 0) pe_int (fun _ _ => rfl)) pe_int) (pg_sub (pv 0) pe_int set_list))
      (pss_cons (ps_set (i := 4) scTake.nd rfl (Or.inl rfl) (pe_ix ix_list (pv 0) pe_int (fun _ _ => rfl)))
      (pss_cons (ps_set (i := 5) scTake.nd rfl (Or.inl rfl) (pe_op op_add (pe_op op_add (pe_op op_mul (pe_ix ix_list (pv 0) pe_int (fun _ _ => rfl)) (pe_op op_add (pe_op op_mul pe_int (pv 4)) pe_int)) (pe_op op_mul (pe_op op_mul pe_int (pv 4)) (pv 4))) pe_int))
      (pss_cons (ps_set (i := 6) scTake.nd rfl (Or.inl rfl) (pe_op op_mod (pe_op op_powW (pv 5) pe_int) (pe_ix ix_tup (pv 3) (pe_op op_mod (pv 4) pe_int) (fun _ _ => rfl))))
      (pss_one (ps_ret (pe_op op_mod (pe_op op_fdiv (pe_op op_mod (pe_op op_mul (pv 6) (pe_op op_add (pe_op op_fdiv (pv 6) pe_int) pe_int)) (pe_ix ix_tup (pv 3) (pe_op op_mod (pe_op op_add (pv 4) pe_int) pe_int) (fun _ _ => rfl))) pe_int) (pv 1))))))))), ?_⟩
    refine ⟨_, rfl, b, _, _, _, rfl, rfl, SqL.of hb, rfl, _, _, rfl, rfl, _, rfl, ?_⟩
    refine ite2 (fun _ => ?_) (fun _ => ?_)
    · refine ⟨_, rfl, b, _, _, _, rfl, rfl, SqL.of hb, rfl, _, rfl, _, _, rfl, rfl, hs0, ?_⟩
      refine ⟨_, rfl, b, _, _, _, rfl, rfl, SqL.of hb, rfl, _, rfl, _, _, rfl, rfl, ⟨hs0, hs1⟩, ?_⟩
      refine ⟨_, rfl, b, _, _, 0, rfl, rfl, hb, rfl, _, rfl, ?_⟩
      exact k _ _ (Int.emod_nonneg _ (by omega)) (Int.emod_lt_of_pos _ hs0) Kp.upd ⟨_, y, z, upd_same, y0, y1, z0, by omega⟩
    · refine ⟨by decide, fun t ht => ?_⟩
      have nbt : b ≠ t := ne_of_none hb ht
      have hb1 : (upd H t (.tup [.int 2147483647, .int 2147483629, .int 2147483587, .int 2147483579, .int 2147483563, .int 2147483549, .int 2147483543, .int 2147483497])) b = some (.lst [.int x, .int y, .int z]) := by rw [upd_ne nbt]; exact hb
      refine ⟨_, rfl, b, _, _, _, rfl, rfl, SqL.of hb1, rfl, _, _, rfl, rfl, ?_⟩
      refine ⟨_, rfl, b, _, _, 2, rfl, rfl, hb1, rfl, ?_⟩
      refine ⟨_, rfl, b, _, _, _, rfl, rfl, SqL.of upd_same, rfl, ?_⟩
      have c1 : CMul y (2 * (z + 1) + 1) := .inl ⟨by omega, by omega⟩
      refine ⟨_, rfl, b, _, _, _, rfl, rfl, SqL.of upd_same, rfl, _, rfl, _, _, rfl, rfl, .inl ⟨by decide, by decide⟩, _, _, rfl, rfl, _, _, rfl, rfl, c1, _, rfl, _, _, rfl, rfl, .inl ⟨by decide, by decide⟩, _, rfl, _, _, rfl, rfl, .inr ⟨by omega, by omega⟩, _, _, rfl, rfl, _, _, rfl, rfl, ?_⟩
      have ht1 : (upd (upd H t (.tup [.int 2147483647, .int 2147483629, .int 2147483587, .int 2147483579, .int 2147483563, .int 2147483549, .int 2147483543, .int 2147483497])) b (.lst [.int x, .int y, .int (z + 1)])) t = some (.tup [.int 2147483647, .int 2147483629, .int 2147483587, .int 2147483579, .int 2147483563, .int 2147483549, .int 2147483543, .int 2147483497]) := by rw [upd_ne nbt.symm, upd_same]
      have prim : ∀ i : Int, ∃ p, atI [V.int 2147483647, .int 2147483629, .int 2147483587, .int 2147483579, .int 2147483563, .int 2147483549, .int 2147483543, .int 2147483497] (i % 8) = some (.int p) ∧ 0 < p ∧ p ≤ 2147483647 := fun i => by
        obtain ⟨v, e, _, hm⟩ := atI_in (xs := [V.int 2147483647, .int 2147483629, .int 2147483587, .int 2147483579, .int 2147483563, .int 2147483549, .int 2147483543, .int 2147483497]) (i := i % 8) (by omega) (by show i % 8 < 8; omega)
        simp only [List.mem_cons, List.not_mem_nil, or_false] at hm
        rcases hm with rfl | rfl | rfl | rfl | rfl | rfl | rfl | rfl <;> exact ⟨_, e, by decide, by decide⟩
      obtain ⟨p1, e1, l1, u1⟩ := prim (z + 1)
      obtain ⟨p2, e2, l2, u2⟩ := prim (z + 1 + 5)
      have hB : CPowW (y * (2 * (z + 1) + 1) + 6007 * (z + 1) * (z + 1) + 31) 3 := ⟨by decide, by decide, basis_le y0 y1 (by omega) (by omega)⟩
      refine ⟨_, rfl, _, _, rfl, rfl, hB, _, rfl, _, rfl, _, _, rfl, rfl, (by show (0 : Int) < 8; decide), t, _, _, _, rfl, rfl, SqT.of ht1, e1, _, _, rfl, rfl, l1, ?_⟩
      generalize hfd : (y * (2 * (z + 1) + 1) + 6007 * (z + 1) * (z + 1) + 31) ^ (3 : Int).toNat % p1 = fd
      have f0 : 0 ≤ fd := by rw [← hfd]; exact Int.emod_nonneg _ (by omega)
      have f1 : fd < p1 := by rw [← hfd]; exact Int.emod_lt_of_pos _ l1
      refine ⟨_, rfl, _, rfl, _, _, rfl, rfl, ⟨by decide, by decide⟩, _, _, rfl, rfl, _, _, rfl, rfl, .inl ⟨by omega, by omega⟩, _, rfl, _, rfl, _, _, rfl, rfl, _, _, rfl, rfl, (by show (0 : Int) < 8; decide), t, _, _, _, rfl, rfl, SqT.of ht1, e2, _, _, rfl, rfl, l2, _, _, rfl, rfl, ⟨by decide, by decide⟩, _, rfl, _, _, rfl, rfl, hs0, ?_⟩
      refine k _ _ (Int.emod_nonneg _ (by omega)) (Int.emod_lt_of_pos _ hs0) ?_ ⟨_, y, z + 1, upd_same, y0, y1, by omega, by omega⟩
      exact (Kp.refl.new ht).trans Kp.upd
end
end Fh

set_option Elab.async false
set_option linter.all false
set_option maxRecDepth 100000
set_option maxHeartbeats 0
namespace Fh
open PySem PySem.Spec PyProof.Rows L2
/-- where a keyword-only default stands -/
def kwOf (p : Str × Option Str) (x : Str) (K : PySem.W.Frag) : Addr := match K.lookup (He.fAd K p) with
  | some ⟨_, _, .func fd, _⟩ => (match fd.kwdefaults with
    | .ref D => (match PySem.W.nsIn K D x with
      | some (some (.ref a)) => a
      | _ => 0)
    | _ => 0)
  | _ => 0
def mdef (m q : Str) (s : Stmt) : He.DefD := ⟨("Face", some m), m, q, defArgs s, defBody s, defScope s, [], []⟩
def dInit : He.DefD := ⟨("Face", some "__init__"), "__init__", "Face.__init__", defArgs (inClass (top 56) 0), defBody (inClass (top 56) 0), defScope (inClass (top 56) 0), [], [("choices", .adr (kwOf ("Face", some "__init__") "choices")), ("records", .adr (kwOf ("Face", some "__init__") "records")), ("calls", .adr (kwOf ("Face", some "__init__") "calls"))]⟩
def fdef (x : Str) (s : Stmt) : He.DefD := ⟨(x, none), x, x, defArgs s, defBody s, defScope s, [], []⟩
def fn0 : List He.DefD := [dInit, mdef "fields_of" "Face.fields_of" (inClass (top 56) 3), mdef "options_of" "Face.options_of" (inClass (top 56) 4), fdef "word_of" (top 4), fdef "mark_of" (top 5), fdef "name_in" (top 6), fdef "names_nobody" (top 7), fdef "number_of" (top 8), fdef "is_whole" (top 11), fdef "digits_of" (top 15), fdef "told_size" (top 16), fdef "part_size" (top 17)]
def fn1 : List He.DefD := [fdef "field_size" (top 18), fdef "is_value" (top 27), fdef "size_in" (top 28), fdef "record_size" (top 29), fdef "has_names" (top 30), fdef "list_size" (top 31), fdef "is_text" (top 32), fdef "is_sign" (top 33), fdef "is_numbered" (top 34), fdef "least" (top 35), fdef "least_of" (top 36), fdef "least_sizes" (top 37)]
def fn2 : List He.DefD := [fdef "least_size" (top 38), fdef "wrong" (top 42), fdef "strangers_in_kinds" (top 43), fdef "endless_records" (top 44), fdef "written" (top 60), fdef "content_of" (top 61), fdef "record_content" (top 62), fdef "list_content" (top 63), fdef "read" (top 64), fdef "demand" (top 65), fdef "is_body" (top 66), fdef "read_content" (top 67)]
def fn3 : List He.DefD := [fdef "read_record" (top 68), fdef "split_fields" (top 69), fdef "split_part" (top 70), fdef "read_list" (top 71), fdef "read_text" (top 72), fdef "read_number" (top 73), fdef "read_numbered" (top 74), fdef "_law_bag" (top 76), fdef "_law_take" (top 77), fdef "_law_drawn_name" (top 78), fdef "_law_unlike_names" (top 79), fdef "_law_rising" (top 80)]
def fn4 : List He.DefD := [fdef "_law_made_face" (top 81), fdef "_law_nobody" (top 82), fdef "_law_all_sizes" (top 83), fdef "_law_held" (top 84), fdef "_law_right" (top 85), fdef "law" (top 86)]
def fn : List He.DefD := fn0 ++ fn1 ++ fn2 ++ fn3 ++ fn4
def fa0 : List He.Fa := [.glo "Face", .glo "MARKS", .glo "LEAST_PLAIN", .glo "word_of", .glo "mark_of", .glo "name_in", .glo "names_nobody", .glo "number_of", .glo "is_whole", .glo "digits_of", .glo "told_size", .glo "part_size", .glo "field_size", .glo "is_value", .glo "size_in", .glo "record_size", .glo "has_names", .glo "list_size", .glo "is_text", .glo "is_sign", .glo "is_numbered", .glo "least", .glo "least_of", .glo "least_sizes", .glo "least_size", .glo "wrong", .glo "strangers_in_kinds", .glo "endless_records", .glo "written", .glo "content_of"]
def fa1 : List He.Fa := [.glo "record_content", .glo "list_content", .glo "read", .glo "demand", .glo "is_body", .glo "read_content", .glo "read_record", .glo "split_fields", .glo "split_part", .glo "read_list", .glo "read_text", .glo "read_number", .glo "read_numbered", .glo "_law_bag", .glo "_law_take", .glo "_law_drawn_name", .glo "_law_unlike_names", .glo "_law_rising", .glo "_law_made_face", .glo "_law_nobody", .glo "_law_all_sizes", .glo "_law_held", .glo "_law_right", .glo "law", .free "len", .free "abs", .free "int", .free "range", .free "list", .free "min"]
def fa2 : List He.Fa := [.free "max", .free "tuple", .free "dict", .free "enumerate", .free "isinstance", .free "str", .free "sorted", .free "set", .free "sum", .free "zip", .free "divmod", .free "ord", .free "all", .free "bool", .cls "Face", .noat "Face" "name", .noat "Face" "edition", .noat "Face" "choices", .noat "Face" "records", .noat "Face" "calls", .mkr "Face", .meth "Face" "fields_of", .meth "Face" "options_of", .meth "Face" "__init__", .int "BASE" 256, .int "FIRST_LONG_SIZE" 200, .int "GREATEST_NUMBER" 30, .int "GREATEST_MARK" 4, .int "DEEPEST" 80, .int "LONGEST_LIST" 6]
def fa3 : List He.Fa := [.int "LONGEST_TEXT" 20, .int "GREATEST_WHOLE" 1000000000, .int "GREATEST_BODY" 10000, .int "PERCENT" 37, .int "FIRST_CODE" 32, .int "GREATEST_LEAST" 60, .str "SIGNS" " !\"#$ &'()*+,-./0123456789:;<=>?@ABCDEFGHIJKLMNOPQRSTUVWXYZ[\\]^_`abcdefghijklmnopqrstuvwxyz{|}~"]
def fa : List He.Fa := fa0 ++ fa1 ++ fa2 ++ fa3
abbrev fC (K : PySem.W.Frag) : Addr := He.ga K "Face"
def tb0 : List (Str × He.Dv) := [("whole", .int 1), ("truth", .int 1), ("choice", .int 1), ("text", .int 2), ("list", .int 3), ("record", .int 4)]
def tb1 : List (Str × He.Dv) := [("whole", .int 0), ("truth", .bl false), ("text", .str "")]
def ts : List He.Tab := [(fun K => He.ga K "MARKS", ["whole", "truth", "choice", "text", "list", "record"]), (fun K => He.ga K "LEAST_PLAIN", ["whole", "truth", "text"])]
def ex (K : PySem.W.Frag) : Bool := He.valsB K (He.ga K "MARKS") tb0 && He.valsB K (He.ga K "LEAST_PLAIN") tb1
abbrev R : PySem.W.OpenRow := PySem.W.OpenLaw.row PySem.Challenge.rw_facehouse_k17_whole_least_bodies
abbrev hk : PySem.W.Hook := He.hookX 6 fa fn ts [] ex
def ob (s : PySem.W.SharedT) : He.AlX := He.obsX 6 fa fn ts [] ex (HandSHeadRun.getT s)
theorem ob_eq (s : PySem.W.SharedT) : ob s = hk.obs s.abs := He.obsX_eq (HandSHeadRun.getT_eq s)
def loose0 : List Str := ["_wall", "__name__", "MARKS", "GREATEST_MARK", "word_of", "mark_of", "name_in", "names_nobody", "number_of", "GREATEST_NUMBER", "is_whole", "BASE"]
def loose1 : List Str := ["FIRST_LONG_SIZE", "digits_of", "told_size", "part_size", "field_size", "GREATEST_WHOLE", "LONGEST_TEXT", "LONGEST_LIST", "GREATEST_BODY", "DEEPEST", "PERCENT", "LEAST_PLAIN"]
def loose2 : List Str := ["is_value", "size_in", "record_size", "has_names", "list_size", "is_text", "is_sign", "is_numbered", "least", "least_of", "least_sizes", "least_size"]
def loose3 : List Str := ["GREATEST_LEAST", "SETTING_WORDS", "wrong", "strangers_in_kinds", "endless_records", "strangers_of", "wrong_deeds", "fields_by_name", "is_as_told", "can_copy", "effect_of", "unset_fields"]
def loose4 : List Str := ["NoBody", "NoName", "Face", "FIRST_CODE", "SIGNS", "written", "content_of", "record_content", "list_content", "read", "demand", "is_body"]
def loose5 : List Str := ["read_content", "read_record", "split_fields", "split_part", "read_list", "read_text", "read_number", "read_numbered", "_law_bag", "_law_take", "_law_drawn_name", "_law_unlike_names"]
def loose6 : List Str := ["_law_rising", "_law_made_face", "_law_nobody", "_law_all_sizes", "_law_held", "_law_right"]
def loose : List Str := loose0 ++ loose1 ++ loose2 ++ loose3 ++ loose4 ++ loose5 ++ loose6
theorem run0 (w : World) : HandSHeadRun.RunEq R (PySem.W.view R.prog [86]) hk ob 20000 loose (w.withFollow "special-get-raises" false) := by
  intro os
  kernel_rfl
theorem run1 (w : World) : HandSHeadRun.RunEq R (PySem.W.view R.prog [86]) hk ob 20000 loose (w.withFollow "special-get-raises" true) := by
  intro os
  kernel_rfl
theorem run (w : World) : HandSHeadRun.RunEq R (PySem.W.view R.prog [86]) hk ob 20000 loose w := PySem.W.byRow2 "special-get-raises" (P := fun w => HandSHeadRun.RunEq R (PySem.W.view R.prog [86]) hk ob 20000 loose w) run0 run1 w
end Fh

set_option Elab.async false
set_option linter.all false
set_option maxRecDepth 100000
set_option maxHeartbeats 4000000
namespace Fh
open PySem PySem.Spec PyProof.Rows L2
/-! ### sets whose elements are tuples of ints and texts -/
section
variable {P : Program} {w : World} {A : Around} {E : Value → Shared → Prop} {s : Shared}
/-- the tuple at x has these parts -/
abbrev TK (P : Program) (w : World) (h : Heap) (k : List Key) (x : Addr) : Prop := IsTupleKey (mixKind P w) h k x
abbrev kh (P : Program) (w : World) (k : List Key) : Int := tupleKeyHash (mixKind P w) k
theorem parts_shape {k : List Key} {vs : List Value} (h : PySem.ItemsAre (mixKind P w) k vs) : ∀ v ∈ vs, (∃ i t, v = Value.int i t) ∨ ∃ x t, v = Value.str x t := by
  induction h with
  | nil => intro v hv; cases hv
  | cons h1 _ ih =>
    intro v hv
    rcases List.mem_cons.mp hv with e | hv
    · rcases keyIs_shape h1 with ⟨i, t, _, e2⟩ | ⟨x, t, _, e2⟩
      · exact .inl ⟨i, t, e.trans e2⟩
      · exact .inr ⟨x, t, e.trans e2⟩
    · exact ih v hv
theorem noClass {v : Value} (h : (∃ i t, v = Value.int i t) ∨ ∃ x t, v = Value.str x t) (n : Nat) : ofAClassStatement n v = pure false := by
  rcases h with ⟨i, t, rfl⟩ | ⟨x, t, rfl⟩ <;> cases n <;> rfl
theorem byVal {v : Value} (h : (∃ i t, v = Value.int i t) ∨ ∃ x t, v = Value.str x t) (n : Nat) : ∃ b, hashByValue n v = pure b := by
  rcases h with ⟨i, t, rfl⟩ | ⟨x, t, rfl⟩
  · exact ⟨true, by cases n <;> rfl⟩
  · exact ⟨false, by cases n <;> rfl⟩
/-- whether a tuple's hash is by value: some answer -/
theorem byVal_tup {k : List Key} {b : Addr} {Q : Bool → Shared → Prop} (hk : TK P w s.heap k b) (h : ∀ r, Q r s) : wpAny (model P w) A (hashByValue 8 (.ref b)) Q E s := by
  have ty := hk.typeIs
  obtain ⟨o, its, n, ho, _, hd, hi⟩ := hk
  have sh := parts_shape hi
  unfold hashByValue
  refine wpAny_bind (wpAny_specialOf ty F.slot_tuple_hash.lookup ?_)
  refine wpAny_bind (m := seqItems? (.ref b)) (wpAny_seqItems ho hd ?_)
  refine wpAny_bind ?_
  show wpAny _ _ (forIn its _ _) _ _ s
  rw [← Array.forIn_toList]
  refine wpAny_forIn_list _ (fun rest r s' => s' = s ∧ ∀ v ∈ rest, (∃ i t, v = Value.int i t) ∨ ∃ x t, v = Value.str x t) _ ?_ ?_ _ _ ⟨rfl, sh⟩
  · rintro v rest r s' ⟨rfl, all⟩
    obtain ⟨q, hq⟩ := byVal (all v List.mem_cons_self) 7
    rw [hq]
    refine wpAny_bind (wpAny_pure ?_)
    cases q with
    | false =>
      simp only [Bool.not_false, if_true]
      exact wpAny_pure (wpAny_pure (h false))
    | true =>
      simp only [Bool.not_true, Bool.false_eq_true, if_false]
      exact wpAny_pure ⟨rfl, fun u hu => all u (List.mem_cons_of_mem _ hu)⟩
  · rintro ⟨r1, r2⟩ s' ⟨rfl, _⟩
    cases r1 with
    | none => exact wpAny_pure (h _)
    | some q => exact wpAny_pure (h _)
/-- a tuple has no part of a class statement -/
theorem class_tup {k : List Key} {b : Addr} {Q : Bool → Shared → Prop} (hk : TK P w s.heap k b) (h : Q false s) : wpAny (model P w) A (ofAClassStatement 8 (.ref b)) Q E s := by
  have ty := hk.typeIs
  obtain ⟨o, its, n, ho, _, hd, hi⟩ := hk
  have sh := parts_shape hi
  have e : (("tuple" : String) == "tuple") = true := by decide
  unfold ofAClassStatement
  refine wpAny_bind (wpAny_typeOf ty ?_)
  simp only [e, if_true]
  try refine wpAny_bind (wpAny_pure ?_)
  simp only [Bool.not_true, Bool.false_eq_true, if_false]
  refine wpAny_bind (m := seqItems? (.ref b)) (wpAny_seqItems ho hd ?_)
  dsimp only
  refine wpAny_bind ?_
  show wpAny _ _ (forIn its _ _) _ _ s
  rw [← Array.forIn_toList]
  refine wpAny_forIn_list _ (fun rest r s' => r.1 = none ∧ s' = s ∧ ∀ v ∈ rest, (∃ i t, v = Value.int i t) ∨ ∃ x t, v = Value.str x t) _ ?_ ?_ _ _ ⟨rfl, rfl, sh⟩
  · rintro v rest r s' ⟨_, rfl, all⟩
    rw [noClass (all v List.mem_cons_self)]
    refine wpAny_bind (wpAny_pure ?_)
    simp only [Bool.false_eq_true, if_false]
    exact wpAny_pure ⟨rfl, rfl, fun u hu => all u (List.mem_cons_of_mem _ hu)⟩
  · rintro ⟨r1, r2⟩ s' ⟨hr, rfl, _⟩
    cases r1 with
    | none => exact wpAny_pure h
    | some q => cases hr
/-- nobody sees a search among tuples -/
theorem unseen {k : List Key} {b : Addr} {Q : Bool → Shared → Prop} (hk : TK P w s.heap k b) (h : Q false s) : ∀ {ys : List Value}, (∀ y ∈ ys, ∃ k' c, y = Value.ref c ∧ TK P w s.heap k' c) →
    wpAny (model P w) A (searchCouldBeSeen (.ref b) ys) Q E s := by
  intro ys hy
  unfold searchCouldBeSeen
  refine wpAny_bind (wpAny_forIn_list _ (fun rest r s' => r.1 = none ∧ s' = s ∧ ∀ y ∈ rest, ∃ k' c, y = Value.ref c ∧ TK P w s.heap k' c) _ ?_ ?_ _ _ ⟨rfl, rfl, hy⟩)
  · rintro v rest r s' ⟨_, rfl, all⟩
    obtain ⟨k', c, rfl, hc⟩ := all v List.mem_cons_self
    have go : wpAny (model P w) A (pure (ForInStep.yield (none, ()))) (fun r s1 => match r with
        | ForInStep.yield b' => b'.1 = none ∧ s1 = s' ∧ ∀ y ∈ rest, ∃ k' c, y = Value.ref c ∧ TK P w s'.heap k' c
        | ForInStep.done b' => wpAny (model P w) A (match b'.1 with | some r => pure r | none => pure false) Q E s1) E s' := wpAny_pure ⟨rfl, rfl, fun u hu => all u (List.mem_cons_of_mem _ hu)⟩
    dsimp only
    split
    · exact go
    · refine wpAny_bind (wpAny_eqIsQuiet_tuple hk ?_)
      simp only [Bool.not_true, Bool.false_eq_true, if_false]
      refine wpAny_bind (wpAny_eqIsQuiet_tuple hc ?_)
      simp only [Bool.not_true, Bool.false_eq_true, if_false]
      refine wpAny_bind (class_tup hk ?_)
      simp only [Bool.false_eq_true, if_false]
      refine wpAny_bind (class_tup hc ?_)
      simp only [Bool.false_eq_true, if_false]
      exact go
  · rintro ⟨r1, r2⟩ s' ⟨hr, rfl, _⟩
    cases r1 with
    | none => exact wpAny_pure h
    | some q => cases hr
end
end Fh

set_option Elab.async false
set_option linter.all false
set_option maxRecDepth 100000
set_option maxHeartbeats 4000000
namespace Fh
open PySem PySem.Spec PyProof.Rows L2
/-! ### the steps of a search, counted from its beginning -/
abbrev stp (m : Nat) (h : Int) (c : Nat) : SetTable.Probe := nth m (runAt m (SetTable.bits h % (m + 1)) (SetTable.bits h)) c
theorem stp_more (m : Nat) (h : Int) (c q : Nat) : nth m (stp m h c) q = stp m h (c + q) := (nth_add m c _ q).symm
theorem stp_clean (m : Nat) (h : Int) : ∀ c, (stp m h c).dummy = none
  | 0 => rfl
  | c + 1 => by
    have e : stp m h (c + 1) = adv m (stp m h c) := nth_succ m _ c
    rw [e]
    unfold adv
    split <;> exact stp_clean m h c
def hashAt (es : Array (Int × Value)) (i : Nat) : Int := (es[i]?.map (·.1)).getD 0
/-- what the probe meets from a step on: the first entry with this hash, or the empty slot -/
theorem meets {t : SetTable} {hs : List Int} {es : Array (Int × Value)} {h : Int} {c K : Nat} (T : TabOk t hs) (he : es.toList.map (·.1) = hs) (hc : c ≤ K) (hf : K < 10 * SetTable.turns t.mask)
    (hK : way t.mask h K ∉ t.place.toList) (hb : ∀ k, k < K → way t.mask h k ∈ t.place.toList) :
    (∃ (c' i : Nat), c ≤ c' ∧ c' < K ∧ t.place.toList[i]? = some (way t.mask h c') ∧ (∀ (d j : Nat), c ≤ d → d < c' → t.place.toList[j]? = some (way t.mask h d) → hs[j]? ≠ some h) ∧
      t.probe (hashAt es) h (stp t.mask h c) = some (.candidate (way t.mask h c') i (stp t.mask h (c' + 1)))) ∨
    ((∀ (d j : Nat), c ≤ d → d < K → t.place.toList[j]? = some (way t.mask h d) → hs[j]? ≠ some h) ∧ t.probe (hashAt es) h (stp t.mask h c) = some (.empty (way t.mask h K) none)) := by
  have at_ : ∀ q, (nth t.mask (stp t.mask h c) q).j = way t.mask h (c + q) := fun q => congrArg SetTable.Probe.j (stp_more ..)
  have eK : c + (K - c) = K := by omega
  have val : ∀ j, hs[j]? = some h → hashAt es j = h := fun j hj => by
    rw [← he, List.getElem?_map] at hj
    unfold hashAt
    rw [← Array.getElem?_toList, hj]
    rfl
  rcases go_spec t T.ris T.dm (hashAt es) h (10 * SetTable.turns t.mask) (K - c) (stp t.mask h c) (stp_clean ..) (by omega) (fun q hq => by rw [at_]; exact hb _ (by omega)) (by rw [at_, eK]; exact hK) with ⟨q, i, h1, h2, _, h4, h5⟩ | ⟨h4, h5⟩
  · refine .inl ⟨c + q, i, by omega, by omega, by rw [← at_]; exact h2, fun d j h6 h7 h8 h9 => h4 (d - c) j (by omega) (by rw [at_, show c + (d - c) = d by omega]; exact h8) (val j h9), ?_⟩
    rw [← at_, show c + q + 1 = c + (q + 1) by omega, ← stp_more]
    exact h5
  · refine .inr ⟨fun d j h6 h7 h8 h9 => h4 (d - c) j (by omega) (by rw [at_, show c + (d - c) = d by omega]; exact h8) (val j h9), ?_⟩
    rw [at_, eK] at h5
    exact h5
section
variable {P : Program} {w : World} {A : Around} {E : Value → Shared → Prop} {s : Shared}
abbrev Row := Addr × List Key
def row (P : Program) (w : World) (p : Row) : Int × Value := (kh P w p.2, .ref p.1)
/-- a set's entries and table hold these tuples -/
structure Fit (P : Program) (w : World) (L : List Row) (es : Array (Int × Value)) (t : SetTable) : Prop where
  rows : es.toList = L.map (row P w)
  tab : TabOk t (L.map fun p => kh P w p.2)
  led : w.params.followText "set-order" = true ∨ t.led = true
  room : L.length ≤ t.mask
variable {L : List Row} {es : Array (Int × Value)} {ep : Nat} {t : SetTable} {a x : Addr} {k : List Key}
theorem Fit.size (F : Fit P w L es t) : es.size = L.length := by
  have q := congrArg List.length F.rows
  rwa [Array.length_toList, List.length_map] at q
theorem Fit.places (F : Fit P w L es t) : t.place.size = L.length := by
  have q := F.tab.sz
  rwa [List.length_map] at q
theorem Fit.fits (F : Fit P w L es t) : t.fits es.size = true := by
  have h1 := F.size
  have h2 := F.places
  have h3 := F.room
  simp only [SetTable.fits, SetTable.fill, F.tab.dm, Bool.and_eq_true, beq_iff_eq, decide_eq_true_eq]
  exact ⟨by omega, by simp; omega⟩
theorem Fit.entry (F : Fit P w L es t) {i : Nat} {p : Row} (h : L[i]? = some p) : es[i]? = some (row P w p) := by
  rw [← Array.getElem?_toList, F.rows, List.getElem?_map, h]
  rfl
theorem Fit.hashes (F : Fit P w L es t) : es.toList.map (·.1) = L.map fun p => kh P w p.2 := by
  rw [F.rows, List.map_map]
  rfl
theorem Fit.kept (F : Fit P w L es t) : ¬ t.gaveWay = true := by
  simp [SetTable.gaveWay, mask_odd F.tab.mok]
/-- the search for a tuple, from a step on behind which every equal one lies -/
theorem seek {o : Obj} (ho : s.heap.get? a = some o) (hd : o.data = .set es ep t) (F : Fit P w L es t) (tup : ∀ p ∈ L, TK P w s.heap p.2 p.1) (hx : TK P w s.heap k x) (hu : A.units < cLine) {K : Nat} (hf : K < 10 * SetTable.turns t.mask)
    (hK : way t.mask (kh P w k) K ∉ t.place.toList) (hb : ∀ c, c < K → way t.mask (kh P w k) c ∈ t.place.toList) {Q : SetFound → Shared → Prop}
    (hin : k ∈ L.map (·.2) → Q (.there none) s) (hout : k ∉ L.map (·.2) → Q (.free (way t.mask (kh P w k) K) false) s) :
    ∀ (d fuel c : Nat) (stand : Option SetTable.Probe), c + d = K → d < fuel → stand.getD (t.probeStart (kh P w k)) = stp t.mask (kh P w k) c →
      (∀ (i : Nat) p, L[i]? = some p → p.2 = k → ∃ c', c ≤ c' ∧ c' < K ∧ t.place.toList[i]? = some (way t.mask (kh P w k) c')) →
      wpAny (model P w) A (setSearchFrom a (.ref x) (kh P w k) true fuel stand) Q E s := by
  intro d
  induction d using Nat.strongRecOn with
  | _ d ih =>
    intro fuel c stand hc hfu hst later
    obtain ⟨fuel, rfl⟩ : ∃ f, fuel = f + 1 := ⟨fuel - 1, by omega⟩
    rw [setSearchFrom_succ]
    refine wpAny_bind (wpAny_setState_of ho hd F.fits ?_)
    refine wp_if_neg F.kept ?_
    try refine wpAny_bind (wpAny_pure ?_)
    rw [hst]
    have never : ∀ {lim : Nat}, (∀ (e j : Nat), c ≤ e → e < lim → t.place.toList[j]? = some (way t.mask (kh P w k) e) → (L.map fun p => kh P w p.2)[j]? ≠ some (kh P w k)) → ∀ (i : Nat) p, L[i]? = some p → p.2 = k → ∃ c', lim ≤ c' ∧ c' < K ∧ t.place.toList[i]? = some (way t.mask (kh P w k) c') := fun no i p hp hk => by
      obtain ⟨c', h1, h2, h3⟩ := later i p hp hk
      refine ⟨c', ?_, h2, h3⟩
      refine Nat.le_of_not_lt fun lt => no c' i h1 lt h3 ?_
      rw [List.getElem?_map, hp, ← hk]
      rfl
    rcases meets F.tab F.hashes (show c ≤ K by omega) hf hK hb with ⟨c', i, m1, m2, m3, m4, m5⟩ | ⟨m4, m5⟩
    · have m5' : t.probe (fun i => (es[i]?.map (·.1)).getD 0) (kh P w k) (stp t.mask (kh P w k) c) = _ := m5
      rw [m5']
      dsimp only
      have il : i < L.length := by
        have q := (List.getElem?_eq_some_iff.mp m3).1
        rw [Array.length_toList, F.places] at q
        exact q
      obtain ⟨p, hp⟩ : ∃ p, L[i]? = some p := ⟨_, List.getElem?_eq_getElem il⟩
      have pm : p ∈ L := List.mem_of_getElem? hp
      have cmp : wpAny (model P w) A (searchRest a (.ref x) (kh P w k) true fuel es t (way t.mask (kh P w k) c') i (stp t.mask (kh P w k) (c' + 1))) Q E s := by
        unfold searchRest
        rw [F.entry hp]
        refine wpAny_bind (wpAny_holding (wpAny_eqBool_tuple hu (tup p pm) hx ?_))
        refine wpAny_bind (wpAny_setState_of ho hd F.fits ?_)
        by_cases e : p.2 = k
        · refine wp_if_pos (by simp [e]) (wpAny_pure (hin ?_))
          exact List.mem_map.mpr ⟨p, pm, e⟩
        · refine wp_if_neg (by simp [e]) ?_
          try refine wpAny_bind (wpAny_pure ?_)
          rw [sameMem]
          have live : t.slot (way t.mask (kh P w k) c') = .live i := slot_live F.tab.ris m3
          simp only [if_true, live, F.entry hp]
          refine wpAny_bind (wpAny_isSame_ref_self (wpAny_bind (wpAny_pure ?_)))
          simp only [if_true]
          refine wp_if_neg (by simp [e]) ?_
          refine ih (K - (c' + 1)) (by omega) fuel (c' + 1) _ (by omega) (by omega) rfl fun j q hq hk => ?_
          obtain ⟨c2, h1, h2, h3⟩ := never m4 j q hq hk
          refine ⟨c2, Nat.lt_of_le_of_ne h1 fun e2 => ?_, h2, h3⟩
          rw [← e2] at h3
          have live2 := slot_live F.tab.ris h3
          rw [live] at live2
          injection live2 with e3
          rw [← e3, hp] at hq
          exact e (by rw [Option.some.inj hq]; exact hk)
      by_cases l : t.led = true
      · refine wp_if_neg (by simp [l]) ?_
        try refine wpAny_bind (wpAny_pure ?_)
        exact cmp
      · refine wp_if_pos (by simp [l]) (wpAny_bind (unseen hx ?_ fun y hy => ?_))
        · refine wp_if_neg (by decide) ?_
          try refine wpAny_bind (wpAny_pure ?_)
          exact cmp
        · obtain ⟨e, he, rfl⟩ := List.mem_map.mp hy
          have he2 : e ∈ es.toList := by
            have z : e ∈ es ∧ e.1 = kh P w k := by simpa using he
            exact Array.mem_toList_iff.mpr z.1
          rw [F.rows] at he2
          obtain ⟨q, hq, rfl⟩ := List.mem_map.mp he2
          exact ⟨q.2, q.1, rfl, tup q hq⟩
    · have m5' : t.probe (fun i => (es[i]?.map (·.1)).getD 0) (kh P w k) (stp t.mask (kh P w k) c) = _ := m5
      rw [m5']
      refine wpAny_pure (hout fun hm => ?_)
      obtain ⟨p, pm, hk⟩ := List.mem_map.mp hm
      obtain ⟨i, hi, e⟩ := List.getElem_of_mem pm
      obtain ⟨c', h1, h2, _⟩ := never m4 i p (by rw [List.getElem?_eq_getElem hi, e]) hk
      omega
/-- the search for a tuple -/
theorem seek_all {o : Obj} (ho : s.heap.get? a = some o) (hd : o.data = .set es ep t) (F : Fit P w L es t) (tup : ∀ p ∈ L, TK P w s.heap p.2 p.1) (hx : TK P w s.heap k x) (hu : A.units < cLine) {Q : SetFound → Shared → Prop}
    (hin : k ∈ L.map (·.2) → Q (.there none) s) (hout : ∀ K, k ∉ L.map (·.2) → way t.mask (kh P w k) K ∉ t.place.toList → (∀ c, c < K → way t.mask (kh P w k) c ∈ t.place.toList) → Q (.free (way t.mask (kh P w k) K) false) s) :
    wpAny (model P w) A (setSearch a (.ref x) (kh P w k) true) Q E s := by
  obtain ⟨K, hf, hK, hb⟩ := F.tab.first (by rw [List.length_map]; exact F.room) (kh P w k)
  have small : 10 * SetTable.turns t.mask ≤ 100000 := by
    unfold SetTable.turns
    rcases F.tab.mok with e | e | e <;> omega
  unfold setSearch
  refine seek ho hd F tup hx hu hf hK hb hin (fun n => hout K n hK hb) K 100000 0 none (by omega) (by omega) rfl fun i p hp hk => ?_
  have hi : (L.map fun p => kh P w p.2)[i]? = some (kh P w k) := by
    rw [List.getElem?_map, hp, ← hk]
    rfl
  obtain ⟨j, hj⟩ : ∃ j, t.place.toList[i]? = some j := by
    have il := (List.getElem?_eq_some_iff.mp hp).1
    exact ⟨_, List.getElem?_eq_getElem (by rw [Array.length_toList, F.places]; exact il)⟩
  obtain ⟨c, hc, e⟩ := F.tab.before hK hi hj
  exact ⟨c, Nat.zero_le _, hc, by rw [hj, e]⟩
end
end Fh

set_option Elab.async false
set_option linter.all false
set_option maxRecDepth 100000
set_option maxHeartbeats 4000000
namespace Fh
open PySem PySem.Spec PyProof.Rows L2
/-! ### picking entries by an order -/
theorem pick_all {α : Type} : ∀ L : List α, (List.range L.length).filterMap (fun i => L[i]?) = L
  | [] => rfl
  | x :: L => by
    rw [List.length_cons, List.range_succ_eq_map, List.filterMap_cons_some (by rfl), List.filterMap_map]
    exact congrArg (x :: ·) (pick_all L)
theorem pick_val {α : Type} {L : List α} {g : α → Int} {hs : Array Int} (e : hs.toList = L.map g) : ∀ ord : List Nat, (∀ i ∈ ord, i < L.length) → (ord.filterMap fun i => L[i]?).map g = ord.map fun i => hs.getD i 0
  | [], _ => rfl
  | i :: ord, h => by
    have hi := h i List.mem_cons_self
    have q : hs.getD i 0 = g L[i] := by
      have z : hs[i]? = some (g L[i]) := by
        rw [← Array.getElem?_toList, e, List.getElem?_map, List.getElem?_eq_getElem hi]
        rfl
      rw [Array.getD_eq_getD_getElem?, z]
      rfl
    rw [List.filterMap_cons_some (List.getElem?_eq_getElem hi), List.map_cons, List.map_cons, q, pick_val e ord fun j hj => h j (List.mem_cons_of_mem _ hj)]
section
variable {P : Program} {w : World} {A : Around} {E : Value → Shared → Prop} {s : Shared}
variable {L : List Row} {es : Array (Int × Value)} {ep : Nat} {t : SetTable} {a x : Addr} {k : List Key}
/-- the set at a holds these tuples -/
def InS (P : Program) (w : World) (h : Heap) (a : Addr) (L : List Row) : Prop :=
  ∃ o es ep t, h.get? a = some o ∧ o.ExactSet ∧ o.data = .set es ep t ∧ Fit P w L es t ∧ L.length * 5 < t.mask * 3
/-- no tuple is a set -/
theorem TK.apart {h h' : Heap} {o : Obj} (hk : TK P w h k x) (ho : h.get? a = some o) (hd : o.data = .set es ep t) (sb : Heap.SameBut a h h') : TK P w h' k x := by
  obtain ⟨o', its, n, ho', hc, hd', hi⟩ := hk
  refine ⟨o', its, n, ?_, hc, hd', hi⟩
  rw [sb.2 x fun e => by
    rw [e, ho] at ho'
    rw [← Option.some.inj ho', hd] at hd'
    cases hd']
  exact ho'
theorem tab_like {t t' : SetTable} {hs : List Int} (T : TabOk t hs) (h1 : t'.place = t.place) (h2 : t'.dummies = t.dummies) (h3 : t'.mask = t.mask) : TabOk t' hs := by
  refine ⟨?_, ?_, ?_, ?_, ?_, ?_⟩
  · rw [h1]; exact T.ris
  · rw [h2]; exact T.dm
  · rw [h1]; exact T.sz
  · rw [h3]; exact T.mok
  · rw [h1, h3]; exact T.bd
  · rw [h1, h3]; exact T.reach
/-- the table laid anew -/
theorem relay {o : Obj} (ho : s.heap.get? a = some o) (hex : o.ExactSet) (hd : o.data = .set es ep t) (F : Fit P w L es t) {n M : Nat} (hM : MaskOk M) (hn : SetTable.sizeAbove n = M + 1) (hr : L.length * 5 < M * 3) {Q : Unit → Shared → Prop}
    (hQ : ∀ h' L', Heap.SameBut a s.heap h' → InS P w h' a L' → L'.Perm L → Q () { s with heap := h' }) : wpAny (model P w) A (setRelay a n) Q E s := by
  have Mb : M ≤ 127 := by rcases hM with e | e | e <;> omega
  have sz := F.size
  obtain ⟨t', ord, e, pm, T, em, el, _, _⟩ := relaid_ok t (hs := es.map (·.1)) (wanted := n) (M := M) (by omega) hM (by rw [Array.size_map]; omega)
  rw [Array.size_map, sz] at pm
  have inb : ∀ i ∈ ord.toList, i < L.length := fun i hi => List.mem_range.mp (pm.mem_iff.mp hi)
  have rows : (ord.filterMap (es[·]?)).toList = (ord.toList.filterMap fun i => L[i]?).map (row P w) := by
    rw [Array.toList_filterMap, List.map_filterMap]
    congr 1
    funext i
    rw [← Array.getElem?_toList, F.rows, List.getElem?_map]
  have pL : (ord.toList.filterMap fun i => L[i]?).Perm L := by
    have z := pm.filterMap fun i => L[i]?
    rwa [pick_all] at z
  have hs : (ord.toList.filterMap fun i => L[i]?).map (fun p => kh P w p.2) = ord.toList.map fun i => (es.map (·.1)).getD i 0 := by
    refine pick_val ?_ _ inb
    rw [Array.toList_map]
    exact F.hashes
  rw [← hs] at T
  generalize (ord.toList.filterMap fun i => L[i]?) = L' at rows pL T
  have sz' : (ord.filterMap (es[·]?)).size = L.length := by
    have z := congrArg List.length rows
    rw [Array.length_toList, List.length_map] at z
    rw [z, pL.length_eq]
  rw [setRelay_eq]
  refine wpAny_bind (wpAny_setState_of ho hd F.fits ?_)
  refine wp_if_neg (by rw [sizeLine_eq]; omega) ?_
  try refine wpAny_bind (wpAny_pure ?_)
  rw [e]
  refine wpAny_bind (wp_if_neg (by rw [sz', sz]; simp) ?_)
  try refine wpAny_bind (wpAny_pure ?_)
  refine wpAny_pure (wpAny_storeSet_of ho hd ?_ (by rw [sz', sizeLine_eq]; omega))
  refine hQ _ L' (Heap.SameBut.update ..) ⟨_, _, _, _, store_at ho hd, ⟨hex.1, hex.2.1, hex.2.2⟩, rfl, ⟨rows, T, by rw [el]; exact F.led, by rw [em, pL.length_eq]; omega⟩, by rw [em, pL.length_eq]; exact hr⟩ pL
/-- a tuple added -/
theorem add_tup (hs : InS P w s.heap a L) (tup : ∀ p ∈ L, TK P w s.heap p.2 p.1) (hx : TK P w s.heap k x) (hu : A.units < cLine) (few : L.length < 63) {Q : Bool → Shared → Prop}
    (hQ : ∀ b h' L', Heap.SameBut a s.heap h' → InS P w h' a L' → (k ∈ L.map (·.2) → L' = L) → (k ∉ L.map (·.2) → L'.Perm ((x, k) :: L)) → Q b { s with heap := h' }) :
    wpAny (model P w) A (setAddHashed a (.ref x) (kh P w k)) Q E s := by
  obtain ⟨o, es, ep, t, ho, hex, hd, F, room⟩ := id hs
  have sz := F.size
  unfold setAddHashed
  refine wpAny_holding ?_
  rw [show (100000 : Nat) = 99999 + 1 from rfl, setAddHashedIn_succ]
  refine wpAny_bind (wpAny_setState_of ho hd F.fits ?_)
  refine wp_if_neg (by simp [byScan, Value.scannable]) ?_
  try refine wpAny_bind (wpAny_pure ?_)
  refine wpAny_bind (seek_all ho hd F tup hx hu (fun m => wpAny_pure (hQ _ s.heap L (Heap.SameBut.refl a s.heap) hs (fun _ => rfl) fun z => absurd m z)) fun K nm hK hb => ?_)
  refine wpAny_bind (wpAny_setState_of ho hd F.fits ?_)
  dsimp only
  obtain ⟨q1, q2, q3, q4, q5, q6, q7, q8, q9⟩ := F.tab.put hK hb
  generalize hpt : t.put (way t.mask (kh P w k) K) = pt at q1 q3 q4 q5 q6 q7 q8 q9 ⊢
  obtain ⟨t1, p⟩ := pt
  dsimp only at q1 q3 q4 q5 q6 q7 q8 q9 ⊢
  rw [← q1] at q2 q3
  rw [List.length_map] at q2 q9
  have rows : (SetTable.insertAt es p (kh P w k, Value.ref x)).toList = (L.take p ++ (x, k) :: L.drop p).map (row P w) := by
    rw [SetTable.toList_insertAt, F.rows, List.map_append, List.map_cons, List.map_take, List.map_drop]
    rfl
  have pm := put_perm L p (x, k)
  have hh : (L.take p ++ (x, k) :: L.drop p).map (fun p => kh P w p.2) = (L.map fun p => kh P w p.2).take p ++ kh P w k :: (L.map fun p => kh P w p.2).drop p := by
    rw [List.map_append, List.map_cons, List.map_take, List.map_drop]
  rw [← hh] at q3
  generalize L.take p ++ (x, k) :: L.drop p = L1 at rows pm q3
  generalize SetTable.insertAt es p (kh P w k, Value.ref x) = es1 at rows ⊢
  have len : L1.length = L.length + 1 := pm.length_eq
  have sz1 : es1.size = L.length + 1 := by
    have z := congrArg List.length rows
    rw [Array.length_toList, List.length_map] at z
    rw [z, len]
  have rm1 : L1.length ≤ t1.mask := by
    rw [len, q4]
    omega
  -- the rest, with whatever mark the table gets
  have rest : ∀ t2 : SetTable, t2.place = t1.place → t2.dummies = t1.dummies → t2.mask = t1.mask → t2.led = t1.led → wpAny (model P w) A (storeSet a es1 t2) (fun _ s' => wpAny (model P w) A (do
      if !false && t2.tooFull then setRelay a (SetTable.grown (es.size + 1))
      return true) Q E s') E s := fun t2 e1 e2 e3 e4 => by
    have F1 : Fit P w L1 es1 t2 := ⟨rows, tab_like q3 e1 e2 e3, by rw [e4, q5]; exact F.led, by rw [e3]; exact rm1⟩
    have full : t2.tooFull = decide ((L.length + 1) * 5 ≥ t.mask * 3) := by
      unfold SetTable.tooFull
      unfold SetTable.fill at q9 ⊢
      rw [e1, e2, q9, e3, q4]
    refine wpAny_storeSet_of ho hd ?_ (by rw [sz1, sizeLine_eq]; omega)
    have sb : Heap.SameBut a s.heap (s.heap.update a (Obj.putSet es1 t2)) := Heap.SameBut.update ..
    have ho1 := store_at (es' := es1) (t' := t2) ho hd
    generalize s.heap.update a (Obj.putSet es1 t2) = h1 at sb ho1 ⊢
    have ex1 : ({ o with data := .set es1 (ep + 1) t2 } : Obj).ExactSet := ⟨hex.1, hex.2.1, hex.2.2⟩
    by_cases f : (L.length + 1) * 5 ≥ t.mask * 3
    · rw [full, decide_eq_true f]
      first
        | (refine wp_if_pos (by simp) ?_; refine wpAny_bind ?_)
        | (refine wpAny_bind ?_; refine wp_if_pos (by simp) ?_)
      have go : ∀ M, MaskOk M → SetTable.sizeAbove (SetTable.grown (es.size + 1)) = M + 1 → (L.length + 1) * 5 < M * 3 → wpAny (model P w) A (setRelay a (SetTable.grown (es.size + 1))) (fun _ s' => wpAny (model P w) A (pure true) Q E s') E { s with heap := h1 } := fun M h1' h2' h3' =>
        relay (s := { s with heap := h1 }) ho1 ex1 rfl F1 h1' h2' (by rw [len]; exact h3') fun h2 L2 sb2 i2 p2 => wpAny_pure (hQ true h2 L2 (sb.trans sb2) i2 (fun z => absurd z nm) fun _ => p2.trans pm)
      rcases F.tab.mok with e | e | e
      · have l4 : es.size = 4 := by omega
        exact go 31 (.inr (.inl rfl)) (by rw [l4, size_20]) (by omega)
      · have l18 : es.size = 18 := by omega
        exact go 127 (.inr (.inr rfl)) (by rw [l18, size_76]) (by omega)
      · omega
    · rw [full, decide_eq_false f]
      have rm2 : L1.length * 5 < t2.mask * 3 := by
        rw [len, e3, q4]
        omega
      have fin : wpAny (model P w) A (pure true) Q E { s with heap := h1 } := wpAny_pure (hQ true h1 L1 sb ⟨_, _, _, _, ho1, ex1, rfl, F1, rm2⟩ (fun z => absurd z nm) fun _ => pm)
      first
        | exact wp_if_neg (by simp) fin
        | exact wpAny_bind (wp_if_neg (by simp) (wpAny_pure fin))
  by_cases pl : t1.plain = true
  · first
      | (refine wp_if_pos pl ?_; refine wpAny_bind (byVal_tup hx fun r => ?_))
      | refine wpAny_bind (wp_if_pos pl (byVal_tup hx fun r => ?_))
    cases r with
    | true => exact wpAny_bind (rest t1 rfl rfl rfl rfl)
    | false => exact wpAny_bind (rest { t1 with plain := false } rfl rfl rfl rfl)
  · first
      | (refine wp_if_neg pl ?_; refine wpAny_bind (wpAny_pure ?_))
      | refine wpAny_bind (wp_if_neg pl (wpAny_pure ?_))
    exact wpAny_bind (rest t1 rfl rfl rfl rfl)
end
end Fh

set_option Elab.async false
set_option linter.all false
set_option maxRecDepth 100000
set_option maxHeartbeats 4000000
namespace Fh
open PySem PySem.Spec PyProof.Rows L2
/-! ### set(a list of tuples), alike ones among them -/
/-- L are those met first among the first i -/
structure Met (ks : List Row) (i : Nat) (L : List Row) : Prop where
  sub : ∀ p ∈ L, p ∈ ks.take i
  all : ∀ p ∈ ks.take i, p.2 ∈ L.map (·.2)
  nd : (L.map (·.2)).Nodup
  len : L.length ≤ i
theorem Met.zero (ks : List Row) : Met ks 0 [] := ⟨fun p h => (by cases h), fun p h => (by simp at h), List.nodup_nil, Nat.le_refl _⟩
theorem Met.next {ks L L' : List Row} {i : Nat} {p : Row} (m : Met ks i L) (h : ks[i]? = some p) (h1 : p.2 ∈ L.map (·.2) → L' = L) (h2 : p.2 ∉ L.map (·.2) → L'.Perm (p :: L)) : Met ks (i + 1) L' := by
  have e : ks.take (i + 1) = ks.take i ++ [p] := by rw [List.take_succ, h]; rfl
  have wid : ∀ q, q ∈ ks.take i → q ∈ ks.take (i + 1) := fun q hq => by rw [e]; exact List.mem_append_left _ hq
  by_cases c : p.2 ∈ L.map (·.2)
  · rw [h1 c]
    refine ⟨fun q hq => wid q (m.sub q hq), fun q hq => ?_, m.nd, Nat.le_succ_of_le m.len⟩
    rw [e] at hq
    rcases List.mem_append.mp hq with z | z
    · exact m.all q z
    · rw [List.mem_singleton.mp z]; exact c
  · have pm := h2 c
    have pm2 : (L'.map (·.2)).Perm (p.2 :: L.map (·.2)) := pm.map (·.2)
    refine ⟨fun q hq => ?_, fun q hq => ?_, pm2.nodup_iff.mpr (List.nodup_cons.mpr ⟨c, m.nd⟩), ?_⟩
    · rcases List.mem_cons.mp (pm.mem_iff.mp hq) with z | z
      · rw [e, z]; exact List.mem_append_right _ (List.mem_singleton.mpr rfl)
      · exact wid q (m.sub q z)
    · rw [e] at hq
      refine pm2.mem_iff.mpr ?_
      rcases List.mem_append.mp hq with z | z
      · exact List.mem_cons_of_mem _ (m.all q z)
      · rw [List.mem_singleton.mp z]; exact List.mem_cons_self
    · have := pm.length_eq
      have := m.len
      simp only [List.length_cons] at *
      omega
section
variable {P : Program} {w : World} {A : Around} {ks : List Row}
theorem TK.at {h h' : Heap} {k : List Key} {x : Addr} (hk : TK P w h k x) (e : ∀ o, h.get? x = some o → h'.get? x = some o) : TK P w h' k x := by
  obtain ⟨o, its, n, ho, r⟩ := hk
  exact ⟨o, its, n, e o ho, r⟩
theorem InS.at {h h' : Heap} {L : List Row} {a : Addr} (hs : InS P w h a L) (e : ∀ o, h.get? a = some o → h'.get? a = some o) : InS P w h' a L := by
  obtain ⟨o, es, ep, t, ho, r⟩ := hs
  exact ⟨o, es, ep, t, e o ho, r⟩
theorem fillT {R : Result → Shared → Prop} {I S : Addr} {fp wr : List Addr} {G : Array GenState → Array GenState → Prop} {Pv : Nat → Value → Prop} {St : Nat → Shared → Prop} {s0 : Shared}
    (W : WalksS P w A.in1 I fp wr G ks.length Pv St) (hS : S ∉ fp) (hb : ks.length < 64) (hk : ∀ i v, Pv i v → ∃ p, ks[i]? = some p ∧ v = .ref p.1) (tu : ∀ p ∈ ks, TK P w s0.heap p.2 p.1) (ap : ∀ p ∈ ks, p.1 ∉ S :: wr) (hu : A.in1.units < cLine)
    (fin : ∀ s' L, Moved (S :: wr) G s0 s' → InS P w s'.heap S L → Met ks ks.length L → R (.ok (.ret .none)) s') :
    ∀ (d i : Nat) (s : Shared) (L : List Row), i + d = ks.length → St i s → Moved (S :: wr) G s0 s → InS P w s.heap S L → Met ks i L →
      codeAny (model P w) A (.builtin "set.update.loop" ⟨[.ref S, .ref I], []⟩) R s := by
  have out : S ∉ wr := fun h => hS (W.sub _ h)
  have more : ∀ {s1 s2 : Shared}, Moved wr G s1 s2 → Moved (S :: wr) G s1 s2 := fun m => m.mono fun b hb => List.mem_cons_of_mem _ hb
  have now : ∀ {s1 : Shared}, Moved (S :: wr) G s0 s1 → ∀ p ∈ ks, TK P w s1.heap p.2 p.1 := fun m p hp => (tu p hp).at fun o e => m.heap _ o (ap p hp) e
  intro d
  induction d with
  | zero =>
    intro i s L e st mv so me
    have ei : i = ks.length := by omega
    rw [ei] at st me
    refine codeAny_builtin PyProof.Rows.F.entry_set_update_loop ?_
    rw [Around.under_plainId PyProof.Rows.F.plain_set_update_loop _]
    exact wpAny_bind (m := pyNext (.ref I)) (W.done s _ _ st fun s1 m1 => wpAny_pure (fin s1 L (Moved.trans W.gtrans mv (more m1)) (so.at fun o e => m1.heap _ o out e) me))
  | succ d ih =>
    intro i s L e st mv so me
    refine codeAny_builtin PyProof.Rows.F.entry_set_update_loop ?_
    rw [Around.under_plainId PyProof.Rows.F.plain_set_update_loop _]
    refine wpAny_bind (m := pyNext (.ref I)) (W.item i s _ _ (by omega) st fun v s1 pv st1 m1 => ?_)
    obtain ⟨p, hp, rfl⟩ := hk i v pv
    have mv1 := Moved.trans W.gtrans mv (more m1)
    have tu1 := now mv1
    have so1 := so.at (h' := s1.heap) fun o e => m1.heap _ o out e
    have pk := tu1 p (List.mem_of_getElem? hp)
    have sub : ∀ q ∈ L, q ∈ ks := fun q hq => List.mem_of_mem_take (me.sub q hq)
    have hl := me.len
    refine wpAny_bind (m := holding [Value.ref p.1] (setAdd S (.ref p.1))) (wpAny_holding (wpAny_holding (wpAny_bind (wpAny_pyHash_tuple hu pk (add_tup (s := { s1 with toks := s1.toks + (p.2.length + 1) }) so1 (fun q hq => tu1 q (sub q hq)) pk hu (by omega) fun b h2 L2 sb so2 c1 c2 => ?_)))))
    have other : ∀ b o, b ≠ S → s1.heap.get? b = some o → h2.get? b = some o := fun b o n g => by rw [sb.2 b n]; exact g
    exact wpAny_pure ⟨plainId_quiet PyProof.Rows.F.plain_set_update_loop _, ih (i + 1) _ L2 (by omega) (W.frame _ s1 _ _ st1 (Nat.le_add_right _ _) fun b hb o g => other b o (fun h => hS (h ▸ hb)) g) (Moved.trans W.gtrans mv ((more m1).then_heap (Nat.le_add_right _ _) fun b o hb g => other b o (fun h => hb (h ▸ List.mem_cons_self)) g)) so2 (me.next hp c1 c2)⟩
end
end Fh

set_option Elab.async false
set_option linter.all false
set_option maxRecDepth 100000
set_option maxHeartbeats 4000000
namespace Fh
open PySem PySem.Spec PyProof.Rows L2
section
variable {P : Program} {w : World} {A : Around} {ks : List Row}
abbrev noSet (w : World) : Obj := { cls := .type "set", dict := none, data := .set #[] 0 (.fresh 0 0 (!w.params.followText "set-order")) }
theorem InS.new {h : Heap} {a : Addr} (ho : h.get? a = some (noSet w)) : InS P w h a [] := by
  refine ⟨_, _, _, _, ho, ⟨rfl, rfl, rfl⟩, rfl, ⟨rfl, ⟨List.Pairwise.nil, rfl, rfl, .inl rfl, fun x hx => (by cases hx), fun i h j hi => (by simp at hi)⟩, ?_, Nat.zero_le _⟩, ?_⟩
  · show _ ∨ (!w.params.followText "set-order") = true
    cases w.params.followText "set-order"
    · exact .inr rfl
    · exact .inl rfl
  · show 0 * 5 < 7 * 3
    decide
theorem initT {R : Value → Shared → Prop} {E : Value → Shared → Prop} {s : Shared} {S l : Addr} {items : Array Value} (hh : A.handled = none) (hl : s.heap.IsList l items) (hS : s.heap.get? S = some (noSet w))
    (hn : items.size = ks.length) (hb : ks.length < 64) (hk : ∀ (i : Nat) (v : Value), items[i]? = some v → ∃ p, ks[i]? = some p ∧ v = Value.ref p.1) (tu : ∀ p ∈ ks, TK P w s.heap p.2 p.1) (hu : A.units + 3 < cLine)
    (fin : ∀ (h' : Heap) (tk : Nat) L, InS P w h' S L → Met ks ks.length L → (∀ b o, b ≠ S → s.heap.get? b = some o → h'.get? b = some o) → R .none { s with heap := h', toks := tk }) :
    codeAny (model P w) A (.call (.builtin "set.__init__") ⟨[.ref S, .ref l], []⟩) (wants R E) s := by
  refine codeAny_call_builtin F.called_set.init.plain F.entry_set_init (check_set_init_1 ⟨_, hS, rfl⟩ ?_)
  have hl0 := hl
  obtain ⟨⟨oc, od, odt, osl⟩, hol, hcl, nl, hdl⟩ := hl
  dsimp only at hcl hdl
  subst hcl
  subst hdl
  have q1 := F.sub_list_set
  have q2 := F.sub_list_frozenset
  have q3 : (Value.type "list" == Value.type "dict") = false := by decide
  have lS : l ≠ S := fun e => by
    rw [e, hS] at hol
    have c := congrArg Obj.cls (Option.some.inj hol)
    exact absurd (show Value.type "set" = Value.type "list" from c) (by decide)
  unfold Builtin.«set.__init__» noKeywords Builtin.Frozenset.updateFrom
  generalize hit : pyIter = it
  wp_walk
  subst hit
  refine wpAny_pyIter_list hl0 (wpAny_bind (wpAny_runValue ?_))
  have n1 : l ≠ s.heap.objs.size := Nat.ne_of_lt (Heap.lt_size hol)
  have n2 : S ≠ s.heap.objs.size := Nat.ne_of_lt (Heap.lt_size hS)
  have h3 : A.in1.in1.handled = none := by simp [hh]
  have keep : ∀ {b : Addr} {o : Obj}, s.heap.get? b = some o → (s.heap.push { cls := .type "list_iterator", data := .fields #[.ref l, .int 0 0] }).get? b = some o := fun e => Heap.get?_push_of_some _ e
  have W := (Walks.list (prog := P) (w := w) h3 s.heap.objs.size l n1 items).toS
  rw [hn] at W
  refine fillT (s0 := { s with heap := s.heap.push { cls := .type "list_iterator", data := .fields #[.ref l, .int 0 0] } }) W (S := S) (by simp [n2, lS.symm]) hb hk (fun p hp => (tu p hp).at fun o e => keep e) (fun p hp => ?_) (show A.units + 1 + 1 < cLine by omega) (fun s' L mv so me => ?_) ks.length 0 _ [] (Nat.zero_add _) ⟨⟨_, Heap.get?_push_size _ rfl, rfl, rfl⟩, hl0.push _⟩ ⟨fun _ _ _ e => e, W.grefl _, rfl, rfl, Nat.le_refl _⟩ (InS.new (keep hS)) (Met.zero ks)
  · obtain ⟨o, its, n, ho, hc, _⟩ := tu p hp
    have a1 : p.1 ≠ s.heap.objs.size := Nat.ne_of_lt (Heap.lt_size ho)
    have a2 : p.1 ≠ S := fun e => by
      rw [e, hS] at ho
      rw [← Option.some.inj ho] at hc
      exact absurd (show Value.type "set" = Value.type "tuple" from hc) (by decide)
    simp [a1, a2]
  · obtain ⟨h', g', d', tk', os'⟩ := s'
    have eg : g' = s.gens := mv.gens
    have ed : d' = s.drawn := mv.drawn
    have eo : os' = s.os := mv.os
    subst eg
    subst ed
    subst eo
    exact wpAny_pure (wpAny_pure (fin h' tk' L so me fun b o nb e => mv.heap b o (by simp only [List.mem_cons, List.not_mem_nil, or_false, not_or]; exact ⟨nb, Nat.ne_of_lt (Heap.lt_size e)⟩) (keep e)))
/-- set(a list of tuples) -/
theorem call_setT {E : Value → Shared → Prop} {s : Shared} {l : Addr} {items : Array Value} {Q : Value → Shared → Prop} (hh : A.handled = none) (hl : s.heap.IsList l items) (hn : items.size = ks.length) (hb : ks.length < 64) (hk : ∀ (i : Nat) (v : Value), items[i]? = some v → ∃ p, ks[i]? = some p ∧ v = Value.ref p.1)
    (tu : ∀ p ∈ ks, TK P w s.heap p.2 p.1) (hu : A.units + 9 < cLine)
    (h : ∀ (h' : Heap) (tk : Nat) L, InS P w h' s.heap.objs.size L → Met ks ks.length L → (∀ b o, s.heap.get? b = some o → h'.get? b = some o) → Q (.ref s.heap.objs.size) { s with heap := h', toks := tk }) : wpAny (model P w) A (call (.type "set") [.ref l]) Q E s := by
  obtain ⟨c, tl, m1⟩ := F.called_set.mro
  have m2 := F.called_set.made
  have m3 := F.called_set.sub
  have m4 := F.called_set.notType
  have m5 := F.called_set.canCreate
  have m6 := F.typeCall_set_1 (.ref l)
  refine wpAny_call (codeAny_of_tree (wpAny_pure ⟨Code.quiet_builtin _ (by decide +kernel), codeAny_builtin F.entry_type_call ?_⟩))
  rw [Around.under_plain (weight_type_call_type "set" [.ref l] []) rfl]
  repeat (any_goals (first | assumption | wp_step))
  refine codeAny_mono (code_set_led1 (.ref l) (E := E) (Q₁ := fun v s1 => v = .ref s.heap.objs.size ∧ s1 = { s with heap := s.heap.push (noSet w) }) ⟨rfl, rfl⟩) fun r s1 hr => ?_
  rcases r with e | fl
  · exact hr
  · cases fl with
    | ret obj =>
      obtain ⟨rfl, rfl⟩ := hr
      have at0 : (s.heap.push (noSet w)).get? s.heap.objs.size = some (noSet w) := Heap.get?_push_size _ rfl
      have ty0 : Shared.TypeIs { s with heap := s.heap.push (noSet w) } (.ref s.heap.objs.size) "set" := ⟨_, at0, rfl⟩
      have i1 := F.called_set.init.lookup
      have i2 := F.called_set.init.bind (.ref s.heap.objs.size)
      repeat (any_goals (first | assumption | wp_step))
      refine codeAny_mono (initT (ks := ks) (E := E) (R := fun v s2 => v = .none ∧ ∃ h' tk L, s2 = { s with heap := h', toks := tk } ∧ InS P w h' s.heap.objs.size L ∧ Met ks ks.length L ∧ ∀ b o, s.heap.get? b = some o → h'.get? b = some o) (by simp [hh]) (hl.push _) at0 hn hb hk (fun p hp => (tu p hp).at fun o e => Heap.get?_push_of_some _ e) (show A.units + 1 + 3 < cLine by omega) fun h' tk L so me keep => ⟨rfl, h', tk, L, rfl, so, me, fun b o e => keep b o (Nat.ne_of_lt (Heap.lt_size e)) (Heap.get?_push_of_some _ e)⟩) fun r2 s2 hr2 => ?_
      rcases r2 with e | fl2
      · exact hr2
      · cases fl2 with
        | ret v =>
          obtain ⟨rfl, h', tk, L, rfl, so, me, keep⟩ := hr2
          repeat (any_goals (first | assumption | wp_step))
          exact h h' tk L so me keep
        | _ => exact hr2.elim
    | _ => exact hr.elim
end
end Fh

set_option Elab.async false
set_option linter.all false
set_option maxRecDepth 100000
set_option maxHeartbeats 4000000
namespace Fh
open PySem PySem.Spec PyProof.Rows L2
/-! ### sorted, of tuples of texts -/
/-- an address, and the texts of the tuple there -/
abbrev TxR := Addr × List Str
def tr (p : TxR) : Row := (p.1, p.2.map Sum.inr)
def txD (p : TxR) : PyData := .tuple (p.2.map .str)
/-- Python's order of tuples of texts -/
def slLe (x y : List Str) : Bool := !(PyProof.Rows.listOrd PyProof.Rows.itemOrd).blt (PySem.W.keyToks (.tuple (y.map .str))) (PySem.W.keyToks (.tuple (x.map .str)))
theorem txLe_eq : PySem.W.dataLe false txD = fun p q => slLe p.2 q.2 := rfl
theorem toks_inj : ∀ {x y : List Str}, PySem.W.keyToksAll (x.map .str) = PySem.W.keyToksAll (y.map .str) → x = y
  | [], [], _ => rfl
  | [], _ :: _, h => by simp [PySem.W.keyToksAll] at h
  | _ :: _, [], h => by simp [PySem.W.keyToksAll] at h
  | a :: x, b :: y, h => by
    simp only [List.map_cons, PySem.W.keyToksAll, PySem.W.keyToks, List.cons_append, List.nil_append, List.cons.injEq, true_and, Sum.inr.injEq] at h
    have e : a = b := by
      cases a; cases b
      exact congrArg Str.mk (Array.toList_inj.mp h.1)
    rw [e, toks_inj h.2]
theorem sl_total : PySem.W.TotalLe (fun p q : TxR => slLe p.2 q.2) := PySem.W.sortLe_total (PyProof.Rows.listOrd PyProof.Rows.itemOrd) false fun b : TxR => PySem.W.keyToks (txD b)
theorem not_t {b : Bool} (h : (!b) = true) : b = false := by cases b <;> first | rfl | cases h
theorem sl_anti {x y : List Str} (h1 : slLe x y = true) (h2 : slLe y x = true) : x = y := by
  have e := (PyProof.Rows.listOrd PyProof.Rows.itemOrd).total _ _ (not_t h1) (not_t h2)
  exact (toks_inj e).symm
theorem perm_unmap {α β : Type} {f : α → β} : ∀ {l : List β} {T : List α}, l.Perm (T.map f) → ∃ T' : List α, T'.Perm T ∧ l = T'.map f
  | [], T, h => by
    have e : T = [] := List.map_eq_nil_iff.mp h.symm.eq_nil
    subst e
    exact ⟨[], .nil, rfl⟩
  | v :: r, T, h => by
    obtain ⟨t, ht, rfl⟩ := List.mem_map.mp (h.mem_iff.mp List.mem_cons_self)
    obtain ⟨T1, T2, rfl⟩ := List.append_of_mem ht
    have h2 : (f t :: r).Perm (f t :: (T1 ++ T2).map f) := by
      refine h.trans ?_
      rw [List.map_append, List.map_cons, List.map_append]
      exact List.perm_middle
    obtain ⟨T', p, e⟩ := perm_unmap h2.cons_inv
    exact ⟨t :: T', (p.cons t).trans List.perm_middle.symm, by rw [e]; rfl⟩
/-- texts sorted as tuples stand in one way -/
theorem sl_one {l m : List (List Str)} (h : l.Perm m) (h1 : l.Pairwise fun x y => slLe x y = true) (h2 : m.Pairwise fun x y => slLe x y = true) : l = m := by
  have tot := sl_total
  have tt : ∀ x y : List Str, (slLe x y || slLe y x) = true := fun x y => by
    rcases tot.total (0, x) (0, y) with e | e
    · exact Bool.or_eq_true _ _ ▸ .inl e
    · exact Bool.or_eq_true _ _ ▸ .inr e
  have tn : ∀ x y z : List Str, slLe x y = true → slLe y z = true → slLe x z = true := fun x y z => tot.trans (0, x) (0, y) (0, z)
  have an : ∀ x y : List Str, slLe x y = true → slLe y x = true → x = y := fun x y => sl_anti
  exact (PySem.W.Srt.the_of_perm slLe tn tt an h h1).trans (PySem.W.Srt.the_of_perm slLe tn tt an (List.Perm.refl m) h2).symm
theorem alike_strs : ∀ x y : List Str, PySem.W.alikeAll (x.map .str) (y.map .str) = true
  | [], _ => by simp [PySem.W.alikeAll]
  | _ :: _, [] => by simp [PySem.W.alikeAll]
  | a :: x, b :: y => by simp [PySem.W.alikeAll, PySem.W.alike, alike_strs x y]
theorem depth_strs : ∀ x : List Str, PyData.depthAll (x.map .str) = 0
  | [] => rfl
  | a :: x => by simp [PyData.depthAll, PyData.depth, depth_strs x]
section
variable {P : Program} {w : World} {A : Around} {E : Value → Shared → Prop} {s : Shared}
theorem reads_strs {h : Heap} : ∀ {x : List Str} {vs : List Value}, PySem.ItemsAre (mixKind P w) (x.map Sum.inr) vs → ReadsAll h vs (x.map .str) []
  | [], _, .nil => .nil
  | a :: x, _, .cons h1 r => by
    rcases keyIs_shape (show keyIs (Sum.inr a) _ = true from h1) with ⟨i, t, e, _⟩ | ⟨y, t, e, rfl⟩
    · cases e
    · cases e
      exact .cons (.str a t) (reads_strs r)
theorem reads_tx {h : Heap} {p : TxR} (k : TK P w h (tr p).2 (tr p).1) : Reads h (.ref p.1) (txD p) [] := by
  obtain ⟨o, its, n, ho, hc, hd, hi⟩ := k
  exact .tuple ho hc hd (reads_strs hi)
theorem each_refs (R : Value → TxR → Prop) : ∀ T : List TxR, (∀ p ∈ T, R (.ref p.1) p) → PySem.W.EachIs R (T.map fun p => Value.ref p.1) T
  | [], _ => .nil
  | p :: T, h => .cons (h p List.mem_cons_self) (each_refs R T fun q hq => h q (List.mem_cons_of_mem _ hq))
theorem refs_each : ∀ {vs : List Value} {T : List TxR}, PySem.W.EachIs (fun v (p : TxR) => v = .ref p.1) vs T → vs = T.map fun p => Value.ref p.1
  | _, _, .nil => rfl
  | _, _, .cons e r => by rw [e, refs_each r]; rfl
theorem sorted_pw (T : List TxR) : ((T.mergeSort (PySem.W.dataLe false txD)).map (·.2)).Pairwise fun x y => slLe x y = true := by
  rw [txLe_eq]
  exact List.pairwise_map.mpr (PySem.W.sort_pairwise sl_total T)
/-- sorted(a set of tuples of texts) -/
theorem call_sortedT {a : Addr} {T : List TxR} {Q : Value → Shared → Prop} (hs : InS P w s.heap a (T.map tr)) (tup : ∀ p ∈ T, TK P w s.heap (tr p).2 (tr p).1) (ne : ∀ p ∈ T, p.2 ≠ []) (few : T.length < 64) (hh : A.handled = none) (hu : A.units + 9 < cLine)
    (hQ : ∀ s' q (out : Array Value) (c : Nat) (T' : List TxR), (∀ b o, s.heap.get? b = some o → s'.heap.get? b = some o) → s'.gens = s.gens → s'.os = s.os → s.heap.objs.size ≤ q → s'.heap.get? q = some (seqObj "list" out c) →
      out.toList = T'.map (fun p => Value.ref p.1) → T'.Perm T → (T'.map (·.2)).Pairwise (fun x y => slLe x y = true) → Q (.ref q) s') : wpAny (model P w) A (call (.builtin "sorted") [.ref a]) Q E s := by
  obtain ⟨o, es, ep, t, ho, hex, hd, F, room⟩ := hs
  have sz := F.size
  rw [List.length_map] at sz
  refine Calls.call_function_entry kind_sorted plain_sorted entry_sorted (args_sorted1 _) ?_
  unfold Builtin.«sorted»
  refine wpAny_bind (m := checkCount "sorted" 1 1 _) (wpAny_pure ?_)
  refine wpAny_bind (collect_set (A := A.in1) hh ⟨o, ho, hex.1, hd⟩ F.fits (by unfold scanBound; omega) F.tab.ris F.led fun s1 vs k1 hz g1 o1 pm => ?_)
  have ev : es.toList.map (·.2) = T.map fun p => Value.ref p.1 := by
    rw [F.rows, List.map_map, List.map_map]
    rfl
  rw [ev] at pm
  obtain ⟨T1, pT, rfl⟩ := perm_unmap pm
  have l1 : T1.length < 64 := by rw [pT.length_eq]; exact few
  refine wpAny_bind (wpAny_newList ?_ (by rw [List.length_map, sizeLine_eq]; omega))
  have at1 : (s1.heap.push (seqObj "list" (T1.map fun p => Value.ref p.1).toArray 0)).get? s1.heap.objs.size = some (seqObj "list" (T1.map fun p => Value.ref p.1).toArray 0) := Heap.get?_push_size _ rfl
  refine wpAny_bind (wpAny_holding (PySem.W.list_sort_data (s := { s1 with heap := s1.heap.push (seqObj "list" (T1.map fun p => Value.ref p.1).toArray 0) }) (R := fun v (p : TxR) => v = .ref p.1) (enc := txD) (bs := T1) at1 (each_refs _ T1 fun _ _ => rfl) (each_refs _ T1 fun p hp => ⟨[], reads_tx ((tup p (pT.mem_iff.mp hp)).at fun o e => Heap.get?_push_of_some _ (k1 _ o e)), fun h => nomatch h⟩) (PySem.W.AllAlike.of fun b b' => by unfold txD PySem.W.alike; exact alike_strs _ _) (.inl fun d hd => ?_) (by rw [sizeLine_eq]; omega) (fun b hb => ?_) fun out ol eo => ?_))
  · obtain ⟨p, hp, rfl⟩ := List.mem_map.mp hd
    have n0 := ne p (pT.mem_iff.mp hp)
    unfold txD
    cases e : p.2 with
    | nil => exact absurd e n0
    | cons y r => exact ⟨.str y, r.map .str, rfl⟩
  · unfold txD PyData.depth
    rw [depth_strs]
    show A.units + 1 + 1 + _ < cLine
    omega
  · obtain ⟨c, hc⟩ := sortedHeap_at (vs := T1.map fun p => Value.ref p.1) (out := out.toArray) at1
    refine wpAny_pure ⟨_, rfl, hQ _ s1.heap.objs.size out.toArray c (T1.mergeSort (PySem.W.dataLe false txD)) (fun b u e => ?_) g1 o1 hz hc (by simpa using refs_each eo) ((List.mergeSort_perm T1 _).trans pT) (sorted_pw T1)⟩
    have q := k1 b u e
    have lt := Heap.lt_size q
    show (sortedHeap _ s1.heap.objs.size _ _).get? b = some u
    rw [sortedHeap_old (Nat.ne_of_lt lt) (by rw [size_push']; exact Nat.lt_succ_of_lt lt)]
    exact Heap.get?_push_of_some _ q
end
end Fh

set_option Elab.async false
set_option linter.all false
set_option maxRecDepth 100000
set_option maxHeartbeats 4000000
namespace Fh
open PySem PySem.Spec PyProof.Rows L2
/-! ### set(xs), sorted(set), sorted(xs): tuples of texts -/
def SetTx (P : Program) (w : World) (a : Addr) (T : List TxR) : HO := .ext fun h => InS P w h a (T.map tr)
theorem setTx_new {P : Program} {w : World} {H : Hp} {h : Heap} {a : Addr} {T : List TxR} (R : InS P w h a (T.map tr)) : ObjOk P w H h a (SetTx P w a T) := by
  have ⟨o, es, ep, t, ho, r⟩ := R
  exact ⟨R, ⟨o, ho⟩, fun h1 h2 p k => InS.at p fun o e => k o e⟩
theorem items_strs {P : Program} {w : World} : ∀ {x : List Str} {us : List Value}, Vals (x.map V.str) us → PySem.ItemsAre (mixKind P w) (x.map Sum.inr) us
  | [], _, .nil => .nil
  | y :: x, _, .cons r t => by
    obtain ⟨tk, rfl⟩ := r
    exact .cons (mixKind_str P w y tk) (items_strs t)
theorem refs_vals : ∀ {T : List TxR} {us : List Value}, Vals (T.map fun p => V.ref p.1) us → us = T.map fun p => Value.ref p.1
  | [], _, .nil => rfl
  | p :: T, _, .cons r t => by
    cases r
    rw [refs_vals t]
    rfl
theorem vals_refs : ∀ (T : List TxR), Vals (T.map fun p => V.ref p.1) (T.map fun p => Value.ref p.1)
  | [] => .nil
  | p :: T => .cons rfl (vals_refs T)
/-- those of some rows that are rows of texts -/
theorem tr_back : ∀ {L : List Row} {T : List TxR}, (∀ p ∈ L, p ∈ T.map tr) → ∃ T' : List TxR, L = T'.map tr ∧ ∀ p ∈ T', p ∈ T
  | [], _, _ => ⟨[], rfl, fun p h => (by cases h)⟩
  | p :: L, T, h => by
    obtain ⟨t, ht, e⟩ := List.mem_map.mp (h p List.mem_cons_self)
    obtain ⟨T', e2, s2⟩ := tr_back (L := L) fun q hq => h q (List.mem_cons_of_mem _ hq)
    refine ⟨t :: T', by rw [e2, ← e]; rfl, fun q hq => ?_⟩
    rcases List.mem_cons.mp hq with z | z
    · rw [z]; exact ht
    · exact s2 q z
theorem inr_inj {x y : List Str} (h : x.map (Sum.inr : Str → Key) = y.map Sum.inr) : x = y := List.map_inj_right (fun a b e => Sum.inr.inj e) |>.mp h
section
variable {X : Cx}
theorem Inv.tx {pins : List (Addr × Obj)} {σ : L2.St} {H : Hp} {s : Shared} {p : TxR} (I : Inv X pins σ H s) (h : SqT X.K H p.1 (p.2.map V.str)) : TK X.prog X.w s.heap (tr p).2 (tr p).1 := by
  obtain ⟨its, r, ⟨o, ho, hc, n, hd⟩, _⟩ := I.tuple h
  exact ⟨o, its.toArray, n, ho, hc, hd, by show PySem.ItemsAre _ _ its.toArray.toList; simpa [tr] using items_strs r⟩
def rSetTx (K : PySem.W.Frag) (P : Program) (w : World) : List V → Hp → VK → Prop := fun xs H Q => ∃ (l : Addr) (T : List TxR), xs = [V.ref l] ∧ SqL K H l (T.map fun p => V.ref p.1) ∧ (∀ p ∈ T, SqT K H p.1 (p.2.map V.str)) ∧ T.length < 64 ∧
  ∀ (a : Addr) (T' : List TxR), H a = none → (∀ p ∈ T', p ∈ T) → (∀ p ∈ T, p.2 ∈ T'.map (·.2)) → (T'.map (·.2)).Nodup → T'.length < 64 → Q (.ref a) (upd H a (SetTx P w a T'))
theorem cr_setTx (hc : X.calm = true) (hu : X.A.units + 64 < cLine) : CallR X (.type "set") (rSetTx X.K X.prog X.w) := by
  intro pins s σ H xs us Q I r h
  obtain ⟨l, T, rfl, hl, hk, few, q⟩ := h
  rw [Vals.ref1 r]
  obtain ⟨its, rv, pl, hz⟩ := I.list hl
  have hn : H s.heap.objs.size = none := I.hok.fresh (Nat.le_refl _)
  have ei : its = T.map fun p => Value.ref p.1 := refs_vals rv
  have tu : ∀ p ∈ T.map tr, TK X.prog X.w s.heap p.2 p.1 := fun p hp => by
    obtain ⟨t, ht, rfl⟩ := List.mem_map.mp hp
    exact Inv.tx I (hk t ht)
  refine call_setT (P := X.prog) (w := X.w) (ks := T.map tr) (I.ok.hd hc) pl.isList (by simp [ei]) (by rw [List.length_map]; exact few) (fun i v hv => ?_) tu (by omega) fun h' tk L so me k => ?_
  · rw [ei] at hv
    have hv2 : (T.map fun p => Value.ref p.1)[i]? = some v := by simpa using hv
    rw [List.getElem?_map] at hv2 ⊢
    cases e : T[i]? with
    | none => rw [e] at hv2; cases hv2
    | some t =>
      rw [e] at hv2
      exact ⟨tr t, rfl, (Option.some.inj hv2).symm⟩
  · have sub : ∀ p ∈ L, p ∈ T.map tr := fun p hp => List.mem_of_mem_take (me.sub p hp)
    obtain ⟨T', rfl, s2⟩ := tr_back sub
    have kk : (T'.map tr).map (·.2) = (T'.map (·.2)).map fun x => x.map (Sum.inr : Str → Key) := by
      rw [List.map_map, List.map_map]
      rfl
    refine ⟨.ref s.heap.objs.size, upd H s.heap.objs.size (SetTx X.prog X.w s.heap.objs.size T'), I.laid (t' := tk) k (Nat.le_refl _) (setTx_new so), rfl, q _ T' hn s2 (fun p hp => ?_) ?_ ?_⟩
    · have z := me.all (tr p) (by rw [List.take_length]; exact List.mem_map.mpr ⟨p, hp, rfl⟩)
      rw [kk] at z
      obtain ⟨x, hx, e⟩ := List.mem_map.mp z
      rw [← inr_inj e]
      exact hx
    · have z := me.nd
      rw [kk] at z
      exact L2.nodup_of_map z
    · have z := me.len
      rw [List.length_map, List.length_map] at z
      omega
def rSortedSTx (K : PySem.W.Frag) (P : Program) (w : World) : List V → Hp → VK → Prop := fun vs H Q => ∃ (a : Addr) (T : List TxR), vs = [V.ref a] ∧ H a = some (SetTx P w a T) ∧ (∀ p ∈ T, SqT K H p.1 (p.2.map V.str)) ∧ (∀ p ∈ T, p.2 ≠ []) ∧ T.length < 64 ∧
  ∀ (T' : List TxR) (q : Addr), T'.Perm T → (T'.map (·.2)).Pairwise (fun x y => slLe x y = true) → H q = none → Q (.ref q) (upd H q (.lst (T'.map fun p => V.ref p.1)))
theorem cr_sortedSTx (hc : X.calm = true) (hu : X.A.units + 64 < cLine) : CallR X (.builtin "sorted") (rSortedSTx X.K X.prog X.w) := by
  intro pins s σ H vs us Q I r h
  obtain ⟨a, T, rfl, ha, hk, ne, few, q⟩ := h
  have R0 : InS X.prog X.w s.heap a (T.map tr) := (I.hok a _ ha).1
  rw [Vals.ref1 r]
  refine call_sortedT R0 (fun p hp => Inv.tx I (hk p hp)) ne few (I.ok.hd hc) (by omega) fun s' p out c T' k g o hp hg hout pm pw => ?_
  have few' : T'.length < 64 := by rw [pm.length_eq]; exact few
  have hlen : (T'.map fun q => V.ref q.1).length ≤ sizeLine := by rw [List.length_map, sizeLine_eq]; omega
  have hn : H p = none := I.hok.fresh hp
  have hv : Vals (T'.map fun q => V.ref q.1) out.toList := by rw [hout]; exact vals_refs T'
  have J : Inv X pins σ (upd H p (.lst (T'.map fun q => V.ref q.1))) { s with heap := s'.heap, gens := s'.gens, drawn := s'.drawn, toks := s'.toks } :=
    I.call (ch := []) (Un.laid k hp hn) (I.hok.laid k hp ⟨hlen, out.toList, c, hv, hg⟩) (by rw [g]; exact I.bare) (fun _ z => nomatch z)
  have e : s' = { s with heap := s'.heap, gens := s'.gens, drawn := s'.drawn, toks := s'.toks } := by
    cases s'
    cases s
    cases o
    rfl
  rw [e]
  exact ⟨.ref p, _, J, rfl, q T' p pm pw hn⟩
def rSortedTx (K : PySem.W.Frag) : List V → Hp → VK → Prop := fun vs H Q => ∃ (l : Addr) (T : List TxR), vs = [V.ref l] ∧ SqL K H l (T.map fun p => V.ref p.1) ∧ (∀ p ∈ T, SqT K H p.1 (p.2.map V.str)) ∧ (∀ p ∈ T, p.2 ≠ []) ∧ T.length < 64 ∧
  ∀ (T' : List TxR) (q : Addr), T'.Perm T → (T'.map (·.2)).Pairwise (fun x y => slLe x y = true) → H q = none → Q (.ref q) (upd H q (.lst (T'.map fun p => V.ref p.1)))
theorem cr_sortedTx (hu : X.A.units + 64 < cLine) : CallR X (.builtin "sorted") (rSortedTx X.K) := by
  intro pins s σ H vs us Q I r h
  obtain ⟨l, T, rfl, hl, hk, ne, few, q⟩ := h
  obtain ⟨its, rv, pl, _⟩ := I.list hl
  rw [Vals.ref1 r]
  have ei : its = T.map fun p => Value.ref p.1 := refs_vals rv
  subst ei
  refine PySem.W.sorted_data (R := fun v (p : TxR) => v = .ref p.1) (enc := txD) (bs := T) pl.isList (each_refs _ T fun _ _ => rfl) (each_refs _ T fun p hp => ⟨[], reads_tx (Inv.tx I (hk p hp))⟩) (PySem.W.AllAlike.of fun b b' => by unfold txD PySem.W.alike; exact alike_strs _ _) (.inl fun d hd => ?_) (by rw [sizeLine_eq]; omega) (fun b hb => ?_) fun out ol eo => ?_
  · obtain ⟨p, hp, rfl⟩ := List.mem_map.mp hd
    have n0 := ne p hp
    unfold txD
    cases e : p.2 with
    | nil => exact absurd e n0
    | cons y r => exact ⟨.str y, r.map .str, rfl⟩
  · unfold txD PyData.depth
    rw [depth_strs]
    omega
  · obtain ⟨ep, he⟩ := PyProof.Rows.sortedAll_at s.heap (T.map fun p => Value.ref p.1) out.toArray
    have pm : (T.mergeSort (PySem.W.dataLe false txD)).Perm T := List.mergeSort_perm T _
    have hlen : ((T.mergeSort (PySem.W.dataLe false txD)).map fun q => V.ref q.1).length ≤ sizeLine := by rw [List.length_map, pm.length_eq, sizeLine_eq]; omega
    have hv : Vals ((T.mergeSort (PySem.W.dataLe false txD)).map fun q => V.ref q.1) out.toArray.toList := by
      have z := refs_each eo
      rw [List.toList_toArray, z]
      exact vals_refs _
    exact ⟨.ref _, upd H (s.heap.objs.size + 1) (.lst ((T.mergeSort (PySem.W.dataLe false txD)).map fun q => V.ref q.1)), I.laid (t' := s.toks) (fun _ _ => PyProof.Rows.sortedAll_old) (Nat.le_succ _) ⟨hlen, out.toArray.toList, ep, hv, he⟩, rfl, q _ _ pm (sorted_pw T) (I.hok.fresh (Nat.le_succ _))⟩
end
end Fh

set_option Elab.async false
set_option linter.all false
set_option maxRecDepth 100000
set_option maxHeartbeats 4000000
namespace Fh
open PySem PySem.Spec PyProof.Rows L2
/-! ### dict(a tuple of pairs) -/
theorem tup_no_keys : typeLookup (.type "tuple") "keys" = pure none := am_miss_of_fast (by first | decide +kernel | rfl)
section
variable {P : Program} {w : World} {A : Around} {E : Value → Shared → Prop}
theorem asks_keys {s : Shared} {a : Addr} {xs : Array Value} {k : Nat} {sl : Array (Option Value)} {Q : Option Value → Shared → Prop} (hx : s.heap.get? a = some { cls := .type "tuple", dict := none, data := .seq xs k, slots := sl }) (hA : A.handled = none)
    (h : ∀ h' tk, (∀ b ob, s.heap.get? b = some ob → h'.get? b = some ob) → Q none { s with heap := h', toks := tk }) : wpAny (model P w) A (getAttr? (.ref a) "keys") Q E s := by
  obtain ⟨hp, g, d, tk, os⟩ := s
  have ty : ∀ tk', (⟨hp, g, d, tk', os⟩ : Shared).TypeIs (.ref a) "tuple" := fun _ => ⟨_, hx, rfl⟩
  have f1 := sub_AttributeError
  have f2 := F.slot_tuple_getattribute.lookup
  have f3 := F.slot_tuple_getattribute.bind (.ref a)
  have f4 := am_tuple_getattr_none
  have nm : (["__module__", "__name__", "__qualname__", "__doc__", "__annotations__"] : List Str).contains "keys" = false := by decide +kernel
  have sz : ("keys" : Str).length + 100 ≤ sizeLine := by first | size_fits | decide +kernel
  unfold getAttr? getAttrBy? getAttrBy
  repeat (any_goals (first | assumption | exact ty _ | ((with_reducible show wpAny _ _ (call (Value.builtin "tuple.__getattribute__") _ _) _ _ _); refine call_meets F.slot_tuple_getattribute (ty _) am_entry_tuple_getattribute (F.args_tuple_getattribute_2 _ _) (meets_getattribute_miss_tuple a xs k sl "keys" _ tup_no_keys nm sz) ⟨hx, hA, fun h' tk' e ne => ?_⟩) | wp_step))
  obtain ⟨t', u', he⟩ := ne.there
  show wpAny _ _ (getattributeRaised _ _ _ _ _ _ _) _ _ _
  unfold getattributeRaised
  repeat (any_goals (first | assumption | wp_step))
  all_goals first | exact h _ _ ne.keeps | (dsimp only; repeat (any_goals (first | assumption | exact h _ _ ne.keeps | wp_step)))
end
end Fh

set_option Elab.async false
set_option linter.all false
set_option maxRecDepth 100000
set_option maxHeartbeats 4000000
namespace Fh
open PySem PySem.Spec PyProof.Rows L2
section
variable {P : Program} {w : World} {A : Around} {E : Value → Shared → Prop} {prs : List (Key × Value)}
/-- a pair with a key at b -/
def PairAt (h : Heap) (b : Addr) (q : Key × Value) : Prop := ∃ u, IsTup h b #[u, q.2] ∧ keyIs q.1 u = true
theorem PairAt.at {h h' : Heap} {b : Addr} {q : Key × Value} (p : PairAt h b q) (e : ∀ o, h.get? b = some o → h'.get? b = some o) : PairAt h' b q := by
  obtain ⟨u, ⟨o, ho, r⟩, k⟩ := p
  exact ⟨u, ⟨o, e o ho, r⟩, k⟩
theorem fillD {R : Result → Shared → Prop} {I S : Addr} {fp wr : List Addr} {G : Array GenState → Array GenState → Prop} {Pv : Nat → Value → Prop} {St : Nat → Shared → Prop} {s0 : Shared} {res : Value}
    (W : WalksS P w A.in1 I fp wr G prs.length Pv St) (hS : S ∉ fp) (hb : prs.length < 1000) (hk : ∀ i v, Pv i v → ∃ q b, prs[i]? = some q ∧ v = .ref b ∧ b ∉ S :: wr ∧ PairAt s0.heap b q)
    (fin : ∀ s', Moved (S :: wr) G s0 s' → s'.heap.DictOf (mixKind P w) S (merged [] prs) → R (.ok (.ret res)) s') :
    ∀ (d i : Nat) (s : Shared) (n : Int) (t : Tok), i + d = prs.length → St i s → Moved (S :: wr) G s0 s → s.heap.DictOf (mixKind P w) S (merged [] (prs.take i)) →
      codeAny (model P w) A (.builtin "dict.update.loop" ⟨[.ref S, .ref I, .int n t, res], []⟩) R s := by
  have out : S ∉ wr := fun h => hS (W.sub _ h)
  have more : ∀ {s1 s2 : Shared}, Moved wr G s1 s2 → Moved (S :: wr) G s1 s2 := fun m => m.mono fun b hb => List.mem_cons_of_mem _ hb
  intro d
  induction d with
  | zero =>
    intro i s n t e st mv so
    have ei : i = prs.length := by omega
    rw [ei] at st so
    rw [List.take_length] at so
    refine codeAny_builtin ud_entry ?_
    rw [Around.under_plainId ud_plain _]
    refine wpAny_bind (m := pyNext (.ref I)) (W.done s _ _ st fun s1 m1 => ?_)
    refine wpAny_bind (m := Builtin.Dict.addKeywords S []) (wpAny_pure (wpAny_pure ?_))
    exact fin s1 (Moved.trans W.gtrans mv (more m1)) (so.at fun o e => m1.heap _ o out e)
  | succ d ih =>
    intro i s n t e st mv so
    refine codeAny_builtin ud_entry ?_
    rw [Around.under_plainId ud_plain _]
    refine wpAny_bind (m := pyNext (.ref I)) (W.item i s _ _ (by omega) st fun v s1 pv st1 m1 => ?_)
    obtain ⟨q, b, hq, rfl, nb, pq⟩ := hk i v pv
    have mv1 := Moved.trans W.gtrans mv (more m1)
    obtain ⟨u, tup, ku⟩ := pq.at (h' := s1.heap) fun o e => mv1.heap _ o nb e
    have so1 : s1.heap.DictOf (mixKind P w) S (merged [] (prs.take i)) := so.at fun o e => m1.heap _ o out e
    obtain ⟨o, ho, hc, n', hd⟩ := id tup
    have ln : (merged [] (prs.take i)).length + 1 ≤ sizeLine := by
      have z : (merged [] (prs.take i)).length ≤ i := by
        have gen : ∀ l : List (Key × Value), ∀ acc, (merged acc l).length ≤ acc.length + l.length := by
          intro l
          induction l with
          | nil => intro acc; exact Nat.le_refl _
          | cons x l ih2 =>
            intro acc
            have z1 := ih2 (stored acc x.1 x.2)
            have z2 := stored_length_le acc x.1 x.2
            show (merged (stored acc x.1 x.2) l).length ≤ _
            rw [List.length_cons]
            omega
        have z1 := gen (prs.take i) []
        rw [List.length_take, List.length_nil] at z1
        omega
      rw [sizeLine_eq]
      omega
    refine wpAny_bind (m := holding [Value.ref b] _) (wpAny_holding ?_)
    refine wpAny_bind (wpAny_tryCatch ?_)
    unfold Builtin.Dict.pairItems
    refine wpAny_bind (wpAny_typeOf (T := "tuple") ⟨o, ho, hc⟩ ?_)
    rw [if_pos (by first | decide | rfl | simp)]
    refine wpAny_bind (wpAny_seqItems ho hd (wpAny_pure ?_))
    refine wpAny_holding (wpAny_dictSet_pairs (knd := mixKind P w) (k := q.1) ku so1 (fun h2 so2 sb => ?_) (by omega))
    rw [← merged_take_succ _ _ _ _ hq] at so2
    have other : ∀ b o, b ≠ S → s1.heap.get? b = some o → h2.get? b = some o := fun b o n g => sb.extBut b o n g
    exact wpAny_pure ⟨plainId_quiet ud_plain _, ih (i + 1) _ (n + 1) 0 (by omega) (W.frame _ s1 _ _ st1 (by first | exact Nat.le_succ _ | exact Nat.le_add_right _ _ | exact Nat.le_refl _) fun b hb o g => other b o (fun h => hS (h ▸ hb)) g) (Moved.trans W.gtrans mv ((more m1).then_heap (by first | exact Nat.le_succ _ | exact Nat.le_add_right _ _ | exact Nat.le_refl _) fun b o hb g => other b o (fun h => hb (h ▸ List.mem_cons_self)) g)) so2⟩
end
end Fh

set_option Elab.async false
set_option linter.all false
set_option maxRecDepth 100000
set_option maxHeartbeats 4000000
namespace Fh
open PySem PySem.Spec PyProof.Rows L2
section
variable {P : Program} {w : World} {A : Around} {E : Value → Shared → Prop} {prs : List (Key × Value)}
/-- dict(a tuple of pairs) -/
theorem call_dictTup {s : Shared} {l : Addr} {items : Array Value} {n : Nat} {sl : Array (Option Value)} {Q : Value → Shared → Prop} (hh : A.handled = none) (hl : s.heap.get? l = some { cls := .type "tuple", dict := none, data := .seq items n, slots := sl }) (hn : items.size = prs.length) (hb : prs.length < 1000)
    (hk : ∀ (i : Nat) (v : Value), items[i]? = some v → ∃ q b, prs[i]? = some q ∧ v = Value.ref b ∧ PairAt s.heap b q)
    (h : ∀ h' tk, h'.DictOf (mixKind P w) s.heap.objs.size (merged [] prs) → (∀ b o, s.heap.get? b = some o → h'.get? b = some o) → Q (.ref s.heap.objs.size) { s with heap := h', toks := tk }) :
    wpAny (model P w) A (call (.type "dict") [.ref l]) Q E s := by
  refine callType_codes (Q₁ := fun obj s₁ => obj = .ref s.heap.objs.size ∧ s₁ = { s with heap := s.heap.push { cls := .type "dict", data := .dict #[] } }) PySem.F.kt_called_dict (PySem.F.kt_typeCall_dict_1 _) PySem.F.entry_dict_init (kt_code_dict_new _ ⟨rfl, rfl⟩) ?_
  rintro obj s₁ ⟨rfl, rfl⟩
  have new : (s.heap.push { cls := .type "dict", data := .dict #[] }).DictOf (mixKind P w) s.heap.objs.size [] := Heap.DictOf.new s.heap
  have up : ∀ {b : Addr} {o : Obj}, s.heap.get? b = some o → (s.heap.push { cls := .type "dict", data := .dict #[] }).get? b = some o := fun e => Heap.get?_push_of_some _ e
  refine ⟨new.typeIs, PySem.F.args_dict_init_2 _ _, ?_⟩
  unfold Builtin.«dict.__init__»
  refine wpAny_bind ?_
  unfold Builtin.Dict.selfAndRest
  refine wpAny_bind (wpAny_notOrdered_dict new.typeIs ?_)
  show wpAny _ _ (pure (s.heap.objs.size, [Value.ref l])) _ _ _
  refine wpAny_pure ?_
  show wpAny _ _ (Builtin.Dict.updateFrom "dict.__init__" s.heap.objs.size (.ref l) [] .none) _ _ _
  unfold Builtin.Dict.updateFrom
  refine wpAny_bind (wpAny_typeOf (T := "tuple") ⟨_, up hl, rfl⟩ ?_)
  rw [if_pos (by first | decide | rfl | simp)]
  refine wpAny_bind (asks_keys (up hl) hh fun h1 tk1 k1 => ?_)
  rw [if_pos (show (none : Option Value).isNone = true from rfl)]
  refine wpAny_bind (wpAny_rule ?_)
  have at1 : h1.get? l = some { cls := .type "tuple", dict := none, data := .seq items n, slots := sl } := k1 _ _ (up hl)
  have tup1 : h1.IsTuple l items := ⟨_, at1, rfl, n, rfl⟩
  have S1 : s.heap.objs.size < h1.objs.size := by
    have e : (s.heap.push { cls := .type "dict", data := .dict #[] }).get? s.heap.objs.size = some { cls := .type "dict", data := .dict #[] } := Heap.get?_push_size _ rfl
    exact Heap.lt_size (k1 _ _ e)
  have lt : l < s.heap.objs.size := Heap.lt_size hl
  refine wpAny_bind (wpAny_pyIter_tuple (s := { s with heap := h1, toks := tk1 }) tup1 ?_)
  have k2 : ∀ {b : Addr} {o : Obj}, h1.get? b = some o → (h1.push { cls := .type "tuple_iterator", data := .fields #[.ref l, .int 0 0] }).get? b = some o := fun e => Heap.get?_push_of_some _ e
  have h3 : A.in1.in1.handled = none := by simp [hh]
  have W := (Walks.tuple (prog := P) (w := w) h3 h1.objs.size l (Nat.ne_of_lt (Nat.lt_trans lt S1)) items).toS
  rw [hn] at W
  have key := fillD (P := P) (w := w) (A := A.in1) (R := wants (fun r s₂ => r = .none ∧ Q (.ref s.heap.objs.size) s₂) E) (S := s.heap.objs.size) (res := Value.none) (s0 := { s with heap := h1.push { cls := .type "tuple_iterator", data := .fields #[.ref l, .int 0 0] }, toks := tk1 }) W (by simp [Nat.ne_of_lt S1, Nat.ne_of_gt lt]) hb
    (fun i v hv => by
      obtain ⟨q, b, e1, e2, e3⟩ := hk i v hv
      have e4 := e3
      obtain ⟨u, ⟨o, ho, _⟩, _⟩ := e4
      have lb := Heap.lt_size ho
      refine ⟨q, b, e1, e2, ?_, e3.at fun o e => k2 (k1 _ _ (up e))⟩
      simp only [List.mem_cons, List.not_mem_nil, or_false, not_or]
      exact ⟨Nat.ne_of_lt lb, Nat.ne_of_lt (Nat.lt_trans lb S1)⟩)
    (fun s' mv dd => by
      obtain ⟨h', g', d', tk', os'⟩ := s'
      have eg : g' = s.gens := mv.gens
      have ed : d' = s.drawn := mv.drawn
      have eo : os' = s.os := mv.os
      subst eg
      subst ed
      subst eo
      exact ⟨rfl, h h' tk' dd fun b o e => mv.heap b o (by
        simp only [List.mem_cons, List.not_mem_nil, or_false, not_or]
        exact ⟨Nat.ne_of_lt (Heap.lt_size e), Nat.ne_of_lt (Nat.lt_trans (Heap.lt_size e) S1)⟩) (k2 (k1 _ _ (up e)))⟩)
    prs.length 0 { s with heap := h1.push { cls := .type "tuple_iterator", data := .fields #[.ref l, .int 0 0] }, toks := tk1 } 0 0 (Nat.zero_add _) ⟨⟨_, Heap.get?_push_size _ rfl, rfl, rfl⟩, tup1.push _⟩ ⟨fun _ _ _ e => e, W.grefl _, rfl, rfl, Nat.le_refl _⟩ ((new.at fun o e => k1 _ _ e).at fun o e => k2 e)
  first
    | exact wpAny_pure ⟨plainId_quiet ud_plain _, key⟩
    | exact wpAny_bind (wpAny_pure (wpAny_pure ⟨plainId_quiet ud_plain _, key⟩))
end
/-- a tuple with no dict of its own -/
def PlainT (o : Obj) : Prop := ∃ (xs : Array Value) (n : Nat) (sl : Array (Option Value)), o = { cls := .type "tuple", dict := none, data := .seq xs n, slots := sl }
section
variable {X : Cx}
/-- dict(xs) of a frozen tuple of pairs -/
def rDictT (K : PySem.W.Frag) : List V → Hp → VK → Prop := fun xs H Q => ∃ (a : Addr) (o : Obj) (ps : List Addr) (kvs : List (Key × V)), xs = [.ref a] ∧ H a = some (.frz o (.tup (ps.map V.ref))) ∧ PlainT o ∧ Paired (fun p kv => SqT K H p [kV kv.1, kv.2]) ps kvs ∧ ps.length < 1000 ∧
    ∀ p, H p = none → Q (.ref p) (upd H p (.dK (mergeK [] kvs)))
theorem cr_dictT (hcalm : X.calm = true) : CallR X (.type "dict") (rDictT X.K) := by
  intro pins s σ H xs us Q I r q
  obtain ⟨a, o, ps, kvs, rfl, hq, pl, hp, few, q⟩ := q
  rw [Vals.ref1 r]
  obtain ⟨ho, _, its, rv, tp⟩ := I.hok a _ hq
  have ei := refs_at rv
  subst ei
  obtain ⟨prs, rel, hl, hpr⟩ := pairs_of I hp
  obtain ⟨ys, n, sl, rfl⟩ := pl
  obtain ⟨o2, ho2, _, n2, hd2⟩ := tp
  rw [ho] at ho2
  cases Option.some.inj ho2
  cases hd2
  refine call_dictTup (prs := prs) (I.ok.hd hcalm) ho (by simp [hl]) (by rw [hl]; exact few) (fun i v hv => ?_) fun h' tk hd' k => ?_
  · have lt : i < prs.length := by
      have z : i < (ps.map Value.ref).toArray.size := by
        rcases Nat.lt_or_ge i (ps.map Value.ref).toArray.size with h | h
        · exact h
        · rw [Array.getElem?_eq_none h] at hv; cases hv
      simp at z
      omega
    obtain ⟨b, u, e1, e2, e3⟩ := hpr i prs[i] (List.getElem?_eq_getElem lt)
    have ev : v = Value.ref b := by
      have z : (ps.map Value.ref)[i]? = some v := by simpa using hv
      rw [List.getElem?_map, e1] at z
      exact (Option.some.inj z).symm
    exact ⟨prs[i], b, List.getElem?_eq_getElem lt, ev, u, e2, e3⟩
  · have hm : (s.heap.objs.size == sysModules) = false := beq_eq_false_iff_ne.mpr (Nat.ne_of_gt I.big)
    have hlen : (mergeK [] kvs).length ≤ sizeLine := by
      refine Nat.le_trans (length_mergeK kvs []) ?_
      rw [List.length_nil, Nat.zero_add, rel.length, hl, sizeLine_eq]
      omega
    exact ⟨.ref s.heap.objs.size, upd H s.heap.objs.size (.dK (mergeK [] kvs)), I.laid (t' := tk) k (Nat.le_refl _) (show ObjOk X.prog X.w _ _ _ (.dK (mergeK [] kvs)) from ⟨hlen, hm, merged [] prs, KV.merge rel .nil, hd'⟩), rfl, q _ (I.hok.fresh (Nat.le_refl _))⟩
end
end Fh

set_option Elab.async false
set_option linter.all false
set_option maxRecDepth 100000
set_option maxHeartbeats 4000000
namespace Fh
open PySem PySem.Spec PyProof.Rows L2
/-! ### tuples held as the very objects they are -/
section
variable {X : Cx} {es : List Expr} {t : TA} {pos : Pos}
def tTupF (t : TA) : TE := fun σ H Q => t σ H fun xs H1 => xs.length ≤ sizeLine ∧ ∀ p o, H1 p = none → PlainT o → Q (.ref p) (upd H1 p (.frz o (.tup xs)))
theorem pe_tupF {x1} (h : PA X es t) : PE X (.Tuple es x1 pos) (tTupF t) := by
  refine ⟨fun pins s σ H Q I hq => ?_⟩
  refine wpAny_Tuple_spliced (thn (h.run pos pins s σ H _ I hq) fun us s1 ⟨xs, H1, I1, r, z, q⟩ => ⟨by rw [← r.length]; exact z, ?_⟩)
  have fresh : H1 s1.heap.objs.size = none := I1.hok.fresh (Nat.le_refl _)
  exact ⟨.ref s1.heap.objs.size, upd H1 s1.heap.objs.size (.frz _ (.tup xs)), I1.laid (t' := s1.toks) (fun b u e => Heap.get?_push_of_some _ e) (Nat.le_refl _) ⟨Heap.get?_push_size _ rfl, z, us, r, ⟨_, Heap.get?_push_size _ rfl, rfl, _, rfl⟩⟩, rfl, q _ _ fresh ⟨_, _, _, rfl⟩⟩
/-- tuple(a list) -/
def rTupF (K : PySem.W.Frag) : List V → Hp → VK → Prop := fun xs H Q => ∃ p ys, xs = [V.ref p] ∧ SqL K H p ys ∧ ∀ l o, H l = none → PlainT o → Q (.ref l) (upd H l (.frz o (.tup ys)))
theorem cr_tupleF : CallR X (.type "tuple") (rTupF X.K) := by
  intro pins s σ H xs us Q I r h
  obtain ⟨p, ys, rfl, hq, q⟩ := h
  rw [Vals.ref1 r]
  obtain ⟨its, r', pl, hz⟩ := I.list hq
  have hlen := r'.length
  refine call_tuple_list pl.isList (fun h' kp => ?_) (by simp only [List.size_toArray] <;> omega)
  have I1 : Inv X pins σ H { s with heap := h' } := I.kept (t' := s.toks) kp
  exact ⟨.ref h'.objs.size, upd H h'.objs.size (.frz { cls := .type "tuple", data := .seq its.toArray } (.tup ys)), I1.laid (t' := s.toks) (fun b o e => Heap.get?_push_of_some _ e) (Nat.le_refl _) ⟨Heap.get?_push_size _ rfl, hz, its, r', IsTup.new _ _⟩, rfl, q _ _ (I1.hok.fresh (Nat.le_refl _)) ⟨_, _, _, rfl⟩⟩
end
end Fh

set_option Elab.async false
set_option linter.all false
set_option maxRecDepth 100000
set_option maxHeartbeats 4000000
namespace Fh
open PySem PySem.Spec PyProof.Rows L2
abbrev TKd (P : Program) (w : World) (h : Heap) (k : List Key) (x : Addr) : Prop := IsTupleKey (mixKind P w) h k x
/-! ### a dict of ints and texts asked for a tuple: it has none -/
section
variable {P : Program} {w : World} {A : Around} {E : Value → Shared → Prop} {s : Shared}
def PlainK (v : Value) : Prop := (∃ i t, v = Value.int i t) ∨ ∃ x t, v = Value.str x t
theorem PlainK.quiet {v : Value} (h : PlainK v) : eqIsQuiet 8 v = pure true := by
  rcases h with ⟨i, t, rfl⟩ | ⟨x, t, rfl⟩ <;> rfl
theorem PlainK.noref {v : Value} {b : Addr} (h : PlainK v) : (v == Value.ref b) = false := by
  rcases h with ⟨i, t, rfl⟩ | ⟨x, t, rfl⟩ <;> rfl
theorem IsTupleKey.tup {k : List Key} {b : Addr} (h : TKd P w s.heap k b) : ∃ its, s.heap.IsTuple b its := by
  obtain ⟨o, its, n, ho, hc, hd, _⟩ := h
  exact ⟨its, o, ho, hc, n, hd⟩
theorem unlike_tup {k : List Key} {v : Value} {b : Addr} {Q : Bool → Shared → Prop} (hu : A.units < cLine) (hv : PlainK v) (hb : TKd P w s.heap k b) (h : Q false s) : wpAny (model P w) A (eqBool v (.ref b)) Q E s := by
  obtain ⟨its, ht⟩ := IsTupleKey.tup hb
  rcases hv with ⟨i, t, rfl⟩ | ⟨x, t, rfl⟩
  · exact SeqAt.EqAt.int_tuple i t ht hu P w E Q h
  · exact SeqAt.EqAt.str_tuple x t ht hu P w E Q h
theorem tells_not {k : List Key} {b : Addr} {ys : List Value} {Q : Bool → Shared → Prop} (hb : TKd P w s.heap k b) (hy : ∀ y ∈ ys, PlainK y) (h : Q false s) : wpAny (model P w) A (tableMayTell (.ref b) ys) Q E s := by
  unfold tableMayTell
  split
  · exact wpAny_pure h
  · refine wpAny_bind (wpAny_eqIsQuiet_tuple hb ?_)
    simp only [Bool.not_true, Bool.false_eq_true, if_false]
    refine wpAny_bind (wpAny_forIn_list _ (fun rest r s' => r.1 = none ∧ s' = s ∧ ∀ y ∈ rest, PlainK y) _ ?_ ?_ _ _ ⟨rfl, rfl, hy⟩)
    · rintro y rest r s' ⟨_, rfl, all⟩
      rw [(all y List.mem_cons_self).quiet]
      refine wpAny_bind (wpAny_pure ?_)
      simp only [Bool.not_true, Bool.false_eq_true, if_false]
      exact wpAny_pure ⟨rfl, rfl, fun z hz => all z (List.mem_cons_of_mem _ hz)⟩
    · rintro ⟨r1, r2⟩ s' ⟨hr, rfl, _⟩
      cases r1 with
      | none => exact wpAny_pure h
      | some q => cases hr
theorem find_tup {d b : Addr} {o : Obj} {es : Array DictEntry} {ep : Nat} {k : List Key} {n : Int} {Q : Option Nat → Shared → Prop} (hu : A.units < cLine) (ho : s.heap.get? d = some o) (hd : o.data = .dict es ep) (hk : ∀ e ∈ es, PlainK e.key)
    (hb : TKd P w s.heap k b) (h : Q none s) : wpAny (model P w) A (dictFind d (.ref b) n) Q E s := by
  have any0 : ¬ (es.any fun e => e.key == Value.ref b && e.hash != n) = true := fun z => by
    rw [← Array.any_toList, List.any_eq_true] at z
    obtain ⟨e, he, z⟩ := z
    replace he := Array.mem_toList_iff.mp he
    rw [(hk e he).noref] at z
    cases z
  unfold dictFind
  refine wpAny_holding ?_
  refine wpAny_bind (wpAny_dictEntries ho hd ?_)
  dsimp only
  generalize hp : placesWithHash es.size (fun i => es[i]?.map (·.hash)) n = places
  have st : ∀ y ∈ places.filterMap (fun i => es[i]?.map (·.key)), PlainK y := fun y hy => by
    obtain ⟨i, _, hi⟩ := List.mem_filterMap.mp hy
    cases he : es[i]? with
    | none => rw [he] at hi; cases hi
    | some e =>
      rw [he] at hi
      cases hi
      exact hk e (Array.mem_of_getElem? he)
  generalize places.filterMap (fun i => es[i]?.map (·.key)) = stored at *
  have ns : ¬ (stored == [Value.ref b]) = true := fun z => by
    cases stored with
    | nil => cases z
    | cons y r =>
      have z2 : (y == Value.ref b && r == []) = true := z
      rw [(st y List.mem_cons_self).noref] at z2
      cases z2
  have nc : ¬ ((Value.ref b :: stored).all carriedByValue) = true := fun z => by
    rw [List.all_cons] at z
    cases z
  rw [if_neg nc, if_neg any0, if_neg ns]
  refine wpAny_bind (tells_not hb st ?_)
  simp only [Bool.false_and, Bool.false_eq_true, if_false]
  refine wpAny_bind (wpAny_forIn_list _ (fun rest r s' => s' = s ∧ r = (none, none)) _ ?_ ?_ _ _ ⟨rfl, rfl⟩)
  · rintro i rest r s' ⟨rfl, rfl⟩
    cases he : es[i]? with
    | none => exact wpAny_pure ⟨rfl, rfl⟩
    | some e =>
      dsimp only
      split
      · refine wpAny_bind (wpAny_dictEpoch ho hd ?_)
        refine wpAny_bind (unlike_tup hu (hk e (Array.mem_of_getElem? he)) hb ?_)
        refine wpAny_bind (wpAny_dictEpoch ho hd ?_)
        simp only [bne_self_eq_false, Bool.false_eq_true, if_false]
        refine wpAny_bind (wpAny_rule ?_)
        exact wpAny_pure ⟨rfl, rfl⟩
      · exact wpAny_pure ⟨rfl, rfl⟩
  · rintro ⟨r1, r2⟩ s' ⟨rfl, e⟩
    cases e
    exact wpAny_pure h
theorem plainKeys {h : Heap} {a : Addr} {vs : List (Key × Value)} (d : h.DictOf (mixKind P w) a vs) : ∃ o es ep, h.get? a = some o ∧ o.ExactDict ∧ o.data = .dict es ep ∧ ∀ e ∈ es, PlainK e.key := by
  obtain ⟨o, es, ep, ho, hx, hdt, hk, _⟩ := d
  refine ⟨o, es, ep, ho, hx, hdt, fun e he => ?_⟩
  obtain ⟨k, h1, _⟩ := hk e he
  rcases keyIs_shape h1 with ⟨i, t, _, e2⟩ | ⟨x, t, _, e2⟩
  · exact .inl ⟨i, t, e2⟩
  · exact .inr ⟨x, t, e2⟩
theorem meets_getTup {d b : Addr} (hs : (d == sysModules) = false) :
    MeetsIn P w (Builtin.«dict.get» ⟨[.ref d, .ref b], []⟩) (fun A R s => A.units + 1 < cLine ∧ ∃ k vs, TKd P w s.heap k b ∧ s.heap.DictOf (mixKind P w) d vs ∧ R (.ok (.ret .none)) { s with toks := s.toks + (k.length + 1) }) := by
  refine .of_wp fun A R s ⟨hu, k, vs, hb, hm, h⟩ => ?_
  obtain ⟨o, es, ep, ho, _, hdt, hk⟩ := plainKeys hm
  have got : wpAny (model P w) A.in1 (dictGet d (.ref b)) (fun r s' => r = none ∧ s' = { s with toks := s.toks + (k.length + 1) }) (fun _ _ => False) s := by
    unfold dictGet
    refine wpAny_holding ?_
    refine wpAny_bind ((tupleKind (mixKind P w)).pyHash (tupleKind_room_in1 hu) hb ?_)
    refine wpAny_bind (find_tup (show A.in1.units < cLine from hu) ho hdt hk hb ?_)
    exact wpAny_pure ⟨rfl, rfl⟩
  show wpAny _ _ (dictGet d (.ref b) >>= _) _ _ s
  refine wpAny_bind (wpAny_mono got (fun r s' h' => ?_) fun _ _ z => z.elim)
  obtain ⟨rfl, rfl⟩ := h'
  exact wpAny_bind (wpAny_missed_other hs (wpAny_pure ⟨.none, rfl, h⟩))
end
section
variable {X : Cx}
/-- d.get(y): y a key, or a tuple, which a dict of ints and texts never has -/
def rGetT (K : PySem.W.Frag) : V → List V → Hp → VK → Prop := fun x ys H Q => ∃ (a : Addr) (y : V), x = .ref a ∧ ys = [y] ∧
  ((∃ o, DGet H a y o ∧ Q (o.getD .non) H) ∨ ∃ (b : Addr) (k : List Key) (kvs : List (Key × V)), y = .ref b ∧ H b = some (.tup (k.map kV)) ∧ Rd H a (.dK kvs) ∧ Q .non H)
theorem mt_getT (hu : X.A.units + 1 < cLine) : MtR X "dict.get" (rGetT X.K) := by
  intro pins s σ H x xs v us Q I rx rv h
  obtain ⟨a, y, rfl, rfl, h⟩ := h
  cases rx
  obtain ⟨u, rfl, ru⟩ := rv.one
  rcases h with ⟨o, g, q⟩ | ⟨b, k, kvs, rfl, hb, hd, q⟩
  · exact d_get1 hu I g ru fun w' s' I' r' => ⟨_, H, I', r', q⟩
  · cases ru
    obtain ⟨_, hs, vs, _, dd⟩ := dk_rd I.hok hd
    exact call_meetsIn PySem.F.slot_dict_get dd.typeIs PySem.F.entry_dict_get (PySem.F.args_dict_get_2 _ _) (meets_getTup hs) ⟨hu, k, vs, key_of I.hok hb, dd, ⟨.non, H, I.tok _, rfl, q⟩⟩
end
end Fh

set_option Elab.async false
set_option linter.all false
set_option maxRecDepth 100000
set_option maxHeartbeats 4000000
namespace Fh
open PySem PySem.Spec PyProof.Rows L2
/-! ### name = {k: v for ..}, the name a local -/
section
variable {X : Cx}
/-- what is left to do when a comprehension's thing at L is stored to a local name -/
theorem stored_behind {pins : List (Addr × Obj)} {σ : L2.St} {H' : Hp} {s' : Shared} {D : Ends} {L C : Addr} {m : Str → Option Value} {i : Nat} {y : Str} {py : Pos} (hN : X.N.Nodup) (hy : X.N[i]? = some y) (hyl : X.env.scope.names.lookup y = some .local)
    (J : Inv X pins σ H' s') (hn : s'.heap.Ns C m) (fp : FpOk X pins H' C) (hq : D.nx (σ.set i (some (.ref L))) H') :
    compPost (model X.prog X.w) X.A X.xe (some (assign (.Name y py) X.env)) (fun _ t => SP X pins D .next t) (.ref L) C (.ok .next) s' := by
  have ⟨g0, g1, g2, g3, g4, g5⟩ := fp
  have go : wpAny (model X.prog X.w) X.A (assign (.Name y py) X.env (.ref L)) (fun _ t => compPost (model X.prog X.w) X.A X.xe none (fun _ u => SP X pins D .next u) (.ref L) C (.ok .next) t) X.xe s' := by
    refine wpAny_assign_Name (store_ok2 (v := V.ref L) J hN hy (.inl hyl) rfl (fun t K2 hb => ?_) (.inr hyl))
    have ⟨b, sb, hb⟩ := hb
    have apart : C ≠ b := hb.elim (fun z => z ▸ g1) fun z e => g4 y b z e.symm
    exact ⟨m, hn.sameBut sb apart, fun h3 sb3 => ⟨_, H', K2.turned (t' := t.toks) (fun c o hc e => (sb3.2 c hc).trans e) g0 g1 g3 g4 g5, hq⟩⟩
  exact go
theorem ps_setDc {i : Nat} {y : Str} {py : Pos} {kx vx tg iter : Expr} {ifs : List Expr} {scope : Scope} {own : List (Str × Nat)} {pos spos : Pos} {wi : TI} {g : TG} {tt : TT} {tk tv : TE} (hc : X.calm = true) (hN : X.N.Nodup) (hy : X.N[i]? = some y) (hyl : X.env.scope.names.lookup y = some .local)
    (hsw : swapsWith (.DictComp kx vx [⟨tg, iter, ifs, 0⟩] scope pos) (some (.Name y py)) spos.line X.env = pure true) (hi : PI X tg iter wi) (ok : BlkOk X.N X.env.scope scope own)
    (hg : ∀ s H C cl fp, PG (X.blk s H scope (compEnvC scope cl C X.env) fp) tg g) (ht : ∀ s H C cl fp, PTs (X.blk s H scope (compEnvC scope cl C X.env) fp) ifs tt)
    (hk : ∀ s H C cl fp, PE (X.blk s H scope (compEnvC scope cl C X.env) fp) kx tk) (he : ∀ s H C cl fp, PE (X.blk s H scope (compEnvC scope cl C X.env) fp) vx tv) (hs : ∀ x, foldedSetIterable iter X.env x = pure x := by intro _; rfl) :
    PS X (.Assign [.Name y py] (.DictComp kx vx [⟨tg, iter, ifs, 0⟩] scope pos) spos) (tAsg (tDc wi g tt tk tv (own.map (·.2))) (gName i)) := by
  refine ⟨fun pins s σ H D I want => ?_⟩
  have want' : tDc wi g tt tk tv (own.map (·.2)) σ H (fun x H1 => gName i x σ H1 D.nx) := want
  rw [exec_Assign_Name_used _ _ _ _ hsw]
  refine wpAny_bind (wpAny_standAt (wpAny_bind ?_))
  have run := dc_core (pos := pos) (pos' := firstIterPos [⟨tg, iter, ifs, 0⟩] pos) (use := some (assign (.Name y py) X.env)) (Qf := fun _ t => SP X pins D .next t) hc hN I hi ok hg ht hk he hs want' fun L C s' m H' J q hn fp => stored_behind hN hy hyl J hn fp q
  exact wpAny_bind (thn run fun _ t hq => wpAny_pure (wpAny_pure hq))
theorem sw_dict {kx vx : Expr} {gs : List Comprehension} {scope : Scope} {pos py : Pos} {y : Str} {l : Nat} {env : Env} (hk : env.scope.kind = .function) (hy : env.scope.names.lookup y = some .local) (hl : (py.line == pos.line) = true)
    (ha : (scope.names.any fun (n, k) => n == y && (k == .local || k == .cell)) = false) : swapsWith (.DictComp kx vx gs scope pos) (some (.Name y py)) l env = pure true := by
  have e1 : env.blockKind = .function := by unfold Env.blockKind; rw [hk]; rfl
  have e2 : env.kindOf y = some .local := hy
  unfold swapsWith
  simp only [e1, e2, ha, Expr.pos, hl]
  rfl
end
end Fh

set_option Elab.async false
set_option linter.all false
set_option maxRecDepth 100000
set_option maxHeartbeats 4000000
namespace Fh
open PySem L2 PyProof.Rows
/-! ### a def that is called by its name -/
structure Has (P : Program) (w : World) (K : PySem.W.Frag) (mg : Str → Option Value) (base : Heap) (x : Str) (k : Nat) (ps : List Str) (sp : Sp) : Prop where
  ex : ∃ (f : Addr) (fd : FuncData), mg x = some (.ref f) ∧ PySem.W.keepIn K (.ref f) = true ∧ Binds K fd ps [] ∧ FnOk P w K mg base CX0 k f fd ps sp
theorem pe_has {X : Cx} {k : Nat} {x : Str} {ps : List Str} {sp : Sp} {e : Expr} {es : List Expr} {t : TA} {p pos : Pos} (D : Has X.prog X.w X.K X.mg X.base x k ps sp) (hr : Room k X.A) (hg : Gl X x)
    (ha : PA X (e :: es) t) (hdb : (x == ("__debug__" : Str)) = false := by decide) (he : starEach (e :: es) X.env = (false, eval e X.env) :: starEach es X.env := by rfl) (hpl : (backTo pos (starEach es X.env)).any (·.1) = false := by rfl) :
    PE X (.Call (.Name x p) (e :: es) [] pos) (tCall sp [] E0 t) := by
  obtain ⟨f, fd, hm, hk, hb, F⟩ := D.ex
  exact pe_call F hr hg hm hk hb .nil pass0 ha hdb he hpl
theorem iteT_elim {A B : Prop} (h : if true = true then A else B) : A := by rw [if_pos rfl] at h; exact h
theorem iteF_elim {A B : Prop} (h : if false = true then A else B) : B := by rw [if_neg Bool.false_ne_true] at h; exact h
theorem yes {σ : L2.St} {H : Hp} {Q : Bool → Hp → Prop} (h : Q true H) : tYes σ H Q := h
theorem b01 {i : Int} {k : Bool} : CMul i (if k = true then 1 else 0) := by cases k <;> exact .inr ⟨by decide, by decide⟩
/-! ### names -/
def Lt (c : Nat) : Prop := 97 ≤ c ∧ c ≤ 122
structure Nm (z : Str) : Prop where
  lo : 1 ≤ z.length
  hi : z.length ≤ 8
  sg : ∀ c ∈ z.cps.toList, Lt c
def one (c : Nat) : Str := ⟨#[c]⟩
theorem tl_ones : ∀ cs : List Nat, ∀ a : Str, a.cps.toList = [] → (Str.join a (cs.map one)).cps.toList = cs
  | [], _, _ => rfl
  | [c], _, _ => rfl
  | c :: d :: r, a, ha => by
    show (one c ++ a ++ Str.join a ((d :: r).map one)).cps.toList = _
    have e := tl_ones (d :: r) a ha
    show ((one c).cps ++ a.cps ++ (Str.join a ((d :: r).map one)).cps).toList = _
    rw [Array.toList_append, Array.toList_append, e, ha]
    rfl
theorem join_nm {cs : List Nat} (h1 : 1 ≤ cs.length) (h2 : cs.length ≤ 8) (h3 : ∀ c ∈ cs, Lt c) : Nm (Txt.join "" (cs.map one)) := by
  have e : (Txt.join "" (cs.map one)).cps.toList = cs := by
    show (Builtin.Str.glued "" (cs.map one)).cps.toList = cs
    rw [StrLaws.glued_eq_join]
    exact tl_ones cs _ rfl
  have l : (Txt.join "" (cs.map one)).length = cs.length := by
    show (Txt.join "" (cs.map one)).cps.size = _
    rw [← Array.length_toList, e]
  exact ⟨by rw [l]; exact h1, by rw [l]; exact h2, by rw [e]; exact h3⟩
theorem len_ones : ∀ cs : List Nat, ((cs.map one).map (·.length)).sum = cs.length
  | [] => rfl
  | c :: r => by
    show (one c).length + ((r.map one).map (·.length)).sum = r.length + 1
    rw [len_ones r]
    show 1 + _ = _
    omega
abbrev abc : Str := "abcdefghijklmnopqrstuvwxyz"
theorem abc_codes : abc.cps.toList = [97, 98, 99, 100, 101, 102, 103, 104, 105, 106, 107, 108, 109, 110, 111, 112, 113, 114, 115, 116, 117, 118, 119, 120, 121, 122] := by decide +kernel
theorem abc_at {i : Int} (h0 : 0 ≤ i) (h1 : i < 26) : ∃ c, atI abc.cps.toList i = some c ∧ Lt c := by
  have hl : abc.cps.toList.length = 26 := by rw [abc_codes]; rfl
  obtain ⟨v, e, _, hm⟩ := atI_in (xs := abc.cps.toList) h0 (by rw [hl]; exact h1)
  refine ⟨v, e, ?_⟩
  rw [abc_codes] at hm
  revert hm
  unfold Lt
  simp only [List.mem_cons, List.not_mem_nil, or_false]
  omega
def spName : Sp := fun vs H Q _ => ∃ (b : Addr) (n : Nat), vs = [.ref b] ∧ Bag H b n ∧ n + 10 ≤ most ∧
  ∀ (z : Str) (H' : Hp), Nm z → Kp b H H' → Bag H' b (n + 10) → Q (.str z) H'
abbrev sName : Stmt := top 78
section
variable {P : Program} {w : World} {K : PySem.W.Frag} {mg : Str → Option Value} {base : Heap}
theorem ok_bag {f : Addr} {fd : FuncData} (F : Fun K "_law_bag" "_law_bag" sBag f fd) (G : Glb mg) : FnOk P w K mg base CX0 1 f fd ["_law_script", "_law_at"] (spBag K) := by
  refine F.ok scBag (fun vs H Q E h => ?_) (fun cdv A outer s H vs Q E hr h => ?_)
  · obtain ⟨a, ns, i, rfl, _⟩ := h
    rfl
  · obtain ⟨a, ns, i, rfl, hS, i0, i1, k⟩ := h
    refine ⟨_, pss_cons (ps_set (i := 2) scBag.nd rfl (Or.inl rfl) (pe_op op_add (pe_op op_add (pe_op op_mul (pe_op op_mul pe_int (pv 1)) (pv 1)) (pe_op op_mul pe_int (pv 1))) pe_int))
      (C8.pss_cut (ps_if (pt_cmpR op_lt (pv 1) (pe_callB call_len_seq (by rfl) G.len PySem.boot_len (pa_cons (pv 0) pa_nil)) (nomark _)) (pss_one (ps_set (i := 2) scBag.nd rfl (Or.inl rfl) (pe_ix ix_list (pv 0) (pv 1) (fun _ _ => rfl)))) pss_nil)
      (pss_cons (ps_set (i := 3) scBag.nd rfl (Or.inl rfl) (pe_callB call_abs (by rfl) G.abs (by decide +kernel) (pa_cons (pv 2) pa_nil)))
      (pss_one (ps_ret (pe_lst (pa_cons (pe_op op_mul (pv 3) (pe_callTy call_int1 (by rfl) G.int (by decide +kernel) (pa_cons (pe_cmpR op_ge (pv 3) (pe_op op_pow pe_int pe_int) (nomark _)) pa_nil)))
        (pa_cons (pe_op op_add (pe_op op_mod (pv 2) (pe_op op_add (pe_op op_pow pe_int pe_int) pe_int)) (pe_op op_mul pe_int (pv 1))) (pa_cons pe_int pa_nil)))))))), ?_⟩
    refine ⟨_, rfl, _, _, rfl, rfl, .inl ⟨by decide, by decide⟩, _, rfl, _, _, rfl, rfl, .inr ⟨by omega, by omega⟩, _, rfl, _, _, rfl, rfl, .inl ⟨by decide, by decide⟩, _, _, rfl, rfl, _, _, rfl, rfl, ?_⟩
    refine ⟨fun σ H' => H' = H ∧ ∃ c : Int, σ = [some (.ref a), some (.int i), some (.int c), none], ?_, ?_⟩
    · refine ⟨_, rfl, _, rfl, a, _, rfl, .inl hS, _, _, rfl, rfl, _, rfl, ?_⟩
      refine ite2 (fun h => ?_) (fun _ => ?_)
      · have hlt : i < ((ns.map V.int).length : Int) := of_decide_eq_true h
        obtain ⟨v, e1, _, hm⟩ := atI_in (xs := ns.map V.int) i0 hlt
        obtain ⟨c, _, rfl⟩ := List.mem_map.mp hm
        exact ⟨_, rfl, _, rfl, a, _, _, _, rfl, rfl, hS, e1, rfl, c, rfl⟩
      · exact ⟨rfl, _, rfl⟩
    · rintro σ H' ⟨rfl, c, rfl⟩
      refine ⟨_, rfl, _, rfl, ?_⟩
      have e18 : (10 : Int) ^ (18 : Int).toNat = 1000000000000000000 := by decide
      have p18 : CPow 10 18 := ⟨by decide, by decide, by decide⟩
      refine ⟨_, rfl, _, rfl, _, _, rfl, rfl, p18, _, _, rfl, rfl, .inr ⟨_, rfl, _, _, rfl, rfl, b01, ?_⟩⟩
      refine ⟨_, rfl, _, _, rfl, rfl, p18, _, _, rfl, rfl, _, _, rfl, rfl, (by show (0 : Int) < 10 ^ (18 : Int).toNat + 9; rw [e18]; decide), _, rfl, _, _, rfl, rfl, .inl ⟨by decide, by decide⟩, _, _, rfl, rfl, ?_⟩
      refine ⟨(by show 3 ≤ sizeLine; decide), fun p hp => ?_⟩
      have m0 : 0 ≤ c % (10 ^ (18 : Int).toNat + 9) := Int.emod_nonneg _ (by rw [e18]; decide)
      have m1 : c % (10 ^ (18 : Int).toNat + 9) < 10 ^ (18 : Int).toNat + 9 := Int.emod_lt_of_pos _ (by rw [e18]; decide)
      rw [e18] at m0 m1
      refine k p _ (fun b o eb => by rw [upd_ne (ne_of_none eb hp)]; exact eb) hp ⟨_, _, 0, upd_same, ?_, ?_, by omega, by omega⟩
      · rw [e18]; omega
      · rw [e18]; omega
theorem scName : FnScope ["_law_bag_here", "_law_letters", "_law_size", "_law_spot"] ["_law_bag_here"] (defScope sName) := ⟨rfl, rfl, rfl, by decide +kernel, rfl, by decide +kernel, by decide +kernel⟩
theorem ok_name {f : Addr} {fd : FuncData} (F : Fun K "_law_drawn_name" "_law_drawn_name" sName f fd) (G : Glb mg) (DT : Has P w K mg base "_law_take" 1 ["_law_bag_here", "_law_size"] spTake) : FnOk P w K mg base CX0 2 f fd ["_law_bag_here"] spName := by
  refine F.ok scName (fun vs H Q E h => ?_) (fun cdv A outer s H vs Q E hr h => ?_)
  · obtain ⟨b, n, rfl, _⟩ := h
    rfl
  · obtain ⟨b, n, rfl, hB, hn, k⟩ := h
    have hn' : n + 10 ≤ 1000000 := hn
    refine ⟨_, pss_cons (ps_set (i := 1) scName.nd rfl (Or.inr rfl) pe_str)
      (pss_cons (ps_set (i := 2) scName.nd rfl (Or.inl rfl) (pe_op op_add pe_int (pe_has DT hr rfl (pa_cons (pv 0) (pa_cons (pe_mid (pe_ix ix_list (pe_lst (pa_cons pe_int (pa_cons pe_int pa_nil)))
          (pe_callTy call_int1 (by rfl) G.int (by decide +kernel) (pa_cons (pe_cmpR op_eq (pe_has DT hr rfl (pa_cons (pv 0) (pa_cons pe_int pa_nil))) pe_int (nomark _)) pa_nil)) (fun _ _ => rfl))) pa_nil)))))
      (pss_one (ps_ret (pe_join pe_str (pe_lc (own := [("_law_spot", 3)]) (g := gName 3) (tt := tYes) rfl scName.nd (pi_range1 rfl G.range (pa_cons (pv 2) pa_nil)) (blkOk_by (N := ["_law_bag_here", "_law_letters", "_law_size", "_law_spot"]) (sc := defScope sName) (by decide +kernel))
        (fun _ _ _ _ _ => pg_name (i := 3) scName.nd rfl (Or.inl rfl)) (fun _ _ _ _ _ => pts_nil)
        (fun _ _ _ _ _ => pe_ix ix_str (pv 1) (pe_has DT hr rfl (pa_cons (pv 0) (pa_cons pe_int pa_nil))) (fun _ _ => rfl))))))), ?_⟩
    refine ⟨_, rfl, fun v H1 => ∃ m : Int, v = .int m ∧ (m = 2 ∨ m = 8) ∧ Kp b H H1 ∧ Bag H1 b (n + 1), ?_, ?_⟩
    · refine ⟨by decide, fun p hp => ?_⟩
      refine ⟨_, rfl, b, 4, n, rfl, by decide, by decide, hB.new hp, by show n ≤ 1000000; omega, fun d H1 d0 d1 K1 B1 => ?_⟩
      have npb : p ≠ b := fun e => by
        obtain ⟨o, ho⟩ := hB.at
        rw [e, ho] at hp
        cases hp
      have hp1 : H1 p = some (.lst [.int 2, .int 8]) := K1 p _ npb upd_same
      refine ⟨rfl, .inr ⟨_, rfl, ?_⟩⟩
      have kp0 : Kp b H H1 := (Kp.refl.new hp).trans K1
      cases decide (V.int d = V.int 0) with
      | true => exact ⟨p, _, _, _, rfl, rfl, SqL.of hp1, rfl, 8, rfl, .inr rfl, kp0, B1⟩
      | false => exact ⟨p, _, _, _, rfl, rfl, SqL.of hp1, rfl, 2, rfl, .inl rfl, kp0, B1⟩
    · rintro v H1 ⟨m, rfl, hm, K1, B1⟩
      refine ⟨b, m, n + 1, rfl, by omega, by omega, B1, by show n + 1 ≤ 1000000; omega, fun d H2 d0 d1 K2 B2 => ?_⟩
      refine ⟨_, _, rfl, rfl, ?_⟩
      have hd9 : 1 + d ≤ 8 := by omega
      have hd0 : (1 + d).toNat = (1 + d) := by omega
      refine ⟨⟨_, rfl⟩, _, rfl, 1 + d, rfl, by omega, by omega, fun D hD => ?_⟩
      refine lc_range (lo := 0) (n := (1 + d).toNat) (fun i H3 => Kp b H H3 ∧ Bag H3 b (n + 2 + i) ∧ D ≠ b ∧ ∃ cs : List Nat, H3 D = some (.lst ((cs.map one).map V.str)) ∧ cs.length = i ∧ ∀ c ∈ cs, Lt c) ?_ ?_ ?_
      · have nDb : D ≠ b := fun e => by
          obtain ⟨o, ho⟩ := B2.at
          rw [e, ho] at hD
          cases hD
        exact ⟨(K1.trans K2).new hD, B2.new hD, nDb, [], upd_same, rfl, fun c h => nomatch h⟩
      · rintro i H3 hi ⟨K3, B3, nDb, cs, hD3, hl, hc⟩
        refine ⟨rfl, ?_⟩
        refine yes (iteT ?_)
        refine ⟨_, rfl, _, rfl, b, 26, n + 2 + i, rfl, by decide, by decide, B3, by show n + 2 + i ≤ 1000000; omega, fun e H4 e0 e1 K4 B4 => ?_⟩
        obtain ⟨c, hce, hcl⟩ := abc_at e0 e1
        refine ⟨_, _, c, rfl, rfl, by decide +kernel, hce, ?_⟩
        have hD4 := K4 D _ nDb hD3
        have h8 : (1 + d).toNat ≤ 8 := by omega
        have hsz : ((cs.map one).map V.str).length < sizeLine := by
          rw [List.length_map, List.length_map, hl]
          exact Nat.lt_of_lt_of_le hi (Nat.le_trans h8 (by decide))
        refine ⟨_, hD4, hsz, ?_⟩
        refine ⟨(K3.trans K4).wr ?_, B4.ne nDb, nDb, cs ++ [c], ?_, by rw [List.length_append, hl]; rfl, ?_⟩
        · exact (K1.trans K2).free B2.at hD
        · rw [upd_same, List.map_append, List.map_append]; rfl
        · intro c' hc'
          rcases List.mem_append.mp hc' with h | h
          · exact hc c' h
          · rw [List.mem_singleton.mp h]; exact hcl
      · rintro H3 ⟨K3, B3, nDb, cs, hD3, hl, hc⟩
        refine ⟨_, _, _, rfl, rfl, .inl (SqL.of hD3), ?_, ?_⟩
        · rw [len_ones, List.length_map, hl]
          have : (1 + d).toNat ≤ 8 := by omega
          show _ + _ * 0 ≤ _
          omega
        · exact k _ _ (join_nm (by omega) (by omega) hc) K3 (B3.mono (by omega))
end
end Fh

set_option Elab.async false
set_option linter.all false
set_option maxRecDepth 100000
set_option maxHeartbeats 4000000
namespace Fh
open PySem L2 PyProof.Rows
/-! ### lists of texts -/
theorem flat_strs (zs : List Str) : (zs.map V.str).all flatV = true := by
  rw [List.all_eq_true]
  intro x hx
  obtain ⟨z, _, rfl⟩ := List.mem_map.mp hx
  rfl
theorem in_strs (z : Str) (zs : List Str) : inV (.str z) (zs.map V.str) = decide (z ∈ zs) := by
  unfold inV
  induction zs with
  | nil => rfl
  | cons a r ih =>
    rw [List.map_cons, List.any_cons, ih]
    show ((a == z) || decide (z ∈ r)) = decide (z ∈ a :: r)
    by_cases h : a = z
    · subst h; simp
    · have h' : ¬ z = a := fun e => h e.symm
      simp [h, h']
theorem strs_ne_bag {H : Hp} {l b : Addr} {n : Nat} {zs : List Str} (hl : H l = some (.lst (zs.map V.str))) (hb : Bag H b n) : l ≠ b := by
  rintro rfl
  obtain ⟨x, y, z, e, _⟩ := hb
  rw [hl] at e
  cases zs with
  | nil => cases e
  | cons a r => cases e
theorem new_ne {H : Hp} {p b : Addr} {n : Nat} (hp : H p = none) (hb : Bag H b n) : p ≠ b := by
  rintro rfl
  obtain ⟨x, y, z, e, _⟩ := hb
  rw [hp] at e
  cases e
theorem sub_len {α : Type} [DecidableEq α] : ∀ (l u : List α), l.Nodup → (∀ x ∈ l, x ∈ u) → l.length ≤ u.length
  | [], _, _, _ => Nat.zero_le _
  | x :: r, u, hn, hs => by
    have hx : x ∈ u := hs x List.mem_cons_self
    obtain ⟨h1, h2⟩ := List.nodup_cons.mp hn
    have q := sub_len r (u.erase x) h2 fun y hy => (List.mem_erase_of_ne (fun (e : y = x) => h1 (e ▸ hy))).mpr (hs y (List.mem_cons_of_mem _ hy))
    rw [List.length_erase_of_mem hx] at q
    have := List.length_pos_of_mem hx
    simp only [List.length_cons]
    omega
theorem one_app_inj {c d : Nat} {t : Str} (h : one c ++ t = one d ++ t) : c = d := by
  have e : (one c ++ t).cps = (one d ++ t).cps := by rw [h]
  have e2 : ((one c).cps ++ t.cps).toList = ((one d).cps ++ t.cps).toList := by
    show (one c ++ t).cps.toList = _
    rw [e]
    rfl
  rw [Array.toList_append, Array.toList_append] at e2
  exact (List.cons.inj e2).1
def abcL : List Nat := [97, 98, 99, 100, 101, 102, 103, 104, 105, 106, 107, 108, 109, 110, 111, 112, 113, 114, 115, 116, 117, 118, 119, 120, 121, 122]
theorem abc_sz : abc.cps.size = 26 := by decide +kernel
theorem abcL_nodup : abcL.Nodup := by decide
theorem abcL_lt : ∀ c ∈ abcL, Lt c := by unfold Lt; decide
theorem fresh_tail (t : Str) (u : List Str) (hu : u.length < 26) : ∃ z ∈ abcL.map (fun c => one c ++ t), z ∉ u := by
  apply Classical.byContradiction
  intro h
  have hs : ∀ z ∈ abcL.map (fun c => one c ++ t), z ∈ u := fun z hz => Classical.byContradiction fun hn => h ⟨z, hz, hn⟩
  have hn : (abcL.map (fun c => one c ++ t)).Nodup := by
    refine List.Pairwise.map _ (fun c d hcd e => ?_) abcL_nodup
    exact hcd (one_app_inj e)
  have q := sub_len _ u hn hs
  rw [List.length_map] at q
  have : abcL.length = 26 := rfl
  omega
def tail7 (z : Str) : Str := cutS z (some 1) (some 7)
theorem tail7_nm {z : Str} (h : Nm z) : (tail7 z).length ≤ 6 ∧ ∀ c ∈ (tail7 z).cps.toList, Lt c := by
  have e : (tail7 z).cps.toList = (z.cps.toList.drop (HT.sIx z.length 0 (some 1))).take (HT.sIx z.length z.length (some 7) - HT.sIx z.length 0 (some 1)) := rfl
  have e1 : HT.sIx z.length 0 (some 1) = 1 := by
    have := HT.sIx_nat z.length 0 1
    rw [show ((1 : Nat) : Int) = 1 from rfl] at this
    rw [this]
    have := h.lo
    omega
  have e7 : HT.sIx z.length z.length (some 7) ≤ 7 := by
    have := HT.sIx_nat z.length z.length 7
    rw [show ((7 : Nat) : Int) = 7 from rfl] at this
    rw [this]
    omega
  refine ⟨?_, fun c hc => ?_⟩
  · show (tail7 z).cps.size ≤ 6
    rw [← Array.length_toList, e, List.length_take, e1]
    omega
  · rw [e] at hc
    exact h.sg c (List.mem_of_mem_drop (List.mem_of_mem_take hc))
theorem app_codes (a b : Str) : (a ++ b).cps.toList = a.cps.toList ++ b.cps.toList := by
  show (a.cps ++ b.cps).toList = _
  rw [Array.toList_append]
theorem app_len (a b : Str) : (a ++ b).length = a.length + b.length := by
  show (a.cps ++ b.cps).size = _
  rw [Array.size_append]
  rfl
theorem tails_nm {z t : Str} (h : Nm z) (ht : t ∈ abcL.map (fun c => one c ++ tail7 z) ++ abcL.map (fun c => (one c ++ "x") ++ tail7 z)) : Nm t := by
  obtain ⟨hl, hs⟩ := tail7_nm h
  have hone : ∀ c, (one c).length = 1 := fun _ => rfl
  have hx : ("x" : Str).length = 1 := by decide +kernel
  have hxc : ("x" : Str).cps.toList = [120] := by decide +kernel
  rcases List.mem_append.mp ht with h' | h'
  · obtain ⟨c, hc, rfl⟩ := List.mem_map.mp h'
    refine ⟨by rw [app_len, hone]; omega, by rw [app_len, hone]; omega, fun d hd => ?_⟩
    rw [app_codes] at hd
    rcases List.mem_append.mp hd with hd | hd
    · rw [List.mem_singleton.mp hd]; exact abcL_lt c hc
    · exact hs d hd
  · obtain ⟨c, hc, rfl⟩ := List.mem_map.mp h'
    refine ⟨by rw [app_len, app_len, hone]; omega, by rw [app_len, app_len, hone, hx]; omega, fun d hd => ?_⟩
    rw [app_codes, app_codes, hxc] at hd
    rcases List.mem_append.mp hd with hd | hd
    · rcases List.mem_append.mp hd with hd | hd
      · rw [List.mem_singleton.mp hd]; exact abcL_lt c hc
      · rw [List.mem_singleton.mp hd]; exact ⟨by decide, by decide⟩
    · exact hs d hd
/-! ### comprehensions that only read -/
theorem put_next {H1 : Hp} {D : Addr} {ys : List V} {i : Nat} {y : V} (h : ys[i]? = some y) : upd (upd H1 D (.lst (ys.take i))) D (.lst (ys.take i ++ [y])) = upd H1 D (.lst (ys.take (i + 1))) := by
  rw [upd_upd, List.take_succ, h]
  rfl
theorem take_sz {ys : List V} {i n : Nat} (hn : ys.length ≤ n) (hl : n < sizeLine) : (ys.take i).length < sizeLine := by
  rw [List.length_take]
  omega
theorem abcL_at {i : Nat} {c : Nat} (h : abc.cps[i]? = some c) : abcL[i]? = some c := by
  have e : abc.cps = abcL.toArray := by decide +kernel
  rw [e] at h
  simpa using h
def spUnlikeN : Sp := fun vs H Q _ => ∃ (b t : Addr) (size : Int) (tk : List Str) (n : Nat), vs = [.ref b, .int size, .ref t] ∧ Bag H b n ∧ 0 ≤ size ∧ size ≤ 12 ∧ H t = some (.lst (tk.map V.str)) ∧ tk.length ≤ 12 ∧ n + 200 ≤ most ∧
  ∀ (p : Addr) (zs : List Str) (H' : Hp), H p = none → H' p = some (.lst (zs.map V.str)) → (zs.length : Int) = size → zs.Nodup → (∀ z ∈ zs, Nm z ∧ z ∉ tk) → Kp b H H' → Bag H' b (n + 120) → Q (.ref p) H'
abbrev sUnlikeN : Stmt := top 79
abbrev nUnlikeN : List Str := ["_law_bag_here", "_law_size", "_law_taken", "_law_found", "_law_spot", "_law_word", "_law_used", "_law_tails", "_law_one"]
section
variable {P : Program} {w : World} {K : PySem.W.Frag} {mg : Str → Option Value} {base : Heap}
theorem scUnlikeN : FnScope nUnlikeN ["_law_bag_here", "_law_size", "_law_taken"] (defScope sUnlikeN) := ⟨rfl, rfl, rfl, by decide +kernel, rfl, by decide +kernel, by decide +kernel⟩
theorem ok_unlikeN {f : Addr} {fd : FuncData} (F : Fun K "_law_unlike_names" "_law_unlike_names" sUnlikeN f fd) (G : Glb mg) (DN : Has P w K mg base "_law_drawn_name" 2 ["_law_bag_here"] spName) : FnOk P w K mg base CX0 3 f fd ["_law_bag_here", "_law_size", "_law_taken"] spUnlikeN := by
  refine F.ok scUnlikeN (fun vs H Q E h => ?_) (fun cdv A outer s H vs Q E hr h => ?_)
  · obtain ⟨b, t, size, tk, n, rfl, _⟩ := h
    rfl
  · obtain ⟨b, t, size, tk, n, rfl, hB, s0, s1, ht, htl, hn, k⟩ := h
    have hn' : n + 200 ≤ 1000000 := hn
    have ntb : t ≠ b := strs_ne_bag ht hB
    refine ⟨_, pss_cons (ps_set (i := 3) scUnlikeN.nd rfl (Or.inl rfl) (pe_lst pa_nil))
      (pss_cons (ps_for PassesOwn.never rfl (pi_range1 rfl G.range (pa_cons (pv 1) pa_nil)) (pg_name (i := 4) scUnlikeN.nd rfl (Or.inl rfl))
        (pss_cons (ps_set (i := 5) scUnlikeN.nd rfl (Or.inr rfl) (pe_has DN hr rfl (pa_cons (pv 0) pa_nil)))
        (pss_cons (ps_set (i := 6) scUnlikeN.nd rfl (Or.inr rfl) (pe_op op_cat (pv 3) (pe_callTy call_list_of (by rfl) G.list (by decide +kernel) (pa_cons (pv 2) pa_nil))))
        (C8.pss_cut (ps_if (pt_cmpR op_in_seq (pv 5) (pv 6) rfl)
          (pss_cons (ps_setLc (i := 7) (own := [("_law_one", 8)]) (g := gName 8) (tt := tYes) rfl scUnlikeN.nd rfl rfl (sw_true rfl rfl rfl (by decide +kernel)) (pi_str pe_str) (blkOk_by (N := nUnlikeN) (sc := defScope sUnlikeN) (by decide +kernel))
            (fun _ _ _ _ _ => pg_name (i := 8) scUnlikeN.nd rfl (Or.inl rfl)) (fun _ _ _ _ _ => pts_nil)
            (fun _ _ _ _ _ => pe_op op_add_str (pv 8) (pe_slice sl_str (pv 5) (po_some pe_int) (po_some pe_int))))
          (pss_cons (ps_set (i := 7) scUnlikeN.nd rfl (Or.inl rfl) (pe_op op_cat (pv 7) (pe_lc (own := [("_law_one", 8)]) (g := gName 8) (tt := tYes) rfl scUnlikeN.nd (pi_str pe_str) (blkOk_by (N := nUnlikeN) (sc := defScope sUnlikeN) (by decide +kernel))
            (fun _ _ _ _ _ => pg_name (i := 8) scUnlikeN.nd rfl (Or.inl rfl)) (fun _ _ _ _ _ => pts_nil)
            (fun _ _ _ _ _ => pe_op op_add_str (pe_op op_add_str (pv 8) pe_str) (pe_slice sl_str (pv 5) (po_some pe_int) (po_some pe_int))))))
          (pss_one (ps_set (i := 5) scUnlikeN.nd rfl (Or.inr rfl) (pe_ix ix_list (pe_lc (own := [("_law_one", 8)]) (g := gName 8) (tt := tTest (tOp (rIn K true) (tVar 8) (tVar 6))) rfl scUnlikeN.nd (pi_list (pv 7)) (blkOk_by (N := nUnlikeN) (sc := defScope sUnlikeN) (by decide +kernel))
            (fun _ _ _ _ _ => pg_name (i := 8) scUnlikeN.nd rfl (Or.inl rfl)) (fun _ _ _ _ _ => pts_one (pt_cmpR op_notIn_seq (pv 8) (pv 6) rfl))
            (fun _ _ _ _ _ => pv 8)) pe_int (fun _ _ => rfl))))))
          pss_nil)
        (pss_one (ps_expr (pe_bm PySem.F.plainAttrs_list PySem.F.slot_list_append PySem.F.type_list_append mt_append (pv 3) (pa_cons (pv 5) pa_nil))))))))
      (pss_one (ps_ret (pv 3)))), ?_⟩
    refine ⟨by decide, fun p hp => ?_⟩
    have npb : p ≠ b := new_ne hp hB
    refine ⟨_, rfl, size, rfl, by omega, by omega, ?_⟩
    refine for_range (lo := 0) (n := size.toNat) (fun i σ H3 => (∃ a4 a5 a6 a7 a8, σ = [some (.ref b), some (.int size), some (.ref t), some (.ref p), a4, a5, a6, a7, a8]) ∧ Kp b H H3 ∧ Bag H3 b (n + 10 * i) ∧ ∃ zs : List Str, H3 p = some (.lst (zs.map V.str)) ∧ zs.length = i ∧ zs.Nodup ∧ ∀ z ∈ zs, Nm z ∧ z ∉ tk) ?_ ?_ ?_
    · exact ⟨⟨_, _, _, _, _, rfl⟩, Kp.refl.new hp, hB.new hp, [], upd_same, rfl, List.nodup_nil, fun z h => nomatch h⟩
    · rintro i σ H3 hi ⟨⟨a4, a5, a6, a7, a8, rfl⟩, K3, B3, zs, hp3, hl, hnd, hz⟩
      have hB3 : n + 10 * i + 10 ≤ 1000000 := by omega
      have hi12 : i < 12 := by omega
      refine ⟨_, rfl, b, n + 10 * i, rfl, B3, hB3, fun z H4 z4 K4 B4 => ?_⟩
      have K4' : Kp b H H4 := K3.trans K4
      have ht4 : H4 t = some (.lst (tk.map V.str)) := K4' t _ ntb ht
      have hp4 : H4 p = some (.lst (zs.map V.str)) := K4 p _ npb hp3
      refine ⟨_, rfl, _, rfl, t, _, rfl, .inl (SqL.of ht4), fun l hl4 => ?_⟩
      have npl : p ≠ l := ne_of_none hp4 hl4
      refine ⟨p, l, _, _, rfl, rfl, (by rw [upd_ne npl]; exact hp4), upd_same, ?_, fun u hu => ?_⟩
      · rw [List.length_map, List.length_map]
        exact Nat.le_trans (show zs.length + tk.length ≤ 24 by omega) (by decide)
      rw [← List.map_append]
      have K6 : Kp b H (upd (upd H4 l (.lst (tk.map V.str))) u (.lst ((zs ++ tk).map V.str))) := (K4'.new hl4).new hu
      have B6 : Bag (upd (upd H4 l (.lst (tk.map V.str))) u (.lst ((zs ++ tk).map V.str))) b (n + 10 * (i + 1)) := ((B4.new hl4).new hu).mono (by omega)
      have hu6 : (upd (upd H4 l (.lst (tk.map V.str))) u (.lst ((zs ++ tk).map V.str))) u = some (.lst ((zs ++ tk).map V.str)) := upd_same
      have hp6 : (upd (upd H4 l (.lst (tk.map V.str))) u (.lst ((zs ++ tk).map V.str))) p = some (.lst (zs.map V.str)) := by
        have hpl : (upd H4 l (.lst (tk.map V.str))) p = some (.lst (zs.map V.str)) := by rw [upd_ne npl]; exact hp4
        rw [upd_ne (ne_of_none hpl hu)]
        exact hpl
      generalize (upd (upd H4 l (.lst (tk.map V.str))) u (.lst ((zs ++ tk).map V.str))) = H6 at K6 B6 hu6 hp6
      refine ⟨fun σ H' => (∃ v a7 a8, σ = [some (.ref b), some (.int size), some (.ref t), some (.ref p), some (.int (0 + i)), some (.str v), some (.ref u), a7, a8] ∧ Nm v ∧ v ∉ zs ++ tk) ∧ Kp b H H' ∧ Bag H' b (n + 10 * (i + 1)) ∧ H' p = some (.lst (zs.map V.str)), ?_, ?_⟩
      · refine ⟨_, rfl, _, rfl, u, _, rfl, .inl (SqL.of hu6), rfl, flat_strs _, _, rfl, ?_⟩
        rw [in_strs]
        refine ite2 (fun _ => ?_) (fun hno => ?_)
        · refine ⟨_, rfl, fun D hD => ?_⟩
          have l1 : ∀ c, (one c).length + (tail7 z).length ≤ sizeLine := fun c => Nat.le_trans (show (one c).length + (tail7 z).length ≤ 8 by have := (tail7_nm z4).1; show 1 + _ ≤ 8; omega) (by decide)
          have l2 : ∀ c, (one c ++ "x").length + (tail7 z).length ≤ sizeLine := fun c => Nat.le_trans (show (one c ++ "x").length + (tail7 z).length ≤ 8 by have := (tail7_nm z4).1; rw [app_len]; show (1 + 1) + _ ≤ 8; omega) (by decide)
          have zL : z.length ≤ sizeLine := Nat.le_trans z4.hi (by decide)
          refine lc_it walk_str (fun j H7 => H7 = upd H6 D (.lst (((abcL.map fun c => one c ++ tail7 z).map V.str).take j))) rfl (fun _ _ _ _ => trivial) ?_ ?_
          · rintro j x H7 H8 hj rfl ⟨rfl, c, hc, rfl⟩
            have hj' := abcL_at hc
            refine ⟨rfl, yes (iteT ?_)⟩
            refine ⟨_, rfl, _, rfl, 1, rfl, 7, rfl, z, rfl, zL, _, _, rfl, rfl, l1 c, _, upd_same, take_sz (n := 26) (by simp [abcL]) (by decide), put_next ?_⟩
            rw [List.getElem?_map, List.getElem?_map, hj']
            rfl
          · rintro H7 rfl
            rw [abc_sz, List.take_of_length_le (show ((abcL.map fun c => one c ++ tail7 z).map V.str).length ≤ 26 by simp [abcL])]
            have hD7 : (upd H6 D (.lst ((abcL.map fun c => one c ++ tail7 z).map V.str))) D = some (.lst ((abcL.map fun c => one c ++ tail7 z).map V.str)) := upd_same
            have K7 : Kp b H (upd H6 D (.lst ((abcL.map fun c => one c ++ tail7 z).map V.str))) := K6.new hD
            have B7 := B6.new (o := (.lst ((abcL.map fun c => one c ++ tail7 z).map V.str))) hD
            have hu7 : (upd H6 D (.lst ((abcL.map fun c => one c ++ tail7 z).map V.str))) u = some (.lst ((zs ++ tk).map V.str)) := by rw [upd_ne (ne_of_none hu6 hD)]; exact hu6
            have hp7 : (upd H6 D (.lst ((abcL.map fun c => one c ++ tail7 z).map V.str))) p = some (.lst (zs.map V.str)) := by rw [upd_ne (ne_of_none hp6 hD)]; exact hp6
            generalize (upd H6 D (.lst ((abcL.map fun c => one c ++ tail7 z).map V.str))) = H7 at hD7 K7 B7 hu7 hp7
            refine ⟨_, rfl, _, rfl, fun D2 hD2 => ?_⟩
            refine lc_it walk_str (fun j H8 => H8 = upd H7 D2 (.lst (((abcL.map fun c => (one c ++ "x") ++ tail7 z).map V.str).take j))) rfl (fun _ _ _ _ => trivial) ?_ ?_
            · rintro j x H8 H9 hj rfl ⟨rfl, c, hc, rfl⟩
              have hj' := abcL_at hc
              refine ⟨rfl, yes (iteT ?_)⟩
              refine ⟨_, rfl, _, _, rfl, rfl, (by show 1 + 1 ≤ sizeLine; decide), _, rfl, 1, rfl, 7, rfl, z, rfl, zL, _, _, rfl, rfl, l2 c, _, upd_same, take_sz (n := 26) (by simp [abcL]) (by decide), put_next ?_⟩
              rw [List.getElem?_map, List.getElem?_map, hj']
              rfl
            · rintro H8 rfl
              rw [abc_sz, List.take_of_length_le (show ((abcL.map fun c => (one c ++ "x") ++ tail7 z).map V.str).length ≤ 26 by simp [abcL])]
              refine ⟨D, D2, _, _, rfl, rfl, (by rw [upd_ne (ne_of_none hD7 hD2)]; exact hD7), upd_same, (by simp [abcL]; decide), fun T hT => ?_⟩
              rw [← List.map_append]
              have nuT : u ≠ T := fun e => by
                rw [← e, upd_ne (ne_of_none hu7 hD2), hu7] at hT
                cases hT
              have npT : p ≠ T := fun e => by
                rw [← e, upd_ne (ne_of_none hp7 hD2), hp7] at hT
                cases hT
              generalize hts : (abcL.map fun c => one c ++ tail7 z) ++ (abcL.map fun c => (one c ++ "x") ++ tail7 z) = ts
              have hT9 : (upd (upd H7 D2 (.lst ((abcL.map fun c => (one c ++ "x") ++ tail7 z).map V.str))) T (.lst (ts.map V.str))) T = some (.lst (ts.map V.str)) := upd_same
              have K9 : Kp b H (upd (upd H7 D2 (.lst ((abcL.map fun c => (one c ++ "x") ++ tail7 z).map V.str))) T (.lst (ts.map V.str))) := (K7.new hD2).new hT
              have B9 : Bag (upd (upd H7 D2 (.lst ((abcL.map fun c => (one c ++ "x") ++ tail7 z).map V.str))) T (.lst (ts.map V.str))) b (n + 10 * (i + 1)) := (B7.new hD2).new hT
              have hu9 : (upd (upd H7 D2 (.lst ((abcL.map fun c => (one c ++ "x") ++ tail7 z).map V.str))) T (.lst (ts.map V.str))) u = some (.lst ((zs ++ tk).map V.str)) := by rw [upd_ne nuT, upd_ne (ne_of_none hu7 hD2)]; exact hu7
              have hp9 : (upd (upd H7 D2 (.lst ((abcL.map fun c => (one c ++ "x") ++ tail7 z).map V.str))) T (.lst (ts.map V.str))) p = some (.lst (zs.map V.str)) := by rw [upd_ne npT, upd_ne (ne_of_none hp7 hD2)]; exact hp7
              generalize (upd (upd H7 D2 (.lst ((abcL.map fun c => (one c ++ "x") ++ tail7 z).map V.str))) T (.lst (ts.map V.str))) = H9 at hT9 K9 B9 hu9 hp9
              have lts : ts.length = 52 := by rw [← hts]; simp [abcL]
              refine ⟨_, rfl, T, rfl, ⟨_, SqL.of hT9⟩, fun D3 hD3 => ?_⟩
              refine lc_it (walk_list (K := K) (a := T) (xs := ts.map V.str)) (fun j H10 => H10 = upd H9 D3 (.lst (((ts.take j).filter fun t => decide (t ∉ zs ++ tk)).map V.str))) rfl ?_ ?_ ?_
              · rintro j H10 _ rfl
                exact SqL.of (by rw [upd_ne (ne_of_none hT9 hD3)]; exact hT9)
              · rintro j x H10 H11 hj rfl ⟨rfl, hx⟩
                obtain ⟨y, hy, rfl⟩ : ∃ y, ts[j]? = some y ∧ x = V.str y := by
                  rw [List.getElem?_map] at hx
                  cases e : ts[j]? with
                  | none => rw [e] at hx; cases hx
                  | some y => rw [e] at hx; exact ⟨y, rfl, (Option.some.inj hx).symm⟩
                refine ⟨rfl, _, rfl, _, rfl, u, _, rfl, .inl (SqL.of (by rw [upd_ne (ne_of_none hu9 hD3)]; exact hu9)), rfl, flat_strs _, _, rfl, ?_⟩
                rw [in_strs]
                have tk1 : ts.take (j + 1) = ts.take j ++ [y] := by rw [List.take_succ, hy]; rfl
                refine ite2 (fun hin => ?_) (fun hin => ?_)
                · refine ⟨_, rfl, _, upd_same, ?_, ?_⟩
                  · refine Nat.lt_of_le_of_lt (show _ ≤ 52 from ?_) (by decide)
                    rw [List.length_map]
                    exact Nat.le_trans (List.length_filter_le _ _) (by rw [List.length_take]; omega)
                  · have hny : y ∉ zs ++ tk := fun e => by
                      rw [decide_eq_true e] at hin
                      cases hin
                    rw [upd_upd, tk1, List.filter_append, List.map_append]
                    have : ([y].filter fun t => decide (t ∉ zs ++ tk)) = [y] := List.filter_cons_of_pos (decide_eq_true hny)
                    rw [this]
                    rfl
                · have hyy : y ∈ zs ++ tk := Classical.byContradiction fun e => hin (by rw [decide_eq_false e]; rfl)
                  rw [tk1, List.filter_append]
                  have : ([y].filter fun t => decide (t ∉ zs ++ tk)) = [] := by
                    rw [List.filter_eq_nil_iff]
                    intro a ha
                    rw [List.mem_singleton.mp ha, decide_eq_true_eq]
                    exact fun h => h hyy
                  rw [this, List.append_nil]
              · rintro H10 rfl
                rw [show (ts.map V.str).length = ts.length from List.length_map _, List.take_length]
                obtain ⟨z', hz', hn'⟩ := fresh_tail (tail7 z) (zs ++ tk) (by rw [List.length_append]; omega)
                have hmem : z' ∈ ts.filter fun t => decide (t ∉ zs ++ tk) := List.mem_filter.mpr ⟨by rw [← hts]; exact List.mem_append_left _ hz', decide_eq_true hn'⟩
                cases hq : (ts.filter fun t => decide (t ∉ zs ++ tk)) with
                | nil => rw [hq] at hmem; cases hmem
                | cons v r =>
                  have hv : v ∈ ts.filter fun t => decide (t ∉ zs ++ tk) := by rw [hq]; exact List.mem_cons_self
                  obtain ⟨hv1, hv2⟩ := List.mem_filter.mp hv
                  refine ⟨D3, _, _, .str v, rfl, rfl, SqL.of upd_same, atI_nat (j := 0) rfl, ?_⟩
                  refine ⟨⟨v, _, _, rfl, tails_nm z4 (by rw [hts]; exact hv1), of_decide_eq_true hv2⟩, K9.new hD3, B9.new hD3, ?_⟩
                  rw [upd_ne (ne_of_none hp9 hD3)]
                  exact hp9
        · have hno' : z ∉ zs ++ tk := fun e => hno (decide_eq_true e)
          exact ⟨⟨z, _, _, rfl, z4, hno'⟩, K6, B6, hp6⟩
      · rintro σ H7 ⟨⟨v, a7, a8, rfl, nv, hv⟩, K7, B7, hp7⟩
        have hvz : v ∉ zs := fun e => hv (List.mem_append_left _ e)
        have hvt : v ∉ tk := fun e => hv (List.mem_append_right _ e)
        refine ⟨_, rfl, .inl ⟨rfl, _, SqL.of hp7⟩, _, rfl, p, _, _, rfl, rfl, hp7, ?_, ?_⟩
        · rw [List.length_map, hl]
          exact Nat.lt_trans hi12 (by decide)
        · refine ⟨⟨_, _, _, _, _, rfl⟩, K7.wr hp, B7.ne npb, zs ++ [v], ?_, by rw [List.length_append, hl]; rfl, ?_, ?_⟩
          · rw [upd_same, List.map_append]; rfl
          · rw [List.nodup_append]
            refine ⟨hnd, List.nodup_cons.mpr ⟨fun h => (nomatch h), List.nodup_nil⟩, fun a ha c hc e => ?_⟩
            rw [List.mem_singleton.mp hc] at e
            exact hvz (e ▸ ha)
          · intro z' hz'
            rcases List.mem_append.mp hz' with h | h
            · exact hz z' h
            · rw [List.mem_singleton.mp h]
              exact ⟨nv, hvt⟩
    · rintro σ H3 ⟨⟨a4, a5, a6, a7, a8, rfl⟩, K3, B3, zs, hp3, hl, hnd, hz⟩
      exact ⟨_, rfl, k p zs H3 hp hp3 (by omega) hnd hz K3 (B3.mono (by omega))⟩
end
end Fh

set_option Elab.async false
set_option linter.all false
set_option maxRecDepth 100000
set_option maxHeartbeats 4000000
namespace Fh
open PySem L2 PyProof.Rows
/-! ### data in tuples -/
mutual
inductive Tp (H : Hp) : V → PyData → Prop
  | int (i : Int) : Tp H (.int i) (.int i)
  | str (x : Str) : Tp H (.str x) (.str x)
  | tup {a : Addr} {xs : List V} {ds : List PyData} : H a = some (.tup xs) → TpAll H xs ds → Tp H (.ref a) (.tuple ds)
inductive TpAll (H : Hp) : List V → List PyData → Prop
  | nil : TpAll H [] []
  | cons {v : V} {vs : List V} {d : PyData} {ds : List PyData} : Tp H v d → TpAll H vs ds → TpAll H (v :: vs) (d :: ds)
end
/-- tuples stay -/
def Tk (H H' : Hp) : Prop := ∀ a xs, H a = some (.tup xs) → H' a = some (.tup xs)
mutual
theorem Tp.keep {H H' : Hp} (t : Tk H H') : ∀ (d : PyData) (v : V), Tp H v d → Tp H' v d
  | .none, _, h => by cases h
  | .bool _, _, h => by cases h
  | .int i, _, h => by cases h; exact .int i
  | .str x, _, h => by cases h; exact .str x
  | .list _, _, h => by cases h
  | .dict _, _, h => by cases h
  | .tuple ds, _, h => by
    cases h with
    | tup e q => exact .tup (t _ _ e) (TpAll.keep t ds _ q)
theorem TpAll.keep {H H' : Hp} (t : Tk H H') : ∀ (ds : List PyData) (vs : List V), TpAll H vs ds → TpAll H' vs ds
  | [], _, h => by cases h; exact .nil
  | d :: ds, _, h => by
    cases h with
    | cons a q => exact .cons (Tp.keep t d _ a) (TpAll.keep t ds _ q)
end
mutual
theorem Tp.dp {K : PySem.W.Frag} {H : Hp} : ∀ (d : PyData) (v : V), Tp H v d → Dp K H v d
  | .none, _, h => by cases h
  | .bool _, _, h => by cases h
  | .int i, _, h => by cases h; exact .int i
  | .str x, _, h => by cases h; exact .str x
  | .list _, _, h => by cases h
  | .dict _, _, h => by cases h
  | .tuple ds, _, h => by
    cases h with
    | tup e q => exact .tup (SqT.of e) (TpAll.dp ds _ q)
theorem TpAll.dp {K : PySem.W.Frag} {H : Hp} : ∀ (ds : List PyData) (vs : List V), TpAll H vs ds → DpAll K H vs ds
  | [], _, h => by cases h; exact .nil
  | d :: ds, _, h => by
    cases h with
    | cons a q => exact .cons (Tp.dp d _ a) (TpAll.dp ds _ q)
end
theorem Kp.tk {b : Addr} {H H' : Hp} {n : Nat} (k : Kp b H H') (hb : Bag H b n) : Tk H H' := fun a xs h => k a _ (fun e => by
  obtain ⟨x, y, z, e2, _⟩ := hb
  rw [← e, h] at e2
  cases e2) h
theorem Tk.refl {H : Hp} : Tk H H := fun _ _ h => h
theorem Tk.trans {H H1 H2 : Hp} (a : Tk H H1) (b : Tk H1 H2) : Tk H H2 := fun c xs h => b c xs (a c xs h)
theorem Same.tk {H H' : Hp} (s : Same H H') : Tk H H' := fun a xs h => s a _ h
theorem Tk.new {H : Hp} {p : Addr} {o : HO} (h : H p = none) : Tk H (upd H p o) := fun a xs e => by rw [upd_ne (ne_of_none e h)]; exact e
theorem Tk.wr {H : Hp} {p : Addr} {ys : List V} {o : HO} (h : H p = some (.lst ys)) : Tk H (upd H p o) := fun a xs e => by
  rw [upd_ne (fun q => by rw [q, h] at e; cases e)]
  exact e
theorem TpAll.length {H : Hp} : ∀ {vs : List V} {ds : List PyData}, TpAll H vs ds → vs.length = ds.length
  | _, _, .nil => rfl
  | _, _, .cons _ q => by simp [TpAll.length q]
theorem TpAll.get {H : Hp} : ∀ {vs : List V} {ds : List PyData} {i : Nat} {d : PyData}, TpAll H vs ds → ds[i]? = some d → ∃ v, vs[i]? = some v ∧ Tp H v d
  | _, _, _, _, .nil, e => by simp at e
  | _, _, 0, _, .cons a _, e => by simp at e; subst e; exact ⟨_, rfl, a⟩
  | _, _, i + 1, d, .cons _ q, e => by
    obtain ⟨v, h1, h2⟩ := TpAll.get (i := i) (d := d) q (by simpa using e)
    exact ⟨v, by simpa using h1, h2⟩
theorem TpAll.get' {H : Hp} : ∀ {vs : List V} {ds : List PyData} {i : Nat} {v : V}, TpAll H vs ds → vs[i]? = some v → ∃ d, ds[i]? = some d ∧ Tp H v d
  | _, _, _, _, .nil, e => by simp at e
  | _, _, 0, _, .cons a _, e => by simp at e; subst e; exact ⟨_, rfl, a⟩
  | _, _, i + 1, v, .cons _ q, e => by
    obtain ⟨d, h1, h2⟩ := TpAll.get' (i := i) (v := v) q (by simpa using e)
    exact ⟨d, by simpa using h1, h2⟩
theorem TpAll.app {H : Hp} : ∀ {vs ws : List V} {ds es : List PyData}, TpAll H vs ds → TpAll H ws es → TpAll H (vs ++ ws) (ds ++ es)
  | _, _, _, _, .nil, s => s
  | _, _, _, _, .cons a q, s => .cons a (TpAll.app q s)
theorem TpAll.one {H : Hp} {v : V} {d : PyData} (h : Tp H v d) : TpAll H [v] [d] := .cons h .nil
theorem TpAll.strs {H : Hp} : ∀ zs : List Str, TpAll H (zs.map V.str) (zs.map PyData.str)
  | [] => .nil
  | z :: r => .cons (.str z) (TpAll.strs r)
theorem Tp.inv {H : Hp} {v : V} {ds : List PyData} (h : Tp H v (.tuple ds)) : ∃ a xs, v = .ref a ∧ H a = some (.tup xs) ∧ TpAll H xs ds := by
  cases h with
  | tup e q => exact ⟨_, _, rfl, e, q⟩
theorem Tp.istr {H : Hp} {v : V} {z : Str} (h : Tp H v (.str z)) : v = .str z := by cases h; rfl
theorem Tp.iint {H : Hp} {v : V} {i : Int} (h : Tp H v (.int i)) : v = .int i := by cases h; rfl
theorem TpAll.icons {H : Hp} {vs : List V} {d : PyData} {ds : List PyData} (h : TpAll H vs (d :: ds)) : ∃ v r, vs = v :: r ∧ Tp H v d ∧ TpAll H r ds := by
  cases h with
  | cons a q => exact ⟨_, _, rfl, a, q⟩
theorem TpAll.inil {H : Hp} {vs : List V} (h : TpAll H vs []) : vs = [] := by cases h; rfl
/-! ### shaped data -/
def Sh (n : Nat) (d : PyData) : Prop := d.canLay0 = true ∧ d.depth ≤ n
theorem strOk_of {z : Str} (h : ∀ c ∈ z.cps.toList, c < 0x110000) : PyData.canLay0 (.str z) = true := by
  show PyData.strOk z = true
  unfold PyData.strOk
  rw [Array.all_eq_true_iff_forall_mem]
  intro c hc
  exact decide_eq_true (h c (by simpa using hc))
theorem Sh.int {n : Nat} (i : Int) : Sh n (.int i) := ⟨rfl, Nat.zero_le _⟩
theorem Sh.mono {n m : Nat} {d : PyData} (h : Sh n d) (hm : n ≤ m) : Sh m d := ⟨h.1, Nat.le_trans h.2 hm⟩
theorem lay_all : ∀ ds : List PyData, (∀ d ∈ ds, d.canLay0 = true) → PyData.canLayAll0 ds = true
  | [], _ => rfl
  | d :: r, h => by
    show (PyData.canLay0 d && PyData.canLayAll0 r) = true
    rw [h d List.mem_cons_self, lay_all r fun e he => h e (List.mem_cons_of_mem _ he)]
    rfl
theorem depth_all {n : Nat} : ∀ ds : List PyData, (∀ d ∈ ds, d.depth ≤ n) → PyData.depthAll ds ≤ n
  | [], _ => Nat.zero_le _
  | d :: r, h => by
    show max (PyData.depth d) (PyData.depthAll r) ≤ n
    exact Nat.max_le.mpr ⟨h d List.mem_cons_self, depth_all r fun e he => h e (List.mem_cons_of_mem _ he)⟩
theorem Sh.tup {n : Nat} {ds : List PyData} (h : ∀ d ∈ ds, Sh n d) : Sh (n + 1) (.tuple ds) :=
  ⟨lay_all ds fun d hd => (h d hd).1, Nat.succ_le_succ (depth_all ds fun d hd => (h d hd).2)⟩
theorem Sh.lst {n : Nat} {ds : List PyData} (h : ∀ d ∈ ds, Sh n d) : Sh (n + 1) (.list ds) :=
  ⟨lay_all ds fun d hd => (h d hd).1, Nat.succ_le_succ (depth_all ds fun d hd => (h d hd).2)⟩
theorem Sh.shaped {n : Nat} {d : PyData} (h : Sh n d) (hn : n ≤ 64) : SeqAt.shaped d = true := by
  unfold SeqAt.shaped
  rw [h.1, decide_eq_true (Nat.le_trans h.2 hn)]
  rfl
/-! ### lists of data as python sees them -/
theorem Dp.strs {K : PySem.W.Frag} {H : Hp} : ∀ zs : List Str, DpAll K H (zs.map V.str) (zs.map PyData.str)
  | [] => .nil
  | z :: r => .cons (.str z) (Dp.strs r)
theorem putF_len (f : Str) (v : V) : ∀ fs : List (Str × V), (putF f v fs).length ≤ fs.length + 1
  | [] => Nat.le_refl _
  | (g, x) :: r => by
    show (if g = f then (g, v) :: r else (g, x) :: putF f v r).length ≤ _
    split
    · exact Nat.le_succ _
    · exact Nat.succ_le_succ (putF_len f v r)
end Fh

set_option Elab.async false
set_option linter.all false
set_option maxRecDepth 100000
set_option maxHeartbeats 4000000
namespace Fh
open PySem L2 PyProof.Rows
def ff (nm ed ch rc cl : V) : List (Str × V) := putF "calls" cl (putF "records" rc (putF "choices" ch (putF "edition" ed (putF "name" nm []))))
section
variable {nm ed ch rc cl : V}
theorem ff_name : (ff nm ed ch rc cl).lookup ("name" : Str) = some nm := by
  unfold ff
  rw [lookup_putF, if_neg (by decide +kernel), lookup_putF, if_neg (by decide +kernel), lookup_putF, if_neg (by decide +kernel), lookup_putF, if_neg (by decide +kernel), lookup_putF, if_pos rfl]
theorem ff_edition : (ff nm ed ch rc cl).lookup ("edition" : Str) = some ed := by
  unfold ff
  rw [lookup_putF, if_neg (by decide +kernel), lookup_putF, if_neg (by decide +kernel), lookup_putF, if_neg (by decide +kernel), lookup_putF, if_pos rfl]
theorem ff_choices : (ff nm ed ch rc cl).lookup ("choices" : Str) = some ch := by
  unfold ff
  rw [lookup_putF, if_neg (by decide +kernel), lookup_putF, if_neg (by decide +kernel), lookup_putF, if_pos rfl]
theorem ff_records : (ff nm ed ch rc cl).lookup ("records" : Str) = some rc := by
  unfold ff
  rw [lookup_putF, if_neg (by decide +kernel), lookup_putF, if_pos rfl]
theorem ff_calls : (ff nm ed ch rc cl).lookup ("calls" : Str) = some cl := by
  unfold ff
  rw [lookup_putF, if_pos rfl]
end
/-! ### a method called -/
structure HasM (P : Program) (w : World) (K : PySem.W.Frag) (mg : Str → Option Value) (base : Heap) (C : Addr) (m : Str) (k : Nat) (ps : List Str) (sp : Sp) : Prop where
  cl : Cls K C
  ex : ∃ (f : Addr) (fd : FuncData), Meth K C m f ∧ Binds K fd ps [] ∧ FnOk P w K mg base CX0 k f fd ps sp
theorem pe_hasM {X : Cx} {C : Addr} {k : Nat} {m : Str} {ps : List Str} {sp : Sp} {o e : Expr} {es : List Expr} {ta : TE} {t : TA} {apos pos : Pos} {pl : Sem Bool} (D : HasM X.prog X.w X.K X.mg X.base C m k ps sp) (hr : Room k X.A) (ho : PE X o ta) (ha : PA X (e :: es) t)
    (hst : starEach (e :: es) X.env = (false, eval e X.env) :: starEach es X.env := by rfl) (hpl : (backTo pos (starEach es X.env)).any (·.1) = false := by rfl)
    (ht : eval (.Call (.Attribute o m apos) (e :: es) [] pos) X.env = (do
      let ov ← eval o X.env
      standAt apos.atName
      let (f, first) ← holding [ov] (getMethod ov m pl)
      callWith pos f first (backTo pos (starEach (e :: es) X.env)) (backToKw pos (keywordEach [] X.env))) := by rfl) :
    PE X (.Call (.Attribute o m apos) (e :: es) [] pos) (tMeth C m sp [] E0 ta t) := by
  obtain ⟨f, fd, hm, hb, F⟩ := D.ex
  exact pe_meth (pl := pl) ho D.cl hm F hr hb .nil pass0 ha hst hpl ht
/-- a promise of nothing -/
def spNone : Sp := fun _ _ _ _ => False
/-! ### rows of a face -/
def rowsD (rows : List (Str × PyData)) : PyData := .tuple (rows.map fun r => .tuple [.str r.1, r.2])
/-- data in a tuple that may be held as the very object -/
def TpR (H : Hp) (v : V) (d : PyData) : Prop := ∃ (a : Addr) (xs : List V) (ds : List PyData), v = .ref a ∧ d = .tuple ds ∧ Rd H a (.tup xs) ∧ TpAll H xs ds
theorem Rd.same {H H' : Hp} {a : Addr} {u : HO} (r : Rd H a u) (s : Same H H') : Rd H' a u := by
  rcases r with h | ⟨o, h⟩
  · exact .inl (s _ _ h)
  · exact .inr ⟨o, s _ _ h⟩
theorem TpR.inv {H : Hp} {v : V} {ds : List PyData} (h : TpR H v (.tuple ds)) : ∃ a xs, v = .ref a ∧ Rd H a (.tup xs) ∧ TpAll H xs ds := by
  obtain ⟨a, xs, ds', rfl, e, r, q⟩ := h
  cases e
  exact ⟨a, xs, rfl, r, q⟩
theorem TpR.same {H H' : Hp} {v : V} {d : PyData} (h : TpR H v d) (s : Same H H') : TpR H' v d := by
  obtain ⟨a, xs, ds, e1, e2, r, q⟩ := h
  exact ⟨a, xs, ds, e1, e2, Rd.same r s, TpAll.keep (Same.tk s) _ _ q⟩
def FaceR (C : Addr) (H : Hp) (a : Addr) (cs rs : List (Str × PyData)) : Prop := ∃ (dx : Addr) (v1 v2 v3 v4 v5 : V), H a = some (.ins C dx (ff v1 v2 v3 v4 v5)) ∧ TpR H v3 (rowsD cs) ∧ TpR H v4 (rowsD rs)
theorem FaceR.same {C : Addr} {H H' : Hp} {a : Addr} {cs rs : List (Str × PyData)} (h : FaceR C H a cs rs) (s : Same H H') : FaceR C H' a cs rs := by
  obtain ⟨dx, v1, v2, v3, v4, v5, e, t3, t4⟩ := h
  exact ⟨dx, v1, v2, v3, v4, v5, s _ _ e, t3.same s, t4.same s⟩
theorem Tp.pair {H : Hp} {v : V} {d e : PyData} (h : Tp H v (.tuple [d, e])) : ∃ a x y, v = .ref a ∧ H a = some (.tup [x, y]) ∧ Tp H x d ∧ Tp H y e := by
  obtain ⟨a, xs, rfl, ha, q⟩ := h.inv
  obtain ⟨x, r, rfl, hx, q⟩ := q.icons
  obtain ⟨y, r, rfl, hy, q⟩ := q.icons
  rw [q.inil] at ha
  exact ⟨a, x, y, rfl, ha, hx, hy⟩
theorem Tp.four {H : Hp} {v : V} {d1 d2 d3 d4 : PyData} (h : Tp H v (.tuple [d1, d2, d3, d4])) : ∃ a x1 x2 x3 x4, v = .ref a ∧ H a = some (.tup [x1, x2, x3, x4]) ∧ Tp H x1 d1 ∧ Tp H x2 d2 ∧ Tp H x3 d3 ∧ Tp H x4 d4 := by
  obtain ⟨a, xs, rfl, ha, q⟩ := h.inv
  obtain ⟨x1, r, rfl, h1, q⟩ := q.icons
  obtain ⟨x2, r, rfl, h2, q⟩ := q.icons
  obtain ⟨x3, r, rfl, h3, q⟩ := q.icons
  obtain ⟨x4, r, rfl, h4, q⟩ := q.icons
  rw [q.inil] at ha
  exact ⟨a, x1, x2, x3, x4, rfl, ha, h1, h2, h3, h4⟩
theorem rows_at {H : Hp} {xs : List V} {rows : List (Str × PyData)} {i : Nat} {x : V} (q : TpAll H xs (rows.map fun r => .tuple [.str r.1, r.2])) (e : xs[i]? = some x) :
    ∃ r t u, rows[i]? = some r ∧ x = .ref t ∧ H t = some (.tup [.str r.1, u]) ∧ Tp H u r.2 := by
  obtain ⟨d, e2, tx⟩ := q.get' e
  rw [List.getElem?_map] at e2
  cases hr : rows[i]? with
  | none => rw [hr] at e2; cases e2
  | some r =>
    rw [hr] at e2
    cases e2
    obtain ⟨t, y, u, rfl, ht, ty, tu⟩ := tx.pair
    rw [ty.istr] at ht
    exact ⟨r, t, u, rfl, rfl, ht, tu⟩
theorem look_at {rows : List (Str × PyData)} {z : Str} {d : PyData} (h : rows.lookup z = some d) : ∃ (i : Nat) (hi : i < rows.length), rows[i].1 = z := by
  induction rows with
  | nil => cases h
  | cons r rs ih =>
    by_cases e : r.1 = z
    · exact ⟨0, Nat.succ_pos _, e⟩
    · have h2 : (z == r.1) = false := by
        rw [beq_eq_false_iff_ne]
        exact fun q => e q.symm
      obtain ⟨k, y⟩ := r
      rw [List.lookup_cons, h2] at h
      obtain ⟨i, hi, e2⟩ := ih h
      exact ⟨i + 1, Nat.succ_lt_succ hi, e2⟩
theorem look_first {rows : List (Str × PyData)} {z : Str} {d : PyData} {i : Nat} {r : Str × PyData} (h : rows.lookup z = some d) (e : rows[i]? = some r) (hz : r.1 = z) (hb : ∀ (j : Nat) (q : Str × PyData), j < i → rows[j]? = some q → q.1 ≠ z) : r.2 = d := by
  induction rows generalizing i with
  | nil => cases h
  | cons s rs ih =>
    cases i with
    | zero =>
      cases e
      obtain ⟨k, y⟩ := r
      rw [List.lookup_cons] at h
      have h2 : (z == k) = true := by rw [beq_iff_eq]; exact hz.symm
      rw [h2] at h
      cases h
      rfl
    | succ i =>
      have h0 := hb 0 s (Nat.succ_pos _) rfl
      have h2 : (z == s.1) = false := by
        rw [beq_eq_false_iff_ne]
        exact fun q => h0 q.symm
      obtain ⟨k, y⟩ := s
      rw [List.lookup_cons, h2] at h
      exact ih h e fun j q hj hq => hb (j + 1) q (Nat.succ_lt_succ hj) hq
/-! ### kinds -/
inductive Kb where
  | whole
  | truth
  | text
  | rc (z : Str)
  | ch (z : Str)
inductive Kn where
  | one (b : Kb)
  | lst (b : Kb)
def Kb.d : Kb → PyData
  | .whole => .str "whole"
  | .truth => .str "truth"
  | .text => .str "text"
  | .rc z => .tuple [.str "record", .str z]
  | .ch z => .tuple [.str "choice", .str z]
def Kn.d : Kn → PyData
  | .one b => b.d
  | .lst b => .tuple [.str "list", b.d]
def Kb.word : Kb → Str
  | .whole => "whole"
  | .truth => "truth"
  | .text => "text"
  | .rc _ => "record"
  | .ch _ => "choice"
def Kn.word : Kn → Str
  | .one b => b.word
  | .lst _ => "list"
def Kb.mark : Kb → Int
  | .text => 2
  | .rc _ => 4
  | _ => 1
def Kn.mark : Kn → Int
  | .one b => b.mark
  | .lst _ => 3
/-- what stands in a kind that is a tuple -/
def Kn.inner : Kn → PyData
  | .one (.rc z) => .str z
  | .one (.ch z) => .str z
  | .lst b => b.d
  | _ => .none
theorem kn_inv {H : Hp} {v : V} {k : Kn} (h : Tp H v k.d) : (v = .str k.word ∧ (k = .one .whole ∨ k = .one .truth ∨ k = .one .text)) ∨ ∃ a u, v = .ref a ∧ H a = some (.tup [.str k.word, u]) ∧ Tp H u k.inner := by
  cases k with
  | lst b =>
    obtain ⟨a, x, y, rfl, ha, hx, hy⟩ := Tp.pair h
    rw [hx.istr] at ha
    exact .inr ⟨a, y, rfl, ha, hy⟩
  | one b =>
    cases b with
    | whole => exact .inl ⟨Tp.istr h, .inl rfl⟩
    | truth => exact .inl ⟨Tp.istr h, .inr (.inl rfl)⟩
    | text => exact .inl ⟨Tp.istr h, .inr (.inr rfl)⟩
    | rc z =>
      obtain ⟨a, x, y, rfl, ha, hx, hy⟩ := Tp.pair h
      rw [hx.istr] at ha
      exact .inr ⟨a, y, rfl, ha, hy⟩
    | ch z =>
      obtain ⟨a, x, y, rfl, ha, hx, hy⟩ := Tp.pair h
      rw [hx.istr] at ha
      exact .inr ⟨a, y, rfl, ha, hy⟩
theorem Same.new {H : Hp} {p : Addr} {o : HO} (h : H p = none) : Same H (upd H p o) := fun a u e => by
  rw [upd_ne (ne_of_none e h)]
  exact e
theorem Same.wr {H H1 : Hp} {p : Addr} {o : HO} (s : Same H H1) (h : H p = none) : Same H (upd H1 p o) := fun a u e => by
  rw [upd_ne (ne_of_none e h)]
  exact s a u e
/-- [x for x, y in rows] -/
theorem lc_names {K : PySem.W.Frag} {ti : TE} {x y : Nat} {σ : L2.St} {H : Hp} {rows : List (Str × PyData)} {v : V} {Q : V → Hp → Prop} (hi : ∀ R : V → Hp → Prop, R v H → ti σ H R) (t : TpR H v (rowsD rows)) (hl : rows.length ≤ 100)
    (hw : ∀ a b, wipe (((wipe σ [x, y]).set x (some a)).set y (some b)) [x, y] = wipe σ [x, y]) (hv : ∀ a b, (((wipe σ [x, y]).set x (some a)).set y (some b))[x]? = some (some a))
    (k : ∀ D H', Same H H' → H' D = some (.lst ((rows.map (·.1)).map V.str)) → Q (.ref D) H') : tLc (iTup K ti) (gTup K 2 (gCons (gName x) (gCons (gName y) gNil))) tYes (tVar x) [x, y] σ H Q := by
  obtain ⟨a, xs, rfl, ha, q⟩ := TpR.inv t
  refine hi _ ⟨a, rfl, ⟨_, (.inl ha)⟩, fun D hD => ?_⟩
  refine lc_tup (xs := xs) (fun i H3 => Same H H3 ∧ H3 D = some (.lst (((rows.take i).map (·.1)).map V.str))) ?_ ?_ ?_ ?_
  · exact ⟨Same.new hD, upd_same⟩
  · rintro i H3 _ ⟨S3, _⟩
    exact .inl (Rd.same ha S3)
  · rintro i z H3 hz ⟨S3, h3⟩
    obtain ⟨r, t, u, hr, rfl, ht, tu⟩ := rows_at q hz
    refine ⟨t, _, rfl, SqT.of (S3 _ _ ht), rfl, _, _, rfl, _, _, rfl, rfl, hw _ _, yes (iteT ?_)⟩
    refine ⟨_, hv _ _, _, h3, ?_, Same.wr S3 hD, ?_⟩
    · rw [List.length_map, List.length_map, List.length_take]
      exact Nat.lt_of_le_of_lt (Nat.min_le_right _ _) (Nat.lt_of_le_of_lt hl (by decide))
    · have hlt : i < rows.length := by
        rw [List.getElem?_eq_some_iff] at hr
        exact hr.1
      rw [upd_same, List.take_add_one, hr]
      simp
  · rintro H3 ⟨S3, h3⟩
    have e : xs.length = rows.length := by rw [q.length, List.length_map]
    rw [e, List.take_length] at h3
    exact k D H3 S3 h3
theorem sne {a b : Str} (h : a ≠ b) : ¬ V.str a = V.str b := fun e => h (by cases e; rfl)
/-! ### small defs -/
abbrev sWord : Stmt := top 4
abbrev sNob : Stmt := top 7
def spWord : Sp := fun vs H Q _ => ∃ (v : V) (k : Kn), vs = [v] ∧ Tp H v k.d ∧ Q (.str k.word) H
abbrev nNob : List Str := ["face", "kind", "word", "inner", "rows", "name", "parts"]
def nameIn (z : Str) (rows : List (Str × PyData)) : Bool := decide (z ∈ rows.map (·.1))
def nobB (cs rs : List (Str × PyData)) : Kb → Bool
  | .rc z => !nameIn z rs
  | .ch z => !nameIn z cs
  | _ => false
def nobK (cs rs : List (Str × PyData)) : Kn → Bool
  | .one b => nobB cs rs b
  | .lst b => nobB cs rs b
def spNob (C : Addr) (ok : Kn → Prop) : Sp := fun vs H Q _ => ∃ (a : Addr) (v : V) (k : Kn) (cs rs : List (Str × PyData)), vs = [.ref a, v] ∧ FaceR C H a cs rs ∧ cs.length ≤ 100 ∧ rs.length ≤ 100 ∧ Tp H v k.d ∧ ok k ∧ ∀ H', Same H H' → Q (.bl (nobK cs rs k)) H'
def isOne (k : Kn) : Prop := ∃ b, k = .one b
section
variable {P : Program} {w : World} {K : PySem.W.Frag} {mg : Str → Option Value} {base : Heap}
theorem scWord : FnScope ["kind"] ["kind"] (defScope sWord) := ⟨rfl, rfl, rfl, by decide +kernel, rfl, by decide +kernel, by decide +kernel⟩
theorem scNob : FnScope nNob ["face", "kind"] (defScope sNob) := ⟨rfl, rfl, rfl, by decide +kernel, rfl, by decide +kernel, by decide +kernel⟩
theorem ok_word {f : Addr} {fd : FuncData} (F : Fun K "word_of" "word_of" sWord f fd) (G : Glb mg) : FnOk P w K mg base CX0 1 f fd ["kind"] spWord := by
  refine F.ok scWord (fun vs H Q E h => ?_) (fun cdv A outer s H vs Q E hr h => ?_)
  · obtain ⟨v, k, rfl, _⟩ := h
    rfl
  · obtain ⟨v, k, rfl, t, q⟩ := h
    refine ⟨_, pss_one (ps_ret (pe_ifExp (pt_val (pe_callB call_isi (by rfl) G.isi (by decide +kernel) (pa_cons (pv 0) (pa_cons (pe_bltn (v := .ty "str") rfl G.str (by decide +kernel) rfl) pa_nil)))) (pv 0) (pe_ix ix_tup (pv 0) pe_int (fun _ _ => rfl)))), ?_⟩
    rcases kn_inv t with ⟨rfl, _⟩ | ⟨a, u, rfl, ha, _⟩
    · exact ⟨_, rfl, _, _, .type "str", .type "str", true, rfl, .ty _, .base (.str _), rfl, true, rfl, iteT ⟨_, rfl, q⟩⟩
    · exact ⟨_, rfl, _, _, .type "tuple", .type "str", false, rfl, .ty _, .base (.tup ha), rfl, false, rfl, iteF ⟨_, rfl, a, _, _, _, rfl, rfl, SqT.of ha, rfl, q⟩⟩
theorem ok_nob {C f : Addr} {fd : FuncData} {n : Nat} {ok ok' : Kn → Prop} (F : Fun K "names_nobody" "names_nobody" sNob f fd) (G : Glb mg) (cl : Cls K C) (n3 : NoAttr K C "choices") (n4 : NoAttr K C "records") (DN : Has P w K mg base "names_nobody" n ["face", "kind"] (spNob C ok')) (hok : ∀ b, ok (.lst b) → ok' (.one b)) : FnOk P w K mg base CX0 (n + 1) f fd ["face", "kind"] (spNob C ok) := by
  refine F.ok scNob (fun vs H Q E h => ?_) (fun cdv A outer s H vs Q E hr h => ?_)
  · obtain ⟨a, v, k, cs, rs, rfl, _⟩ := h
    rfl
  · obtain ⟨a, v, k, cs, rs, rfl, hF, lc, lr, t, hk, q⟩ := h
    refine ⟨_, pss_cons (ps_if (pt_val (pe_callB call_isi (by rfl) G.isi (by decide +kernel) (pa_cons (pv 1) (pa_cons (pe_bltn (v := .ty "str") rfl G.str (by decide +kernel) rfl) pa_nil)))) (pss_one (ps_ret pe_bl)) pss_nil)
      (pss_cons (ps_asg (pv 1) (pg_tup rfl (pgs_cons (pg_name (i := 2) scNob.nd rfl (.inl rfl)) (pgs_cons (pg_name (i := 3) scNob.nd rfl (.inl rfl)) pgs_nil))))
      (pss_cons (ps_if (pt_cmpR op_eq (pv 2) pe_str (nomark _)) (pss_one (ps_ret (pe_has DN hr rfl (pa_cons (pv 0) (pa_cons (pv 3) pa_nil))))) pss_nil)
      (pss_cons (ps_set (i := 4) scNob.nd rfl (Or.inl rfl) (pe_ifExp (pt_cmpR op_eq (pv 2) pe_str (nomark _)) (pe_fld (pv 0) rfl) (pe_fld (pv 0) rfl)))
      (pss_one (ps_ret (pe_cmpR op_notIn_seq (pv 3) (pe_lc (own := [("name", 5), ("parts", 6)]) (g := gTup K 2 (gCons (gName 5) (gCons (gName 6) gNil))) (tt := tYes) (te := tVar 5) rfl scNob.nd (pi_tup (pv 4)) (blkOk_by (N := nNob) (sc := defScope sNob) (by decide +kernel))
        (fun _ _ _ _ _ => pg_tup rfl (pgs_cons (pg_name (i := 5) scNob.nd rfl (.inl rfl)) (pgs_cons (pg_name (i := 6) scNob.nd rfl (.inl rfl)) pgs_nil))) (fun _ _ _ _ _ => pts_nil) (fun _ _ _ _ _ => pv 5)) rfl)))))), ?_⟩
    obtain ⟨dx, v1, v2, v3, v4, v5, hA, t3, t4⟩ := id hF
    rcases kn_inv t with ⟨rfl, hp⟩ | ⟨b, u, rfl, hb, tu⟩
    · refine ⟨_, rfl, _, _, .type "str", .type "str", true, rfl, .ty _, .base (.str _), rfl, true, rfl, iteT ?_⟩
      have e : nobK cs rs k = false := by rcases hp with rfl | rfl | rfl <;> rfl
      rw [← e]
      exact q H (Same.refl H)
    · refine ⟨_, rfl, _, _, .type "tuple", .type "str", false, rfl, .ty _, .base (.tup hb), rfl, false, rfl, iteF ?_⟩
      refine ⟨_, rfl, b, _, rfl, SqT.of hb, rfl, _, _, rfl, _, _, rfl, rfl, ?_⟩
      refine ⟨_, rfl, rfl, _, rfl, ?_⟩
      cases k with
      | lst c =>
        refine ite2 (fun _ => ?_) (fun h => absurd (decide_eq_true rfl) h)
        exact ⟨_, rfl, _, rfl, a, u, .one c, cs, rs, rfl, hF, lc, lr, tu, hok c hk, q⟩
      | one c =>
        cases c with
        | whole => cases t
        | truth => cases t
        | text => cases t
        | rc z =>
          cases tu.istr
          refine ite2 (fun h => absurd (of_decide_eq_true h) (sne (by decide +kernel : ("record" : Str) ≠ "list"))) (fun _ => ?_)
          refine ⟨_, rfl, rfl, _, rfl, ?_⟩
          refine ite2 (fun h => absurd (of_decide_eq_true h) (sne (by decide +kernel : ("record" : Str) ≠ "choice"))) (fun _ => ?_)
          refine ⟨_, rfl, a, C, dx, _, _, rfl, hA, cl, n4, ff_records, ?_⟩
          refine ⟨_, rfl, lc_names (v := v4) (fun R hR => ⟨_, rfl, hR⟩) t4 lr (fun _ _ => rfl) (fun _ _ => rfl) fun D H' S' hD => ?_⟩
          refine ⟨D, _, rfl, .inl (SqL.of hD), rfl, by simp [flatV], ?_⟩
          rw [in_strs]
          exact q H' S'
        | ch z =>
          cases tu.istr
          refine ite2 (fun h => absurd (of_decide_eq_true h) (sne (by decide +kernel : ("choice" : Str) ≠ "list"))) (fun _ => ?_)
          refine ⟨_, rfl, rfl, _, rfl, ?_⟩
          refine ite2 (fun _ => ?_) (fun h => absurd (decide_eq_true rfl) h)
          refine ⟨_, rfl, a, C, dx, _, _, rfl, hA, cl, n3, ff_choices, ?_⟩
          refine ⟨_, rfl, lc_names (v := v3) (fun R hR => ⟨_, rfl, hR⟩) t3 lc (fun _ _ => rfl) (fun _ _ => rfl) fun D H' S' hD => ?_⟩
          refine ⟨D, _, rfl, .inl (SqL.of hD), rfl, by simp [flatV], ?_⟩
          rw [in_strs]
          exact q H' S'
end
end Fh

set_option Elab.async false
set_option linter.all false
set_option maxRecDepth 100000
set_option maxHeartbeats 4000000
namespace Fh
open PySem L2 PyProof.Rows
abbrev sOptions : Stmt := inClass (top 56) 4
abbrev sNum : Stmt := top 8
abbrev sDigits : Stmt := top 15
abbrev sTold : Stmt := top 16
abbrev sPart : Stmt := top 17
abbrev sFSize : Stmt := top 18
def spOptions (C : Addr) : Sp := fun vs H Q _ => ∃ (a : Addr) (z : Str) (cs rs : List (Str × PyData)) (d : PyData), vs = [.ref a, .str z] ∧ FaceR C H a cs rs ∧ cs.lookup z = some d ∧ ∀ v, Tp H v d → Q v H
def optsD (os : List (Int × Str)) : PyData := .tuple (os.map fun o => .tuple [.int o.1, .str o.2])
structure OptsOk (os : List (Int × Str)) : Prop where
  ne : os ≠ []
  len : os.length ≤ 100
  nd : (os.map (·.2)).Nodup
  rg : ∀ o ∈ os, 1 ≤ o.1 ∧ o.1 ≤ 200
def spNum (C : Addr) : Sp := fun vs H Q _ => ∃ (a : Addr) (v x : V) (k : Kn) (cs rs : List (Str × PyData)), vs = [.ref a, v, x] ∧ FaceR C H a cs rs ∧ Tp H v k.d ∧
  ((k = .one .whole ∧ ∃ i, x = .int i ∧ Q (.int i) H) ∨ (k = .one .truth ∧ ∃ b, x = .bl b ∧ Q (.int (if b = true then 1 else 0)) H) ∨
    ∃ z os n u, k = .one (.ch z) ∧ cs.lookup z = some (optsD os) ∧ OptsOk os ∧ (n, u) ∈ os ∧ x = .str u ∧ ∀ H', Same H H' → Q (.int n) H')
/-- one digit -/
def spDigits : Sp := fun vs H Q _ => ∃ (n : Int), vs = [.int n] ∧ 1 ≤ n ∧ n ≤ 255 ∧ ∀ (p : Addr) (H' : Hp) (x : V), Same H H' → H p = none → H' p = some (.lst [x]) → Q (.ref p) H'
/-- how many numbers tell a size -/
def toldN (n : Int) : Int := if n < 200 then 1 else 2
def spTold : Sp := fun vs H Q _ => ∃ (n : Int), vs = [.int n] ∧ 0 ≤ n ∧ ∀ (p : Addr) (H' : Hp) (xs : List V), Same H H' → H p = none → H' p = some (.lst xs) → (xs.length : Int) = toldN n → Q (.ref p) H'
def spPart : Sp := fun vs H Q _ => ∃ (n : Int), vs = [.int n] ∧ 0 ≤ n ∧ ∀ (H' : Hp), Same H H' → Q (.int (toldN n + n)) H'
def fsz (n : Int) : Int := 2 + (toldN n + n)
def spFSize : Sp := fun vs H Q _ => ∃ (n : Int), vs = [.int n] ∧ 0 ≤ n ∧ ∀ (H' : Hp), Same H H' → Q (.int (fsz n)) H'
/-- the modules' numbers -/
structure Nums (mg : Str → Option Value) : Prop where
  base : ∃ t, mg "BASE" = some (.int 256 t)
  long : ∃ t, mg "FIRST_LONG_SIZE" = some (.int 200 t)
  least : ∃ t, mg "GREATEST_LEAST" = some (.int 60 t)
theorem opts_one {os : List (Int × Str)} {n : Int} {u : Str} (nd : (os.map (·.2)).Nodup) (h : (n, u) ∈ os) : os.filter (fun o => decide (o.2 = u)) = [(n, u)] := by
  induction os with
  | nil => cases h
  | cons o r ih =>
    rw [List.map_cons, List.nodup_cons] at nd
    rcases List.mem_cons.mp h with rfl | h2
    · have e : r.filter (fun o => decide (o.2 = u)) = [] := by
        rw [List.filter_eq_nil_iff]
        intro x hx
        rw [decide_eq_true_eq]
        exact fun q => nd.1 (List.mem_map.mpr ⟨x, hx, q⟩)
      rw [List.filter_cons, if_pos (decide_eq_true rfl), e]
    · have ne : ¬ o.2 = u := fun q => nd.1 (List.mem_map.mpr ⟨(n, u), h2, q.symm⟩)
      rw [List.filter_cons, if_neg (by rw [decide_eq_true_eq]; exact ne)]
      exact ih nd.2 h2
theorem opts_at {H : Hp} {xs : List V} {os : List (Int × Str)} {i : Nat} {x : V} (q : TpAll H xs (os.map fun o => .tuple [.int o.1, .str o.2])) (e : xs[i]? = some x) :
    ∃ o t, os[i]? = some o ∧ x = .ref t ∧ H t = some (.tup [.int o.1, .str o.2]) := by
  obtain ⟨d, e2, tx⟩ := q.get' e
  rw [List.getElem?_map] at e2
  cases hr : os[i]? with
  | none => rw [hr] at e2; cases e2
  | some o =>
    rw [hr] at e2
    cases e2
    obtain ⟨t, y, u, rfl, ht, ty, tu⟩ := tx.pair
    rw [ty.iint, tu.istr] at ht
    exact ⟨o, t, rfl, rfl, ht⟩
section
variable {P : Program} {w : World} {K : PySem.W.Frag} {mg : Str → Option Value} {base : Heap}
abbrev nOptions : List Str := ["self", "choice", "name", "options"]
theorem scOptions : FnScope nOptions ["self", "choice"] (defScope sOptions) := ⟨rfl, rfl, rfl, by decide +kernel, rfl, by decide +kernel, by decide +kernel⟩
theorem ok_options {C f : Addr} {fd : FuncData} (F : Fun K "options_of" "Face.options_of" sOptions f fd) (cl : Cls K C) (n3 : NoAttr K C "choices") : FnOk P w K mg base CX0 1 f fd ["self", "choice"] (spOptions C) := by
  refine F.ok scOptions (fun vs H Q E h => ?_) (fun cdv A outer s H vs Q E hr h => ?_)
  · obtain ⟨a, z, cs, rs, d, rfl, _⟩ := h
    rfl
  · obtain ⟨a, z, cs, rs, d, rfl, ⟨dx, v1, v2, v3, v4, v5, hA, t3, t4⟩, hl, k⟩ := h
    refine ⟨_, pss_cons (ps_for PassesOwn.never rfl (pi_tup (pe_fld (pv 0) rfl)) (pg_tup rfl (pgs_cons (pg_name (i := 2) scOptions.nd rfl (.inl rfl)) (pgs_cons (pg_name (i := 3) scOptions.nd rfl (.inl rfl)) pgs_nil)))
        (pss_one (ps_if (pt_cmpR op_eq (pv 2) (pv 1) (nomark _)) (pss_one (ps_ret (pv 3))) pss_nil))) (pss_one ps_never), ?_⟩
    obtain ⟨b, xs, rfl, hb, q⟩ := TpR.inv t3
    refine ⟨_, rfl, a, C, dx, _, _, rfl, hA, cl, n3, ff_choices, b, rfl, ⟨_, .inl hb⟩, ?_⟩
    refine for_tup (xs := xs) (fun i σ H3 => H3 = H ∧ (∃ a2 a3, σ = [some (.ref a), some (.str z), a2, a3]) ∧ ∀ (j : Nat) (r : Str × PyData), j < i → cs[j]? = some r → r.1 ≠ z) ?_ ?_ ?_ ?_
    · exact ⟨rfl, ⟨_, _, rfl⟩, fun j r hj => absurd hj (Nat.not_lt_zero _)⟩
    · rintro i σ H3 _ ⟨rfl, _⟩
      exact .inl hb
    · rintro i x σ H3 hx ⟨rfl, ⟨a2, a3, rfl⟩, hB⟩
      obtain ⟨r, t, u, hr', rfl, ht, tu⟩ := rows_at q hx
      refine ⟨t, _, rfl, SqT.of ht, rfl, _, _, rfl, _, _, rfl, rfl, ?_⟩
      refine ⟨_, rfl, _, rfl, rfl, _, rfl, ?_⟩
      refine ite2 (fun h => ?_) (fun h => ?_)
      · have e : r.1 = z := by
          have := of_decide_eq_true h
          cases this
          rfl
        have e2 := look_first hl hr' e hB
        rw [e2] at tu
        exact ⟨_, rfl, k _ tu⟩
      · have e : r.1 ≠ z := fun q => h (decide_eq_true (by rw [q]))
        refine ⟨rfl, ⟨_, _, rfl⟩, fun j s hj hs => ?_⟩
        by_cases ej : j = i
        · rw [ej, hr'] at hs
          cases hs
          exact e
        · exact hB j s (by omega) hs
    · rintro σ H3 ⟨rfl, _, hB⟩
      obtain ⟨i, hi, e⟩ := look_at hl
      have el : xs.length = cs.length := by rw [q.length, List.length_map]
      exact hB i cs[i] (by omega) (List.getElem?_eq_getElem hi) e
abbrev nNum : List Str := ["face", "kind", "value", "word", "number", "option"]
theorem scNum : FnScope nNum ["face", "kind", "value"] (defScope sNum) := ⟨rfl, rfl, rfl, by decide +kernel, rfl, by decide +kernel, by decide +kernel⟩
theorem ok_num {C f : Addr} {fd : FuncData} (F : Fun K "number_of" "number_of" sNum f fd) (DW : Has P w K mg base "word_of" 1 ["kind"] spWord) (DO : HasM P w K mg base C "options_of" 1 ["self", "choice"] (spOptions C)) : FnOk P w K mg base CX0 2 f fd ["face", "kind", "value"] (spNum C) := by
  refine F.ok scNum (fun vs H Q E h => ?_) (fun cdv A outer s H vs Q E hr h => ?_)
  · obtain ⟨a, v, x, k, cs, rs, rfl, _⟩ := h
    rfl
  · obtain ⟨a, v, x, k, cs, rs, rfl, hF, t, hh⟩ := h
    refine ⟨_, pss_cons (ps_set (i := 3) scNum.nd rfl (Or.inl rfl) (pe_has DW hr rfl (pa_cons (pv 1) pa_nil)))
      (pss_cons (ps_if (pt_cmpR op_eq (pv 3) pe_str (nomark _)) (pss_one (ps_ret (pe_ix ix_list (pe_lc (own := [("number", 4), ("option", 5)]) (g := gTup K 2 (gCons (gName 4) (gCons (gName 5) gNil))) (te := tVar 4) rfl scNum.nd (pi_tup (pe_hasM DO hr (pv 0) (pa_cons (pe_ix ix_tup (pv 1) pe_int (fun _ _ => rfl)) pa_nil))) (blkOk_by (N := nNum) (sc := defScope sNum) (by decide +kernel))
        (fun _ _ _ _ _ => pg_tup rfl (pgs_cons (pg_name (i := 4) scNum.nd rfl (.inl rfl)) (pgs_cons (pg_name (i := 5) scNum.nd rfl (.inl rfl)) pgs_nil))) (fun _ _ _ _ _ => pts_one (pt_cmpR op_eq (pv 5) (pv 2) (nomark _))) (fun _ _ _ _ _ => pv 4)) pe_int (fun _ _ => rfl)))) pss_nil)
      (pss_cons (ps_if (pt_cmpR op_eq (pv 3) pe_str (nomark _)) (pss_one (ps_ret (pe_ifExp (pt_val (pv 2)) pe_int pe_int))) pss_nil)
      (pss_one (ps_ret (pv 2))))), ?_⟩
    refine ⟨_, rfl, v, k, rfl, t, ?_⟩
    refine ⟨_, rfl, rfl, _, rfl, ?_⟩
    rcases hh with ⟨rfl, i, rfl, q⟩ | ⟨rfl, b, rfl, q⟩ | ⟨z, os, n, u, rfl, hl, ok, hm, rfl, q⟩
    · refine ite2 (fun h => absurd (of_decide_eq_true h) (sne (by decide +kernel : ("whole" : Str) ≠ "choice"))) (fun _ => ?_)
      refine ⟨_, rfl, rfl, _, rfl, ?_⟩
      refine ite2 (fun h => absurd (of_decide_eq_true h) (sne (by decide +kernel : ("whole" : Str) ≠ "truth"))) (fun _ => ?_)
      exact ⟨_, rfl, q⟩
    · refine ite2 (fun h => absurd (of_decide_eq_true h) (sne (by decide +kernel : ("truth" : Str) ≠ "choice"))) (fun _ => ?_)
      refine ⟨_, rfl, rfl, _, rfl, ?_⟩
      refine ite2 (fun _ => ?_) (fun h => absurd (decide_eq_true rfl) h)
      refine ⟨_, rfl, b, rfl, ?_⟩
      cases b with
      | true => exact iteT q
      | false => exact iteF q
    · refine ite2 (fun _ => ?_) (fun h => absurd (decide_eq_true rfl) h)
      rcases kn_inv t with ⟨_, h | h | h⟩ | ⟨b, y, rfl, hb, ty⟩
      · cases h
      · cases h
      · cases h
      cases ty.istr
      obtain ⟨dx, v1, v2, v3, v4, v5, hA, t3, t4⟩ := id hF
      refine ⟨_, rfl, a, dx, _, rfl, hA, ?_, _, rfl, b, _, _, _, rfl, rfl, SqT.of hb, rfl, a, z, cs, rs, _, rfl, hF, hl, fun ov tv => ?_⟩
      · unfold ff
        rw [lookup_putF, if_neg (by decide +kernel), lookup_putF, if_neg (by decide +kernel), lookup_putF, if_neg (by decide +kernel), lookup_putF, if_neg (by decide +kernel), lookup_putF, if_neg (by decide +kernel)]
        rfl
      obtain ⟨c, xs, rfl, hc, tq⟩ := Tp.inv tv
      refine ⟨c, rfl, ⟨_, SqT.of hc⟩, fun D hD => ?_⟩
      refine lc_tup (xs := xs) (fun i H3 => Same H H3 ∧ H3 D = some (.lst (((os.take i).filter (fun o => decide (o.2 = u))).map fun o => V.int o.1))) ?_ ?_ ?_ ?_
      · exact ⟨Same.new hD, upd_same⟩
      · rintro i H3 _ ⟨S3, _⟩
        exact SqT.of (S3 _ _ hc)
      · rintro i x H3 hx ⟨S3, h3⟩
        obtain ⟨o, t, ho, rfl, ht⟩ := opts_at tq hx
        refine ⟨t, _, rfl, SqT.of (S3 _ _ ht), rfl, _, _, rfl, _, _, rfl, rfl, rfl, ?_⟩
        refine ⟨_, rfl, _, rfl, rfl, _, rfl, ?_⟩
        refine ite2 (fun h => ?_) (fun h => ?_)
        · have e : o.2 = u := by
            have := of_decide_eq_true h
            cases this
            rfl
          refine ⟨_, rfl, _, h3, ?_, Same.wr S3 hD, ?_⟩
          · rw [List.length_map]
            refine Nat.lt_of_le_of_lt (List.length_filter_le _ _) ?_
            rw [List.length_take]
            exact Nat.lt_of_le_of_lt (Nat.min_le_right _ _) (Nat.lt_of_le_of_lt ok.len (by decide))
          · rw [upd_same, List.take_add_one, ho]
            simp [e]
        · have e : ¬ o.2 = u := fun q => h (decide_eq_true (by rw [q]))
          refine ⟨S3, ?_⟩
          rw [h3, List.take_add_one, ho]
          simp [e]
      · rintro H3 ⟨S3, h3⟩
        have el : xs.length = os.length := by rw [tq.length, List.length_map]
        rw [el, List.take_length, opts_one ok.nd hm] at h3
        exact ⟨D, _, _, _, rfl, rfl, SqL.of h3, rfl, q H3 S3⟩
end
end Fh

set_option Elab.async false
set_option linter.all false
set_option maxRecDepth 100000
set_option maxHeartbeats 4000000
namespace Fh
open PySem L2 PyProof.Rows
section
variable {P : Program} {w : World} {K : PySem.W.Frag} {mg : Str → Option Value} {base : Heap}
abbrev nDigits : List Str := ["number", "digits", "digit"]
theorem scDigits : FnScope nDigits ["number"] (defScope sDigits) := ⟨rfl, rfl, rfl, by decide +kernel, rfl, by decide +kernel, by decide +kernel⟩
theorem scTold : FnScope ["size"] ["size"] (defScope sTold) := ⟨rfl, rfl, rfl, by decide +kernel, rfl, by decide +kernel, by decide +kernel⟩
theorem scPart : FnScope ["size"] ["size"] (defScope sPart) := ⟨rfl, rfl, rfl, by decide +kernel, rfl, by decide +kernel, by decide +kernel⟩
theorem scFSize : FnScope ["size"] ["size"] (defScope sFSize) := ⟨rfl, rfl, rfl, by decide +kernel, rfl, by decide +kernel, by decide +kernel⟩
theorem ok_digits {f : Addr} {fd : FuncData} (F : Fun K "digits_of" "digits_of" sDigits f fd) (G : Glb mg) (N : Nums mg) : FnOk P w K mg base CX0 1 f fd ["number"] spDigits := by
  obtain ⟨tB, hB⟩ := N.base
  refine F.ok scDigits (fun vs H Q E h => ?_) (fun cdv A outer s H vs Q E hr h => ?_)
  · obtain ⟨n, rfl, _⟩ := h
    rfl
  · obtain ⟨n, rfl, n0, n1, k⟩ := h
    refine ⟨_, pss_cons (ps_set (i := 1) scDigits.nd rfl (Or.inl rfl) (pe_lst pa_nil))
      (pss_cons (ps_while PassesOwn.never (pt_cmpR op_gt (pv 0) pe_int (nomark _))
        (pss_cons (ps_asg (pe_callB call_divmod (by rfl) G.divmod (by decide +kernel) (pa_cons (pv 0) (pa_cons (pe_glob (v := .int 256) rfl hB ⟨_, rfl⟩) pa_nil))) (pg_tup rfl (pgs_cons (pg_name (i := 0) scDigits.nd rfl (.inl rfl)) (pgs_cons (pg_name (i := 2) scDigits.nd rfl (.inl rfl)) pgs_nil))))
        (pss_one (ps_expr (pe_bm PySem.F.plainAttrs_list PySem.F.slot_list_append PySem.F.type_list_append mt_append (pv 1) (pa_cons (pv 2) pa_nil))))))
      (pss_one (ps_ret (pe_revL (pv 1))))), ?_⟩
    refine ⟨Nat.zero_le _, fun p hp => ?_⟩
    refine while_by (fun σ H3 => ∃ (m : Int) (ds : List V) (a2 : Option V), σ = [some (.int m), some (.ref p), a2] ∧ Same H H3 ∧ H3 p = some (.lst ds) ∧ ((m = n ∧ ds = []) ∨ (m = 0 ∧ ∃ x, ds = [x]))) (fun σ _ => match σ with | some (.int m) :: _ => m.toNat | _ => 0) ?_ ?_ ?_
    · exact ⟨n, [], none, rfl, Same.new hp, upd_same, .inl ⟨rfl, rfl⟩⟩
    · rintro σ H3 ⟨m, ds, a2, rfl, S3, hp3, hm⟩
      refine ⟨_, rfl, _, _, rfl, rfl, _, rfl, ?_⟩
      refine ite2 (fun h => ?_) (fun h => ?_)
      · have hm0 : m > 0 := of_decide_eq_true h
        rcases hm with ⟨rfl, rfl⟩ | ⟨rfl, _⟩
        · have e0 : m / 256 = 0 := Int.ediv_eq_zero_of_lt (by omega) (by omega)
          refine ⟨_, rfl, m, 256, rfl, ⟨by decide, by decide⟩, fun t ht => ?_⟩
          refine ⟨t, _, rfl, SqT.of upd_same, rfl, _, _, rfl, _, _, rfl, rfl, ?_⟩
          have S4 : Same H (upd H3 t (.tup [.int (m / 256), .int (m % 256)])) := fun a o e => Same.new ht a o (S3 a o e)
          have hp4 : (upd H3 t (.tup [.int (m / 256), .int (m % 256)])) p = some (.lst []) := Same.new ht p _ hp3
          refine ⟨_, rfl, .inl ⟨rfl, _, SqL.of hp4⟩, _, rfl, p, _, _, rfl, rfl, hp4, by decide, ?_⟩
          refine ⟨⟨m / 256, [.int (m % 256)], _, rfl, Same.wr S4 hp, upd_same, .inr ⟨e0, _, rfl⟩⟩, ?_⟩
          show (m / 256).toNat < m.toNat
          omega
        · exact absurd hm0 (by decide)
      · have hm1 : ¬ m > 0 := fun z => h (decide_eq_true z)
        rcases hm with ⟨rfl, _⟩ | ⟨_, x, rfl⟩
        · omega
        · exact ⟨_, rfl, p, _, rfl, SqL.of hp3, fun r hr' => k r _ x (fun a o e => Same.new hr' a o (S3 a o e)) (Same.free S3 hr') upd_same⟩
    · rintro σ H Q Q' m ⟨v, e1, i, j, ea, eb, c, ec, q⟩
      exact ⟨v, e1, i, j, ea, eb, c, ec, m _ _ q⟩
theorem ok_told {f : Addr} {fd : FuncData} (F : Fun K "told_size" "told_size" sTold f fd) (N : Nums mg) : FnOk P w K mg base CX0 1 f fd ["size"] spTold := by
  obtain ⟨tB, hB⟩ := N.base
  obtain ⟨tL, hL⟩ := N.long
  refine F.ok scTold (fun vs H Q E h => ?_) (fun cdv A outer s H vs Q E hr h => ?_)
  · obtain ⟨n, rfl, _⟩ := h
    rfl
  · obtain ⟨n, rfl, n0, k⟩ := h
    refine ⟨_, pss_cons (ps_if (pt_cmpR op_lt (pv 0) (pe_glob (v := .int 200) rfl hL ⟨_, rfl⟩) (nomark _)) (pss_one (ps_ret (pe_lst (pa_cons (pv 0) pa_nil)))) pss_nil)
      (pss_one (ps_ret (pe_lst (pa_cons (pe_op op_add (pe_glob (v := .int 200) rfl hL ⟨_, rfl⟩) (pe_op op_fdiv (pv 0) (pe_glob (v := .int 256) rfl hB ⟨_, rfl⟩))) (pa_cons (pe_op op_mod (pv 0) (pe_glob (v := .int 256) rfl hB ⟨_, rfl⟩)) pa_nil))))), ?_⟩
    refine ⟨_, rfl, _, _, rfl, rfl, _, rfl, ?_⟩
    refine ite2 (fun hlt => ?_) (fun hlt => ?_)
    · exact ⟨_, rfl, (by show 1 ≤ sizeLine; decide), fun p hp => k p _ _ (Same.new hp) hp upd_same (by unfold toldN; rw [if_pos (of_decide_eq_true hlt)]; rfl)⟩
    · exact ⟨_, rfl, _, _, rfl, rfl, ⟨by decide, by decide⟩, _, _, rfl, rfl, _, rfl, _, _, rfl, rfl, (by show (0 : Int) < 256; decide), (by show 2 ≤ sizeLine; decide), fun p hp => k p _ _ (Same.new hp) hp upd_same (by unfold toldN; rw [if_neg (fun z => hlt (decide_eq_true z))]; rfl)⟩
theorem ok_part {f : Addr} {fd : FuncData} (F : Fun K "part_size" "part_size" sPart f fd) (G : Glb mg) (DT : Has P w K mg base "told_size" 1 ["size"] spTold) : FnOk P w K mg base CX0 2 f fd ["size"] spPart := by
  refine F.ok scPart (fun vs H Q E h => ?_) (fun cdv A outer s H vs Q E hr h => ?_)
  · obtain ⟨n, rfl, _⟩ := h
    rfl
  · obtain ⟨n, rfl, n0, k⟩ := h
    refine ⟨_, pss_one (ps_ret (pe_op op_add (pe_callB call_len_seq (by rfl) G.len PySem.boot_len (pa_cons (pe_has DT hr rfl (pa_cons (pv 0) pa_nil)) pa_nil)) (pv 0))), ?_⟩
    refine ⟨_, rfl, n, rfl, n0, fun p H' xs S hp hx hl => ?_⟩
    refine ⟨p, _, rfl, .inl (SqL.of hx), _, rfl, _, _, rfl, rfl, ?_⟩
    rw [hl]
    exact k H' S
theorem ok_fsize {f : Addr} {fd : FuncData} (F : Fun K "field_size" "field_size" sFSize f fd) (DP : Has P w K mg base "part_size" 2 ["size"] spPart) : FnOk P w K mg base CX0 3 f fd ["size"] spFSize := by
  refine F.ok scFSize (fun vs H Q E h => ?_) (fun cdv A outer s H vs Q E hr h => ?_)
  · obtain ⟨n, rfl, _⟩ := h
    rfl
  · obtain ⟨n, rfl, n0, k⟩ := h
    refine ⟨_, pss_one (ps_ret (pe_op op_add pe_int (pe_has DP hr rfl (pa_cons (pv 0) pa_nil)))), ?_⟩
    refine ⟨_, rfl, n, rfl, n0, fun H' S => ?_⟩
    exact ⟨_, _, rfl, rfl, k H' S⟩
end
end Fh

set_option Elab.async false
set_option linter.all false
set_option maxRecDepth 100000
set_option maxHeartbeats 4000000
namespace Fh
open PySem L2 PyProof.Rows
abbrev sNin : Stmt := top 6
abbrev sLeastOf : Stmt := top 36
abbrev sLSize : Stmt := top 38
/-- the name in a kind -/
def Kb.nm : Kb → Option Str
  | .rc z => some z
  | .ch z => some z
  | _ => none
def Kn.nm : Kn → Option Str
  | .one b => b.nm
  | .lst b => b.nm
def spNin (ok : Kn → Prop) : Sp := fun vs H Q _ => ∃ (v : V) (k : Kn) (z : Str), vs = [v] ∧ Tp H v k.d ∧ k.nm = some z ∧ ok k ∧ Q (.str z) H
abbrev nNin : List Str := ["kind", "word", "inner"]
abbrev nLeastOf : List Str := ["face", "kind", "word", "fields", "number", "name", "inner", "need"]
/-- of a choice -/
def spLeastOf (C : Addr) : Sp := fun vs H Q _ => ∃ (a : Addr) (v : V) (z : Str) (cs rs : List (Str × PyData)) (n : Int) (u : Str), vs = [.ref a, v] ∧ FaceR C H a cs rs ∧ Tp H v (Kn.one (.ch z)).d ∧ cs.lookup z = some (optsD [(n, u)]) ∧ Q (.str u) H
/-! ### the sizes of records, reckoned -/
abbrev Szs := Str → Option Int
def kSz (cs rs : List (Str × PyData)) (D : Szs) (k : Kn) : Option Int := if nobK cs rs k = true then none else match k with
  | .lst _ => some 1
  | .one (.rc z) => D z
  | .one (.ch _) => some 1
  | .one _ => some 0
def optV : Option Int → V
  | none => .non
  | some v => .int v
/-- a dict has these sizes -/
def DOf (kvs : List (Key × V)) (D : Szs) : Prop := ∀ z, valV kvs (.inr z) = (D z).map V.int
/-- every choice has one option with a small number -/
def Cs1 (cs : List (Str × PyData)) : Prop := ∀ z, nameIn z cs = true → ∃ (n : Int) (u : Str), cs.lookup z = some (optsD [(n, u)]) ∧ 1 ≤ n ∧ n ≤ 200
abbrev nLSize : List Str := ["face", "kind", "sizes", "word"]
def spLSize (C : Addr) : Sp := fun vs H Q _ => ∃ (a d : Addr) (v : V) (k : Kn) (cs rs : List (Str × PyData)) (kvs : List (Key × V)) (D : Szs), vs = [.ref a, v, .ref d] ∧ FaceR C H a cs rs ∧ cs.length ≤ 100 ∧ rs.length ≤ 100 ∧ Tp H v k.d ∧ Cs1 cs ∧
  H d = some (.dK kvs) ∧ DOf kvs D ∧ ∀ (H' : Hp), Same H H' → Q (optV (kSz cs rs D k)) H'
theorem ff_meth {m : Str} {v1 v2 v3 v4 v5 : V} (h1 : m ≠ "name") (h2 : m ≠ "edition") (h3 : m ≠ "choices") (h4 : m ≠ "records") (h5 : m ≠ "calls") : (ff v1 v2 v3 v4 v5).lookup m = none := by
  unfold ff
  rw [lookup_putF, if_neg h5, lookup_putF, if_neg h4, lookup_putF, if_neg h3, lookup_putF, if_neg h2, lookup_putF, if_neg h1]
  rfl
theorem ff_options {v1 v2 v3 v4 v5 : V} : (ff v1 v2 v3 v4 v5).lookup ("options_of" : Str) = none := ff_meth (by decide +kernel) (by decide +kernel) (by decide +kernel) (by decide +kernel) (by decide +kernel)
section
variable {P : Program} {w : World} {K : PySem.W.Frag} {mg : Str → Option Value} {base : Heap}
theorem scNin : FnScope nNin ["kind"] (defScope sNin) := ⟨rfl, rfl, rfl, by decide +kernel, rfl, by decide +kernel, by decide +kernel⟩
theorem ok_nin {f : Addr} {fd : FuncData} {n : Nat} {ok ok' : Kn → Prop} (F : Fun K "name_in" "name_in" sNin f fd) (DN : Has P w K mg base "name_in" n ["kind"] (spNin ok')) (hok : ∀ b, ok (.lst b) → ok' (.one b)) : FnOk P w K mg base CX0 (n + 1) f fd ["kind"] (spNin ok) := by
  refine F.ok scNin (fun vs H Q E h => ?_) (fun cdv A outer s H vs Q E hr h => ?_)
  · obtain ⟨v, k, z, rfl, _⟩ := h
    rfl
  · obtain ⟨v, k, z, rfl, t, hz, hk, q⟩ := h
    refine ⟨_, pss_cons (ps_asg (pv 0) (pg_tup rfl (pgs_cons (pg_name (i := 1) scNin.nd rfl (.inl rfl)) (pgs_cons (pg_name (i := 2) scNin.nd rfl (.inl rfl)) pgs_nil))))
      (pss_one (ps_ret (pe_ifExp (pt_cmpR op_eq (pv 1) pe_str (nomark _)) (pe_has DN hr rfl (pa_cons (pv 2) pa_nil)) (pv 2)))), ?_⟩
    rcases kn_inv t with ⟨rfl, hp⟩ | ⟨b, u, rfl, hb, tu⟩
    · exfalso
      rcases hp with rfl | rfl | rfl <;> cases hz
    · refine ⟨_, rfl, b, _, rfl, SqT.of hb, rfl, _, _, rfl, _, _, rfl, rfl, ?_⟩
      refine ⟨_, rfl, rfl, _, rfl, ?_⟩
      cases k with
      | lst c =>
        refine ite2 (fun _ => ?_) (fun h => absurd (decide_eq_true rfl) h)
        exact ⟨_, rfl, u, .one c, z, rfl, tu, hz, hok c hk, q⟩
      | one c =>
        cases c with
        | whole => cases hz
        | truth => cases hz
        | text => cases hz
        | rc y =>
          cases hz
          cases tu.istr
          refine ite2 (fun h => absurd (of_decide_eq_true h) (sne (by decide +kernel : ("record" : Str) ≠ "list"))) (fun _ => ?_)
          exact ⟨_, rfl, q⟩
        | ch y =>
          cases hz
          cases tu.istr
          refine ite2 (fun h => absurd (of_decide_eq_true h) (sne (by decide +kernel : ("choice" : Str) ≠ "list"))) (fun _ => ?_)
          exact ⟨_, rfl, q⟩
theorem scLeastOf : FnScope nLeastOf ["face", "kind"] (defScope sLeastOf) := ⟨rfl, rfl, rfl, by decide +kernel, rfl, by decide +kernel, by decide +kernel⟩
theorem ok_leastOf {C f : Addr} {fd : FuncData} (F : Fun K "least_of" "least_of" sLeastOf f fd) (DW : Has P w K mg base "word_of" 1 ["kind"] spWord) (DO : HasM P w K mg base C "options_of" 1 ["self", "choice"] (spOptions C)) : FnOk P w K mg base CX0 2 f fd ["face", "kind"] (spLeastOf C) := by
  refine F.ok scLeastOf (fun vs H Q E h => ?_) (fun cdv A outer s H vs Q E hr h => ?_)
  · obtain ⟨a, v, z, cs, rs, n, u, rfl, _⟩ := h
    rfl
  · obtain ⟨a, v, z, cs, rs, n, u, rfl, hF, t, hl, q⟩ := h
    refine ⟨_, pss_cons (ps_set (i := 2) scLeastOf.nd rfl (Or.inl rfl) (pe_has DW hr rfl (pa_cons (pv 1) pa_nil)))
      (pss_cons (ps_if (pt_cmpR op_eq (pv 2) pe_str (nomark _)) pss_never pss_nil)
      (pss_cons (ps_if (pt_cmpR op_eq (pv 2) pe_str (nomark _)) (pss_one (ps_ret (pe_ix ix_tup (pe_ix ix_tup (pe_hasM DO hr (pv 0) (pa_cons (pe_ix ix_tup (pv 1) pe_int (fun _ _ => rfl)) pa_nil)) pe_int (fun _ _ => rfl)) pe_int (fun _ _ => rfl)))) pss_nil)
      pss_never)), ?_⟩
    refine ⟨_, rfl, v, _, rfl, t, ?_⟩
    refine ⟨_, rfl, rfl, _, rfl, ?_⟩
    refine ite2 (fun h => absurd (of_decide_eq_true h) (sne (by decide +kernel : ("choice" : Str) ≠ "record"))) (fun _ => ?_)
    refine ⟨_, rfl, rfl, _, rfl, ?_⟩
    refine ite2 (fun _ => ?_) (fun h => absurd (decide_eq_true rfl) h)
    obtain ⟨b, x, y, rfl, hb, hx, hy⟩ := Tp.pair t
    cases hy.istr
    obtain ⟨dx, v1, v2, v3, v4, v5, hA, t3, t4⟩ := id hF
    refine ⟨_, rfl, a, dx, _, rfl, hA, ff_options, _, rfl, b, _, _, _, rfl, rfl, SqT.of hb, rfl, a, z, cs, rs, _, rfl, hF, hl, fun ov tv => ?_⟩
    obtain ⟨c, xs, rfl, hc, tq⟩ := Tp.inv tv
    obtain ⟨o, r, rfl, to, tq⟩ := tq.icons
    cases tq.inil
    obtain ⟨e, i, w', rfl, he, hi, hw⟩ := Tp.pair to
    cases hw.istr
    refine ⟨c, _, _, _, rfl, rfl, SqT.of hc, rfl, e, _, _, _, rfl, rfl, SqT.of he, rfl, q⟩
end
end Fh

set_option Elab.async false
set_option linter.all false
set_option maxRecDepth 100000
set_option maxHeartbeats 4000000
namespace Fh
open PySem L2 PyProof.Rows
section
variable {P : Program} {w : World} {K : PySem.W.Frag} {mg : Str → Option Value} {base : Heap}
theorem scLSize : FnScope nLSize ["face", "kind", "sizes"] (defScope sLSize) := ⟨rfl, rfl, rfl, by decide +kernel, rfl, by decide +kernel, by decide +kernel⟩
theorem ok_lsize {C f : Addr} {fd : FuncData} (F : Fun K "least_size" "least_size" sLSize f fd) (G : Glb mg) (DN : Has P w K mg base "names_nobody" 3 ["face", "kind"] (spNob C fun _ => True)) (DW : Has P w K mg base "word_of" 1 ["kind"] spWord) (DD : Has P w K mg base "digits_of" 1 ["number"] spDigits)
    (DU : Has P w K mg base "number_of" 2 ["face", "kind", "value"] (spNum C)) (DL : Has P w K mg base "least_of" 2 ["face", "kind"] (spLeastOf C)) : FnOk P w K mg base CX0 4 f fd ["face", "kind", "sizes"] (spLSize C) := by
  refine F.ok scLSize (fun vs H Q E h => ?_) (fun cdv A outer s H vs Q E hr h => ?_)
  · obtain ⟨a, d, v, k, cs, rs, kvs, D, rfl, _⟩ := h
    rfl
  · obtain ⟨a, d, v, k, cs, rs, kvs, D, rfl, hF, lc, lr, t, hC, hd, hD, q⟩ := h
    have hr1 : Room 1 _ := hr.mono (by decide)
    have hr2 : Room 2 _ := hr.mono (by decide)
    have hu := hu_of hr
    refine ⟨_, pss_cons (ps_if (pt_val (pe_has DN hr rfl (pa_cons (pv 0) (pa_cons (pv 1) pa_nil)))) (pss_one (ps_ret pe_non)) pss_nil)
      (pss_cons (ps_set (i := 3) scLSize.nd rfl (Or.inl rfl) (pe_has DW hr1 rfl (pa_cons (pv 1) pa_nil)))
      (pss_cons (ps_if (pt_cmpR op_eq (pv 3) pe_str (nomark _)) (pss_one (ps_ret (pe_dget1 hu (pv 2) (pe_ix ix_tup (pv 1) pe_int (fun _ _ => rfl)) ⟨rfl, rfl, rfl, rfl⟩))) pss_nil)
      (pss_cons (ps_if (pt_cmpR op_eq (pv 3) pe_str (nomark _)) (pss_one (ps_ret pe_int)) pss_nil)
      (pss_one (ps_ret (pe_ifExp (pt_cmpR op_eq (pv 3) pe_str (nomark _)) (pe_callB call_len_seq (by rfl) G.len PySem.boot_len (pa_cons (pe_has DD hr1 rfl (pa_cons (pe_has DU hr2 rfl (pa_cons (pv 0) (pa_cons (pv 1) (pa_cons (pe_has DL hr2 rfl (pa_cons (pv 0) (pa_cons (pv 1) pa_nil))) pa_nil)))) pa_nil)) pa_nil)) pe_int)))))), ?_⟩
    refine ⟨_, rfl, _, rfl, a, v, k, cs, rs, rfl, hF, lc, lr, t, trivial, fun H1 S1 => ?_⟩
    cases hN : nobK cs rs k with
    | true =>
      refine ⟨true, rfl, iteT ?_⟩
      have e : kSz cs rs D k = none := by unfold kSz; rw [if_pos hN]
      have q' := q H1 S1
      rw [e] at q'
      exact q'
    | false =>
    have ek : kSz cs rs D k = (match k with
      | .lst _ => some 1
      | .one (.rc z) => D z
      | .one (.ch _) => some 1
      | .one _ => some 0) := by unfold kSz; rw [if_neg (by rw [hN]; decide)]; cases k with
        | lst c => rfl
        | one c => cases c <;> rfl
    rw [ek] at q
    refine ⟨false, rfl, iteF ?_⟩
    have t1 := Tp.keep (Same.tk S1) _ _ t
    have hF1 := hF.same S1
    refine ⟨_, rfl, v, k, rfl, t1, ?_⟩
    refine ⟨_, rfl, rfl, _, rfl, ?_⟩
    have plain : ∀ {u : Str}, u ≠ "record" → u ≠ "list" → u ≠ "choice" → k.word = u → (V.str k.word = V.str "record" → False) ∧ (V.str k.word = V.str "list" → False) ∧ (V.str k.word = V.str "choice" → False) := fun h1 h2 h3 e => by
      rw [e]
      exact ⟨sne h1, sne h2, sne h3⟩
    rcases kn_inv t1 with ⟨hv, hk⟩ | ⟨b, y, hv, hb, ty⟩
    · have hh : (V.str k.word = V.str "record" → False) ∧ (V.str k.word = V.str "list" → False) ∧ (V.str k.word = V.str "choice" → False) := by
        rcases hk with h | h | h
        · exact plain (u := "whole") (by decide +kernel) (by decide +kernel) (by decide +kernel) (by rw [h]; rfl)
        · exact plain (u := "truth") (by decide +kernel) (by decide +kernel) (by decide +kernel) (by rw [h]; rfl)
        · exact plain (u := "text") (by decide +kernel) (by decide +kernel) (by decide +kernel) (by rw [h]; rfl)
      refine ite2 (fun h => absurd (of_decide_eq_true h) hh.1) (fun _ => ?_)
      refine ⟨_, rfl, rfl, _, rfl, ?_⟩
      refine ite2 (fun h => absurd (of_decide_eq_true h) hh.2.1) (fun _ => ?_)
      refine ⟨_, rfl, rfl, _, rfl, ?_⟩
      refine ite2 (fun h => absurd (of_decide_eq_true h) hh.2.2) (fun _ => ?_)
      rcases hk with rfl | rfl | rfl <;> exact q H1 S1
    subst hv
    cases k with
    | lst c =>
      refine ite2 (fun h => absurd (of_decide_eq_true h) (sne (by decide +kernel : ("list" : Str) ≠ "record"))) (fun _ => ?_)
      refine ⟨_, rfl, rfl, _, rfl, ?_⟩
      refine ite2 (fun _ => ?_) (fun h => absurd (decide_eq_true rfl) h)
      exact q H1 S1
    | one c =>
      cases c with
      | whole => cases t
      | truth => cases t
      | text => cases t
      | rc z =>
        refine ite2 (fun _ => ?_) (fun h => absurd (decide_eq_true rfl) h)
        cases ty.istr
        have hd1 := S1 _ _ hd
        refine ⟨_, rfl, d, rfl, .inl ⟨_, .inl hd1⟩, _, rfl, b, _, _, _, rfl, rfl, SqT.of hb, rfl, _, DGet.k (k := Sum.inr z) hd1, ?_⟩
        have em := hD z
        have q' := q H1 S1
        dsimp only at q'
        rw [em]
        cases hz : D z with
        | none => rw [hz] at q'; exact q'
        | some m => rw [hz] at q'; exact q'
      | ch z =>
        refine ite2 (fun h => absurd (of_decide_eq_true h) (sne (by decide +kernel : ("choice" : Str) ≠ "record"))) (fun _ => ?_)
        refine ⟨_, rfl, rfl, _, rfl, ?_⟩
        refine ite2 (fun h => absurd (of_decide_eq_true h) (sne (by decide +kernel : ("choice" : Str) ≠ "list"))) (fun _ => ?_)
        refine ⟨_, rfl, rfl, _, rfl, ?_⟩
        refine ite2 (fun _ => ?_) (fun h => absurd (decide_eq_true rfl) h)
        have hni : nameIn z cs = true := by
          have h0 : nobK cs rs (.one (.ch z)) = !nameIn z cs := rfl
          rw [h0] at hN
          cases hh : nameIn z cs with
          | true => rfl
          | false => rw [hh] at hN; cases hN
        obtain ⟨n, u, hl, n0, n1⟩ := hC z hni
        refine ⟨_, rfl, _, rfl, _, rfl, _, rfl, a, _, z, cs, rs, n, u, rfl, hF1, t1, hl, ?_⟩
        have ok : OptsOk [(n, u)] := ⟨by simp, by show 1 ≤ 100; decide, by simp, fun o ho => by rw [List.mem_singleton.mp ho]; exact ⟨n0, n1⟩⟩
        refine ⟨a, _, _, .one (.ch z), cs, rs, rfl, hF1, t1, .inr (.inr ⟨z, [(n, u)], n, u, rfl, hl, ok, List.mem_singleton.mpr rfl, rfl, fun H3 S3 => ?_⟩)⟩
        refine ⟨n, rfl, n0, by omega, fun p H4 x S4 hp hp4 => ?_⟩
        refine ⟨p, _, rfl, .inl (SqL.of hp4), ?_⟩
        exact q H4 (fun b o e => S4 b o (S3 b o (S1 b o e)))
end
end Fh

set_option Elab.async false
set_option linter.all false
set_option maxRecDepth 100000
set_option maxHeartbeats 4000000
namespace Fh
open PySem L2 PyProof.Rows
structure Fl where
  num : Int
  nam : Str
  kd : Kn
  must : Bool
def needS (b : Bool) : Str := if b = true then "must" else "may"
def Fl.d (f : Fl) : PyData := .tuple [.int f.num, .str f.nam, f.kd.d, .str (needS f.must)]
def fieldsD (fs : List Fl) : PyData := .tuple (fs.map Fl.d)
theorem need_must (b : Bool) : decide (V.str (needS b) = V.str "must") = b := by
  cases b with
  | true => exact decide_eq_true rfl
  | false => exact decide_eq_false (sne (by decide +kernel : ("may" : Str) ≠ "must"))
theorem need_may (b : Bool) : decide (V.str (needS b) = V.str "may") = !b := by
  cases b with
  | true => exact decide_eq_false (sne (by decide +kernel : ("must" : Str) ≠ "may"))
  | false => exact decide_eq_true rfl
theorem flds_at {H : Hp} {xs : List V} {fs : List Fl} {i : Nat} {x : V} (q : TpAll H xs (fs.map Fl.d)) (e : xs[i]? = some x) :
    ∃ f t u, fs[i]? = some f ∧ x = .ref t ∧ H t = some (.tup [.int f.num, .str f.nam, u, .str (needS f.must)]) ∧ Tp H u f.kd.d := by
  obtain ⟨d, e2, tx⟩ := q.get' e
  rw [List.getElem?_map] at e2
  cases hr : fs[i]? with
  | none => rw [hr] at e2; cases e2
  | some f =>
    rw [hr] at e2
    cases e2
    obtain ⟨t, x1, x2, x3, x4, rfl, ht, t1, t2, t3, t4⟩ := Tp.four tx
    rw [t1.iint, t2.istr, t4.istr] at ht
    exact ⟨f, t, x3, rfl, rfl, ht, t3⟩
/-! ### the reckoning, turn by turn -/
abbrev Rec := Str × List Fl
def rD (r : Rec) : Str × PyData := (r.1, fieldsD r.2)
def mustKs (fs : List Fl) : List Kn := (fs.filter (·.must)).map (·.kd)
theorem mustKs_add (fs gs : List Fl) : mustKs (fs ++ gs) = mustKs fs ++ mustKs gs := by unfold mustKs; rw [List.filter_append, List.map_append]
theorem mustKs_len (fs : List Fl) : (mustKs fs).length ≤ fs.length := by unfold mustKs; rw [List.length_map]; exact List.length_filter_le _ _
def total (ps : List (Option Int)) : Option Int := if none ∈ ps then none else some ((ps.map fun o => fsz (o.getD 0)).sum)
def recSz (cs rs : List (Str × PyData)) (D : Szs) (fs : List Fl) : Option Int := total ((mustKs fs).map (kSz cs rs D))
def putS (D : Szs) (x : Str) : Option Int → Szs
  | none => D
  | some v => fun z => if z = x then some v else D z
def step (cs rs : List (Str × PyData)) (D : Szs) (r : Rec) : Szs := putS D r.1 (recSz cs rs D r.2)
def turn (cs rs : List (Str × PyData)) (recs : List Rec) (D : Szs) : Szs := recs.foldl (step cs rs) D
def turns (cs rs : List (Str × PyData)) (recs : List Rec) : Nat → Szs
  | 0 => fun _ => none
  | n + 1 => turn cs rs recs (turns cs rs recs n)
structure RecsOk (recs : List Rec) : Prop where
  len : recs.length ≤ 6
  fl : ∀ r ∈ recs, r.2.length ≤ 5
def NN (D : Szs) : Prop := ∀ z v, D z = some v → 0 ≤ v
theorem told_nn (n : Int) : 0 ≤ toldN n := by unfold toldN; split <;> decide
theorem fsz_nn {n : Int} (h : 0 ≤ n) : 0 ≤ fsz n := by have := told_nn n; unfold fsz; omega
theorem sum_nn : ∀ {l : List Int}, (∀ x ∈ l, 0 ≤ x) → 0 ≤ l.sum
  | [], _ => Int.le_refl _
  | x :: l, h => by
    rw [List.sum_cons]
    have h1 := h x List.mem_cons_self
    have h2 := sum_nn (l := l) fun y hy => h y (List.mem_cons_of_mem _ hy)
    omega
theorem kSz_nn {cs rs : List (Str × PyData)} {D : Szs} (h : NN D) {k : Kn} {v : Int} (e : kSz cs rs D k = some v) : 0 ≤ v := by
  unfold kSz at e
  split at e
  · cases e
  · split at e
    · cases e; decide
    · exact h _ _ e
    · cases e; decide
    · cases e; decide
theorem step_nn {cs rs : List (Str × PyData)} {D : Szs} (h : NN D) (r : Rec) : NN (step cs rs D r) := by
  unfold step recSz total
  split
  · exact h
  · intro z v e
    unfold putS at e
    dsimp only at e
    split at e
    · cases e
      refine sum_nn fun x hx => ?_
      obtain ⟨o, ho, rfl⟩ := List.mem_map.mp hx
      obtain ⟨k, _, ek⟩ := List.mem_map.mp ho
      cases o with
      | none => exact fsz_nn (Int.le_refl _)
      | some u => exact fsz_nn (kSz_nn h ek)
    · exact h z v e
theorem turn_nn {cs rs : List (Str × PyData)} : ∀ {recs : List Rec} {D : Szs}, NN D → NN (turn cs rs recs D)
  | [], _, h => h
  | r :: recs, D, h => turn_nn (recs := recs) (step_nn h r)
theorem turns_nn {cs rs : List (Str × PyData)} {recs : List Rec} : ∀ n, NN (turns cs rs recs n)
  | 0 => fun z v e => by cases e
  | n + 1 => turn_nn (turns_nn n)
theorem turn_next {cs rs : List (Str × PyData)} {recs : List Rec} {D : Szs} {i : Nat} {r : Rec} (h : recs[i]? = some r) : turn cs rs (recs.take (i + 1)) D = step cs rs (turn cs rs (recs.take i) D) r := by
  unfold turn
  rw [List.take_add_one, h, List.foldl_append]
  rfl
theorem non_in (ps : List (Option Int)) : inV V.non (ps.map optV) = decide (none ∈ ps) := by
  unfold inV
  induction ps with
  | nil => rfl
  | cons p r ih =>
    rw [List.map_cons, List.any_cons, ih]
    cases p with
    | none =>
      show (true || _) = _
      simp
    | some v =>
      show (false || _) = _
      simp
theorem flat_opts (ps : List (Option Int)) : (ps.map optV).all flatV = true := by
  rw [List.all_map, List.all_eq_true]
  intro o _
  cases o <;> rfl
theorem all_some {ps : List (Option Int)} (h : none ∉ ps) : ∃ ms : List Int, ps = ms.map some := by
  induction ps with
  | nil => exact ⟨[], rfl⟩
  | cons p r ih =>
    obtain ⟨ms, e⟩ := ih fun q => h (List.mem_cons_of_mem _ q)
    cases p with
    | none => exact absurd List.mem_cons_self h
    | some v => exact ⟨v :: ms, by rw [e]; rfl⟩
theorem dof_put {kvs : List (Key × V)} {D : Szs} (h : DOf kvs D) (x : Str) (v : Int) : DOf (putK kvs (.inr x) (.int v)) (putS D x (some v)) := by
  intro z
  unfold putS
  dsimp only
  rw [valV_put]
  by_cases e : z = x
  · subst e
    rw [if_pos rfl, if_pos rfl]
    rfl
  · rw [if_neg e, if_neg (fun q => e (by first | exact (Sum.inr.inj q) | exact (Sum.inr.inj q).symm))]
    exact h z
end Fh

set_option Elab.async false
set_option linter.all false
set_option maxRecDepth 100000
set_option maxHeartbeats 4000000
namespace Fh
open PySem L2 PyProof.Rows
abbrev sLSizes : Stmt := top 37
abbrev nLSizes : List Str := ["face", "sizes", "turn", "record", "fields", "parts", "number", "name", "kind", "need", "part"]
def spLSizes (C : Addr) : Sp := fun vs H Q _ => ∃ (a : Addr) (cs : List (Str × PyData)) (recs : List Rec), vs = [.ref a] ∧ FaceR C H a cs (recs.map rD) ∧ cs.length ≤ 100 ∧ Cs1 cs ∧ RecsOk recs ∧
  ∀ (d : Addr) (kvs : List (Key × V)) (H' : Hp), Same H H' → H d = none → H' d = some (.dK kvs) → DOf kvs (turns cs (recs.map rD) recs recs.length) → Q (.ref d) H'
section
variable {P : Program} {w : World} {K : PySem.W.Frag} {mg : Str → Option Value} {base : Heap}
theorem scLSizes : FnScope nLSizes ["face"] (defScope sLSizes) := ⟨rfl, rfl, rfl, by decide +kernel, rfl, by decide +kernel, by decide +kernel⟩
theorem recs_at {H : Hp} {xs : List V} {recs : List Rec} {i : Nat} {x : V} (q : TpAll H xs ((recs.map rD).map fun r => .tuple [.str r.1, r.2])) (e : xs[i]? = some x) :
    ∃ r t u, recs[i]? = some r ∧ x = .ref t ∧ H t = some (.tup [.str r.1, u]) ∧ Tp H u (fieldsD r.2) := by
  obtain ⟨r, t, u, hr, h1, h2, h3⟩ := rows_at q e
  rw [List.getElem?_map] at hr
  cases hr' : recs[i]? with
  | none => rw [hr'] at hr; cases hr
  | some r' =>
    rw [hr'] at hr
    cases hr
    exact ⟨r', t, u, rfl, h1, h2, h3⟩
theorem ok_lsizes {C f : Addr} {fd : FuncData} (F : Fun K "least_sizes" "least_sizes" sLSizes f fd) (G : Glb mg) (cl : Cls K C) (n4 : NoAttr K C "records") (DZ : Has P w K mg base "least_size" 4 ["face", "kind", "sizes"] (spLSize C)) (DS : Has P w K mg base "field_size" 3 ["size"] spFSize) : FnOk P w K mg base CX0 5 f fd ["face"] (spLSizes C) := by
  refine F.ok scLSizes (fun vs H Q E h => ?_) (fun cdv A outer s H vs Q E hr h => ?_)
  · obtain ⟨a, cs, recs, rfl, _⟩ := h
    rfl
  · obtain ⟨a, cs, recs, rfl, hF, lc, c1, ok, q⟩ := h
    have hr3 : Room 3 _ := hr.mono (by decide)
    have hu := hu_of hr
    refine ⟨_, pss_cons (ps_set (i := 1) scLSizes.nd rfl (Or.inr rfl) pe_dnewK)
      (pss_cons (ps_for PassesOwn.never rfl (pi_range1 rfl G.range (pa_cons (pe_callB call_len_seq (by rfl) G.len PySem.boot_len (pa_cons (pe_fld (pv 0) rfl) pa_nil)) pa_nil)) (pg_name (i := 2) scLSizes.nd rfl (Or.inl rfl))
        (pss_one (ps_for PassesOwn.never rfl (pi_tup (pe_fld (pv 0) rfl)) (pg_tup rfl (pgs_cons (pg_name (i := 3) scLSizes.nd rfl (.inl rfl)) (pgs_cons (pg_name (i := 4) scLSizes.nd rfl (.inl rfl)) pgs_nil)))
          (pss_cons (ps_setLc (i := 5) (own := [("number", 6), ("name", 7), ("kind", 8), ("need", 9)]) (g := gTup K 4 (gCons (gName 6) (gCons (gName 7) (gCons (gName 8) (gCons (gName 9) gNil))))) (te := tCall (spLSize C) [] E0 (tCons (tVar 0) (tCons (tVar 8) (tCons (tVar 1) tNil)))) rfl scLSizes.nd rfl rfl (sw_true rfl rfl rfl (by decide +kernel)) (pi_tup (pv 4)) (blkOk_by (N := nLSizes) (sc := defScope sLSizes) (by decide +kernel))
            (fun _ _ _ _ _ => pg_tup rfl (pgs_cons (pg_name (i := 6) scLSizes.nd rfl (.inl rfl)) (pgs_cons (pg_name (i := 7) scLSizes.nd rfl (.inl rfl)) (pgs_cons (pg_name (i := 8) scLSizes.nd rfl (.inl rfl)) (pgs_cons (pg_name (i := 9) scLSizes.nd rfl (.inl rfl)) pgs_nil))))) (fun _ _ _ _ _ => pts_one (pt_cmpR op_eq (pv 9) pe_str (nomark _))) (fun _ _ _ _ _ => pe_has DZ hr rfl (pa_cons (pv 0) (pa_cons (pv 8) (pa_cons (pv 1) pa_nil)))))
          (pss_one (ps_if (pt_cmpR op_notIn_seq pe_non (pv 5) rfl)
            (pss_one (ps_dput hu (pv 1) (pv 3) (pe_callB (cr_sum rfl) (by rfl) G.sum (by decide +kernel) (pa_cons (pe_lc (own := [("part", 10)]) (g := gName 10) (tt := tYes) (te := tCall spFSize [] E0 (tCons (tVar 10) tNil)) rfl scLSizes.nd (pi_list (pv 5)) (blkOk_by (N := nLSizes) (sc := defScope sLSizes) (by decide +kernel))
              (fun _ _ _ _ _ => pg_name (i := 10) scLSizes.nd rfl (Or.inl rfl)) (fun _ _ _ _ _ => pts_nil) (fun _ _ _ _ _ => pe_has DS hr3 rfl (pa_cons (pv 10) pa_nil))) pa_nil)) rfl)) pss_nil))))))
      (pss_one (ps_ret (pv 1)))), ?_⟩
    have ok6 := ok.len
    obtain ⟨dx, v1, v2, v3, v4, v5, hA, t3, t4⟩ := id hF
    obtain ⟨b, xs, rfl, hb, tq⟩ := TpR.inv t4
    have el : xs.length = recs.length := by rw [tq.length, List.length_map, List.length_map]
    intro d hd
    have S0 : Same H (upd H d (.dK [])) := Same.new hd
    refine ⟨_, rfl, a, C, dx, _, _, rfl, S0 _ _ hA, cl, n4, ff_records, b, _, rfl, .inr (.inl (Rd.same hb S0)), (xs.length : Int), rfl, by omega, by rw [el]; omega, ?_⟩
    rw [el]
    generalize hrs : recs.map rD = rs at *
    refine for_range (lo := 0) (n := recs.length) (fun t σ H3 => ∃ kvs, (∃ a2 a3 a4 a5 a6 a7 a8 a9 a10, σ = [some (.ref a), some (.ref d), a2, a3, a4, a5, a6, a7, a8, a9, a10]) ∧ Same H H3 ∧ H3 d = some (.dK kvs) ∧ kvs.length ≤ 6 * t ∧ DOf kvs (turns cs rs recs t)) ?_ ?_ ?_
    · exact ⟨[], ⟨_, _, _, _, _, _, _, _, _, rfl⟩, S0, upd_same, Nat.le_refl _, fun z => rfl⟩
    · rintro t σ H3 ht ⟨kvs0, ⟨a2, a3, a4, a5, a6, a7, a8, a9, a10, rfl⟩, S3, hd3, l3, D3⟩
      refine ⟨_, rfl, a, C, dx, _, _, rfl, S3 _ _ hA, cl, n4, ff_records, b, rfl, ⟨_, .inl (Rd.same hb S3)⟩, ?_⟩
      have N3 : NN (turns cs rs recs t) := turns_nn t
      have et : turns cs rs recs (t + 1) = turn cs rs recs (turns cs rs recs t) := rfl
      rw [et]
      generalize turns cs rs recs t = D0 at *
      refine for_tup (xs := xs) (fun i σ H4 => ∃ kvs, (∃ a3 a4 a5 a6 a7 a8 a9 a10, σ = [some (.ref a), some (.ref d), some (.int (0 + (t : Int))), a3, a4, a5, a6, a7, a8, a9, a10]) ∧ Same H H4 ∧ H4 d = some (.dK kvs) ∧ kvs.length ≤ 6 * t + i ∧ DOf kvs (turn cs rs (recs.take i) D0)) ?_ ?_ ?_ ?_
      · exact ⟨kvs0, ⟨_, _, _, _, _, _, _, _, rfl⟩, S3, hd3, l3, D3⟩
      · rintro i σ H4 _ ⟨kvs, _, S4, _⟩
        exact .inl (Rd.same hb S4)
      · rintro i x σ H4 hx ⟨kvs, ⟨a3, a4, a5, a6, a7, a8, a9, a10, rfl⟩, S4, hd4, l4, D4⟩
        obtain ⟨r, tp, u, hr', rfl, htp, tu⟩ := recs_at (by rw [hrs]; exact tq) hx
        rw [turn_next hr']
        have N4 : NN (turn cs rs (recs.take i) D0) := turn_nn N3
        generalize turn cs rs (recs.take i) D0 = D1 at *
        have hi : i < 6 := by
          have := (List.getElem?_eq_some_iff.mp hr').1
          omega
        have lf := ok.fl r (List.mem_of_getElem? hr')
        refine ⟨tp, _, rfl, SqT.of (S4 _ _ htp), rfl, _, _, rfl, _, _, rfl, rfl, ?_⟩
        obtain ⟨c, ys, rfl, hc, tys⟩ := Tp.inv tu
        refine ⟨_, rfl, c, rfl, ⟨_, SqT.of (S4 _ _ hc)⟩, fun D hD => ?_⟩
        have ly : ys.length = r.2.length := by rw [tys.length, List.length_map]
        have hDn : H D = none := Same.free S4 hD
        refine lc_tup (xs := ys) (fun j H5 => Same H4 H5 ∧ H5 D = some (.lst (((mustKs (r.2.take j)).map (kSz cs rs D1)).map optV))) ?_ ?_ ?_ ?_
        · exact ⟨Same.new hD, upd_same⟩
        · rintro j H5 _ ⟨S5, _⟩
          exact SqT.of (S5 _ _ (S4 _ _ hc))
        · rintro j y H5 hy ⟨S5, h5⟩
          obtain ⟨f2, t2, u2, hf2, rfl, ht2, tu2⟩ := flds_at (fs := r.2) tys hy
          have S45 : Same H H5 := fun b o e => S5 b o (S4 b o e)
          have hj : j < 5 := by
            have := (List.getElem?_eq_some_iff.mp hf2).1
            omega
          have en : mustKs (r.2.take (j + 1)) = mustKs (r.2.take j) ++ mustKs [f2] := by
            rw [List.take_add_one, hf2, mustKs_add]
            rfl
          refine ⟨t2, _, rfl, SqT.of (S45 _ _ ht2), rfl, _, _, rfl, _, _, rfl, _, _, rfl, _, _, rfl, rfl, rfl, ?_⟩
          refine ⟨_, rfl, rfl, _, rfl, ?_⟩
          rw [need_must]
          cases hmu : f2.must with
          | false =>
            refine iteF ⟨S5, ?_⟩
            rw [en]
            have e0 : mustKs [f2] = [] := by unfold mustKs; rw [List.filter_cons, hmu]; rfl
            rw [e0, List.append_nil]
            exact h5
          | true =>
            refine iteT ?_
            have e0 : mustKs [f2] = [f2.kd] := by unfold mustKs; rw [List.filter_cons, hmu]; rfl
            refine ⟨_, rfl, _, rfl, _, rfl, a, d, u2, f2.kd, cs, rs, kvs, D1, rfl, hF.same S45, lc, (by rw [← hrs, List.length_map]; omega), Tp.keep (Same.tk S45) _ _ tu2, c1, S5 _ _ hd4, D4, fun H6 S6 => ?_⟩
            refine ⟨_, S6 _ _ h5, ?_, Same.wr (fun b o e => S6 b o (S5 b o e)) hD, ?_⟩
            · rw [List.length_map, List.length_map]
              have l1 := mustKs_len (r.2.take j)
              rw [List.length_take] at l1
              exact Nat.lt_of_le_of_lt (Nat.le_trans l1 (Nat.min_le_left _ _)) (Nat.lt_of_lt_of_le hj (by decide))
            · rw [upd_same, en, e0, List.map_append, List.map_append]
              rfl
        · rintro H5 ⟨S5, h5⟩
          rw [ly, List.take_length] at h5
          have S45 : Same H H5 := fun b o e => S5 b o (S4 b o e)
          have es : step cs rs D1 r = putS D1 r.1 (total ((mustKs r.2).map (kSz cs rs D1))) := rfl
          rw [es]
          have lp : ((mustKs r.2).map (kSz cs rs D1)).length ≤ 5 := by rw [List.length_map]; exact Nat.le_trans (mustKs_len _) lf
          have pn : ∀ o ∈ (mustKs r.2).map (kSz cs rs D1), ∀ v, o = some v → 0 ≤ v := fun o ho v e => by
            obtain ⟨k, _, ek⟩ := List.mem_map.mp ho
            exact kSz_nn N4 (ek.trans e)
          generalize (mustKs r.2).map (kSz cs rs D1) = ps at *
          refine ⟨_, rfl, D, _, rfl, .inl (SqL.of h5), rfl, flat_opts ps, _, rfl, ?_⟩
          show if (!inV V.non (ps.map optV)) = true then _ else _
          rw [non_in]
          by_cases hno : none ∈ ps
          · rw [decide_eq_true hno]
            have e1 : total ps = none := if_pos hno
            rw [e1]
            exact iteF ⟨kvs, ⟨_, _, _, _, _, _, _, _, rfl⟩, S45, S5 _ _ hd4, by omega, D4⟩
          · rw [decide_eq_false hno]
            refine iteT ?_
            have e1 : total ps = some ((ps.map fun o => fsz (o.getD 0)).sum) := if_neg hno
            rw [e1]
            obtain ⟨ms, rfl⟩ := all_some hno
            have e2 : (ms.map some).map optV = ms.map V.int := by rw [List.map_map]; rfl
            have e3 : (ms.map some).map (fun o => fsz (o.getD 0)) = ms.map fsz := by rw [List.map_map]; rfl
            rw [e3]
            rw [e2] at h5
            rw [List.length_map] at lp
            refine ⟨_, rfl, D, rfl, ⟨_, SqL.of h5⟩, fun D2 hD2 => ?_⟩
            refine lc_list (xs := ms.map V.int) (fun j H6 => Same H5 H6 ∧ H6 D2 = some (.lst (((ms.take j).map fsz).map V.int))) ?_ ?_ ?_ ?_
            · exact ⟨Same.new hD2, upd_same⟩
            · rintro j H6 _ ⟨S6, _⟩
              exact SqL.of (S6 _ _ h5)
            · rintro j y H6 hy ⟨S6, h6⟩
              rw [List.getElem?_map] at hy
              cases hmj : ms[j]? with
              | none => rw [hmj] at hy; cases hy
              | some mj =>
                rw [hmj] at hy
                cases hy
                have hjl := (List.getElem?_eq_some_iff.mp hmj).1
                have m0 : 0 ≤ mj := pn (some mj) (List.mem_map.mpr ⟨mj, List.mem_of_getElem? hmj, rfl⟩) mj rfl
                refine ⟨rfl, yes (iteT ?_)⟩
                refine ⟨_, rfl, mj, rfl, m0, fun H7 S7 => ?_⟩
                refine ⟨_, S7 _ _ h6, ?_, Same.wr (fun b o e => S7 b o (S6 b o e)) hD2, ?_⟩
                · rw [List.length_map, List.length_map, List.length_take]
                  exact Nat.lt_of_le_of_lt (Nat.min_le_left _ _) (Nat.lt_of_lt_of_le (show j < 5 by omega) (by decide))
                · rw [upd_same, List.take_add_one, hmj, List.map_append, List.map_append]
                  rfl
            · rintro H6 ⟨S6, h6⟩
              rw [List.length_map, List.take_length] at h6
              have S46 : Same H H6 := fun b o e => S6 b o (S45 b o e)
              have hd6 : H6 d = some (.dK kvs) := S6 _ _ (S5 _ _ hd4)
              refine ⟨D2, ms.map fsz, rfl, SqL.of h6, _, rfl, _, rfl, d, _, rfl, DPut.k (k := Sum.inr r.1) hd6 (Nat.lt_of_le_of_lt l4 (Nat.lt_of_lt_of_le (show 6 * t + i < 100 by omega) (by decide))), ?_⟩
              exact ⟨_, ⟨_, _, _, _, _, _, _, _, rfl⟩, Same.wr S46 hd, upd_same, Nat.le_trans (length_putK _ _ _) (by omega), dof_put D4 r.1 _⟩
      · rintro σ H4 ⟨kvs, ⟨a3, a4, a5, a6, a7, a8, a9, a10, rfl⟩, S4, hd4, l4, D4⟩
        rw [el, List.take_length] at D4
        exact ⟨kvs, ⟨_, _, _, _, _, _, _, _, _, rfl⟩, S4, hd4, by omega, D4⟩
    · rintro σ H3 ⟨kvs, ⟨a2, a3, a4, a5, a6, a7, a8, a9, a10, rfl⟩, S3, hd3, l3, D3⟩
      exact ⟨_, rfl, q d kvs H3 S3 hd hd3 D3⟩
end
end Fh

set_option Elab.async false
set_option linter.all false
set_option maxRecDepth 100000
set_option maxHeartbeats 4000000
namespace Fh
open PySem L2 PyProof.Rows
abbrev sStr : Stmt := top 43
abbrev sEnd : Stmt := top 44
abbrev nStr : List Str := ["face", "found", "record", "fields", "kinds", "number", "name", "kind", "need"]
abbrev nEnd : List Str := ["face", "sizes", "names", "record", "fields", "name"]
/-- a list of tuples of texts -/
structure TxL (H : Hp) (p : Addr) (T : List TxR) : Prop where
  l : H p = some (.lst (T.map fun q => V.ref q.1))
  t : ∀ q ∈ T, H q.1 = some (.tup (q.2.map V.str))
def Nob (x : List Str) : Prop := ∃ y z : Str, x = [("nobody" : Str), y, z]
def bad : Option Int → Bool
  | none => true
  | some v => decide (60 < v)
def endL (D : Szs) (recs : List Rec) : List (List Str) := (recs.filter fun r => bad (D r.1)).map fun r => [("endless" : Str), r.1]
def spStr (C : Addr) : Sp := fun vs H Q _ => ∃ (a : Addr) (cs : List (Str × PyData)) (recs : List Rec), vs = [.ref a] ∧ FaceR C H a cs (recs.map rD) ∧ cs.length ≤ 100 ∧ RecsOk recs ∧
  ∀ (p : Addr) (T : List TxR) (H' : Hp), Same H H' → H p = none → TxL H' p T → (∀ q ∈ T, Nob q.2) → T.length ≤ 30 → Q (.ref p) H'
def spEnd (C : Addr) : Sp := fun vs H Q _ => ∃ (a : Addr) (cs : List (Str × PyData)) (recs : List Rec), vs = [.ref a] ∧ FaceR C H a cs (recs.map rD) ∧ cs.length ≤ 100 ∧ Cs1 cs ∧ RecsOk recs ∧
  ∀ (p : Addr) (T : List TxR) (H' : Hp), Same H H' → H p = none → TxL H' p T → T.map (·.2) = endL (turns cs (recs.map rD) recs recs.length) recs → Q (.ref p) H'
theorem nob_name {cs rs : List (Str × PyData)} {k : Kn} (h : nobK cs rs k = true) : ∃ z, k.nm = some z := by
  cases k with
  | one b => cases b with
    | whole => cases h
    | truth => cases h
    | text => cases h
    | rc z => exact ⟨z, rfl⟩
    | ch z => exact ⟨z, rfl⟩
  | lst b => cases b with
    | whole => cases h
    | truth => cases h
    | text => cases h
    | rc z => exact ⟨z, rfl⟩
    | ch z => exact ⟨z, rfl⟩
section
variable {P : Program} {w : World} {K : PySem.W.Frag} {mg : Str → Option Value} {base : Heap}
theorem scStr : FnScope nStr ["face"] (defScope sStr) := ⟨rfl, rfl, rfl, by decide +kernel, rfl, by decide +kernel, by decide +kernel⟩
theorem scEnd : FnScope nEnd ["face"] (defScope sEnd) := ⟨rfl, rfl, rfl, by decide +kernel, rfl, by decide +kernel, by decide +kernel⟩
theorem ok_str {C f : Addr} {fd : FuncData} (F : Fun K "strangers_in_kinds" "strangers_in_kinds" sStr f fd) (G : Glb mg) (cl : Cls K C) (n4 : NoAttr K C "records") (DN : Has P w K mg base "names_nobody" 3 ["face", "kind"] (spNob C fun _ => True)) (DI : Has P w K mg base "name_in" 3 ["kind"] (spNin fun _ => True)) : FnOk P w K mg base CX0 4 f fd ["face"] (spStr C) := by
  refine F.ok scStr (fun vs H Q E h => ?_) (fun cdv A outer s H vs Q E hr h => ?_)
  · obtain ⟨a, cs, recs, rfl, _⟩ := h
    rfl
  · obtain ⟨a, cs, recs, rfl, hF, lc, ok, q⟩ := h
    have ok6 := ok.len
    refine ⟨_, pss_cons (ps_set (i := 1) scStr.nd rfl (Or.inl rfl) (pe_lst pa_nil))
      (pss_cons (ps_for PassesOwn.never rfl (pi_tup (pe_fld (pv 0) rfl)) (pg_tup rfl (pgs_cons (pg_name (i := 2) scStr.nd rfl (.inr rfl)) (pgs_cons (pg_name (i := 3) scStr.nd rfl (.inl rfl)) pgs_nil)))
        (pss_cons (ps_setLc (i := 4) (own := [("number", 5), ("name", 6), ("kind", 7), ("need", 8)]) (g := gTup K 4 (gCons (gName 5) (gCons (gName 6) (gCons (gName 7) (gCons (gName 8) gNil))))) (tt := tYes) (te := tVar 7) rfl scStr.nd rfl rfl (sw_true rfl rfl rfl (by decide +kernel)) (pi_tup (pv 3)) (blkOk_by (N := nStr) (sc := defScope sStr) (by decide +kernel))
            (fun _ _ _ _ _ => pg_tup rfl (pgs_cons (pg_name (i := 5) scStr.nd rfl (.inl rfl)) (pgs_cons (pg_name (i := 6) scStr.nd rfl (.inl rfl)) (pgs_cons (pg_name (i := 7) scStr.nd rfl (.inl rfl)) (pgs_cons (pg_name (i := 8) scStr.nd rfl (.inl rfl)) pgs_nil))))) (fun _ _ _ _ _ => pts_nil) (fun _ _ _ _ _ => pv 7))
        (pss_one (ps_expr (pe_bm PySem.F.plainAttrs_list PySem.F.slot_list_extend PySem.F.type_list_extend mt_extend (pv 1) (pa_cons (pe_lc (own := [("kind", 7)]) (g := gName 7) (te := tTup (tCons (tC (.str "nobody")) (tCons (tVar 2) (tCons (tCall (spNin fun _ => True) [] E0 (tCons (tVar 7) tNil)) tNil)))) rfl scStr.nd (pi_list (pv 4)) (blkOk_by (N := nStr) (sc := defScope sStr) (by decide +kernel))
            (fun _ _ _ _ _ => pg_name (i := 7) scStr.nd rfl (Or.inl rfl)) (fun _ _ _ _ _ => pts_one (pt_val (pe_has DN (hr.mono (by decide)) rfl (pa_cons (pv 0) (pa_cons (pv 7) pa_nil))))) (fun _ _ _ _ _ => pe_tup (pa_cons pe_str (pa_cons (pv 2) (pa_cons (pe_has DI (hr.mono (by decide)) rfl (pa_cons (pv 7) pa_nil)) pa_nil))))) pa_nil))))))
      (pss_one (ps_ret (pv 1)))), ?_⟩
    obtain ⟨dx, v1, v2, v3, v4, v5, hA, t3, t4⟩ := id hF
    obtain ⟨b, xs, rfl, hb, tq⟩ := TpR.inv t4
    have el : xs.length = recs.length := by rw [tq.length, List.length_map, List.length_map]
    refine ⟨Nat.zero_le _, fun p hp => ?_⟩
    have S0 : Same H (upd H p (.lst [])) := Same.new hp
    refine ⟨_, rfl, a, C, dx, _, _, rfl, S0 _ _ hA, cl, n4, ff_records, b, rfl, ⟨_, .inl (Rd.same hb S0)⟩, ?_⟩
    refine for_tup (xs := xs) (fun i σ H3 => ∃ T, (∃ a2 a3 a4 a5 a6 a7 a8, σ = [some (.ref a), some (.ref p), a2, a3, a4, a5, a6, a7, a8]) ∧ Same H H3 ∧ TxL H3 p T ∧ (∀ q ∈ T, Nob q.2) ∧ T.length ≤ 5 * i) ?_ ?_ ?_ ?_
    · exact ⟨[], ⟨_, _, _, _, _, _, _, rfl⟩, S0, ⟨upd_same, fun q h => nomatch h⟩, (fun q h => nomatch h), Nat.le_refl _⟩
    · rintro i σ H3 _ ⟨T, _, S3, _⟩
      exact .inl (Rd.same hb S3)
    · rintro i x σ H3 hx ⟨T, ⟨a2, a3, a4, a5, a6, a7, a8, rfl⟩, S3, X3, N3, l3⟩
      obtain ⟨r, tp, u, hr', rfl, htp, tu⟩ := recs_at tq hx
      have hi := (List.getElem?_eq_some_iff.mp hr').1
      have lf := ok.fl r (List.mem_of_getElem? hr')
      refine ⟨tp, _, rfl, SqT.of (S3 _ _ htp), rfl, _, _, rfl, _, _, rfl, rfl, ?_⟩
      obtain ⟨c, ys, rfl, hc, tys⟩ := Tp.inv tu
      have ly : ys.length = r.2.length := by rw [tys.length, List.length_map]
      refine ⟨_, rfl, c, rfl, ⟨_, SqT.of (S3 _ _ hc)⟩, fun D hD => ?_⟩
      refine lc_tup (xs := ys) (fun j H4 => Same H3 H4 ∧ ∃ us : List V, H4 D = some (.lst us) ∧ us.length ≤ j ∧ ∀ u ∈ us, ∃ k : Kn, Tp H u k.d) ?_ ?_ ?_ ?_
      · exact ⟨Same.new hD, [], upd_same, Nat.le_refl _, fun u h => nomatch h⟩
      · rintro j H4 _ ⟨S4, _⟩
        exact SqT.of (S4 _ _ (S3 _ _ hc))
      · rintro j y H4 hy ⟨S4, us, h4, lu, hu4⟩
        obtain ⟨f2, t2, u2, hf2, rfl, ht2, tu2⟩ := flds_at (fs := r.2) tys hy
        have hj : j < 5 := by
          have := (List.getElem?_eq_some_iff.mp hf2).1
          omega
        refine ⟨t2, _, rfl, SqT.of (S4 _ _ (S3 _ _ ht2)), rfl, _, _, rfl, _, _, rfl, _, _, rfl, _, _, rfl, rfl, rfl, yes (iteT ?_)⟩
        refine ⟨_, rfl, _, h4, Nat.lt_of_le_of_lt lu (Nat.lt_of_lt_of_le hj (by decide)), Same.wr S4 hD, us ++ [u2], upd_same, ?_, fun u hu => ?_⟩
        · rw [List.length_append]
          exact Nat.succ_le_succ lu
        · rcases List.mem_append.mp hu with h | h
          · exact hu4 u h
          · rw [List.mem_singleton.mp h]
            exact ⟨_, tu2⟩
      · rintro H4 ⟨S4, us, h4, lu, hu4⟩
        rw [ly] at lu
        have S04 : Same H H4 := fun b o e => S4 b o (S3 b o e)
        have hp4 := S4 _ _ X3.l
        refine ⟨_, rfl, .inl ⟨rfl, _, SqL.of hp4⟩, ?_⟩
        refine ⟨_, rfl, D, rfl, ⟨_, SqL.of h4⟩, fun D2 hD2 => ?_⟩
        refine lc_list (xs := us) (fun j H5 => Same H4 H5 ∧ ∃ T2, TxL H5 D2 T2 ∧ (∀ q ∈ T2, Nob q.2) ∧ T2.length ≤ j) ?_ ?_ ?_ ?_
        · exact ⟨Same.new hD2, [], ⟨upd_same, fun q h => nomatch h⟩, (fun q h => nomatch h), Nat.le_refl _⟩
        · rintro j H5 _ ⟨S5, _⟩
          exact SqL.of (S5 _ _ h4)
        · rintro j y H5 hy ⟨S5, T2, X5, N5, l5⟩
          have hj : j < 5 := by
            have := (List.getElem?_eq_some_iff.mp hy).1
            omega
          obtain ⟨k, tk⟩ := hu4 y (List.mem_of_getElem? hy)
          have S05 : Same H H5 := fun b o e => S5 b o (S04 b o e)
          refine ⟨rfl, ?_⟩
          refine ⟨_, rfl, _, rfl, a, y, k, cs, recs.map rD, rfl, hF.same S05, lc, (by rw [List.length_map]; omega), Tp.keep (Same.tk S05) _ _ tk, trivial, fun H6 S6 => ?_⟩
          have S56 : Same H4 H6 := fun b o e => S6 b o (S5 b o e)
          have S06 : Same H H6 := fun b o e => S6 b o (S05 b o e)
          cases hnk : nobK cs (recs.map rD) k with
          | false => exact ⟨false, rfl, iteF ⟨S56, T2, ⟨S6 _ _ X5.l, fun q h => S6 _ _ (X5.t q h)⟩, N5, Nat.le_succ_of_le l5⟩⟩
          | true =>
            obtain ⟨z, hz⟩ := nob_name hnk
            refine ⟨true, rfl, iteT ?_⟩
            refine ⟨_, rfl, _, rfl, y, k, z, rfl, Tp.keep (Same.tk S06) _ _ tk, hz, trivial, (by show 3 ≤ sizeLine; decide), fun t ht => ?_⟩
            have l6 := S6 _ _ X5.l
            have nD : t ≠ D2 := fun e => by rw [e, l6] at ht; cases ht
            refine ⟨_, by rw [upd_ne (Ne.symm nD)]; exact l6, ?_, ?_, T2 ++ [(t, [("nobody" : Str), r.1, z])], ⟨?_, fun q hq => ?_⟩, fun q hq => ?_, ?_⟩
            · rw [List.length_map]
              exact Nat.lt_of_le_of_lt l5 (Nat.lt_of_lt_of_le hj (by decide))
            · intro b o e
              have nb : b ≠ D2 := ne_of_none e hD2
              rw [upd_ne nb, upd_ne (ne_of_none (S56 b o e) ht)]
              exact S56 b o e
            · rw [upd_same, List.map_append]
              rfl
            · rcases List.mem_append.mp hq with h | h
              · have e6 := S6 _ _ (X5.t q h)
                have nb : q.1 ≠ D2 := fun e => by rw [e, l6] at e6; cases e6
                rw [upd_ne nb, upd_ne (ne_of_none e6 ht)]
                exact e6
              · rw [List.mem_singleton.mp h]
                show (upd _ D2 _) t = _
                rw [upd_ne nD, upd_same]
                rfl
            · rcases List.mem_append.mp hq with h | h
              · exact N5 q h
              · rw [List.mem_singleton.mp h]
                exact ⟨_, _, rfl⟩
            · rw [List.length_append]
              exact Nat.succ_le_succ l5
        · rintro H5 ⟨S5, T2, X5, N5, l5⟩
          have hp5 := S5 _ _ hp4
          have lt2 : T2.length ≤ 5 := by omega
          refine ⟨p, D2, _, _, rfl, rfl, hp5, X5.l, ?_, ?_⟩
          · rw [List.length_map, List.length_map, sizeLine_eq]
            omega
          · refine ⟨T ++ T2, ⟨_, _, _, _, _, _, _, rfl⟩, Same.wr (fun b o e => S5 b o (S04 b o e)) hp, ⟨by rw [upd_same, List.map_append], fun q hq => ?_⟩, fun q hq => ?_, ?_⟩
            · have e5 : H5 q.1 = some (.tup (q.2.map V.str)) := by
                rcases List.mem_append.mp hq with h | h
                · exact S5 _ _ (S4 _ _ (X3.t q h))
                · exact X5.t q h
              rw [upd_ne (fun e => by rw [e, hp5] at e5; cases e5)]
              exact e5
            · rcases List.mem_append.mp hq with h | h
              · exact N3 q h
              · exact N5 q h
            · rw [List.length_append]
              omega
    · rintro σ H3 ⟨T, ⟨a2, a3, a4, a5, a6, a7, a8, rfl⟩, S3, X3, N3, l3⟩
      exact ⟨_, rfl, q p T H3 S3 hp X3 N3 (by omega)⟩
end
end Fh

set_option Elab.async false
set_option linter.all false
set_option maxRecDepth 100000
set_option maxHeartbeats 4000000
namespace Fh
open PySem L2 PyProof.Rows
theorem endL_add (D : Szs) (a b : List Rec) : endL D (a ++ b) = endL D a ++ endL D b := by unfold endL; rw [List.filter_append, List.map_append]
theorem TxL.same {H H' : Hp} {p : Addr} {T : List TxR} (x : TxL H p T) (s : Same H H') : TxL H' p T := ⟨s _ _ x.l, fun q h => s _ _ (x.t q h)⟩
/-- one more tuple -/
theorem TxL.more {H : Hp} {p t : Addr} {T : List TxR} {y : List Str} (x : TxL H p T) (ht : H t = none) : TxL (upd (upd H t (.tup (y.map V.str))) p (.lst (T.map (fun q => V.ref q.1) ++ [.ref t]))) p (T ++ [(t, y)]) := by
  have nD : t ≠ p := fun e => by rw [e, x.l] at ht; cases ht
  refine ⟨by rw [upd_same, List.map_append]; rfl, fun q hq => ?_⟩
  rcases List.mem_append.mp hq with h | h
  · have e := x.t q h
    have nb : q.1 ≠ p := fun z => by rw [z, x.l] at e; cases e
    rw [upd_ne nb, upd_ne (ne_of_none e ht)]
    exact e
  · rw [List.mem_singleton.mp h]
    show (upd _ p _) t = _
    rw [upd_ne nD, upd_same]
theorem Same.two {H H1 : Hp} {p t : Addr} {o o' : HO} (s : Same H H1) (hp : H p = none) (ht : H1 t = none) : Same H (upd (upd H1 t o) p o') := fun b u e => by
  rw [upd_ne (ne_of_none e hp), upd_ne (ne_of_none (s b u e) ht)]
  exact s b u e
section
variable {P : Program} {w : World} {K : PySem.W.Frag} {mg : Str → Option Value} {base : Heap}
theorem ok_end {C f : Addr} {fd : FuncData} (F : Fun K "endless_records" "endless_records" sEnd f fd) (N : Nums mg) (cl : Cls K C) (n4 : NoAttr K C "records") (DS : Has P w K mg base "least_sizes" 5 ["face"] (spLSizes C)) : FnOk P w K mg base CX0 6 f fd ["face"] (spEnd C) := by
  obtain ⟨tL, hL⟩ := N.least
  refine F.ok scEnd (fun vs H Q E h => ?_) (fun cdv A outer s H vs Q E hr h => ?_)
  · obtain ⟨a, cs, recs, rfl, _⟩ := h
    rfl
  · obtain ⟨a, cs, recs, rfl, hF, lc, c1, ok, q⟩ := h
    have ok6 := ok.len
    have hu := hu_of hr
    refine ⟨_, pss_cons (ps_set (i := 1) scEnd.nd rfl (Or.inr rfl) (pe_has DS hr rfl (pa_cons (pv 0) pa_nil)))
      (pss_cons (ps_setLc (i := 2) (own := [("record", 3), ("fields", 4)]) (g := gTup K 2 (gCons (gName 3) (gCons (gName 4) gNil))) (tt := tYes) (te := tVar 3) rfl scEnd.nd rfl rfl (sw_true rfl rfl rfl (by decide +kernel)) (pi_tup (pe_fld (pv 0) rfl)) (blkOk_by (N := nEnd) (sc := defScope sEnd) (by decide +kernel))
          (fun _ _ _ _ _ => pg_tup rfl (pgs_cons (pg_name (i := 3) scEnd.nd rfl (.inl rfl)) (pgs_cons (pg_name (i := 4) scEnd.nd rfl (.inl rfl)) pgs_nil))) (fun _ _ _ _ _ => pts_nil) (fun _ _ _ _ _ => pv 3))
      (pss_one (ps_ret (pe_lc (own := [("name", 5)]) (g := gName 5) (te := tTup (tCons (tC (.str "endless")) (tCons (tVar 5) tNil))) rfl scEnd.nd (pi_list (pv 2)) (blkOk_by (N := nEnd) (sc := defScope sEnd) (by decide +kernel))
          (fun _ _ _ _ _ => pg_name (i := 5) scEnd.nd rfl (Or.inl rfl)) (fun _ _ _ _ _ => pts_one (PW.pt (pw_or (pt_cmp (pc_dnotin hu (pv 5) (pv 1))) (pw_or1 (pt_cmpR op_gt (pe_dget hu (pv 1) (pv 5) (fun _ _ => rfl)) (pe_glob (v := .int 60) rfl hL ⟨_, rfl⟩) (nomark _)))))) (fun _ _ _ _ _ => pe_tup (pa_cons pe_str (pa_cons (pv 5) pa_nil))))))), ?_⟩
    obtain ⟨dx, v1, v2, v3, v4, v5, hA, t3, t4⟩ := id hF
    refine ⟨_, rfl, a, cs, recs, rfl, hF, lc, c1, ok, fun d kvs H1 S1 hdn hd1 D1 => ?_⟩
    generalize turns cs (recs.map rD) recs recs.length = Dm at *
    obtain ⟨b, xs, rfl, hb, tq⟩ := TpR.inv t4
    have el : xs.length = recs.length := by rw [tq.length, List.length_map, List.length_map]
    refine ⟨_, rfl, a, C, dx, _, _, rfl, S1 _ _ hA, cl, n4, ff_records, b, rfl, ⟨_, .inl (Rd.same hb S1)⟩, fun D hD0 => ?_⟩
    refine lc_tup (xs := xs) (fun i H3 => Same H1 H3 ∧ H3 D = some (.lst (((recs.take i).map (·.1)).map V.str))) ?_ ?_ ?_ ?_
    · exact ⟨Same.new hD0, upd_same⟩
    · rintro i H3 _ ⟨S3, _⟩
      exact .inl (Rd.same (Rd.same hb S1) S3)
    · rintro i z H3 hz ⟨S3, h3⟩
      obtain ⟨r, t, u, hr', rfl, ht, tu⟩ := recs_at tq hz
      have hlt := (List.getElem?_eq_some_iff.mp hr').1
      refine ⟨t, _, rfl, SqT.of (S3 _ _ (S1 _ _ ht)), rfl, _, _, rfl, _, _, rfl, rfl, rfl, yes (iteT ?_)⟩
      refine ⟨_, rfl, _, h3, ?_, Same.wr S3 hD0, ?_⟩
      · rw [List.length_map, List.length_map, List.length_take]
        exact Nat.lt_of_le_of_lt (Nat.min_le_left _ _) (Nat.lt_of_lt_of_le (show i < 6 by omega) (by decide))
      · rw [upd_same, List.take_add_one, hr']
        simp
    rintro H2 ⟨S2, hD⟩
    rw [el, List.take_length] at hD
    have S02 : Same H H2 := fun b o e => S2 b o (S1 b o e)
    have hd2 := S2 _ _ hd1
    refine ⟨_, rfl, D, rfl, ⟨_, SqL.of hD⟩, fun D2 hD2 => ?_⟩
    refine lc_list (xs := (recs.map (·.1)).map V.str) (fun j H5 => Same H2 H5 ∧ ∃ T, TxL H5 D2 T ∧ T.map (·.2) = endL Dm (recs.take j) ∧ T.length ≤ j) ?_ ?_ ?_ ?_
    · exact ⟨Same.new hD2, [], ⟨upd_same, fun q h => nomatch h⟩, rfl, Nat.le_refl _⟩
    · rintro j H5 _ ⟨S5, _⟩
      exact SqL.of (S5 _ _ hD)
    · rintro j y H5 hy ⟨S5, T, X5, e5, l5⟩
      rw [List.getElem?_map, List.getElem?_map] at hy
      cases hrj : recs[j]? with
      | none => rw [hrj] at hy; cases hy
      | some r =>
        rw [hrj] at hy
        cases hy
        have hj := (List.getElem?_eq_some_iff.mp hrj).1
        have hd5 := S5 _ _ hd2
        have e1 : endL Dm (recs.take (j + 1)) = endL Dm (recs.take j) ++ endL Dm [r] := by
          rw [List.take_add_one, hrj, endL_add]
          rfl
        have yes1 : bad (Dm r.1) = true → ∀ t, H5 t = none → ∃ acc, (upd H5 t (.tup [.str "endless", .str r.1])) D2 = some (.lst acc) ∧ acc.length < sizeLine ∧ (Same H2 (upd (upd H5 t (.tup [.str "endless", .str r.1])) D2 (.lst (acc ++ [.ref t]))) ∧ ∃ T, TxL (upd (upd H5 t (.tup [.str "endless", .str r.1])) D2 (.lst (acc ++ [.ref t]))) D2 T ∧ T.map (·.2) = endL Dm (recs.take (j + 1)) ∧ T.length ≤ j + 1) := fun hb t ht => by
          have nD : D2 ≠ t := fun e => by rw [← e, X5.l] at ht; cases ht
          refine ⟨_, by rw [upd_ne nD]; exact X5.l, ?_, Same.two S5 hD2 ht, _, TxL.more (y := [("endless" : Str), r.1]) X5 ht, ?_, ?_⟩
          · rw [List.length_map]
            exact Nat.lt_of_le_of_lt l5 (Nat.lt_of_lt_of_le (show j < 6 by omega) (by decide))
          · rw [List.map_append, e5, e1]
            congr 1
            unfold endL
            rw [List.filter_cons, if_pos hb]
            rfl
          · rw [List.length_append]
            exact Nat.succ_le_succ l5
        refine ⟨rfl, ?_⟩
        refine ⟨_, rfl, _, rfl, d, _, rfl, DGet.k (k := Sum.inr r.1) hd5, _, rfl, ?_⟩
        have ev := D1 r.1
        cases hv : Dm r.1 with
        | none =>
          rw [hv] at ev
          rw [ev]
          refine iteT (iteT ?_)
          exact ⟨_, rfl, (by show 2 ≤ sizeLine; decide), fun t ht => yes1 (by rw [hv]; rfl) t ht⟩
        | some v =>
          rw [hv] at ev
          rw [ev]
          refine iteF ?_
          refine ⟨_, rfl, _, rfl, d, .int v, rfl, by have z := DGet.k (k := Sum.inr r.1) hd5; rw [ev] at z; exact z, _, _, rfl, rfl, _, rfl, ?_⟩
          refine ite2 (fun h => ?_) (fun h => ?_)
          · exact ⟨_, rfl, (by show 2 ≤ sizeLine; decide), fun t ht => yes1 (by rw [hv]; exact h) t ht⟩
          · refine ⟨S5, T, X5, ?_, Nat.le_succ_of_le l5⟩
            rw [e5, e1]
            have e0 : endL Dm [r] = [] := by
              unfold endL
              rw [List.filter_cons, if_neg (by rw [hv]; exact h)]
              rfl
            rw [e0, List.append_nil]
    · rintro H5 ⟨S5, T, X5, e5, l5⟩
      rw [List.length_map, List.length_map, List.take_length] at e5
      exact q D2 T H5 (fun b o e => S5 b o (S02 b o e)) (Same.free S02 hD2) X5 e5
end
end Fh

set_option Elab.async false
set_option linter.all false
set_option maxRecDepth 100000
set_option maxHeartbeats 4000000
namespace Fh
open PySem L2 PyProof.Rows
abbrev sWrong : Stmt := top 42
abbrev nWrong : List Str := ["face", "found", "call", "strangers"]
/-- a face without calls -/
def FaceW (C : Addr) (H : Hp) (a : Addr) (cs rs : List (Str × PyData)) : Prop := ∃ (dx e : Addr) (v1 v2 v3 v4 : V), H a = some (.ins C dx (ff v1 v2 v3 v4 (.ref e))) ∧ TpR H v3 (rowsD cs) ∧ TpR H v4 (rowsD rs) ∧ H e = some (.tup [])
theorem FaceW.r {C : Addr} {H : Hp} {a : Addr} {cs rs : List (Str × PyData)} (h : FaceW C H a cs rs) : FaceR C H a cs rs := by
  obtain ⟨dx, e, v1, v2, v3, v4, hA, t3, t4, _⟩ := h
  exact ⟨dx, v1, v2, v3, v4, _, hA, t3, t4⟩
/-- what is told as wrong -/
structure Told (D : Szs) (recs : List Rec) (xs : List (List Str)) : Prop where
  pw : xs.Pairwise fun x y => slLe x y = true
  nd : xs.Nodup
  of : ∀ x ∈ xs, Nob x ∨ x ∈ endL D recs
  all : ∀ x ∈ endL D recs, x ∈ xs
def spWrong (C : Addr) : Sp := fun vs H Q _ => ∃ (a : Addr) (cs : List (Str × PyData)) (recs : List Rec), vs = [.ref a] ∧ FaceW C H a cs (recs.map rD) ∧ cs.length ≤ 100 ∧ Cs1 cs ∧ RecsOk recs ∧
  ∀ (p : Addr) (T : List TxR) (H' : Hp), Same H H' → H p = none → TxL H' p T → T.length < 64 → Told (turns cs (recs.map rD) recs recs.length) recs (T.map (·.2)) → Q (.ref p) H'
section
variable {P : Program} {w : World} {K : PySem.W.Frag} {mg : Str → Option Value} {base : Heap}
theorem scWrong : FnScope nWrong ["face"] (defScope sWrong) := ⟨rfl, rfl, rfl, by decide +kernel, rfl, by decide +kernel, by decide +kernel⟩
theorem ok_wrong {C f : Addr} {fd : FuncData} (F : Fun K "wrong" "wrong" sWrong f fd) (G : Glb mg) (cl : Cls K C) (n5 : NoAttr K C "calls") (DA : Has P w K mg base "strangers_in_kinds" 4 ["face"] (spStr C)) (DB : Has P w K mg base "endless_records" 6 ["face"] (spEnd C)) : FnOk P w K mg base CX0 7 f fd ["face"] (spWrong C) := by
  refine F.ok scWrong (fun vs H Q E h => ?_) (fun cdv A outer s H vs Q E hr h => ?_)
  · obtain ⟨a, cs, recs, rfl, _⟩ := h
    rfl
  · obtain ⟨a, cs, recs, rfl, hF, lc, c1, ok, q⟩ := h
    have ok6 := ok.len
    have hr4 : Room 4 _ := hr.mono (by decide)
    have hu := hu_of hr
    refine ⟨_, pss_cons (ps_set (i := 1) scWrong.nd rfl (Or.inl rfl) (pe_op op_cat (pe_has DA hr4 rfl (pa_cons (pv 0) pa_nil)) (pe_has DB hr rfl (pa_cons (pv 0) pa_nil))))
      (pss_cons (ps_for PassesOwn.never rfl (pi_tup (pe_fld (pv 0) rfl)) (pg_name (i := 2) scWrong.nd rfl (Or.inl rfl)) pss_never)
      (pss_one (ps_ret (pe_callB (cr_sortedSTx rfl hr.units) (by rfl) G.sorted (by decide +kernel) (pa_cons (pe_callTy (cr_setTx rfl hr.units) (by rfl) G.set (by decide +kernel) (pa_cons (pv 1) pa_nil)) pa_nil))))), ?_⟩
    obtain ⟨dx, e, v1, v2, v3, v4, hA, t3, t4, he⟩ := id hF
    refine ⟨_, rfl, a, cs, recs, rfl, hF.r, lc, ok, fun p1 T1 H1 S1 hp1 X1 N1 l1 => ?_⟩
    refine ⟨_, rfl, a, cs, recs, rfl, hF.r.same S1, lc, c1, ok, fun p2 T2 H2 S2 hp2 X2 e2 => ?_⟩
    have X12 := X1.same S2
    have l2 : T2.length ≤ 6 := by
      have z := congrArg List.length e2
      rw [List.length_map] at z
      rw [z]
      unfold endL
      rw [List.length_map]
      exact Nat.le_trans (List.length_filter_le _ _) ok6
    generalize turns cs (recs.map rD) recs recs.length = Dm at *
    refine ⟨p1, p2, _, _, rfl, rfl, X12.l, X2.l, ?_, fun p hp => ?_⟩
    · rw [List.length_map, List.length_map, sizeLine_eq]
      omega
    have S02 : Same H H2 := fun b o e => S2 b o (S1 b o e)
    have S3 : Same H2 (upd H2 p (.lst (T1.map (fun q => V.ref q.1) ++ T2.map fun q => V.ref q.1))) := Same.new hp
    have X3 : TxL (upd H2 p (.lst (T1.map (fun q => V.ref q.1) ++ T2.map fun q => V.ref q.1))) p (T1 ++ T2) := ⟨by rw [upd_same, List.map_append], fun q hq => by
      rcases List.mem_append.mp hq with h | h
      · exact S3 _ _ (X12.t q h)
      · exact S3 _ _ (X2.t q h)⟩
    generalize upd H2 p (.lst (T1.map (fun q => V.ref q.1) ++ T2.map fun q => V.ref q.1)) = H3 at *
    have S03 : Same H H3 := fun b o e => S3 b o (S02 b o e)
    have hpn : H p = none := Same.free S02 hp
    refine ⟨_, rfl, a, C, dx, _, _, rfl, S03 _ _ hA, cl, n5, ff_calls, e, rfl, ⟨_, SqT.of (S03 _ _ he)⟩, ?_⟩
    refine for_tup (xs := []) (fun i σ H4 => H4 = H3 ∧ σ = [some (.ref a), some (.ref p), none, none]) ?_ ?_ ?_ ?_
    · exact ⟨rfl, rfl⟩
    · rintro i σ H4 _ ⟨rfl, _⟩
      exact SqT.of (S03 _ _ he)
    · rintro i x σ H4 hx _
      exact nomatch hx
    · rintro σ H4 ⟨rfl, rfl⟩
      refine ⟨_, rfl, p, T1 ++ T2, rfl, SqL.of X3.l, fun q hq => SqT.of (X3.t q hq), ?_, fun S T' hS s1 s2 nd lT => ?_⟩
      · rw [List.length_append]
        omega
      have S5 : Same H4 (upd H4 S (SetTx P w S T')) := Same.new hS
      have ne : ∀ q ∈ T', q.2 ≠ [] := fun q hq => by
        rcases List.mem_append.mp (s1 q hq) with h | h
        · obtain ⟨y, z, ez⟩ := N1 q h
          rw [ez]
          exact fun z => nomatch z
        · have m : q.2 ∈ T2.map (·.2) := List.mem_map.mpr ⟨q, h, rfl⟩
          rw [e2] at m
          obtain ⟨r, _, er⟩ := List.mem_map.mp m
          rw [← er]
          exact fun z => nomatch z
      refine ⟨S, T', rfl, upd_same, fun q hq => SqT.of (S5 _ _ (X3.t q (s1 q hq))), ne, lT, fun T4 r pm pw hr' => ?_⟩
      have S6 : Same (upd H4 S (SetTx P w S T')) (upd (upd H4 S (SetTx P w S T')) r (.lst (T4.map fun q => V.ref q.1))) := Same.new hr'
      have sub4 : ∀ q ∈ T4, q ∈ T1 ++ T2 := fun q hq => s1 q (pm.mem_iff.mp hq)
      have S56 : Same H4 (upd (upd H4 S (SetTx P w S T')) r (.lst (T4.map fun q => V.ref q.1))) := fun b o e => S6 b o (S5 b o e)
      refine q r T4 _ (fun b o e => S56 b o (S03 b o e)) (Same.free (fun b o e => S5 b o (S03 b o e)) hr') ⟨upd_same, fun q hq => S56 _ _ (X3.t q (sub4 q hq))⟩ ?_ ⟨pw, ((pm.map (·.2)).nodup_iff).mpr nd, fun x hx => ?_, fun x hx => ?_⟩
      · rw [pm.length_eq]
        exact lT
      · obtain ⟨q, hq, rfl⟩ := List.mem_map.mp hx
        rcases List.mem_append.mp (sub4 q hq) with h | h
        · exact .inl (N1 q h)
        · right
          rw [← e2]
          exact List.mem_map.mpr ⟨q, h, rfl⟩
      · rw [← e2] at hx
        obtain ⟨q, hq, rfl⟩ := List.mem_map.mp hx
        exact ((pm.map (·.2)).mem_iff).mpr (s2 q (List.mem_append_right _ hq))
end
end Fh

set_option Elab.async false
set_option linter.all false
set_option maxRecDepth 100000
set_option maxHeartbeats 4000000
namespace Fh
open PySem L2 PyProof.Rows
abbrev sRis : Stmt := top 80
abbrev nRis : List Str := ["_law_bag_here", "_law_size", "_law_most", "_law_found", "_law_last", "_law_spot", "_law_wide"]
def spRis : Sp := fun vs H Q _ => ∃ (b : Addr) (size : Nat) (n : Nat), vs = [.ref b, .int size, .int 30] ∧ size ≤ 20 ∧ Bag H b n ∧ n + 50 ≤ most ∧
  ∀ (p : Addr) (ns : List Int) (H' : Hp), H p = none → H' p = some (.lst (ns.map V.int)) → ns.length = size → Kp b H H' → Bag H' b (n + 40) → Q (.ref p) H'
section
variable {P : Program} {w : World} {K : PySem.W.Frag} {mg : Str → Option Value} {base : Heap}
theorem scRis : FnScope nRis ["_law_bag_here", "_law_size", "_law_most"] (defScope sRis) := ⟨rfl, rfl, rfl, by decide +kernel, rfl, by decide +kernel, by decide +kernel⟩
theorem ok_ris {f : Addr} {fd : FuncData} (F : Fun K "_law_rising" "_law_rising" sRis f fd) (G : Glb mg) (DT : Has P w K mg base "_law_take" 1 ["_law_bag_here", "_law_size"] spTake) : FnOk P w K mg base CX0 2 f fd ["_law_bag_here", "_law_size", "_law_most"] spRis := by
  refine F.ok scRis (fun vs H Q E h => ?_) (fun cdv A outer s H vs Q E hr h => ?_)
  · obtain ⟨b, size, n, rfl, _⟩ := h
    rfl
  · obtain ⟨b, size, n, rfl, hs, hB, hn, q⟩ := h
    refine ⟨_, pss_cons (ps_par (i := 3) (j := 4) rfl scRis.nd rfl rfl (by decide) rfl rfl (pa_cons (pe_lst pa_nil) (pa_cons pe_int pa_nil)) (by rfl))
      (pss_cons (ps_for PassesOwn.never rfl (pi_range1 rfl G.range (pa_cons (pv 1) pa_nil)) (pg_name (i := 5) scRis.nd rfl (Or.inl rfl))
        (pss_cons (ps_set (i := 6) scRis.nd rfl (Or.inl rfl) (pe_op op_sub (pe_op op_sub (pv 2) (pv 4)) (pe_op op_sub (pe_op op_sub (pv 1) (pv 5)) pe_int)))
        (pss_cons (ps_set (i := 4) scRis.nd rfl (Or.inl rfl) (pe_op op_add (pe_op op_add (pv 4) pe_int) (pe_has DT hr rfl (pa_cons (pv 0) (pa_cons (pe_ix ix_list (pe_lst (pa_cons (pv 6) (pa_cons (pe_callB (call_min2 rfl) (by rfl) G.min (by decide +kernel) (pa_cons (pv 6) (pa_cons pe_int pa_nil))) pa_nil))) (pe_has DT hr rfl (pa_cons (pv 0) (pa_cons pe_int pa_nil))) (fun _ _ => rfl)) pa_nil)))))
        (pss_one (ps_expr (pe_bm PySem.F.plainAttrs_list PySem.F.slot_list_append PySem.F.type_list_append mt_append (pv 3) (pa_cons (pv 4) pa_nil)))))))
      (pss_one (ps_ret (pv 3)))), ?_⟩
    refine ⟨Nat.zero_le _, fun p hp => ?_⟩
    have pb : p ≠ b := new_ne hp hB
    have S0 : Same H (upd H p (.lst [])) := Same.new hp
    have hB0 : Bag (upd H p (.lst [])) b n := by
      obtain ⟨x, y, z, e, r⟩ := hB
      exact ⟨x, y, z, S0 _ _ e, r⟩
    refine ⟨_, _, rfl, _, rfl, (size : Int), rfl, by omega, by omega, ?_⟩
    refine for_range (lo := 0) (n := size) (fun i σ H3 => ∃ (last : Int) (ns : List Int), (∃ a5 a6, σ = [some (.ref b), some (.int size), some (.int 30), some (.ref p), some (.int last), a5, a6]) ∧ H3 p = some (.lst (ns.map V.int)) ∧ ns.length = i ∧ Kp b H H3 ∧ Bag H3 b (n + 2 * i) ∧ 0 ≤ last ∧ last + ((size : Int) - i) ≤ 30) ?_ ?_ ?_
    · exact ⟨0, [], ⟨_, _, rfl⟩, upd_same, rfl, fun a o _ e => S0 a o e, hB0, Int.le_refl _, by omega⟩
    · rintro i σ H3 hi ⟨last, ns, ⟨a5, a6, rfl⟩, h3, ln, k3, b3, l0, l1⟩
      have hm : most = 1000000 := rfl
      refine ⟨_, rfl, _, rfl, _, _, rfl, rfl, _, rfl, _, rfl, _, _, rfl, rfl, _, _, rfl, rfl, _, _, rfl, rfl, ?_⟩
      have w1 : 1 ≤ 30 - last - ((size : Int) - (0 + (i : Int)) - 1) := by omega
      have w2 : 30 - last - ((size : Int) - (0 + (i : Int)) - 1) ≤ 30 - last - ((size : Int) - (i : Int) - 1) := by omega
      have w3 : 30 - last - ((size : Int) - (0 + (i : Int)) - 1) < 1073741824 := by omega
      obtain ⟨wide, ew⟩ : ∃ w : Int, 30 - last - ((size : Int) - (0 + (i : Int)) - 1) = w := ⟨_, rfl⟩
      rw [ew] at w1 w2 w3
      refine ⟨_, rfl, _, _, rfl, rfl, _, rfl, _, rfl, _, rfl, _, _, rfl, (by show 2 ≤ sizeLine; decide), fun pl hpl => ?_⟩
      simp only [ew]
      have S4 : Same H3 (upd H3 pl (.lst [.int wide, .int (if 3 < wide then 3 else wide)])) := Same.new hpl
      have b4 : Bag (upd H3 pl (.lst [.int wide, .int (if 3 < wide then 3 else wide)])) b (n + 2 * i) := by
        obtain ⟨x, y, z, e, r⟩ := b3
        exact ⟨x, y, z, S4 _ _ e, r⟩
      have plb : pl ≠ b := new_ne hpl b3
      refine ⟨_, rfl, b, 2, _, rfl, by decide, by decide, b4, by omega, fun d H5 d0 d1 k5 b5 => ?_⟩
      have hpl5 : H5 pl = some (.lst [.int wide, .int (if 3 < wide then 3 else wide)]) := k5 _ _ plb upd_same
      have hp5 : H5 p = some (.lst (ns.map V.int)) := k5 _ _ pb (S4 _ _ h3)
      have K5 : Kp b H H5 := fun a o nb e => k5 a o nb (S4 a o (k3 a o nb e))
      have pick : ∃ x : Int, atI [V.int wide, V.int (if 3 < wide then 3 else wide)] d = some (.int x) ∧ 0 < x ∧ x ≤ wide := by
        rcases (by omega : d = 0 ∨ d = 1) with rfl | rfl
        · exact ⟨wide, rfl, by omega, Int.le_refl _⟩
        · refine ⟨_, rfl, ?_, ?_⟩ <;> split <;> omega
      obtain ⟨x, ex, x0, x1⟩ := pick
      refine ⟨pl, _, d, _, rfl, rfl, SqL.of hpl5, ex, b, x, _, rfl, x0, by omega, b5, by omega, fun d2 H6 e0 e1 k6 b6 => ?_⟩
      have hp6 : H6 p = some (.lst (ns.map V.int)) := k6 _ _ pb hp5
      refine ⟨_, _, rfl, rfl, ?_⟩
      refine ⟨_, rfl, .inl ⟨rfl, _, SqL.of hp6⟩, _, rfl, p, _, _, rfl, rfl, hp6, ?_, ?_⟩
      · rw [List.length_map, ln]
        exact Nat.lt_of_lt_of_le (show i < 100 by omega) (by decide)
      · refine ⟨last + 1 + d2, ns ++ [last + 1 + d2], ⟨_, _, rfl⟩, ?_, ?_, ?_, ?_, by omega, by omega⟩
        · rw [upd_same, List.map_append]; rfl
        · rw [List.length_append, ln]; rfl
        · intro a o nb e
          have z := k6 a o nb (K5 a o nb e)
          rw [upd_ne (ne_of_none e hp)]
          exact z
        · obtain ⟨x, y, z, e, r⟩ := b6.mono (show n + 2 * i + 1 + 1 ≤ n + 2 * (i + 1) by omega)
          exact ⟨x, y, z, by rw [upd_ne (Ne.symm pb)]; exact e, r⟩
    · rintro σ H3 ⟨last, ns, ⟨a5, a6, rfl⟩, h3, ln, k3, b3, l0, l1⟩
      exact ⟨_, rfl, q p ns H3 hp h3 ln k3 (b3.mono (by omega))⟩
end
end Fh

set_option Elab.async false
set_option linter.all false
set_option maxRecDepth 100000
set_option maxHeartbeats 4000000
namespace Fh
open PySem L2 PyProof.Rows
abbrev sInit : Stmt := inClass (top 56) 0
abbrev sFace : Stmt := top 81
structure ClsF (K : PySem.W.Frag) (mg : Str → Option Value) (C : Addr) : Prop where
  cl : Cls K C
  n1 : NoAttr K C "name"
  n2 : NoAttr K C "edition"
  n3 : NoAttr K C "choices"
  n4 : NoAttr K C "records"
  n5 : NoAttr K C "calls"
  mgC : mg "Face" = some (.ref C)
def spInitF (C : Addr) : Sp := fun vs H Q _ => ∃ (x dx : Addr) (v1 v2 v3 v4 v5 : V), vs = [.ref x, v1, v2, v3, v4, v5] ∧ H x = some (.ins C dx []) ∧ Q .non (upd H x (.ins C dx (ff v1 v2 v3 v4 v5)))
section
variable {P : Program} {w : World} {K : PySem.W.Frag} {mg : Str → Option Value} {base : Heap}
abbrev pInit : List Str := ["self", "name", "edition", "choices", "records", "calls"]
theorem scInit : FnScope pInit pInit (defScope sInit) := ⟨rfl, rfl, rfl, by decide +kernel, rfl, by decide +kernel, by decide +kernel⟩
theorem ok_init {f C : Addr} {fd : FuncData} {kws : List (Str × V)} (F : FunD K "__init__" "Face.__init__" (defArgs sInit) (defBody sInit) (defScope sInit) [] kws f fd) (T : ClsF K mg C) : FnOk P w K mg base CX0 1 f fd pInit (spInitF C) := by
  refine F.ok scInit (fun vs H Q E h => ?_) (fun cdv A outer s H vs Q E hr h => ?_)
  · obtain ⟨x, dx, v1, v2, v3, v4, v5, rfl, _⟩ := h
    rfl
  · obtain ⟨x, dx, v1, v2, v3, v4, v5, rfl, hx, k⟩ := h
    refine ⟨_, PSs.nox (pss_cons (ps_fld (pv 0) (pv 1) rfl) (pss_cons (ps_fld (pv 0) (pv 2) rfl) (pss_cons (ps_fld (pv 0) (pv 3) rfl) (pss_cons (ps_fld (pv 0) (pv 4) rfl) (pss_one (ps_fld (pv 0) (pv 5) rfl)))))), ?_⟩
    refine ⟨_, rfl, _, rfl, x, C, dx, _, rfl, hx, T.cl, T.n1, (by show 0 < 1000; decide), ?_⟩
    refine ⟨_, rfl, _, rfl, x, C, dx, _, rfl, upd_same, T.cl, T.n2, ?_, ?_⟩
    · exact Nat.lt_of_le_of_lt (putF_len _ _ _) (by show 0 + 1 < 1000; decide)
    refine ⟨_, rfl, _, rfl, x, C, dx, _, rfl, upd_same, T.cl, T.n3, ?_, ?_⟩
    · exact Nat.lt_of_le_of_lt (Nat.le_trans (putF_len _ _ _) (Nat.succ_le_succ (putF_len _ _ _))) (by show 0 + 1 + 1 < 1000; decide)
    refine ⟨_, rfl, _, rfl, x, C, dx, _, rfl, upd_same, T.cl, T.n4, ?_, ?_⟩
    · exact Nat.lt_of_le_of_lt (Nat.le_trans (putF_len _ _ _) (Nat.succ_le_succ (Nat.le_trans (putF_len _ _ _) (Nat.succ_le_succ (putF_len _ _ _))))) (by show 0 + 1 + 1 + 1 < 1000; decide)
    refine ⟨_, rfl, _, rfl, x, C, dx, _, rfl, upd_same, T.cl, T.n5, ?_, ?_⟩
    · exact Nat.lt_of_le_of_lt (Nat.le_trans (putF_len _ _ _) (Nat.succ_le_succ (Nat.le_trans (putF_len _ _ _) (Nat.succ_le_succ (Nat.le_trans (putF_len _ _ _) (Nat.succ_le_succ (putF_len _ _ _))))))) (by show 0 + 1 + 1 + 1 + 1 < 1000; decide)
    have e : upd (upd (upd (upd (upd H x (.ins C dx (putF "name" v1 []))) x (.ins C dx (putF "edition" v2 (putF "name" v1 [])))) x (.ins C dx (putF "choices" v3 (putF "edition" v2 (putF "name" v1 []))))) x (.ins C dx (putF "records" v4 (putF "choices" v3 (putF "edition" v2 (putF "name" v1 [])))))) x (.ins C dx (ff v1 v2 v3 v4 v5)) = upd H x (.ins C dx (ff v1 v2 v3 v4 v5)) := by
      rw [upd_upd, upd_upd, upd_upd, upd_upd]
    rw [← e] at k
    exact k
end
structure MkF (P : Program) (w : World) (K : PySem.W.Frag) (mg : Str → Option Value) (base : Heap) (C : Addr) : Prop where
  ex : ∃ (f : Addr) (fd : FuncData) (e1 e2 e3 : Addr), Mk K C f ∧ FnOk P w K mg base CX0 1 f fd pInit (spInitF C) ∧ FunD K "__init__" "Face.__init__" (defArgs sInit) (defBody sInit) (defScope sInit) [] [("choices", .ref e1), ("records", .ref e2), ("calls", .ref e3)] f fd
  mgC : mg "Face" = some (.ref C)
def g0 {α : Type} (us mv ws : List α) : List α := us ++ ws
section
variable {K : PySem.W.Frag} {f : Addr} {fd : FuncData} {e1 e2 e3 : Addr}
abbrev DInit (K : PySem.W.Frag) (e1 e2 e3 f : Addr) (fd : FuncData) : Prop := FunD K "__init__" "Face.__init__" (defArgs sInit) (defBody sInit) (defScope sInit) [] [("choices", .ref e1), ("records", .ref e2), ("calls", .ref e3)] f fd
theorem kb0 (F : DInit K e1 e2 e3 f fd) : ∃ mv : List Value, KBn K fd pInit 3 ["choices", "records", "calls"] (fun us ws => g0 us mv ws) (fun vs zs => g0 vs [] zs) :=
  FunD.kbinds0 F 3 ["choices", "records", "calls"] [] (fun {α} us mv ws => g0 us mv ws) (by simp) (fun q h => by cases h) (fun r1 _ r3 => r1.append r3) fun D doc pm an cdv ct us mv ws h1 h2 h3 => by
    match us, h1, ws, h3, mv, h2 with
    | [_, _, _], _, [_, _, _], _, [], _ => exact rfl
end
def spFace (C : Addr) : Sp := fun vs H Q _ => ∃ (p : Addr) (v1 v2 v3 v4 v5 : V), vs = [.ref p] ∧ H p = some (.tup [v1, v2, v3, v4, v5]) ∧
  ∀ (x dx : Addr) (H' : Hp), Same H H' → H x = none → H' x = some (.ins C dx (ff v1 v2 v3 v4 v5)) → Q (.ref x) H'
section
variable {P : Program} {w : World} {K : PySem.W.Frag} {mg : Str → Option Value} {base : Heap}
theorem scFace : FnScope ["_law_parts"] ["_law_parts"] (defScope sFace) := ⟨rfl, rfl, rfl, by decide +kernel, rfl, by decide +kernel, by decide +kernel⟩
theorem ok_face {f C : Addr} {fd : FuncData} (F : Fun K "_law_made_face" "_law_made_face" sFace f fd) (M : MkF P w K mg base C) : FnOk P w K mg base CX0 3 f fd ["_law_parts"] (spFace C) := by
  obtain ⟨fi, fdi, e1, e2, e3, mk, FI, DI⟩ := M.ex
  obtain ⟨mv, hb⟩ := kb0 DI
  refine F.ok scFace (fun vs H Q E h => ?_) (fun cdv A outer s H vs Q E hr h => ?_)
  · obtain ⟨p, v1, v2, v3, v4, v5, rfl, _⟩ := h
    rfl
  · obtain ⟨p, v1, v2, v3, v4, v5, rfl, hp, k⟩ := h
    refine ⟨_, pss_one (ps_ret (pe_makeK mk FI hr rfl M.mgC hb pass0 (pa_cons (pe_ix ix_tup (pv 0) pe_int (fun _ _ => rfl)) (pa_cons (pe_ix ix_tup (pv 0) pe_int (fun _ _ => rfl)) pa_nil))
      (pk_cons (pe_ix ix_tup (pv 0) pe_int (fun _ _ => rfl)) (pk_cons (pe_ix ix_tup (pv 0) pe_int (fun _ _ => rfl)) (pk_cons (pe_ix ix_tup (pv 0) pe_int (fun _ _ => rfl)) pk_nil))))), ?_⟩
    refine ⟨_, rfl, p, _, _, _, rfl, rfl, SqT.of hp, rfl, _, rfl, p, _, _, _, rfl, rfl, SqT.of hp, rfl, _, rfl, p, _, _, _, rfl, rfl, SqT.of hp, rfl, _, rfl, p, _, _, _, rfl, rfl, SqT.of hp, rfl, _, rfl, p, _, _, _, rfl, rfl, SqT.of hp, rfl, rfl, rfl, fun x dx hx hdx hne => ?_⟩
    refine ⟨x, dx, v1, v2, v3, v4, v5, rfl, upd_same, rfl, k x dx _ ?_ hx upd_same⟩
    refine Same.wr (Same.wr (Same.new hdx) hx) hx
end

end Fh

set_option Elab.async false
set_option linter.all false
set_option maxRecDepth 100000
set_option maxHeartbeats 4000000
namespace Fh
open PySem L2 PyProof.Rows
abbrev sNbd : Stmt := top 82
abbrev nNbd : List Str := ["_law_parts", "_law_kind", "_law_inner"]
/-- a face's parts, choices and records held as the very objects -/
def PartsR (H : Hp) (p : Addr) (cs rs : List (Str × PyData)) : Prop := ∃ (c r e : Addr) (oc ow : Obj) (xc xr : List V) (v1 v2 : V), H p = some (.tup [v1, v2, .ref c, .ref r, .ref e]) ∧
  H c = some (.frz oc (.tup xc)) ∧ PlainT oc ∧ TpAll H xc (cs.map fun r => .tuple [.str r.1, r.2]) ∧ H r = some (.frz ow (.tup xr)) ∧ PlainT ow ∧ TpAll H xr (rs.map fun r => .tuple [.str r.1, r.2]) ∧ H e = some (.tup [])
theorem PartsR.same {H H' : Hp} {p : Addr} {cs rs : List (Str × PyData)} (h : PartsR H p cs rs) (s : Same H H') : PartsR H' p cs rs := by
  obtain ⟨c, r, e, oc, ow, xc, xr, v1, v2, h1, h2, h3, h4, h5, h6, h7, h8⟩ := h
  exact ⟨c, r, e, oc, ow, xc, xr, v1, v2, s _ _ h1, s _ _ h2, h3, TpAll.keep (Same.tk s) _ _ h4, s _ _ h5, h6, TpAll.keep (Same.tk s) _ _ h7, s _ _ h8⟩
/-- x[i] of a text or a tuple -/
theorem ix_both {X : Cx} {r1 r2 : R2} (h1 : IxR X r1) (h2 : IxR X r2) : IxR X (fun x y H Q => r1 x y H Q ∨ r2 x y H Q) := by
  intro value slice pins s σ H x y v u Q I rx ry h hs
  rcases h with h | h
  · exact h1 value slice pins s σ H x y v u Q I rx ry h hs
  · exact h2 value slice pins s σ H x y v u Q I rx ry h hs
theorem merge_has (k : Key) : ∀ (l acc : List (Key × V)), (valV (mergeK acc l) k).isSome = true ↔ (valV acc k).isSome = true ∨ k ∈ l.map Prod.fst
  | [], acc => by
    show (valV acc k).isSome = true ↔ _
    simp
  | p :: l, acc => by
    show (valV (mergeK (putK acc p.1 p.2) l) k).isSome = true ↔ _
    rw [merge_has k l, valV_put, List.map_cons, List.mem_cons]
    by_cases e : k = p.1
    · rw [if_pos e]
      exact ⟨fun _ => .inr (.inl e), fun _ => .inl rfl⟩
    · rw [if_neg e]
      exact ⟨fun h => h.elim .inl fun h => .inr (.inr h), fun h => h.elim .inl fun h => h.elim (fun h => absurd h e) .inr⟩
/-- pairs with texts, as dict() takes them -/
theorem pairs_in {K : PySem.W.Frag} {H : Hp} : ∀ {xs : List V} {rows : List (Str × PyData)}, TpAll H xs (rows.map fun r => .tuple [.str r.1, r.2]) → ∃ (ps : List Addr) (kvs : List (Key × V)), xs = ps.map V.ref ∧ ps.length = rows.length ∧ kvs.map Prod.fst = rows.map (fun r => Sum.inr r.1) ∧ Paired (fun p kv => SqT K H p [kV kv.1, kv.2]) ps kvs
  | xs, [], q => by
    rw [List.map_nil] at q
    cases q.inil
    exact ⟨[], [], rfl, rfl, rfl, .nil⟩
  | xs, r :: rows, q => by
    rw [List.map_cons] at q
    obtain ⟨x, rest, rfl, hx, q2⟩ := q.icons
    obtain ⟨a, y, u, rfl, ha, hy, hu⟩ := Tp.pair hx
    cases hy.istr
    obtain ⟨ps, kvs, rfl, l, e, pr⟩ := pairs_in (K := K) q2
    exact ⟨a :: ps, (Sum.inr r.1, u) :: kvs, rfl, by simp [l], by simp [e], .cons (SqT.of ha) pr⟩
def spNbd : Sp := fun vs H Q _ => ∃ (p : Addr) (v : V) (k : Kn) (cs rs : List (Str × PyData)), vs = [.ref p, v] ∧ PartsR H p cs rs ∧ Tp H v k.d ∧ cs.length ≤ 100 ∧ rs.length ≤ 100 ∧
  ∀ (x : V) (H' : Hp), Same H H' → (nobK cs rs k = true → ∃ z, x = .str z) → (nobK cs rs k = false → x = .non) → Q x H'
section
variable {P : Program} {w : World} {K : PySem.W.Frag} {mg : Str → Option Value} {base : Heap}
theorem scNbd : FnScope nNbd ["_law_parts", "_law_kind"] (defScope sNbd) := ⟨rfl, rfl, rfl, by decide +kernel, rfl, by decide +kernel, by decide +kernel⟩
theorem ok_nbd {f : Addr} {fd : FuncData} (F : Fun K "_law_nobody" "_law_nobody" sNbd f fd) (G : Glb mg) : FnOk P w K mg base CX0 1 f fd ["_law_parts", "_law_kind"] spNbd := by
  refine F.ok scNbd (fun vs H Q E h => ?_) (fun cdv A outer s H vs Q E hr h => ?_)
  · obtain ⟨p, v, k, cs, rs, rfl, _⟩ := h
    rfl
  · obtain ⟨p, v, k, cs, rs, rfl, hP, t, lc, lr, q⟩ := h
    have hu := hu_of hr
    refine ⟨_, C8.pss_cut (ps_set (i := 2) scNbd.nd rfl (Or.inl rfl) (pe_ifExp (pt_cmpR op_eq (pe_ix (ix_both ix_str ix_tup) (pv 1) pe_int (fun _ _ => rfl)) pe_str (nomark _)) (pe_ix ix_tup (pv 1) pe_int (fun _ _ => rfl)) (pv 1)))
      (pss_cons (ps_if (pt_val (pe_callB call_isi (by rfl) G.isi (by decide +kernel) (pa_cons (pv 2) (pa_cons (pe_bltn (v := .ty "str") rfl G.str (by decide +kernel) rfl) pa_nil)))) (pss_one (ps_ret pe_non)) pss_nil)
      (pss_one (ps_ret (pe_ifExp (pt_cmp (pc_din hu (pe_ix ix_tup (pv 2) pe_int (fun _ _ => rfl)) (pe_callTy (cr_dictT rfl) (by rfl) G.dict (by decide +kernel) (pa_cons (pe_ix ix_tup (pv 0) (pe_ix ix_list (pe_lst (pa_cons pe_int (pa_cons pe_int pa_nil))) (pe_callTy call_int1 (by rfl) G.int (by decide +kernel) (pa_cons (pe_cmpR op_eq (pe_ix ix_tup (pv 2) pe_int (fun _ _ => rfl)) pe_str (nomark _)) pa_nil)) (fun _ _ => rfl)) (fun _ _ => rfl)) pa_nil)))) pe_non (pe_ix ix_tup (pv 2) pe_int (fun _ _ => rfl)))))), ?_⟩
    obtain ⟨c, r, e, oc, ow, xc, xr, v1, v2, h1, h2, h3, h4, h5, h6, h7, h8⟩ := id hP
    refine ⟨fun σ H' => H' = H ∧ ∃ (u : V) (b : Kb), σ = [some (.ref p), some v, some u] ∧ Tp H u b.d ∧ nobK cs rs k = nobB cs rs b, ?_, ?_⟩
    · rcases kn_inv t with ⟨rfl, hk⟩ | ⟨a, u, rfl, ha, tu⟩
      · rcases hk with rfl | rfl | rfl
        · refine ⟨_, rfl, .inl ⟨_, _, _, rfl, rfl, by decide +kernel, rfl, rfl, _, rfl, ?_⟩⟩
          exact ite2 (fun h => absurd (of_decide_eq_true h) (sne (by decide +kernel))) (fun _ => ⟨_, rfl, rfl, _, .whole, rfl, t, rfl⟩)
        · refine ⟨_, rfl, .inl ⟨_, _, _, rfl, rfl, by decide +kernel, rfl, rfl, _, rfl, ?_⟩⟩
          exact ite2 (fun h => absurd (of_decide_eq_true h) (sne (by decide +kernel))) (fun _ => ⟨_, rfl, rfl, _, .truth, rfl, t, rfl⟩)
        · refine ⟨_, rfl, .inl ⟨_, _, _, rfl, rfl, by decide +kernel, rfl, rfl, _, rfl, ?_⟩⟩
          exact ite2 (fun h => absurd (of_decide_eq_true h) (sne (by decide +kernel))) (fun _ => ⟨_, rfl, rfl, _, .text, rfl, t, rfl⟩)
      · refine ⟨_, rfl, .inr ⟨a, _, _, _, rfl, rfl, SqT.of ha, rfl, rfl, _, rfl, ?_⟩⟩
        cases k with
        | lst b =>
          exact ite2 (fun _ => ⟨_, rfl, a, _, _, _, rfl, rfl, SqT.of ha, rfl, rfl, u, b, rfl, tu, rfl⟩) (fun h => absurd (decide_eq_true rfl) h)
        | one b =>
          cases b with
          | whole => cases t
          | truth => cases t
          | text => cases t
          | rc z => exact ite2 (fun h => absurd (of_decide_eq_true h) (sne (by decide +kernel : ("record" : Str) ≠ "list"))) (fun _ => ⟨_, rfl, rfl, _, .rc z, rfl, t, rfl⟩)
          | ch z => exact ite2 (fun h => absurd (of_decide_eq_true h) (sne (by decide +kernel : ("choice" : Str) ≠ "list"))) (fun _ => ⟨_, rfl, rfl, _, .ch z, rfl, t, rfl⟩)
    · rintro σ H' ⟨rfl, u, b, rfl, tu, en⟩
      rw [en] at q
      cases b with
      | whole =>
        cases Tp.istr tu
        exact ⟨_, rfl, _, _, .type "str", .type "str", true, rfl, .ty _, .base (.str _), rfl, true, rfl, iteT (q .non H' (Same.refl H') (fun h => nomatch h) (fun _ => rfl))⟩
      | truth =>
        cases Tp.istr tu
        exact ⟨_, rfl, _, _, .type "str", .type "str", true, rfl, .ty _, .base (.str _), rfl, true, rfl, iteT (q .non H' (Same.refl H') (fun h => nomatch h) (fun _ => rfl))⟩
      | text =>
        cases Tp.istr tu
        exact ⟨_, rfl, _, _, .type "str", .type "str", true, rfl, .ty _, .base (.str _), rfl, true, rfl, iteT (q .non H' (Same.refl H') (fun h => nomatch h) (fun _ => rfl))⟩
      | rc z =>
        obtain ⟨a, x, y, rfl, ha, hx, hy⟩ := Tp.pair tu
        cases hx.istr
        cases hy.istr
        refine ⟨_, rfl, _, _, .type "tuple", .type "str", false, rfl, .ty _, .base (.tup ha), rfl, false, rfl, iteF ?_⟩
        refine ⟨_, rfl, a, _, _, _, rfl, rfl, SqT.of ha, rfl, _, rfl, (by show 2 ≤ sizeLine; decide), fun l hl => ?_⟩
        have S1 : Same H' (upd H' l (.lst [.int 2, .int 3])) := Same.new hl
        obtain ⟨ps, kvs, rfl, lp, ek, pr⟩ := pairs_in (K := K) (TpAll.keep (Same.tk S1) _ _ h7)
        have ed : decide (V.str "record" = V.str "record") = true := decide_eq_true rfl
        refine ⟨_, rfl, a, _, _, _, rfl, rfl, SqT.of (S1 _ _ ha), rfl, rfl, .inr ⟨_, rfl, l, _, _, .int 3, rfl, rfl, SqL.of upd_same, by rw [ed]; rfl, p, _, _, _, rfl, rfl, SqT.of (S1 _ _ h1), rfl, r, ow, ps, kvs, rfl, S1 _ _ h5, h6, pr, by rw [lp]; omega, fun d hd => ?_⟩⟩
        have S2 : Same H' (upd (upd H' l (.lst [.int 2, .int 3])) d (.dK (mergeK [] kvs))) := fun b o e => Same.new hd b o (S1 b o e)
        refine ⟨d, _, rfl, DGet.k (k := Sum.inr z) upd_same, _, rfl, ?_⟩
        have hm := merge_has (Sum.inr z) kvs []
        have hin : (Sum.inr z : Key) ∈ kvs.map Prod.fst ↔ z ∈ rs.map (·.1) := by
          rw [ek]
          constructor
          · intro h
            obtain ⟨r', hr', e'⟩ := List.mem_map.mp h
            cases e'
            exact List.mem_map.mpr ⟨r', hr', rfl⟩
          · intro h
            obtain ⟨r', hr', rfl⟩ := List.mem_map.mp h
            exact List.mem_map.mpr ⟨r', hr', rfl⟩
        refine ite2 (fun h => ?_) (fun h => ?_)
        · have hz : z ∈ rs.map (·.1) := by
            rcases hm.mp h with h | h
            · cases h
            · exact hin.mp h
          have en2 : nameIn z rs = true := decide_eq_true hz
          exact q .non _ S2 (fun h' => by
            have h2 : (!nameIn z rs) = true := h'
            rw [en2] at h2
            cases h2) (fun _ => rfl)
        · have hz : ¬ z ∈ rs.map (·.1) := fun h' => h (hm.mpr (.inr (hin.mpr h')))
          have en2 : nameIn z rs = false := decide_eq_false hz
          exact ⟨_, rfl, a, _, _, _, rfl, rfl, SqT.of (S2 _ _ ha), rfl, q (.str z) _ S2 (fun _ => ⟨z, rfl⟩) (fun h' => by
            have h2 : (!nameIn z rs) = false := h'
            rw [en2] at h2
            cases h2)⟩
      | ch z =>
        obtain ⟨a, x, y, rfl, ha, hx, hy⟩ := Tp.pair tu
        cases hx.istr
        cases hy.istr
        refine ⟨_, rfl, _, _, .type "tuple", .type "str", false, rfl, .ty _, .base (.tup ha), rfl, false, rfl, iteF ?_⟩
        refine ⟨_, rfl, a, _, _, _, rfl, rfl, SqT.of ha, rfl, _, rfl, (by show 2 ≤ sizeLine; decide), fun l hl => ?_⟩
        have S1 : Same H' (upd H' l (.lst [.int 2, .int 3])) := Same.new hl
        obtain ⟨ps, kvs, rfl, lp, ek, pr⟩ := pairs_in (K := K) (TpAll.keep (Same.tk S1) _ _ h4)
        have ed : decide (V.str "choice" = V.str "record") = false := decide_eq_false (sne (by decide +kernel))
        refine ⟨_, rfl, a, _, _, _, rfl, rfl, SqT.of (S1 _ _ ha), rfl, rfl, .inr ⟨_, rfl, l, _, _, .int 2, rfl, rfl, SqL.of upd_same, by rw [ed]; rfl, p, _, _, _, rfl, rfl, SqT.of (S1 _ _ h1), rfl, c, oc, ps, kvs, rfl, S1 _ _ h2, h3, pr, by rw [lp]; omega, fun d hd => ?_⟩⟩
        have S2 : Same H' (upd (upd H' l (.lst [.int 2, .int 3])) d (.dK (mergeK [] kvs))) := fun b o e => Same.new hd b o (S1 b o e)
        refine ⟨d, _, rfl, DGet.k (k := Sum.inr z) upd_same, _, rfl, ?_⟩
        have hm := merge_has (Sum.inr z) kvs []
        have hin : (Sum.inr z : Key) ∈ kvs.map Prod.fst ↔ z ∈ cs.map (·.1) := by
          rw [ek]
          constructor
          · intro h
            obtain ⟨r', hr', e'⟩ := List.mem_map.mp h
            cases e'
            exact List.mem_map.mpr ⟨r', hr', rfl⟩
          · intro h
            obtain ⟨r', hr', rfl⟩ := List.mem_map.mp h
            exact List.mem_map.mpr ⟨r', hr', rfl⟩
        refine ite2 (fun h => ?_) (fun h => ?_)
        · have hz : z ∈ cs.map (·.1) := by
            rcases hm.mp h with h | h
            · cases h
            · exact hin.mp h
          have en2 : nameIn z cs = true := decide_eq_true hz
          exact q .non _ S2 (fun h' => by
            have h2 : (!nameIn z cs) = true := h'
            rw [en2] at h2
            cases h2) (fun _ => rfl)
        · have hz : ¬ z ∈ cs.map (·.1) := fun h' => h (hm.mpr (.inr (hin.mpr h')))
          have en2 : nameIn z cs = false := decide_eq_false hz
          exact ⟨_, rfl, a, _, _, _, rfl, rfl, SqT.of (S2 _ _ ha), rfl, q (.str z) _ S2 (fun _ => ⟨z, rfl⟩) (fun h' => by
            have h2 : (!nameIn z cs) = false := h'
            rw [en2] at h2
            cases h2)⟩
end
end Fh

set_option Elab.async false
set_option linter.all false
set_option maxRecDepth 100000
set_option maxHeartbeats 4000000
namespace Fh
open PySem L2 PyProof.Rows
abbrev sAll : Stmt := top 83
abbrev nAll : List Str := ["_law_parts", "_law_one", "_law_fields", "_law_found", "_law_turn", "_law_sizes", "_law_field", "_law_size"]
/-- a dict has these sizes, None where there is none yet -/
def AOf (kvs : List (Key × V)) (D : Szs) : Prop := ∀ z : Str, (valV kvs (.inr z)).getD .non = optV (D z)
def nmK (recs : List Rec) : List Key := recs.map fun r => Sum.inr r.1
def rawV (D : Szs) : Kn → V
  | .lst _ => .int 1
  | .one (.rc z) => optV (D z)
  | .one (.ch _) => .int 1
  | .one _ => .int 0
theorem raw_kSz {cs rs : List (Str × PyData)} {D : Szs} {k : Kn} (h : nobK cs rs k = false) : optV (kSz cs rs D k) = rawV D k := by
  unfold kSz
  rw [if_neg (by rw [h]; exact Bool.false_ne_true)]
  cases k with
  | lst b => rfl
  | one b => cases b <;> rfl
theorem nob_kSz {cs rs : List (Str × PyData)} {D : Szs} {k : Kn} (h : nobK cs rs k = true) : kSz cs rs D k = none := if_pos h
def dispK (x : V) : List (Key × V) := [(Sum.inr "choice", .int 1), (Sum.inr "list", .int 1), (Sum.inr "record", x)]
theorem kne {a b : Str} (h : a ≠ b) : ¬ (Sum.inr a : Key) = Sum.inr b := fun e => h (Sum.inr.inj e)
theorem disp_eq (x : V) : mergeK [] (dispK x) = putK (putK (putK ([] : List (Key × V)) (Sum.inr "choice") (.int 1)) (Sum.inr "list") (.int 1)) (Sum.inr "record") x := rfl
theorem disp_rec (x : V) : valV (mergeK [] (dispK x)) (.inr "record") = some x := by
  rw [disp_eq]
  rw [valV_put, if_pos rfl]
theorem disp_list (x : V) : valV (mergeK [] (dispK x)) (.inr "list") = some (.int 1) := by
  rw [disp_eq]
  rw [valV_put, if_neg (kne (by decide +kernel)), valV_put, if_pos rfl]
theorem disp_choice (x : V) : valV (mergeK [] (dispK x)) (.inr "choice") = some (.int 1) := by
  rw [disp_eq]
  rw [valV_put, if_neg (kne (by decide +kernel)), valV_put, if_neg (kne (by decide +kernel)), valV_put, if_pos rfl]
theorem disp_other (x : V) {z : Str} (h1 : z ≠ "record") (h2 : z ≠ "list") (h3 : z ≠ "choice") : valV (mergeK [] (dispK x)) (.inr z) = none := by
  rw [disp_eq]
  rw [valV_put, if_neg (kne h1), valV_put, if_neg (kne h2), valV_put, if_neg (kne h3)]
  rfl
theorem putK_keys {κ : Type} [DecidableEq κ] {kvs : List (κ × V)} {k : κ} {v : V} (h : k ∈ kvs.map Prod.fst) : (putK kvs k v).map Prod.fst = kvs.map Prod.fst := by
  unfold putK
  have a : (kvs.any fun kv => decide (kv.1 = k)) = true := by
    rw [List.any_eq_true]
    obtain ⟨kv, m, e⟩ := List.mem_map.mp h
    exact ⟨kv, m, decide_eq_true e⟩
  rw [if_pos a, List.map_map]
  refine List.map_congr_left fun kv _ => ?_
  show (if kv.1 = k then (kv.1, v) else kv).1 = kv.1
  split <;> rfl
theorem putK_new {κ : Type} [DecidableEq κ] {kvs : List (κ × V)} {k : κ} {v : V} (h : k ∉ kvs.map Prod.fst) : putK kvs k v = kvs ++ [(k, v)] := by
  unfold putK
  rw [if_neg]
  intro a
  rw [List.any_eq_true] at a
  obtain ⟨kv, m, e⟩ := a
  exact h (List.mem_map.mpr ⟨kv, m, of_decide_eq_true e⟩)
theorem merge_nodup : ∀ (l acc : List (Key × V)), ((acc ++ l).map Prod.fst).Nodup → mergeK acc l = acc ++ l
  | [], acc, _ => (List.append_nil acc).symm
  | p :: l, acc, h => by
    show mergeK (putK acc p.1 p.2) l = _
    have hn : p.1 ∉ acc.map Prod.fst := by
      rw [List.map_append, List.nodup_append] at h
      exact fun m => h.2.2 _ m _ (by rw [List.map_cons]; exact List.mem_cons_self) rfl
    rw [putK_new hn, merge_nodup l (acc ++ [(p.1, p.2)]) (by rw [List.append_assoc]; exact h), List.append_assoc]
    rfl
theorem aof_put {kvs : List (Key × V)} {D : Szs} (h : AOf kvs D) (x : Str) (v : Int) : AOf (putK kvs (.inr x) (.int v)) (putS D x (some v)) := by
  intro z
  unfold putS
  dsimp only
  rw [valV_put]
  by_cases e : z = x
  · subst e
    rw [if_pos rfl, if_pos rfl]
    rfl
  · rw [if_neg e, if_neg (kne e)]
    exact h z
theorem aof_start {recs : List Rec} : AOf (recs.map fun r => (Sum.inr r.1, V.non)) (fun _ => none) := by
  intro z
  unfold valV
  cases e : (recs.map fun r => ((Sum.inr r.1, V.non) : Key × V)).find? (fun kv => decide (kv.1 = Sum.inr z)) with
  | none => rfl
  | some kv =>
    obtain ⟨r, _, rfl⟩ := List.mem_map.mp (List.mem_of_find?_eq_some e)
    rfl
theorem fsz_eq (n : Int) : n + 3 + (if decide (n ≥ 200) = true then 1 else 0) = fsz n := by
  unfold fsz toldN
  by_cases h : n < 200
  · rw [if_pos h, if_neg (fun z => by have := of_decide_eq_true z; omega)]
    omega
  · rw [if_neg h, if_pos (decide_eq_true (by omega))]
    omega
def spAll : Sp := fun vs H Q _ => ∃ (p : Addr) (cs : List (Str × PyData)) (recs : List Rec), vs = [.ref p] ∧ PartsR H p cs (recs.map rD) ∧ cs.length ≤ 100 ∧ RecsOk recs ∧ (recs.map (·.1)).Nodup ∧
  ∀ (d : Addr) (kvs : List (Key × V)) (H' : Hp), Same H H' → H d = none → H' d = some (.dK kvs) → kvs.map Prod.fst = nmK recs → AOf kvs (turns cs (recs.map rD) recs recs.length) → Q (.ref d) H'
end Fh

set_option Elab.async false
set_option linter.all false
set_option maxRecDepth 100000
set_option maxHeartbeats 4000000
namespace Fh
open PySem L2 PyProof.Rows
theorem rGetT.mono {K : PySem.W.Frag} {x : V} {ys : List V} {H : Hp} {Q Q' : VK} (h : rGetT K x ys H Q) (m : ∀ y H', Q y H' → Q' y H') : rGetT K x ys H Q' := by
  obtain ⟨a, y, e1, e2, h⟩ := h
  refine ⟨a, y, e1, e2, ?_⟩
  rcases h with ⟨o, g, q⟩ | ⟨b, k, kvs, e, h1, h2, q⟩
  · exact .inl ⟨o, g, m _ _ q⟩
  · exact .inr ⟨b, k, kvs, e, h1, h2, m _ _ q⟩
/-- what is got by a kind's parts -/
theorem kind_raw {K : PySem.W.Frag} {H : Hp} {v : V} {k : Kn} (t : Tp H v k.d) {kvs : List (Key × V)} {D : Szs} {d : Addr} (hd : H d = some (.dK kvs)) (ha : AOf kvs D) :
    (∃ (z : Str) (c0 c1 : Nat), v = .str z ∧ z.length ≤ sizeLine ∧ atI z.cps.toList 0 = some c0 ∧ atI z.cps.toList 1 = some c1 ∧ (one c0 : Str) ≠ "record" ∧ (one c0 : Str) ≠ "list" ∧ (one c0 : Str) ≠ "choice" ∧ rawV D k = .int 0) ∨
    ∃ (a : Addr) (w : Str) (u x : V), v = .ref a ∧ H a = some (.tup [.str w, u]) ∧ rGetT K (.ref d) [u] H (fun y H' => y = x ∧ H' = H) ∧ (valV (mergeK [] (dispK x)) (.inr w)).getD (.int 0) = rawV D k := by
  rcases kn_inv t with ⟨rfl, hk⟩ | ⟨a, u, rfl, hb, tu⟩
  · left
    rcases hk with rfl | rfl | rfl
    · exact ⟨_, _, _, rfl, by decide +kernel, rfl, rfl, by decide +kernel, by decide +kernel, by decide +kernel, rfl⟩
    · exact ⟨_, _, _, rfl, by decide +kernel, rfl, rfl, by decide +kernel, by decide +kernel, by decide +kernel, rfl⟩
    · exact ⟨_, _, _, rfl, by decide +kernel, rfl, rfl, by decide +kernel, by decide +kernel, by decide +kernel, rfl⟩
  · right
    cases k with
    | one b =>
      cases b with
      | whole => cases t
      | truth => cases t
      | text => cases t
      | rc z =>
        cases tu.istr
        refine ⟨a, _, _, optV (D z), rfl, hb, ⟨d, _, rfl, rfl, .inl ⟨_, DGet.k (k := Sum.inr z) hd, ha z, rfl⟩⟩, ?_⟩
        show (valV (mergeK [] (dispK _)) (.inr "record")).getD _ = _
        rw [disp_rec]
        rfl
      | ch z =>
        cases tu.istr
        refine ⟨a, _, _, _, rfl, hb, ⟨d, _, rfl, rfl, .inl ⟨_, DGet.k (k := Sum.inr z) hd, rfl, rfl⟩⟩, ?_⟩
        show (valV (mergeK [] (dispK _)) (.inr "choice")).getD _ = _
        rw [disp_choice]
        rfl
    | lst b =>
      have fin : ∀ x : V, (valV (mergeK [] (dispK x)) (.inr (Kn.lst b).word)).getD (.int 0) = rawV D (.lst b) := fun x => by
        show (valV (mergeK [] (dispK _)) (.inr "list")).getD _ = _
        rw [disp_list]
        rfl
      cases b with
      | whole => cases Tp.istr tu; exact ⟨a, _, _, _, rfl, hb, ⟨d, _, rfl, rfl, .inl ⟨_, DGet.k (k := Sum.inr "whole") hd, rfl, rfl⟩⟩, fin _⟩
      | truth => cases Tp.istr tu; exact ⟨a, _, _, _, rfl, hb, ⟨d, _, rfl, rfl, .inl ⟨_, DGet.k (k := Sum.inr "truth") hd, rfl, rfl⟩⟩, fin _⟩
      | text => cases Tp.istr tu; exact ⟨a, _, _, _, rfl, hb, ⟨d, _, rfl, rfl, .inl ⟨_, DGet.k (k := Sum.inr "text") hd, rfl, rfl⟩⟩, fin _⟩
      | rc z =>
        obtain ⟨b2, x, y, rfl, h2, hx, hy⟩ := Tp.pair tu
        cases hx.istr
        cases hy.istr
        exact ⟨a, _, _, .non, rfl, hb, ⟨d, _, rfl, rfl, .inr ⟨b2, [Sum.inr "record", Sum.inr z], kvs, rfl, h2, .inl hd, rfl, rfl⟩⟩, fin _⟩
      | ch z =>
        obtain ⟨b2, x, y, rfl, h2, hx, hy⟩ := Tp.pair tu
        cases hx.istr
        cases hy.istr
        exact ⟨a, _, _, .non, rfl, hb, ⟨d, _, rfl, rfl, .inr ⟨b2, [Sum.inr "choice", Sum.inr z], kvs, rfl, h2, .inl hd, rfl, rfl⟩⟩, fin _⟩
section
variable {P : Program} {w : World} {K : PySem.W.Frag} {mg : Str → Option Value} {base : Heap}
theorem scAll : FnScope nAll ["_law_parts"] (defScope sAll) := ⟨rfl, rfl, rfl, by decide +kernel, rfl, by decide +kernel, by decide +kernel⟩
theorem ok_all {f : Addr} {fd : FuncData} (F : Fun K "_law_all_sizes" "_law_all_sizes" sAll f fd) (G : Glb mg) (DB : Has P w K mg base "_law_nobody" 1 ["_law_parts", "_law_kind"] spNbd) : FnOk P w K mg base CX0 2 f fd ["_law_parts"] spAll := by
  refine F.ok scAll (fun vs H Q E h => ?_) (fun cdv A outer s H vs Q E hr h => ?_)
  · obtain ⟨p, cs, recs, rfl, _⟩ := h
    rfl
  · obtain ⟨p, cs, recs, rfl, hP, lc, ok, nd, q⟩ := h
    have hu := hu_of hr
    refine ⟨_, (pss_cons (ps_set (i := 3) scAll.nd rfl (Or.inl rfl) (pe_callTy (call_dictP rfl) (by rfl) G.dict (by decide +kernel) (pa_cons (pe_lc (own := [("_law_one", 1), ("_law_fields", 2)]) (g := (gTup K 2 (gCons (gName 1) (gCons (gName 2) gNil)))) (tt := tYes) (te := tTup (tCons (tVar 1) (tCons (tC .non) tNil))) rfl scAll.nd (pi_tup (pe_ix ix_tup (pv 0) pe_int (fun _ _ => rfl))) (blkOk_by (N := nAll) (sc := defScope sAll) (by decide +kernel)) (fun _ _ _ _ _ => (pg_tup rfl (pgs_cons (pg_name (i := 1) scAll.nd rfl (Or.inl rfl)) (pgs_cons (pg_name (i := 2) scAll.nd rfl (Or.inl rfl)) pgs_nil)))) (fun _ _ _ _ _ => pts_nil) (fun _ _ _ _ _ => (pe_tup (pa_cons (pv 1) (pa_cons pe_non pa_nil))))) pa_nil)))
      (pss_cons (ps_for PassesOwn.never rfl (pi_range1 rfl G.range (pa_cons (pe_callB call_lenD (by rfl) G.len (by decide +kernel) (pa_cons (pv 3) pa_nil)) pa_nil)) (pg_name (i := 4) scAll.nd rfl (Or.inl rfl))
      (pss_one (ps_for PassesOwn.never rfl (pi_tup (pe_ix ix_tup (pv 0) pe_int (fun _ _ => rfl))) (pg_tup rfl (pgs_cons (pg_name (i := 1) scAll.nd rfl (Or.inl rfl)) (pgs_cons (pg_name (i := 2) scAll.nd rfl (Or.inl rfl)) pgs_nil)))
      (pss_cons (ps_set (i := 5) scAll.nd rfl (Or.inl rfl) (pe_lst pa_nil))
      (pss_cons (ps_for PassesOwn.never rfl (pi_tup (pv 2)) (pg_name (i := 6) scAll.nd rfl (Or.inl rfl))
      (pss_one (ps_if (pt_cmpR op_eq (pe_ix ix_tup (pv 6) pe_int (fun _ _ => rfl)) pe_str (nomark _))
      (C8.pss_cut (ps_set (i := 7) scAll.nd rfl (Or.inl rfl) (pe_dget2 hu (pe_disp (pps_cons pe_str pe_int (pps_cons pe_str pe_int (pps_cons pe_str (pe_bm PySem.F.plainAttrs_dict PySem.F.slot_dict_get PySem.F.type_dict_get (mt_getT hu) (pv 3) (pa_cons (pe_ix (ix_both ix_str ix_tup) (pe_ix ix_tup (pv 6) pe_int (fun _ _ => rfl)) pe_int (fun _ _ => rfl)) pa_nil)) pps_nil))) (by rfl) (by rfl) (fun z => by cases z) (by decide)) (pe_ix (ix_both ix_str ix_tup) (pe_ix ix_tup (pv 6) pe_int (fun _ _ => rfl)) pe_int (fun _ _ => rfl)) pe_int ⟨rfl, rfl, rfl, rfl⟩))
      (pss_one (ps_expr (pe_bm PySem.F.plainAttrs_list PySem.F.slot_list_append PySem.F.type_list_append mt_append (pv 5) (pa_cons (pe_ifExp (pt_cmpR op_notN (pe_has DB hr rfl (pa_cons (pv 0) (pa_cons (pe_ix ix_tup (pv 6) pe_int (fun _ _ => rfl)) pa_nil))) pe_non (nomark _)) pe_non (pv 7)) pa_nil)))))
      pss_nil)))
      (pss_one (ps_if (pt_cmpR op_notIn_seq pe_non (pv 5) rfl)
      (pss_one (ps_dput hu (pv 3) (pv 1) (pe_callB (cr_sum rfl) (by rfl) G.sum (by decide +kernel) (pa_cons (pe_lc (own := [("_law_size", 7)]) (g := (gName 7)) (tt := tYes) rfl scAll.nd (pi_list (pv 5)) (blkOk_by (N := nAll) (sc := defScope sAll) (by decide +kernel)) (fun _ _ _ _ _ => (pg_name (i := 7) scAll.nd rfl (Or.inl rfl))) (fun _ _ _ _ _ => pts_nil) (fun _ _ _ _ _ => (pe_op op_add (pe_op op_add (pv 7) pe_int) (pe_callTy call_int1 (by rfl) G.int (by decide +kernel) (pa_cons (pe_cmpR op_ge (pv 7) pe_int (nomark _)) pa_nil))))) pa_nil)) rfl))
      pss_nil)))))))
      (pss_one (ps_ret (pv 3))))), ?_⟩
    have ok6 := ok.len
    obtain ⟨c, r, e, oc, ow, xc, xr, v1, v2, h1, h2, h3, h4, h5, h6, h7, h8⟩ := id hP
    have el : xr.length = recs.length := by rw [h7.length, List.length_map, List.length_map]
    have hb : Rd H r (.tup xr) := .inr ⟨ow, h5⟩
    refine ⟨_, rfl, p, _, _, _, rfl, rfl, SqT.of h1, rfl, r, rfl, ⟨_, .inl hb⟩, fun D hD => ?_⟩
    have hDn : H D = none := hD
    refine lc_tup (xs := xr) (fun i H3 => Same H H3 ∧ ∃ ps : List Addr, H3 D = some (.lst (ps.map V.ref)) ∧ ps.length = i ∧ ∀ (j : Nat) (a : Addr) (rc : Rec), ps[j]? = some a → recs[j]? = some rc → H3 a = some (.tup [.str rc.1, .non])) ?_ ?_ ?_ ?_
    · exact ⟨Same.new hD, [], upd_same, rfl, fun j a rc e => by cases e⟩
    · rintro i H3 _ ⟨S3, _⟩
      exact .inl (Rd.same hb S3)
    · rintro i x H3 hx ⟨S3, ps, hp3, lp, all⟩
      obtain ⟨rc, t, u, hr', rfl, ht, tu⟩ := recs_at h7 hx
      have hi := (List.getElem?_eq_some_iff.mp hr').1
      refine ⟨t, _, rfl, SqT.of (S3 _ _ ht), rfl, _, _, rfl, _, _, rfl, rfl, rfl, yes (iteT ?_)⟩
      refine ⟨_, rfl, (by show 2 ≤ sizeLine; decide), fun tn htn => ?_⟩
      have nD : tn ≠ D := fun e => by rw [e, hp3] at htn; cases htn
      refine ⟨_, by rw [upd_ne (Ne.symm nD)]; exact hp3, ?_, Same.two S3 hD htn, ps ++ [tn], by rw [upd_same, List.map_append]; rfl, by rw [List.length_append, lp]; rfl, ?_⟩
      · rw [List.length_map, lp]
        exact Nat.lt_of_lt_of_le (show i < 100 by omega) (by decide)
      · intro j a rc2 ha hrc
        by_cases hj : j < ps.length
        · rw [List.getElem?_append_left hj] at ha
          have e3 := all j a rc2 ha hrc
          rw [upd_ne (fun z => by rw [z, hp3] at e3; cases e3), upd_ne (ne_of_none e3 htn)]
          exact e3
        · have ej : j = ps.length := by
            have := (List.getElem?_eq_some_iff.mp ha).1
            rw [List.length_append] at this
            have : j < ps.length + 1 := this
            omega
          subst ej
          rw [List.getElem?_append_right (Nat.le_refl _), Nat.sub_self] at ha
          cases ha
          rw [lp, hr'] at hrc
          cases hrc
          rw [upd_ne nD, upd_same]
    · rintro H1 ⟨S1, ps, hp1, lp, all⟩
      rw [el] at lp
      have pr : Paired (fun p kv => SqT K H1 p [kV kv.1, kv.2]) ps (recs.map fun r => ((Sum.inr r.1, V.non) : Key × V)) := by
        clear q h7 el hP nd ok6 ok hp1
        induction recs generalizing ps with
        | nil =>
          cases ps with
          | nil => exact .nil
          | cons a r => cases lp
        | cons rc recs ih =>
          cases ps with
          | nil => cases lp
          | cons a r =>
            rw [List.map_cons]
            exact .cons (SqT.of (all 0 a rc rfl rfl)) (ih r (Nat.succ.inj lp) fun j a2 rc2 h1 h2 => all (j + 1) a2 rc2 h1 h2)
      refine ⟨D, ps, _, rfl, SqL.of hp1, pr, fun d hd => ?_⟩
      have ek : (recs.map fun r => ((Sum.inr r.1, V.non) : Key × V)).map Prod.fst = nmK recs := by
        unfold nmK
        rw [List.map_map]
        rfl
      have ndk : (nmK recs).Nodup := by
        have z : nmK recs = (recs.map (·.1)).map Sum.inr := by unfold nmK; rw [List.map_map]; rfl
        rw [z]
        exact List.Pairwise.map _ (fun a b hab e => hab (Sum.inr.inj e)) nd
      have em : mergeK [] (recs.map fun r => ((Sum.inr r.1, V.non) : Key × V)) = recs.map fun r => (Sum.inr r.1, V.non) := merge_nodup _ [] (by rw [List.nil_append, ek]; exact ndk)
      rw [em]
      have S0 : Same H (upd H1 d (.dK (recs.map fun r => (Sum.inr r.1, V.non)))) := fun b o e => Same.new hd b o (S1 b o e)
      have hdn : H d = none := Same.free S1 hd
      refine ⟨_, rfl, d, _, rfl, upd_same, ((recs.map fun r => ((Sum.inr r.1, V.non) : Key × V)).length : Int), rfl, by omega, by rw [List.length_map]; omega, ?_⟩
      rw [List.length_map]
      have a0 : AOf (recs.map fun r => ((Sum.inr r.1, V.non) : Key × V)) (turns cs (recs.map rD) recs 0) := aof_start
      generalize recs.map (fun r => ((Sum.inr r.1, V.non) : Key × V)) = kvs00 at *
      have hd2 : (upd H1 d (.dK kvs00)) d = some (.dK kvs00) := upd_same
      generalize upd H1 d (.dK kvs00) = H2 at *
      generalize hrs : recs.map rD = rs at *
      refine for_range (lo := 0) (n := recs.length) (fun t σ H3 => ∃ kvs, (∃ a1 a2 a4 a5 a6 a7, σ = [some (.ref p), a1, a2, some (.ref d), a4, a5, a6, a7]) ∧ Same H H3 ∧ H3 d = some (.dK kvs) ∧ kvs.map Prod.fst = nmK recs ∧ AOf kvs (turns cs rs recs t)) ?_ ?_ ?_
      · exact ⟨kvs00, ⟨_, _, _, _, _, _, rfl⟩, S0, hd2, ek, a0⟩
      · rintro t σ H3 ht ⟨kvs0, ⟨a1, a2, a4, a5, a6, a7, rfl⟩, S3, hd3, k3, D3⟩
        refine ⟨_, rfl, p, _, _, _, rfl, rfl, SqT.of (S3 _ _ h1), rfl, r, rfl, ⟨_, .inl (Rd.same hb S3)⟩, ?_⟩
        have N3 : NN (turns cs rs recs t) := turns_nn t
        have et : turns cs rs recs (t + 1) = turn cs rs recs (turns cs rs recs t) := rfl
        rw [et]
        generalize turns cs rs recs t = D0 at *
        refine for_tup (xs := xr) (fun i σ H4 => ∃ kvs, (∃ a1 a2 a5 a6 a7, σ = [some (.ref p), a1, a2, some (.ref d), some (.int (0 + (t : Int))), a5, a6, a7]) ∧ Same H H4 ∧ H4 d = some (.dK kvs) ∧ kvs.map Prod.fst = nmK recs ∧ AOf kvs (turn cs rs (recs.take i) D0)) ?_ ?_ ?_ ?_
        · exact ⟨kvs0, ⟨_, _, _, _, _, rfl⟩, S3, hd3, k3, D3⟩
        · rintro i σ H4 _ ⟨kvs, _, S4, _⟩
          exact .inl (Rd.same hb S4)
        · rintro i x σ H4 hx ⟨kvs, ⟨a1, a2, a5, a6, a7, rfl⟩, S4, hd4, k4, D4⟩
          obtain ⟨rc, tp, u, hr', rfl, htp, tu⟩ := recs_at (by rw [hrs]; exact h7) hx
          rw [turn_next hr']
          have N4 : NN (turn cs rs (recs.take i) D0) := turn_nn N3
          generalize turn cs rs (recs.take i) D0 = D1 at *
          have hi := (List.getElem?_eq_some_iff.mp hr').1
          have lf := ok.fl rc (List.mem_of_getElem? hr')
          refine ⟨tp, _, rfl, SqT.of (S4 _ _ htp), rfl, _, _, rfl, _, _, rfl, rfl, ?_⟩
          obtain ⟨cf, ys, rfl, hcf, tys⟩ := Tp.inv tu
          have ly : ys.length = rc.2.length := by rw [tys.length, List.length_map]
          refine ⟨Nat.zero_le _, fun L hL => ?_⟩
          refine ⟨_, rfl, cf, rfl, ⟨_, SqT.of (Same.new hL _ _ (S4 _ _ hcf))⟩, ?_⟩
          refine for_tup (xs := ys) (fun j σ H5 => (∃ a6 a7, σ = [some (.ref p), some (.str rc.1), some (.ref cf), some (.ref d), some (.int (0 + (t : Int))), some (.ref L), a6, a7]) ∧ Same H4 H5 ∧ H5 L = some (.lst (((mustKs (rc.2.take j)).map (kSz cs rs D1)).map optV))) ?_ ?_ ?_ ?_
          · exact ⟨⟨_, _, rfl⟩, Same.new hL, upd_same⟩
          · rintro j σ H5 _ ⟨_, S5, _⟩
            exact SqT.of (S5 _ _ (S4 _ _ hcf))
          · rintro j y σ H5 hy ⟨⟨a6, a7, rfl⟩, S5, h5L⟩
            obtain ⟨f2, t2, u2, hf2, rfl, ht2, tu2⟩ := flds_at (fs := rc.2) tys hy
            have S05 : Same H H5 := fun b o e => S5 b o (S4 b o e)
            have hj := (List.getElem?_eq_some_iff.mp hf2).1
            have en : mustKs (rc.2.take (j + 1)) = mustKs (rc.2.take j) ++ mustKs [f2] := by
              rw [List.take_add_one, hf2, mustKs_add]
              rfl
            have ht5 := S05 _ _ ht2
            refine ⟨_, rfl, t2, _, _, _, rfl, rfl, SqT.of ht5, rfl, rfl, _, rfl, ?_⟩
            rw [need_must]
            cases hmu : f2.must with
            | false =>
              refine iteF ⟨⟨_, _, rfl⟩, S5, ?_⟩
              have e0 : mustKs [f2] = [] := by unfold mustKs; rw [List.filter_cons, hmu]; rfl
              rw [en, e0, List.append_nil]
              exact h5L
            | true =>
              refine iteT ?_
              have e0 : mustKs [f2] = [f2.kd] := by unfold mustKs; rw [List.filter_cons, hmu]; rfl
              have tu5 := Tp.keep (Same.tk S05) _ _ tu2
              have hd5 := S5 _ _ hd4
              refine ⟨fun σ H' => Same H5 H' ∧ σ = [some (.ref p), some (.str rc.1), some (.ref cf), some (.ref d), some (.int (0 + (t : Int))), some (.ref L), some (.ref t2), some (rawV D1 f2.kd)], ?_, ?_⟩
              · intro p2 hp2
                have S6 : Same H5 (upd H5 p2 (.dK [])) := Same.new hp2
                have hd6 := S6 _ _ hd5
                have ht6 := S6 _ _ ht5
                have S7 : ∀ o, Same H5 (upd (upd H5 p2 (.dK [])) p2 o) := fun o => Same.wr S6 hp2
                refine ⟨_, rfl, .inr (.inr (.inl ⟨rfl, .inl ⟨_, hd6⟩⟩)), _, rfl, t2, _, _, _, rfl, rfl, SqT.of ht6, rfl, ?_⟩
                rcases kind_raw (K := K) (Tp.keep (Same.tk S6) _ _ tu5) hd6 D4 with ⟨z, c0, c1, rfl, hz, e0', e1', n1, n2, n3, er⟩ | ⟨a, w0, u, x, rfl, ha, hg, er⟩
                · refine .inl ⟨z, _, c1, rfl, rfl, hz, e1', ⟨d, _, rfl, rfl, .inl ⟨_, DGet.k (k := Sum.inr (one c1)) hd6, ?_⟩⟩⟩
                  refine ⟨upd_same, dispK ((valV kvs (.inr (one c1))).getD .non), rfl, (by show 3 ≤ 15; decide), ?_⟩
                  refine ⟨p2, rfl, .inl ⟨_, .inl upd_same⟩, _, rfl, t2, _, _, _, rfl, rfl, SqT.of (S7 _ _ _ ht5), rfl, .inl ⟨z, _, c0, rfl, rfl, hz, e0', ?_⟩⟩
                  refine ⟨_, DGet.k (k := Sum.inr (one c0)) upd_same, S7 _, ?_⟩
                  rw [disp_other _ n1 n2 n3, er]
                  rfl
                · refine .inr ⟨a, _, _, u, rfl, rfl, SqT.of ha, rfl, ?_⟩
                  have ha5 : H5 a = some (.tup [.str w0, u]) := by
                    have nap : a ≠ p2 := fun z => by rw [z, upd_same] at ha; cases ha
                    rw [upd_ne nap] at ha
                    exact ha
                  obtain ⟨a', y', e1, e2, hg⟩ := hg
                  cases e1
                  cases e2
                  rcases hg with ⟨o, g, rfl, _⟩ | ⟨b2, k2, kvs2, e9, g1, g2, rfl, _⟩
                  · refine ⟨d, _, rfl, rfl, .inl ⟨o, g, ?_⟩⟩
                    refine ⟨upd_same, dispK (o.getD .non), rfl, (by show 3 ≤ 15; decide), ?_⟩
                    refine ⟨p2, rfl, .inl ⟨_, .inl upd_same⟩, _, rfl, t2, _, _, _, rfl, rfl, SqT.of (S7 _ _ _ ht5), rfl, .inr ⟨a, _, _, _, rfl, rfl, SqT.of (S7 _ _ _ ha5), rfl, ?_⟩⟩
                    refine ⟨_, DGet.k (k := Sum.inr w0) upd_same, S7 _, ?_⟩
                    first
                    | rw [er]; rfl
                    | rw [← er]; rfl
                  · refine ⟨d, _, rfl, rfl, .inr ⟨b2, k2, kvs2, e9, g1, g2, ?_⟩⟩
                    refine ⟨upd_same, dispK _, rfl, (by show 3 ≤ 15; decide), ?_⟩
                    refine ⟨p2, rfl, .inl ⟨_, .inl upd_same⟩, _, rfl, t2, _, _, _, rfl, rfl, SqT.of (S7 _ _ _ ht5), rfl, .inr ⟨a, _, _, _, rfl, rfl, SqT.of (S7 _ _ _ ha5), rfl, ?_⟩⟩
                    refine ⟨_, DGet.k (k := Sum.inr w0) upd_same, S7 _, ?_⟩
                    first
                    | rw [er]; rfl
                    | rw [← er]; rfl
              · rintro σ H6 ⟨S6, rfl⟩
                have S06 : Same H H6 := fun b o e => S6 b o (S05 b o e)
                have hL6 := S6 _ _ h5L
                refine ⟨_, rfl, .inl ⟨rfl, _, SqL.of hL6⟩, ?_⟩
                refine ⟨_, rfl, _, rfl, t2, _, _, _, rfl, rfl, SqT.of (S06 _ _ ht2), rfl, p, u2, f2.kd, cs, rs, rfl, hP.same S06, Tp.keep (Same.tk S06) _ _ tu2, lc, by rw [← hrs, List.length_map]; omega, fun x H7 S7 hx1 hx2 => ?_⟩
                have S57 : Same H4 H7 := fun b o e => S7 b o (S6 b o (S5 b o e))
                have hL7 := S7 _ _ hL6
                have fin : ∀ v, v = optV (kSz cs rs D1 f2.kd) → (∃ a6 a7, [some (V.ref p), some (V.str rc.1), some (V.ref cf), some (V.ref d), some (V.int (0 + (t : Int))), some (V.ref L), some (V.ref t2), some (rawV D1 f2.kd)] = [some (V.ref p), some (V.str rc.1), some (V.ref cf), some (V.ref d), some (V.int (0 + (t : Int))), some (V.ref L), a6, a7]) ∧
                    Same H4 (upd H7 L (.lst (((mustKs (rc.2.take j)).map (kSz cs rs D1)).map optV ++ [v]))) ∧ (upd H7 L (.lst (((mustKs (rc.2.take j)).map (kSz cs rs D1)).map optV ++ [v]))) L = some (.lst (((mustKs (rc.2.take (j + 1))).map (kSz cs rs D1)).map optV)) := fun v ev => by
                  refine ⟨⟨_, _, rfl⟩, Same.wr S57 hL, ?_⟩
                  rw [upd_same, en, e0, List.map_append, List.map_append, ev]
                  rfl
                have lsz : (((mustKs (rc.2.take j)).map (kSz cs rs D1)).map optV).length < sizeLine := by
                  rw [List.length_map, List.length_map]
                  have l1 := mustKs_len (rc.2.take j)
                  rw [List.length_take] at l1
                  exact Nat.lt_of_le_of_lt (Nat.le_trans l1 (Nat.min_le_left _ _)) (Nat.lt_of_lt_of_le (show j < 5 by omega) (by decide))
                refine ⟨rfl, _, rfl, ?_⟩
                cases hnk : nobK cs rs f2.kd with
                | true =>
                  obtain ⟨z, rfl⟩ := hx1 hnk
                  refine ite2 (fun _ => ?_) (fun h => absurd (by rfl) h)
                  exact ⟨L, _, _, rfl, rfl, hL7, lsz, fin _ (by rw [nob_kSz hnk]; rfl)⟩
                | false =>
                  cases hx2 hnk
                  refine ite2 (fun h => absurd h (by decide)) (fun _ => ?_)
                  exact ⟨_, rfl, L, _, _, rfl, rfl, hL7, lsz, fin _ (raw_kSz hnk).symm⟩
          · rintro σ H5 ⟨⟨a6, a7, rfl⟩, S5, h5L⟩
            rw [ly, List.take_length] at h5L
            have S45 : Same H H5 := fun b o e => S5 b o (S4 b o e)
            have es : step cs rs D1 rc = putS D1 rc.1 (total ((mustKs rc.2).map (kSz cs rs D1))) := rfl
            rw [es]
            have lp : ((mustKs rc.2).map (kSz cs rs D1)).length ≤ 5 := by rw [List.length_map]; exact Nat.le_trans (mustKs_len _) lf
            have inK : (Sum.inr rc.1 : Key) ∈ kvs.map Prod.fst := by
              rw [k4]
              exact List.mem_map.mpr ⟨rc, List.mem_of_getElem? hr', rfl⟩
            generalize (mustKs rc.2).map (kSz cs rs D1) = ps at *
            refine ⟨_, rfl, L, _, rfl, .inl (SqL.of h5L), rfl, flat_opts ps, _, rfl, ?_⟩
            show if (!inV V.non (ps.map optV)) = true then _ else _
            rw [non_in]
            by_cases hno : none ∈ ps
            · rw [decide_eq_true hno]
              have e1 : total ps = none := if_pos hno
              rw [e1]
              exact iteF ⟨kvs, ⟨_, _, _, _, _, rfl⟩, S45, S5 _ _ hd4, k4, D4⟩
            · rw [decide_eq_false hno]
              refine iteT ?_
              have e1 : total ps = some ((ps.map fun o => fsz (o.getD 0)).sum) := if_neg hno
              rw [e1]
              obtain ⟨ms, rfl⟩ := all_some hno
              have e2 : (ms.map some).map optV = ms.map V.int := by rw [List.map_map]; rfl
              have e3 : (ms.map some).map (fun o => fsz (o.getD 0)) = ms.map fsz := by rw [List.map_map]; rfl
              rw [e3]
              rw [e2] at h5L
              rw [List.length_map] at lp
              refine ⟨_, rfl, L, rfl, ⟨_, SqL.of h5L⟩, fun D2 hD2 => ?_⟩
              refine lc_list (xs := ms.map V.int) (fun j H6 => Same H5 H6 ∧ H6 D2 = some (.lst (((ms.take j).map fsz).map V.int))) ?_ ?_ ?_ ?_
              · exact ⟨Same.new hD2, upd_same⟩
              · rintro j H6 _ ⟨S6, _⟩
                exact SqL.of (S6 _ _ h5L)
              · rintro j y H6 hy ⟨S6, h6⟩
                rw [List.getElem?_map] at hy
                cases hmj : ms[j]? with
                | none => rw [hmj] at hy; cases hy
                | some mj =>
                  rw [hmj] at hy
                  cases hy
                  have hjl := (List.getElem?_eq_some_iff.mp hmj).1
                  refine ⟨rfl, yes (iteT ?_)⟩
                  refine ⟨_, rfl, _, _, rfl, rfl, _, rfl, _, _, rfl, rfl, .inr ⟨_, rfl, _, _, rfl, rfl, ?_⟩⟩
                  refine ⟨_, h6, ?_, Same.wr S6 hD2, ?_⟩
                  · rw [List.length_map, List.length_map, List.length_take]
                    exact Nat.lt_of_le_of_lt (Nat.min_le_left _ _) (Nat.lt_of_lt_of_le (show j < 5 by omega) (by decide))
                  · rw [upd_same, List.take_add_one, hmj, List.map_append, List.map_append]
                    have ef : (fun i j => V.int (i + j)) (mj + 3) (if decide (200 ≤ mj) = true then 1 else 0) = V.int (fsz mj) := congrArg V.int (fsz_eq mj)
                    rw [ef]
                    rfl
              · rintro H6 ⟨S6, h6⟩
                rw [List.length_map, List.take_length] at h6
                have S46 : Same H H6 := fun b o e => S6 b o (S45 b o e)
                have hd6 : H6 d = some (.dK kvs) := S6 _ _ (S5 _ _ hd4)
                have lk : kvs.length < sizeLine := by
                  have z := congrArg List.length k4
                  unfold nmK at z
                  rw [List.length_map, List.length_map] at z
                  rw [z]
                  exact Nat.lt_of_le_of_lt ok6 (by decide)
                refine ⟨D2, ms.map fsz, rfl, SqL.of h6, _, rfl, _, rfl, d, _, rfl, DPut.k (k := Sum.inr rc.1) hd6 lk, ?_⟩
                exact ⟨_, ⟨_, _, _, _, _, rfl⟩, Same.wr S46 hdn, upd_same, (putK_keys inK).trans k4, aof_put D4 rc.1 _⟩
        · rintro σ H4 ⟨kvs, ⟨a1, a2, a5, a6, a7, rfl⟩, S4, hd4, k4, D4⟩
          rw [el, List.take_length] at D4
          exact ⟨kvs, ⟨_, _, _, _, _, _, rfl⟩, S4, hd4, k4, D4⟩
      · rintro σ H3 ⟨kvs, ⟨a1, a2, a4, a5, a6, a7, rfl⟩, S3, hd3, k3, D3⟩
        exact ⟨_, rfl, q d kvs H3 S3 hdn hd3 k3 D3⟩
end
end Fh

set_option Elab.async false
set_option linter.all false
set_option maxRecDepth 100000
set_option maxHeartbeats 4000000
namespace Fh
open PySem L2 PyProof.Rows
/-! ### faces as data, values, and the numbers that tell them -/
structure Fc where
  cs : List (Str × List (Int × Str))
  rs : List Rec
def Fc.c (F : Fc) : List (Str × PyData) := F.cs.map fun c => (c.1, optsD c.2)
def Fc.r (F : Fc) : List (Str × PyData) := F.rs.map rD
def flds (F : Fc) (z : Str) : List Fl := (F.rs.lookup z).getD []
def opts (F : Fc) (z : Str) : List (Int × Str) := (F.cs.lookup z).getD []
inductive Vl where
  | num (i : Int)
  | tru (b : Bool)
  | txt (z : Str)
  | lst (xs : List Vl)
  | rcd (fs : List (Str × Vl))
mutual
inductive VD (H : Hp) : V → Vl → Prop
  | num (i : Int) : VD H (.int i) (.num i)
  | tru (b : Bool) : VD H (.bl b) (.tru b)
  | txt (z : Str) : VD H (.str z) (.txt z)
  | lst {a : Addr} {xs : List V} {vs : List Vl} : H a = some (.tup xs) → VDs H xs vs → VD H (.ref a) (.lst vs)
  | rcd {a : Addr} {kvs : List (Key × V)} {fs : List (Str × Vl)} : H a = some (.dK kvs) → kvs.map Prod.fst = fs.map (fun f => Sum.inr f.1) → VDs H (kvs.map Prod.snd) (fs.map Prod.snd) → VD H (.ref a) (.rcd fs)
inductive VDs (H : Hp) : List V → List Vl → Prop
  | nil : VDs H [] []
  | cons {x : V} {v : Vl} {xs : List V} {vs : List Vl} : VD H x v → VDs H xs vs → VDs H (x :: xs) (v :: vs)
end
mutual
theorem VD.same {H H' : Hp} (s : Same H H') {x : V} {v : Vl} : VD H x v → VD H' x v
  | .num i => .num i
  | .tru b => .tru b
  | .txt z => .txt z
  | .lst h q => .lst (s _ _ h) (VDs.same s q)
  | .rcd h e q => .rcd (s _ _ h) e (VDs.same s q)
theorem VDs.same {H H' : Hp} (s : Same H H') {xs : List V} {vs : List Vl} : VDs H xs vs → VDs H' xs vs
  | .nil => .nil
  | .cons h q => .cons (VD.same s h) (VDs.same s q)
end
theorem VDs.length {H : Hp} : ∀ {xs : List V} {vs : List Vl}, VDs H xs vs → xs.length = vs.length
  | _, _, .nil => rfl
  | _, _, .cons _ q => by simp [VDs.length q]
theorem VDs.get {H : Hp} : ∀ {xs : List V} {vs : List Vl} {i : Nat} {x : V}, VDs H xs vs → xs[i]? = some x → ∃ v, vs[i]? = some v ∧ VD H x v
  | _, _, _, _, .nil, e => by simp at e
  | _, _, 0, _, .cons h _, e => by simp at e; subst e; exact ⟨_, rfl, h⟩
  | _, _, i + 1, x, .cons _ q, e => by
    obtain ⟨v, h1, h2⟩ := VDs.get (i := i) (x := x) q (by simpa using e)
    exact ⟨v, by simpa using h1, h2⟩
theorem VDs.app {H : Hp} : ∀ {xs ys : List V} {vs ws : List Vl}, VDs H xs vs → VDs H ys ws → VDs H (xs ++ ys) (vs ++ ws)
  | _, _, _, _, .nil, s => s
  | _, _, _, _, .cons h q, s => .cons h (VDs.app q s)
/-- what a record's dict has at a name -/
theorem vd_at {H : Hp} : ∀ {kvs : List (Key × V)} {fs : List (Str × Vl)}, kvs.map Prod.fst = fs.map (fun f => Sum.inr f.1) → VDs H (kvs.map Prod.snd) (fs.map Prod.snd) → ∀ z : Str, (fs.lookup z = none → valV kvs (Sum.inr z) = none) ∧ (∀ v, fs.lookup z = some v → ∃ x, valV kvs (Sum.inr z) = some x ∧ VD H x v)
  | [], [], _, _, z => ⟨fun _ => rfl, fun v h => by cases h⟩
  | [], _ :: _, e, _, _ => by cases e
  | _ :: _, [], e, _, _ => by cases e
  | (k, x) :: kvs, (n, v) :: fs, e, q, z => by
    rw [List.map_cons, List.map_cons] at e
    injection e with e1 e2
    have e1' : k = Sum.inr n := e1
    subst e1'
    cases q with
    | cons h q =>
      have ih := vd_at e2 q z
      by_cases c : z = n
      · subst c
        have l : ((z, v) :: fs).lookup z = some v := by rw [List.lookup_cons, beq_self_eq_true]
        have w : valV ((Sum.inr z, x) :: kvs) (Sum.inr z : Key) = some x := by
          unfold valV
          rw [List.find?_cons, decide_eq_true rfl]
          rfl
        exact ⟨(fun h => by rw [l] at h; cases h), (fun u hu => ⟨x, w, by rw [l] at hu; cases hu; exact h⟩)⟩
      · have b : (z == n) = false := by rw [beq_eq_false_iff_ne]; exact c
        have l : ((n, v) :: fs).lookup z = fs.lookup z := by rw [List.lookup_cons, b]
        have w : valV ((Sum.inr n, x) :: kvs) (Sum.inr z : Key) = valV kvs (Sum.inr z) := by
          unfold valV
          rw [List.find?_cons, decide_eq_false (fun e => c (Sum.inr.inj e).symm)]
        rw [l, w]
        exact ih
/-! ### which values are of a kind -/
def sgn (c : Nat) : Prop := 32 ≤ c ∧ c ≤ 126 ∧ c ≠ 37
def OkS (F : Fc) (R : Kn → Vl → Prop) (v : Vl) : Kn → Prop
  | .one .whole => ∃ i, v = .num i ∧ 0 ≤ i ∧ i ≤ 1000000000
  | .one .truth => ∃ b, v = .tru b
  | .one .text => ∃ z, v = .txt z ∧ z.length ≤ 20 ∧ ∀ c ∈ z.cps.toList, sgn c
  | .one (.ch c) => ∃ u os n, v = .txt u ∧ F.cs.lookup c = some os ∧ (n, u) ∈ os
  | .one (.rc z) => ∃ fl fs, v = .rcd fs ∧ F.rs.lookup z = some fl ∧ (fs.map Prod.fst).Nodup ∧ (∀ f ∈ fs, ∃ g ∈ fl, g.nam = f.1) ∧ (∀ g ∈ fl, ∀ w, fs.lookup g.nam = some w → R g.kd w) ∧ ∀ g ∈ fl, g.must = true → ∃ w, fs.lookup g.nam = some w
  | .lst b => ∃ xs, v = .lst xs ∧ nobB F.c F.r b = false ∧ xs.length ≤ 6 ∧ ∀ x ∈ xs, R (.one b) x
def Ok (F : Fc) : Nat → Kn → Vl → Prop
  | 0 => fun _ _ => False
  | n + 1 => fun k v => OkS F (Ok F n) v k
/-! ### numbers -/
def told (n : Nat) : List Int := if n < 200 then [(n : Int)] else [200 + (n : Int) / 256, (n : Int) % 256]
def dg : Nat → Nat → List Int
  | 0, _ => []
  | f + 1, n => if n = 0 then [] else dg f (n / 256) ++ [((n % 256 : Nat) : Int)]
def digs (n : Nat) : List Int := dg 6 n
def piece (c : List Int) : List Int := told c.length ++ c
def optN (F : Fc) (c u : Str) : Nat := (((opts F c).find? fun o => decide (o.2 = u)).map fun o => o.1.toNat).getD 0
def fpiece (E : Kn → Vl → List Int) (fs : List (Str × Vl)) (g : Fl) : List Int := match fs.lookup g.nam with
  | some v => g.num :: g.kd.mark :: piece (E g.kd v)
  | none => []
def encS (F : Fc) (E : Kn → Vl → List Int) (v : Vl) : Kn → List Int
  | .one .whole => match v with | .num i => digs i.toNat | _ => []
  | .one .truth => match v with | .tru b => if b = true then [1] else [] | _ => []
  | .one .text => match v with | .txt z => z.cps.toList.map (fun c : Nat => (c : Int)) | _ => []
  | .one (.ch c) => match v with | .txt u => digs (optN F c u) | _ => []
  | .one (.rc z) => match v with | .rcd fs => ((flds F z).map (fpiece E fs)).flatten | _ => []
  | .lst b => match v with | .lst xs => b.mark :: (xs.map fun x => piece (E (.one b) x)).flatten | _ => []
def enc (F : Fc) : Nat → Kn → Vl → List Int
  | 0 => fun _ _ => []
  | n + 1 => fun k v => encS F (enc F n) v k
def nrmS (F : Fc) (N : Kn → Vl → Vl) (v : Vl) : Kn → Vl
  | .one (.rc z) => match v with | .rcd fs => .rcd ((flds F z).filterMap fun g => (fs.lookup g.nam).map fun w => (g.nam, N g.kd w)) | w => w
  | .lst b => match v with | .lst xs => .lst (xs.map (N (.one b))) | w => w
  | _ => v
def nrm (F : Fc) : Nat → Kn → Vl → Vl
  | 0 => fun _ v => v
  | n + 1 => fun k v => nrmS F (nrm F n) v k
structure FcOk (F : Fc) : Prop where
  lc : F.cs.length ≤ 100
  lr : F.rs.length ≤ 100
  lf : ∀ r ∈ F.rs, r.2.length ≤ 10
  nf : ∀ r ∈ F.rs, (r.2.map (·.nam)).Nodup
  rise : ∀ r ∈ F.rs, r.2.Pairwise fun f g => f.num < g.num
  nums : ∀ r ∈ F.rs, ∀ f ∈ r.2, 1 ≤ f.num ∧ f.num ≤ 30
  ops : ∀ c ∈ F.cs, OptsOk c.2
  on : ∀ c ∈ F.cs, (c.2.map Prod.fst).Nodup
  nmc : ∀ c ∈ F.cs, Sh 0 (.str c.1)
def FaceF (C : Addr) (H : Hp) (a : Addr) (F : Fc) : Prop := FaceR C H a F.c F.r ∧ FcOk F
theorem FaceF.same {C : Addr} {H H' : Hp} {a : Addr} {F : Fc} (h : FaceF C H a F) (s : Same H H') : FaceF C H' a F := ⟨h.1.same s, h.2⟩
theorem look_map {α β : Type} (f : α → β) : ∀ (l : List (Str × α)) (z : Str), (l.map fun c => (c.1, f c.2)).lookup z = (l.lookup z).map f
  | [], _ => rfl
  | (n, v) :: l, z => by
    rw [List.map_cons, List.lookup_cons, List.lookup_cons]
    cases (z == n) with
    | true => rfl
    | false => exact look_map f l z
theorem look_c (F : Fc) (z : Str) : F.c.lookup z = (F.cs.lookup z).map optsD := look_map optsD F.cs z
theorem look_r (F : Fc) (z : Str) : F.r.lookup z = (F.rs.lookup z).map fieldsD := look_map fieldsD F.rs z
theorem look_mem {α : Type} : ∀ {l : List (Str × α)} {z : Str} {v : α}, l.lookup z = some v → (z, v) ∈ l
  | [], _, _, h => by cases h
  | (n, w) :: l, z, v, h => by
    rw [List.lookup_cons] at h
    cases e : (z == n) with
    | true =>
      rw [e] at h
      cases h
      rw [eq_of_beq e]
      exact List.mem_cons_self
    | false =>
      rw [e] at h
      exact List.mem_cons_of_mem _ (look_mem h)
theorem mem_look {α : Type} : ∀ {l : List (Str × α)} {z : Str}, z ∈ l.map Prod.fst → ∃ v, l.lookup z = some v
  | [], _, h => by cases h
  | (n, w) :: l, z, h => by
    rw [List.lookup_cons]
    cases e : (z == n) with
    | true => exact ⟨w, rfl⟩
    | false =>
      rcases List.mem_cons.mp h with h | h
      · rw [h] at e
        simp at e
      · exact mem_look h
theorem nameIn_look {α : Type} {f : α → PyData} {l : List (Str × α)} {z : Str} {v : α} (h : l.lookup z = some v) : nameIn z (l.map fun c => (c.1, f c.2)) = true := by
  refine decide_eq_true ?_
  rw [List.map_map]
  exact List.mem_map.mpr ⟨(z, v), look_mem h, rfl⟩
theorem ok_nobF {F : Fc} {n : Nat} {k : Kn} {v : Vl} (h : Ok F n k v) : nobK F.c F.r k = false := by
  cases n with
  | zero => exact h.elim
  | succ n =>
    cases k with
    | lst b =>
      obtain ⟨xs, _, e, _⟩ := h
      exact e
    | one b =>
      cases b with
      | whole => rfl
      | truth => rfl
      | text => rfl
      | rc z =>
        obtain ⟨fl, fs, _, e, _⟩ := h
        show (!nameIn z F.r) = false
        have z1 : nameIn z F.r = true := nameIn_look (f := fieldsD) e
        rw [z1]
        rfl
      | ch c =>
        obtain ⟨u, os, m, _, e, _⟩ := h
        show (!nameIn c F.c) = false
        have z1 : nameIn c F.c = true := nameIn_look (f := optsD) e
        rw [z1]
        rfl
theorem optN_of {F : Fc} {c u : Str} {os : List (Int × Str)} {n : Int} (hl : F.cs.lookup c = some os) (ok : OptsOk os) (hm : (n, u) ∈ os) : ((optN F c u : Nat) : Int) = n := by
  have r := ok.rg _ hm
  have e : os.find? (fun o => decide (o.2 = u)) = some (n, u) := by
    have f := opts_one ok.nd hm
    have z : (os.filter fun o => decide (o.2 = u)).head? = os.find? fun o => decide (o.2 = u) := List.head?_filter
    rw [f] at z
    exact z.symm
  unfold optN opts
  rw [hl]
  show (((os.find? fun o => decide (o.2 = u)).map fun o => o.1.toNat).getD 0 : Nat) = n
  rw [e]
  show ((n.toNat : Nat) : Int) = n
  have r1 : 1 ≤ n := r.1
  omega
end Fh

set_option Elab.async false
set_option linter.all false
set_option maxRecDepth 100000
set_option maxHeartbeats 4000000
namespace Fh
open PySem L2 PyProof.Rows
abbrev sMark : Stmt := top 5
abbrev sFields : Stmt := inClass (top 56) 3
def spDigE : Sp := fun vs H Q _ => ∃ (n : Nat), vs = [.int n] ∧ n < 256 ^ 6 ∧ ∀ (p : Addr) (H' : Hp), Same H H' → H p = none → H' p = some (.lst ((digs n).map V.int)) → Q (.ref p) H'
def spToldE : Sp := fun vs H Q _ => ∃ (n : Nat), vs = [.int n] ∧ ∀ (p : Addr) (H' : Hp), Same H H' → H p = none → H' p = some (.lst ((told n).map V.int)) → Q (.ref p) H'
def spMark : Sp := fun vs H Q _ => ∃ (v : V) (k : Kn), vs = [v] ∧ Tp H v k.d ∧ Q (.int k.mark) H
def spFields (C : Addr) : Sp := fun vs H Q _ => ∃ (a : Addr) (z : Str) (cs rs : List (Str × PyData)) (d : PyData), vs = [.ref a, .str z] ∧ FaceR C H a cs rs ∧ rs.lookup z = some d ∧ ∀ v, Tp H v d → Q v H
/-- the table of marks -/
structure Marks (K : PySem.W.Frag) (w : World) (mg : Str → Option Value) : Prop where
  ex : ∃ M : Addr, mg "MARKS" = some (.ref M) ∧ KDct K w M "whole" (.int 1) ∧ KDct K w M "truth" (.int 1) ∧ KDct K w M "choice" (.int 1) ∧ KDct K w M "text" (.int 2) ∧ KDct K w M "list" (.int 3) ∧ KDct K w M "record" (.int 4)
theorem dg_pos {f n : Nat} (h : 0 < n) : dg (f + 1) n = dg f (n / 256) ++ [((n % 256 : Nat) : Int)] := by
  show (if n = 0 then [] else _) = _
  rw [if_neg (by omega)]
theorem dg_zero : ∀ f, dg f 0 = []
  | 0 => rfl
  | f + 1 => if_pos rfl
section
variable {P : Program} {w : World} {K : PySem.W.Frag} {mg : Str → Option Value} {base : Heap}
theorem ok_digE {f : Addr} {fd : FuncData} (F : Fun K "digits_of" "digits_of" sDigits f fd) (G : Glb mg) (N : Nums mg) : FnOk P w K mg base CX0 1 f fd ["number"] spDigE := by
  obtain ⟨tB, hB⟩ := N.base
  refine F.ok scDigits (fun vs H Q E h => ?_) (fun cdv A outer s H vs Q E hr h => ?_)
  · obtain ⟨n, rfl, _⟩ := h
    rfl
  · obtain ⟨n, rfl, hn, k⟩ := h
    refine ⟨_, pss_cons (ps_set (i := 1) scDigits.nd rfl (Or.inl rfl) (pe_lst pa_nil))
      (pss_cons (ps_while PassesOwn.never (pt_cmpR op_gt (pv 0) pe_int (nomark _))
        (pss_cons (ps_asg (pe_callB call_divmod (by rfl) G.divmod (by decide +kernel) (pa_cons (pv 0) (pa_cons (pe_glob (v := .int 256) rfl hB ⟨_, rfl⟩) pa_nil))) (pg_tup rfl (pgs_cons (pg_name (i := 0) scDigits.nd rfl (.inl rfl)) (pgs_cons (pg_name (i := 2) scDigits.nd rfl (.inl rfl)) pgs_nil))))
        (pss_one (ps_expr (pe_bm PySem.F.plainAttrs_list PySem.F.slot_list_append PySem.F.type_list_append mt_append (pv 1) (pa_cons (pv 2) pa_nil))))))
      (pss_one (ps_ret (pe_revL (pv 1))))), ?_⟩
    refine ⟨Nat.zero_le _, fun p hp => ?_⟩
    refine while_by (fun σ H3 => ∃ (m : Nat) (ds : List Int) (f : Nat) (a2 : Option V), σ = [some (.int m), some (.ref p), a2] ∧ Same H H3 ∧ H3 p = some (.lst (ds.map V.int)) ∧ m < 256 ^ f ∧ f + ds.length = 6 ∧ digs n = dg f m ++ ds.reverse) (fun σ _ => match σ with | some (.int m) :: _ => m.toNat | _ => 0) ?_ ?_ ?_
    · exact ⟨n, [], 6, none, rfl, Same.new hp, upd_same, hn, rfl, (List.append_nil _).symm⟩
    · rintro σ H3 ⟨m, ds, f, a2, rfl, S3, hp3, hm, hl, he⟩
      refine ⟨_, rfl, _, _, rfl, rfl, _, rfl, ?_⟩
      refine ite2 (fun h => ?_) (fun h => ?_)
      · have hm0 : (m : Int) > 0 := of_decide_eq_true h
        have hm1 : 0 < m := by omega
        cases f with
        | zero =>
          rw [Nat.pow_zero] at hm
          omega
        | succ f =>
          refine ⟨_, rfl, m, 256, rfl, ⟨by decide, by decide⟩, fun t ht => ?_⟩
          refine ⟨t, _, rfl, SqT.of upd_same, rfl, _, _, rfl, _, _, rfl, rfl, ?_⟩
          have S4 : Same H (upd H3 t (.tup [.int ((m : Int) / 256), .int ((m : Int) % 256)])) := fun a o e => Same.new ht a o (S3 a o e)
          have hp4 : (upd H3 t (.tup [.int ((m : Int) / 256), .int ((m : Int) % 256)])) p = some (.lst (ds.map V.int)) := Same.new ht p _ hp3
          refine ⟨_, rfl, .inl ⟨rfl, _, SqL.of hp4⟩, _, rfl, p, _, _, rfl, rfl, hp4, ?_, ?_⟩
          · rw [List.length_map]
            exact Nat.lt_of_le_of_lt (show ds.length ≤ 6 by omega) (by decide)
          have e1 : ((m : Int) / 256) = ((m / 256 : Nat) : Int) := by omega
          have e2 : ((m : Int) % 256) = ((m % 256 : Nat) : Int) := by omega
          refine ⟨⟨m / 256, ds ++ [((m % 256 : Nat) : Int)], f, _, by rw [e1]; rfl, Same.wr S4 hp, ?_, ?_, ?_, ?_⟩, ?_⟩
          · rw [upd_same, List.map_append, e2]
            rfl
          · rw [Nat.pow_succ] at hm
            exact Nat.div_lt_of_lt_mul (by rw [Nat.mul_comm]; exact hm)
          · rw [List.length_append, List.length_singleton]
            omega
          · rw [he, dg_pos hm1, List.reverse_append, List.append_assoc]
            rfl
          · show ((m : Int) / 256).toNat < (m : Int).toNat
            omega
      · have hm1 : ¬ (m : Int) > 0 := fun z => h (decide_eq_true z)
        have e0 : m = 0 := by omega
        subst e0
        rw [dg_zero, List.nil_append] at he
        refine ⟨_, rfl, p, _, rfl, SqL.of hp3, fun r hr' => k r _ (fun a o e => Same.new hr' a o (S3 a o e)) (Same.free S3 hr') ?_⟩
        rw [upd_same, he, List.map_reverse]
    · rintro σ H Q Q' m ⟨v, e1, i, j, ea, eb, c, ec, q⟩
      exact ⟨v, e1, i, j, ea, eb, c, ec, m _ _ q⟩
theorem ok_toldE {f : Addr} {fd : FuncData} (F : Fun K "told_size" "told_size" sTold f fd) (N : Nums mg) : FnOk P w K mg base CX0 1 f fd ["size"] spToldE := by
  obtain ⟨tB, hB⟩ := N.base
  obtain ⟨tL, hL⟩ := N.long
  refine F.ok scTold (fun vs H Q E h => ?_) (fun cdv A outer s H vs Q E hr h => ?_)
  · obtain ⟨n, rfl, _⟩ := h
    rfl
  · obtain ⟨n, rfl, k⟩ := h
    refine ⟨_, pss_cons (ps_if (pt_cmpR op_lt (pv 0) (pe_glob (v := .int 200) rfl hL ⟨_, rfl⟩) (nomark _)) (pss_one (ps_ret (pe_lst (pa_cons (pv 0) pa_nil)))) pss_nil)
      (pss_one (ps_ret (pe_lst (pa_cons (pe_op op_add (pe_glob (v := .int 200) rfl hL ⟨_, rfl⟩) (pe_op op_fdiv (pv 0) (pe_glob (v := .int 256) rfl hB ⟨_, rfl⟩))) (pa_cons (pe_op op_mod (pv 0) (pe_glob (v := .int 256) rfl hB ⟨_, rfl⟩)) pa_nil))))), ?_⟩
    refine ⟨_, rfl, _, _, rfl, rfl, _, rfl, ?_⟩
    refine ite2 (fun hlt => ?_) (fun hlt => ?_)
    · have h1 : (n : Int) < 200 := of_decide_eq_true hlt
      refine ⟨_, rfl, (by show 1 ≤ sizeLine; decide), fun p hp => k p _ (Same.new hp) hp ?_⟩
      rw [upd_same]
      unfold told
      rw [if_pos (by omega)]
      rfl
    · have h1 : ¬ (n : Int) < 200 := fun z => hlt (decide_eq_true z)
      refine ⟨_, rfl, _, _, rfl, rfl, ⟨by decide, by decide⟩, _, _, rfl, rfl, _, rfl, _, _, rfl, rfl, (by show (0 : Int) < 256; decide), (by show 2 ≤ sizeLine; decide), fun p hp => k p _ (Same.new hp) hp ?_⟩
      rw [upd_same]
      unfold told
      rw [if_neg (by omega)]
      rfl
theorem scMark : FnScope ["kind"] ["kind"] (defScope sMark) := ⟨rfl, rfl, rfl, by decide +kernel, rfl, by decide +kernel, by decide +kernel⟩
theorem ok_mark {f : Addr} {fd : FuncData} (F : Fun K "mark_of" "mark_of" sMark f fd) (M : Marks K w mg) (DW : Has P w K mg base "word_of" 1 ["kind"] spWord) : FnOk P w K mg base CX0 2 f fd ["kind"] spMark := by
  obtain ⟨MA, mM, m1, m2, m3, m4, m5, m6⟩ := M.ex
  refine F.ok scMark (fun vs H Q E h => ?_) (fun cdv A outer s H vs Q E hr h => ?_)
  · obtain ⟨v, k, rfl, _⟩ := h
    rfl
  · obtain ⟨v, k, rfl, t, q⟩ := h
    refine ⟨_, pss_one (ps_ret (pe_ix ix_kdict (pe_glob (v := .ref MA) rfl mM rfl) (pe_has DW hr rfl (pa_cons (pv 0) pa_nil)) (fun _ _ => rfl))), ?_⟩
    refine ⟨_, rfl, v, k, rfl, t, MA, _, _, rfl, rfl, ?_, q⟩
    cases k with
    | lst b => exact m5
    | one b => cases b with
      | whole => exact m1
      | truth => exact m2
      | text => exact m4
      | rc z => exact m6
      | ch z => exact m3
abbrev nFields : List Str := ["self", "record", "name", "fields"]
theorem scFields : FnScope nFields ["self", "record"] (defScope sFields) := ⟨rfl, rfl, rfl, by decide +kernel, rfl, by decide +kernel, by decide +kernel⟩
theorem ok_fields {C f : Addr} {fd : FuncData} (F : Fun K "fields_of" "Face.fields_of" sFields f fd) (cl : Cls K C) (n4 : NoAttr K C "records") : FnOk P w K mg base CX0 1 f fd ["self", "record"] (spFields C) := by
  refine F.ok scFields (fun vs H Q E h => ?_) (fun cdv A outer s H vs Q E hr h => ?_)
  · obtain ⟨a, z, cs, rs, d, rfl, _⟩ := h
    rfl
  · obtain ⟨a, z, cs, rs, d, rfl, ⟨dx, v1, v2, v3, v4, v5, hA, t3, t4⟩, hl, k⟩ := h
    refine ⟨_, pss_cons (ps_for PassesOwn.never rfl (pi_tup (pe_fld (pv 0) rfl)) (pg_tup rfl (pgs_cons (pg_name (i := 2) scFields.nd rfl (.inl rfl)) (pgs_cons (pg_name (i := 3) scFields.nd rfl (.inl rfl)) pgs_nil)))
        (pss_one (ps_if (pt_cmpR op_eq (pv 2) (pv 1) (nomark _)) (pss_one (ps_ret (pv 3))) pss_nil))) (pss_one ps_never), ?_⟩
    obtain ⟨b, xs, rfl, hb, q⟩ := TpR.inv t4
    refine ⟨_, rfl, a, C, dx, _, _, rfl, hA, cl, n4, ff_records, b, rfl, ⟨_, .inl hb⟩, ?_⟩
    refine for_tup (xs := xs) (fun i σ H3 => H3 = H ∧ (∃ a2 a3, σ = [some (.ref a), some (.str z), a2, a3]) ∧ ∀ (j : Nat) (r : Str × PyData), j < i → rs[j]? = some r → r.1 ≠ z) ?_ ?_ ?_ ?_
    · exact ⟨rfl, ⟨_, _, rfl⟩, fun j r hj => absurd hj (Nat.not_lt_zero _)⟩
    · rintro i σ H3 _ ⟨rfl, _⟩
      exact .inl hb
    · rintro i x σ H3 hx ⟨rfl, ⟨a2, a3, rfl⟩, hB⟩
      obtain ⟨r, t, u, hr', rfl, ht, tu⟩ := rows_at q hx
      refine ⟨t, _, rfl, SqT.of ht, rfl, _, _, rfl, _, _, rfl, rfl, ?_⟩
      refine ⟨_, rfl, _, rfl, rfl, _, rfl, ?_⟩
      refine ite2 (fun h => ?_) (fun h => ?_)
      · have e : r.1 = z := by
          have := of_decide_eq_true h
          cases this
          rfl
        have e2 := look_first hl hr' e hB
        rw [e2] at tu
        exact ⟨_, rfl, k _ tu⟩
      · have e : r.1 ≠ z := fun q => h (decide_eq_true (by rw [q]))
        refine ⟨rfl, ⟨_, _, rfl⟩, fun j s hj hs => ?_⟩
        by_cases ej : j = i
        · rw [ej, hr'] at hs
          cases hs
          exact e
        · exact hB j s (by omega) hs
    · rintro σ H3 ⟨rfl, _, hB⟩
      obtain ⟨i, hi, e⟩ := look_at hl
      have el : xs.length = rs.length := by rw [q.length, List.length_map]
      exact hB i rs[i] (by omega) (List.getElem?_eq_getElem hi) e
end
end Fh

set_option Elab.async false
set_option linter.all false
set_option maxRecDepth 100000
set_option maxHeartbeats 4000000
namespace Fh
open PySem L2 PyProof.Rows
abbrev sCon : Stmt := top 61
abbrev sRec : Stmt := top 62
abbrev sLst : Stmt := top 63
abbrev nCon : List Str := ["face", "kind", "value", "word", "sign"]
abbrev nRec : List Str := ["face", "record", "value", "numbers", "number", "name", "kind", "need", "content"]
abbrev nLst : List Str := ["face", "kind", "values", "numbers", "value", "content"]
def spCon (C : Addr) (n : Nat) : Sp := fun vs H Q _ => ∃ (a : Addr) (v x : V) (k : Kn) (u : Vl) (F : Fc), vs = [.ref a, v, x] ∧ FaceF C H a F ∧ Tp H v k.d ∧ VD H x u ∧ Ok F n k u ∧ (enc F n k u).length ≤ 10000 ∧
  ∀ (p : Addr) (H' : Hp), Same H H' → H p = none → H' p = some (.lst ((enc F n k u).map V.int)) → Q (.ref p) H'
def spRec (C : Addr) (n : Nat) : Sp := fun vs H Q _ => ∃ (a : Addr) (z : Str) (x : V) (u : Vl) (F : Fc), vs = [.ref a, .str z, x] ∧ FaceF C H a F ∧ VD H x u ∧ Ok F n (.one (.rc z)) u ∧ (enc F n (.one (.rc z)) u).length ≤ 10000 ∧
  ∀ (p : Addr) (H' : Hp), Same H H' → H p = none → H' p = some (.lst ((enc F n (.one (.rc z)) u).map V.int)) → Q (.ref p) H'
def spLst (C : Addr) (n : Nat) : Sp := fun vs H Q _ => ∃ (a : Addr) (v x : V) (b : Kb) (u : Vl) (F : Fc), vs = [.ref a, v, x] ∧ FaceF C H a F ∧ Tp H v b.d ∧ VD H x u ∧ Ok F n (.lst b) u ∧ (enc F n (.lst b) u).length ≤ 10000 ∧
  ∀ (p : Addr) (H' : Hp), Same H H' → H p = none → H' p = some (.lst ((enc F n (.lst b) u).map V.int)) → Q (.ref p) H'
/-- a walk of n turns -/
theorem for_it {J : It} {g : TG} {tb : TS} {D : Ends} {σ : L2.St} {H : Hp} (n : Nat) (Pv : Nat → L2.St → Hp → Prop) (h0 : Pv 0 σ H) (hgo : ∀ i σ H, i < n → Pv i σ H → J.go i H) (hst : ∀ σ H, Pv n σ H → J.stop n H)
    (hs : ∀ (i : Nat) (σ : L2.St) (H : Hp) (v : V) (H' : Hp), i < n → Pv i σ H → J.yld i H v H' → g v σ H' fun σ2 H2 => tb { D with nx := Pv (i + 1), ct := Pv (i + 1), bk := D.nx } σ2 H2) (hd : ∀ σ H, Pv n σ H → D.nx σ H) :
    ∃ W : Nat → Nat → L2.St → Hp → Prop, (∃ m, W 0 m σ H) ∧ ∀ i m σ H, W i m σ H →
      (J.stop i H ∧ D.nx σ H) ∨ (J.go i H ∧ ∃ N : L2.St → Hp → Prop, (∀ σ' H', N σ' H' → ∃ m', m' < m ∧ W (i + 1) m' σ' H') ∧ ∀ v H', J.yld i H v H' → g v σ H' fun σ2 H2 => tb { D with nx := N, ct := N, bk := D.nx } σ2 H2) := by
  refine ⟨fun i m σ H => i + m = n ∧ Pv i σ H, ⟨n, Nat.zero_add n, h0⟩, fun i m σ H hW => ?_⟩
  obtain ⟨e, p⟩ := hW
  rcases Nat.eq_zero_or_pos m with hm | hm
  · have ei : i = n := by omega
    subst ei
    exact .inl ⟨hst σ H p, hd σ H p⟩
  · exact .inr ⟨hgo i σ H (by omega) p, Pv (i + 1), fun σ' H' q => ⟨m - 1, by omega, by omega, q⟩, fun v H' y => hs i σ H v H' (by omega) p y⟩
theorem lc_it {J : It} {g : TG} {tt : TT} {te : TE} {vs : List Nat} {σ : L2.St} {H1 : Hp} {D : Addr} {Qd : Hp → Prop} (n : Nat) (Pv : Nat → Hp → Prop) (h0 : Pv 0 (upd H1 D (.lst []))) (hgo : ∀ i H, i < n → Pv i H → J.go i H) (hst : ∀ H, Pv n H → J.stop n H)
    (hs : ∀ (i : Nat) (H : Hp) (x : V) (H' : Hp), i < n → Pv i H → J.yld i H x H' → g x (wipe σ vs) H' fun σ2 H2 => wipe σ2 vs = wipe σ vs ∧ tt σ2 H2 fun b H3 =>
      if b = true then te σ2 H3 fun y H4 => ∃ acc, H4 D = some (.lst acc) ∧ acc.length < sizeLine ∧ Pv (i + 1) (upd H4 D (.lst (acc ++ [y]))) else Pv (i + 1) H3) (hd : ∀ H, Pv n H → Qd H) :
    ∃ W : Nat → Nat → Hp → Prop, (∃ m, W 0 m (upd H1 D (.lst []))) ∧ ∀ i m H, W i m H →
      (J.stop i H ∧ Qd H) ∨ (J.go i H ∧ ∃ Nx : Hp → Prop, (∀ H', Nx H' → ∃ m', m' < m ∧ W (i + 1) m' H') ∧ ∀ x H', J.yld i H x H' → g x (wipe σ vs) H' fun σ2 H2 => wipe σ2 vs = wipe σ vs ∧ tt σ2 H2 fun b H3 =>
        if b = true then te σ2 H3 fun y H4 => ∃ acc, H4 D = some (.lst acc) ∧ acc.length < sizeLine ∧ Nx (upd H4 D (.lst (acc ++ [y]))) else Nx H3) := by
  refine ⟨fun i m H => i + m = n ∧ Pv i H, ⟨n, Nat.zero_add n, h0⟩, fun i m H hW => ?_⟩
  obtain ⟨e, p⟩ := hW
  rcases Nat.eq_zero_or_pos m with hm | hm
  · have ei : i = n := by omega
    subst ei
    exact .inl ⟨hst H p, hd H p⟩
  · exact .inr ⟨hgo i H (by omega) p, Pv (i + 1), fun H' q => ⟨m - 1, by omega, by omega, q⟩, fun x H' y => hs i H x H' (by omega) p y⟩
theorem told_len (n : Nat) : (told n).length ≤ 2 := by
  unfold told
  split
  · exact Nat.le_succ 1
  · exact Nat.le_refl _
theorem flat_le {α : Type} : ∀ {l : List (List α)} {x : List α}, x ∈ l → x.length ≤ l.flatten.length
  | [], _, h => by cases h
  | y :: l, x, h => by
    rw [List.flatten_cons, List.length_append]
    rcases List.mem_cons.mp h with e | h
    · rw [e]; omega
    · have := flat_le h; omega
theorem flat_take {α : Type} : ∀ (l : List (List α)) (i : Nat), (l.take i).flatten.length ≤ l.flatten.length
  | [], _ => by simp
  | y :: l, 0 => by simp
  | y :: l, i + 1 => by
    rw [List.take_succ_cons, List.flatten_cons, List.flatten_cons, List.length_append, List.length_append]
    have := flat_take l i
    omega
theorem piece_le (c : List Int) : c.length ≤ (piece c).length := by
  unfold piece
  rw [List.length_append]
  omega
theorem Tk.back {H : Hp} {p : Addr} {xs : List V} : Tk (upd H p (.lst xs)) H := fun a ys e => by
  by_cases c : a = p
  · rw [c, upd_same] at e
    cases e
  · rw [upd_ne c] at e
    exact e
section
variable {P : Program} {w : World} {K : PySem.W.Frag} {mg : Str → Option Value} {base : Heap}
theorem scCon : FnScope nCon ["face", "kind", "value"] (defScope sCon) := ⟨rfl, rfl, rfl, by decide +kernel, rfl, by decide +kernel, by decide +kernel⟩
theorem scRec : FnScope nRec ["face", "record", "value"] (defScope sRec) := ⟨rfl, rfl, rfl, by decide +kernel, rfl, by decide +kernel, by decide +kernel⟩
theorem scLst : FnScope nLst ["face", "kind", "values"] (defScope sLst) := ⟨rfl, rfl, rfl, by decide +kernel, rfl, by decide +kernel, by decide +kernel⟩
theorem ok_rec {C f : Addr} {fd : FuncData} {l n : Nat} (hl : 2 ≤ l) (F : Fun K "record_content" "record_content" sRec f fd) (G : Glb mg) (DC : Has P w K mg base "content_of" l ["face", "kind", "value"] (spCon C n)) (DM : Has P w K mg base "mark_of" 2 ["kind"] spMark) (DT : Has P w K mg base "told_size" 1 ["size"] spToldE)
    (DF : HasM P w K mg base C "fields_of" 1 ["self", "record"] (spFields C)) : FnOk P w K mg base CX0 (l + 1) f fd ["face", "record", "value"] (spRec C (n + 1)) := by
  refine F.ok scRec (fun vs H Q E h => ?_) (fun cdv A outer s H vs Q E hr h => ?_)
  · obtain ⟨a, z, x, u, F, rfl, _⟩ := h
    rfl
  · obtain ⟨a, z, x, u, F, rfl, hF, hx, ok, le, k⟩ := h
    have hu := hu_of hr
    refine ⟨_, (pss_cons (ps_set (i := 3) scRec.nd rfl (Or.inl rfl) (pe_lst pa_nil))
      (pss_cons (ps_for PassesOwn.never rfl (pi_tup (pe_hasM DF (hr.mono (by omega)) (pv 0) (pa_cons (pv 1) pa_nil))) (pg_tup rfl (pgs_cons (pg_name (i := 4) scRec.nd rfl (Or.inl rfl)) (pgs_cons (pg_name (i := 5) scRec.nd rfl (Or.inl rfl)) (pgs_cons (pg_name (i := 6) scRec.nd rfl (Or.inl rfl)) (pgs_cons (pg_name (i := 7) scRec.nd rfl (Or.inl rfl)) pgs_nil)))))
      (pss_one (ps_if (pt_cmp (pc_din hu (pv 5) (pv 2)))
      (pss_cons (ps_set (i := 8) scRec.nd rfl (Or.inl rfl) (pe_has DC hr rfl (pa_cons (pv 0) (pa_cons (pv 6) (pa_cons (pe_dget hu (pv 2) (pv 5) (fun _ _ => rfl)) pa_nil)))))
      (pss_one (ps_expr (pe_bm PySem.F.plainAttrs_list PySem.F.slot_list_extend PySem.F.type_list_extend mt_extend (pv 3) (pa_cons (pe_op op_cat (pe_op op_cat (pe_lst (pa_cons (pv 4) (pa_cons (pe_has DM (hr.mono (by omega)) rfl (pa_cons (pv 6) pa_nil)) pa_nil))) (pe_has DT (hr.mono (by omega)) rfl (pa_cons (pe_callB call_len_seq (by rfl) G.len (by decide +kernel) (pa_cons (pv 8) pa_nil)) pa_nil))) (pv 8)) pa_nil)))))
      pss_nil)))
      (pss_one (ps_ret (pv 3))))), ?_⟩
    obtain ⟨fl, fs, rfl, hl2, nd, inn, ok', must⟩ := ok
    have ef : flds F z = fl := by unfold flds; rw [hl2]; rfl
    have ee : enc F (n + 1) (.one (.rc z)) (.rcd fs) = (fl.map (fpiece (enc F n) fs)).flatten := by
      show ((flds F z).map (fpiece (enc F n) fs)).flatten = _
      rw [ef]
    rw [ee] at le k
    cases hx with
    | @rcd d kvs _ hd ek eq =>
      have hfR := hF.1
      obtain ⟨dx, v1, v2, v3, v4, v5, hA, t3, t4⟩ := id hfR
      have hlr : F.r.lookup z = some (fieldsD fl) := by rw [look_r, hl2]; rfl
      have lf : fl.length ≤ 10 := hF.2.lf (z, fl) (look_mem hl2)
      refine ⟨Nat.zero_le _, fun p hp => ?_⟩
      have S0 : Same H (upd H p (.lst [])) := Same.new hp
      refine ⟨_, rfl, a, dx, _, rfl, S0 _ _ hA, ff_meth (by decide +kernel) (by decide +kernel) (by decide +kernel) (by decide +kernel) (by decide +kernel), _, rfl, a, z, F.c, F.r, _, rfl, hfR.same S0, hlr, fun ov tv => ?_⟩
      have tkb : Tk (upd H p (.lst [])) H := Tk.back
      obtain ⟨c, ys, rfl, hc, tys⟩ := Tp.inv (Tp.keep tkb _ _ tv)
      have ly : ys.length = fl.length := by rw [tys.length, List.length_map]
      refine ⟨c, rfl, ⟨_, SqT.of (S0 _ _ hc)⟩, ?_⟩
      refine for_tup (xs := ys) (fun i σ H3 => (∃ a4 a5 a6 a7 a8, σ = [some (.ref a), some (.str z), some (.ref d), some (.ref p), a4, a5, a6, a7, a8]) ∧ Same H H3 ∧ H3 p = some (.lst ((((fl.take i).map (fpiece (enc F n) fs)).flatten).map V.int))) ?_ ?_ ?_ ?_
      · exact ⟨⟨_, _, _, _, _, rfl⟩, S0, upd_same⟩
      · rintro i σ H3 _ ⟨_, S3, _⟩
        exact SqT.of (S3 _ _ hc)
      · rintro i y σ H3 hy ⟨⟨a4, a5, a6, a7, a8, rfl⟩, S3, hp3⟩
        obtain ⟨g, t2, u2, hg, rfl, ht2, tu2⟩ := flds_at (fs := fl) tys hy
        have gm := List.mem_of_getElem? hg
        have next : ((fl.take (i + 1)).map (fpiece (enc F n) fs)).flatten = ((fl.take i).map (fpiece (enc F n) fs)).flatten ++ fpiece (enc F n) fs g := by
          rw [List.take_add_one, hg, List.map_append, List.flatten_append]
          congr 1
          show ([g].map (fpiece (enc F n) fs)).flatten = _
          rw [List.map_cons, List.map_nil, List.flatten_cons, List.flatten_nil, List.append_nil]
        have lnext : (((fl.take (i + 1)).map (fpiece (enc F n) fs)).flatten).length ≤ 10000 := by
          rw [List.map_take]
          exact Nat.le_trans (flat_take _ _) le
        refine ⟨t2, _, rfl, SqT.of (S3 _ _ ht2), rfl, _, _, rfl, _, _, rfl, _, _, rfl, _, _, rfl, rfl, ?_⟩
        have hd3 := S3 _ _ hd
        refine ⟨_, rfl, _, rfl, d, _, rfl, DGet.k (k := Sum.inr g.nam) hd3, _, rfl, ?_⟩
        obtain ⟨v0, v1'⟩ := vd_at ek eq g.nam
        cases hlk : fs.lookup g.nam with
        | none =>
          rw [v0 hlk]
          refine iteF ⟨⟨_, _, _, _, _, rfl⟩, S3, ?_⟩
          have e0 : fpiece (enc F n) fs g = [] := by unfold fpiece; rw [hlk]
          rw [next, e0, List.append_nil]
          exact hp3
        | some v =>
          obtain ⟨x, hx, vx⟩ := v1' v hlk
          rw [hx]
          refine iteT ?_
          have e0 : fpiece (enc F n) fs g = g.num :: g.kd.mark :: piece (enc F n g.kd v) := by unfold fpiece; rw [hlk]
          have lc : (enc F n g.kd v).length + (((fl.take i).map (fpiece (enc F n) fs)).flatten).length + 4 ≤ 10004 ∧ (enc F n g.kd v).length ≤ 10000 := by
            rw [next, e0, List.length_append, List.length_cons, List.length_cons] at lnext
            have := piece_le (enc F n g.kd v)
            omega
          have hg3 : DGet H3 d (.str g.nam) (some x) := by
            have z1 := DGet.k (k := Sum.inr g.nam) hd3
            rw [hx] at z1
            exact z1
          have tk3 := Tp.keep (Same.tk S3) _ _ tu2
          refine ⟨_, rfl, _, rfl, _, rfl, _, rfl, d, x, rfl, hg3, a, u2, x, g.kd, v, F, rfl, hF.same S3, tk3, vx.same S3, ok' g gm v hlk, lc.2, fun cp H5 S5 hcp hc5 => ?_⟩
          generalize hen : enc F n g.kd v = ce at *
          have S05 : Same H H5 := fun b o e => S5 b o (S3 b o e)
          have hp5 := S5 _ _ hp3
          refine ⟨_, rfl, .inl ⟨rfl, _, SqL.of hp5⟩, ?_⟩
          refine ⟨_, rfl, _, rfl, u2, g.kd, rfl, Tp.keep (Same.tk S05) _ _ tu2, (by show 2 ≤ sizeLine; decide), fun l1 hl1 => ?_⟩
          have S6 : Same H5 (upd H5 l1 (.lst [.int g.num, .int g.kd.mark])) := Same.new hl1
          have x1 : (upd H5 l1 (.lst [.int g.num, .int g.kd.mark])) l1 = some (.lst [.int g.num, .int g.kd.mark]) := upd_same
          generalize upd H5 l1 (.lst [.int g.num, .int g.kd.mark]) = H6 at *
          refine ⟨_, rfl, cp, _, rfl, .inl (SqL.of (S6 _ _ hc5)), ce.length, (by rw [List.length_map]; rfl), fun tp H7 S7 htp h7 => ?_⟩
          have lt := told_len ce.length
          have S57 : Same H5 H7 := fun b o e => S7 b o (S6 b o e)
          refine ⟨l1, tp, _, _, rfl, rfl, S7 _ _ x1, h7, ?_, fun l2 hl2 => ?_⟩
          · rw [List.length_map, sizeLine_eq]
            show 2 + _ ≤ _
            omega
          have S8 : Same H7 (upd H7 l2 (.lst ([.int g.num, .int g.kd.mark] ++ (told ce.length).map V.int))) := Same.new hl2
          have x2 : (upd H7 l2 (.lst ([.int g.num, .int g.kd.mark] ++ (told ce.length).map V.int))) l2 = some (.lst ([.int g.num, .int g.kd.mark] ++ (told ce.length).map V.int)) := upd_same
          generalize upd H7 l2 (.lst ([.int g.num, .int g.kd.mark] ++ (told ce.length).map V.int)) = H8 at *
          have S58 : Same H5 H8 := fun b o e => S8 b o (S57 b o e)
          refine ⟨_, rfl, l2, cp, _, _, rfl, rfl, x2, S58 _ _ hc5, ?_, fun l3 hl3 => ?_⟩
          · rw [List.length_append, List.length_map, List.length_map, sizeLine_eq]
            show 2 + _ + _ ≤ _
            omega
          have S9 : Same H8 (upd H8 l3 (.lst ([.int g.num, .int g.kd.mark] ++ (told ce.length).map V.int ++ ce.map V.int))) := Same.new hl3
          have x3 : (upd H8 l3 (.lst ([.int g.num, .int g.kd.mark] ++ (told ce.length).map V.int ++ ce.map V.int))) l3 = some (.lst ([.int g.num, .int g.kd.mark] ++ (told ce.length).map V.int ++ ce.map V.int)) := upd_same
          generalize upd H8 l3 (.lst ([.int g.num, .int g.kd.mark] ++ (told ce.length).map V.int ++ ce.map V.int)) = H9 at *
          have hp9 := S9 _ _ (S58 _ _ hp5)
          refine ⟨p, l3, _, _, rfl, rfl, hp9, x3, ?_, ?_⟩
          · rw [List.length_append, List.length_append, List.length_map, List.length_map, List.length_map, sizeLine_eq]
            show _ + (2 + _ + _) ≤ _
            omega
          · refine ⟨⟨_, _, _, _, _, rfl⟩, Same.wr (fun b o e => S9 b o (S58 b o (S05 b o e))) hp, ?_⟩
            rw [upd_same, next, e0]
            unfold piece
            rw [List.map_append, List.map_cons, List.map_cons, List.map_append]
            rfl
      · rintro σ H3 ⟨⟨a4, a5, a6, a7, a8, rfl⟩, S3, hp3⟩
        rw [ly, List.take_length] at hp3
        exact ⟨_, rfl, k p H3 S3 hp hp3⟩
theorem ok_lst {C f : Addr} {fd : FuncData} {l n : Nat} (hl : 2 ≤ l) (F : Fun K "list_content" "list_content" sLst f fd) (G : Glb mg) (DC : Has P w K mg base "content_of" l ["face", "kind", "value"] (spCon C n)) (DM : Has P w K mg base "mark_of" 2 ["kind"] spMark) (DT : Has P w K mg base "told_size" 1 ["size"] spToldE) :
    FnOk P w K mg base CX0 (l + 1) f fd ["face", "kind", "values"] (spLst C (n + 1)) := by
  refine F.ok scLst (fun vs H Q E h => ?_) (fun cdv A outer s H vs Q E hr h => ?_)
  · obtain ⟨a, v, x, b, u, F, rfl, _⟩ := h
    rfl
  · obtain ⟨a, v, x, b, u, F, rfl, hF, tv, hx, ok, le, k⟩ := h
    refine ⟨_, (pss_cons (ps_set (i := 3) scLst.nd rfl (Or.inl rfl) (pe_lst (pa_cons (pe_has DM (hr.mono (by omega)) rfl (pa_cons (pv 1) pa_nil)) pa_nil)))
      (pss_cons (ps_for PassesOwn.never rfl (pi_tup (pv 2)) (pg_name (i := 4) scLst.nd rfl (Or.inl rfl))
      (pss_cons (ps_set (i := 5) scLst.nd rfl (Or.inl rfl) (pe_has DC hr rfl (pa_cons (pv 0) (pa_cons (pv 1) (pa_cons (pv 4) pa_nil)))))
      (pss_one (ps_expr (pe_bm PySem.F.plainAttrs_list PySem.F.slot_list_extend PySem.F.type_list_extend mt_extend (pv 3) (pa_cons (pe_op op_cat (pe_has DT (hr.mono (by omega)) rfl (pa_cons (pe_callB call_len_seq (by rfl) G.len (by decide +kernel) (pa_cons (pv 5) pa_nil)) pa_nil)) (pv 5)) pa_nil))))))
      (pss_one (ps_ret (pv 3))))), ?_⟩
    obtain ⟨xs, rfl, nb, l6, ok'⟩ := ok
    have ee : enc F (n + 1) (.lst b) (.lst xs) = b.mark :: (xs.map fun x => piece (enc F n (.one b) x)).flatten := rfl
    rw [ee] at le k
    rw [List.length_cons] at le
    cases hx with
    | @lst d ys _ hd eq =>
      have ly := eq.length
      refine ⟨_, rfl, v, .one b, rfl, tv, (by show 1 ≤ sizeLine; decide), fun p hp => ?_⟩
      have S0 : Same H (upd H p (.lst [.int (Kn.one b).mark])) := Same.new hp
      refine ⟨_, rfl, d, rfl, ⟨_, SqT.of (S0 _ _ hd)⟩, ?_⟩
      refine for_tup (xs := ys) (fun i σ H3 => (∃ a4 a5, σ = [some (.ref a), some v, some (.ref d), some (.ref p), a4, a5]) ∧ Same H H3 ∧ H3 p = some (.lst ((b.mark :: ((xs.take i).map fun x => piece (enc F n (.one b) x)).flatten).map V.int))) ?_ ?_ ?_ ?_
      · exact ⟨⟨_, _, rfl⟩, S0, upd_same⟩
      · rintro i σ H3 _ ⟨_, S3, _⟩
        exact SqT.of (S3 _ _ hd)
      · rintro i y σ H3 hy ⟨⟨a4, a5, rfl⟩, S3, hp3⟩
        obtain ⟨u, hu, vu⟩ := eq.get hy
        have um := List.mem_of_getElem? hu
        have next : ((xs.take (i + 1)).map fun x => piece (enc F n (.one b) x)).flatten = ((xs.take i).map fun x => piece (enc F n (.one b) x)).flatten ++ piece (enc F n (.one b) u) := by
          rw [List.take_add_one, hu, List.map_append, List.flatten_append]
          congr 1
          show ([u].map fun x => piece (enc F n (.one b) x)).flatten = _
          rw [List.map_cons, List.map_nil, List.flatten_cons, List.flatten_nil, List.append_nil]
        have lnext : (((xs.take (i + 1)).map fun x => piece (enc F n (.one b) x)).flatten).length ≤ 9999 := by
          rw [List.map_take]
          exact Nat.le_trans (flat_take _ _) (by omega)
        have lc : (enc F n (.one b) u).length + (((xs.take i).map fun x => piece (enc F n (.one b) x)).flatten).length ≤ 9999 := by
          rw [next, List.length_append] at lnext
          have := piece_le (enc F n (.one b) u)
          omega
        refine ⟨_, rfl, _, rfl, _, rfl, a, v, y, .one b, u, F, rfl, hF.same S3, Tp.keep (Same.tk S3) _ _ tv, vu.same S3, ok' u um, by omega, fun cp H5 S5 hcp hc5 => ?_⟩
        generalize hen : enc F n (.one b) u = ce at *
        have S05 : Same H H5 := fun b o e => S5 b o (S3 b o e)
        have hp5 := S5 _ _ hp3
        refine ⟨_, rfl, .inl ⟨rfl, _, SqL.of hp5⟩, ?_⟩
        refine ⟨_, rfl, cp, _, rfl, .inl (SqL.of hc5), ce.length, (by rw [List.length_map]; rfl), fun tp H7 S7 htp h7 => ?_⟩
        have lt := told_len ce.length
        refine ⟨_, rfl, tp, cp, _, _, rfl, rfl, h7, S7 _ _ hc5, ?_, fun l3 hl3 => ?_⟩
        · rw [List.length_map, List.length_map, sizeLine_eq]
          omega
        have S9 : Same H7 (upd H7 l3 (.lst ((told ce.length).map V.int ++ ce.map V.int))) := Same.new hl3
        have x3 : (upd H7 l3 (.lst ((told ce.length).map V.int ++ ce.map V.int))) l3 = some (.lst ((told ce.length).map V.int ++ ce.map V.int)) := upd_same
        generalize upd H7 l3 (.lst ((told ce.length).map V.int ++ ce.map V.int)) = H9 at *
        have hp9 := S9 _ _ (S7 _ _ hp5)
        refine ⟨p, l3, _, _, rfl, rfl, hp9, x3, ?_, ?_⟩
        · rw [List.length_append, List.length_map, List.length_map, List.length_map, List.length_cons, sizeLine_eq]
          omega
        · refine ⟨⟨_, _, rfl⟩, Same.wr (fun b o e => S9 b o (S7 b o (S05 b o e))) hp, ?_⟩
          rw [upd_same, next]
          simp only [piece, List.map_cons, List.map_append, List.cons_append, List.append_assoc]
      · rintro σ H3 ⟨⟨a4, a5, rfl⟩, S3, hp3⟩
        rw [ly, List.take_length] at hp3
        exact ⟨_, rfl, k p H3 S3 hp hp3⟩
theorem ok_con {C f : Addr} {fd : FuncData} {l n : Nat} (hl : 2 ≤ l) (F : Fun K "content_of" "content_of" sCon f fd) (G : Glb mg) (go : mg "ord" = none) (DW : Has P w K mg base "word_of" 1 ["kind"] spWord) (DR : Has P w K mg base "record_content" l ["face", "record", "value"] (spRec C (n + 1))) (DL : Has P w K mg base "list_content" l ["face", "kind", "values"] (spLst C (n + 1)))
    (DD : Has P w K mg base "digits_of" 1 ["number"] spDigE) (DU : Has P w K mg base "number_of" 2 ["face", "kind", "value"] (spNum C)) : FnOk P w K mg base CX0 (l + 1) f fd ["face", "kind", "value"] (spCon C (n + 1)) := by
  refine F.ok scCon (fun vs H Q E h => ?_) (fun cdv A outer s H vs Q E hr h => ?_)
  · obtain ⟨a, v, x, k, u, F, rfl, _⟩ := h
    rfl
  · obtain ⟨a, v, x, k, u, F, rfl, hF, tv, hx, ok, le, q⟩ := h
    refine ⟨_, (pss_cons (ps_set (i := 3) scCon.nd rfl (Or.inl rfl) (pe_has DW (hr.mono (by omega)) rfl (pa_cons (pv 1) pa_nil)))
      (pss_cons (ps_if (pt_cmpR op_eq (pv 3) pe_str (nomark _))
      (pss_one (ps_ret (pe_has DR hr rfl (pa_cons (pv 0) (pa_cons (pe_ix ix_tup (pv 1) pe_int (fun _ _ => rfl)) (pa_cons (pv 2) pa_nil))))))
      pss_nil)
      (pss_cons (ps_if (pt_cmpR op_eq (pv 3) pe_str (nomark _))
      (pss_one (ps_ret (pe_has DL hr rfl (pa_cons (pv 0) (pa_cons (pe_ix ix_tup (pv 1) pe_int (fun _ _ => rfl)) (pa_cons (pv 2) pa_nil))))))
      pss_nil)
      (pss_cons (ps_if (pt_cmpR op_eq (pv 3) pe_str (nomark _))
      (pss_one (ps_ret (pe_lc (own := [("sign", 4)]) (g := (gName 4)) (tt := tYes) rfl scCon.nd (pi_str (pv 2)) (blkOk_by (N := nCon) (sc := defScope sCon) (by decide +kernel)) (fun _ _ _ _ _ => (pg_name (i := 4) scCon.nd rfl (Or.inl rfl))) (fun _ _ _ _ _ => pts_nil) (fun _ _ _ _ _ => (pe_callB call_ord (by rfl) go (by decide +kernel) (pa_cons (pv 4) pa_nil))))))
      pss_nil)
      (pss_one (ps_ret (pe_has DD (hr.mono (by omega)) rfl (pa_cons (pe_has DU (hr.mono (by omega)) rfl (pa_cons (pv 0) (pa_cons (pv 1) (pa_cons (pv 2) pa_nil)))) pa_nil)))))))), ?_⟩
    refine ⟨_, rfl, v, k, rfl, tv, ?_⟩
    refine ⟨_, rfl, rfl, _, rfl, ?_⟩
    rcases kn_inv tv with ⟨rfl, hk⟩ | ⟨b, y, rfl, hb, ty⟩
    · rcases hk with rfl | rfl | rfl
      · refine ite2 (fun h => absurd (of_decide_eq_true h) (sne (by decide +kernel : ("whole" : Str) ≠ "record"))) (fun _ => ?_)
        refine ⟨_, rfl, rfl, _, rfl, ?_⟩
        refine ite2 (fun h => absurd (of_decide_eq_true h) (sne (by decide +kernel : ("whole" : Str) ≠ "list"))) (fun _ => ?_)
        refine ⟨_, rfl, rfl, _, rfl, ?_⟩
        refine ite2 (fun h => absurd (of_decide_eq_true h) (sne (by decide +kernel : ("whole" : Str) ≠ "text"))) (fun _ => ?_)
        obtain ⟨i, rfl, i0, i1⟩ := ok
        cases hx
        refine ⟨_, rfl, _, rfl, _, rfl, a, _, _, .one .whole, F.c, F.r, rfl, hF.1, tv, .inl ⟨rfl, i, rfl, ?_⟩⟩
        have e : ((i.toNat : Nat) : Int) = i := by omega
        exact ⟨i.toNat, by rw [e]; rfl, by omega, fun p H' S hp h => q p H' S hp h⟩
      · refine ite2 (fun h => absurd (of_decide_eq_true h) (sne (by decide +kernel : ("truth" : Str) ≠ "record"))) (fun _ => ?_)
        refine ⟨_, rfl, rfl, _, rfl, ?_⟩
        refine ite2 (fun h => absurd (of_decide_eq_true h) (sne (by decide +kernel : ("truth" : Str) ≠ "list"))) (fun _ => ?_)
        refine ⟨_, rfl, rfl, _, rfl, ?_⟩
        refine ite2 (fun h => absurd (of_decide_eq_true h) (sne (by decide +kernel : ("truth" : Str) ≠ "text"))) (fun _ => ?_)
        obtain ⟨t, rfl⟩ := ok
        cases hx
        refine ⟨_, rfl, _, rfl, _, rfl, a, _, _, .one .truth, F.c, F.r, rfl, hF.1, tv, .inr (.inl ⟨rfl, t, rfl, ?_⟩)⟩
        cases t with
        | true => exact ⟨1, rfl, by decide, fun p H' S hp h => q p H' S hp h⟩
        | false => exact ⟨0, rfl, by decide, fun p H' S hp h => q p H' S hp h⟩
      · refine ite2 (fun h => absurd (of_decide_eq_true h) (sne (by decide +kernel : ("text" : Str) ≠ "record"))) (fun _ => ?_)
        refine ⟨_, rfl, rfl, _, rfl, ?_⟩
        refine ite2 (fun h => absurd (of_decide_eq_true h) (sne (by decide +kernel : ("text" : Str) ≠ "list"))) (fun _ => ?_)
        refine ⟨_, rfl, rfl, _, rfl, ?_⟩
        refine ite2 (fun _ => ?_) (fun h => absurd (decide_eq_true rfl) h)
        obtain ⟨z, rfl, lz, sz⟩ := ok
        cases hx
        refine ⟨_, rfl, z, rfl, fun D hD => ?_⟩
        have hsz : z.cps.toList.length = z.cps.size := Array.length_toList
        have hz : z.cps.size ≤ 20 := lz
        refine lc_it z.cps.size (fun j H3 => Same H H3 ∧ H3 D = some (.lst (((z.cps.toList.take j).map (fun c : Nat => (c : Int))).map V.int))) ?_ ?_ ?_ ?_ ?_
        · exact ⟨Same.new hD, upd_same⟩
        · rintro j H3 hj _
          exact hj
        · rintro H3 _
          exact Nat.le_refl _
        · rintro j H3x y H3 hj ⟨S3, h3⟩ ⟨rfl, c, hc, rfl⟩
          refine ⟨rfl, yes (iteT ?_)⟩
          refine ⟨_, rfl, _, rfl, rfl, ?_⟩
          refine ⟨_, h3, ?_, Same.wr S3 hD, ?_⟩
          · rw [List.length_map, List.length_map, List.length_take]
            exact Nat.lt_of_le_of_lt (Nat.min_le_left _ _) (Nat.lt_of_lt_of_le (show j < 20 by omega) (by decide))
          · have hc2 : z.cps.toList[j]? = some c := by rw [Array.getElem?_toList]; exact hc
            rw [upd_same, List.take_add_one, hc2, List.map_append, List.map_append]
            rfl
        · rintro H3 ⟨S3, h3⟩
          rw [← hsz, List.take_length] at h3
          exact q D H3 S3 hD h3
    · cases k with
      | lst c =>
        refine ite2 (fun h => absurd (of_decide_eq_true h) (sne (by decide +kernel : ("list" : Str) ≠ "record"))) (fun _ => ?_)
        refine ⟨_, rfl, rfl, _, rfl, ?_⟩
        refine ite2 (fun _ => ?_) (fun h => absurd (decide_eq_true rfl) h)
        exact ⟨_, rfl, _, rfl, b, _, _, _, rfl, rfl, SqT.of hb, rfl, _, rfl, a, y, x, c, u, F, rfl, hF, ty, hx, ok, le, q⟩
      | one c =>
        cases c with
        | whole => cases tv
        | truth => cases tv
        | text => cases tv
        | rc z =>
          cases ty.istr
          refine ite2 (fun _ => ?_) (fun h => absurd (decide_eq_true rfl) h)
          exact ⟨_, rfl, _, rfl, b, _, _, _, rfl, rfl, SqT.of hb, rfl, _, rfl, a, z, x, u, F, rfl, hF, hx, ok, le, q⟩
        | ch z =>
          cases ty.istr
          refine ite2 (fun h => absurd (of_decide_eq_true h) (sne (by decide +kernel : ("choice" : Str) ≠ "record"))) (fun _ => ?_)
          refine ⟨_, rfl, rfl, _, rfl, ?_⟩
          refine ite2 (fun h => absurd (of_decide_eq_true h) (sne (by decide +kernel : ("choice" : Str) ≠ "list"))) (fun _ => ?_)
          refine ⟨_, rfl, rfl, _, rfl, ?_⟩
          refine ite2 (fun h => absurd (of_decide_eq_true h) (sne (by decide +kernel : ("choice" : Str) ≠ "text"))) (fun _ => ?_)
          obtain ⟨u', os, m, rfl, hlk, hm⟩ := ok
          cases hx
          have oko : OptsOk os := hF.2.ops (z, os) (look_mem hlk)
          have hlc : F.c.lookup z = some (optsD os) := by rw [look_c, hlk]; rfl
          have em := optN_of hlk oko hm
          refine ⟨_, rfl, _, rfl, _, rfl, a, _, _, .one (.ch z), F.c, F.r, rfl, hF.1, tv, .inr (.inr ⟨z, os, m, u', rfl, hlc, oko, hm, rfl, fun H1 S1 => ?_⟩)⟩
          have r := oko.rg _ hm
          exact ⟨optN F z u', by rw [em]; rfl, by omega, fun p H' S hp h => q p H' (fun b o e => S b o (S1 b o e)) (Same.free S1 hp) h⟩
end
end Fh

set_option Elab.async false
set_option linter.all false
set_option maxRecDepth 100000
set_option maxHeartbeats 4000000
namespace Fh
open PySem L2 PyProof.Rows
abbrev sDem : Stmt := top 65
abbrev sWho : Stmt := top 11
abbrev sBod : Stmt := top 66
abbrev sSig : Stmt := top 33
abbrev sSpp : Stmt := top 70
abbrev sSpf : Stmt := top 69
abbrev nDem : List Str := ["holds", "why"]
abbrev nWho : List Str := ["thing"]
abbrev nBod : List Str := ["thing", "number"]
abbrev nSig : List Str := ["code"]
abbrev nSpp : List Str := ["content", "at", "size", "begin"]
abbrev nSpf : List Str := ["content", "parts", "last", "at", "number", "mark", "inner"]
def tkOf (mg : Str → Option Value) (x : Str) : Tok := match mg x with
  | some (.int _ t) => t
  | some (.str _ t) => t
  | _ => 0
theorem tk_int {mg : Str → Option Value} {x : Str} {n : Int} (h : ∃ t, mg x = some (.int n t)) : mg x = some (.int n (tkOf mg x)) := by
  obtain ⟨t, e⟩ := h
  have z : tkOf mg x = t := by unfold tkOf; rw [e]
  rw [z]
  exact e
/-- the modules' names for numbers, and three built-in names -/
structure Wn (mg : Str → Option Value) : Prop where
  base : mg "BASE" = some (.int 256 (tkOf mg "BASE"))
  first_long_size : mg "FIRST_LONG_SIZE" = some (.int 200 (tkOf mg "FIRST_LONG_SIZE"))
  greatest_number : mg "GREATEST_NUMBER" = some (.int 30 (tkOf mg "GREATEST_NUMBER"))
  greatest_mark : mg "GREATEST_MARK" = some (.int 4 (tkOf mg "GREATEST_MARK"))
  deepest : mg "DEEPEST" = some (.int 80 (tkOf mg "DEEPEST"))
  longest_list : mg "LONGEST_LIST" = some (.int 6 (tkOf mg "LONGEST_LIST"))
  longest_text : mg "LONGEST_TEXT" = some (.int 20 (tkOf mg "LONGEST_TEXT"))
  greatest_whole : mg "GREATEST_WHOLE" = some (.int 1000000000 (tkOf mg "GREATEST_WHOLE"))
  greatest_body : mg "GREATEST_BODY" = some (.int 10000 (tkOf mg "GREATEST_BODY"))
  percent : mg "PERCENT" = some (.int 37 (tkOf mg "PERCENT"))
  first_code : mg "FIRST_CODE" = some (.int 32 (tkOf mg "FIRST_CODE"))
  ord : mg "ord" = none
  all : mg "all" = none
  bool : mg "bool" = none
def spDem : Sp := fun vs H Q _ => ∃ (b : Bool) (y : Str), vs = [.bl b, .str y] ∧ b = true ∧ Q .non H
def spWho : Sp := fun vs H Q _ => (∃ i : Int, vs = [.int i] ∧ Q (.bl true) H) ∨ (∃ b : Bool, vs = [.bl b] ∧ Q (.bl false) H)
def spBod : Sp := fun vs H Q _ => ∃ (c : Addr) (xs : List Int), vs = [.ref c] ∧ H c = some (.tup (xs.map V.int)) ∧ xs.length ≤ 10000 ∧ (∀ x ∈ xs, 0 ≤ x ∧ x < 256) ∧ ∀ H', Same H H' → Q (.bl true) H'
def spSig : Sp := fun vs H Q _ => ∃ (c : Nat), vs = [.int c] ∧ sgn c ∧ Q (.bl true) H
def spSpp : Sp := fun vs H Q _ => ∃ (c : Addr) (pre ce post : List Int) (i : Int), vs = [.ref c, .int i] ∧ i = pre.length ∧ H c = some (.tup ((pre ++ piece ce ++ post).map V.int)) ∧ (pre ++ piece ce ++ post).length ≤ 10000 ∧
  ∀ (t q : Addr) (H' : Hp), Same H H' → H' t = some (.tup [.ref q, .int ((pre.length + (piece ce).length : Nat) : Int)]) → H' q = some (.tup (ce.map V.int)) → Q (.ref t) H'
abbrev Pc := Int × Int × List Int
def pcs (p : Pc) : List Int := p.1 :: p.2.1 :: piece p.2.2
structure PcsOk (ps : List Pc) : Prop where
  rise : ps.Pairwise fun p q => p.1 < q.1
  rg : ∀ p ∈ ps, 1 ≤ p.1 ∧ p.1 ≤ 30
  mks : ∀ p ∈ ps, 1 ≤ p.2.1 ∧ p.2.1 ≤ 4
/-- a dict has these pieces -/
structure Pcd (H : Hp) (kvs : List (Key × V)) (ps : List Pc) : Prop where
  is : ∀ p ∈ ps, ∃ t q, valV kvs (Sum.inl p.1) = some (.ref t) ∧ H t = some (.tup [.int p.2.1, .ref q]) ∧ H q = some (.tup (p.2.2.map V.int))
  no : ∀ n : Int, n ∉ ps.map Prod.fst → valV kvs (Sum.inl n) = none
theorem Pcd.same {H H' : Hp} {kvs : List (Key × V)} {ps : List Pc} (h : Pcd H kvs ps) (s : Same H H') : Pcd H' kvs ps := ⟨fun p hp => by
  obtain ⟨t, q, h1, h2, h3⟩ := h.is p hp
  exact ⟨t, q, h1, s _ _ h2, s _ _ h3⟩, h.no⟩
def spSpf : Sp := fun vs H Q _ => ∃ (c : Addr) (ps : List Pc), vs = [.ref c] ∧ H c = some (.tup (((ps.map pcs).flatten).map V.int)) ∧ ((ps.map pcs).flatten).length ≤ 10000 ∧ PcsOk ps ∧
  ∀ (d : Addr) (kvs : List (Key × V)) (H' : Hp), Same H H' → H' d = some (.dK kvs) → Pcd H' kvs ps → Q (.ref d) H'
theorem hup {p a : Addr} {o u : HO} {H : Hp} (hp : H p = none) (e : H a = some u) : (upd H p o) a = some u := by rw [upd_ne (ne_of_none e hp)]; exact e
theorem ati {xs : List Int} {i : Nat} {x : Int} (h : xs[i]? = some x) : atI (xs.map V.int) (i : Int) = some (.int x) := by
  have hl := (List.getElem?_eq_some_iff.mp h).1
  obtain ⟨v, e, e2, _⟩ := atI_in (xs := xs.map V.int) (i := (i : Int)) (by omega) (by rw [List.length_map]; omega)
  rw [e]
  rw [List.getElem?_map] at e2
  have e3 : ((i : Int)).toNat = i := by omega
  rw [e3, h] at e2
  exact e2.symm
theorem cut_ints (xs : List Int) (lo hi : Nat) (h1 : lo ≤ hi) (h2 : hi ≤ xs.length) : cutV (xs.map V.int) (some (lo : Int)) (some (hi : Int)) = ((xs.drop lo).take (hi - lo)).map V.int := by
  have a := HT.sIx_nat (xs.map V.int).length 0 lo
  have b := HT.sIx_nat (xs.map V.int).length (xs.map V.int).length hi
  unfold cutV
  rw [a, b, List.length_map, Nat.min_eq_left h2, Nat.min_eq_left (Nat.le_trans h1 h2), List.map_take, List.map_drop]
section
variable {P : Program} {w : World} {K : PySem.W.Frag} {mg : Str → Option Value} {base : Heap}
theorem scDem : FnScope nDem ["holds", "why"] (defScope sDem) := ⟨rfl, rfl, rfl, by decide +kernel, rfl, by decide +kernel, by decide +kernel⟩
theorem scWho : FnScope nWho ["thing"] (defScope sWho) := ⟨rfl, rfl, rfl, by decide +kernel, rfl, by decide +kernel, by decide +kernel⟩
theorem scBod : FnScope nBod ["thing"] (defScope sBod) := ⟨rfl, rfl, rfl, by decide +kernel, rfl, by decide +kernel, by decide +kernel⟩
theorem scSig : FnScope nSig ["code"] (defScope sSig) := ⟨rfl, rfl, rfl, by decide +kernel, rfl, by decide +kernel, by decide +kernel⟩
theorem scSpp : FnScope nSpp ["content", "at"] (defScope sSpp) := ⟨rfl, rfl, rfl, by decide +kernel, rfl, by decide +kernel, by decide +kernel⟩
theorem scSpf : FnScope nSpf ["content"] (defScope sSpf) := ⟨rfl, rfl, rfl, by decide +kernel, rfl, by decide +kernel, by decide +kernel⟩
theorem ok_dem {f : Addr} {fd : FuncData} (F : Fun K "demand" "demand" sDem f fd) : FnOk P w K mg base CX0 1 f fd ["holds", "why"] spDem := by
  refine F.ok scDem (fun vs H Q E h => ?_) (fun cdv A outer s H vs Q E hr h => ?_)
  · obtain ⟨b, y, rfl, _⟩ := h
    rfl
  · obtain ⟨b, y, rfl, rfl, q⟩ := h
    refine ⟨_, (pss_one (ps_if (pt_not (pt_val (pv 0)))
      (pss_one ps_never)
      pss_nil)), ?_⟩
    exact ⟨_, rfl, true, rfl, iteF q⟩
theorem ok_who {f : Addr} {fd : FuncData} (F : Fun K "is_whole" "is_whole" sWho f fd) (G : Glb mg) (W : Wn mg) : FnOk P w K mg base CX0 1 f fd ["thing"] spWho := by
  refine F.ok scWho (fun vs H Q E h => ?_) (fun cdv A outer s H vs Q E hr h => ?_)
  · rcases h with ⟨i, rfl, _⟩ | ⟨b, rfl, _⟩ <;> rfl
  · refine ⟨_, (pss_one (ps_ret (pe_and (pe_callB call_isi (by rfl) G.isi (by decide +kernel) (pa_cons (pv 0) (pa_cons (pe_bltn (v := .ty "int") rfl G.int (by decide +kernel) rfl) pa_nil))) (pe_one (pe_not (pe_callB call_isi (by rfl) G.isi (by decide +kernel) (pa_cons (pv 0) (pa_cons (pe_bltn (v := .ty "bool") rfl W.bool (by decide +kernel) rfl) pa_nil)))))))), ?_⟩
    rcases h with ⟨i, rfl, q⟩ | ⟨b, rfl, q⟩
    · exact ⟨_, rfl, _, _, .type "int", .type "int", true, rfl, .ty _, .base (.int i), rfl, true, rfl, iteT ⟨_, rfl, _, _, .type "int", .type "bool", false, rfl, .ty _, .base (.int i), rfl, false, rfl, q⟩⟩
    · exact ⟨_, rfl, _, _, .type "bool", .type "int", true, rfl, .ty _, .base (.bl b), rfl, true, rfl, iteT ⟨_, rfl, _, _, .type "bool", .type "bool", true, rfl, .ty _, .base (.bl b), rfl, true, rfl, q⟩⟩
theorem ok_sig {f : Addr} {fd : FuncData} (F : Fun K "is_sign" "is_sign" sSig f fd) (W : Wn mg) : FnOk P w K mg base CX0 1 f fd ["code"] spSig := by
  refine F.ok scSig (fun vs H Q E h => ?_) (fun cdv A outer s H vs Q E hr h => ?_)
  · obtain ⟨c, rfl, _⟩ := h
    rfl
  · obtain ⟨c, rfl, ⟨c1, c2, c3⟩, q⟩ := h
    refine ⟨_, (pss_one (ps_ret (pe_and (pe_chain op_le op_le (pe_callB call_ord (by rfl) W.ord (by decide +kernel) (pa_cons pe_str pa_nil)) (pv 0) (pe_callB call_ord (by rfl) W.ord (by decide +kernel) (pa_cons pe_str pa_nil))) (pe_one (pe_cmpR op_ne (pv 0) (pe_glob (v := .int 37) rfl W.percent ⟨_, rfl⟩) (nomark _)))))), ?_⟩
    refine ⟨_, rfl, rfl, _, rfl, _, _, rfl, rfl, _, rfl, ?_⟩
    refine ite2 (fun _ => ?_) (fun h => absurd (decide_eq_true ?_) h)
    · refine ⟨_, rfl, rfl, _, _, rfl, rfl, _, rfl, ?_⟩
      refine ite2 (fun _ => ?_) (fun h => absurd (decide_eq_true ?_) h)
      · refine ⟨_, rfl, rfl, ?_⟩
        have e : (!decide (V.int (c : Int) = V.int 37)) = true := by
          rw [decide_eq_false (fun z => c3 (by injection z with z; omega))]
          rfl
        rw [e]
        exact q
      · show (c : Int) ≤ ((Str.ofString "~").cps.getD 0 0 : Nat)
        have z : (Str.ofString "~").cps.getD 0 0 = 126 := by decide +kernel
        rw [z]
        omega
    · show (((Str.ofString " ").cps.getD 0 0 : Nat) : Int) ≤ (c : Int)
      have z : (Str.ofString " ").cps.getD 0 0 = 32 := by decide +kernel
      rw [z]
      omega
theorem ok_bod {f : Addr} {fd : FuncData} (F : Fun K "is_body" "is_body" sBod f fd) (G : Glb mg) (W : Wn mg) (DW : Has P w K mg base "is_whole" 1 ["thing"] spWho) : FnOk P w K mg base CX0 2 f fd ["thing"] spBod := by
  refine F.ok scBod (fun vs H Q E h => ?_) (fun cdv A outer s H vs Q E hr h => ?_)
  · obtain ⟨c, xs, rfl, _⟩ := h
    rfl
  · obtain ⟨c, xs, rfl, hc, lx, rg, q⟩ := h
    refine ⟨_, (pss_one (ps_ret (pe_and (pe_callB call_isi (by rfl) G.isi (by decide +kernel) (pa_cons (pv 0) (pa_cons (pe_bltn (v := .ty "tuple") rfl G.tuple (by decide +kernel) rfl) pa_nil))) (pe_one (pe_callB (cr_all rfl) (by rfl) W.all (by decide +kernel) (pa_cons (pe_lc (own := [("number", 1)]) (g := (gName 1)) (tt := tYes) rfl scBod.nd (pi_tup (pv 0)) (blkOk_by (N := nBod) (sc := defScope sBod) (by decide +kernel)) (fun _ _ _ _ _ => (pg_name (i := 1) scBod.nd rfl (Or.inl rfl))) (fun _ _ _ _ _ => pts_nil) (fun _ _ _ _ _ => (pe_and (pe_has DW (hr.mono (by omega)) rfl (pa_cons (pv 1) pa_nil)) (pe_one (pe_chain op_le op_lt pe_int (pv 1) (pe_glob (v := .int 256) rfl W.base ⟨_, rfl⟩)))))) pa_nil)))))), ?_⟩
    refine ⟨_, rfl, _, _, .type "tuple", .type "tuple", true, rfl, .ty _, .base (.tup hc), rfl, true, rfl, iteT ?_⟩
    refine ⟨_, rfl, c, rfl, ⟨_, SqT.of hc⟩, fun D hD => ?_⟩
    refine lc_tup (xs := xs.map V.int) (fun i H3 => Same H H3 ∧ H3 D = some (.lst ((List.replicate i true).map V.bl))) ?_ ?_ ?_ ?_
    · exact ⟨Same.new hD, upd_same⟩
    · rintro i H3 _ ⟨S3, _⟩
      exact SqT.of (S3 _ _ hc)
    · rintro i x H3 hx ⟨S3, h3⟩
      rw [List.getElem?_map] at hx
      cases hxi : xs[i]? with
      | none => rw [hxi] at hx; cases hx
      | some y =>
        rw [hxi] at hx
        cases hx
        have hi := (List.getElem?_eq_some_iff.mp hxi).1
        obtain ⟨r0, r1⟩ := rg y (List.mem_of_getElem? hxi)
        refine ⟨rfl, yes (iteT ?_)⟩
        refine ⟨_, rfl, .inl ⟨y, rfl, true, rfl, iteT ?_⟩⟩
        refine ⟨_, rfl, _, _, rfl, rfl, _, rfl, ?_⟩
        refine ite2 (fun _ => ?_) (fun h => absurd (decide_eq_true r0) h)
        refine ⟨_, _, rfl, rfl, ?_⟩
        have e : (fun i j => V.bl (decide (i < j))) y (256 : Int) = V.bl true := congrArg V.bl (decide_eq_true r1)
        rw [e]
        refine ⟨_, h3, ?_, Same.wr S3 hD, ?_⟩
        · rw [List.length_map, List.length_replicate, sizeLine_eq]
          omega
        · rw [upd_same, List.replicate_succ', List.map_append]
          rfl
    · rintro H3 ⟨S3, h3⟩
      refine ⟨D, _, rfl, SqL.of h3, ?_⟩
      have e : ((List.replicate (xs.map V.int).length true).all id) = true := by
        rw [List.all_eq_true]
        intro b hb
        exact (List.eq_of_mem_replicate hb)
      rw [e]
      exact q H3 S3
theorem ok_spp {f : Addr} {fd : FuncData} (F : Fun K "split_part" "split_part" sSpp f fd) (G : Glb mg) (W : Wn mg) (DD : Has P w K mg base "demand" 1 ["holds", "why"] spDem) : FnOk P w K mg base CX0 2 f fd ["content", "at"] spSpp := by
  refine F.ok scSpp (fun vs H Q E h => ?_) (fun cdv A outer s H vs Q E hr h => ?_)
  · obtain ⟨c, pre, ce, post, i, rfl, _⟩ := h
    rfl
  · obtain ⟨c, pre, ce, post, i, rfl, rfl, hc, lx, q⟩ := h
    refine ⟨_, (pss_cons (ps_expr (pe_has DD (hr.mono (by omega)) rfl (pa_cons (pe_cmpR op_lt (pv 1) (pe_callB call_len_seq (by rfl) G.len (by decide +kernel) (pa_cons (pv 0) pa_nil)) (nomark _)) (pa_cons pe_str pa_nil))))
      (pss_cons (ps_set (i := 2) scSpp.nd rfl (Or.inl rfl) (pe_ix ix_tup (pv 0) (pv 1) (fun _ _ => rfl)))
      (pss_cons (ps_set (i := 3) scSpp.nd rfl (Or.inl rfl) (pe_op op_add (pv 1) pe_int))
      (C8.pss_cut (ps_if (pt_cmpR op_ge (pv 2) (pe_glob (v := .int 200) rfl W.first_long_size ⟨_, rfl⟩) (nomark _))
      (pss_cons (ps_expr (pe_has DD (hr.mono (by omega)) rfl (pa_cons (pe_cmpR op_lt (pv 3) (pe_callB call_len_seq (by rfl) G.len (by decide +kernel) (pa_cons (pv 0) pa_nil)) (nomark _)) (pa_cons pe_str pa_nil))))
      (pss_cons (ps_set (i := 2) scSpp.nd rfl (Or.inl rfl) (pe_op op_add (pe_op op_mul (pe_op op_sub (pv 2) (pe_glob (v := .int 200) rfl W.first_long_size ⟨_, rfl⟩)) (pe_glob (v := .int 256) rfl W.base ⟨_, rfl⟩)) (pe_ix ix_tup (pv 0) (pv 3) (fun _ _ => rfl))))
      (pss_cons (ps_expr (pe_has DD (hr.mono (by omega)) rfl (pa_cons (pe_cmpR op_ge (pv 2) (pe_glob (v := .int 200) rfl W.first_long_size ⟨_, rfl⟩) (nomark _)) (pa_cons pe_str pa_nil))))
      (pss_one (ps_aug (i := 3) scSpp.nd rfl (Or.inl rfl) pe_int ip_add)))))
      pss_nil)
      (pss_cons (ps_expr (pe_has DD (hr.mono (by omega)) rfl (pa_cons (pe_cmpR op_le (pe_op op_add (pv 3) (pv 2)) (pe_callB call_len_seq (by rfl) G.len (by decide +kernel) (pa_cons (pv 0) pa_nil)) (nomark _)) (pa_cons pe_str pa_nil))))
      (pss_one (ps_ret (pe_tup (pa_cons (pe_slice sl_tupA (pv 0) (po_some (pv 3)) (po_some (pe_op op_add (pv 3) (pv 2)))) (pa_cons (pe_op op_add (pv 3) (pv 2)) pa_nil)))))))))), ?_⟩
    generalize hxs : pre ++ piece ce ++ post = xs at *
    have lp : pre.length + (piece ce).length + post.length = xs.length := by rw [← hxs, List.length_append, List.length_append]
    have hp1 : 1 ≤ (piece ce).length := by
      unfold piece told
      rw [List.length_append]
      split
      · simp
      · simp; omega
    have hlen : ((xs.map V.int).length : Int) = xs.length := by rw [List.length_map]
    have look : ∀ j, j < (piece ce).length → xs[pre.length + j]? = (piece ce)[j]? := fun j hj => by
      rw [← hxs, List.append_assoc, List.getElem?_append_right (by omega), Nat.add_sub_cancel_left, List.getElem?_append_left hj]
    refine ⟨_, rfl, _, rfl, c, _, rfl, .inr (.inl (.inl hc)), _, _, rfl, rfl, _, _, rfl, decide_eq_true (by rw [hlen]; omega), ?_⟩
    have s0 := look 0 (by omega)
    rw [Nat.add_zero] at s0
    refine ⟨_, rfl, _, rfl, c, _, _, _, rfl, rfl, SqT.of hc, ati (s0.trans (List.getElem?_eq_getElem (by omega))), ?_⟩
    refine ⟨_, rfl, _, _, rfl, rfl, ?_⟩
    refine ⟨fun σ H' => H' = H ∧ ∃ bg : Nat, σ = [some (.ref c), some (.int pre.length), some (.int ce.length), some (.int bg)] ∧ 1 ≤ bg ∧ bg + ce.length = pre.length + (piece ce).length ∧ (xs.drop bg).take ce.length = ce, ?_, ?_⟩
    · by_cases hs : ce.length < 200
      · have ep : piece ce = (ce.length : Int) :: ce := by unfold piece told; rw [if_pos hs]; rfl
        have e0 : (piece ce)[0] = (ce.length : Int) := by simp [ep]
        rw [e0]
        refine ⟨_, rfl, _, _, rfl, rfl, _, rfl, ?_⟩
        refine ite2 (fun h => absurd (of_decide_eq_true h) (by omega)) (fun _ => ?_)
        refine ⟨rfl, pre.length + 1, rfl, by omega, by rw [ep, List.length_cons]; omega, ?_⟩
        rw [← hxs, ep, List.append_assoc, ← List.drop_drop, List.drop_left, List.cons_append, List.drop_succ_cons, List.drop_zero, List.take_left]
      · have ep : piece ce = [200 + (ce.length : Int) / 256, (ce.length : Int) % 256] ++ ce := by unfold piece told; rw [if_neg hs]
        have e0 : (piece ce)[0] = 200 + (ce.length : Int) / 256 := by simp [ep]
        have lpc : (piece ce).length = 2 + ce.length := by rw [ep, List.length_append]; rfl
        have s1 := look 1 (by omega)
        have s1' : xs[pre.length + 1]? = some ((ce.length : Int) % 256) := by rw [s1, ep]; rfl
        rw [e0]
        refine ⟨_, rfl, _, _, rfl, rfl, _, rfl, ?_⟩
        refine ite2 (fun _ => ?_) (fun h => absurd (decide_eq_true (by omega)) h)
        refine ⟨_, rfl, _, rfl, c, _, rfl, .inr (.inl (.inl hc)), _, _, rfl, rfl, _, _, rfl, decide_eq_true (by rw [hlen]; omega), ?_⟩
        have a1 : atI (xs.map V.int) ((pre.length : Int) + 1) = some (.int ((ce.length : Int) % 256)) := ati (i := pre.length + 1) s1'
        refine ⟨_, rfl, _, _, rfl, rfl, _, _, rfl, rfl, .inr ⟨by decide, by decide⟩, _, rfl, _, rfl, c, _, _, _, rfl, rfl, SqT.of hc, a1, _, _, rfl, rfl, ?_⟩
        have es : (200 + (ce.length : Int) / 256 - 200) * 256 + (ce.length : Int) % 256 = (ce.length : Int) := by omega
        show gName 2 (V.int ((200 + (ce.length : Int) / 256 - 200) * 256 + (ce.length : Int) % 256)) _ _ _
        rw [es]
        refine ⟨_, rfl, _, _, rfl, rfl, _, _, rfl, decide_eq_true (by omega), ?_⟩
        refine ⟨_, rfl, _, _, rfl, rfl, ?_⟩
        refine ⟨rfl, pre.length + 2, ?_, by omega, by omega, ?_⟩
        · show _ = [some (V.ref c), some (V.int pre.length), some (V.int ce.length), some (V.int ((pre.length + 2 : Nat) : Int))]
          have e2 : ((pre.length + 2 : Nat) : Int) = (pre.length : Int) + 1 + 1 := by omega
          rw [e2]
          rfl
        · rw [← hxs, ep, List.append_assoc, ← List.drop_drop, List.drop_left]
          show ((([200 + (ce.length : Int) / 256, (ce.length : Int) % 256] ++ ce) ++ post).drop 2).take _ = _
          rw [List.append_assoc]
          show (ce ++ post).take ce.length = ce
          rw [List.take_left]
    · rintro σ H' ⟨rfl, bg, rfl, b1, b2, b3⟩
      refine ⟨_, rfl, _, rfl, _, _, rfl, rfl, _, rfl, c, _, rfl, .inr (.inl (.inl hc)), _, _, rfl, rfl, _, _, rfl, decide_eq_true (by rw [hlen]; omega), ?_⟩
      have ec : cutV (xs.map V.int) (some (bg : Int)) (some ((bg : Int) + ce.length)) = ce.map V.int := by
        have z := cut_ints xs bg (bg + ce.length) (by omega) (by omega)
        rw [Nat.add_sub_cancel_left, b3] at z
        have e2 : ((bg + ce.length : Nat) : Int) = (bg : Int) + ce.length := by omega
        rw [e2] at z
        exact z
      refine ⟨_, rfl, _, rfl, _, rfl, _, rfl, _, rfl, _, _, rfl, rfl, _, rfl, c, _, rfl, SqT.of hc, fun h => ?_, fun _ q1 hq1 => ?_⟩
      · exfalso
        have z := HT.sIx_nat (xs.map V.int).length 0 bg
        rw [h.1, List.length_map] at z
        omega
      rw [ec]
      refine ⟨_, rfl, _, rfl, _, _, rfl, rfl, (by show 2 ≤ sizeLine; decide), fun t ht => ?_⟩
      have e3 : (bg : Int) + ce.length = ((pre.length + (piece ce).length : Nat) : Int) := by omega
      refine q t q1 _ (fun b o e => Same.new ht b o (Same.new hq1 b o e)) ?_ (hup ht upd_same)
      rw [upd_same, ← e3]
theorem rise_len : ∀ (l : List Pc) (lo : Int), lo ≤ 30 → l.Pairwise (fun p q => p.1 < q.1) → (∀ p ∈ l, lo < p.1 ∧ p.1 ≤ 30) → (l.length : Int) ≤ 30 - lo
  | [], lo, h, _, _ => by simp; omega
  | p :: r, lo, h, pw, rg => by
    obtain ⟨h1, h2⟩ := List.pairwise_cons.mp pw
    have hp := rg p List.mem_cons_self
    have ih := rise_len r p.1 hp.2 h2 fun q hq => ⟨h1 q hq, (rg q (List.mem_cons_of_mem _ hq)).2⟩
    rw [List.length_cons]
    omega
theorem pcs_len (p : Pc) : 3 ≤ (pcs p).length := by
  unfold pcs piece told
  rw [List.length_cons, List.length_cons, List.length_append]
  split
  · simp
  · simp
    omega
theorem ok_spf {f : Addr} {fd : FuncData} (F : Fun K "split_fields" "split_fields" sSpf f fd) (G : Glb mg) (W : Wn mg) (DD : Has P w K mg base "demand" 1 ["holds", "why"] spDem) (DP : Has P w K mg base "split_part" 2 ["content", "at"] spSpp) : FnOk P w K mg base CX0 3 f fd ["content"] spSpf := by
  refine F.ok scSpf (fun vs H Q E h => ?_) (fun cdv A outer s H vs Q E hr h => ?_)
  · obtain ⟨c, ps, rfl, _⟩ := h
    rfl
  · obtain ⟨c, ps, rfl, hc, lx, ok, q⟩ := h
    have hu := hu_of hr
    refine ⟨_, (pss_cons (ps_set (i := 1) scSpf.nd rfl (Or.inl rfl) pe_dnewK)
      (pss_cons (ps_set (i := 2) scSpf.nd rfl (Or.inl rfl) pe_int)
      (pss_cons (ps_set (i := 3) scSpf.nd rfl (Or.inl rfl) pe_int)
      (pss_cons (ps_while PassesOwn.never (pt_cmpR op_lt (pv 3) (pe_callB call_len_seq (by rfl) G.len (by decide +kernel) (pa_cons (pv 0) pa_nil)) (nomark _))
      (pss_cons (ps_expr (pe_has DD (hr.mono (by omega)) rfl (pa_cons (pe_cmpR op_lt (pe_op op_add (pv 3) pe_int) (pe_callB call_len_seq (by rfl) G.len (by decide +kernel) (pa_cons (pv 0) pa_nil)) (nomark _)) (pa_cons pe_str pa_nil))))
      (pss_cons (ps_par (i := 4) (j := 5) rfl scSpf.nd rfl rfl (by decide) rfl rfl (pa_cons (pe_ix ix_tup (pv 0) (pv 3) (fun _ _ => rfl)) (pa_cons (pe_ix ix_tup (pv 0) (pe_op op_add (pv 3) pe_int) (fun _ _ => rfl)) pa_nil)) (by rfl))
      (pss_cons (ps_expr (pe_has DD (hr.mono (by omega)) rfl (pa_cons (pe_chain op_lt op_le (pv 2) (pv 4) (pe_glob (v := .int 30) rfl W.greatest_number ⟨_, rfl⟩)) (pa_cons pe_str pa_nil))))
      (pss_cons (ps_expr (pe_has DD (hr.mono (by omega)) rfl (pa_cons (pe_chain op_le op_le pe_int (pv 5) (pe_glob (v := .int 4) rfl W.greatest_mark ⟨_, rfl⟩)) (pa_cons pe_str pa_nil))))
      (pss_cons (ps_asg (pe_has DP (hr.mono (by omega)) rfl (pa_cons (pv 0) (pa_cons (pe_op op_add (pv 3) pe_int) pa_nil))) (pg_tup rfl (pgs_cons (pg_name (i := 6) scSpf.nd rfl (Or.inl rfl)) (pgs_cons (pg_name (i := 3) scSpf.nd rfl (Or.inl rfl)) pgs_nil))))
      (pss_cons (ps_dput hu (pv 1) (pv 4) (pe_tup (pa_cons (pv 5) (pa_cons (pv 6) pa_nil))) rfl)
      (pss_one (ps_set (i := 2) scSpf.nd rfl (Or.inl rfl) (pv 4))))))))))
      (pss_one (ps_ret (pv 1))))))), ?_⟩
    intro d hd
    have S0 : Same H (upd H d (.dK [])) := Same.new hd
    have hlen : ((((ps.map pcs).flatten).map V.int).length : Int) = ((ps.map pcs).flatten).length := by rw [List.length_map]
    generalize hxs : (ps.map pcs).flatten = xs at *
    refine while_by (fun σ H3 => ∃ (i : Nat) (last : Int) (kvs : List (Key × V)), (∃ a4 a5 a6, σ = [some (.ref c), some (.ref d), some (.int last), some (.int (((ps.take i).map pcs).flatten.length : Nat)), a4, a5, a6]) ∧ i ≤ ps.length ∧ Same H H3 ∧ H3 d = some (.dK kvs) ∧ kvs.length ≤ i ∧ Pcd H3 kvs (ps.take i) ∧ (∀ p ∈ ps.drop i, last < p.1))
      (fun σ _ => match σ with | _ :: _ :: _ :: some (.int m) :: _ => xs.length - m.toNat | _ => 0) ?_ ?_ ?_
    · exact ⟨0, 0, [], ⟨_, _, _, rfl⟩, Nat.zero_le _, S0, upd_same, Nat.le_refl _, ⟨(fun p hp => by cases hp), (fun n _ => rfl)⟩, fun p hp => by have := (ok.rg p hp).1; omega⟩
    · rintro σ H3 ⟨i, last, kvs, ⟨a4, a5, a6, rfl⟩, hi, S3, hd3, lk, pd, hlast⟩
      refine ⟨_, rfl, _, rfl, c, _, rfl, .inr (.inl (.inl (S3 _ _ hc))), _, _, rfl, rfl, _, rfl, ?_⟩
      rw [hlen]
      by_cases hil : i < ps.length
      · have hp : ps[i]? = some ps[i] := List.getElem?_eq_getElem hil
        generalize ps[i] = p at hp
        have pm := List.mem_of_getElem? hp
        have split : xs = ((ps.take i).map pcs).flatten ++ pcs p ++ ((ps.drop (i + 1)).map pcs).flatten := by
          have z : ps = ps.take i ++ p :: ps.drop (i + 1) := by
            obtain ⟨h1, h2⟩ := List.getElem?_eq_some_iff.mp hp
            rw [← h2, ← List.drop_eq_getElem_cons h1, List.take_append_drop]
          rw [← hxs]
          conv => lhs; rw [z]
          rw [List.map_append, List.map_cons, List.flatten_append, List.flatten_cons, List.append_assoc]
        have next : ((ps.take (i + 1)).map pcs).flatten = ((ps.take i).map pcs).flatten ++ pcs p := by
          rw [List.take_add_one, hp, List.map_append, List.flatten_append]
          congr 1
          show ([p].map pcs).flatten = _
          rw [List.map_cons, List.map_nil, List.flatten_cons, List.flatten_nil, List.append_nil]
        generalize hpre : ((ps.take i).map pcs).flatten = pre at *
        generalize ((ps.drop (i + 1)).map pcs).flatten = post at split
        have lxs : pre.length + (pcs p).length + post.length = xs.length := by rw [split, List.length_append, List.length_append]
        have l3 := pcs_len p
        have look : ∀ j, j < (pcs p).length → xs[pre.length + j]? = (pcs p)[j]? := fun j hj => by
          rw [split, List.append_assoc, List.getElem?_append_right (by omega), Nat.add_sub_cancel_left, List.getElem?_append_left hj]
        have s0 : xs[pre.length]? = some p.1 := by have z := look 0 (by omega); rw [Nat.add_zero] at z; rw [z]; rfl
        have s1 : xs[pre.length + 1]? = some p.2.1 := by rw [look 1 (by omega)]; rfl
        refine ite2 (fun _ => ?_) (fun h => absurd (decide_eq_true (by omega)) h)
        have hc3 := S3 _ _ hc
        refine ⟨_, rfl, _, _, rfl, rfl, _, rfl, c, _, rfl, .inr (.inl (.inl hc3)), _, _, rfl, rfl, _, _, rfl, decide_eq_true (by rw [hlen]; omega), ?_⟩
        have a1 : atI (xs.map V.int) ((pre.length : Int) + 1) = some (.int p.2.1) := ati (i := pre.length + 1) s1
        refine ⟨_, rfl, _, rfl, c, _, _, _, rfl, rfl, SqT.of hc3, ati s0, _, rfl, _, rfl, _, _, rfl, rfl, c, _, _, _, rfl, rfl, SqT.of hc3, a1, _, _, rfl, ?_⟩
        have rg := ok.rg p pm
        have mk := ok.mks p pm
        have lst : last < p.1 := hlast p (by
          obtain ⟨h1, h2⟩ := List.getElem?_eq_some_iff.mp hp
          rw [List.drop_eq_getElem_cons h1, h2]
          exact List.mem_cons_self)
        refine ⟨_, rfl, _, rfl, _, _, rfl, rfl, _, rfl, ite2 (fun _ => ?_) (fun h => absurd (decide_eq_true lst) h)⟩
        refine ⟨_, _, rfl, rfl, _, _, rfl, decide_eq_true rg.2, ?_⟩
        refine ⟨_, rfl, _, _, rfl, rfl, _, rfl, ite2 (fun _ => ?_) (fun h => absurd (decide_eq_true mk.1) h)⟩
        refine ⟨_, _, rfl, rfl, _, _, rfl, decide_eq_true mk.2, ?_⟩
        have hc' : H3 c = some (.tup (((pre ++ [p.1, p.2.1]) ++ piece p.2.2 ++ post).map V.int)) := by
          rw [hc3, split]
          unfold pcs
          simp
        have lx' : ((pre ++ [p.1, p.2.1]) ++ piece p.2.2 ++ post).length ≤ 10000 := by
          have z : ((pre ++ [p.1, p.2.1]) ++ piece p.2.2 ++ post) = xs := by
            rw [split]
            unfold pcs
            simp
          rw [z]
          exact lx
        have le2 : (pre ++ [p.1, p.2.1]).length = pre.length + 2 := by rw [List.length_append]; rfl
        refine ⟨_, rfl, _, rfl, _, _, rfl, rfl, c, pre ++ [p.1, p.2.1], p.2.2, post, _, rfl, by rw [le2]; omega, hc', lx', fun t q1 H4 S4 ht hq1 => ?_⟩
        refine ⟨t, _, rfl, SqT.of ht, rfl, _, _, rfl, _, _, rfl, rfl, ?_⟩
        refine ⟨_, rfl, _, rfl, (by show 2 ≤ sizeLine; decide), fun t2 ht2 => ?_⟩
        have S5 : Same H4 (upd H4 t2 (.tup [.int p.2.1, .ref q1])) := Same.new ht2
        have x5 : (upd H4 t2 (.tup [.int p.2.1, .ref q1])) t2 = some (.tup [.int p.2.1, .ref q1]) := upd_same
        generalize upd H4 t2 (.tup [.int p.2.1, .ref q1]) = H5 at *
        have S35 : Same H3 H5 := fun b o e => S5 b o (S4 b o e)
        have hd5 := S35 _ _ hd3
        have p30 : ps.length ≤ 30 := by
          have z := rise_len ps 0 (by decide) ok.rise fun p hp => ⟨by have := (ok.rg p hp).1; omega, (ok.rg p hp).2⟩
          omega
        refine ⟨_, rfl, _, rfl, d, _, rfl, DPut.k (k := Sum.inl p.1) hd5 (Nat.lt_of_le_of_lt lk (Nat.lt_of_lt_of_le (show i < 30 by omega) (by decide))), ?_⟩
        refine ⟨_, rfl, ?_⟩
        have parted : ∀ p' ∈ ps.take i, p'.1 < p.1 := fun p' hp' => by
          have z : ps = ps.take i ++ ps.drop i := (List.take_append_drop i ps).symm
          have pw := ok.rise
          rw [z, List.pairwise_append] at pw
          refine pw.2.2 p' hp' p ?_
          obtain ⟨h1, h2⟩ := List.getElem?_eq_some_iff.mp hp
          rw [List.drop_eq_getElem_cons h1, h2]
          exact List.mem_cons_self
        have eta : ps.take (i + 1) = ps.take i ++ [p] := by rw [List.take_add_one, hp]; rfl
        have enx : ((ps.take (i + 1)).map pcs).flatten.length = (pre ++ [p.1, p.2.1]).length + (piece p.2.2).length := by
          rw [next, List.length_append, le2]
          unfold pcs
          rw [List.length_cons, List.length_cons]
          omega
        have keepd : ∀ {b : Addr} {us : List V}, H5 b = some (.tup us) → (upd H5 d (.dK (putK kvs (Sum.inl p.1) (.ref t2)))) b = some (.tup us) := fun {b us} e => by
          rw [upd_ne (fun z => by rw [z, hd5] at e; cases e)]
          exact e
        refine ⟨⟨i + 1, p.1, putK kvs (Sum.inl p.1) (.ref t2), ⟨_, _, _, by rw [enx]; rfl⟩, hil, Same.wr (fun b o e => S35 b o (S3 b o e)) hd, upd_same, Nat.le_trans (length_putK _ _ _) (Nat.succ_le_succ lk), ⟨?_, ?_⟩, ?_⟩, ?_⟩
        · intro p' hp'
          rw [eta] at hp'
          rcases List.mem_append.mp hp' with h | h
          · obtain ⟨t', q', w1, w2, w3⟩ := pd.is p' h
            refine ⟨t', q', ?_, keepd (S35 _ _ w2), keepd (S35 _ _ w3)⟩
            rw [valV_put, if_neg (fun e => by have := parted p' h; have := Sum.inl.inj e; omega)]
            exact w1
          · rw [List.mem_singleton.mp h]
            exact ⟨t2, q1, by rw [valV_put, if_pos rfl], keepd x5, keepd (S5 _ _ hq1)⟩
        · intro m hm
          rw [eta, List.map_append, List.mem_append, not_or] at hm
          rw [valV_put, if_neg (fun e => hm.2 (by rw [Sum.inl.inj e]; exact List.mem_singleton.mpr rfl))]
          exact pd.no m hm.1
        · intro p' hp'
          have pw := ok.rise
          have z : ps = ps.take i ++ p :: ps.drop (i + 1) := by
            obtain ⟨h1, h2⟩ := List.getElem?_eq_some_iff.mp hp
            rw [← h2, ← List.drop_eq_getElem_cons h1, List.take_append_drop]
          rw [z, List.pairwise_append] at pw
          exact (List.pairwise_cons.mp pw.2.1).1 p' hp'
        · show xs.length - ((((pre ++ [p.1, p.2.1]).length + (piece p.2.2).length : Nat) : Int)).toNat < xs.length - (((pre.length : Nat) : Int)).toNat
          have lpp : (pcs p).length = 2 + (piece p.2.2).length := by unfold pcs; rw [List.length_cons, List.length_cons]; omega
          rw [le2]
          omega
      · have ei : i = ps.length := by omega
        subst ei
        rw [List.take_length] at pd ⊢
        rw [hxs]
        refine ite2 (fun h => absurd (of_decide_eq_true h) (by omega)) (fun _ => ?_)
        exact ⟨_, rfl, q d kvs H3 S3 hd3 pd⟩
    · rintro σ H Q Q' m ⟨v, e1, x, e2, c, ys, e3, e4, i, j, ea, eb, cc, ec, q⟩
      exact ⟨v, e1, x, e2, c, ys, e3, e4, i, j, ea, eb, cc, ec, m _ _ q⟩
end
end Fh

set_option Elab.async false
set_option linter.all false
set_option maxRecDepth 100000
set_option maxHeartbeats 4000000
namespace Fh
open PySem L2 PyProof.Rows
abbrev sRtx : Stmt := top 72
abbrev sRnu : Stmt := top 73
abbrev sRnd : Stmt := top 74
abbrev nRtx : List Str := ["content", "code"]
abbrev nRnu : List Str := ["content", "number", "digit"]
abbrev nRnd : List Str := ["face", "kind", "number", "words", "option", "word"]
def spRtx : Sp := fun vs H Q _ => ∃ (c : Addr) (z : Str), vs = [.ref c] ∧ H c = some (.tup ((z.cps.toList.map (fun c : Nat => (c : Int))).map V.int)) ∧ z.length ≤ 20 ∧ (∀ c ∈ z.cps.toList, sgn c) ∧ ∀ H', Same H H' → Q (.str z) H'
def spRnu : Sp := fun vs H Q _ => ∃ (c : Addr) (n : Nat), vs = [.ref c] ∧ H c = some (.tup ((digs n).map V.int)) ∧ n ≤ 1000000000 ∧ ∀ H', Same H H' → Q (.int n) H'
def spRnd (C : Addr) : Sp := fun vs H Q _ => ∃ (a : Addr) (v : V) (k : Kn) (m : Nat) (F : Fc), vs = [.ref a, v, .int m] ∧ FaceF C H a F ∧ Tp H v k.d ∧
  ((k = .one .whole ∧ Q (.int m) H) ∨ (k = .one .truth ∧ ∃ b : Bool, m = (if b = true then 1 else 0) ∧ Q (.bl b) H) ∨ ∃ z os u, k = .one (.ch z) ∧ F.cs.lookup z = some os ∧ ((m : Int), u) ∈ os ∧ Sh 0 (.str z) ∧ ∀ H', Same H H' → Q (.str u) H')
def SG : Str := " !\"#$ &'()*+,-./0123456789:;<=>?@ABCDEFGHIJKLMNOPQRSTUVWXYZ[\\]^_`abcdefghijklmnopqrstuvwxyz{|}~"
structure Wg (mg : Str → Option Value) : Prop where
  signs : mg "SIGNS" = some (.str SG (tkOf mg "SIGNS"))
theorem sg_all : ((List.range 95).all fun i => decide (i = 5) || (SG.cps.toList[i]? == some (i + 32))) = true := by decide +kernel
theorem sg_len : SG.length = 95 := by decide +kernel
theorem sg_at {c : Nat} (h : sgn c) : atI SG.cps.toList ((c : Int) - 32) = some c := by
  obtain ⟨h1, h2, h3⟩ := h
  have z := List.all_eq_true.mp sg_all (c - 32) (List.mem_range.mpr (by omega))
  rw [decide_eq_false (by omega), Bool.false_or, beq_iff_eq, Nat.sub_add_cancel h1] at z
  have hl := (List.getElem?_eq_some_iff.mp z).1
  obtain ⟨v, e, e2, _⟩ := atI_in (xs := SG.cps.toList) (i := (c : Int) - 32) (by omega) (by omega)
  have e3 : ((c : Int) - 32).toNat = c - 32 := by omega
  rw [e3, z] at e2
  rw [e]
  exact e2.symm
theorem join_back (z : Str) : Txt.join "" (z.cps.toList.map one) = z := by
  have e : (Txt.join "" (z.cps.toList.map one)).cps.toList = z.cps.toList := by
    show (Builtin.Str.glued "" (z.cps.toList.map one)).cps.toList = _
    rw [StrLaws.glued_eq_join]
    exact tl_ones z.cps.toList _ rfl
  have e2 := Array.toList_inj.mp e
  cases h : Txt.join "" (z.cps.toList.map one)
  cases z
  rw [h] at e2
  exact congrArg Str.mk e2
def val (ds : List Int) : Int := ds.foldl (fun a d => a * 256 + d) 0
theorem val_snoc (ds : List Int) (d : Int) : val (ds ++ [d]) = val ds * 256 + d := by unfold val; rw [List.foldl_append]; rfl
theorem val_dg : ∀ (f n : Nat), n < 256 ^ f → val (dg f n) = n
  | 0, n, h => by
    rw [Nat.pow_zero] at h
    have : n = 0 := by omega
    subst this
    rfl
  | f + 1, n, h => by
    by_cases h0 : n = 0
    · subst h0
      rw [dg_zero]
      rfl
    · rw [dg_pos (by omega), val_snoc, val_dg f (n / 256) (by rw [Nat.pow_succ] at h; exact Nat.div_lt_of_lt_mul (by rw [Nat.mul_comm]; exact h))]
      omega
theorem dg_first : ∀ (f n : Nat), n < 256 ^ f → ∀ x, (dg f n).head? = some x → x ≠ 0
  | 0, _, _, _, e => by cases e
  | f + 1, n, h, x, e => by
    by_cases h0 : n = 0
    · subst h0
      rw [dg_zero] at e
      cases e
    · rw [dg_pos (by omega)] at e
      have h' : n / 256 < 256 ^ f := by rw [Nat.pow_succ] at h; exact Nat.div_lt_of_lt_mul (by rw [Nat.mul_comm]; exact h)
      cases hd : dg f (n / 256) with
      | nil =>
        rw [hd] at e
        cases e
        by_cases h1 : n / 256 = 0
        · omega
        · exfalso
          have z := val_dg f (n / 256) h'
          rw [hd] at z
          have z2 : (0 : Int) = ((n / 256 : Nat) : Int) := z
          omega
      | cons y r =>
        rw [hd] at e
        exact dg_first f (n / 256) h' x (by rw [hd]; exact e)
theorem dp_ints {K : PySem.W.Frag} {H : Hp} : ∀ xs : List Int, DpAll K H (xs.map V.int) (xs.map .int)
  | [] => .nil
  | x :: xs => .cons (.int x) (dp_ints xs)
theorem Sh.kd {k : Kn} (h : ∀ z, k.nm = some z → Sh 0 (.str z)) : Sh 2 k.d := by
  have plain : ∀ z : Str, Sh 0 (.str z) → ∀ w : Str, Sh 0 (.str w) → Sh 1 (.tuple [.str w, .str z]) := fun z hz w hw => Sh.tup fun d hd => by
    rcases List.mem_cons.mp hd with e | hd
    · rw [e]; exact hw
    · rw [List.mem_singleton.mp hd]; exact hz
  have one : ∀ b : Kb, (∀ z, b.nm = some z → Sh 0 (.str z)) → Sh 1 b.d := fun b hb => by
    cases b with
    | whole => exact ⟨by decide +kernel, Nat.zero_le _⟩
    | truth => exact ⟨by decide +kernel, Nat.zero_le _⟩
    | text => exact ⟨by decide +kernel, Nat.zero_le _⟩
    | rc z => exact plain z (hb z rfl) "record" ⟨by decide +kernel, Nat.le_refl _⟩
    | ch z => exact plain z (hb z rfl) "choice" ⟨by decide +kernel, Nat.le_refl _⟩
  cases k with
  | one b => exact (one b h).mono (by decide)
  | lst b =>
    refine Sh.tup fun d hd => ?_
    rcases List.mem_cons.mp hd with e | hd
    · rw [e]; exact ⟨by decide +kernel, Nat.zero_le _⟩
    · rw [List.mem_singleton.mp hd]; exact one b h
theorem nodup_fst {α β : Type} : ∀ {l : List (α × β)}, (l.map Prod.fst).Nodup → ∀ {p q : α × β}, p ∈ l → q ∈ l → p.1 = q.1 → p = q
  | [], _, _, _, h, _, _ => by cases h
  | x :: l, nd, p, q, hp, hq, e => by
    rw [List.map_cons, List.nodup_cons] at nd
    rcases List.mem_cons.mp hp with e1 | hp2
    · rcases List.mem_cons.mp hq with e2 | hq2
      · rw [e1, e2]
      · exact absurd (List.mem_map.mpr ⟨q, hq2, by rw [← e, e1]⟩) nd.1
    · rcases List.mem_cons.mp hq with e2 | hq2
      · exact absurd (List.mem_map.mpr ⟨p, hp2, by rw [e, e2]⟩) nd.1
      · exact nodup_fst nd.2 hp2 hq2 e
theorem dg_len : ∀ f n, (dg f n).length ≤ f
  | 0, _ => Nat.le_refl _
  | f + 1, n => by
    show (if n = 0 then [] else dg f (n / 256) ++ [((n % 256 : Nat) : Int)]).length ≤ _
    split
    · exact Nat.zero_le _
    · rw [List.length_append]
      exact Nat.succ_le_succ (dg_len f _)
theorem cut1 (ds : List Int) : cutV (ds.map V.int) none (some 1) = (ds.take 1).map V.int := by
  have b := HT.sIx_nat (ds.map V.int).length (ds.map V.int).length 1
  unfold cutV
  rw [HT.sIx_none, show (some (1 : Int)) = some ((1 : Nat) : Int) from rfl, b, List.length_map, List.drop_zero, Nat.sub_zero, List.map_take]
  cases ds with
  | nil => rfl
  | cons x r => rw [List.length_cons, Nat.min_eq_left (by omega)]
theorem whole1 {ds : List Int} (h : HT.sIx (ds.map V.int).length (ds.map V.int).length (some 1) = (ds.map V.int).length) : ds.take 1 = ds := by
  have b := HT.sIx_nat (ds.map V.int).length (ds.map V.int).length 1
  rw [show (some (1 : Int)) = some ((1 : Nat) : Int) from rfl, b, List.length_map] at h
  exact List.take_of_length_le (by omega)
section
variable {P : Program} {w : World} {K : PySem.W.Frag} {mg : Str → Option Value} {base : Heap}
theorem scRtx : FnScope nRtx ["content"] (defScope sRtx) := ⟨rfl, rfl, rfl, by decide +kernel, rfl, by decide +kernel, by decide +kernel⟩
theorem scRnu : FnScope nRnu ["content"] (defScope sRnu) := ⟨rfl, rfl, rfl, by decide +kernel, rfl, by decide +kernel, by decide +kernel⟩
theorem scRnd : FnScope nRnd ["face", "kind", "number"] (defScope sRnd) := ⟨rfl, rfl, rfl, by decide +kernel, rfl, by decide +kernel, by decide +kernel⟩
theorem ok_rtx {f : Addr} {fd : FuncData} (F : Fun K "read_text" "read_text" sRtx f fd) (G : Glb mg) (W0 : Wn mg) (W1 : Wg mg) (DD : Has P w K mg base "demand" 1 ["holds", "why"] spDem) (DS : Has P w K mg base "is_sign" 1 ["code"] spSig) : FnOk P w K mg base CX0 2 f fd ["content"] spRtx := by
  have W := W0
  refine F.ok scRtx (fun vs H Q E h => ?_) (fun cdv A outer s H vs Q E hr h => ?_)
  · obtain ⟨c, z, rfl, _⟩ := h
    rfl
  · obtain ⟨c, z, rfl, hc, lz, sz, q⟩ := h
    refine ⟨_, (pss_cons (ps_expr (pe_has DD (hr.mono (by omega)) rfl (pa_cons (pe_cmpR op_le (pe_callB call_len_seq (by rfl) G.len (by decide +kernel) (pa_cons (pv 0) pa_nil)) (pe_glob (v := .int 20) rfl W.longest_text ⟨_, rfl⟩) (nomark _)) (pa_cons pe_str pa_nil))))
      (pss_cons (ps_expr (pe_has DD (hr.mono (by omega)) rfl (pa_cons (pe_callB (cr_all rfl) (by rfl) W.all (by decide +kernel) (pa_cons (pe_lc (own := [("code", 1)]) (g := (gName 1)) (tt := tYes) rfl scRtx.nd (pi_tup (pv 0)) (blkOk_by (N := nRtx) (sc := defScope sRtx) (by decide +kernel)) (fun _ _ _ _ _ => (pg_name (i := 1) scRtx.nd rfl (Or.inl rfl))) (fun _ _ _ _ _ => pts_nil) (fun _ _ _ _ _ => (pe_has DS (hr.mono (by omega)) rfl (pa_cons (pv 1) pa_nil)))) pa_nil)) (pa_cons pe_str pa_nil))))
      (pss_one (ps_ret (pe_join pe_str (pe_lc (own := [("code", 1)]) (g := (gName 1)) (tt := tYes) rfl scRtx.nd (pi_tup (pv 0)) (blkOk_by (N := nRtx) (sc := defScope sRtx) (by decide +kernel)) (fun _ _ _ _ _ => (pg_name (i := 1) scRtx.nd rfl (Or.inl rfl))) (fun _ _ _ _ _ => pts_nil) (fun _ _ _ _ _ => (pe_ix ix_str (pe_glob (v := .str SG) rfl W1.signs ⟨_, rfl⟩) (pe_op op_sub (pv 1) (pe_glob (v := .int 32) rfl W.first_code ⟨_, rfl⟩)) (fun _ _ => rfl))))))))), ?_⟩
    have hsz : z.cps.toList.length = z.cps.size := Array.length_toList
    have hz : z.cps.size ≤ 20 := lz
    generalize hcs : z.cps.toList = cs at *
    have lc : ((cs.map (fun c : Nat => (c : Int))).map V.int).length = cs.length := by rw [List.length_map, List.length_map]
    refine ⟨_, rfl, c, _, rfl, .inr (.inl (.inl hc)), _, _, rfl, rfl, _, _, rfl, decide_eq_true (by rw [lc]; omega), ?_⟩
    have el : ∀ (j : Nat) (y : V), ((cs.map (fun c : Nat => (c : Int))).map V.int)[j]? = some y → ∃ ch, cs[j]? = some ch ∧ y = .int (ch : Nat) := fun j y hy => by
      rw [List.getElem?_map, List.getElem?_map] at hy
      cases hq : cs[j]? with
      | none => rw [hq] at hy; cases hy
      | some ch => rw [hq] at hy; exact ⟨ch, rfl, by cases hy; rfl⟩
    refine ⟨_, rfl, c, rfl, ⟨_, SqT.of hc⟩, fun D hD => ?_⟩
    refine lc_tup (xs := (cs.map (fun c : Nat => (c : Int))).map V.int) (fun i H3 => Same H H3 ∧ H3 D = some (.lst ((List.replicate i true).map V.bl))) ?_ ?_ ?_ ?_
    · exact ⟨Same.new hD, upd_same⟩
    · rintro i H3 _ ⟨S3, _⟩
      exact SqT.of (S3 _ _ hc)
    · rintro i x H3 hx ⟨S3, h3⟩
      obtain ⟨ch, hch, rfl⟩ := el i x hx
      have hi := (List.getElem?_eq_some_iff.mp hch).1
      refine ⟨rfl, yes (iteT ?_)⟩
      refine ⟨_, rfl, ch, rfl, sz ch (List.mem_of_getElem? hch), ?_⟩
      refine ⟨_, h3, ?_, Same.wr S3 hD, ?_⟩
      · rw [List.length_map, List.length_replicate, sizeLine_eq]
        omega
      · rw [upd_same, List.replicate_succ', List.map_append]
        rfl
    · rintro H3 ⟨S3, h3⟩
      refine ⟨D, _, rfl, SqL.of h3, _, _, rfl, ?_, ?_⟩
      · rw [List.all_eq_true]
        intro b hb
        exact (List.eq_of_mem_replicate hb)
      refine ⟨⟨_, rfl⟩, _, rfl, c, rfl, ⟨_, SqT.of (S3 _ _ hc)⟩, fun D2 hD2 => ?_⟩
      refine lc_tup (xs := (cs.map (fun c : Nat => (c : Int))).map V.int) (fun i H4 => Same H3 H4 ∧ H4 D2 = some (.lst (((cs.take i).map one).map V.str))) ?_ ?_ ?_ ?_
      · exact ⟨Same.new hD2, upd_same⟩
      · rintro i H4 _ ⟨S4, _⟩
        exact SqT.of (S4 _ _ (S3 _ _ hc))
      · rintro i x H4 hx ⟨S4, h4⟩
        obtain ⟨ch, hch, rfl⟩ := el i x hx
        have hi := (List.getElem?_eq_some_iff.mp hch).1
        refine ⟨rfl, yes (iteT ?_)⟩
        refine ⟨_, rfl, _, _, rfl, rfl, _, _, ch, rfl, rfl, by rw [sg_len]; decide, sg_at (sz ch (List.mem_of_getElem? hch)), ?_⟩
        refine ⟨_, h4, ?_, Same.wr S4 hD2, ?_⟩
        · rw [List.length_map, List.length_map, List.length_take, sizeLine_eq]
          omega
        · rw [upd_same, List.take_add_one, hch, List.map_append, List.map_append]
          rfl
      · rintro H4 ⟨S4, h4⟩
        rw [lc, List.take_length] at h4
        refine ⟨_, _, _, rfl, rfl, .inl (SqL.of h4), ?_, ?_⟩
        · rw [len_ones, List.length_map]
          show _ + _ * 0 ≤ _
          omega
        · rw [← hcs, join_back]
          exact q H4 (fun b o e => S4 b o (S3 b o e))
theorem ok_rnu {f : Addr} {fd : FuncData} (F : Fun K "read_number" "read_number" sRnu f fd) (W : Wn mg) (DD : Has P w K mg base "demand" 1 ["holds", "why"] spDem) : FnOk P w K mg base CX0 2 f fd ["content"] spRnu := by
  refine F.ok scRnu (fun vs H Q E h => ?_) (fun cdv A outer s H vs Q E hr h => ?_)
  · obtain ⟨c, n, rfl, _⟩ := h
    rfl
  · obtain ⟨c, n, rfl, hc, hn, q⟩ := h
    refine ⟨_, (pss_cons (ps_expr (pe_has DD (hr.mono (by omega)) rfl (pa_cons (pe_cmpR (op_neD hr.units) (pe_mid (pe_slice sl_tupA (pv 0) po_none (po_some pe_int))) (pe_tup (pa_cons pe_int pa_nil)) (nomark _)) (pa_cons pe_str pa_nil))))
      (pss_cons (ps_set (i := 1) scRnu.nd rfl (Or.inl rfl) pe_int)
      (pss_cons (ps_for PassesOwn.never rfl (pi_tup (pv 0)) (pg_name (i := 2) scRnu.nd rfl (Or.inl rfl))
      (pss_one (ps_set (i := 1) scRnu.nd rfl (Or.inl rfl) (pe_op op_add (pe_op op_mul (pv 1) (pe_glob (v := .int 256) rfl W.base ⟨_, rfl⟩)) (pv 2)))))
      (pss_cons (ps_expr (pe_has DD (hr.mono (by omega)) rfl (pa_cons (pe_cmpR op_le (pv 1) (pe_glob (v := .int 1000000000) rfl W.greatest_whole ⟨_, rfl⟩) (nomark _)) (pa_cons pe_str pa_nil))))
      (pss_one (ps_ret (pv 1))))))), ?_⟩
    have nv : val (digs n) = n := val_dg 6 n (by omega)
    have nf : ∀ x, (digs n).head? = some x → x ≠ 0 := dg_first 6 n (by omega)
    generalize hds : digs n = ds at *
    have lds : ds.length ≤ 6 := by rw [← hds]; exact dg_len 6 n
    refine ⟨fun v H1 => ∃ p, v = .ref p ∧ Same H H1 ∧ H1 p = some (.tup ((ds.take 1).map V.int)), ?_, ?_⟩
    · refine ⟨_, rfl, _, rfl, c, _, rfl, SqT.of hc, fun h => ?_, fun _ p hp => ?_⟩
      · exact ⟨c, rfl, Same.refl H, by rw [whole1 h.2]; exact hc⟩
      · exact ⟨p, rfl, Same.new hp, by rw [upd_same, cut1]⟩
    · rintro v H1 ⟨p, rfl, S1, hp⟩
      refine ⟨(by show 1 ≤ sizeLine; decide), fun t ht => ?_⟩
      have S2 : Same H1 (upd H1 t (.tup [.int 0])) := Same.new ht
      refine ⟨.tuple ((ds.take 1).map .int), .tuple [.int 0], .tup (SqT.of (S2 _ _ hp)) (dp_ints _), .tup (SqT.of upd_same) (.cons (.int 0) .nil), (Sh.tup (n := 0) fun d hd => ?_).shaped (by decide), (Sh.tup (n := 0) fun d hd => ?_).shaped (by decide), _, _, rfl, ?_, ?_⟩
      · obtain ⟨i, _, rfl⟩ := List.mem_map.mp hd
        exact Sh.int i
      · rw [List.mem_singleton.mp hd]
        exact Sh.int 0
      · cases ds with
        | nil => rfl
        | cons x r =>
          have hx := nf x rfl
          show (!((x == 0) && true)) = true
          rw [beq_eq_false_iff_ne.mpr hx]
          rfl
      · have S02 : Same H (upd H1 t (.tup [.int 0])) := fun b o e => S2 b o (S1 b o e)
        generalize upd H1 t (.tup [.int 0]) = H2 at *
        refine ⟨_, rfl, c, rfl, ⟨_, SqT.of (S02 _ _ hc)⟩, ?_⟩
        refine for_tup (xs := ds.map V.int) (fun i σ H3 => H3 = H2 ∧ ∃ a2, σ = [some (.ref c), some (.int (val (ds.take i))), a2]) ?_ ?_ ?_ ?_
        · exact ⟨rfl, _, rfl⟩
        · rintro i σ H3 _ ⟨rfl, _⟩
          exact SqT.of (S02 _ _ hc)
        · rintro i x σ H3 hx ⟨rfl, a2, rfl⟩
          rw [List.getElem?_map] at hx
          cases hq : ds[i]? with
          | none => rw [hq] at hx; cases hx
          | some d =>
            rw [hq] at hx
            cases hx
            refine ⟨_, rfl, _, _, rfl, rfl, .inr ⟨by decide, by decide⟩, _, rfl, _, _, rfl, rfl, rfl, some (.int d), ?_⟩
            rw [List.take_add_one, hq]
            show _ = [_, some (V.int (val (ds.take i ++ [d]))), _]
            rw [val_snoc]
            rfl
        · rintro σ H3 ⟨rfl, a2, rfl⟩
          rw [List.length_map, List.take_length, nv]
          refine ⟨_, rfl, _, _, rfl, rfl, _, _, rfl, decide_eq_true (by omega), ?_⟩
          exact ⟨_, rfl, q _ S02⟩
theorem ok_rnd {C f : Addr} {fd : FuncData} (F : Fun K "read_numbered" "read_numbered" sRnd f fd) (W : Wn mg) (DD : Has P w K mg base "demand" 1 ["holds", "why"] spDem) (DO : HasM P w K mg base C "options_of" 1 ["self", "choice"] (spOptions C)) : FnOk P w K mg base CX0 2 f fd ["face", "kind", "number"] (spRnd C) := by
  refine F.ok scRnd (fun vs H Q E h => ?_) (fun cdv A outer s H vs Q E hr h => ?_)
  · obtain ⟨a, v, k, m, F, rfl, _⟩ := h
    rfl
  · obtain ⟨a, v, k, m, F, rfl, hF, tv, hh⟩ := h
    have hu := hu_of hr
    refine ⟨_, (pss_cons (ps_if (pt_cmpR (op_eqD hr.units) (pv 1) pe_str (nomark _))
      (pss_one (ps_ret (pv 2)))
      pss_nil)
      (pss_cons (ps_if (pt_cmpR (op_eqD hr.units) (pv 1) pe_str (nomark _))
      (pss_cons (ps_expr (pe_has DD (hr.mono (by omega)) rfl (pa_cons (pe_cmpR op_le (pv 2) pe_int (nomark _)) (pa_cons pe_str pa_nil))))
      (pss_one (ps_ret (pe_cmpR op_eq (pv 2) pe_int (nomark _)))))
      pss_nil)
      (pss_cons (ps_setDc (i := 3) (own := [("option", 4), ("word", 5)]) (g := (gTup K 2 (gCons (gName 4) (gCons (gName 5) gNil)))) (tt := tYes) (tk := tVar 4) (tv := tVar 5) rfl scRnd.nd rfl rfl (sw_dict rfl rfl rfl (by decide +kernel)) (pi_tup (pe_hasM DO (hr.mono (by omega)) (pv 0) (pa_cons (pe_ix ix_tup (pv 1) pe_int (fun _ _ => rfl)) pa_nil))) (blkOk_by (N := nRnd) (sc := defScope sRnd) (by decide +kernel)) (fun _ _ _ _ _ => (pg_tup rfl (pgs_cons (pg_name (i := 4) scRnd.nd rfl (Or.inl rfl)) (pgs_cons (pg_name (i := 5) scRnd.nd rfl (Or.inl rfl)) pgs_nil)))) (fun _ _ _ _ _ => pts_nil) (fun _ _ _ _ _ => (pv 4)) (fun _ _ _ _ _ => (pv 5)))
      (pss_cons (ps_expr (pe_has DD (hr.mono (by omega)) rfl (pa_cons (pe_cmp (pc_din hu (pv 2) (pv 3)) rfl) (pa_cons pe_str pa_nil))))
      (pss_one (ps_ret (pe_dget hu (pv 3) (pv 2) (fun _ _ => rfl)))))))), ?_⟩
    have shw : ∀ z : Str, Sh 0 (.str z) → SeqAt.shaped (.str z) = true := fun z h => h.shaped (by decide)
    rcases hh with ⟨rfl, q⟩ | ⟨rfl, b, rfl, q⟩ | ⟨z, os, u, rfl, hl, hm, shz, q⟩
    · refine ⟨_, rfl, _, _, Tp.dp _ _ tv, .str _, (Sh.kd (k := .one .whole) (fun z h => by cases h)).shaped (by decide), shw _ ⟨by decide +kernel, Nat.le_refl _⟩, _, rfl, ?_⟩
      exact ite2 (fun _ => ⟨_, rfl, q⟩) (fun h => absurd (by decide +kernel) h)
    · refine ⟨_, rfl, _, _, Tp.dp _ _ tv, .str _, (Sh.kd (k := .one .truth) (fun z h => by cases h)).shaped (by decide), shw _ ⟨by decide +kernel, Nat.le_refl _⟩, _, rfl, ?_⟩
      refine ite2 (fun h => absurd h (by decide +kernel)) (fun _ => ?_)
      refine ⟨_, rfl, _, _, Tp.dp _ _ tv, .str _, (Sh.kd (k := .one .truth) (fun z h => by cases h)).shaped (by decide), shw _ ⟨by decide +kernel, Nat.le_refl _⟩, _, rfl, ?_⟩
      refine ite2 (fun _ => ?_) (fun h => absurd (by decide +kernel) h)
      cases b with
      | true =>
        refine ⟨_, rfl, _, _, rfl, rfl, _, _, rfl, decide_eq_true (by decide), ?_⟩
        refine ⟨_, rfl, rfl, ?_⟩
        have e : decide (V.int ((if true = true then 1 else 0 : Nat) : Int) = V.int 1) = true := decide_eq_true rfl
        rw [e]
        exact q
      | false =>
        refine ⟨_, rfl, _, _, rfl, rfl, _, _, rfl, decide_eq_true (by decide), ?_⟩
        refine ⟨_, rfl, rfl, ?_⟩
        have e : decide (V.int ((if false = true then 1 else 0 : Nat) : Int) = V.int 1) = false := decide_eq_false (by intro z; injection z with z; revert z; decide)
        rw [e]
        exact q
    · have shk := (Sh.kd (k := .one (.ch z)) (fun y h => by cases h; exact shz)).shaped (by decide)
      refine ⟨_, rfl, _, _, Tp.dp _ _ tv, .str _, shk, shw _ ⟨by decide +kernel, Nat.le_refl _⟩, _, rfl, ?_⟩
      refine ite2 (fun h => absurd h (by show ¬ false = true; decide)) (fun _ => ?_)
      refine ⟨_, rfl, _, _, Tp.dp _ _ tv, .str _, shk, shw _ ⟨by decide +kernel, Nat.le_refl _⟩, _, rfl, ?_⟩
      refine ite2 (fun h => absurd h (by show ¬ false = true; decide)) (fun _ => ?_)
      have hlc : F.c.lookup z = some (optsD os) := by rw [look_c, hl]; rfl
      have oko : OptsOk os := hF.2.ops (z, os) (look_mem hl)
      obtain ⟨b, x, y, rfl, hb, hx, hy⟩ := Tp.pair tv
      cases hy.istr
      obtain ⟨dx, v1, v2, v3, v4, v5, hA, t3, t4⟩ := id hF.1
      refine ⟨_, rfl, a, dx, _, rfl, hA, ff_options, _, rfl, b, _, _, _, rfl, rfl, SqT.of hb, rfl, a, z, F.c, F.r, _, rfl, hF.1, hlc, fun ov to => ?_⟩
      obtain ⟨c, xs, rfl, hc, tq⟩ := Tp.inv to
      have lo : xs.length = os.length := by rw [tq.length, List.length_map]
      refine ⟨c, rfl, ⟨_, SqT.of hc⟩, fun D hD => ?_⟩
      refine dc_tup (xs := xs) (fun i H3 => Same H H3 ∧ ∃ kvs, H3 D = some (.dK kvs) ∧ kvs.length ≤ i ∧ ∀ o ∈ os.take i, valV kvs (Sum.inl o.1) = some (.str o.2)) ?_ ?_ ?_ ?_
      · exact ⟨Same.new hD, [], upd_same, Nat.le_refl _, fun o h => by cases h⟩
      · rintro i H3 _ ⟨S3, _⟩
        exact SqT.of (S3 _ _ hc)
      · rintro i w' H3 hw ⟨S3, kvs, h3, lk, al⟩
        obtain ⟨o, t, ho, rfl, ht⟩ := opts_at tq hw
        have hi := (List.getElem?_eq_some_iff.mp ho).1
        refine ⟨t, _, rfl, SqT.of (S3 _ _ ht), rfl, _, _, rfl, _, _, rfl, rfl, rfl, yes (iteT ?_)⟩
        refine ⟨_, rfl, _, rfl, kvs, Sum.inl o.1, rfl, h3, ?_, Same.wr S3 hD, _, upd_same, Nat.le_trans (length_putK _ _ _) (Nat.succ_le_succ lk), ?_⟩
        · rw [sizeLine_eq]
          have := oko.len
          omega
        · intro o' ho'
          rw [List.take_add_one, ho] at ho'
          rw [valV_put]
          by_cases e : (Sum.inl o'.1 : Key) = Sum.inl o.1
          · have eo : o' = o := nodup_fst (hF.2.on (z, os) (look_mem hl)) (List.mem_of_mem_take (i := i + 1) (by rw [List.take_add_one, ho]; exact ho')) (List.mem_of_getElem? ho) (Sum.inl.inj e)
            rw [if_pos e, eo]
          · rw [if_neg e]
            rcases List.mem_append.mp ho' with h | h
            · exact al o' h
            · exact absurd (by rw [List.mem_singleton.mp h]) e
      · rintro H3 ⟨S3, kvs, h3, lk, al⟩
        rw [lo, List.take_length] at al
        have hv := al (m, u) hm
        have hg : DGet H3 D (.int m) (some (.str u)) := by
          have z1 := DGet.k (k := Sum.inl (m : Int)) h3
          rw [hv] at z1
          exact z1
        refine ⟨_, rfl, _, rfl, D, _, rfl, hg, _, _, rfl, rfl, ?_⟩
        exact ⟨_, rfl, _, rfl, D, _, rfl, hg, q H3 S3⟩
end
end Fh

set_option Elab.async false
set_option linter.all false
set_option maxRecDepth 100000
set_option maxHeartbeats 4000000
namespace Fh
open PySem L2 PyProof.Rows
abbrev sRcn : Stmt := top 67
abbrev sRre : Stmt := top 68
abbrev sRli : Stmt := top 71
abbrev sRea : Stmt := top 64
abbrev nRcn : List Str := ["face", "kind", "content", "depth", "word"]
abbrev nRre : List Str := ["face", "record", "content", "depth", "parts", "value", "number", "name", "kind", "need", "mark", "inner"]
abbrev nRli : List Str := ["face", "kind", "content", "depth", "values", "at", "inner"]
abbrev nRea : List Str := ["face", "record", "body"]
/-- what is new in a heap -/
def Nw (H H' : Hp) : Hp := fun a => match H a with
  | some _ => none
  | none => H' a
def er (H : Hp) (d : Addr) : Hp := fun a => if a = d then none else H a
theorem nw_at {H H' : Hp} {a : Addr} {o : HO} (h : H a = none) (e : H' a = some o) : Nw H H' a = some o := by unfold Nw; rw [h]; exact e
theorem nw_inv {H H' : Hp} {a : Addr} {o : HO} (e : Nw H H' a = some o) : H a = none ∧ H' a = some o := by
  unfold Nw at e
  cases h : H a with
  | none => rw [h] at e; exact ⟨rfl, e⟩
  | some _ => rw [h] at e; cases e
theorem nw_same {H H' : Hp} : Same (Nw H H') H' := fun a o e => (nw_inv e).2
theorem er_in {H : Hp} {d a : Addr} {o : HO} (e : er H d a = some o) : H a = some o := by
  unfold er at e
  split at e
  · cases e
  · exact e
theorem er_ne {H : Hp} {d a : Addr} {o : HO} (e : er H d a = some o) : a ≠ d := fun z => by
  unfold er at e
  rw [if_pos z] at e
  cases e
theorem er_at {H : Hp} {d a : Addr} {o : HO} (n : a ≠ d) (e : H a = some o) : er H d a = some o := by unfold er; rw [if_neg n]; exact e
theorem er_step {H H3 H4 H5 : Hp} {d : Addr} (hd : H d = none) (S4 : Same H3 H4) (up5 : ∀ {b : Addr} {o : HO}, b ≠ d → H4 b = some o → H5 b = some o) : Same (er (Nw H H3) d) (er (Nw H H5) d) := fun a o e => by
  have n := er_ne e
  obtain ⟨h1, h2⟩ := nw_inv (er_in e)
  exact er_at n (nw_at h1 (up5 n (S4 _ _ h2)))
theorem er_new {H H3 H4 H5 : Hp} {d : Addr} {u : HO} (S03 : Same H H3) (hv : H3 d = some u) (up5 : ∀ {b : Addr} {o : HO}, b ≠ d → H4 b = some o → H5 b = some o) : Same (Nw H3 H4) (er (Nw H H5) d) := fun a o e => by
  obtain ⟨h1, h2⟩ := nw_inv e
  have n : a ≠ d := fun z => by rw [z, hv] at h1; cases h1
  exact er_at n (nw_at (Same.free S03 h1) (up5 n h2))
def spRre (C : Addr) (n : Nat) : Sp := fun vs H Q _ => ∃ (a c : Addr) (z : Str) (dp : Int) (u : Vl) (F : Fc), vs = [.ref a, .str z, .ref c, .int dp] ∧ FaceF C H a F ∧ H c = some (.tup ((enc F n (.one (.rc z)) u).map V.int)) ∧ Ok F n (.one (.rc z)) u ∧ (enc F n (.one (.rc z)) u).length ≤ 10000 ∧ dp + n ≤ 81 ∧
  ∀ (x : V) (H' : Hp), Same H H' → VD (Nw H H') x (nrm F n (.one (.rc z)) u) → Q x H'
def spRli (C : Addr) (n : Nat) : Sp := fun vs H Q _ => ∃ (a c : Addr) (v : V) (b : Kb) (dp : Int) (u : Vl) (F : Fc), vs = [.ref a, v, .ref c, .int dp] ∧ FaceF C H a F ∧ Tp H v b.d ∧ H c = some (.tup ((enc F n (.lst b) u).map V.int)) ∧ Ok F n (.lst b) u ∧ (enc F n (.lst b) u).length ≤ 10000 ∧ dp + n ≤ 81 ∧
  ∀ (x : V) (H' : Hp), Same H H' → VD (Nw H H') x (nrm F n (.lst b) u) → Q x H'
def spRcn (C : Addr) (n : Nat) : Sp := fun vs H Q _ => ∃ (a c : Addr) (v : V) (k : Kn) (dp : Int) (u : Vl) (F : Fc), vs = [.ref a, v, .ref c, .int dp] ∧ FaceF C H a F ∧ Tp H v k.d ∧ H c = some (.tup ((enc F n k u).map V.int)) ∧ Ok F n k u ∧ (enc F n k u).length ≤ 10000 ∧ dp + n ≤ 80 ∧
  ∀ (x : V) (H' : Hp), Same H H' → VD (Nw H H') x (nrm F n k u) → Q x H'
def spRea (C : Addr) (n : Nat) : Sp := fun vs H Q _ => ∃ (a c : Addr) (z : Str) (u : Vl) (F : Fc), vs = [.ref a, .str z, .ref c] ∧ FaceF C H a F ∧ H c = some (.tup ((enc F n (.one (.rc z)) u).map V.int)) ∧ Ok F n (.one (.rc z)) u ∧ (enc F n (.one (.rc z)) u).length ≤ 10000 ∧ (∀ x ∈ enc F n (.one (.rc z)) u, 0 ≤ x ∧ x < 256) ∧ n ≤ 80 ∧
  ∀ (x : V) (H' : Hp), Same H H' → VD (Nw H H') x (nrm F n (.one (.rc z)) u) → Q x H'
def psOf (F : Fc) (n : Nat) (fs : List (Str × Vl)) (fl : List Fl) : List Pc := fl.filterMap fun g => (fs.lookup g.nam).map fun v => (g.num, g.kd.mark, enc F n g.kd v)
theorem ps_flat (F : Fc) (n : Nat) (fs : List (Str × Vl)) : ∀ fl : List Fl, ((psOf F n fs fl).map pcs).flatten = (fl.map (fpiece (enc F n) fs)).flatten
  | [] => rfl
  | g :: fl => by
    unfold psOf
    rw [List.filterMap_cons]
    have ih := ps_flat F n fs fl
    unfold psOf at ih
    cases h : fs.lookup g.nam with
    | none =>
      show ((fl.filterMap _).map pcs).flatten = _
      rw [ih, List.map_cons, List.flatten_cons]
      have e : fpiece (enc F n) fs g = [] := by unfold fpiece; rw [h]
      rw [e, List.nil_append]
    | some v =>
      show (((g.num, g.kd.mark, enc F n g.kd v) :: fl.filterMap _).map pcs).flatten = _
      rw [List.map_cons, List.flatten_cons, ih, List.map_cons, List.flatten_cons]
      have e : fpiece (enc F n) fs g = pcs (g.num, g.kd.mark, enc F n g.kd v) := by unfold fpiece; rw [h]; rfl
      rw [e]
theorem mark_rg (k : Kn) : 1 ≤ k.mark ∧ k.mark ≤ 4 := by
  cases k with
  | lst b => exact ⟨(by show (1 : Int) ≤ 3; decide), (by show (3 : Int) ≤ 4; decide)⟩
  | one b =>
    cases b with
    | whole => exact ⟨by decide, by decide⟩
    | truth => exact ⟨by decide, by decide⟩
    | text => exact ⟨by decide, by decide⟩
    | rc z => exact ⟨(by show (1 : Int) ≤ 4; decide), (by show (4 : Int) ≤ 4; decide)⟩
    | ch z => exact ⟨(by show (1 : Int) ≤ 1; decide), (by show (1 : Int) ≤ 4; decide)⟩
theorem ps_ok {F : Fc} {n : Nat} {fs : List (Str × Vl)} {fl : List Fl} (h1 : fl.Pairwise fun f g => f.num < g.num) (h2 : ∀ f ∈ fl, 1 ≤ f.num ∧ f.num ≤ 30) : PcsOk (psOf F n fs fl) := by
  have of : ∀ p ∈ psOf F n fs fl, ∃ g ∈ fl, p.1 = g.num ∧ p.2.1 = g.kd.mark := fun p hp => by
    obtain ⟨g, hg, e⟩ := List.mem_filterMap.mp hp
    cases hl : fs.lookup g.nam with
    | none => rw [hl] at e; cases e
    | some v => rw [hl] at e; cases e; exact ⟨g, hg, rfl, rfl⟩
  refine ⟨?_, fun p hp => ?_, fun p hp => ?_⟩
  · unfold psOf
    refine List.Pairwise.filterMap _ (fun a b hab p hp q hq => ?_) h1
    cases ha : fs.lookup a.nam with
    | none => rw [ha] at hp; cases hp
    | some v =>
      rw [ha] at hp
      cases hb : fs.lookup b.nam with
      | none => rw [hb] at hq; cases hq
      | some w => rw [hb] at hq; cases hp; cases hq; exact hab
  · obtain ⟨g, hg, e, _⟩ := of p hp
    rw [e]
    exact h2 g hg
  · obtain ⟨g, hg, _, e⟩ := of p hp
    rw [e]
    exact mark_rg g.kd
theorem num_inj : ∀ {fl : List Fl}, fl.Pairwise (fun f g => f.num < g.num) → ∀ {f g : Fl}, f ∈ fl → g ∈ fl → f.num = g.num → f = g
  | [], _, _, _, h, _, _ => by cases h
  | x :: fl, pw, f, g, hf, hg, e => by
    obtain ⟨h1, h2⟩ := List.pairwise_cons.mp pw
    rcases List.mem_cons.mp hf with e1 | hf2
    · rcases List.mem_cons.mp hg with e2 | hg2
      · rw [e1, e2]
      · have := h1 g hg2
        rw [e1] at e
        omega
    · rcases List.mem_cons.mp hg with e2 | hg2
      · have := h1 f hf2
        rw [e2] at e
        omega
      · exact num_inj h2 hf2 hg2 e
def pres (F : Fc) (n : Nat) (fs : List (Str × Vl)) (fl : List Fl) : List (Str × Vl) := fl.filterMap fun g => (fs.lookup g.nam).map fun w => (g.nam, nrm F n g.kd w)
theorem pres_sub {F : Fc} {n : Nat} {fs : List (Str × Vl)} {fl : List Fl} {z : Str} (h : z ∈ (pres F n fs fl).map Prod.fst) : z ∈ fl.map (·.nam) := by
  obtain ⟨p, hp, rfl⟩ := List.mem_map.mp h
  obtain ⟨g, hg, e⟩ := List.mem_filterMap.mp hp
  cases hl : fs.lookup g.nam with
  | none => rw [hl] at e; cases e
  | some v => rw [hl] at e; cases e; exact List.mem_map.mpr ⟨g, hg, rfl⟩
theorem pres_len {F : Fc} {n : Nat} {fs : List (Str × Vl)} (fl : List Fl) : (pres F n fs fl).length ≤ fl.length := by unfold pres; exact List.length_filterMap_le _ _
section
variable {P : Program} {w : World} {K : PySem.W.Frag} {mg : Str → Option Value} {base : Heap}
theorem scRcn : FnScope nRcn ["face", "kind", "content", "depth"] (defScope sRcn) := ⟨rfl, rfl, rfl, by decide +kernel, rfl, by decide +kernel, by decide +kernel⟩
theorem scRre : FnScope nRre ["face", "record", "content", "depth"] (defScope sRre) := ⟨rfl, rfl, rfl, by decide +kernel, rfl, by decide +kernel, by decide +kernel⟩
theorem scRli : FnScope nRli ["face", "kind", "content", "depth"] (defScope sRli) := ⟨rfl, rfl, rfl, by decide +kernel, rfl, by decide +kernel, by decide +kernel⟩
theorem scRea : FnScope nRea ["face", "record", "body"] (defScope sRea) := ⟨rfl, rfl, rfl, by decide +kernel, rfl, by decide +kernel, by decide +kernel⟩
theorem ok_rre {C f : Addr} {fd : FuncData} {l n : Nat} (hl : 3 ≤ l) (F : Fun K "read_record" "read_record" sRre f fd) (W : Wn mg) (DD : Has P w K mg base "demand" 1 ["holds", "why"] spDem) (DP : Has P w K mg base "split_fields" 3 ["content"] spSpf) (DM : Has P w K mg base "mark_of" 2 ["kind"] spMark)
    (DC : Has P w K mg base "read_content" l ["face", "kind", "content", "depth"] (spRcn C n)) (DF : HasM P w K mg base C "fields_of" 1 ["self", "record"] (spFields C)) : FnOk P w K mg base CX0 (l + 1) f fd ["face", "record", "content", "depth"] (spRre C (n + 1)) := by
  refine F.ok scRre (fun vs H Q E h => ?_) (fun cdv A outer s H vs Q E hr h => ?_)
  · obtain ⟨a, c, z, dp, u, F, rfl, _⟩ := h
    rfl
  · obtain ⟨a, c, z, dp, u, F, rfl, hF, hc, ok, le, hdp, q⟩ := h
    have hu := hu_of hr
    refine ⟨_, (pss_cons (ps_expr (pe_has DD (hr.mono (by omega)) rfl (pa_cons (pe_cmpR op_le (pv 3) (pe_glob (v := .int 80) rfl W.deepest ⟨_, rfl⟩) (nomark _)) (pa_cons pe_str pa_nil))))
      (pss_cons (ps_set (i := 4) scRre.nd rfl (Or.inl rfl) (pe_has DP (hr.mono (by omega)) rfl (pa_cons (pv 2) pa_nil)))
      (pss_cons (ps_set (i := 5) scRre.nd rfl (Or.inl rfl) pe_dnewK)
      (pss_cons (ps_for PassesOwn.never rfl (pi_tup (pe_hasM DF (hr.mono (by omega)) (pv 0) (pa_cons (pv 1) pa_nil))) (pg_tup rfl (pgs_cons (pg_name (i := 6) scRre.nd rfl (Or.inl rfl)) (pgs_cons (pg_name (i := 7) scRre.nd rfl (Or.inl rfl)) (pgs_cons (pg_name (i := 8) scRre.nd rfl (Or.inl rfl)) (pgs_cons (pg_name (i := 9) scRre.nd rfl (Or.inl rfl)) pgs_nil)))))
      (pss_one (ps_if (pt_cmp (pc_din hu (pv 6) (pv 4)))
      (pss_cons (ps_asg (pe_dget hu (pv 4) (pv 6) (fun _ _ => rfl)) (pg_tup rfl (pgs_cons (pg_name (i := 10) scRre.nd rfl (Or.inl rfl)) (pgs_cons (pg_name (i := 11) scRre.nd rfl (Or.inl rfl)) pgs_nil))))
      (pss_cons (ps_expr (pe_has DD (hr.mono (by omega)) rfl (pa_cons (pe_cmpR op_eq (pv 10) (pe_has DM (hr.mono (by omega)) rfl (pa_cons (pv 8) pa_nil)) (nomark _)) (pa_cons pe_str pa_nil))))
      (pss_one (ps_dput hu (pv 5) (pv 7) (pe_has DC hr rfl (pa_cons (pv 0) (pa_cons (pv 8) (pa_cons (pv 11) (pa_cons (pv 3) pa_nil))))) rfl))))
      (pss_one (ps_expr (pe_has DD (hr.mono (by omega)) rfl (pa_cons (pe_cmpR op_eq (pv 9) pe_str (nomark _)) (pa_cons pe_str pa_nil))))))))
      (pss_one (ps_ret (pv 5))))))), ?_⟩
    obtain ⟨fl, fs, rfl, hl2, nd, inn, ok', must⟩ := ok
    have ef : flds F z = fl := by unfold flds; rw [hl2]; rfl
    have ee : enc F (n + 1) (.one (.rc z)) (.rcd fs) = ((psOf F n fs fl).map pcs).flatten := by
      show ((flds F z).map (fpiece (enc F n) fs)).flatten = _
      rw [ef, ps_flat]
    have en : nrm F (n + 1) (.one (.rc z)) (.rcd fs) = .rcd (pres F n fs fl) := by
      show Vl.rcd ((flds F z).filterMap _) = _
      rw [ef]
      rfl
    rw [ee] at le hc
    rw [en] at q
    have rm := look_mem hl2
    have rise := hF.2.rise (z, fl) rm
    have nums := hF.2.nums (z, fl) rm
    have lf : fl.length ≤ 10 := hF.2.lf (z, fl) rm
    have nf := hF.2.nf (z, fl) rm
    have pok : PcsOk (psOf F n fs fl) := ps_ok rise nums
    refine ⟨_, rfl, _, _, rfl, rfl, _, _, rfl, decide_eq_true (by push_cast at hdp; omega), ?_⟩
    refine ⟨_, rfl, c, psOf F n fs fl, rfl, hc, le, pok, fun d kvs H1 S1 hd1 pd => ?_⟩
    intro dv hdv
    have S2 : Same H1 (upd H1 dv (.dK [])) := Same.new hdv
    have hdvH : H dv = none := Same.free S1 hdv
    have pd2 := pd.same S2
    have hd2 := S2 _ _ hd1
    have S02 : Same H (upd H1 dv (.dK [])) := fun b o e => S2 b o (S1 b o e)
    have x2 : (upd H1 dv (.dK [])) dv = some (.dK []) := upd_same
    generalize upd H1 dv (.dK []) = H2 at *
    have hfR := hF.1
    obtain ⟨dx, v1, v2, v3, v4, v5, hA, t3, t4⟩ := id hfR
    have hlr : F.r.lookup z = some (fieldsD fl) := by rw [look_r, hl2]; rfl
    refine ⟨_, rfl, a, dx, _, rfl, S02 _ _ hA, ff_meth (by decide +kernel) (by decide +kernel) (by decide +kernel) (by decide +kernel) (by decide +kernel), _, rfl, a, z, F.c, F.r, _, rfl, hfR.same S02, hlr, fun ov tv => ?_⟩
    obtain ⟨cf, ys, rfl, hcf, tys⟩ := Tp.inv tv
    have ly : ys.length = fl.length := by rw [tys.length, List.length_map]
    refine ⟨cf, rfl, ⟨_, SqT.of hcf⟩, ?_⟩
    have ndd : dv ≠ d := ne_of_none hd1 hdv |>.symm
    refine for_tup (xs := ys) (fun i σ H3 => ∃ kv2, (∃ a6 a7 a8 a9 a10 a11, σ = [some (.ref a), some (.str z), some (.ref c), some (.int dp), some (.ref d), some (.ref dv), a6, a7, a8, a9, a10, a11]) ∧ Same H1 H3 ∧ Tk H2 H3 ∧ H3 dv = some (.dK kv2) ∧ kv2.map Prod.fst = (pres F n fs (fl.take i)).map (fun f => Sum.inr f.1) ∧ VDs (er (Nw H H3) dv) (kv2.map Prod.snd) ((pres F n fs (fl.take i)).map Prod.snd)) ?_ ?_ ?_ ?_
    · exact ⟨[], ⟨_, _, _, _, _, _, rfl⟩, S2, Tk.refl, x2, rfl, .nil⟩
    · rintro i σ H3 _ ⟨kv2, _, S3, tk3, _⟩
      exact SqT.of (tk3 _ _ hcf)
    · rintro i y σ H3 hy ⟨kv2, ⟨a6, a7, a8, a9, a10, a11, rfl⟩, S3, tk3, hv3, ek, vs3⟩
      obtain ⟨g, t2, u2, hg, rfl, ht2, tu2⟩ := flds_at (fs := fl) tys hy
      have gm := List.mem_of_getElem? hg
      have hi := (List.getElem?_eq_some_iff.mp hg).1
      have S03 : Same H H3 := fun b o e => S3 b o (S1 b o e)
      have et : fl.take (i + 1) = fl.take i ++ [g] := by rw [List.take_add_one, hg]; rfl
      have next : pres F n fs (fl.take (i + 1)) = pres F n fs (fl.take i) ++ pres F n fs [g] := by
        rw [et]
        unfold pres
        rw [List.filterMap_append]
      refine ⟨t2, _, rfl, SqT.of (tk3 _ _ ht2), rfl, _, _, rfl, _, _, rfl, _, _, rfl, _, _, rfl, rfl, ?_⟩
      have hd3 := S3 _ _ hd1
      refine ⟨_, rfl, _, rfl, d, _, rfl, DGet.k (k := Sum.inl g.num) hd3, _, rfl, ?_⟩
      cases hlk : fs.lookup g.nam with
      | none =>
        have nov : valV kvs (Sum.inl g.num) = none := pd.no g.num fun hm => by
          obtain ⟨p, hp, ep⟩ := List.mem_map.mp hm
          obtain ⟨g', hg', e'⟩ := List.mem_filterMap.mp hp
          cases hl' : fs.lookup g'.nam with
          | none => rw [hl'] at e'; cases e'
          | some v =>
            rw [hl'] at e'
            cases e'
            have := num_inj rise hg' gm ep
            rw [this, hlk] at hl'
            cases hl'
        rw [nov]
        refine iteF ?_
        have mf : g.must = false := by
          cases hm : g.must with
          | false => rfl
          | true =>
            obtain ⟨w', hw⟩ := must g gm hm
            rw [hlk] at hw
            cases hw
        refine ⟨_, rfl, rfl, _, _, rfl, ?_, ?_⟩
        · rw [need_may, mf]
          rfl
        · have e0 : pres F n fs [g] = [] := by unfold pres; rw [List.filterMap_cons]; simp [hlk]
          exact ⟨kv2, ⟨_, _, _, _, _, _, rfl⟩, S3, tk3, hv3, by rw [next, e0, List.append_nil]; exact ek, by rw [next, e0, List.append_nil]; exact vs3⟩
      | some v =>
        have pin : (g.num, g.kd.mark, enc F n g.kd v) ∈ psOf F n fs fl := List.mem_filterMap.mpr ⟨g, gm, by rw [hlk]; rfl⟩
        obtain ⟨t, q1, w1, w2, w3⟩ := pd.is _ pin
        have hgk : DGet H3 d (.int g.num) (some (.ref t)) := by
          have z1 := DGet.k (k := Sum.inl g.num) hd3
          rw [w1] at z1
          exact z1
        rw [w1]
        refine iteT ?_
        refine ⟨_, rfl, _, rfl, d, _, rfl, hgk, t, _, rfl, SqT.of (S3 _ _ w2), rfl, _, _, rfl, _, _, rfl, rfl, ?_⟩
        have tk' := Tp.keep tk3 _ _ tu2
        refine ⟨_, rfl, _, rfl, u2, g.kd, rfl, tk', rfl, _, _, rfl, decide_eq_true rfl, ?_⟩
        have e0 : pres F n fs [g] = [(g.nam, nrm F n g.kd v)] := by unfold pres; rw [List.filterMap_cons]; simp [hlk]
        have lee : (enc F n g.kd v).length ≤ 10000 := by
          refine Nat.le_trans ?_ le
          refine Nat.le_trans (piece_le _) (Nat.le_trans ?_ (flat_le (List.mem_map.mpr ⟨_, pin, rfl⟩)))
          show (piece (enc F n g.kd v)).length ≤ (piece (enc F n g.kd v)).length + 1 + 1
          omega
        refine ⟨_, rfl, _, rfl, _, rfl, _, rfl, a, q1, u2, g.kd, dp, v, F, rfl, hF.same S03, tk', S3 _ _ w3, ok' g gm v hlk, lee, (by push_cast at hdp; omega), fun x H4 S4 vx => ?_⟩
        have hv4 := S4 _ _ hv3
        have lk2 : kv2.length ≤ 10 := by
          have z1 := congrArg List.length ek
          rw [List.length_map, List.length_map] at z1
          have z2 := pres_len (F := F) (n := n) (fs := fs) (fl.take i)
          rw [List.length_take] at z2
          omega
        have newk : (Sum.inr g.nam : Key) ∉ kv2.map Prod.fst := fun hm => by
          rw [ek] at hm
          obtain ⟨p, hp, ep⟩ := List.mem_map.mp hm
          have hn : g.nam ∈ (pres F n fs (fl.take i)).map Prod.fst := List.mem_map.mpr ⟨p, hp, Sum.inr.inj ep⟩
          have hs := pres_sub hn
          have z1 : (fl.take (i + 1)).map (·.nam) = (fl.take i).map (·.nam) ++ [g.nam] := by rw [et, List.map_append]; rfl
          have z2 : ((fl.take (i + 1)).map (·.nam)).Nodup := by
            have z3 : ((fl.map (·.nam)).take (i + 1)).Nodup := List.Nodup.sublist (List.take_sublist _ _) nf
            rwa [← List.map_take] at z3
          rw [z1, List.nodup_append] at z2
          exact z2.2.2 _ hs _ (List.mem_singleton.mpr rfl) rfl
        refine ⟨_, rfl, _, rfl, dv, _, rfl, DPut.k (k := Sum.inr g.nam) hv4 (Nat.lt_of_le_of_lt lk2 (by decide)), ?_⟩
        rw [putK_new newk]
        have keepT : Tk H4 (upd H4 dv (.dK (kv2 ++ [(Sum.inr g.nam, x)]))) := fun b us e => by
          rw [upd_ne (fun z => by rw [z, hv4] at e; cases e)]
          exact e
        generalize hH5 : upd H4 dv (.dK (kv2 ++ [(Sum.inr g.nam, x)])) = H5 at *
        have up5 : ∀ {b : Addr} {o : HO}, b ≠ dv → H4 b = some o → H5 b = some o := fun {b o} nb e => by rw [← hH5, upd_ne nb]; exact e
        have s1 : Same (er (Nw H H3) dv) (er (Nw H H5) dv) := er_step hdvH S4 @up5
        have s2 : Same (Nw H3 H4) (er (Nw H H5) dv) := er_new S03 hv3 @up5
        refine ⟨kv2 ++ [(Sum.inr g.nam, x)], ⟨_, _, _, _, _, _, rfl⟩, fun b o e => up5 (ne_of_none e hdv) (S4 _ _ (S3 _ _ e)), fun b us e => keepT b us (Same.tk S4 _ _ (tk3 _ _ e)), by rw [← hH5, upd_same], ?_, ?_⟩
        · rw [next, e0, List.map_append, List.map_append, ek]
          rfl
        · rw [next, e0, List.map_append, List.map_append]
          exact (vs3.same s1).app (.cons (vx.same s2) .nil)
    · rintro σ H3 ⟨kv2, ⟨a6, a7, a8, a9, a10, a11, rfl⟩, S3, tk3, hv3, ek, vs3⟩
      rw [ly, List.take_length] at ek vs3
      exact ⟨_, rfl, q (.ref dv) H3 (fun b o e => S3 b o (S1 b o e)) (.rcd (nw_at hdvH hv3) ek (vs3.same (fun b o e => er_in e)))⟩
theorem ok_rli {C f : Addr} {fd : FuncData} {l n : Nat} (hl : 2 ≤ l) (F : Fun K "read_list" "read_list" sRli f fd) (G : Glb mg) (W : Wn mg) (DD : Has P w K mg base "demand" 1 ["holds", "why"] spDem) (DP : Has P w K mg base "split_part" 2 ["content", "at"] spSpp) (DM : Has P w K mg base "mark_of" 2 ["kind"] spMark)
    (DC : Has P w K mg base "read_content" l ["face", "kind", "content", "depth"] (spRcn C n)) : FnOk P w K mg base CX0 (l + 1) f fd ["face", "kind", "content", "depth"] (spRli C (n + 1)) := by
  refine F.ok scRli (fun vs H Q E h => ?_) (fun cdv A outer s H vs Q E hr h => ?_)
  · obtain ⟨a, c, v, b, dp, u, F, rfl, _⟩ := h
    rfl
  · obtain ⟨a, c, v, b, dp, u, F, rfl, hF, tv, hc, ok, le, hdp, q⟩ := h
    refine ⟨_, (pss_cons (ps_expr (pe_has DD (hr.mono (by omega)) rfl (pa_cons (pe_cmpR op_le (pv 3) (pe_glob (v := .int 80) rfl W.deepest ⟨_, rfl⟩) (nomark _)) (pa_cons pe_str pa_nil))))
      (pss_cons (ps_expr (pe_has DD (hr.mono (by omega)) rfl (pa_cons (pe_cmpR (op_eqD hr.units) (pe_mid (pe_slice sl_tupA (pv 2) po_none (po_some pe_int))) (pe_tup (pa_cons (pe_has DM (hr.mono (by omega)) rfl (pa_cons (pv 1) pa_nil)) pa_nil)) (nomark _)) (pa_cons pe_str pa_nil))))
      (pss_cons (ps_set (i := 4) scRli.nd rfl (Or.inl rfl) (pe_lst pa_nil))
      (pss_cons (ps_set (i := 5) scRli.nd rfl (Or.inl rfl) pe_int)
      (pss_cons (ps_while PassesOwn.never (pt_cmpR op_lt (pv 5) (pe_callB call_len_seq (by rfl) G.len (by decide +kernel) (pa_cons (pv 2) pa_nil)) (nomark _))
      (pss_cons (ps_expr (pe_has DD (hr.mono (by omega)) rfl (pa_cons (pe_cmpR op_lt (pe_callB call_len_seq (by rfl) G.len (by decide +kernel) (pa_cons (pv 4) pa_nil)) (pe_glob (v := .int 6) rfl W.longest_list ⟨_, rfl⟩) (nomark _)) (pa_cons pe_str pa_nil))))
      (pss_cons (ps_asg (pe_has DP (hr.mono (by omega)) rfl (pa_cons (pv 2) (pa_cons (pv 5) pa_nil))) (pg_tup rfl (pgs_cons (pg_name (i := 6) scRli.nd rfl (Or.inl rfl)) (pgs_cons (pg_name (i := 5) scRli.nd rfl (Or.inl rfl)) pgs_nil))))
      (pss_one (ps_expr (pe_bm PySem.F.plainAttrs_list PySem.F.slot_list_append PySem.F.type_list_append mt_append (pv 4) (pa_cons (pe_has DC hr rfl (pa_cons (pv 0) (pa_cons (pv 1) (pa_cons (pv 6) (pa_cons (pv 3) pa_nil))))) pa_nil)))))))
      (pss_one (ps_ret (pe_callTy call_tuple_of (by rfl) G.tuple (by decide +kernel) (pa_cons (pv 4) pa_nil))))))))), ?_⟩
    obtain ⟨xs, rfl, nb, l6, ok'⟩ := ok
    have ee : enc F (n + 1) (.lst b) (.lst xs) = b.mark :: (xs.map fun x => piece (enc F n (.one b) x)).flatten := rfl
    have en : nrm F (n + 1) (.lst b) (.lst xs) = .lst (xs.map (nrm F n (.one b))) := rfl
    rw [ee] at le hc
    rw [en] at q
    refine ⟨_, rfl, _, _, rfl, rfl, _, _, rfl, decide_eq_true (by push_cast at hdp; omega), ?_⟩
    generalize hbs : b.mark :: (xs.map fun x => piece (enc F n (.one b) x)).flatten = bs at *
    refine ⟨fun v1 H1 => ∃ p, v1 = .ref p ∧ Same H H1 ∧ H1 p = some (.tup ((bs.take 1).map V.int)), ?_, ?_⟩
    · refine ⟨_, rfl, _, rfl, c, _, rfl, SqT.of hc, fun h => ?_, fun _ p hp => ?_⟩
      · exact ⟨c, rfl, Same.refl H, by rw [whole1 h.2]; exact hc⟩
      · exact ⟨p, rfl, Same.new hp, by rw [upd_same, cut1]⟩
    rintro v1 H1 ⟨p, rfl, S1, hp⟩
    have et1 : bs.take 1 = [b.mark] := by rw [← hbs]; rfl
    rw [et1] at hp
    refine ⟨_, rfl, v, .one b, rfl, Tp.keep (Same.tk S1) _ _ tv, (by show 1 ≤ sizeLine; decide), fun t ht => ?_⟩
    have S2 : Same H1 (upd H1 t (.tup [.int (Kn.one b).mark])) := Same.new ht
    refine ⟨.tuple [.int b.mark], .tuple [.int b.mark], .tup (SqT.of (S2 _ _ hp)) (.cons (.int _) .nil), .tup (SqT.of upd_same) (.cons (.int _) .nil), (Sh.tup (n := 0) fun d hd => ?_).shaped (by decide), (Sh.tup (n := 0) fun d hd => ?_).shaped (by decide), _, _, rfl, ?_, ?_⟩
    · rw [List.mem_singleton.mp hd]; exact Sh.int _
    · rw [List.mem_singleton.mp hd]; exact Sh.int _
    · show ((b.mark == b.mark) && true) = true
      rw [beq_self_eq_true]
      rfl
    have S02 : Same H (upd H1 t (.tup [.int (Kn.one b).mark])) := fun x o e => S2 x o (S1 x o e)
    generalize upd H1 t (.tup [.int (Kn.one b).mark]) = H2 at *
    refine ⟨Nat.zero_le _, fun L hL => ?_⟩
    have S03 : Same H (upd H2 L (.lst [])) := fun x o e => Same.new hL x o (S02 x o e)
    have hLH : H L = none := Same.free S02 hL
    have hlen : ((bs.map V.int).length : Int) = bs.length := by rw [List.length_map]
    refine while_by (fun σ H3 => ∃ (i : Nat) (us : List V), (∃ a6, σ = [some (.ref a), some v, some (.ref c), some (.int dp), some (.ref L), some (.int ((1 + ((xs.take i).map fun x => piece (enc F n (.one b) x)).flatten.length : Nat) : Int)), a6]) ∧ i ≤ xs.length ∧ Same H H3 ∧ H3 L = some (.lst us) ∧ us.length = i ∧ VDs (er (Nw H H3) L) us ((xs.take i).map (nrm F n (.one b))))
      (fun σ _ => match σ with | _ :: _ :: _ :: _ :: _ :: some (.int m) :: _ => bs.length - m.toNat | _ => 0) ?_ ?_ ?_
    · exact ⟨0, [], ⟨_, rfl⟩, Nat.zero_le _, S03, upd_same, rfl, .nil⟩
    · rintro σ H3 ⟨i, us, ⟨a6, rfl⟩, hi, S3, hL3, lu, vs3⟩
      refine ⟨_, rfl, _, rfl, c, _, rfl, .inr (.inl (.inl (S3 _ _ hc))), _, _, rfl, rfl, _, rfl, ?_⟩
      rw [hlen]
      by_cases hil : i < xs.length
      · have hx : xs[i]? = some xs[i] := List.getElem?_eq_getElem hil
        generalize xs[i] = x at hx
        have xm := List.mem_of_getElem? hx
        have split : bs = (b.mark :: ((xs.take i).map fun x => piece (enc F n (.one b) x)).flatten) ++ piece (enc F n (.one b) x) ++ ((xs.drop (i + 1)).map fun x => piece (enc F n (.one b) x)).flatten := by
          have z : xs = xs.take i ++ x :: xs.drop (i + 1) := by
            obtain ⟨h1, h2⟩ := List.getElem?_eq_some_iff.mp hx
            rw [← h2, ← List.drop_eq_getElem_cons h1, List.take_append_drop]
          rw [← hbs]
          conv => lhs; rw [z]
          rw [List.map_append, List.map_cons, List.flatten_append, List.flatten_cons, List.cons_append, List.cons_append, List.append_assoc]
        have next : ((xs.take (i + 1)).map fun x => piece (enc F n (.one b) x)).flatten = ((xs.take i).map fun x => piece (enc F n (.one b) x)).flatten ++ piece (enc F n (.one b) x) := by
          rw [List.take_add_one, hx, List.map_append, List.flatten_append]
          congr 1
          show ([x].map fun x => piece (enc F n (.one b) x)).flatten = _
          rw [List.map_cons, List.map_nil, List.flatten_cons, List.flatten_nil, List.append_nil]
        generalize hpre : ((xs.take i).map fun x => piece (enc F n (.one b) x)).flatten = pre at *
        generalize ((xs.drop (i + 1)).map fun x => piece (enc F n (.one b) x)).flatten = post at split
        have lbs : 1 + pre.length + (piece (enc F n (.one b) x)).length + post.length = bs.length := by rw [split, List.length_append, List.length_append, List.length_cons]; omega
        have hp1 : 1 ≤ (piece (enc F n (.one b) x)).length := by
          unfold piece told
          rw [List.length_append]
          split
          · simp
          · simp; omega
        refine ite2 (fun _ => ?_) (fun h => absurd (decide_eq_true (by omega)) h)
        refine ⟨_, rfl, L, _, rfl, .inl (SqL.of hL3), _, _, rfl, rfl, _, _, rfl, decide_eq_true (by rw [lu]; omega), ?_⟩
        have hc3 : H3 c = some (.tup (((b.mark :: pre) ++ piece (enc F n (.one b) x) ++ post).map V.int)) := by rw [S3 _ _ hc, split]
        refine ⟨_, rfl, _, rfl, c, b.mark :: pre, enc F n (.one b) x, post, _, rfl, by rw [List.length_cons]; omega, hc3, by rw [← split]; exact le, fun t1 q1 H4 S4 ht1 hq1 => ?_⟩
        refine ⟨t1, _, rfl, SqT.of ht1, rfl, _, _, rfl, _, _, rfl, rfl, ?_⟩
        have S04 : Same H H4 := fun y o e => S4 y o (S3 y o e)
        refine ⟨_, rfl, .inl ⟨rfl, _, SqL.of (S4 _ _ hL3)⟩, ?_⟩
        have lee : (enc F n (.one b) x).length ≤ 10000 := by
          have := piece_le (enc F n (.one b) x)
          omega
        refine ⟨_, rfl, _, rfl, _, rfl, _, rfl, a, q1, v, .one b, dp, x, F, rfl, hF.same S04, Tp.keep (Same.tk S04) _ _ tv, hq1, ok' x xm, lee, (by push_cast at hdp; omega), fun y H5 S5 vy => ?_⟩
        have S45 : Same H3 H5 := fun y o e => S5 y o (S4 y o e)
        have hL5 := S45 _ _ hL3
        refine ⟨L, _, _, rfl, rfl, hL5, by rw [lu]; exact Nat.lt_of_lt_of_le (show i < 6 by omega) (by decide), ?_⟩
        generalize hH6 : upd H5 L (.lst (us ++ [y])) = H6 at *
        have up6 : ∀ {d : Addr} {o : HO}, d ≠ L → H5 d = some o → H6 d = some o := fun {d o} nd e => by rw [← hH6, upd_ne nd]; exact e
        have s1 : Same (er (Nw H H3) L) (er (Nw H H6) L) := er_step hLH S45 @up6
        have s2 : Same (Nw H4 H5) (er (Nw H H6) L) := er_new S04 (S4 _ _ hL3) @up6
        have enx : 1 + ((xs.take (i + 1)).map fun x => piece (enc F n (.one b) x)).flatten.length = (b.mark :: pre).length + (piece (enc F n (.one b) x)).length := by
          rw [next, List.length_append, List.length_cons]
          omega
        refine ⟨⟨i + 1, us ++ [y], ⟨_, by rw [enx]; rfl⟩, hil, fun d o e => up6 (ne_of_none e hLH) (S45 _ _ (S3 _ _ e)), by rw [← hH6, upd_same], by rw [List.length_append, lu]; rfl, ?_⟩, ?_⟩
        · rw [List.take_add_one, hx, List.map_append]
          exact (vs3.same s1).app (.cons (vy.same s2) .nil)
        · show bs.length - ((((b.mark :: pre).length + (piece (enc F n (.one b) x)).length : Nat) : Int)).toNat < bs.length - (((1 + pre.length : Nat) : Int)).toNat
          rw [List.length_cons]
          omega
      · have ei : i = xs.length := by omega
        subst ei
        have ebs : bs.length = 1 + ((xs.take xs.length).map fun x => piece (enc F n (.one b) x)).flatten.length := by rw [List.take_length, ← hbs, List.length_cons]; omega
        refine ite2 (fun h => absurd (of_decide_eq_true h) (by omega)) (fun _ => ?_)
        rw [List.take_length] at vs3
        refine ⟨_, rfl, L, _, rfl, .inl ⟨SqL.of hL3, fun T hT => ?_⟩⟩
        refine q (.ref T) _ (fun d o e => Same.new hT d o (S3 d o e)) (.lst (nw_at (Same.free S3 hT) upd_same) (vs3.same fun d o e => ?_))
        obtain ⟨h1, h2⟩ := nw_inv (er_in e)
        exact nw_at h1 (hup hT h2)
    · rintro σ H Q Q' m ⟨v, e1, x, e2, c, ys, e3, e4, i, j, ea, eb, cc, ec, q⟩
      exact ⟨v, e1, x, e2, c, ys, e3, e4, i, j, ea, eb, cc, ec, m _ _ q⟩
theorem ok_rcn {C f : Addr} {fd : FuncData} {l n : Nat} (hl : 3 ≤ l) (F : Fun K "read_content" "read_content" sRcn f fd) (DD : Has P w K mg base "demand" 1 ["holds", "why"] spDem) (DN : Has P w K mg base "names_nobody" 3 ["face", "kind"] (spNob C fun _ => True)) (DW : Has P w K mg base "word_of" 1 ["kind"] spWord)
    (DR : Has P w K mg base "read_record" l ["face", "record", "content", "depth"] (spRre C (n + 1))) (DL : Has P w K mg base "read_list" l ["face", "kind", "content", "depth"] (spRli C (n + 1))) (DT : Has P w K mg base "read_text" 2 ["content"] spRtx) (DB : Has P w K mg base "read_numbered" 2 ["face", "kind", "number"] (spRnd C)) (DU : Has P w K mg base "read_number" 2 ["content"] spRnu) :
    FnOk P w K mg base CX0 (l + 1) f fd ["face", "kind", "content", "depth"] (spRcn C (n + 1)) := by
  refine F.ok scRcn (fun vs H Q E h => ?_) (fun cdv A outer s H vs Q E hr h => ?_)
  · obtain ⟨a, c, v, k, dp, u, F, rfl, _⟩ := h
    rfl
  · obtain ⟨a, c, v, k, dp, u, F, rfl, hF, tv, hc, ok, le, hdp, q⟩ := h
    refine ⟨_, (pss_cons (ps_expr (pe_has DD (hr.mono (by omega)) rfl (pa_cons (pe_not (pe_has DN (hr.mono (by omega)) rfl (pa_cons (pv 0) (pa_cons (pv 1) pa_nil)))) (pa_cons pe_str pa_nil))))
      (pss_cons (ps_set (i := 4) scRcn.nd rfl (Or.inl rfl) (pe_has DW (hr.mono (by omega)) rfl (pa_cons (pv 1) pa_nil)))
      (pss_cons (ps_if (pt_cmpR op_eq (pv 4) pe_str (nomark _))
      (pss_one (ps_ret (pe_has DR hr rfl (pa_cons (pv 0) (pa_cons (pe_ix ix_tup (pv 1) pe_int (fun _ _ => rfl)) (pa_cons (pv 2) (pa_cons (pe_op op_add (pv 3) pe_int) pa_nil)))))))
      pss_nil)
      (pss_cons (ps_if (pt_cmpR op_eq (pv 4) pe_str (nomark _))
      (pss_one (ps_ret (pe_has DL hr rfl (pa_cons (pv 0) (pa_cons (pe_ix ix_tup (pv 1) pe_int (fun _ _ => rfl)) (pa_cons (pv 2) (pa_cons (pe_op op_add (pv 3) pe_int) pa_nil)))))))
      pss_nil)
      (pss_cons (ps_if (pt_cmpR op_eq (pv 4) pe_str (nomark _))
      (pss_one (ps_ret (pe_has DT (hr.mono (by omega)) rfl (pa_cons (pv 2) pa_nil))))
      pss_nil)
      (pss_one (ps_ret (pe_has DB (hr.mono (by omega)) rfl (pa_cons (pv 0) (pa_cons (pv 1) (pa_cons (pe_has DU (hr.mono (by omega)) rfl (pa_cons (pv 2) pa_nil)) pa_nil))))))))))), ?_⟩
    have nob := ok_nobF ok
    refine ⟨_, rfl, _, rfl, a, v, k, F.c, F.r, rfl, hF.1, by unfold Fc.c; rw [List.length_map]; exact hF.2.lc, by unfold Fc.r; rw [List.length_map]; exact hF.2.lr, tv, trivial, fun H1 S1 => ?_⟩
    rw [nob]
    refine ⟨_, rfl, _, _, rfl, rfl, ?_⟩
    have hF1 := hF.same S1
    have tv1 := Tp.keep (Same.tk S1) _ _ tv
    have hc1 := S1 _ _ hc
    replace q : ∀ (x : V) (H' : Hp), Same H1 H' → VD (Nw H1 H') x (nrm F (n + 1) k u) → Q x H' := fun x H' s' vx => q x H' (fun b o e => s' b o (S1 b o e)) (vx.same fun b o e => by
      obtain ⟨h1, h2⟩ := nw_inv e
      exact nw_at (Same.free S1 h1) h2)
    refine ⟨_, rfl, v, k, rfl, tv1, ?_⟩
    refine ⟨_, rfl, rfl, _, rfl, ?_⟩
    rcases kn_inv tv1 with ⟨rfl, hk⟩ | ⟨b, y, rfl, hb, ty⟩
    · rcases hk with rfl | rfl | rfl
      · refine ite2 (fun h => absurd (of_decide_eq_true h) (sne (by decide +kernel : ("whole" : Str) ≠ "record"))) (fun _ => ?_)
        refine ⟨_, rfl, rfl, _, rfl, ?_⟩
        refine ite2 (fun h => absurd (of_decide_eq_true h) (sne (by decide +kernel : ("whole" : Str) ≠ "list"))) (fun _ => ?_)
        refine ⟨_, rfl, rfl, _, rfl, ?_⟩
        refine ite2 (fun h => absurd (of_decide_eq_true h) (sne (by decide +kernel : ("whole" : Str) ≠ "text"))) (fun _ => ?_)
        obtain ⟨i, rfl, i0, i1⟩ := ok
        refine ⟨_, rfl, _, rfl, _, rfl, c, i.toNat, rfl, hc1, by omega, fun H2 S2 => ?_⟩
        have e : ((i.toNat : Nat) : Int) = i := by omega
        refine ⟨a, _, .one .whole, i.toNat, F, rfl, hF1.same S2, Tp.keep (Same.tk S2) _ _ tv1, .inl ⟨rfl, q _ H2 S2 ?_⟩⟩
        rw [e]
        exact .num i
      · refine ite2 (fun h => absurd (of_decide_eq_true h) (sne (by decide +kernel : ("truth" : Str) ≠ "record"))) (fun _ => ?_)
        refine ⟨_, rfl, rfl, _, rfl, ?_⟩
        refine ite2 (fun h => absurd (of_decide_eq_true h) (sne (by decide +kernel : ("truth" : Str) ≠ "list"))) (fun _ => ?_)
        refine ⟨_, rfl, rfl, _, rfl, ?_⟩
        refine ite2 (fun h => absurd (of_decide_eq_true h) (sne (by decide +kernel : ("truth" : Str) ≠ "text"))) (fun _ => ?_)
        obtain ⟨t, rfl⟩ := ok
        refine ⟨_, rfl, _, rfl, _, rfl, c, (if t = true then 1 else 0), rfl, ?_, by cases t <;> decide, fun H2 S2 => ?_⟩
        · rw [hc1]
          cases t <;> rfl
        refine ⟨a, _, .one .truth, _, F, rfl, hF1.same S2, Tp.keep (Same.tk S2) _ _ tv1, .inr (.inl ⟨rfl, t, rfl, q _ H2 S2 (.tru t)⟩)⟩
      · refine ite2 (fun h => absurd (of_decide_eq_true h) (sne (by decide +kernel : ("text" : Str) ≠ "record"))) (fun _ => ?_)
        refine ⟨_, rfl, rfl, _, rfl, ?_⟩
        refine ite2 (fun h => absurd (of_decide_eq_true h) (sne (by decide +kernel : ("text" : Str) ≠ "list"))) (fun _ => ?_)
        refine ⟨_, rfl, rfl, _, rfl, ?_⟩
        refine ite2 (fun _ => ?_) (fun h => absurd (decide_eq_true rfl) h)
        obtain ⟨z, rfl, lz, sz⟩ := ok
        exact ⟨_, rfl, c, z, rfl, hc1, lz, sz, fun H2 S2 => q _ H2 S2 (.txt z)⟩
    · cases k with
      | lst k' =>
        refine ite2 (fun h => absurd (of_decide_eq_true h) (sne (by decide +kernel : ("list" : Str) ≠ "record"))) (fun _ => ?_)
        refine ⟨_, rfl, rfl, _, rfl, ?_⟩
        refine ite2 (fun _ => ?_) (fun h => absurd (decide_eq_true rfl) h)
        exact ⟨_, rfl, _, rfl, b, _, _, _, rfl, rfl, SqT.of hb, rfl, _, rfl, _, rfl, _, _, rfl, rfl, a, c, y, k', dp + 1, u, F, rfl, hF1, ty, hc1, ok, le, (by push_cast at hdp ⊢; omega), q⟩
      | one k' =>
        cases k' with
        | whole => cases tv
        | truth => cases tv
        | text => cases tv
        | rc z =>
          cases ty.istr
          refine ite2 (fun _ => ?_) (fun h => absurd (decide_eq_true rfl) h)
          exact ⟨_, rfl, _, rfl, b, _, _, _, rfl, rfl, SqT.of hb, rfl, _, rfl, _, rfl, _, _, rfl, rfl, a, c, z, dp + 1, u, F, rfl, hF1, hc1, ok, le, (by push_cast at hdp ⊢; omega), q⟩
        | ch z =>
          cases ty.istr
          refine ite2 (fun h => absurd (of_decide_eq_true h) (sne (by decide +kernel : ("choice" : Str) ≠ "record"))) (fun _ => ?_)
          refine ⟨_, rfl, rfl, _, rfl, ?_⟩
          refine ite2 (fun h => absurd (of_decide_eq_true h) (sne (by decide +kernel : ("choice" : Str) ≠ "list"))) (fun _ => ?_)
          refine ⟨_, rfl, rfl, _, rfl, ?_⟩
          refine ite2 (fun h => absurd (of_decide_eq_true h) (sne (by decide +kernel : ("choice" : Str) ≠ "text"))) (fun _ => ?_)
          obtain ⟨u', os, m, rfl, hlk, hm⟩ := ok
          have oko : OptsOk os := hF.2.ops (z, os) (look_mem hlk)
          have em := optN_of hlk oko hm
          have r := oko.rg _ hm
          refine ⟨_, rfl, _, rfl, _, rfl, c, optN F z u', rfl, hc1, by omega, fun H2 S2 => ?_⟩
          exact ⟨a, _, .one (.ch z), _, F, rfl, hF1.same S2, Tp.keep (Same.tk S2) _ _ tv1, .inr (.inr ⟨z, os, u', rfl, hlk, by rw [em]; exact hm, hF.2.nmc (z, os) (look_mem hlk), fun H3 S3 => q _ H3 (fun d o e => S3 d o (S2 d o e)) (.txt u')⟩)⟩
theorem ok_rea {C f : Addr} {fd : FuncData} {l n : Nat} (hl : 2 ≤ l) (F : Fun K "read" "read" sRea f fd) (DD : Has P w K mg base "demand" 1 ["holds", "why"] spDem) (DI : Has P w K mg base "is_body" 2 ["thing"] spBod) (DR : Has P w K mg base "read_record" l ["face", "record", "content", "depth"] (spRre C n)) :
    FnOk P w K mg base CX0 (l + 1) f fd ["face", "record", "body"] (spRea C n) := by
  refine F.ok scRea (fun vs H Q E h => ?_) (fun cdv A outer s H vs Q E hr h => ?_)
  · obtain ⟨a, c, z, u, F, rfl, _⟩ := h
    rfl
  · obtain ⟨a, c, z, u, F, rfl, hF, hc, ok, le, rg, hn, q⟩ := h
    refine ⟨_, (pss_cons (ps_expr (pe_has DD (hr.mono (by omega)) rfl (pa_cons (pe_has DI (hr.mono (by omega)) rfl (pa_cons (pv 2) pa_nil)) (pa_cons pe_str pa_nil))))
      (pss_one (ps_ret (pe_has DR hr rfl (pa_cons (pv 0) (pa_cons (pv 1) (pa_cons (pv 2) (pa_cons pe_int pa_nil)))))))), ?_⟩
    refine ⟨_, rfl, c, _, rfl, hc, le, rg, fun H1 S1 => ?_⟩
    refine ⟨_, _, rfl, rfl, ?_⟩
    exact ⟨_, rfl, _, rfl, _, rfl, a, c, z, 1, u, F, rfl, hF.same S1, S1 _ _ hc, ok, le, by omega, fun x H' s' vx => q x H' (fun b o e => s' b o (S1 b o e)) (vx.same fun b o e => by
      obtain ⟨h1, h2⟩ := nw_inv e
      exact nw_at (Same.free S1 h1) h2)⟩
end
end Fh

set_option Elab.async false
set_option linter.all false
set_option maxRecDepth 100000
set_option maxHeartbeats 4000000
namespace Fh
open PySem L2 PyProof.Rows
abbrev sItx : Stmt := top 32
abbrev sInu : Stmt := top 34
abbrev sHas : Stmt := top 30
abbrev sRsz : Stmt := top 29
abbrev sLsz : Stmt := top 31
abbrev sSin : Stmt := top 28
abbrev sIva : Stmt := top 27
abbrev nItx : List Str := ["thing", "sign"]
abbrev nInu : List Str := ["face", "kind", "thing", "number", "word"]
abbrev nHas : List Str := ["fields", "thing", "number", "name", "kind", "need", "field"]
abbrev nRsz : List Str := ["face", "record", "thing", "depth", "room", "fields", "total", "number", "name", "kind", "need", "size"]
abbrev nLsz : List Str := ["face", "kind", "thing", "depth", "room", "total", "part", "size"]
abbrev nSin : List Str := ["face", "kind", "thing", "depth", "room", "word"]
abbrev nIva : List Str := ["face", "record", "thing"]
def spItx : Sp := fun vs H Q _ => ∃ (z : Str), vs = [.str z] ∧ z.length ≤ 20 ∧ (∀ c ∈ z.cps.toList, sgn c) ∧ ∀ H', Same H H' → Q (.bl true) H'
def spInu (C : Addr) : Sp := fun vs H Q _ => ∃ (a : Addr) (v x : V) (k : Kn) (F : Fc), vs = [.ref a, v, x] ∧ FaceF C H a F ∧ Tp H v k.d ∧
  ((k = .one .whole ∧ ∃ i, x = .int i ∧ 0 ≤ i ∧ i ≤ 1000000000) ∨ (k = .one .truth ∧ ∃ b, x = .bl b) ∨ ∃ z os n u, k = .one (.ch z) ∧ F.cs.lookup z = some os ∧ (n, u) ∈ os ∧ x = .str u) ∧ ∀ H', Same H H' → Q (.bl true) H'
def spHas : Sp := fun vs H Q _ => ∃ (v : V) (d : Addr) (fl : List Fl) (kvs : List (Key × V)) (fs : List (Str × Vl)), vs = [v, .ref d] ∧ Tp H v (fieldsD fl) ∧ fl.length ≤ 10 ∧ (fl.map (·.nam)).Nodup ∧ H d = some (.dK kvs) ∧ kvs.map Prod.fst = fs.map (fun f => Sum.inr f.1) ∧ VDs H (kvs.map Prod.snd) (fs.map Prod.snd) ∧
  (fs.map Prod.fst).Nodup ∧ (∀ f ∈ fs, ∃ g ∈ fl, g.nam = f.1) ∧ (∀ g ∈ fl, g.must = true → ∃ w, fs.lookup g.nam = some w) ∧ ∀ H', Same H H' → Q (.bl true) H'
def spSin (C : Addr) (n : Nat) : Sp := fun vs H Q _ => ∃ (a : Addr) (v x : V) (k : Kn) (u : Vl) (F : Fc) (dp room : Int), vs = [.ref a, v, x, .int dp, .int room] ∧ FaceF C H a F ∧ Tp H v k.d ∧ VD H x u ∧ Ok F n k u ∧ dp + n ≤ 80 ∧ (((enc F n k u).length : Nat) : Int) ≤ room ∧ room ≤ 10000 ∧ ∀ H', Same H H' → Q (.int (enc F n k u).length) H'
def spRsz (C : Addr) (n : Nat) : Sp := fun vs H Q _ => ∃ (a : Addr) (z : Str) (x : V) (u : Vl) (F : Fc) (dp room : Int), vs = [.ref a, .str z, x, .int dp, .int room] ∧ FaceF C H a F ∧ VD H x u ∧ Ok F n (.one (.rc z)) u ∧ dp + n ≤ 81 ∧ (((enc F n (.one (.rc z)) u).length : Nat) : Int) ≤ room ∧ room ≤ 10000 ∧ ∀ H', Same H H' → Q (.int (enc F n (.one (.rc z)) u).length) H'
def spLsz (C : Addr) (n : Nat) : Sp := fun vs H Q _ => ∃ (a : Addr) (v x : V) (b : Kb) (u : Vl) (F : Fc) (dp room : Int), vs = [.ref a, v, x, .int dp, .int room] ∧ FaceF C H a F ∧ Tp H v b.d ∧ VD H x u ∧ Ok F n (.lst b) u ∧ dp + n ≤ 81 ∧ (((enc F n (.lst b) u).length : Nat) : Int) ≤ room ∧ room ≤ 10000 ∧ ∀ H', Same H H' → Q (.int (enc F n (.lst b) u).length) H'
def spIva (C : Addr) (n : Nat) : Sp := fun vs H Q _ => ∃ (a : Addr) (z : Str) (x : V) (u : Vl) (F : Fc), vs = [.ref a, .str z, x] ∧ FaceF C H a F ∧ VD H x u ∧ Ok F n (.one (.rc z)) u ∧ n ≤ 80 ∧ (enc F n (.one (.rc z)) u).length ≤ 10000 ∧ ∀ H', Same H H' → Q (.bl true) H'
theorem told_n (n : Nat) : ((told n).length : Int) = toldN n := by
  unfold told toldN
  by_cases h : n < 200
  · rw [if_pos h, if_pos (by omega)]; rfl
  · rw [if_neg h, if_neg (by omega)]; rfl
theorem piece_n (c : List Int) : ((piece c).length : Int) = toldN c.length + c.length := by
  unfold piece
  rw [List.length_append]
  have := told_n c.length
  omega
theorem same_count {fl : List Fl} {fs : List (Str × Vl)} (nf : (fl.map (·.nam)).Nodup) (nd : (fs.map Prod.fst).Nodup) (inn : ∀ f ∈ fs, ∃ g ∈ fl, g.nam = f.1) : (fl.filter fun g => (fs.lookup g.nam).isSome).length = fs.length := by
  have p : ((fl.map (·.nam)).filter fun z => (fs.lookup z).isSome).Perm (fs.map Prod.fst) := by
    refine (List.perm_ext_iff_of_nodup (List.Pairwise.filter _ nf) nd).mpr fun z => ?_
    rw [List.mem_filter]
    constructor
    · rintro ⟨_, h⟩
      obtain ⟨v, hv⟩ := Option.isSome_iff_exists.mp h
      exact List.mem_map.mpr ⟨(z, v), look_mem hv, rfl⟩
    · intro h
      obtain ⟨v, hv⟩ := mem_look h
      obtain ⟨f, hf, rfl⟩ := List.mem_map.mp h
      obtain ⟨g, hg, e⟩ := inn f hf
      exact ⟨List.mem_map.mpr ⟨g, hg, e⟩, by rw [hv]; rfl⟩
  have l := p.length_eq
  rw [List.filter_map, List.length_map, List.length_map] at l
  exact l
section
variable {P : Program} {w : World} {K : PySem.W.Frag} {mg : Str → Option Value} {base : Heap}
theorem scItx : FnScope nItx ["thing"] (defScope sItx) := ⟨rfl, rfl, rfl, by decide +kernel, rfl, by decide +kernel, by decide +kernel⟩
theorem scInu : FnScope nInu ["face", "kind", "thing"] (defScope sInu) := ⟨rfl, rfl, rfl, by decide +kernel, rfl, by decide +kernel, by decide +kernel⟩
theorem scHas : FnScope nHas ["fields", "thing"] (defScope sHas) := ⟨rfl, rfl, rfl, by decide +kernel, rfl, by decide +kernel, by decide +kernel⟩
theorem scRsz : FnScope nRsz ["face", "record", "thing", "depth", "room"] (defScope sRsz) := ⟨rfl, rfl, rfl, by decide +kernel, rfl, by decide +kernel, by decide +kernel⟩
theorem scLsz : FnScope nLsz ["face", "kind", "thing", "depth", "room"] (defScope sLsz) := ⟨rfl, rfl, rfl, by decide +kernel, rfl, by decide +kernel, by decide +kernel⟩
theorem scSin : FnScope nSin ["face", "kind", "thing", "depth", "room"] (defScope sSin) := ⟨rfl, rfl, rfl, by decide +kernel, rfl, by decide +kernel, by decide +kernel⟩
theorem scIva : FnScope nIva ["face", "record", "thing"] (defScope sIva) := ⟨rfl, rfl, rfl, by decide +kernel, rfl, by decide +kernel, by decide +kernel⟩
theorem ok_itx {f : Addr} {fd : FuncData} (F : Fun K "is_text" "is_text" sItx f fd) (G : Glb mg) (W : Wn mg) (DS : Has P w K mg base "is_sign" 1 ["code"] spSig) : FnOk P w K mg base CX0 2 f fd ["thing"] spItx := by
  refine F.ok scItx (fun vs H Q E h => ?_) (fun cdv A outer s H vs Q E hr h => ?_)
  · obtain ⟨z, rfl, _⟩ := h
    rfl
  · obtain ⟨z, rfl, lz, sz, q⟩ := h
    refine ⟨_, (pss_one (ps_ret (pe_and (pe_callB call_isi (by rfl) G.isi (by decide +kernel) (pa_cons (pv 0) (pa_cons (pe_bltn (v := .ty "str") rfl G.str (by decide +kernel) rfl) pa_nil))) (pe_and (pe_cmpR op_le (pe_callB call_len_str (by rfl) G.len (by decide +kernel) (pa_cons (pv 0) pa_nil)) (pe_glob (v := .int 20) rfl W.longest_text ⟨_, rfl⟩) (nomark _)) (pe_one (pe_callB (cr_all rfl) (by rfl) W.all (by decide +kernel) (pa_cons (pe_lc (own := [("sign", 1)]) (g := (gName 1)) (tt := tYes) rfl scItx.nd (pi_str (pv 0)) (blkOk_by (N := nItx) (sc := defScope sItx) (by decide +kernel)) (fun _ _ _ _ _ => (pg_name (i := 1) scItx.nd rfl (Or.inl rfl))) (fun _ _ _ _ _ => pts_nil) (fun _ _ _ _ _ => (pe_has DS (hr.mono (by omega)) rfl (pa_cons (pe_callB call_ord (by rfl) W.ord (by decide +kernel) (pa_cons (pv 1) pa_nil)) pa_nil)))) pa_nil))))))), ?_⟩
    have hsz : z.cps.toList.length = z.cps.size := Array.length_toList
    have hz : z.cps.size ≤ 20 := lz
    refine ⟨_, rfl, _, _, .type "str", .type "str", true, rfl, .ty _, .base (.str z), rfl, true, rfl, iteT ?_⟩
    refine ⟨_, rfl, z, rfl, Nat.le_trans lz (by decide), _, _, rfl, rfl, _, rfl, ite2 (fun _ => ?_) (fun h => absurd (decide_eq_true (by show ((z.length : Nat) : Int) ≤ 20; omega)) h)⟩
    refine ⟨_, rfl, z, rfl, fun D hD => ?_⟩
    refine lc_it z.cps.size (fun j H3 => Same H H3 ∧ H3 D = some (.lst ((List.replicate j true).map V.bl))) ?_ ?_ ?_ ?_ ?_
    · exact ⟨Same.new hD, upd_same⟩
    · rintro j H3 hj _
      exact hj
    · rintro H3 _
      exact Nat.le_refl _
    · rintro j H3x y H3 hj ⟨S3, h3⟩ ⟨rfl, c, hc, rfl⟩
      have hc2 : z.cps.toList[j]? = some c := by rw [Array.getElem?_toList]; exact hc
      refine ⟨rfl, yes (iteT ?_)⟩
      refine ⟨_, rfl, _, rfl, rfl, c, rfl, sz c (List.mem_of_getElem? hc2), ?_⟩
      refine ⟨_, h3, ?_, Same.wr S3 hD, ?_⟩
      · rw [List.length_map, List.length_replicate, sizeLine_eq]
        omega
      · rw [upd_same, List.replicate_succ', List.map_append]
        rfl
    · rintro H3 ⟨S3, h3⟩
      refine ⟨D, _, rfl, SqL.of h3, ?_⟩
      have e : ((List.replicate z.cps.size true).all id) = true := by
        rw [List.all_eq_true]
        intro b hb
        exact (List.eq_of_mem_replicate hb)
      rw [e]
      exact q H3 S3
theorem ok_inu {C f : Addr} {fd : FuncData} (F : Fun K "is_numbered" "is_numbered" sInu f fd) (G : Glb mg) (W : Wn mg) (DW : Has P w K mg base "is_whole" 1 ["thing"] spWho) (DO : HasM P w K mg base C "options_of" 1 ["self", "choice"] (spOptions C)) : FnOk P w K mg base CX0 2 f fd ["face", "kind", "thing"] (spInu C) := by
  refine F.ok scInu (fun vs H Q E h => ?_) (fun cdv A outer s H vs Q E hr h => ?_)
  · obtain ⟨a, v, x, k, F, rfl, _⟩ := h
    rfl
  · obtain ⟨a, v, x, k, F, rfl, hF, tv, hh, q⟩ := h
    refine ⟨_, (pss_cons (ps_if (pt_cmpR (op_eqD hr.units) (pv 1) pe_str (nomark _))
      (pss_one (ps_ret (pe_and (pe_has DW (hr.mono (by omega)) rfl (pa_cons (pv 2) pa_nil)) (pe_one (pe_chain op_le op_le pe_int (pv 2) (pe_glob (v := .int 1000000000) rfl W.greatest_whole ⟨_, rfl⟩))))))
      pss_nil)
      (pss_cons (ps_if (pt_cmpR (op_eqD hr.units) (pv 1) pe_str (nomark _))
      (pss_one (ps_ret (pe_callB call_isi (by rfl) G.isi (by decide +kernel) (pa_cons (pv 2) (pa_cons (pe_bltn (v := .ty "bool") rfl W.bool (by decide +kernel) rfl) pa_nil)))))
      pss_nil)
      (pss_one (ps_ret (pe_cmpR op_in_seq (pv 2) (pe_lc (own := [("number", 3), ("word", 4)]) (g := (gTup K 2 (gCons (gName 3) (gCons (gName 4) gNil)))) (tt := tYes) (te := tVar 4) rfl scInu.nd (pi_tup (pe_hasM DO (hr.mono (by omega)) (pv 0) (pa_cons (pe_ix ix_tup (pv 1) pe_int (fun _ _ => rfl)) pa_nil))) (blkOk_by (N := nInu) (sc := defScope sInu) (by decide +kernel)) (fun _ _ _ _ _ => (pg_tup rfl (pgs_cons (pg_name (i := 3) scInu.nd rfl (Or.inl rfl)) (pgs_cons (pg_name (i := 4) scInu.nd rfl (Or.inl rfl)) pgs_nil)))) (fun _ _ _ _ _ => pts_nil) (fun _ _ _ _ _ => (pv 4))) rfl))))), ?_⟩
    have shw : ∀ z : Str, Sh 0 (.str z) → SeqAt.shaped (.str z) = true := fun z h => h.shaped (by decide)
    rcases hh with ⟨rfl, i, rfl, i0, i1⟩ | ⟨rfl, b, rfl⟩ | ⟨z, os, n, u, rfl, hl, hm, rfl⟩
    · refine ⟨_, rfl, _, _, Tp.dp _ _ tv, .str _, (Sh.kd (k := .one .whole) (fun z h => by cases h)).shaped (by decide), shw _ ⟨by decide +kernel, Nat.le_refl _⟩, _, rfl, ?_⟩
      refine ite2 (fun _ => ?_) (fun h => absurd (by decide +kernel) h)
      refine ⟨_, rfl, .inl ⟨i, rfl, true, rfl, iteT ?_⟩⟩
      refine ⟨_, rfl, _, _, rfl, rfl, _, rfl, ite2 (fun _ => ?_) (fun h => absurd (decide_eq_true i0) h)⟩
      refine ⟨_, _, rfl, rfl, ?_⟩
      have e : (fun i j => V.bl (decide (i ≤ j))) i (1000000000 : Int) = V.bl true := congrArg V.bl (decide_eq_true i1)
      rw [e]
      exact q H (Same.refl H)
    · refine ⟨_, rfl, _, _, Tp.dp _ _ tv, .str _, (Sh.kd (k := .one .truth) (fun z h => by cases h)).shaped (by decide), shw _ ⟨by decide +kernel, Nat.le_refl _⟩, _, rfl, ?_⟩
      refine ite2 (fun h => absurd h (by decide +kernel)) (fun _ => ?_)
      refine ⟨_, rfl, _, _, Tp.dp _ _ tv, .str _, (Sh.kd (k := .one .truth) (fun z h => by cases h)).shaped (by decide), shw _ ⟨by decide +kernel, Nat.le_refl _⟩, _, rfl, ?_⟩
      refine ite2 (fun _ => ?_) (fun h => absurd (by decide +kernel) h)
      exact ⟨_, rfl, _, _, .type "bool", .type "bool", true, rfl, .ty _, .base (.bl b), rfl, q H (Same.refl H)⟩
    · have shk := (Sh.kd (k := .one (.ch z)) (fun y h => by cases h; exact hF.2.nmc (z, os) (look_mem hl))).shaped (by decide)
      refine ⟨_, rfl, _, _, Tp.dp _ _ tv, .str _, shk, shw _ ⟨by decide +kernel, Nat.le_refl _⟩, _, rfl, ?_⟩
      refine ite2 (fun h => absurd h (by show ¬ false = true; decide)) (fun _ => ?_)
      refine ⟨_, rfl, _, _, Tp.dp _ _ tv, .str _, shk, shw _ ⟨by decide +kernel, Nat.le_refl _⟩, _, rfl, ?_⟩
      refine ite2 (fun h => absurd h (by show ¬ false = true; decide)) (fun _ => ?_)
      have hlc : F.c.lookup z = some (optsD os) := by rw [look_c, hl]; rfl
      have oko : OptsOk os := hF.2.ops (z, os) (look_mem hl)
      obtain ⟨b, x, y, rfl, hb, hx, hy⟩ := Tp.pair tv
      cases hy.istr
      obtain ⟨dx, v1, v2, v3, v4, v5, hA, t3, t4⟩ := id hF.1
      refine ⟨_, rfl, _, rfl, a, dx, _, rfl, hA, ff_options, _, rfl, b, _, _, _, rfl, rfl, SqT.of hb, rfl, a, z, F.c, F.r, _, rfl, hF.1, hlc, fun ov to => ?_⟩
      obtain ⟨c, xs, rfl, hc, tq⟩ := Tp.inv to
      have lo : xs.length = os.length := by rw [tq.length, List.length_map]
      refine ⟨c, rfl, ⟨_, SqT.of hc⟩, fun D hD => ?_⟩
      refine lc_tup (xs := xs) (fun i H3 => Same H H3 ∧ H3 D = some (.lst (((os.take i).map Prod.snd).map V.str))) ?_ ?_ ?_ ?_
      · exact ⟨Same.new hD, upd_same⟩
      · rintro i H3 _ ⟨S3, _⟩
        exact SqT.of (S3 _ _ hc)
      · rintro i w' H3 hw ⟨S3, h3⟩
        obtain ⟨o, t, ho, rfl, ht⟩ := opts_at tq hw
        have hi := (List.getElem?_eq_some_iff.mp ho).1
        refine ⟨t, _, rfl, SqT.of (S3 _ _ ht), rfl, _, _, rfl, _, _, rfl, rfl, rfl, yes (iteT ?_)⟩
        refine ⟨_, rfl, _, h3, ?_, Same.wr S3 hD, ?_⟩
        · rw [List.length_map, List.length_map, List.length_take, sizeLine_eq]
          have := oko.len
          omega
        · rw [upd_same, List.take_add_one, ho, List.map_append, List.map_append]
          rfl
      · rintro H3 ⟨S3, h3⟩
        rw [lo, List.take_length] at h3
        refine ⟨D, _, rfl, .inl (SqL.of h3), rfl, flat_strs _, ?_⟩
        rw [in_strs, decide_eq_true (List.mem_map.mpr ⟨(n, u), hm, rfl⟩)]
        exact q H3 S3
theorem ok_has {f : Addr} {fd : FuncData} (F : Fun K "has_names" "has_names" sHas f fd) (G : Glb mg) (W : Wn mg) : FnOk P w K mg base CX0 1 f fd ["fields", "thing"] spHas := by
  refine F.ok scHas (fun vs H Q E h => ?_) (fun cdv A outer s H vs Q E hr h => ?_)
  · obtain ⟨v, d, fl, kvs, fs, rfl, _⟩ := h
    rfl
  · obtain ⟨v, d, fl, kvs, fs, rfl, tv, lf, nf, hd, ek, vs', nd, inn, must, q⟩ := h
    have hu := hu_of hr
    refine ⟨_, (pss_cons (ps_if (pt_not (pt_val (pe_callB (cr_all rfl) (by rfl) W.all (by decide +kernel) (pa_cons (pe_lc (own := [("number", 2), ("name", 3), ("kind", 4), ("need", 5)]) (g := (gTup K 4 (gCons (gName 2) (gCons (gName 3) (gCons (gName 4) (gCons (gName 5) gNil)))))) (te := tDIn (tVar 3) (tVar 1)) rfl scHas.nd (pi_tup (pv 0)) (blkOk_by (N := nHas) (sc := defScope sHas) (by decide +kernel)) (fun _ _ _ _ _ => (pg_tup rfl (pgs_cons (pg_name (i := 2) scHas.nd rfl (Or.inl rfl)) (pgs_cons (pg_name (i := 3) scHas.nd rfl (Or.inl rfl)) (pgs_cons (pg_name (i := 4) scHas.nd rfl (Or.inl rfl)) (pgs_cons (pg_name (i := 5) scHas.nd rfl (Or.inl rfl)) pgs_nil)))))) (fun _ _ _ _ _ => pts_one (pt_cmpR op_eq (pv 5) pe_str (nomark _))) (fun _ _ _ _ _ => (pe_cmp (pc_din hu (pv 3) (pv 1)) rfl))) pa_nil))))
      (pss_one (ps_ret pe_bl))
      pss_nil)
      (pss_one (ps_ret (pe_cmpR op_eq (pe_callB call_lenD (by rfl) G.len (by decide +kernel) (pa_cons (pv 1) pa_nil)) (pe_callB call_len_seq (by rfl) G.len (by decide +kernel) (pa_cons (pe_lc (own := [("field", 6)]) (g := (gName 6)) (tt := tTest (tDIn (tOp (rIxT K) (tVar 6) (tC (.int 1))) (tVar 1))) (te := tVar 6) rfl scHas.nd (pi_tup (pv 0)) (blkOk_by (N := nHas) (sc := defScope sHas) (by decide +kernel)) (fun _ _ _ _ _ => (pg_name (i := 6) scHas.nd rfl (Or.inl rfl))) (fun _ _ _ _ _ => pts_one (pt_cmp (pc_din hu (pe_ix ix_tup (pv 6) pe_int (fun _ _ => rfl)) (pv 1)))) (fun _ _ _ _ _ => (pv 6))) pa_nil)) (nomark _))))), ?_⟩
    obtain ⟨c, ys, rfl, hc, tys⟩ := Tp.inv tv
    have ly : ys.length = fl.length := by rw [tys.length, List.length_map]
    refine ⟨_, rfl, c, rfl, ⟨_, SqT.of hc⟩, fun D hD => ?_⟩
    refine lc_tup (xs := ys) (fun i H3 => Same H H3 ∧ ∃ m, m ≤ i ∧ H3 D = some (.lst ((List.replicate m true).map V.bl))) ?_ ?_ ?_ ?_
    · exact ⟨Same.new hD, 0, Nat.le_refl _, upd_same⟩
    · rintro i H3 _ ⟨S3, _⟩
      exact SqT.of (S3 _ _ hc)
    · rintro i y H3 hy ⟨S3, m, hm, h3⟩
      obtain ⟨g, t2, u2, hg, rfl, ht2, tu2⟩ := flds_at (fs := fl) tys hy
      have hi := (List.getElem?_eq_some_iff.mp hg).1
      refine ⟨t2, _, rfl, SqT.of (S3 _ _ ht2), rfl, _, _, rfl, _, _, rfl, _, _, rfl, _, _, rfl, rfl, rfl, ?_⟩
      refine ⟨_, rfl, rfl, _, rfl, ?_⟩
      rw [need_must]
      cases hmu : g.must with
      | false => exact iteF ⟨S3, m, Nat.le_succ_of_le hm, h3⟩
      | true =>
        obtain ⟨w', hw⟩ := must g (List.mem_of_getElem? hg) hmu
        obtain ⟨x, hx, _⟩ := (vd_at ek vs' g.nam).2 w' hw
        have hg3 : DGet H3 d (.str g.nam) (some x) := by
          have z1 := DGet.k (k := Sum.inr g.nam) (S3 _ _ hd)
          rw [hx] at z1
          exact z1
        refine iteT ⟨_, rfl, _, rfl, d, _, rfl, hg3, _, h3, ?_, Same.wr S3 hD, m + 1, Nat.succ_le_succ hm, ?_⟩
        · rw [List.length_map, List.length_replicate, sizeLine_eq]
          omega
        · rw [upd_same, List.replicate_succ', List.map_append]
          rfl
    · rintro H3 ⟨S3, m, hm, h3⟩
      refine ⟨D, _, rfl, SqL.of h3, true, ?_, iteF ?_⟩
      · have e : ((List.replicate m true).all id) = true := by
          rw [List.all_eq_true]
          intro b hb
          exact (List.eq_of_mem_replicate hb)
        rw [e]
      refine ⟨_, rfl, d, kvs, rfl, S3 _ _ hd, ?_⟩
      refine ⟨_, rfl, c, rfl, ⟨_, SqT.of (S3 _ _ hc)⟩, fun D2 hD2 => ?_⟩
      refine lc_tup (xs := ys) (fun i H4 => Same H3 H4 ∧ ∃ us : List V, us.length = ((fl.take i).filter fun g => (fs.lookup g.nam).isSome).length ∧ H4 D2 = some (.lst us)) ?_ ?_ ?_ ?_
      · exact ⟨Same.new hD2, [], rfl, upd_same⟩
      · rintro i H4 _ ⟨S4, _⟩
        exact SqT.of (S4 _ _ (S3 _ _ hc))
      · rintro i y H4 hy ⟨S4, us, lu, h4⟩
        obtain ⟨g, t2, u2, hg, rfl, ht2, tu2⟩ := flds_at (fs := fl) tys hy
        have hi := (List.getElem?_eq_some_iff.mp hg).1
        have next : ((fl.take (i + 1)).filter fun g => (fs.lookup g.nam).isSome) = ((fl.take i).filter fun g => (fs.lookup g.nam).isSome) ++ (if (fs.lookup g.nam).isSome = true then [g] else []) := by
          rw [List.take_add_one, hg, List.filter_append]
          congr 1
          show List.filter _ [g] = _
          rw [List.filter_cons]
          rfl
        refine ⟨rfl, ?_⟩
        have hd4 := S4 _ _ (S3 _ _ hd)
        refine ⟨_, rfl, t2, _, _, .str g.nam, rfl, rfl, SqT.of (S4 _ _ (S3 _ _ ht2)), rfl, _, rfl, d, _, rfl, DGet.k (k := Sum.inr g.nam) hd4, _, rfl, ?_⟩
        obtain ⟨n0, n1⟩ := vd_at ek vs' g.nam
        cases hlk : fs.lookup g.nam with
        | none =>
          rw [n0 hlk]
          refine iteF ⟨S4, us, ?_, h4⟩
          rw [next, hlk, if_neg (by decide), List.append_nil]
          exact lu
        | some w' =>
          obtain ⟨x, hx, _⟩ := n1 w' hlk
          rw [hx]
          refine iteT ⟨_, rfl, _, h4, ?_, Same.wr S4 hD2, us ++ [.ref t2], ?_, upd_same⟩
          · rw [lu, sizeLine_eq]
            have z1 := List.length_filter_le (fun g : Fl => (fs.lookup g.nam).isSome) (fl.take i)
            rw [List.length_take] at z1
            omega
          · rw [next, hlk, if_pos (show (some w').isSome = true from rfl), List.length_append, List.length_append, lu]
            rfl
      · rintro H4 ⟨S4, us, lu, h4⟩
        rw [ly, List.take_length, same_count nf nd inn] at lu
        refine ⟨D2, _, rfl, .inl (SqL.of h4), rfl, ?_⟩
        have lk : kvs.length = fs.length := by
          have z1 := congrArg List.length ek
          rwa [List.length_map, List.length_map] at z1
        have e : decide (V.int (kvs.length : Nat) = V.int (us.length : Nat)) = true := decide_eq_true (by rw [lk, lu])
        rw [e]
        exact q H4 (fun b o e => S4 b o (S3 b o e))
end
end Fh

set_option Elab.async false
set_option linter.all false
set_option maxRecDepth 100000
set_option maxHeartbeats 4000000
namespace Fh
open PySem L2 PyProof.Rows
section
variable {P : Program} {w : World} {K : PySem.W.Frag} {mg : Str → Option Value} {base : Heap}
theorem ok_rsz {C f : Addr} {fd : FuncData} {l n : Nat} (hl : 3 ≤ l) (F : Fun K "record_size" "record_size" sRsz f fd) (G : Glb mg) (W : Wn mg) (DF : HasM P w K mg base C "fields_of" 1 ["self", "record"] (spFields C)) (DH : Has P w K mg base "has_names" 1 ["fields", "thing"] spHas)
    (DZ : Has P w K mg base "size_in" l ["face", "kind", "thing", "depth", "room"] (spSin C n)) (DFs : Has P w K mg base "field_size" 3 ["size"] spFSize) : FnOk P w K mg base CX0 (l + 1) f fd ["face", "record", "thing", "depth", "room"] (spRsz C (n + 1)) := by
  refine F.ok scRsz (fun vs H Q E h => ?_) (fun cdv A outer s H vs Q E hr h => ?_)
  · obtain ⟨a, z, x, u, F, dp, room, rfl, _⟩ := h
    rfl
  · obtain ⟨a, z, x, u, F, dp, room, rfl, hF, hx, ok, hdp, hro, hr0, q⟩ := h
    have hu := hu_of hr
    refine ⟨_, (pss_cons (ps_set (i := 5) scRsz.nd rfl (Or.inl rfl) (pe_hasM DF (hr.mono (by omega)) (pv 0) (pa_cons (pv 1) pa_nil)))
      (pss_cons (ps_if (PW.pt (pw_or (pt_cmpR op_gt (pv 3) (pe_glob (v := .int 80) rfl W.deepest ⟨_, rfl⟩) (nomark _)) (pw_or (pt_not (pt_val (pe_callB call_isi (by rfl) G.isi (by decide +kernel) (pa_cons (pv 2) (pa_cons (pe_bltn (v := .ty "dict") rfl G.dict (by decide +kernel) rfl) pa_nil))))) (pw_or1 (pt_not (pt_val (pe_has DH (hr.mono (by omega)) rfl (pa_cons (pv 5) (pa_cons (pv 2) pa_nil)))))))))
      (pss_one (ps_ret pe_non))
      pss_nil)
      (pss_cons (ps_set (i := 6) scRsz.nd rfl (Or.inl rfl) pe_int)
      (pss_cons (ps_for PassesOwn.never rfl (pi_tup (pv 5)) (pg_tup rfl (pgs_cons (pg_name (i := 7) scRsz.nd rfl (Or.inl rfl)) (pgs_cons (pg_name (i := 8) scRsz.nd rfl (Or.inl rfl)) (pgs_cons (pg_name (i := 9) scRsz.nd rfl (Or.inl rfl)) (pgs_cons (pg_name (i := 10) scRsz.nd rfl (Or.inl rfl)) pgs_nil)))))
      (pss_one (ps_if (pt_cmp (pc_din hu (pv 8) (pv 2)))
      (pss_cons (ps_set (i := 11) scRsz.nd rfl (Or.inl rfl) (pe_has DZ hr rfl (pa_cons (pv 0) (pa_cons (pv 9) (pa_cons (pe_dget hu (pv 2) (pv 8) (fun _ _ => rfl)) (pa_cons (pv 3) (pa_cons (pe_op op_sub (pv 4) (pv 6)) pa_nil)))))))
      (pss_cons (ps_if (pt_cmpR op_isN (pv 11) pe_non (nomark _))
      (pss_one (ps_ret pe_non))
      pss_nil)
      (pss_one (ps_aug (i := 6) scRsz.nd rfl (Or.inl rfl) (pe_has DFs (hr.mono (by omega)) rfl (pa_cons (pv 11) pa_nil)) ip_add))))
      pss_nil)))
      (pss_one (ps_ret (pe_ifExp (pt_cmpR op_le (pv 6) (pv 4) (nomark _)) (pv 6) pe_non))))))), ?_⟩
    obtain ⟨fl, fs, rfl, hl2, nd, inn, ok', must⟩ := ok
    have ef : flds F z = fl := by unfold flds; rw [hl2]; rfl
    have ee : enc F (n + 1) (.one (.rc z)) (.rcd fs) = (fl.map (fpiece (enc F n) fs)).flatten := by
      show ((flds F z).map (fpiece (enc F n) fs)).flatten = _
      rw [ef]
    rw [ee] at hro q
    have rm := look_mem hl2
    have lf : fl.length ≤ 10 := hF.2.lf (z, fl) rm
    have nf := hF.2.nf (z, fl) rm
    have hfR := hF.1
    obtain ⟨dx, v1, v2, v3, v4, v5, hA, t3, t4⟩ := id hfR
    have hlr : F.r.lookup z = some (fieldsD fl) := by rw [look_r, hl2]; rfl
    cases hx with
    | @rcd d kvs _ hd ek eq =>
      refine ⟨_, rfl, a, dx, _, rfl, hA, ff_meth (by decide +kernel) (by decide +kernel) (by decide +kernel) (by decide +kernel) (by decide +kernel), _, rfl, a, z, F.c, F.r, _, rfl, hfR, hlr, fun ov tv => ?_⟩
      refine ⟨_, rfl, _, _, rfl, rfl, _, rfl, ?_⟩
      refine ite2 (fun h => absurd (of_decide_eq_true h) (by push_cast at hdp; omega)) (fun _ => ?_)
      refine ⟨_, rfl, _, _, .type "dict", .type "dict", true, rfl, .ty _, .base (.dK hd), rfl, true, rfl, iteF ?_⟩
      refine ⟨_, rfl, _, rfl, ov, d, fl, kvs, fs, rfl, tv, lf, nf, hd, ek, eq, nd, inn, must, fun H1 S1 => ?_⟩
      refine ⟨true, rfl, iteF ?_⟩
      obtain ⟨c, ys, rfl, hc, tys⟩ := Tp.inv tv
      have ly : ys.length = fl.length := by rw [tys.length, List.length_map]
      refine ⟨_, rfl, c, rfl, ⟨_, SqT.of (S1 _ _ hc)⟩, ?_⟩
      refine for_tup (xs := ys) (fun i σ H3 => (∃ a7 a8 a9 a10 a11, σ = [some (.ref a), some (.str z), some (.ref d), some (.int dp), some (.int room), some (.ref c), some (.int (((fl.take i).map (fpiece (enc F n) fs)).flatten.length : Nat)), a7, a8, a9, a10, a11]) ∧ Same H H3) ?_ ?_ ?_ ?_
      · exact ⟨⟨_, _, _, _, _, rfl⟩, S1⟩
      · rintro i σ H3 _ ⟨_, S3⟩
        exact SqT.of (S3 _ _ hc)
      · rintro i y σ H3 hy ⟨⟨a7, a8, a9, a10, a11, rfl⟩, S3⟩
        obtain ⟨g, t2, u2, hg, rfl, ht2, tu2⟩ := flds_at (fs := fl) tys hy
        have gm := List.mem_of_getElem? hg
        have next : ((fl.take (i + 1)).map (fpiece (enc F n) fs)).flatten = ((fl.take i).map (fpiece (enc F n) fs)).flatten ++ fpiece (enc F n) fs g := by
          rw [List.take_add_one, hg, List.map_append, List.flatten_append]
          congr 1
          show ([g].map (fpiece (enc F n) fs)).flatten = _
          rw [List.map_cons, List.map_nil, List.flatten_cons, List.flatten_nil, List.append_nil]
        have lnext : (((fl.take (i + 1)).map (fpiece (enc F n) fs)).flatten).length ≤ ((fl.map (fpiece (enc F n) fs)).flatten).length := by
          rw [List.map_take]
          exact flat_take _ _
        refine ⟨t2, _, rfl, SqT.of (S3 _ _ ht2), rfl, _, _, rfl, _, _, rfl, _, _, rfl, _, _, rfl, rfl, ?_⟩
        have hd3 := S3 _ _ hd
        refine ⟨_, rfl, _, rfl, d, _, rfl, DGet.k (k := Sum.inr g.nam) hd3, _, rfl, ?_⟩
        obtain ⟨v0, v1'⟩ := vd_at ek eq g.nam
        cases hlk : fs.lookup g.nam with
        | none =>
          rw [v0 hlk]
          have e0 : fpiece (enc F n) fs g = [] := by unfold fpiece; rw [hlk]
          rw [next, e0, List.append_nil]
          exact iteF ⟨⟨_, _, _, _, _, rfl⟩, S3⟩
        | some v =>
          obtain ⟨x, hx, vx⟩ := v1' v hlk
          rw [hx]
          refine iteT ?_
          have e0 : fpiece (enc F n) fs g = g.num :: g.kd.mark :: piece (enc F n g.kd v) := by unfold fpiece; rw [hlk]
          have hg3 : DGet H3 d (.str g.nam) (some x) := by
            have z1 := DGet.k (k := Sum.inr g.nam) hd3
            rw [hx] at z1
            exact z1
          have pn := piece_n (enc F n g.kd v)
          have lc : ((((fl.take (i + 1)).map (fpiece (enc F n) fs)).flatten.length : Nat) : Int) = (((fl.take i).map (fpiece (enc F n) fs)).flatten.length : Nat) + fsz ((enc F n g.kd v).length : Nat) := by
            rw [next, e0, List.length_append, List.length_cons, List.length_cons]
            unfold fsz
            push_cast
            omega
          have t0 := told_nn ((enc F n g.kd v).length : Nat)
          have ef2 : fsz ((enc F n g.kd v).length : Nat) = 2 + (toldN ((enc F n g.kd v).length : Nat) + ((enc F n g.kd v).length : Nat)) := rfl
          refine ⟨_, rfl, _, rfl, _, rfl, _, rfl, d, x, rfl, hg3, _, rfl, _, rfl, _, rfl, _, _, rfl, rfl, a, u2, x, g.kd, v, F, dp, _, rfl, hF.same S3, Tp.keep (Same.tk S3) _ _ tu2, vx.same S3, ok' g gm v hlk, (by push_cast at hdp; omega), by omega, by omega, fun H4 S4 => ?_⟩
          refine ⟨_, rfl, rfl, _, rfl, ?_⟩
          refine ite2 (fun h => absurd (of_decide_eq_true h) (fun e => by cases e)) (fun _ => ?_)
          refine ⟨_, rfl, _, rfl, _, rfl, by omega, fun H5 S5 => ?_⟩
          exact ⟨_, _, rfl, rfl, ⟨_, _, _, _, _, by rw [lc]; rfl⟩, fun b o e => S5 b o (S4 b o (S3 b o e))⟩
      · rintro σ H3 ⟨⟨a7, a8, a9, a10, a11, rfl⟩, S3⟩
        rw [ly, List.take_length]
        refine ⟨_, rfl, _, rfl, _, _, rfl, rfl, _, rfl, ?_⟩
        refine ite2 (fun _ => ⟨_, rfl, q H3 S3⟩) (fun h => absurd (decide_eq_true hro) h)
theorem ok_lsz {C f : Addr} {fd : FuncData} {l n : Nat} (hl : 3 ≤ l) (F : Fun K "list_size" "list_size" sLsz f fd) (G : Glb mg) (W : Wn mg) (DZ : Has P w K mg base "size_in" l ["face", "kind", "thing", "depth", "room"] (spSin C n)) (DPs : Has P w K mg base "part_size" 2 ["size"] spPart) :
    FnOk P w K mg base CX0 (l + 1) f fd ["face", "kind", "thing", "depth", "room"] (spLsz C (n + 1)) := by
  refine F.ok scLsz (fun vs H Q E h => ?_) (fun cdv A outer s H vs Q E hr h => ?_)
  · obtain ⟨a, v, x, b, u, F, dp, room, rfl, _⟩ := h
    rfl
  · obtain ⟨a, v, x, b, u, F, dp, room, rfl, hF, tv, hx, ok, hdp, hro, hr0, q⟩ := h
    refine ⟨_, (pss_cons (ps_if (PW.pt (pw_or (pt_cmpR op_gt (pv 3) (pe_glob (v := .int 80) rfl W.deepest ⟨_, rfl⟩) (nomark _)) (pw_or (pt_not (pt_val (pe_callB call_isi (by rfl) G.isi (by decide +kernel) (pa_cons (pv 2) (pa_cons (pe_bltn (v := .ty "tuple") rfl G.tuple (by decide +kernel) rfl) pa_nil))))) (pw_or1 (pt_cmpR op_gt (pe_callB call_len_seq (by rfl) G.len (by decide +kernel) (pa_cons (pv 2) pa_nil)) (pe_glob (v := .int 6) rfl W.longest_list ⟨_, rfl⟩) (nomark _))))))
      (pss_one (ps_ret pe_non))
      pss_nil)
      (pss_cons (ps_set (i := 5) scLsz.nd rfl (Or.inl rfl) pe_int)
      (pss_cons (ps_for PassesOwn.never rfl (pi_tup (pv 2)) (pg_name (i := 6) scLsz.nd rfl (Or.inl rfl))
      (pss_cons (ps_set (i := 7) scLsz.nd rfl (Or.inl rfl) (pe_has DZ hr rfl (pa_cons (pv 0) (pa_cons (pv 1) (pa_cons (pv 6) (pa_cons (pv 3) (pa_cons (pe_op op_sub (pv 4) (pv 5)) pa_nil)))))))
      (pss_cons (ps_if (pt_cmpR op_isN (pv 7) pe_non (nomark _))
      (pss_one (ps_ret pe_non))
      pss_nil)
      (pss_one (ps_aug (i := 5) scLsz.nd rfl (Or.inl rfl) (pe_has DPs (hr.mono (by omega)) rfl (pa_cons (pv 7) pa_nil)) ip_add)))))
      (pss_one (ps_ret (pe_ifExp (pt_cmpR op_le (pv 5) (pv 4) (nomark _)) (pv 5) pe_non)))))), ?_⟩
    obtain ⟨xs, rfl, nb, l6, ok'⟩ := ok
    have ee : enc F (n + 1) (.lst b) (.lst xs) = b.mark :: (xs.map fun x => piece (enc F n (.one b) x)).flatten := rfl
    rw [ee, List.length_cons] at hro q
    cases hx with
    | @lst d ys _ hd eq =>
      have ly := eq.length
      refine ⟨_, rfl, _, _, rfl, rfl, _, rfl, ?_⟩
      refine ite2 (fun h => absurd (of_decide_eq_true h) (by push_cast at hdp; omega)) (fun _ => ?_)
      refine ⟨_, rfl, _, _, .type "tuple", .type "tuple", true, rfl, .ty _, .base (.tup hd), rfl, true, rfl, iteF ?_⟩
      refine ⟨_, rfl, d, _, rfl, .inr (.inl (.inl hd)), _, _, rfl, rfl, _, rfl, ?_⟩
      refine ite2 (fun h => absurd (of_decide_eq_true h) (by omega)) (fun _ => ?_)
      refine ⟨_, rfl, d, rfl, ⟨_, SqT.of hd⟩, ?_⟩
      refine for_tup (xs := ys) (fun i σ H3 => (∃ a6 a7, σ = [some (.ref a), some v, some (.ref d), some (.int dp), some (.int room), some (.int (((xs.take i).map fun x => piece (enc F n (.one b) x)).flatten.length + 1 : Nat)), a6, a7]) ∧ Same H H3) ?_ ?_ ?_ ?_
      · exact ⟨⟨_, _, rfl⟩, Same.refl H⟩
      · rintro i σ H3 _ ⟨_, S3⟩
        exact SqT.of (S3 _ _ hd)
      · rintro i y σ H3 hy ⟨⟨a6, a7, rfl⟩, S3⟩
        obtain ⟨u, hu, vu⟩ := eq.get hy
        have um := List.mem_of_getElem? hu
        have next : ((xs.take (i + 1)).map fun x => piece (enc F n (.one b) x)).flatten = ((xs.take i).map fun x => piece (enc F n (.one b) x)).flatten ++ piece (enc F n (.one b) u) := by
          rw [List.take_add_one, hu, List.map_append, List.flatten_append]
          congr 1
          show ([u].map fun x => piece (enc F n (.one b) x)).flatten = _
          rw [List.map_cons, List.map_nil, List.flatten_cons, List.flatten_nil, List.append_nil]
        have lnext : (((xs.take (i + 1)).map fun x => piece (enc F n (.one b) x)).flatten).length ≤ ((xs.map fun x => piece (enc F n (.one b) x)).flatten).length := by
          rw [List.map_take]
          exact flat_take _ _
        have pn := piece_n (enc F n (.one b) u)
        have lc : (((((xs.take (i + 1)).map fun x => piece (enc F n (.one b) x)).flatten.length + 1 : Nat)) : Int) = ((((xs.take i).map fun x => piece (enc F n (.one b) x)).flatten.length + 1 : Nat) : Int) + (toldN ((enc F n (.one b) u).length : Nat) + ((enc F n (.one b) u).length : Nat)) := by
          rw [next, List.length_append]
          push_cast
          omega
        have t0 := told_nn ((enc F n (.one b) u).length : Nat)
        refine ⟨_, rfl, _, rfl, _, rfl, _, rfl, _, rfl, _, rfl, _, _, rfl, rfl, a, v, y, .one b, u, F, dp, _, rfl, hF.same S3, Tp.keep (Same.tk S3) _ _ tv, vu.same S3, ok' u um, (by push_cast at hdp; omega), by omega, by omega, fun H4 S4 => ?_⟩
        refine ⟨_, rfl, rfl, _, rfl, ?_⟩
        refine ite2 (fun h => absurd (of_decide_eq_true h) (fun e => by cases e)) (fun _ => ?_)
        refine ⟨_, rfl, _, rfl, _, rfl, by omega, fun H5 S5 => ?_⟩
        exact ⟨_, _, rfl, rfl, ⟨_, _, by rw [lc]; rfl⟩, fun b o e => S5 b o (S4 b o (S3 b o e))⟩
      · rintro σ H3 ⟨⟨a6, a7, rfl⟩, S3⟩
        rw [ly, List.take_length]
        refine ⟨_, rfl, _, rfl, _, _, rfl, rfl, _, rfl, ?_⟩
        refine ite2 (fun _ => ⟨_, rfl, q H3 S3⟩) (fun h => absurd (decide_eq_true hro) h)
theorem ok_sin {C f : Addr} {fd : FuncData} {l n : Nat} (hl : 3 ≤ l) (F : Fun K "size_in" "size_in" sSin f fd) (G : Glb mg) (DN : Has P w K mg base "names_nobody" 3 ["face", "kind"] (spNob C fun _ => True)) (DW : Has P w K mg base "word_of" 1 ["kind"] spWord) (DR : Has P w K mg base "record_size" l ["face", "record", "thing", "depth", "room"] (spRsz C (n + 1)))
    (DL : Has P w K mg base "list_size" l ["face", "kind", "thing", "depth", "room"] (spLsz C (n + 1))) (DT : Has P w K mg base "is_text" 2 ["thing"] spItx) (DD : Has P w K mg base "digits_of" 1 ["number"] spDigE) (DU : Has P w K mg base "number_of" 2 ["face", "kind", "value"] (spNum C)) (DI : Has P w K mg base "is_numbered" 2 ["face", "kind", "thing"] (spInu C)) :
    FnOk P w K mg base CX0 (l + 1) f fd ["face", "kind", "thing", "depth", "room"] (spSin C (n + 1)) := by
  refine F.ok scSin (fun vs H Q E h => ?_) (fun cdv A outer s H vs Q E hr h => ?_)
  · obtain ⟨a, v, x, k, u, F, dp, room, rfl, _⟩ := h
    rfl
  · obtain ⟨a, v, x, k, u, F, dp, room, rfl, hF, tv, hx, ok, hdp, hro, hr0, q⟩ := h
    refine ⟨_, (pss_cons (ps_if (pt_val (pe_has DN (hr.mono (by omega)) rfl (pa_cons (pv 0) (pa_cons (pv 1) pa_nil))))
      (pss_one (ps_ret pe_non))
      pss_nil)
      (pss_cons (ps_set (i := 5) scSin.nd rfl (Or.inl rfl) (pe_has DW (hr.mono (by omega)) rfl (pa_cons (pv 1) pa_nil)))
      (pss_cons (ps_if (pt_cmpR op_eq (pv 5) pe_str (nomark _))
      (pss_one (ps_ret (pe_has DR hr rfl (pa_cons (pv 0) (pa_cons (pe_ix ix_tup (pv 1) pe_int (fun _ _ => rfl)) (pa_cons (pv 2) (pa_cons (pe_op op_add (pv 3) pe_int) (pa_cons (pv 4) pa_nil))))))))
      pss_nil)
      (pss_cons (ps_if (pt_cmpR op_eq (pv 5) pe_str (nomark _))
      (pss_one (ps_ret (pe_has DL hr rfl (pa_cons (pv 0) (pa_cons (pe_ix ix_tup (pv 1) pe_int (fun _ _ => rfl)) (pa_cons (pv 2) (pa_cons (pe_op op_add (pv 3) pe_int) (pa_cons (pv 4) pa_nil))))))))
      pss_nil)
      (pss_cons (ps_if (pt_cmpR op_eq (pv 5) pe_str (nomark _))
      (pss_one (ps_ret (pe_ifExp (pt_val (pe_has DT (hr.mono (by omega)) rfl (pa_cons (pv 2) pa_nil))) (pe_callB call_len_str (by rfl) G.len (by decide +kernel) (pa_cons (pv 2) pa_nil)) pe_non)))
      pss_nil)
      (pss_one (ps_ret (pe_ifExp (pt_val (pe_has DI (hr.mono (by omega)) rfl (pa_cons (pv 0) (pa_cons (pv 1) (pa_cons (pv 2) pa_nil))))) (pe_callB call_len_seq (by rfl) G.len (by decide +kernel) (pa_cons (pe_has DD (hr.mono (by omega)) rfl (pa_cons (pe_has DU (hr.mono (by omega)) rfl (pa_cons (pv 0) (pa_cons (pv 1) (pa_cons (pv 2) pa_nil)))) pa_nil)) pa_nil)) pe_non)))))))), ?_⟩
    have nob := ok_nobF ok
    refine ⟨_, rfl, _, rfl, a, v, k, F.c, F.r, rfl, hF.1, by unfold Fc.c; rw [List.length_map]; exact hF.2.lc, by unfold Fc.r; rw [List.length_map]; exact hF.2.lr, tv, trivial, fun H1 S1 => ?_⟩
    rw [nob]
    refine ⟨false, rfl, iteF ?_⟩
    have hF1 := hF.same S1
    have tv1 := Tp.keep (Same.tk S1) _ _ tv
    have hx1 := hx.same S1
    replace q : ∀ (H' : Hp), Same H1 H' → Q (.int (enc F (n + 1) k u).length) H' := fun H' s' => q H' (fun b o e => s' b o (S1 b o e))
    refine ⟨_, rfl, v, k, rfl, tv1, ?_⟩
    refine ⟨_, rfl, rfl, _, rfl, ?_⟩
    rcases kn_inv tv1 with ⟨rfl, hk⟩ | ⟨b, y, rfl, hb, ty⟩
    · rcases hk with rfl | rfl | rfl
      · refine ite2 (fun h => absurd (of_decide_eq_true h) (sne (by decide +kernel : ("whole" : Str) ≠ "record"))) (fun _ => ?_)
        refine ⟨_, rfl, rfl, _, rfl, ?_⟩
        refine ite2 (fun h => absurd (of_decide_eq_true h) (sne (by decide +kernel : ("whole" : Str) ≠ "list"))) (fun _ => ?_)
        refine ⟨_, rfl, rfl, _, rfl, ?_⟩
        refine ite2 (fun h => absurd (of_decide_eq_true h) (sne (by decide +kernel : ("whole" : Str) ≠ "text"))) (fun _ => ?_)
        obtain ⟨i, rfl, i0, i1⟩ := ok
        cases hx1
        refine ⟨_, rfl, _, rfl, _, rfl, a, _, _, .one .whole, F, rfl, hF1, tv1, .inl ⟨rfl, i, rfl, i0, i1⟩, fun H2 S2 => ⟨true, rfl, iteT ?_⟩⟩
        refine ⟨_, rfl, _, rfl, _, rfl, a, _, _, .one .whole, F.c, F.r, rfl, hF1.1.same S2, Tp.keep (Same.tk S2) _ _ tv1, .inl ⟨rfl, i, rfl, ?_⟩⟩
        have e : ((i.toNat : Nat) : Int) = i := by omega
        refine ⟨i.toNat, by rw [e]; rfl, by omega, fun p H3 S3 hp h3 => ⟨p, _, rfl, .inl (SqL.of h3), ?_⟩⟩
        rw [List.length_map]
        exact q H3 (fun b o e => S3 b o (S2 b o e))
      · refine ite2 (fun h => absurd (of_decide_eq_true h) (sne (by decide +kernel : ("truth" : Str) ≠ "record"))) (fun _ => ?_)
        refine ⟨_, rfl, rfl, _, rfl, ?_⟩
        refine ite2 (fun h => absurd (of_decide_eq_true h) (sne (by decide +kernel : ("truth" : Str) ≠ "list"))) (fun _ => ?_)
        refine ⟨_, rfl, rfl, _, rfl, ?_⟩
        refine ite2 (fun h => absurd (of_decide_eq_true h) (sne (by decide +kernel : ("truth" : Str) ≠ "text"))) (fun _ => ?_)
        obtain ⟨t, rfl⟩ := ok
        cases hx1
        refine ⟨_, rfl, _, rfl, _, rfl, a, _, _, .one .truth, F, rfl, hF1, tv1, .inr (.inl ⟨rfl, t, rfl⟩), fun H2 S2 => ⟨true, rfl, iteT ?_⟩⟩
        refine ⟨_, rfl, _, rfl, _, rfl, a, _, _, .one .truth, F.c, F.r, rfl, hF1.1.same S2, Tp.keep (Same.tk S2) _ _ tv1, .inr (.inl ⟨rfl, t, rfl, ?_⟩)⟩
        cases t with
        | true =>
          refine ⟨1, rfl, by decide, fun p H3 S3 hp h3 => ⟨p, _, rfl, .inl (SqL.of h3), ?_⟩⟩
          rw [List.length_map]
          exact q H3 (fun b o e => S3 b o (S2 b o e))
        | false =>
          refine ⟨0, rfl, by decide, fun p H3 S3 hp h3 => ⟨p, _, rfl, .inl (SqL.of h3), ?_⟩⟩
          rw [List.length_map]
          exact q H3 (fun b o e => S3 b o (S2 b o e))
      · refine ite2 (fun h => absurd (of_decide_eq_true h) (sne (by decide +kernel : ("text" : Str) ≠ "record"))) (fun _ => ?_)
        refine ⟨_, rfl, rfl, _, rfl, ?_⟩
        refine ite2 (fun h => absurd (of_decide_eq_true h) (sne (by decide +kernel : ("text" : Str) ≠ "list"))) (fun _ => ?_)
        refine ⟨_, rfl, rfl, _, rfl, ?_⟩
        refine ite2 (fun _ => ?_) (fun h => absurd (decide_eq_true rfl) h)
        obtain ⟨z, rfl, lz, sz⟩ := ok
        cases hx1
        refine ⟨_, rfl, z, rfl, lz, sz, fun H2 S2 => ⟨true, rfl, iteT ?_⟩⟩
        refine ⟨_, rfl, z, rfl, Nat.le_trans lz (by decide), ?_⟩
        have e : z.length = (enc F (n + 1) (.one .text) (.txt z)).length := by
          show z.cps.size = (z.cps.toList.map (fun c : Nat => (c : Int))).length
          rw [List.length_map, Array.length_toList]
        rw [e]
        exact q H2 S2
    · cases k with
      | lst k' =>
        refine ite2 (fun h => absurd (of_decide_eq_true h) (sne (by decide +kernel : ("list" : Str) ≠ "record"))) (fun _ => ?_)
        refine ⟨_, rfl, rfl, _, rfl, ?_⟩
        refine ite2 (fun _ => ?_) (fun h => absurd (decide_eq_true rfl) h)
        exact ⟨_, rfl, _, rfl, b, _, _, _, rfl, rfl, SqT.of hb, rfl, _, rfl, _, rfl, _, _, rfl, rfl, _, rfl, a, y, x, k', u, F, dp + 1, room, rfl, hF1, ty, hx1, ok, (by push_cast at hdp ⊢; omega), hro, hr0, q⟩
      | one k' =>
        cases k' with
        | whole => cases tv
        | truth => cases tv
        | text => cases tv
        | rc z =>
          cases ty.istr
          refine ite2 (fun _ => ?_) (fun h => absurd (decide_eq_true rfl) h)
          exact ⟨_, rfl, _, rfl, b, _, _, _, rfl, rfl, SqT.of hb, rfl, _, rfl, _, rfl, _, _, rfl, rfl, _, rfl, a, z, x, u, F, dp + 1, room, rfl, hF1, hx1, ok, (by push_cast at hdp ⊢; omega), hro, hr0, q⟩
        | ch z =>
          cases ty.istr
          refine ite2 (fun h => absurd (of_decide_eq_true h) (sne (by decide +kernel : ("choice" : Str) ≠ "record"))) (fun _ => ?_)
          refine ⟨_, rfl, rfl, _, rfl, ?_⟩
          refine ite2 (fun h => absurd (of_decide_eq_true h) (sne (by decide +kernel : ("choice" : Str) ≠ "list"))) (fun _ => ?_)
          refine ⟨_, rfl, rfl, _, rfl, ?_⟩
          refine ite2 (fun h => absurd (of_decide_eq_true h) (sne (by decide +kernel : ("choice" : Str) ≠ "text"))) (fun _ => ?_)
          obtain ⟨u', os, m, rfl, hlk, hm⟩ := ok
          cases hx1
          have oko : OptsOk os := hF.2.ops (z, os) (look_mem hlk)
          have em := optN_of hlk oko hm
          have r := oko.rg _ hm
          have hlc : F.c.lookup z = some (optsD os) := by rw [look_c, hlk]; rfl
          refine ⟨_, rfl, _, rfl, _, rfl, a, _, _, .one (.ch z), F, rfl, hF1, tv1, .inr (.inr ⟨z, os, m, u', rfl, hlk, hm, rfl⟩), fun H2 S2 => ⟨true, rfl, iteT ?_⟩⟩
          refine ⟨_, rfl, _, rfl, _, rfl, a, _, _, .one (.ch z), F.c, F.r, rfl, hF1.1.same S2, Tp.keep (Same.tk S2) _ _ tv1, .inr (.inr ⟨z, os, m, u', rfl, hlc, oko, hm, rfl, fun H3 S3 => ?_⟩)⟩
          refine ⟨optN F z u', by rw [em]; rfl, by omega, fun p H4 S4 hp h4 => ⟨p, _, rfl, .inl (SqL.of h4), ?_⟩⟩
          rw [List.length_map]
          exact q H4 (fun b o e => S4 b o (S3 b o (S2 b o e)))
theorem ok_iva {C f : Addr} {fd : FuncData} {l n : Nat} (hl : 1 ≤ l) (F : Fun K "is_value" "is_value" sIva f fd) (W : Wn mg) (DF : HasM P w K mg base C "fields_of" 1 ["self", "record"] (spFields C)) (DZ : Has P w K mg base "size_in" l ["face", "kind", "thing", "depth", "room"] (spSin C n)) : FnOk P w K mg base CX0 (l + 1) f fd ["face", "record", "thing"] (spIva C n) := by
  refine F.ok scIva (fun vs H Q E h => ?_) (fun cdv A outer s H vs Q E hr h => ?_)
  · obtain ⟨a, z, x, u, F, rfl, _⟩ := h
    rfl
  · obtain ⟨a, z, x, u, F, rfl, hF, hx, ok, hn, le, q⟩ := h
    refine ⟨_, (pss_cons (ps_expr (pe_hasM DF (hr.mono (by omega)) (pv 0) (pa_cons (pv 1) pa_nil)))
      (pss_one (ps_ret (pe_cmpR op_notN (pe_has DZ (hr.mono (by omega)) rfl (pa_cons (pv 0) (pa_cons (pe_tup (pa_cons pe_str (pa_cons (pv 1) pa_nil))) (pa_cons (pv 2) (pa_cons pe_int (pa_cons (pe_glob (v := .int 10000) rfl W.greatest_body ⟨_, rfl⟩) pa_nil)))))) pe_non (nomark _))))), ?_⟩
    have hlr : ∃ d, F.r.lookup z = some d := by
      cases n with
      | zero => exact ok.elim
      | succ n =>
        obtain ⟨fl, fs, _, hl2, _⟩ := ok
        exact ⟨_, by rw [look_r, hl2]; rfl⟩
    obtain ⟨d, hlr⟩ := hlr
    obtain ⟨dx, v1, v2, v3, v4, v5, hA, t3, t4⟩ := id hF.1
    refine ⟨_, rfl, a, dx, _, rfl, hA, ff_meth (by decide +kernel) (by decide +kernel) (by decide +kernel) (by decide +kernel) (by decide +kernel), _, rfl, a, z, F.c, F.r, d, rfl, hF.1, hlr, fun ov tv => ?_⟩
    refine ⟨_, rfl, _, rfl, (by show 2 ≤ sizeLine; decide), fun t ht => ?_⟩
    have S1 : Same H (upd H t (.tup [.str "record", .str z])) := Same.new ht
    refine ⟨_, rfl, a, .ref t, x, .one (.rc z), u, F, 0, 10000, rfl, hF.same S1, .tup upd_same (.cons (.str _) (.cons (.str _) .nil)), hx.same S1, ok, by omega, by omega, by decide, fun H2 S2 => ?_⟩
    exact ⟨rfl, q H2 (fun b o e => S2 b o (S1 b o e))⟩
end
end Fh

set_option Elab.async false
set_option linter.all false
set_option maxRecDepth 100000
set_option maxHeartbeats 4000000
namespace Fh
open PySem L2 PyProof.Rows
/-! ### least values -/
def lvR (R : Kn → Vl) (fl : List Fl) : List (Str × Vl) := (fl.filter (·.must)).map fun g => (g.nam, R g.kd)
def lvS (F : Fc) (R : Kn → Vl) : Kn → Vl
  | .one .whole => .num 0
  | .one .truth => .tru false
  | .one .text => .txt ""
  | .one (.ch c) => .txt (((opts F c).head?.map Prod.snd).getD "")
  | .one (.rc z) => .rcd (lvR R (flds F z))
  | .lst _ => .lst []
def lv (F : Fc) : Nat → Kn → Vl
  | 0 => fun _ => .num 0
  | n + 1 => lvS F (lv F n)
def WfS (F : Fc) (R : Kn → Prop) : Kn → Prop
  | .one (.ch c) => ∃ o os, F.cs.lookup c = some (o :: os)
  | .one (.rc z) => ∃ fl, F.rs.lookup z = some fl ∧ ∀ g ∈ fl, g.must = true → R g.kd
  | .lst b => nobB F.c F.r b = false
  | _ => True
def Wfr (F : Fc) : Nat → Kn → Prop
  | 0 => fun _ => False
  | n + 1 => WfS F (Wfr F n)
theorem wfS_up {F : Fc} {R R' : Kn → Prop} (h : ∀ k, R k → R' k) {k : Kn} (q : WfS F R k) : WfS F R' k := by
  cases k with
  | lst b => exact q
  | one b =>
    cases b with
    | whole => exact True.intro
    | truth => exact True.intro
    | text => exact True.intro
    | ch c => exact q
    | rc z =>
      obtain ⟨fl, e, q⟩ := q
      exact ⟨fl, e, fun g hg m => h _ (q g hg m)⟩
theorem wf_up {F : Fc} : ∀ {n : Nat} {k : Kn}, Wfr F n k → Wfr F (n + 1) k
  | 0, _, h => h.elim
  | n + 1, _, h => wfS_up (fun _ q => wf_up q) h
theorem wf_le {F : Fc} {n m : Nat} {k : Kn} (h : Wfr F n k) (l : n ≤ m) : Wfr F m k := by
  induction l with
  | refl => exact h
  | step _ ih => exact wf_up ih
theorem lvR_congr {R R' : Kn → Vl} {fl : List Fl} (h : ∀ g ∈ fl, g.must = true → R g.kd = R' g.kd) : lvR R fl = lvR R' fl := by
  unfold lvR
  refine List.map_congr_left fun g hg => ?_
  obtain ⟨a, b⟩ := List.mem_filter.mp hg
  rw [h g a b]
theorem lv_up {F : Fc} : ∀ {n : Nat} {k : Kn}, Wfr F n k → lv F (n + 1) k = lv F n k
  | 0, _, h => h.elim
  | n + 1, k, h => by
    cases k with
    | lst b => rfl
    | one b =>
      cases b with
      | whole => rfl
      | truth => rfl
      | text => rfl
      | ch c => rfl
      | rc z =>
        obtain ⟨fl, e, q⟩ := h
        show Vl.rcd (lvR (lv F (n + 1)) (flds F z)) = Vl.rcd (lvR (lv F n) (flds F z))
        unfold flds
        rw [e]
        exact congrArg Vl.rcd (lvR_congr fun g hg m => lv_up (q g hg m))
theorem lv_le {F : Fc} {n m : Nat} {k : Kn} (h : Wfr F n k) (l : n ≤ m) : lv F m k = lv F n k := by
  induction l with
  | refl => rfl
  | step l ih => rw [lv_up (wf_le h l), ih]
theorem lk_out {R : Kn → Vl} : ∀ {fl : List Fl} {z : Str}, z ∉ fl.map (·.nam) → (lvR R fl).lookup z = none
  | [], _, _ => rfl
  | h :: fl, z, q => by
    have q1 : z ≠ h.nam := fun e => q (by rw [e]; exact List.mem_cons_self)
    have ih := lk_out (R := R) (fl := fl) (z := z) fun m => q (List.mem_cons_of_mem _ m)
    unfold lvR at ih ⊢
    rw [List.filter_cons]
    split
    · rw [List.map_cons, List.lookup_cons, beq_eq_false_iff_ne.mpr q1]
      exact ih
    · exact ih
theorem lk_in {R : Kn → Vl} : ∀ {fl : List Fl} {g : Fl}, (fl.map (·.nam)).Nodup → g ∈ fl → (lvR R fl).lookup g.nam = if g.must = true then some (R g.kd) else none
  | [], _, _, h => by cases h
  | h :: fl, g, nd, m => by
    rw [List.map_cons, List.nodup_cons] at nd
    rcases List.mem_cons.mp m with rfl | m
    · have o := lk_out (R := R) nd.1
      unfold lvR at o ⊢
      rw [List.filter_cons]
      by_cases c : g.must = true
      · rw [if_pos c, if_pos c, List.map_cons, List.lookup_cons, beq_self_eq_true]
      · rw [if_neg c, if_neg c]
        exact o
    · have ih := lk_in (R := R) nd.2 m
      have ne : g.nam ≠ h.nam := fun e => nd.1 (by rw [← e]; exact List.mem_map.mpr ⟨g, m, rfl⟩)
      unfold lvR at ih ⊢
      rw [List.filter_cons]
      split
      · rw [List.map_cons, List.lookup_cons, beq_eq_false_iff_ne.mpr ne]
        exact ih
      · exact ih
theorem lv_keys {R : Kn → Vl} (fl : List Fl) : (lvR R fl).map Prod.fst = (fl.filter (·.must)).map (·.nam) := by
  unfold lvR
  rw [List.map_map]
  rfl
theorem ok_lv {F : Fc} (fo : FcOk F) : ∀ {n : Nat} {k : Kn}, Wfr F n k → Ok F n k (lv F n k)
  | 0, _, h => h.elim
  | n + 1, k, h => by
    cases k with
    | lst b => exact ⟨[], rfl, h, by decide, fun x hx => by cases hx⟩
    | one b =>
      cases b with
      | whole => exact ⟨0, rfl, by decide, by decide⟩
      | truth => exact ⟨false, rfl⟩
      | text => exact ⟨"", rfl, by decide +kernel, fun c hc => absurd hc (by simp [show ("" : Str).cps.toList = [] from rfl])⟩
      | ch c =>
        obtain ⟨o, os, e⟩ := h
        refine ⟨o.2, o :: os, o.1, ?_, e, List.mem_cons_self⟩
        show Vl.txt (((opts F c).head?.map Prod.snd).getD "") = _
        unfold opts
        rw [e]
        rfl
      | rc z =>
        obtain ⟨fl, e, q⟩ := h
        have fz : flds F z = fl := by unfold flds; rw [e]; rfl
        have nf : (fl.map (·.nam)).Nodup := fo.nf _ (look_mem e)
        refine ⟨fl, lvR (lv F n) fl, ?_, e, ?_, ?_, ?_, ?_⟩
        · show Vl.rcd (lvR (lv F n) (flds F z)) = _
          rw [fz]
        · rw [lv_keys]
          exact nf.sublist (List.Sublist.map _ List.filter_sublist)
        · intro f hf
          obtain ⟨g, hg, rfl⟩ := List.mem_map.mp hf
          exact ⟨g, (List.mem_filter.mp hg).1, rfl⟩
        · intro g hg w hw
          rw [lk_in nf hg] at hw
          split at hw
          · rename_i m
            cases hw
            exact ok_lv fo (q g hg m)
          · cases hw
        · intro g hg m
          exact ⟨_, by rw [lk_in nf hg, if_pos m]⟩
theorem nrm_lv {F : Fc} (fo : FcOk F) : ∀ {n : Nat} {k : Kn}, Wfr F n k → nrm F n k (lv F n k) = lv F n k
  | 0, _, h => h.elim
  | n + 1, k, h => by
    cases k with
    | lst b => rfl
    | one b =>
      cases b with
      | whole => rfl
      | truth => rfl
      | text => rfl
      | ch c => rfl
      | rc z =>
        obtain ⟨fl, e, q⟩ := h
        have fz : flds F z = fl := by unfold flds; rw [e]; rfl
        have nf : (fl.map (·.nam)).Nodup := fo.nf _ (look_mem e)
        show Vl.rcd ((flds F z).filterMap fun g => ((lvR (lv F n) (flds F z)).lookup g.nam).map fun w => (g.nam, nrm F n g.kd w)) = Vl.rcd (lvR (lv F n) (flds F z))
        rw [fz]
        refine congrArg Vl.rcd ?_
        have a : ∀ gl : List Fl, (∀ g ∈ gl, g ∈ fl) → (gl.filterMap fun g => ((lvR (lv F n) fl).lookup g.nam).map fun w => (g.nam, nrm F n g.kd w)) = lvR (lv F n) gl := by
          intro gl
          induction gl with
          | nil => intro _; rfl
          | cons g gl ih =>
            intro hs
            have hg := hs g List.mem_cons_self
            have ih := ih fun x hx => hs x (List.mem_cons_of_mem _ hx)
            rw [List.filterMap_cons, lk_in nf hg, ih]
            unfold lvR
            rw [List.filter_cons]
            by_cases c : g.must = true
            · rw [if_pos c, if_pos c]
              show (g.nam, nrm F n g.kd (lv F n g.kd)) :: _ = _
              rw [nrm_lv fo (q g hg c)]
              rfl
            · rw [if_neg c, if_neg c]
              rfl
        exact a fl fun g hg => hg
/-! ### how many numbers tell a least value -/
def lsz (F : Fc) (n : Nat) (k : Kn) : Int := ((enc F n k (lv F n k)).length : Nat)
theorem enc_up {F : Fc} : ∀ {n : Nat} {k : Kn} {v : Vl}, Ok F n k v → enc F (n + 1) k v = enc F n k v
  | 0, _, _, h => h.elim
  | n + 1, k, v, h => by
    cases k with
    | lst b =>
      obtain ⟨xs, rfl, _, _, q⟩ := h
      show b.mark :: (xs.map fun x => piece (enc F (n + 1) (.one b) x)).flatten = b.mark :: (xs.map fun x => piece (enc F n (.one b) x)).flatten
      refine congrArg (fun l => b.mark :: List.flatten l) (List.map_congr_left fun x hx => ?_)
      rw [enc_up (q x hx)]
    | one b =>
      cases b with
      | whole => rfl
      | truth => rfl
      | text => rfl
      | ch c => rfl
      | rc z =>
        obtain ⟨fl, fs, rfl, e, _, _, q, _⟩ := h
        have fz : flds F z = fl := by unfold flds; rw [e]; rfl
        show ((flds F z).map (fpiece (enc F (n + 1)) fs)).flatten = ((flds F z).map (fpiece (enc F n) fs)).flatten
        rw [fz]
        refine congrArg List.flatten (List.map_congr_left fun g hg => ?_)
        unfold fpiece
        cases hw : fs.lookup g.nam with
        | none => rfl
        | some w =>
          show g.num :: g.kd.mark :: piece (enc F (n + 1) g.kd w) = _
          rw [enc_up (q g hg w hw)]
theorem lsz_up {F : Fc} (fo : FcOk F) {n : Nat} {k : Kn} (h : Wfr F n k) : lsz F (n + 1) k = lsz F n k := by
  unfold lsz
  rw [lv_up h, enc_up (ok_lv fo h)]
theorem lsz_le {F : Fc} (fo : FcOk F) {n m : Nat} {k : Kn} (h : Wfr F n k) (l : n ≤ m) : lsz F m k = lsz F n k := by
  induction l with
  | refl => rfl
  | step l ih => rw [lsz_up fo (wf_le h l), ih]
theorem lsz_rc {F : Fc} (fo : FcOk F) {n : Nat} {z : Str} {fl : List Fl} (e : F.rs.lookup z = some fl) : lsz F (n + 1) (.one (.rc z)) = ((mustKs fl).map fun k => fsz (lsz F n k)).sum := by
  have fz : flds F z = fl := by unfold flds; rw [e]; rfl
  have nf : (fl.map (·.nam)).Nodup := fo.nf _ (look_mem e)
  show (((((flds F z).map (fpiece (enc F n) (lvR (lv F n) (flds F z)))).flatten).length : Nat) : Int) = _
  rw [fz]
  have a : ∀ gl : List Fl, (∀ g ∈ gl, g ∈ fl) → ((((gl.map (fpiece (enc F n) (lvR (lv F n) fl))).flatten).length : Nat) : Int) = ((mustKs gl).map fun k => fsz (lsz F n k)).sum := by
    intro gl
    induction gl with
    | nil => intro _; rfl
    | cons g gl ih =>
      intro hs
      have hg := hs g List.mem_cons_self
      have ih := ih fun x hx => hs x (List.mem_cons_of_mem _ hx)
      rw [List.map_cons, List.flatten_cons, List.length_append, Int.natCast_add, ih]
      have m1 : mustKs (g :: gl) = (if g.must = true then [g.kd] else []) ++ mustKs gl := by
        unfold mustKs
        rw [List.filter_cons]
        split <;> rfl
      rw [m1, List.map_append, List.sum_append]
      congr 1
      unfold fpiece
      rw [lk_in nf hg]
      by_cases c : g.must = true
      · rw [if_pos c, if_pos c]
        show (((g.num :: g.kd.mark :: piece (enc F n g.kd (lv F n g.kd))).length : Nat) : Int) = [fsz (lsz F n g.kd)].sum
        have p := piece_n (enc F n g.kd (lv F n g.kd))
        rw [List.length_cons, List.length_cons, List.sum_cons, List.sum_nil]
        unfold fsz lsz
        omega
      · rw [if_neg c, if_neg c]
        rfl
  exact a fl fun g hg => hg
/-- the reckoned sizes are those of least values -/
def DV (F : Fc) (N : Nat) (D : Szs) : Prop := ∀ z v, D z = some v → Wfr F N (.one (.rc z)) ∧ lsz F N (.one (.rc z)) = v
theorem dv_k {F : Fc} (c1 : Cs1 F.c) {N : Nat} {D : Szs} (h : DV F (N + 1) D) {k : Kn} {v : Int} (e : kSz F.c F.r D k = some v) : Wfr F (N + 1) k ∧ lsz F (N + 1) k = v := by
  unfold kSz at e
  split at e
  · cases e
  · rename_i nb
    have nb : nobK F.c F.r k = false := by simpa using nb
    cases k with
    | lst b =>
      cases e
      exact ⟨nb, rfl⟩
    | one b =>
      cases b with
      | whole => cases e; exact ⟨True.intro, rfl⟩
      | truth => cases e; exact ⟨True.intro, rfl⟩
      | text => cases e; exact ⟨True.intro, rfl⟩
      | rc z => exact h z v e
      | ch c =>
        cases e
        have ni : nameIn c F.c = true := by
          have : (!nameIn c F.c) = false := nb
          simpa using this
        obtain ⟨n, u, lk, n1, n2⟩ := c1 c ni
        rw [look_c] at lk
        cases hc : F.cs.lookup c with
        | none => rw [hc] at lk; cases lk
        | some os =>
          rw [hc] at lk
          have lk : optsD os = optsD [(n, u)] := by injection lk
          have oe : os = [(n, u)] := by
            unfold optsD at lk
            injection lk with lk
            cases os with
            | nil => cases lk
            | cons o os =>
              cases os with
              | nil =>
                obtain ⟨o1, o2⟩ := o
                rw [List.map_cons, List.map_cons] at lk
                injection lk with lk _
                injection lk with lk
                injection lk with l1 l2
                injection l1 with l1
                injection l2 with l2 _
                injection l2 with l2
                have l1 : o1 = n := l1
                have l2 : o2 = u := l2
                rw [l1, l2]
              | cons => rw [List.map_cons, List.map_cons, List.map_cons] at lk; injection lk with _ lk; cases lk
          subst oe
          refine ⟨⟨(n, u), [], hc⟩, ?_⟩
          show (((digs (optN F c (((opts F c).head?.map Prod.snd).getD ""))).length : Nat) : Int) = 1
          have op : opts F c = [(n, u)] := by unfold opts; rw [hc]; rfl
          have on : optN F c u = n.toNat := by
            unfold optN
            rw [op]
            rw [List.find?_cons, decide_eq_true rfl]
            rfl
          rw [op]
          show (((digs (optN F c u)).length : Nat) : Int) = 1
          rw [on]
          unfold digs
          rw [dg_pos (by omega : 0 < n.toNat), show n.toNat / 256 = 0 by omega, dg_zero]
          rfl
theorem dv_step {F : Fc} (fo : FcOk F) (c1 : Cs1 F.c) {N : Nat} {D : Szs} {r : Rec} (hr : F.rs.lookup r.1 = some r.2) (h : DV F (N + 1) D) : DV F (N + 2) (step F.c F.r D r) := by
  have old : ∀ z v, D z = some v → Wfr F (N + 2) (.one (.rc z)) ∧ lsz F (N + 2) (.one (.rc z)) = v := fun z v e => by
    obtain ⟨a, b⟩ := h z v e
    exact ⟨wf_up a, by rw [lsz_up fo a, b]⟩
  unfold step recSz total
  split
  · exact old
  · rename_i nn
    intro z v e
    unfold putS at e
    dsimp only at e
    split at e
    · rename_i ez
      subst ez
      cases e
      have q : ∀ k ∈ mustKs r.2, ∃ s, kSz F.c F.r D k = some s := fun k hk => by
        cases hs : kSz F.c F.r D k with
        | none => exact absurd (List.mem_map.mpr ⟨k, hk, hs⟩) nn
        | some s => exact ⟨s, rfl⟩
      refine ⟨⟨r.2, hr, fun g hg m => ?_⟩, ?_⟩
      · obtain ⟨s, hs⟩ := q g.kd (List.mem_map.mpr ⟨g, List.mem_filter.mpr ⟨hg, m⟩, rfl⟩)
        exact (dv_k c1 h hs).1
      · rw [lsz_rc fo hr, List.map_map]
        refine congrArg List.sum (List.map_congr_left fun k hk => ?_)
        obtain ⟨s, hs⟩ := q k hk
        show fsz (lsz F (N + 1) k) = fsz ((kSz F.c F.r D k).getD 0)
        rw [hs, (dv_k c1 h hs).2]
        rfl
    · exact old z v e
theorem dv_turn {F : Fc} (fo : FcOk F) (c1 : Cs1 F.c) : ∀ {recs : List Rec} {N : Nat} {D : Szs}, (∀ r ∈ recs, F.rs.lookup r.1 = some r.2) → DV F (N + 1) D → DV F (N + 1 + recs.length) (turn F.c F.r recs D)
  | [], N, D, _, h => h
  | r :: recs, N, D, hr, h => by
    have q := dv_turn fo c1 (recs := recs) (N := N + 1) (fun x hx => hr x (List.mem_cons_of_mem _ hx)) (dv_step fo c1 (hr r List.mem_cons_self) h)
    rw [List.length_cons, show N + 1 + (recs.length + 1) = N + 1 + 1 + recs.length by omega]
    exact q
theorem dv_turns {F : Fc} (fo : FcOk F) (c1 : Cs1 F.c) (hr : ∀ r ∈ F.rs, F.rs.lookup r.1 = some r.2) : ∀ n, DV F (n * F.rs.length + 1) (turns F.c F.r F.rs n)
  | 0 => fun z v e => by cases e
  | n + 1 => by
    have q := dv_turn fo c1 hr (dv_turns fo c1 hr n)
    rw [show (n + 1) * F.rs.length + 1 = n * F.rs.length + 1 + F.rs.length by rw [Nat.add_mul]; omega]
    exact q
theorem dv_37 {F : Fc} (fo : FcOk F) (c1 : Cs1 F.c) (hr : ∀ r ∈ F.rs, F.rs.lookup r.1 = some r.2) (h6 : F.rs.length ≤ 6) : DV F 37 (turns F.c F.r F.rs F.rs.length) := fun z v e => by
  obtain ⟨a, b⟩ := dv_turns fo c1 hr _ z v e
  have l : F.rs.length * F.rs.length + 1 ≤ 37 := by
    have := Nat.mul_le_mul h6 h6
    omega
  exact ⟨wf_le a l, by rw [lsz_le fo a l, b]⟩
/-! ### all of them are numbers of a body -/
theorem told_by {n : Nat} (h : n ≤ 10000) : ∀ x ∈ told n, 0 ≤ x ∧ x < 256 := by
  unfold told
  intro x hx
  split at hx
  · simp at hx
    omega
  · simp at hx
    omega
theorem dg_by : ∀ f n, ∀ x ∈ dg f n, 0 ≤ x ∧ x < 256
  | 0, _, x, h => by cases h
  | f + 1, n, x, h => by
    unfold dg at h
    split at h
    · cases h
    · rcases List.mem_append.mp h with h | h
      · exact dg_by f _ x h
      · simp at h
        omega
theorem mark_by (k : Kn) : 0 ≤ k.mark ∧ k.mark < 256 := by
  cases k with
  | lst b => exact ⟨(by decide : (0 : Int) ≤ 3), (by decide : (3 : Int) < 256)⟩
  | one b =>
    cases b with
    | text => exact ⟨(by decide : (0 : Int) ≤ 2), (by decide : (2 : Int) < 256)⟩
    | rc z => exact ⟨(by decide : (0 : Int) ≤ 4), (by decide : (4 : Int) < 256)⟩
    | ch z => exact ⟨(by decide : (0 : Int) ≤ 1), (by decide : (1 : Int) < 256)⟩
    | whole => exact ⟨(by decide : (0 : Int) ≤ 1), (by decide : (1 : Int) < 256)⟩
    | truth => exact ⟨(by decide : (0 : Int) ≤ 1), (by decide : (1 : Int) < 256)⟩
theorem flat_len {α : Type} {ls : List (List α)} {l : List α} (h : l ∈ ls) : l.length ≤ ls.flatten.length := by
  induction ls with
  | nil => cases h
  | cons a ls ih =>
    rw [List.flatten_cons, List.length_append]
    rcases List.mem_cons.mp h with rfl | h
    · omega
    · have := ih h
      omega
theorem piece_by {c : List Int} (hl : (piece c).length ≤ 10000) (h : c.length ≤ 10000 → ∀ x ∈ c, 0 ≤ x ∧ x < 256) : ∀ x ∈ piece c, 0 ≤ x ∧ x < 256 := by
  unfold piece at hl ⊢
  rw [List.length_append] at hl
  intro x hx
  rcases List.mem_append.mp hx with hx | hx
  · exact told_by (by omega) x hx
  · exact h (by omega) x hx
theorem enc_by {F : Fc} (fo : FcOk F) : ∀ {n : Nat} {k : Kn} {v : Vl}, Ok F n k v → (enc F n k v).length ≤ 10000 → ∀ x ∈ enc F n k v, 0 ≤ x ∧ x < 256
  | 0, _, _, h, _ => h.elim
  | n + 1, k, v, h, hl => by
    cases k with
    | lst b =>
      obtain ⟨xs, rfl, _, _, q⟩ := h
      have hl : (b.mark :: (xs.map fun x => piece (enc F n (.one b) x)).flatten).length ≤ 10000 := hl
      show ∀ x ∈ b.mark :: (xs.map fun x => piece (enc F n (.one b) x)).flatten, _
      rw [List.length_cons] at hl
      intro x hx
      rcases List.mem_cons.mp hx with rfl | hx
      · exact mark_by (.one b)
      · obtain ⟨l, hl1, hx⟩ := List.mem_flatten.mp hx
        have fl := flat_len hl1
        obtain ⟨y, hy, rfl⟩ := List.mem_map.mp hl1
        exact piece_by (by omega) (fun l => enc_by fo (q y hy) l) x hx
    | one b =>
      cases b with
      | whole =>
        obtain ⟨i, rfl, _⟩ := h
        exact dg_by 6 _
      | truth =>
        obtain ⟨b, rfl⟩ := h
        show ∀ x ∈ (if b = true then [(1 : Int)] else []), _
        intro x hx
        split at hx
        · simp at hx; omega
        · cases hx
      | text =>
        obtain ⟨z, rfl, _, q⟩ := h
        show ∀ x ∈ z.cps.toList.map (fun c : Nat => (c : Int)), _
        intro x hx
        obtain ⟨c, hc, rfl⟩ := List.mem_map.mp hx
        have := q c hc
        unfold sgn at this
        omega
      | ch c =>
        obtain ⟨u, os, m, rfl, _⟩ := h
        exact dg_by 6 _
      | rc z =>
        obtain ⟨fl, fs, rfl, e, _, _, q, _⟩ := h
        have fz : flds F z = fl := by unfold flds; rw [e]; rfl
        have hl : (((flds F z).map (fpiece (enc F n) fs)).flatten).length ≤ 10000 := hl
        show ∀ x ∈ ((flds F z).map (fpiece (enc F n) fs)).flatten, _
        rw [fz] at hl ⊢
        intro x hx
        obtain ⟨l, hl1, hx⟩ := List.mem_flatten.mp hx
        have ll := Nat.le_trans (flat_len hl1) hl
        obtain ⟨g, hg, rfl⟩ := List.mem_map.mp hl1
        have nb := fo.nums _ (look_mem e) g hg
        unfold fpiece at hx ll
        cases hw : fs.lookup g.nam with
        | none => rw [hw] at hx; cases hx
        | some w =>
          rw [hw] at hx ll
          dsimp only at hx ll
          rw [List.length_cons, List.length_cons] at ll
          rcases List.mem_cons.mp hx with rfl | hx
          · omega
          · rcases List.mem_cons.mp hx with rfl | hx
            · exact mark_by _
            · exact piece_by (by omega) (fun l => enc_by fo (q g hg w hw) l) x hx
end Fh

set_option Elab.async false
set_option linter.all false
set_option maxRecDepth 100000
set_option maxHeartbeats 4000000
namespace Fh
open PySem L2 PyProof.Rows
def spLeo (C : Addr) (n : Nat) : Sp := fun vs H Q _ => ∃ (a : Addr) (v : V) (k : Kn) (F : Fc), vs = [.ref a, v] ∧ FaceF C H a F ∧ Tp H v k.d ∧ Wfr F n k ∧
  ∀ (x : V) (H' : Hp), Same H H' → VD (Nw H H') x (lv F n k) → Q x H'
/-- the table of least values -/
structure Plains (K : PySem.W.Frag) (w : World) (mg : Str → Option Value) : Prop where
  ex : ∃ M : Addr, mg "LEAST_PLAIN" = some (.ref M) ∧ KDct K w M "whole" (.int 0) ∧ KDct K w M "truth" (.bl false) ∧ KDct K w M "text" (.str "")
theorem ff_fields {v1 v2 v3 v4 v5 : V} : (ff v1 v2 v3 v4 v5).lookup ("fields_of" : Str) = none := ff_meth (by decide +kernel) (by decide +kernel) (by decide +kernel) (by decide +kernel) (by decide +kernel)
theorem atI_zero {α : Type} {x : α} {r : List α} : atI (x :: r) 0 = some x := by
  obtain ⟨v, e, h, _⟩ := atI_in (xs := x :: r) (i := 0) (Int.le_refl _) (by rw [List.length_cons]; omega)
  rw [e]
  exact h.symm
section
variable {P : Program} {w : World} {K : PySem.W.Frag} {mg : Str → Option Value} {base : Heap}
theorem ok_leo {C f : Addr} {fd : FuncData} {l n : Nat} (F : Fun K "least_of" "least_of" sLeastOf f fd) (PL : Plains K w mg) (DW : Has P w K mg base "word_of" 1 ["kind"] spWord) (DF : HasM P w K mg base C "fields_of" 1 ["self", "record"] (spFields C)) (DO : HasM P w K mg base C "options_of" 1 ["self", "choice"] (spOptions C))
    (DL : Has P w K mg base "least_of" l ["face", "kind"] (spLeo C n)) (hn : 1 ≤ l) : FnOk P w K mg base CX0 (l + 1) f fd ["face", "kind"] (spLeo C (n + 1)) := by
  obtain ⟨PA, mP, p1, p2, p3⟩ := PL.ex
  refine F.ok scLeastOf (fun vs H Q E h => ?_) (fun cdv A outer s H vs Q E hr h => ?_)
  · obtain ⟨a, v, k, F, rfl, _⟩ := h
    rfl
  · obtain ⟨a, v, k, F, rfl, hFF, t, wf, q⟩ := h
    have hr1 : Room 1 _ := hr.mono hn
    have hF := hFF.1
    refine ⟨_, pss_cons (ps_set (i := 2) scLeastOf.nd rfl (Or.inl rfl) (pe_has DW hr1 rfl (pa_cons (pv 1) pa_nil)))
      (pss_cons (ps_if (pt_cmpR op_eq (pv 2) pe_str (nomark _)) (pss_cons (ps_set (i := 3) scLeastOf.nd rfl (Or.inl rfl) (pe_hasM DF hr1 (pv 0) (pa_cons (pe_ix ix_tup (pv 1) pe_int (fun _ _ => rfl)) pa_nil)))
        (pss_one (ps_ret (pe_dc (own := [("number", 4), ("name", 5), ("inner", 6), ("need", 7)]) (g := gTup K 4 (gCons (gName 4) (gCons (gName 5) (gCons (gName 6) (gCons (gName 7) gNil))))) (tk := tVar 5) (tv := tCall (spLeo C n) [] E0 (tCons (tVar 0) (tCons (tVar 6) tNil))) rfl scLeastOf.nd (pi_tup (pv 3)) (blkOk_by (N := nLeastOf) (sc := defScope sLeastOf) (by decide +kernel))
          (fun _ _ _ _ _ => pg_tup rfl (pgs_cons (pg_name (i := 4) scLeastOf.nd rfl (.inl rfl)) (pgs_cons (pg_name (i := 5) scLeastOf.nd rfl (.inl rfl)) (pgs_cons (pg_name (i := 6) scLeastOf.nd rfl (.inl rfl)) (pgs_cons (pg_name (i := 7) scLeastOf.nd rfl (.inl rfl)) pgs_nil))))) (fun _ _ _ _ _ => pts_one (pt_cmpR op_eq (pv 7) pe_str (nomark _))) (fun _ _ _ _ _ => pv 5) (fun _ _ _ _ _ => pe_has DL hr rfl (pa_cons (pv 0) (pa_cons (pv 6) pa_nil))))))) pss_nil)
      (pss_cons (ps_if (pt_cmpR op_eq (pv 2) pe_str (nomark _)) (pss_one (ps_ret (pe_ix ix_tup (pe_ix ix_tup (pe_hasM DO hr1 (pv 0) (pa_cons (pe_ix ix_tup (pv 1) pe_int (fun _ _ => rfl)) pa_nil)) pe_int (fun _ _ => rfl)) pe_int (fun _ _ => rfl)))) pss_nil)
      (pss_cons (ps_if (pt_cmpR op_eq (pv 2) pe_str (nomark _)) (pss_one (ps_ret (pe_tup pa_nil))) pss_nil)
      (pss_one (ps_ret (pe_ix ix_kdict (pe_glob (v := .ref PA) rfl mP rfl) (pv 2) (fun _ _ => rfl))))))), ?_⟩
    obtain ⟨dx, v1, v2, v3, v4, v5, hA, t3, t4⟩ := id hF
    refine ⟨_, rfl, v, k, rfl, t, ?_⟩
    refine ⟨_, rfl, rfl, _, rfl, ?_⟩
    cases k with
    | lst c =>
      refine ite2 (fun h => absurd (of_decide_eq_true h) (sne (by decide +kernel : ("list" : Str) ≠ "record"))) (fun _ => ?_)
      refine ⟨_, rfl, rfl, _, rfl, ?_⟩
      refine ite2 (fun h => absurd (of_decide_eq_true h) (sne (by decide +kernel : ("list" : Str) ≠ "choice"))) (fun _ => ?_)
      refine ⟨_, rfl, rfl, _, rfl, ?_⟩
      refine ite2 (fun _ => ?_) (fun h => absurd (decide_eq_true rfl) h)
      exact ⟨Nat.zero_le _, fun p hp => q _ _ (Same.new hp) (.lst (nw_at hp upd_same) .nil)⟩
    | one c =>
      cases c with
      | whole =>
        refine ite2 (fun h => absurd (of_decide_eq_true h) (sne (by decide +kernel : ("whole" : Str) ≠ "record"))) (fun _ => ?_)
        refine ⟨_, rfl, rfl, _, rfl, ?_⟩
        refine ite2 (fun h => absurd (of_decide_eq_true h) (sne (by decide +kernel : ("whole" : Str) ≠ "choice"))) (fun _ => ?_)
        refine ⟨_, rfl, rfl, _, rfl, ?_⟩
        refine ite2 (fun h => absurd (of_decide_eq_true h) (sne (by decide +kernel : ("whole" : Str) ≠ "list"))) (fun _ => ?_)
        exact ⟨_, rfl, PA, _, _, rfl, rfl, p1, q _ _ (Same.refl H) (.num 0)⟩
      | truth =>
        refine ite2 (fun h => absurd (of_decide_eq_true h) (sne (by decide +kernel : ("truth" : Str) ≠ "record"))) (fun _ => ?_)
        refine ⟨_, rfl, rfl, _, rfl, ?_⟩
        refine ite2 (fun h => absurd (of_decide_eq_true h) (sne (by decide +kernel : ("truth" : Str) ≠ "choice"))) (fun _ => ?_)
        refine ⟨_, rfl, rfl, _, rfl, ?_⟩
        refine ite2 (fun h => absurd (of_decide_eq_true h) (sne (by decide +kernel : ("truth" : Str) ≠ "list"))) (fun _ => ?_)
        exact ⟨_, rfl, PA, _, _, rfl, rfl, p2, q _ _ (Same.refl H) (.tru false)⟩
      | text =>
        refine ite2 (fun h => absurd (of_decide_eq_true h) (sne (by decide +kernel : ("text" : Str) ≠ "record"))) (fun _ => ?_)
        refine ⟨_, rfl, rfl, _, rfl, ?_⟩
        refine ite2 (fun h => absurd (of_decide_eq_true h) (sne (by decide +kernel : ("text" : Str) ≠ "choice"))) (fun _ => ?_)
        refine ⟨_, rfl, rfl, _, rfl, ?_⟩
        refine ite2 (fun h => absurd (of_decide_eq_true h) (sne (by decide +kernel : ("text" : Str) ≠ "list"))) (fun _ => ?_)
        exact ⟨_, rfl, PA, _, _, rfl, rfl, p3, q _ _ (Same.refl H) (.txt "")⟩
      | ch z =>
        refine ite2 (fun h => absurd (of_decide_eq_true h) (sne (by decide +kernel : ("choice" : Str) ≠ "record"))) (fun _ => ?_)
        refine ⟨_, rfl, rfl, _, rfl, ?_⟩
        refine ite2 (fun _ => ?_) (fun h => absurd (decide_eq_true rfl) h)
        rcases kn_inv t with ⟨_, h | h | h⟩ | ⟨b, y, rfl, hb, ty⟩
        · cases h
        · cases h
        · cases h
        cases ty.istr
        obtain ⟨o, os, hl⟩ := wf
        have hlc : F.c.lookup z = some (optsD (o :: os)) := by rw [look_c, hl]; rfl
        refine ⟨_, rfl, a, dx, _, rfl, hA, ff_options, _, rfl, b, _, _, _, rfl, rfl, SqT.of hb, rfl, a, z, F.c, F.r, _, rfl, hF, hlc, fun ov tv => ?_⟩
        obtain ⟨c, xs, rfl, hc, tq⟩ := Tp.inv tv
        obtain ⟨x0, xr, rfl, tx0, _⟩ := tq.icons
        obtain ⟨c2, y1, y2, rfl, hc2, ty1, ty2⟩ := Tp.pair tx0
        rw [ty2.istr] at hc2
        have e : lv F (n + 1) (.one (.ch z)) = .txt o.2 := by
          show Vl.txt (((opts F z).head?.map Prod.snd).getD "") = _
          unfold opts
          rw [hl]
          rfl
        rw [e] at q
        exact ⟨c, _, _, _, rfl, rfl, SqT.of hc, atI_zero, c2, _, _, _, rfl, rfl, SqT.of hc2, rfl, q _ _ (Same.refl H) (.txt _)⟩
      | rc z =>
        refine ite2 (fun _ => ?_) (fun h => absurd (decide_eq_true rfl) h)
        rcases kn_inv t with ⟨_, h | h | h⟩ | ⟨b, y, rfl, hb, ty⟩
        · cases h
        · cases h
        · cases h
        cases ty.istr
        obtain ⟨fl, hl, hall⟩ := wf
        have ef : flds F z = fl := by unfold flds; rw [hl]; rfl
        have hlr : F.r.lookup z = some (fieldsD fl) := by rw [look_r, hl]; rfl
        have en : lv F (n + 1) (.one (.rc z)) = .rcd (lvR (lv F n) fl) := by
          show Vl.rcd (lvR (lv F n) (flds F z)) = _
          rw [ef]
        rw [en] at q
        have rm := look_mem hl
        have lf : fl.length ≤ 10 := hFF.2.lf (z, fl) rm
        have nf := hFF.2.nf (z, fl) rm
        refine ⟨_, rfl, a, dx, _, rfl, hA, ff_fields, _, rfl, b, _, _, _, rfl, rfl, SqT.of hb, rfl, a, z, F.c, F.r, _, rfl, hF, hlr, fun ov tv => ?_⟩
        obtain ⟨c, xs, rfl, hc, tq⟩ := Tp.inv tv
        refine ⟨_, rfl, c, rfl, ⟨_, SqT.of hc⟩, fun D hD => ?_⟩
        have el : xs.length = fl.length := by rw [tq.length, List.length_map]
        refine dc_tup (xs := xs) (fun i H3 => Same H H3 ∧ ∃ kvs, H3 D = some (.dK kvs) ∧ kvs.map Prod.fst = (lvR (lv F n) (fl.take i)).map (fun f => Sum.inr f.1) ∧ VDs (er (Nw H H3) D) (kvs.map Prod.snd) ((lvR (lv F n) (fl.take i)).map Prod.snd)) ?_ ?_ ?_ ?_
        · exact ⟨Same.new hD, [], upd_same, rfl, .nil⟩
        · rintro i H3 _ ⟨S3, _⟩
          exact SqT.of (S3 _ _ hc)
        · rintro i x H3 hx ⟨S3, kvs, h3, ek, vs3⟩
          obtain ⟨g, t, u, hg, rfl, ht, tu⟩ := flds_at tq hx
          have gm := List.mem_of_getElem? hg
          have hi := (List.getElem?_eq_some_iff.mp hg).1
          have et : fl.take (i + 1) = fl.take i ++ [g] := by rw [List.take_add_one, hg]; rfl
          have next : lvR (lv F n) (fl.take (i + 1)) = lvR (lv F n) (fl.take i) ++ lvR (lv F n) [g] := by
            rw [et]
            unfold lvR
            rw [List.filter_append, List.map_append]
          refine ⟨t, _, rfl, SqT.of (S3 _ _ ht), rfl, _, _, rfl, _, _, rfl, _, _, rfl, _, _, rfl, rfl, rfl, ?_⟩
          refine ⟨_, rfl, rfl, _, rfl, ?_⟩
          rw [need_must]
          cases hm : g.must with
          | false =>
            have e0 : lvR (lv F n) [g] = [] := by unfold lvR; rw [List.filter_cons, hm]; rfl
            rw [e0, List.append_nil] at next
            rw [next]
            exact iteF ⟨S3, kvs, h3, ek, vs3⟩
          | true =>
            have e0 : lvR (lv F n) [g] = [(g.nam, lv F n g.kd)] := by unfold lvR; rw [List.filter_cons, hm]; rfl
            refine iteT ?_
            refine ⟨_, rfl, _, rfl, _, rfl, a, u, g.kd, F, rfl, hFF.same S3, Tp.keep (Same.tk S3) _ _ tu, hall g gm hm, fun x H4 S4 vx => ?_⟩
            have h4 := S4 _ _ h3
            have lk2 : kvs.length ≤ 10 := by
              have z1 := congrArg List.length ek
              rw [List.length_map, List.length_map] at z1
              have z2 : (lvR (lv F n) (fl.take i)).length ≤ (fl.take i).length := by
                unfold lvR
                rw [List.length_map]
                exact List.length_filter_le _ _
              rw [List.length_take] at z2
              omega
            have newk : (Sum.inr g.nam : Key) ∉ kvs.map Prod.fst := fun hm => by
              rw [ek] at hm
              obtain ⟨p, hp, ep⟩ := List.mem_map.mp hm
              have hn : g.nam ∈ (lvR (lv F n) (fl.take i)).map Prod.fst := List.mem_map.mpr ⟨p, hp, Sum.inr.inj ep⟩
              rw [lv_keys] at hn
              have hs : g.nam ∈ (fl.take i).map (·.nam) := by
                obtain ⟨g2, h2, e2⟩ := List.mem_map.mp hn
                exact List.mem_map.mpr ⟨g2, (List.mem_filter.mp h2).1, e2⟩
              have z1 : (fl.take (i + 1)).map (·.nam) = (fl.take i).map (·.nam) ++ [g.nam] := by rw [et, List.map_append]; rfl
              have z2 : ((fl.take (i + 1)).map (·.nam)).Nodup := by
                have z3 : ((fl.map (·.nam)).take (i + 1)).Nodup := List.Nodup.sublist (List.take_sublist _ _) nf
                rwa [← List.map_take] at z3
              rw [z1, List.nodup_append] at z2
              exact z2.2.2 _ hs _ (List.mem_singleton.mpr rfl) rfl
            refine ⟨kvs, Sum.inr g.nam, rfl, h4, Nat.lt_of_le_of_lt lk2 (by decide), ?_⟩
            rw [putK_new newk]
            generalize hH5 : upd H4 D (.dK (kvs ++ [(Sum.inr g.nam, x)])) = H5 at *
            have up5 : ∀ {b : Addr} {o : HO}, b ≠ D → H4 b = some o → H5 b = some o := fun {b o} nb e => by rw [← hH5, upd_ne nb]; exact e
            have s1 : Same (er (Nw H H3) D) (er (Nw H H5) D) := er_step hD S4 @up5
            have s2 : Same (Nw H3 H4) (er (Nw H H5) D) := er_new S3 h3 @up5
            refine ⟨fun b o e => up5 (ne_of_none e hD) (S4 _ _ (S3 _ _ e)), kvs ++ [(Sum.inr g.nam, x)], by rw [← hH5, upd_same], ?_, ?_⟩
            · rw [next, e0, List.map_append, List.map_append, ek]
              rfl
            · rw [next, e0, List.map_append, List.map_append]
              exact (vs3.same s1).app (.cons (vx.same s2) .nil)
        · rintro H3 ⟨S3, kvs, h3, ek, vs3⟩
          rw [el, List.take_length] at ek vs3
          exact q (.ref D) H3 S3 (.rcd (nw_at hD h3) ek (vs3.same (fun b o e => er_in e)))
end
end Fh

set_option Elab.async false
set_option linter.all false
set_option maxRecDepth 100000
set_option maxHeartbeats 4000000
namespace Fh
open PySem L2 PyProof.Rows
abbrev sLea : Stmt := top 35
abbrev sWri : Stmt := top 60
abbrev nLea : List Str := ["face", "record", "size"]
abbrev nWri : List Str := ["face", "record", "value"]
def szF (F : Fc) (z : Str) : Option Int := turns F.c F.r F.rs F.rs.length z
/-- a face whose least sizes are reckoned -/
structure FcL (F : Fc) : Prop where
  c1 : Cs1 F.c
  ok : RecsOk F.rs
  lk : ∀ r ∈ F.rs, F.rs.lookup r.1 = some r.2
def spLea (C : Addr) : Sp := fun vs H Q _ => ∃ (a : Addr) (z : Str) (F : Fc), vs = [.ref a, .str z] ∧ FaceF C H a F ∧ FcL F ∧ (∃ fl, F.rs.lookup z = some fl) ∧
  ∀ (x : V) (H' : Hp), Same H H' → (x = .non ∧ (szF F z = none ∨ ∃ v, szF F z = some v ∧ 10000 < v) ∨ ∃ v, szF F z = some v ∧ v ≤ 10000 ∧ (∃ p, x = .ref p) ∧ VD H' x (lv F 37 (.one (.rc z)))) → Q x H'
def spWri (C : Addr) (n : Nat) : Sp := fun vs H Q _ => ∃ (a : Addr) (z : Str) (x : V) (u : Vl) (F : Fc), vs = [.ref a, .str z, x] ∧ FaceF C H a F ∧ VD H x u ∧ Ok F n (.one (.rc z)) u ∧ (enc F n (.one (.rc z)) u).length ≤ 10000 ∧
  ∀ (p : Addr) (H' : Hp), Same H H' → H' p = some (.tup ((enc F n (.one (.rc z)) u).map V.int)) → Q (.ref p) H'
section
variable {P : Program} {w : World} {K : PySem.W.Frag} {mg : Str → Option Value} {base : Heap}
theorem scLea : FnScope nLea ["face", "record"] (defScope sLea) := ⟨rfl, rfl, rfl, by decide +kernel, rfl, by decide +kernel, by decide +kernel⟩
theorem scWri : FnScope nWri ["face", "record", "value"] (defScope sWri) := ⟨rfl, rfl, rfl, by decide +kernel, rfl, by decide +kernel, by decide +kernel⟩
theorem ok_lea {C f : Addr} {fd : FuncData} {l : Nat} (hl : 5 ≤ l) (F : Fun K "least" "least" sLea f fd) (W : Wn mg) (DF : HasM P w K mg base C "fields_of" 1 ["self", "record"] (spFields C)) (DS : Has P w K mg base "least_sizes" 5 ["face"] (spLSizes C)) (DL : Has P w K mg base "least_of" l ["face", "kind"] (spLeo C 37)) : FnOk P w K mg base CX0 (l + 1) f fd ["face", "record"] (spLea C) := by
  refine F.ok scLea (fun vs H Q E h => ?_) (fun cdv A outer s H vs Q E hr h => ?_)
  · obtain ⟨a, z, F, rfl, _⟩ := h
    rfl
  · obtain ⟨a, z, F, rfl, hF, hL, ⟨fl, hfl⟩, q⟩ := h
    have hu := hu_of hr
    refine ⟨_, (pss_cons (ps_expr (pe_hasM DF (hr.mono (by omega)) (pv 0) (pa_cons (pv 1) pa_nil)))
      (pss_cons (ps_set (i := 2) scLea.nd rfl (Or.inl rfl) (pe_dget1 hu (pe_has DS (hr.mono (by omega)) rfl (pa_cons (pv 0) pa_nil)) (pv 1) ⟨rfl, rfl, rfl, rfl⟩))
      (pss_cons (ps_if (PW.pt (pw_or (pt_cmpR op_isN (pv 2) pe_non (nomark _)) (pw_or1 (pt_cmpR op_gt (pv 2) (pe_glob (v := .int 10000) rfl W.greatest_body ⟨_, rfl⟩) (nomark _)))))
      (pss_one (ps_ret pe_non))
      pss_nil)
      (pss_one (ps_ret (pe_has DL hr rfl (pa_cons (pv 0) (pa_cons (pe_tup (pa_cons pe_str (pa_cons (pv 1) pa_nil))) pa_nil)))))))), ?_⟩
    have hlr : F.r.lookup z = some (fieldsD fl) := by rw [look_r, hfl]; rfl
    obtain ⟨dx, v1, v2, v3, v4, v5, hA, t3, t4⟩ := id hF.1
    refine ⟨_, rfl, a, dx, _, rfl, hA, ff_fields, _, rfl, a, z, F.c, F.r, _, rfl, hF.1, hlr, fun ov tv => ?_⟩
    refine ⟨_, rfl, a, F.c, F.rs, rfl, hF.1, by unfold Fc.c; rw [List.length_map]; exact hF.2.lc, hL.c1, hL.ok, fun d kvs H1 S1 hd1 hd2 dof => ?_⟩
    refine ⟨d, rfl, .inl ⟨_, .inl hd2⟩, _, rfl, _, DGet.k (k := Sum.inr z) hd2, ?_⟩
    have hS : valV kvs (Sum.inr z) = (szF F z).map V.int := dof z
    rw [hS]
    have dv := dv_37 hF.2 hL.c1 hL.lk hL.ok.len z
    cases hs : szF F z with
    | none =>
      refine ⟨_, rfl, rfl, _, rfl, ?_⟩
      exact q .non H1 S1 (.inl ⟨rfl, .inl hs⟩)
    | some v =>
      have dv := dv v hs
      refine ⟨_, rfl, rfl, _, rfl, ?_⟩
      refine ⟨_, rfl, v, 10000, rfl, rfl, _, rfl, ?_⟩
      refine ite2 (fun g => ?_) (fun g => ?_)
      · exact q .non H1 S1 (.inl ⟨rfl, .inr ⟨v, hs, of_decide_eq_true g⟩⟩)
      · have le : v ≤ 10000 := by
          have g : ¬ (10000 < v) := fun e => g (decide_eq_true e)
          omega
        refine ⟨_, rfl, _, rfl, (by show 2 ≤ sizeLine; decide), fun t ht => ?_⟩
        have S2 : Same H1 (upd H1 t (.tup [.str "record", .str z])) := Same.new ht
        have S12 : Same H (upd H1 t (.tup [.str "record", .str z])) := fun b o e => S2 b o (S1 b o e)
        refine ⟨a, .ref t, .one (.rc z), F, rfl, hF.same S12, .tup upd_same (.cons (.str _) (.cons (.str _) .nil)), dv.1, fun x H3 S3 vx => ?_⟩
        have vx3 := vx.same nw_same
        refine q x H3 (fun b o e => S3 b o (S12 b o e)) (.inr ⟨v, hs, le, ?_, vx3⟩)
        have el : lv F 37 (.one (.rc z)) = .rcd (lvR (lv F 36) (flds F z)) := rfl
        rw [el] at vx3
        cases vx3 with
        | rcd h1 h2 h3 => exact ⟨_, rfl⟩
theorem ok_wri {C f : Addr} {fd : FuncData} {l n : Nat} (F : Fun K "written" "written" sWri f fd) (G : Glb mg) (DR : Has P w K mg base "record_content" l ["face", "record", "value"] (spRec C n)) : FnOk P w K mg base CX0 (l + 1) f fd ["face", "record", "value"] (spWri C n) := by
  refine F.ok scWri (fun vs H Q E h => ?_) (fun cdv A outer s H vs Q E hr h => ?_)
  · obtain ⟨a, z, x, u, F, rfl, _⟩ := h
    rfl
  · obtain ⟨a, z, x, u, F, rfl, hF, hx, ok, le, q⟩ := h
    refine ⟨_, (pss_one (ps_ret (pe_callTy call_tuple_of (by rfl) G.tuple (by decide +kernel) (pa_cons (pe_has DR hr rfl (pa_cons (pv 0) (pa_cons (pv 1) (pa_cons (pv 2) pa_nil)))) pa_nil)))), ?_⟩
    refine ⟨_, rfl, _, rfl, _, rfl, a, z, x, u, F, rfl, hF, hx, ok, le, fun p H1 S1 hp1 hp => ?_⟩
    exact ⟨p, _, rfl, .inl ⟨SqL.of hp, fun l hl => q _ _ (fun b o e => (Same.new hl) b o (S1 b o e)) upd_same⟩⟩
end
end Fh

set_option Elab.async false
set_option linter.all false
set_option maxRecDepth 100000
set_option maxHeartbeats 4000000
namespace Fh
open PySem L2 PyProof.Rows
def Rise (last : Int) (ns : List Int) : Prop := (∀ x ∈ ns, 1 ≤ x ∧ x ≤ last) ∧ ns.Pairwise (· < ·)
theorem Rise.nil {last : Int} : Rise last [] := ⟨(fun x h => by cases h), List.Pairwise.nil⟩
theorem Rise.more {last d : Int} {ns : List Int} (h : Rise last ns) (l0 : 0 ≤ last) (d0 : 0 ≤ d) : Rise (last + 1 + d) (ns ++ [last + 1 + d]) := by
  refine ⟨fun x hx => ?_, ?_⟩
  · rcases List.mem_append.mp hx with hx | hx
    · have := h.1 x hx
      omega
    · rw [List.mem_singleton.mp hx]
      omega
  · rw [List.pairwise_append]
    refine ⟨h.2, List.pairwise_singleton _ _, fun a ha b hb => ?_⟩
    rw [List.mem_singleton.mp hb]
    have := h.1 a ha
    omega
def spRis2 : Sp := fun vs H Q _ => ∃ (b : Addr) (size : Nat) (n : Nat), vs = [.ref b, .int size, .int 30] ∧ size ≤ 20 ∧ Bag H b n ∧ n + 50 ≤ most ∧
  ∀ (p : Addr) (ns : List Int) (H' : Hp), H p = none → H' p = some (.lst (ns.map V.int)) → ns.length = size → Kp b H H' → Bag H' b (n + 40) → ns.Pairwise (· < ·) → (∀ x ∈ ns, 1 ≤ x ∧ x ≤ 30) → Q (.ref p) H'
/-- no kind names nobody -/
def NoNob (cs : List (Str × PyData)) (recs : List Rec) : Prop := ∀ r ∈ recs, ∀ f ∈ r.2, nobK cs (recs.map rD) f.kd = false
def spStr2 (C : Addr) : Sp := fun vs H Q _ => ∃ (a : Addr) (cs : List (Str × PyData)) (recs : List Rec), vs = [.ref a] ∧ FaceR C H a cs (recs.map rD) ∧ cs.length ≤ 100 ∧ RecsOk recs ∧ NoNob cs recs ∧
  ∀ (p : Addr) (T : List TxR) (H' : Hp), Same H H' → H p = none → TxL H' p T → (∀ q ∈ T, False) → Q (.ref p) H'
structure Told2 (D : Szs) (recs : List Rec) (xs : List (List Str)) : Prop where
  pw : xs.Pairwise fun x y => slLe x y = true
  nd : xs.Nodup
  of : ∀ x ∈ xs, x ∈ endL D recs
  all : ∀ x ∈ endL D recs, x ∈ xs
def spWrong2 (C : Addr) : Sp := fun vs H Q _ => ∃ (a : Addr) (cs : List (Str × PyData)) (recs : List Rec), vs = [.ref a] ∧ FaceW C H a cs (recs.map rD) ∧ cs.length ≤ 100 ∧ Cs1 cs ∧ RecsOk recs ∧ NoNob cs recs ∧
  ∀ (p : Addr) (T : List TxR) (H' : Hp), Same H H' → H p = none → TxL H' p T → T.length < 64 → Told2 (turns cs (recs.map rD) recs recs.length) recs (T.map (·.2)) → Q (.ref p) H'
section
variable {P : Program} {w : World} {K : PySem.W.Frag} {mg : Str → Option Value} {base : Heap}
theorem ok_ris2 {f : Addr} {fd : FuncData} (F : Fun K "_law_rising" "_law_rising" sRis f fd) (G : Glb mg) (DT : Has P w K mg base "_law_take" 1 ["_law_bag_here", "_law_size"] spTake) : FnOk P w K mg base CX0 2 f fd ["_law_bag_here", "_law_size", "_law_most"] spRis2 := by
  refine F.ok scRis (fun vs H Q E h => ?_) (fun cdv A outer s H vs Q E hr h => ?_)
  · obtain ⟨b, size, n, rfl, _⟩ := h
    rfl
  · obtain ⟨b, size, n, rfl, hs, hB, hn, q⟩ := h
    refine ⟨_, pss_cons (ps_par (i := 3) (j := 4) rfl scRis.nd rfl rfl (by decide) rfl rfl (pa_cons (pe_lst pa_nil) (pa_cons pe_int pa_nil)) (by rfl))
      (pss_cons (ps_for PassesOwn.never rfl (pi_range1 rfl G.range (pa_cons (pv 1) pa_nil)) (pg_name (i := 5) scRis.nd rfl (Or.inl rfl))
        (pss_cons (ps_set (i := 6) scRis.nd rfl (Or.inl rfl) (pe_op op_sub (pe_op op_sub (pv 2) (pv 4)) (pe_op op_sub (pe_op op_sub (pv 1) (pv 5)) pe_int)))
        (pss_cons (ps_set (i := 4) scRis.nd rfl (Or.inl rfl) (pe_op op_add (pe_op op_add (pv 4) pe_int) (pe_has DT hr rfl (pa_cons (pv 0) (pa_cons (pe_ix ix_list (pe_lst (pa_cons (pv 6) (pa_cons (pe_callB (call_min2 rfl) (by rfl) G.min (by decide +kernel) (pa_cons (pv 6) (pa_cons pe_int pa_nil))) pa_nil))) (pe_has DT hr rfl (pa_cons (pv 0) (pa_cons pe_int pa_nil))) (fun _ _ => rfl)) pa_nil)))))
        (pss_one (ps_expr (pe_bm PySem.F.plainAttrs_list PySem.F.slot_list_append PySem.F.type_list_append mt_append (pv 3) (pa_cons (pv 4) pa_nil)))))))
      (pss_one (ps_ret (pv 3)))), ?_⟩
    refine ⟨Nat.zero_le _, fun p hp => ?_⟩
    have pb : p ≠ b := new_ne hp hB
    have S0 : Same H (upd H p (.lst [])) := Same.new hp
    have hB0 : Bag (upd H p (.lst [])) b n := by
      obtain ⟨x, y, z, e, r⟩ := hB
      exact ⟨x, y, z, S0 _ _ e, r⟩
    refine ⟨_, _, rfl, _, rfl, (size : Int), rfl, by omega, by omega, ?_⟩
    refine for_range (lo := 0) (n := size) (fun i σ H3 => ∃ (last : Int) (ns : List Int), (∃ a5 a6, σ = [some (.ref b), some (.int size), some (.int 30), some (.ref p), some (.int last), a5, a6]) ∧ H3 p = some (.lst (ns.map V.int)) ∧ ns.length = i ∧ Kp b H H3 ∧ Bag H3 b (n + 2 * i) ∧ 0 ≤ last ∧ last + ((size : Int) - i) ≤ 30 ∧ Rise last ns) ?_ ?_ ?_
    · exact ⟨0, [], ⟨_, _, rfl⟩, upd_same, rfl, fun a o _ e => S0 a o e, hB0, Int.le_refl _, by omega, Rise.nil⟩
    · rintro i σ H3 hi ⟨last, ns, ⟨a5, a6, rfl⟩, h3, ln, k3, b3, l0, l1, rs⟩
      have hm : most = 1000000 := rfl
      refine ⟨_, rfl, _, rfl, _, _, rfl, rfl, _, rfl, _, rfl, _, _, rfl, rfl, _, _, rfl, rfl, _, _, rfl, rfl, ?_⟩
      have w1 : 1 ≤ 30 - last - ((size : Int) - (0 + (i : Int)) - 1) := by omega
      have w2 : 30 - last - ((size : Int) - (0 + (i : Int)) - 1) ≤ 30 - last - ((size : Int) - (i : Int) - 1) := by omega
      have w3 : 30 - last - ((size : Int) - (0 + (i : Int)) - 1) < 1073741824 := by omega
      obtain ⟨wide, ew⟩ : ∃ w : Int, 30 - last - ((size : Int) - (0 + (i : Int)) - 1) = w := ⟨_, rfl⟩
      rw [ew] at w1 w2 w3
      refine ⟨_, rfl, _, _, rfl, rfl, _, rfl, _, rfl, _, rfl, _, _, rfl, (by show 2 ≤ sizeLine; decide), fun pl hpl => ?_⟩
      simp only [ew]
      have S4 : Same H3 (upd H3 pl (.lst [.int wide, .int (if 3 < wide then 3 else wide)])) := Same.new hpl
      have b4 : Bag (upd H3 pl (.lst [.int wide, .int (if 3 < wide then 3 else wide)])) b (n + 2 * i) := by
        obtain ⟨x, y, z, e, r⟩ := b3
        exact ⟨x, y, z, S4 _ _ e, r⟩
      have plb : pl ≠ b := new_ne hpl b3
      refine ⟨_, rfl, b, 2, _, rfl, by decide, by decide, b4, by omega, fun d H5 d0 d1 k5 b5 => ?_⟩
      have hpl5 : H5 pl = some (.lst [.int wide, .int (if 3 < wide then 3 else wide)]) := k5 _ _ plb upd_same
      have hp5 : H5 p = some (.lst (ns.map V.int)) := k5 _ _ pb (S4 _ _ h3)
      have K5 : Kp b H H5 := fun a o nb e => k5 a o nb (S4 a o (k3 a o nb e))
      have pick : ∃ x : Int, atI [V.int wide, V.int (if 3 < wide then 3 else wide)] d = some (.int x) ∧ 0 < x ∧ x ≤ wide := by
        rcases (by omega : d = 0 ∨ d = 1) with rfl | rfl
        · exact ⟨wide, rfl, by omega, Int.le_refl _⟩
        · refine ⟨_, rfl, ?_, ?_⟩ <;> split <;> omega
      obtain ⟨x, ex, x0, x1⟩ := pick
      refine ⟨pl, _, d, _, rfl, rfl, SqL.of hpl5, ex, b, x, _, rfl, x0, by omega, b5, by omega, fun d2 H6 e0 e1 k6 b6 => ?_⟩
      have hp6 : H6 p = some (.lst (ns.map V.int)) := k6 _ _ pb hp5
      refine ⟨_, _, rfl, rfl, ?_⟩
      refine ⟨_, rfl, .inl ⟨rfl, _, SqL.of hp6⟩, _, rfl, p, _, _, rfl, rfl, hp6, ?_, ?_⟩
      · rw [List.length_map, ln]
        exact Nat.lt_of_lt_of_le (show i < 100 by omega) (by decide)
      · refine ⟨last + 1 + d2, ns ++ [last + 1 + d2], ⟨_, _, rfl⟩, ?_, ?_, ?_, ?_, by omega, by omega, rs.more l0 e0⟩
        · rw [upd_same, List.map_append]; rfl
        · rw [List.length_append, ln]; rfl
        · intro a o nb e
          have z := k6 a o nb (K5 a o nb e)
          rw [upd_ne (ne_of_none e hp)]
          exact z
        · obtain ⟨x, y, z, e, r⟩ := b6.mono (show n + 2 * i + 1 + 1 ≤ n + 2 * (i + 1) by omega)
          exact ⟨x, y, z, by rw [upd_ne (Ne.symm pb)]; exact e, r⟩
    · rintro σ H3 ⟨last, ns, ⟨a5, a6, rfl⟩, h3, ln, k3, b3, l0, l1, rs⟩
      exact ⟨_, rfl, q p ns H3 hp h3 ln k3 (b3.mono (by omega)) rs.2 (fun x hx => ⟨(rs.1 x hx).1, by have := (rs.1 x hx).2; omega⟩)⟩
theorem ok_str2 {C f : Addr} {fd : FuncData} (F : Fun K "strangers_in_kinds" "strangers_in_kinds" sStr f fd) (G : Glb mg) (cl : Cls K C) (n4 : NoAttr K C "records") (DN : Has P w K mg base "names_nobody" 3 ["face", "kind"] (spNob C fun _ => True)) (DI : Has P w K mg base "name_in" 3 ["kind"] (spNin fun _ => True)) : FnOk P w K mg base CX0 4 f fd ["face"] (spStr2 C) := by
  refine F.ok scStr (fun vs H Q E h => ?_) (fun cdv A outer s H vs Q E hr h => ?_)
  · obtain ⟨a, cs, recs, rfl, _⟩ := h
    rfl
  · obtain ⟨a, cs, recs, rfl, hF, lc, ok, nn, q⟩ := h
    have ok6 := ok.len
    refine ⟨_, pss_cons (ps_set (i := 1) scStr.nd rfl (Or.inl rfl) (pe_lst pa_nil))
      (pss_cons (ps_for PassesOwn.never rfl (pi_tup (pe_fld (pv 0) rfl)) (pg_tup rfl (pgs_cons (pg_name (i := 2) scStr.nd rfl (.inr rfl)) (pgs_cons (pg_name (i := 3) scStr.nd rfl (.inl rfl)) pgs_nil)))
        (pss_cons (ps_setLc (i := 4) (own := [("number", 5), ("name", 6), ("kind", 7), ("need", 8)]) (g := gTup K 4 (gCons (gName 5) (gCons (gName 6) (gCons (gName 7) (gCons (gName 8) gNil))))) (tt := tYes) (te := tVar 7) rfl scStr.nd rfl rfl (sw_true rfl rfl rfl (by decide +kernel)) (pi_tup (pv 3)) (blkOk_by (N := nStr) (sc := defScope sStr) (by decide +kernel))
            (fun _ _ _ _ _ => pg_tup rfl (pgs_cons (pg_name (i := 5) scStr.nd rfl (.inl rfl)) (pgs_cons (pg_name (i := 6) scStr.nd rfl (.inl rfl)) (pgs_cons (pg_name (i := 7) scStr.nd rfl (.inl rfl)) (pgs_cons (pg_name (i := 8) scStr.nd rfl (.inl rfl)) pgs_nil))))) (fun _ _ _ _ _ => pts_nil) (fun _ _ _ _ _ => pv 7))
        (pss_one (ps_expr (pe_bm PySem.F.plainAttrs_list PySem.F.slot_list_extend PySem.F.type_list_extend mt_extend (pv 1) (pa_cons (pe_lc (own := [("kind", 7)]) (g := gName 7) (te := tTup (tCons (tC (.str "nobody")) (tCons (tVar 2) (tCons (tCall (spNin fun _ => True) [] E0 (tCons (tVar 7) tNil)) tNil)))) rfl scStr.nd (pi_list (pv 4)) (blkOk_by (N := nStr) (sc := defScope sStr) (by decide +kernel))
            (fun _ _ _ _ _ => pg_name (i := 7) scStr.nd rfl (Or.inl rfl)) (fun _ _ _ _ _ => pts_one (pt_val (pe_has DN (hr.mono (by decide)) rfl (pa_cons (pv 0) (pa_cons (pv 7) pa_nil))))) (fun _ _ _ _ _ => pe_tup (pa_cons pe_str (pa_cons (pv 2) (pa_cons (pe_has DI (hr.mono (by decide)) rfl (pa_cons (pv 7) pa_nil)) pa_nil))))) pa_nil))))))
      (pss_one (ps_ret (pv 1)))), ?_⟩
    obtain ⟨dx, v1, v2, v3, v4, v5, hA, t3, t4⟩ := id hF
    obtain ⟨b, xs, rfl, hb, tq⟩ := TpR.inv t4
    have el : xs.length = recs.length := by rw [tq.length, List.length_map, List.length_map]
    refine ⟨Nat.zero_le _, fun p hp => ?_⟩
    have S0 : Same H (upd H p (.lst [])) := Same.new hp
    refine ⟨_, rfl, a, C, dx, _, _, rfl, S0 _ _ hA, cl, n4, ff_records, b, rfl, ⟨_, .inl (Rd.same hb S0)⟩, ?_⟩
    refine for_tup (xs := xs) (fun i σ H3 => ∃ T, (∃ a2 a3 a4 a5 a6 a7 a8, σ = [some (.ref a), some (.ref p), a2, a3, a4, a5, a6, a7, a8]) ∧ Same H H3 ∧ TxL H3 p T ∧ (∀ q ∈ T, False) ∧ T.length ≤ 5 * i) ?_ ?_ ?_ ?_
    · exact ⟨[], ⟨_, _, _, _, _, _, _, rfl⟩, S0, ⟨upd_same, fun q h => nomatch h⟩, (fun q h => nomatch h), Nat.le_refl _⟩
    · rintro i σ H3 _ ⟨T, _, S3, _⟩
      exact .inl (Rd.same hb S3)
    · rintro i x σ H3 hx ⟨T, ⟨a2, a3, a4, a5, a6, a7, a8, rfl⟩, S3, X3, N3, l3⟩
      obtain ⟨r, tp, u, hr', rfl, htp, tu⟩ := recs_at tq hx
      have hi := (List.getElem?_eq_some_iff.mp hr').1
      have lf := ok.fl r (List.mem_of_getElem? hr')
      refine ⟨tp, _, rfl, SqT.of (S3 _ _ htp), rfl, _, _, rfl, _, _, rfl, rfl, ?_⟩
      obtain ⟨c, ys, rfl, hc, tys⟩ := Tp.inv tu
      have ly : ys.length = r.2.length := by rw [tys.length, List.length_map]
      refine ⟨_, rfl, c, rfl, ⟨_, SqT.of (S3 _ _ hc)⟩, fun D hD => ?_⟩
      refine lc_tup (xs := ys) (fun j H4 => Same H3 H4 ∧ ∃ us : List V, H4 D = some (.lst us) ∧ us.length ≤ j ∧ ∀ u ∈ us, ∃ f ∈ r.2, Tp H u f.kd.d) ?_ ?_ ?_ ?_
      · exact ⟨Same.new hD, [], upd_same, Nat.le_refl _, fun u h => nomatch h⟩
      · rintro j H4 _ ⟨S4, _⟩
        exact SqT.of (S4 _ _ (S3 _ _ hc))
      · rintro j y H4 hy ⟨S4, us, h4, lu, hu4⟩
        obtain ⟨f2, t2, u2, hf2, rfl, ht2, tu2⟩ := flds_at (fs := r.2) tys hy
        have hj : j < 5 := by
          have := (List.getElem?_eq_some_iff.mp hf2).1
          omega
        refine ⟨t2, _, rfl, SqT.of (S4 _ _ (S3 _ _ ht2)), rfl, _, _, rfl, _, _, rfl, _, _, rfl, _, _, rfl, rfl, rfl, yes (iteT ?_)⟩
        refine ⟨_, rfl, _, h4, Nat.lt_of_le_of_lt lu (Nat.lt_of_lt_of_le hj (by decide)), Same.wr S4 hD, us ++ [u2], upd_same, ?_, fun u hu => ?_⟩
        · rw [List.length_append]
          exact Nat.succ_le_succ lu
        · rcases List.mem_append.mp hu with h | h
          · exact hu4 u h
          · rw [List.mem_singleton.mp h]
            exact ⟨f2, List.mem_of_getElem? hf2, tu2⟩
      · rintro H4 ⟨S4, us, h4, lu, hu4⟩
        rw [ly] at lu
        have S04 : Same H H4 := fun b o e => S4 b o (S3 b o e)
        have hp4 := S4 _ _ X3.l
        refine ⟨_, rfl, .inl ⟨rfl, _, SqL.of hp4⟩, ?_⟩
        refine ⟨_, rfl, D, rfl, ⟨_, SqL.of h4⟩, fun D2 hD2 => ?_⟩
        refine lc_list (xs := us) (fun j H5 => Same H4 H5 ∧ ∃ T2, TxL H5 D2 T2 ∧ (∀ q ∈ T2, False) ∧ T2.length ≤ j) ?_ ?_ ?_ ?_
        · exact ⟨Same.new hD2, [], ⟨upd_same, fun q h => nomatch h⟩, (fun q h => nomatch h), Nat.le_refl _⟩
        · rintro j H5 _ ⟨S5, _⟩
          exact SqL.of (S5 _ _ h4)
        · rintro j y H5 hy ⟨S5, T2, X5, N5, l5⟩
          have hj : j < 5 := by
            have := (List.getElem?_eq_some_iff.mp hy).1
            omega
          obtain ⟨f, fm, tk⟩ := hu4 y (List.mem_of_getElem? hy)
          have S05 : Same H H5 := fun b o e => S5 b o (S04 b o e)
          refine ⟨rfl, ?_⟩
          refine ⟨_, rfl, _, rfl, a, y, f.kd, cs, recs.map rD, rfl, hF.same S05, lc, (by rw [List.length_map]; omega), Tp.keep (Same.tk S05) _ _ tk, trivial, fun H6 S6 => ?_⟩
          have S56 : Same H4 H6 := fun b o e => S6 b o (S5 b o e)
          have S06 : Same H H6 := fun b o e => S6 b o (S05 b o e)
          rw [nn r (List.mem_of_getElem? hr') f fm]
          exact ⟨false, rfl, iteF ⟨S56, T2, ⟨S6 _ _ X5.l, fun q h => S6 _ _ (X5.t q h)⟩, N5, Nat.le_succ_of_le l5⟩⟩
        · rintro H5 ⟨S5, T2, X5, N5, l5⟩
          have hp5 := S5 _ _ hp4
          have lt2 : T2.length ≤ 5 := by omega
          refine ⟨p, D2, _, _, rfl, rfl, hp5, X5.l, ?_, ?_⟩
          · rw [List.length_map, List.length_map, sizeLine_eq]
            omega
          · refine ⟨T ++ T2, ⟨_, _, _, _, _, _, _, rfl⟩, Same.wr (fun b o e => S5 b o (S04 b o e)) hp, ⟨by rw [upd_same, List.map_append], fun q hq => ?_⟩, fun q hq => ?_, ?_⟩
            · have e5 : H5 q.1 = some (.tup (q.2.map V.str)) := by
                rcases List.mem_append.mp hq with h | h
                · exact S5 _ _ (S4 _ _ (X3.t q h))
                · exact X5.t q h
              rw [upd_ne (fun e => by rw [e, hp5] at e5; cases e5)]
              exact e5
            · rcases List.mem_append.mp hq with h | h
              · exact N3 q h
              · exact N5 q h
            · rw [List.length_append]
              omega
    · rintro σ H3 ⟨T, ⟨a2, a3, a4, a5, a6, a7, a8, rfl⟩, S3, X3, N3, l3⟩
      exact ⟨_, rfl, q p T H3 S3 hp X3 N3⟩
theorem ok_wrong2 {C f : Addr} {fd : FuncData} (F : Fun K "wrong" "wrong" sWrong f fd) (G : Glb mg) (cl : Cls K C) (n5 : NoAttr K C "calls") (DA : Has P w K mg base "strangers_in_kinds" 4 ["face"] (spStr2 C)) (DB : Has P w K mg base "endless_records" 6 ["face"] (spEnd C)) : FnOk P w K mg base CX0 7 f fd ["face"] (spWrong2 C) := by
  refine F.ok scWrong (fun vs H Q E h => ?_) (fun cdv A outer s H vs Q E hr h => ?_)
  · obtain ⟨a, cs, recs, rfl, _⟩ := h
    rfl
  · obtain ⟨a, cs, recs, rfl, hF, lc, c1, ok, nn, q⟩ := h
    have ok6 := ok.len
    have hr4 : Room 4 _ := hr.mono (by decide)
    have hu := hu_of hr
    refine ⟨_, pss_cons (ps_set (i := 1) scWrong.nd rfl (Or.inl rfl) (pe_op op_cat (pe_has DA hr4 rfl (pa_cons (pv 0) pa_nil)) (pe_has DB hr rfl (pa_cons (pv 0) pa_nil))))
      (pss_cons (ps_for PassesOwn.never rfl (pi_tup (pe_fld (pv 0) rfl)) (pg_name (i := 2) scWrong.nd rfl (Or.inl rfl)) pss_never)
      (pss_one (ps_ret (pe_callB (cr_sortedSTx rfl hr.units) (by rfl) G.sorted (by decide +kernel) (pa_cons (pe_callTy (cr_setTx rfl hr.units) (by rfl) G.set (by decide +kernel) (pa_cons (pv 1) pa_nil)) pa_nil))))), ?_⟩
    obtain ⟨dx, e, v1, v2, v3, v4, hA, t3, t4, he⟩ := id hF
    refine ⟨_, rfl, a, cs, recs, rfl, hF.r, lc, ok, nn, fun p1 T1 H1 S1 hp1 X1 N1 => ?_⟩
    have l1 : T1.length ≤ 30 := by
      cases T1 with
      | nil => exact Nat.zero_le _
      | cons q _ => exact (N1 q List.mem_cons_self).elim
    refine ⟨_, rfl, a, cs, recs, rfl, hF.r.same S1, lc, c1, ok, fun p2 T2 H2 S2 hp2 X2 e2 => ?_⟩
    have X12 := X1.same S2
    have l2 : T2.length ≤ 6 := by
      have z := congrArg List.length e2
      rw [List.length_map] at z
      rw [z]
      unfold endL
      rw [List.length_map]
      exact Nat.le_trans (List.length_filter_le _ _) ok6
    generalize turns cs (recs.map rD) recs recs.length = Dm at *
    refine ⟨p1, p2, _, _, rfl, rfl, X12.l, X2.l, ?_, fun p hp => ?_⟩
    · rw [List.length_map, List.length_map, sizeLine_eq]
      omega
    have S02 : Same H H2 := fun b o e => S2 b o (S1 b o e)
    have S3 : Same H2 (upd H2 p (.lst (T1.map (fun q => V.ref q.1) ++ T2.map fun q => V.ref q.1))) := Same.new hp
    have X3 : TxL (upd H2 p (.lst (T1.map (fun q => V.ref q.1) ++ T2.map fun q => V.ref q.1))) p (T1 ++ T2) := ⟨by rw [upd_same, List.map_append], fun q hq => by
      rcases List.mem_append.mp hq with h | h
      · exact S3 _ _ (X12.t q h)
      · exact S3 _ _ (X2.t q h)⟩
    generalize upd H2 p (.lst (T1.map (fun q => V.ref q.1) ++ T2.map fun q => V.ref q.1)) = H3 at *
    have S03 : Same H H3 := fun b o e => S3 b o (S02 b o e)
    have hpn : H p = none := Same.free S02 hp
    refine ⟨_, rfl, a, C, dx, _, _, rfl, S03 _ _ hA, cl, n5, ff_calls, e, rfl, ⟨_, SqT.of (S03 _ _ he)⟩, ?_⟩
    refine for_tup (xs := []) (fun i σ H4 => H4 = H3 ∧ σ = [some (.ref a), some (.ref p), none, none]) ?_ ?_ ?_ ?_
    · exact ⟨rfl, rfl⟩
    · rintro i σ H4 _ ⟨rfl, _⟩
      exact SqT.of (S03 _ _ he)
    · rintro i x σ H4 hx _
      exact nomatch hx
    · rintro σ H4 ⟨rfl, rfl⟩
      refine ⟨_, rfl, p, T1 ++ T2, rfl, SqL.of X3.l, fun q hq => SqT.of (X3.t q hq), ?_, fun S T' hS s1 s2 nd lT => ?_⟩
      · rw [List.length_append]
        omega
      have S5 : Same H4 (upd H4 S (SetTx P w S T')) := Same.new hS
      have ne : ∀ q ∈ T', q.2 ≠ [] := fun q hq => by
        rcases List.mem_append.mp (s1 q hq) with h | h
        · exact (N1 q h).elim
        · have m : q.2 ∈ T2.map (·.2) := List.mem_map.mpr ⟨q, h, rfl⟩
          rw [e2] at m
          obtain ⟨r, _, er⟩ := List.mem_map.mp m
          rw [← er]
          exact fun z => nomatch z
      refine ⟨S, T', rfl, upd_same, fun q hq => SqT.of (S5 _ _ (X3.t q (s1 q hq))), ne, lT, fun T4 r pm pw hr' => ?_⟩
      have S6 : Same (upd H4 S (SetTx P w S T')) (upd (upd H4 S (SetTx P w S T')) r (.lst (T4.map fun q => V.ref q.1))) := Same.new hr'
      have sub4 : ∀ q ∈ T4, q ∈ T1 ++ T2 := fun q hq => s1 q (pm.mem_iff.mp hq)
      have S56 : Same H4 (upd (upd H4 S (SetTx P w S T')) r (.lst (T4.map fun q => V.ref q.1))) := fun b o e => S6 b o (S5 b o e)
      refine q r T4 _ (fun b o e => S56 b o (S03 b o e)) (Same.free (fun b o e => S5 b o (S03 b o e)) hr') ⟨upd_same, fun q hq => S56 _ _ (X3.t q (sub4 q hq))⟩ ?_ ⟨pw, ((pm.map (·.2)).nodup_iff).mpr nd, fun x hx => ?_, fun x hx => ?_⟩
      · rw [pm.length_eq]
        exact lT
      · obtain ⟨q, hq, rfl⟩ := List.mem_map.mp hx
        rcases List.mem_append.mp (sub4 q hq) with h | h
        · exact (N1 q h).elim
        · rw [← e2]
          exact List.mem_map.mpr ⟨q, h, rfl⟩
      · rw [← e2] at hx
        obtain ⟨q, hq, rfl⟩ := List.mem_map.mp hx
        exact ((pm.map (·.2)).mem_iff).mpr (s2 q (List.mem_append_right _ hq))
end
end Fh

set_option Elab.async false
set_option linter.all false
set_option maxRecDepth 100000
set_option maxHeartbeats 4000000
namespace Fh
open PySem L2 PyProof.Rows
abbrev sHeld : Stmt := top 84
abbrev nHeld : List Str := ["_law_bag_here", "_law_words", "_law_deep", "_law_recs", "_law_spot", "_law_one", "_law_fields", "_law_size", "_law_mark", "_law_word", "_law_pool", "_law_kind"]
/-- what is kept while a record is drawn: all but the bag stays -/
structure Wd (b wl rl fl zl zr : Addr) (H0 : Hp) (ws : List Str) (vs us : List V) (ns : List Int) (zs : List Str) (d2 d3 : List PyData) (n : Nat) (H : Hp) : Prop where
  bg : Bag H b n
  kp : Kp b H0 H
  l1 : H wl = some (.lst (ws.map V.str))
  l2 : H rl = some (.lst vs)
  l3 : H fl = some (.lst us)
  l4 : H zl = some (.lst (ns.map V.int))
  l5 : H zr = some (.lst (zs.map V.str))
  n1 : wl ≠ b
  n2 : rl ≠ b
  n3 : fl ≠ b
  n4 : zl ≠ b
  n5 : zr ≠ b
  t2 : TpAll H vs d2
  t3 : TpAll H us d3
section
variable {b wl rl fl zl zr : Addr} {H0 : Hp} {ws : List Str} {vs us : List V} {ns : List Int} {zs : List Str} {d2 d3 : List PyData} {n m : Nat} {H H' : Hp}
theorem Wd.step (W : Wd b wl rl fl zl zr H0 ws vs us ns zs d2 d3 n H) (k : Kp b H H') (hb : Bag H' b m) : Wd b wl rl fl zl zr H0 ws vs us ns zs d2 d3 m H' :=
  ⟨hb, W.kp.trans k, k _ _ W.n1 W.l1, k _ _ W.n2 W.l2, k _ _ W.n3 W.l3, k _ _ W.n4 W.l4, k _ _ W.n5 W.l5, W.n1, W.n2, W.n3, W.n4, W.n5, TpAll.keep (k.tk W.bg) _ _ W.t2, TpAll.keep (k.tk W.bg) _ _ W.t3⟩
theorem Wd.new (W : Wd b wl rl fl zl zr H0 ws vs us ns zs d2 d3 n H) {p : Addr} {o : HO} (hp : H p = none) : Wd b wl rl fl zl zr H0 ws vs us ns zs d2 d3 n (upd H p o) :=
  W.step (Kp.refl.new hp) (W.bg.new hp)
end
theorem Wd.mono {b wl rl fl zl zr : Addr} {H0 : Hp} {ws : List Str} {vs us : List V} {ns : List Int} {zs : List Str} {d2 d3 : List PyData} {n m : Nat} {H : Hp} (W : Wd b wl rl fl zl zr H0 ws vs us ns zs d2 d3 n H) (h : n ≤ m) : Wd b wl rl fl zl zr H0 ws vs us ns zs d2 d3 m H :=
  { W with bg := W.bg.mono h }
theorem tup_ne {H : Hp} {t b : Addr} {n : Nat} {xs : List V} (h : H t = some (.tup xs)) (hb : Bag H b n) : t ≠ b := fun e => by
  obtain ⟨_, _, _, z, _⟩ := hb
  rw [e, z] at h
  cases h
theorem nm_sh {z : Str} (h : Nm z) : Sh 0 (.str z) := ⟨strOk_of fun c hc => by have := h.sg c hc; unfold Lt at this; omega, Nat.le_refl _⟩
theorem cut_strs (ws : List Str) (lo hi : Option Int) : ∃ ps : List Str, cutV (ws.map V.str) lo hi = ps.map V.str ∧ ps.length ≤ ws.length ∧ ∀ z ∈ ps, z ∈ ws := by
  unfold cutV
  refine ⟨(ws.drop (HT.sIx (ws.map V.str).length 0 lo)).take (HT.sIx (ws.map V.str).length (ws.map V.str).length hi - HT.sIx (ws.map V.str).length 0 lo), ?_, ?_, fun z hz => List.mem_of_mem_drop (List.mem_of_mem_take hz)⟩
  · rw [List.map_take, List.map_drop]
  · rw [List.length_take, List.length_drop]
    omega
/-- one more field -/
theorem Wd.app {b wl rl fl zl zr t : Addr} {H0 : Hp} {ws : List Str} {vs us : List V} {ns : List Int} {zs : List Str} {d2 d3 : List PyData} {n : Nat} {H : Hp} {o : HO} {d : PyData} (W : Wd b wl rl fl zl zr H0 ws vs us ns zs d2 d3 n H) (ht : H t = none) (hd : Tp (upd H t o) (.ref t) d)
    (hf0 : H0 fl = none) (e1 : fl ≠ wl) (e2 : fl ≠ rl) (e4 : fl ≠ zl) (e5 : fl ≠ zr) : Wd b wl rl fl zl zr H0 ws vs (us ++ [.ref t]) ns zs d2 (d3 ++ [d]) n (upd (upd H t o) fl (.lst (us ++ [.ref t]))) := by
  have W' : Wd b wl rl fl zl zr H0 ws vs us ns zs d2 d3 n (upd H t o) := W.new ht
  have tk : Tk (upd H t o) (upd (upd H t o) fl (.lst (us ++ [.ref t]))) := Tk.wr W'.l3
  exact ⟨W'.bg.ne W.n3, W'.kp.wr hf0, by rw [upd_ne e1.symm]; exact W'.l1, by rw [upd_ne e2.symm]; exact W'.l2, upd_same, by rw [upd_ne e4.symm]; exact W'.l4, by rw [upd_ne e5.symm]; exact W'.l5, W.n1, W.n2, W.n3, W.n4, W.n5,
    TpAll.keep tk _ _ W'.t2, (TpAll.keep tk _ _ W'.t3).app (TpAll.one (Tp.keep tk _ _ hd))⟩
theorem Same.kp {b : Addr} {H H' : Hp} (s : Same H H') : Kp b H H' := fun a o _ e => s a o e
/-- kinds that name somebody -/
def GB (ws : List Str) : Kb → Prop
  | .rc z => z ∈ ws
  | .ch c => c = "menu"
  | _ => True
def GK (ws : List Str) : Kn → Prop
  | .one b => GB ws b
  | .lst b => GB ws b
structure RG (ws : List Str) (fl : List Fl) : Prop where
  kd : ∀ f ∈ fl, GK ws f.kd
  nd : (fl.map (·.nam)).Nodup
  rise : fl.Pairwise fun f g => f.num < g.num
  nums : ∀ f ∈ fl, 1 ≤ f.num ∧ f.num ≤ 30
theorem look_self {α : Type} : ∀ {l : List (Str × α)}, (l.map Prod.fst).Nodup → ∀ r ∈ l, l.lookup r.1 = some r.2
  | [], _, _, h => by cases h
  | (n, v) :: l, nd, r, h => by
    rw [List.map_cons, List.nodup_cons] at nd
    rw [List.lookup_cons]
    rcases List.mem_cons.mp h with rfl | h
    · rw [beq_self_eq_true]
    · have ne : r.1 ≠ n := fun e => nd.1 (List.mem_map.mpr ⟨r, h, e⟩)
      rw [beq_eq_false_iff_ne.mpr ne]
      exact look_self nd.2 r h
theorem rg_of {ws : List Str} {fs : List Fl} {ns : List Int} (gk : ∀ f ∈ fs, GK ws f.kd) (en : fs.map (·.nam) = ([("a" : Str), "b", "c", "d", "e"]).take fs.length) (em : fs.map (·.num) = ns) (pw : ns.Pairwise (· < ·)) (rg : ∀ x ∈ ns, 1 ≤ x ∧ x ≤ 30) : RG ws fs := by
  refine ⟨gk, ?_, ?_, fun f hf => ?_⟩
  · rw [en]
    exact List.Nodup.sublist (List.take_sublist _ _) (by decide +kernel)
  · rw [← em, List.pairwise_map] at pw
    exact pw
  · exact rg f.num (by rw [← em]; exact List.mem_map.mpr ⟨f, hf, rfl⟩)
def spHeld2 : Sp := fun vs H Q _ => ∃ (b : Addr) (n : Nat), vs = [.ref b] ∧ Bag H b n ∧ n + 2000 ≤ most ∧
  ∀ (p : Addr) (F : Fc) (H' : Hp), Kp b H H' → Bag H' b (n + 2000) → PartsR H' p F.c F.r → FcOk F → FcL F → NoNob F.c F.rs → (F.rs.map (·.1)).Nodup → (∀ r ∈ F.rs, Nm r.1) → Q (.ref p) H'
theorem held_face {ws : List Str} {recs : List Rec} {d : Int} (d0 : 0 ≤ d) (d1 : d < 30) (en : recs.map (·.1) = ws) (nd : ws.Nodup) (l6 : ws.length ≤ 6) (fl : ∀ r ∈ recs, r.2.length ≤ 5) (rg : ∀ r ∈ recs, RG ws r.2) :
    FcOk ⟨[("menu", [(1 + d, "x")])], recs⟩ ∧ FcL ⟨[("menu", [(1 + d, "x")])], recs⟩ ∧ NoNob (Fc.c ⟨[("menu", [(1 + d, "x")])], recs⟩) recs := by
  have lr : recs.length ≤ 6 := by
    have := congrArg List.length en
    rw [List.length_map] at this
    omega
  have ndr : (recs.map (·.1)).Nodup := by rw [en]; exact nd
  refine ⟨⟨by show 1 ≤ 100; decide, by show recs.length ≤ 100; omega, fun r hr => by have := fl r hr; omega, fun r hr => (rg r hr).nd, fun r hr => (rg r hr).rise, fun r hr => (rg r hr).nums, ?_, ?_, ?_⟩, ⟨?_, ⟨lr, fl⟩, fun r hr => look_self ndr r hr⟩, ?_⟩
  · intro c hc
    rw [List.mem_singleton.mp hc]
    refine ⟨(fun e => by cases e), (by show 1 ≤ 100; decide), List.nodup_cons.mpr ⟨fun e => (by cases e), List.nodup_nil⟩, fun o ho => ?_⟩
    rw [List.mem_singleton.mp ho]
    show 1 ≤ 1 + d ∧ 1 + d ≤ 200
    omega
  · intro c hc
    rw [List.mem_singleton.mp hc]
    exact List.nodup_cons.mpr ⟨fun e => (by cases e), List.nodup_nil⟩
  · intro c hc
    rw [List.mem_singleton.mp hc]
    show Sh 0 (.str "menu")
    exact ⟨by decide +kernel, Nat.le_refl _⟩
  · intro z hz
    have z1 := of_decide_eq_true hz
    have ez : z = "menu" := List.mem_singleton.mp z1
    subst ez
    exact ⟨1 + d, "x", rfl, by omega, by omega⟩
  · intro r hr f hf
    have g := (rg r hr).kd f hf
    have key : ∀ b : Kb, GB ws b → nobB (Fc.c ⟨[("menu", [(1 + d, "x")])], recs⟩) (recs.map rD) b = false := fun b hb => by
      cases b with
      | whole => rfl
      | truth => rfl
      | text => rfl
      | ch c =>
        have e : c = "menu" := hb
        subst e
        have z1 : nameIn "menu" (Fc.c ⟨[("menu", [(1 + d, "x")])], recs⟩) = true := decide_eq_true (List.mem_singleton.mpr rfl)
        show (!nameIn "menu" (Fc.c ⟨[("menu", [(1 + d, "x")])], recs⟩)) = false
        rw [z1]
        rfl
      | rc z =>
        have m : z ∈ ws := hb
        have z1 : nameIn z (recs.map rD) = true := by
          refine decide_eq_true ?_
          rw [List.map_map]
          rw [← en] at m
          exact m
        show (!nameIn z (recs.map rD)) = false
        rw [z1]
        rfl
    cases hk : f.kd with
    | one b => rw [hk] at g; exact key b g
    | lst b => rw [hk] at g; exact key b g
section
variable {P : Program} {w : World} {K : PySem.W.Frag} {mg : Str → Option Value} {base : Heap}
theorem scHeld : FnScope nHeld ["_law_bag_here"] (defScope sHeld) := ⟨rfl, rfl, rfl, by decide +kernel, rfl, by decide +kernel, by decide +kernel⟩
theorem ok_held2 {f : Addr} {fd : FuncData} (F : Fun K "_law_held" "_law_held" sHeld f fd) (G : Glb mg) (DT : Has P w K mg base "_law_take" 1 ["_law_bag_here", "_law_size"] spTake) (DU : Has P w K mg base "_law_unlike_names" 3 ["_law_bag_here", "_law_size", "_law_taken"] spUnlikeN)
    (DR : Has P w K mg base "_law_rising" 2 ["_law_bag_here", "_law_size", "_law_most"] spRis2) : FnOk P w K mg base CX0 4 f fd ["_law_bag_here"] spHeld2 := by
  refine F.ok scHeld (fun vs H Q E h => ?_) (fun cdv A outer s H vs Q E hr h => ?_)
  · obtain ⟨b, n, rfl, _⟩ := h
    rfl
  · obtain ⟨b, n, rfl, hB, hn, q⟩ := h
    have hn' : n + 2000 ≤ 1000000 := hn
    have hm : most = 1000000 := rfl
    refine ⟨_, (pss_cons (ps_set (i := 1) scHeld.nd rfl (Or.inl rfl) (pe_callB cr_sortedS (by rfl) G.sorted (by decide +kernel) (pa_cons (pe_has DU (hr.mono (by decide)) rfl (pa_cons (pv 0) (pa_cons (pe_op op_add pe_int (pe_has DT (hr.mono (by decide)) rfl (pa_cons (pv 0) (pa_cons pe_int pa_nil)))) (pa_cons (pe_lst (pa_cons pe_str pa_nil)) pa_nil)))) pa_nil)))
      (pss_cons (ps_par (i := 2) (j := 3) rfl scHeld.nd rfl rfl (by decide) rfl rfl (pa_cons (pe_has DT (hr.mono (by decide)) rfl (pa_cons (pv 0) (pa_cons pe_int pa_nil))) (pa_cons (pe_lst pa_nil) pa_nil)) (by rfl))
      (pss_cons (ps_for PassesOwn.never rfl (pi_enum rfl G.enumerate (pa_cons (pv 1) pa_nil)) (pg_tup rfl (pgs_cons (pg_name (i := 4) scHeld.nd rfl (Or.inl rfl)) (pgs_cons (pg_name (i := 5) scHeld.nd rfl (Or.inl rfl)) pgs_nil)))
      (pss_cons (ps_set (i := 6) scHeld.nd rfl (Or.inl rfl) (pe_lst pa_nil))
      (C8.pss_cut (ps_set (i := 7) scHeld.nd rfl (Or.inl rfl) (pe_ix ix_list (pe_lst (pa_cons pe_int (pa_cons (pe_has DT (hr.mono (by decide)) rfl (pa_cons (pv 0) (pa_cons pe_int pa_nil))) pa_nil))) (pe_has DT (hr.mono (by decide)) rfl (pa_cons (pv 0) (pa_cons pe_int pa_nil))) (fun _ _ => rfl)))
      (pss_cons (ps_for PassesOwn.never rfl (pi_zip rfl G.zip (pa_cons (pe_has DR (hr.mono (by decide)) rfl (pa_cons (pv 0) (pa_cons (pv 7) (pa_cons pe_int pa_nil)))) (pa_cons (pe_lst (pa_cons pe_str (pa_cons pe_str (pa_cons pe_str (pa_cons pe_str (pa_cons pe_str pa_nil)))))) pa_nil))) (pg_tup rfl (pgs_cons (pg_name (i := 8) scHeld.nd rfl (Or.inl rfl)) (pgs_cons (pg_name (i := 9) scHeld.nd rfl (Or.inl rfl)) pgs_nil)))
      (C8.pss_cut (ps_set (i := 10) scHeld.nd rfl (Or.inl rfl) (pe_ix ix_list (pe_lst (pa_cons (pv 1) (pa_cons (pe_slice sl_list (pv 1) (po_some (pe_op op_add (pv 4) pe_int)) po_none) (pa_cons (pe_slice sl_list (pv 1) (po_some (pe_op op_add (pv 4) pe_int)) (po_some (pe_op op_add (pv 4) pe_int))) pa_nil)))) (pv 2) (fun _ _ => rfl)))
      (C8.pss_cut (ps_set (i := 11) scHeld.nd rfl (Or.inl rfl) (pe_ix ix_list (pe_lst (pa_cons pe_str (pa_cons pe_str (pa_cons pe_str (pa_cons (pe_tup (pa_cons pe_str (pa_cons pe_str pa_nil))) (pa_cons (pe_tup (pa_cons pe_str (pa_cons pe_str pa_nil))) pa_nil)))))) (pe_has DT (hr.mono (by decide)) rfl (pa_cons (pv 0) (pa_cons pe_int pa_nil))) (fun _ _ => rfl)))
      (C8.pss_cut (ps_if (PW.pt (pw_and (pt_cmpR (op_neD hr.units) (pv 10) (pe_lst pa_nil) (nomark _)) (pw_and1 (pt_cmpR op_eq (pe_has DT (hr.mono (by decide)) rfl (pa_cons (pv 0) (pa_cons pe_int pa_nil))) pe_int (nomark _)))))
      (pss_cons (ps_set (i := 11) scHeld.nd rfl (Or.inl rfl) (pe_tup (pa_cons pe_str (pa_cons (pe_ix ix_list (pv 10) (pe_has DT (hr.mono (by decide)) rfl (pa_cons (pv 0) (pa_cons (pe_callB call_len_seq (by rfl) G.len (by decide +kernel) (pa_cons (pv 10) pa_nil)) pa_nil))) (fun _ _ => rfl)) pa_nil))))
      (pss_one (ps_set (i := 11) scHeld.nd rfl (Or.inl rfl) (pe_ix ix_list (pe_lst (pa_cons (pv 11) (pa_cons (pv 11) (pa_cons (pv 11) (pa_cons (pe_tup (pa_cons pe_str (pa_cons (pv 11) pa_nil))) pa_nil))))) (pe_has DT (hr.mono (by decide)) rfl (pa_cons (pv 0) (pa_cons pe_int pa_nil))) (fun _ _ => rfl)))))
      pss_nil)
      (pss_one (ps_expr (pe_bm PySem.F.plainAttrs_list PySem.F.slot_list_append PySem.F.type_list_append mt_append (pv 6) (pa_cons (pe_tup (pa_cons (pv 8) (pa_cons (pv 9) (pa_cons (pv 11) (pa_cons (pe_ix ix_list (pe_lst (pa_cons pe_str (pa_cons pe_str (pa_cons pe_str (pa_cons pe_str pa_nil))))) (pe_has DT (hr.mono (by decide)) rfl (pa_cons (pv 0) (pa_cons pe_int pa_nil))) (fun _ _ => rfl)) pa_nil))))) pa_nil))))))))
      (pss_one (ps_expr (pe_bm PySem.F.plainAttrs_list PySem.F.slot_list_append PySem.F.type_list_append mt_append (pv 3) (pa_cons (pe_tup (pa_cons (pv 5) (pa_cons (pe_callTy call_tuple_of (by rfl) G.tuple (by decide +kernel) (pa_cons (pv 6) pa_nil)) pa_nil))) pa_nil))))))))
      (pss_one (ps_ret (pe_tup (pa_cons pe_str (pa_cons pe_int (pa_cons (pe_tupF (pa_cons (pe_tup (pa_cons pe_str (pa_cons (pe_tup (pa_cons (pe_tup (pa_cons (pe_op op_add pe_int (pe_has DT (hr.mono (by decide)) rfl (pa_cons (pv 0) (pa_cons pe_int pa_nil)))) (pa_cons pe_str pa_nil))) pa_nil)) pa_nil))) pa_nil)) (pa_cons (pe_callTy cr_tupleF (by rfl) G.tuple (by decide +kernel) (pa_cons (pv 3) pa_nil)) (pa_cons (pe_tup pa_nil) pa_nil))))))))))), ?_⟩
    refine ⟨_, rfl, _, rfl, b, 6, n, rfl, by decide, by decide, hB, by omega, fun d0 H1 d00 d01 k1 b1 => ?_⟩
    refine ⟨_, _, rfl, rfl, (by show 1 ≤ sizeLine; decide), fun ml hml => ?_⟩
    have mlb : ml ≠ b := new_ne hml b1
    refine ⟨b, ml, 1 + d0, ["menu"], n + 1, rfl, b1.new hml, by omega, by omega, upd_same, by decide, by omega, fun nl zs H2 hnl hz lz ndz nmz k2 b2 => ?_⟩
    have K2 : Kp b H H2 := (k1.new hml).trans k2
    have lz6 : zs.length ≤ 6 := by omega
    refine ⟨nl, zs, rfl, SqL.of hz, by omega, fun ws wl pm srt hwl => ?_⟩
    have lw6 : ws.length ≤ 6 := by rw [pm.length_eq]; exact lz6
    have ndw : ws.Nodup := (pm.nodup_iff).mpr ndz
    have nwl : wl ≠ b := new_ne hwl b2
    refine ⟨_, rfl, b, 3, n + 1 + 120, rfl, by decide, by decide, b2.new hwl, by omega, fun dp H3 dp0 dp1 k3 b3 => ?_⟩
    have h3w : H3 wl = some (.lst (ws.map V.str)) := k3 _ _ nwl upd_same
    have K3 : Kp b H H3 := (K2.new hwl).trans k3
    refine ⟨Nat.zero_le _, fun rl hrl => ?_⟩
    have nrl : rl ≠ b := new_ne hrl b3
    have hrlH : H rl = none := K3.free b3.at hrl
    have wlrl : wl ≠ rl := ne_of_none h3w hrl
    have S4 : Kp b H3 (upd H3 rl (.lst [])) := Kp.refl.new hrl
    refine ⟨_, _, rfl, _, rfl, wl, _, rfl, SqL.of (S4 _ _ nwl h3w), ?_⟩
    refine for_it ws.length (fun i σ H4 => ∃ (recs : List Rec) (vs : List V), (∃ a4 a5 a6 a7 a8 a9 a10 a11, σ = [some (.ref b), some (.ref wl), some (.int dp), some (.ref rl), a4, a5, a6, a7, a8, a9, a10, a11]) ∧ Kp b H H4 ∧ Bag H4 b (n + 122 + 200 * i) ∧ H4 wl = some (.lst (ws.map V.str)) ∧ H4 rl = some (.lst vs) ∧
        TpAll H4 vs ((recs.map rD).map fun r => .tuple [.str r.1, r.2]) ∧ recs.map (·.1) = ws.take i ∧ (∀ r ∈ recs, r.2.length ≤ 5) ∧ ∀ r ∈ recs, RG ws r.2) ?_ ?_ ?_ ?_ ?_
    · exact ⟨[], [], ⟨_, _, _, _, _, _, _, _, rfl⟩, K3.trans S4, b3.new hrl, S4 _ _ nwl h3w, upd_same, .nil, rfl, (fun r h => nomatch h), fun r h => nomatch h⟩
    · rintro i σ H4 hi ⟨recs, vs, _, _, _, h4w, _⟩
      exact ⟨_, _, SqL.of h4w, List.getElem?_eq_getElem (by rw [List.length_map]; exact hi)⟩
    · rintro σ H4 ⟨recs, vs, _, _, _, h4w, _⟩
      exact ⟨_, SqL.of h4w, by rw [List.length_map]; exact Nat.le_refl _⟩
    · rintro i σ H4 v H4' hi ⟨recs, vs, ⟨a4, a5, a6, a7, a8, a9, a10, a11, rfl⟩, K4, b4, h4w, h4r, t4, en4, fl4, rg4⟩ ⟨T, x, rfl, hT, rfl, hx⟩
      have hx := hx _ (SqL.of h4w)
      rw [List.getElem?_map] at hx
      obtain ⟨wd, hwd⟩ : ∃ wd, ws[i]? = some wd := ⟨_, List.getElem?_eq_getElem hi⟩
      rw [hwd] at hx
      cases hx
      have hvl : vs.length = recs.length := by rw [t4.length, List.length_map, List.length_map]
      have hrl2 : recs.length ≤ 6 := by
        have z := congrArg List.length en4
        rw [List.length_map, List.length_take] at z
        omega
      refine ⟨T, _, rfl, SqT.of upd_same, rfl, _, _, rfl, _, _, rfl, rfl, ?_⟩
      refine ⟨Nat.zero_le _, fun fl hfl => ?_⟩
      have hfl4 : H4 fl = none := by
        cases e : H4 fl with
        | none => rfl
        | some o => rw [upd_ne (ne_of_none e hT), e] at hfl; cases hfl
      have nT : T ≠ b := new_ne hT b4
      have nfl : fl ≠ b := new_ne hfl4 b4
      have hflH : H fl = none := K4.free b4.at hfl4
      have K5 : Kp b H (upd (upd H4 T (.tup [.int (i : Nat), .str wd])) fl (.lst [])) := (K4.new hT).new hfl
      have K45 : Kp b H4 (upd (upd H4 T (.tup [.int (i : Nat), .str wd])) fl (.lst [])) := (Kp.refl.new hT).new hfl
      have b5 : Bag (upd (upd H4 T (.tup [.int (i : Nat), .str wd])) fl (.lst [])) b (n + 122 + 200 * i) := (b4.new hT).new hfl
      have h5f : (upd (upd H4 T (.tup [.int (i : Nat), .str wd])) fl (.lst [])) fl = some (.lst []) := upd_same
      have fwl : fl ≠ wl := fun e => by rw [e, h4w] at hfl4; cases hfl4
      have frl : fl ≠ rl := fun e => by rw [e, h4r] at hfl4; cases hfl4
      generalize upd (upd H4 T (.tup [.int (i : Nat), .str wd])) fl (.lst []) = H5 at *
      refine ⟨fun σ H' => ∃ size : Nat, size ≤ 5 ∧ (σ = [some (.ref b), some (.ref wl), some (.int dp), some (.ref rl), some (.int (i : Nat)), some (.str wd), some (.ref fl), some (.int size), a8, a9, a10, a11]) ∧ Kp b H5 H' ∧ Bag H' b (n + 124 + 200 * i), ?_, ?_⟩
      · refine ⟨_, rfl, b, 6, _, rfl, by decide, by decide, b5, by omega, fun d1 H6 d10 d11 k6 b6 => ?_⟩
        refine ⟨(by show 2 ≤ sizeLine; decide), fun pl hpl => ?_⟩
        have npl : pl ≠ b := new_ne hpl b6
        refine ⟨_, rfl, b, 2, _, rfl, by decide, by decide, b6.new hpl, by omega, fun d2 H7 d20 d21 k7 b7 => ?_⟩
        have h7p := k7 _ _ npl upd_same
        have K7 : Kp b H5 H7 := (k6.new hpl).trans k7
        rcases (by omega : d2 = 0 ∨ d2 = 1) with rfl | rfl
        · exact ⟨pl, _, _, _, rfl, rfl, SqL.of h7p, rfl, 4, by decide, rfl, K7, b7.mono (by omega)⟩
        · refine ⟨pl, _, _, _, rfl, rfl, SqL.of h7p, rfl, d1.toNat, by omega, ?_, K7, b7.mono (by omega)⟩
          have e : ((d1.toNat : Nat) : Int) = d1 := by omega
          rw [e]
          rfl
      · rintro σ H6 ⟨size, hsz, rfl, K56, b6⟩
        refine ⟨_, rfl, _, rfl, b, size, _, rfl, by omega, b6, by omega, fun zl ns H7 hzl h7z lns k7 b7 npw nrg => ?_⟩
        have nzl : zl ≠ b := new_ne hzl b6
        refine ⟨(by show 5 ≤ sizeLine; decide), fun zr hzr => ?_⟩
        have nzr : zr ≠ b := new_ne hzr b7
        have K57 : Kp b H5 H7 := K56.trans k7
        have K47 : Kp b H4 H7 := K45.trans K57
        have K8 : Kp b H7 (upd H7 zr (.lst ([("a" : Str), "b", "c", "d", "e"].map V.str))) := Kp.refl.new hzr
        have W0 : Wd b wl rl fl zl zr H ws vs [] ns ["a", "b", "c", "d", "e"] ((recs.map rD).map fun r => .tuple [.str r.1, r.2]) [] (n + 164 + 200 * i) (upd H7 zr (.lst ([("a" : Str), "b", "c", "d", "e"].map V.str))) :=
          ⟨(b7.mono (by omega)).new hzr, (K5.trans K57).trans K8, K8 _ _ nwl (K47 _ _ nwl h4w), K8 _ _ nrl (K47 _ _ nrl h4r), K8 _ _ nfl (K57 _ _ nfl h5f), K8 _ _ nzl h7z, upd_same, nwl, nrl, nfl, nzl, nzr, TpAll.keep ((K47.trans K8).tk b4) _ _ t4, .nil⟩
        have flzl : fl ≠ zl := fun e => by
          have z := K56 _ _ nfl h5f
          rw [e, hzl] at z
          cases z
        have flzr : fl ≠ zr := fun e => by
          have z := K57 _ _ nfl h5f
          rw [e, hzr] at z
          cases z
        refine ⟨zl, zr, _, _, rfl, SqL.of W0.l4, SqL.of W0.l5, ?_⟩
        have W0' := W0
        generalize upd H7 zr (.lst ([("a" : Str), "b", "c", "d", "e"].map V.str)) = H8 at W0
        refine for_it ns.length (fun j σ H9 => ∃ (fs : List Fl) (us : List V), (∃ a8 a9 a10 a11, σ = [some (.ref b), some (.ref wl), some (.int dp), some (.ref rl), some (.int (i : Nat)), some (.str wd), some (.ref fl), some (.int size), a8, a9, a10, a11]) ∧
            Wd b wl rl fl zl zr H ws vs us ns ["a", "b", "c", "d", "e"] ((recs.map rD).map fun r => .tuple [.str r.1, r.2]) (fs.map Fl.d) (n + 164 + 200 * i + 7 * j) H9 ∧ fs.length = j ∧ (∀ f ∈ fs, GK ws f.kd) ∧ fs.map (·.nam) = ([("a" : Str), "b", "c", "d", "e"]).take j ∧ fs.map (·.num) = ns.take j) ?_ ?_ ?_ ?_ ?_
        · exact ⟨[], [], ⟨_, _, _, _, rfl⟩, W0', rfl, (fun f h => nomatch h), rfl, rfl⟩
        · rintro j σ H9 hj ⟨fs, us, _, W, _⟩
          exact ⟨_, _, _, _, SqL.of W.l4, SqL.of W.l5, List.getElem?_eq_getElem (by rw [List.length_map]; exact hj), List.getElem?_eq_getElem (by rw [List.length_map]; show j < 5; omega)⟩
        · rintro σ H9 ⟨fs, us, _, W, _⟩
          exact ⟨_, _, SqL.of W.l4, SqL.of W.l5, .inl (by rw [List.length_map]; exact Nat.le_refl _)⟩
        · rintro j σ H9 v H9' hj ⟨fs, us, ⟨a8, a9, a10, a11, rfl⟩, W, lfs, gfs, nfs, mfs⟩ ⟨T2, x, y, rfl, hT2, rfl, hx, hy⟩
          have hx := hx _ (SqL.of W.l4)
          have hy := hy _ (SqL.of W.l5)
          rw [List.getElem?_map] at hx hy
          obtain ⟨mk, hmk⟩ : ∃ mk, ns[j]? = some mk := ⟨_, List.getElem?_eq_getElem hj⟩
          obtain ⟨nw, hnw⟩ : ∃ nw, ([("a" : Str), "b", "c", "d", "e"])[j]? = some nw := ⟨_, List.getElem?_eq_getElem (by show j < 5; omega)⟩
          rw [hmk] at hx
          rw [hnw] at hy
          cases hx
          cases hy
          refine ⟨T2, _, rfl, SqT.of upd_same, rfl, _, _, rfl, _, _, rfl, rfl, ?_⟩
          replace W := W.new (o := .tup [.int mk, .str nw]) hT2
          generalize upd H9 T2 (.tup [.int mk, .str nw]) = H10 at *
          -- the pool
          refine ⟨fun σ H' => ∃ (pl : Addr) (ps : List Str), (σ = [some (.ref b), some (.ref wl), some (.int dp), some (.ref rl), some (.int (i : Nat)), some (.str wd), some (.ref fl), some (.int size), some (.int mk), some (.str nw), some (.ref pl), a11]) ∧
            Wd b wl rl fl zl zr H ws vs us ns ["a", "b", "c", "d", "e"] ((recs.map rD).map fun r => .tuple [.str r.1, r.2]) (fs.map Fl.d) (n + 164 + 200 * i + 7 * j) H' ∧ H' pl = some (.lst (ps.map V.str)) ∧ pl ≠ b ∧ ps.length ≤ 6 ∧ ∀ z ∈ ps, z ∈ ws, ?_, ?_⟩
          · refine ⟨_, rfl, _, rfl, _, rfl, _, _, rfl, rfl, _, rfl, wl, _, rfl, SqL.of W.l1, fun p1 hp1 => ?_⟩
            have n1 : p1 ≠ b := new_ne hp1 W.bg
            replace W := W.new (o := .lst (cutV (ws.map V.str) (some ((i : Nat) + 1)) none)) hp1
            have c1 : (upd H10 p1 (.lst (cutV (ws.map V.str) (some ((i : Nat) + 1)) none))) p1 = some (.lst (cutV (ws.map V.str) (some ((i : Nat) + 1)) none)) := upd_same
            obtain ⟨q1, eq1, lq1, sq1⟩ := cut_strs ws (some ((i : Nat) + 1)) none
            generalize upd H10 p1 (.lst (cutV (ws.map V.str) (some ((i : Nat) + 1)) none)) = H11 at *
            refine ⟨_, rfl, _, rfl, _, _, rfl, rfl, _, rfl, _, rfl, _, _, rfl, rfl, _, rfl, wl, _, rfl, SqL.of W.l1, fun p2 hp2 => ?_⟩
            have n2 : p2 ≠ b := new_ne hp2 W.bg
            replace W := W.new (o := .lst (cutV (ws.map V.str) (some ((i : Nat) + 1)) (some ((i : Nat) + 2)))) hp2
            have c2 : (upd H11 p2 (.lst (cutV (ws.map V.str) (some ((i : Nat) + 1)) (some ((i : Nat) + 2))))) p2 = some (.lst (cutV (ws.map V.str) (some ((i : Nat) + 1)) (some ((i : Nat) + 2)))) := upd_same
            replace c1 : (upd H11 p2 (.lst (cutV (ws.map V.str) (some ((i : Nat) + 1)) (some ((i : Nat) + 2))))) p1 = some (.lst (cutV (ws.map V.str) (some ((i : Nat) + 1)) none)) := by rw [upd_ne (ne_of_none c1 hp2)]; exact c1
            obtain ⟨q2, eq2, lq2, sq2⟩ := cut_strs ws (some ((i : Nat) + 1)) (some ((i : Nat) + 2))
            generalize upd H11 p2 (.lst (cutV (ws.map V.str) (some ((i : Nat) + 1)) (some ((i : Nat) + 2)))) = H12 at *
            rw [eq1] at c1
            rw [eq2] at c2
            refine ⟨(by show 3 ≤ sizeLine; decide), fun p3 hp3 => ?_⟩
            replace W := W.new (o := .lst [.ref wl, .ref p1, .ref p2]) hp3
            replace c1 : (upd H12 p3 (.lst [.ref wl, .ref p1, .ref p2])) p1 = some (.lst (q1.map V.str)) := by rw [upd_ne (ne_of_none c1 hp3)]; exact c1
            replace c2 : (upd H12 p3 (.lst [.ref wl, .ref p1, .ref p2])) p2 = some (.lst (q2.map V.str)) := by rw [upd_ne (ne_of_none c2 hp3)]; exact c2
            rcases (by omega : dp = 0 ∨ dp = 1 ∨ dp = 2) with rfl | rfl | rfl
            · exact ⟨_, rfl, p3, _, _, _, rfl, rfl, SqL.of upd_same, rfl, wl, ws, rfl, W, W.l1, nwl, lw6, fun z h => h⟩
            · exact ⟨_, rfl, p3, _, _, _, rfl, rfl, SqL.of upd_same, rfl, p1, q1, rfl, W, c1, n1, by omega, sq1⟩
            · exact ⟨_, rfl, p3, _, _, _, rfl, rfl, SqL.of upd_same, rfl, p2, q2, rfl, W, c2, n2, by omega, sq2⟩
          · rintro σ H11 ⟨pl, ps, rfl, W, hpl, npl, lps, sub⟩
            clear hT2
            let Md : Nat → L2.St → Hp → Prop := fun c σ H' => ∃ (kv : V) (k : Kn), σ = [some (.ref b), some (.ref wl), some (.int dp), some (.ref rl), some (.int (i : Nat)), some (.str wd), some (.ref fl), some (.int size), some (.int mk), some (.str nw), some (.ref pl), some kv] ∧
              Wd b wl rl fl zl zr H ws vs us ns ["a", "b", "c", "d", "e"] ((recs.map rD).map fun r => .tuple [.str r.1, r.2]) (fs.map Fl.d) (n + 164 + 200 * i + 7 * j + c) H' ∧ H' pl = some (.lst (ps.map V.str)) ∧ Tp H' kv k.d ∧ GK ws k
            refine ⟨Md 1, ?_, ?_⟩
            · -- a kind without a name of a record
              refine ⟨(by show 2 ≤ sizeLine; decide), fun k1 hk1 => ?_⟩
              replace W := W.new (o := .tup [.str "choice", .str "menu"]) hk1
              have x1 : (upd H11 k1 (.tup [.str "choice", .str "menu"])) k1 = some (.tup [.str "choice", .str "menu"]) := upd_same
              replace hpl : (upd H11 k1 (.tup [.str "choice", .str "menu"])) pl = some (.lst (ps.map V.str)) := by rw [upd_ne (ne_of_none hpl hk1)]; exact hpl
              generalize upd H11 k1 (.tup [.str "choice", .str "menu"]) = H12 at *
              refine ⟨(by show 2 ≤ sizeLine; decide), fun k2 hk2 => ?_⟩
              replace W := W.new (o := .tup [.str "list", .str "text"]) hk2
              have x2 : (upd H12 k2 (.tup [.str "list", .str "text"])) k2 = some (.tup [.str "list", .str "text"]) := upd_same
              replace x1 : (upd H12 k2 (.tup [.str "list", .str "text"])) k1 = some (.tup [.str "choice", .str "menu"]) := by rw [upd_ne (ne_of_none x1 hk2)]; exact x1
              replace hpl : (upd H12 k2 (.tup [.str "list", .str "text"])) pl = some (.lst (ps.map V.str)) := by rw [upd_ne (ne_of_none hpl hk2)]; exact hpl
              generalize upd H12 k2 (.tup [.str "list", .str "text"]) = H13 at *
              refine ⟨(by show 5 ≤ sizeLine; decide), fun k3 hk3 => ?_⟩
              have nk3 : k3 ≠ b := new_ne hk3 W.bg
              have nk1 : k1 ≠ b := fun e => by
                obtain ⟨_, _, _, z, _⟩ := W.bg
                rw [e, z] at x1
                cases x1
              have nk2 : k2 ≠ b := fun e => by
                obtain ⟨_, _, _, z, _⟩ := W.bg
                rw [e, z] at x2
                cases x2
              replace W := W.new (o := .lst [.str "whole", .str "text", .str "truth", .ref k1, .ref k2]) hk3
              refine ⟨_, rfl, b, 5, _, rfl, by decide, by decide, W.bg, by omega, fun d3 H14 e0 e1 k14 b14 => ?_⟩
              have x3 := k14 _ _ nk3 upd_same
              have y1 := k14 k1 _ nk1 (by rw [upd_ne (ne_of_none x1 hk3)]; exact x1)
              have y2 := k14 k2 _ nk2 (by rw [upd_ne (ne_of_none x2 hk3)]; exact x2)
              have hpl4 := k14 pl _ npl (by rw [upd_ne (ne_of_none hpl hk3)]; exact hpl)
              replace W := W.step k14 b14
              rcases (by omega : d3 = 0 ∨ d3 = 1 ∨ d3 = 2 ∨ d3 = 3 ∨ d3 = 4) with rfl | rfl | rfl | rfl | rfl
              · exact ⟨k3, _, _, _, rfl, rfl, SqL.of x3, rfl, _, .one .whole, rfl, W, hpl4, .str _, trivial⟩
              · exact ⟨k3, _, _, _, rfl, rfl, SqL.of x3, rfl, _, .one .text, rfl, W, hpl4, .str _, trivial⟩
              · exact ⟨k3, _, _, _, rfl, rfl, SqL.of x3, rfl, _, .one .truth, rfl, W, hpl4, .str _, trivial⟩
              · exact ⟨k3, _, _, _, rfl, rfl, SqL.of x3, rfl, _, .one (.ch "menu"), rfl, W, hpl4, .tup y1 (.cons (.str _) (.cons (.str _) .nil)), rfl⟩
              · exact ⟨k3, _, _, _, rfl, rfl, SqL.of x3, rfl, _, .lst .text, rfl, W, hpl4, .tup y2 (.cons (.str _) (.cons (.str _) .nil)), trivial⟩
            clear W hpl
            rintro σ H12 ⟨kv, k, rfl, W, hpl, tk, gk⟩
            refine ⟨Md 4, ?_, ?_⟩
            · refine ⟨_, rfl, Nat.zero_le _, fun el hel => ?_⟩
              have shp : Sh 1 (.list (ps.map PyData.str)) := Sh.lst fun d hd => by
                obtain ⟨z, hz, rfl⟩ := List.mem_map.mp hd
                exact nm_sh (nmz z (pm.mem_iff.mp (sub z hz))).1
              have she : Sh 1 (.list []) := Sh.lst fun d hd => nomatch hd
              replace W := W.new (o := .lst []) hel
              replace tk := Tp.keep (Tk.new (o := .lst []) hel) _ _ tk
              have hpl2 := hup (o := .lst []) hel hpl
              refine ⟨_, _, .lst (SqL.of hpl2) (Dp.strs ps), .lst (SqL.of upd_same) .nil, shp.shaped (by decide), she.shaped (by decide), _, rfl, ?_⟩
              generalize upd H12 el (.lst []) = H13 at *
              cases ps with
              | nil =>
                have e : (!PyData.eqv (.list (([] : List Str).map PyData.str)) (.list [])) = false := rfl
                rw [e]
                exact iteF ⟨kv, k, rfl, W.mono (by omega), hpl2, tk, gk⟩
              | cons z0 pr =>
                have e : (!PyData.eqv (.list ((z0 :: pr).map PyData.str)) (.list [])) = true := rfl
                rw [e]
                refine iteT ?_
                refine ⟨_, rfl, b, 2, _, rfl, by decide, by decide, W.bg, by omega, fun d4 H14 e0 e1 k14 b14 => ?_⟩
                replace tk := Tp.keep (k14.tk W.bg) _ _ tk
                replace W := W.step k14 b14
                have hpl3 := k14 _ _ npl hpl2
                refine ⟨rfl, _, rfl, ?_⟩
                refine ite2 (fun _ => ?_) (fun _ => ⟨kv, k, rfl, W.mono (by omega), hpl3, tk, gk⟩)
                refine ⟨_, rfl, _, rfl, _, rfl, pl, _, rfl, .inl (SqL.of hpl3), b, _, _, rfl, (by rw [List.length_map, List.length_cons]; omega), (by rw [List.length_map]; omega), W.bg, by omega, fun d5 H15 f0 f1 k15 b15 => ?_⟩
                obtain ⟨v, ev, _, hv⟩ := atI_in (xs := (z0 :: pr).map V.str) f0 f1
                obtain ⟨z, hz, rfl⟩ := List.mem_map.mp hv
                have zw : z ∈ ws := sub z hz
                have hpl4 := k15 _ _ npl hpl3
                replace W := W.step k15 b15
                refine ⟨pl, _, _, _, rfl, rfl, SqL.of hpl4, ev, (by show 2 ≤ sizeLine; decide), fun t1 ht1 => ?_⟩
                have x1 : (upd H15 t1 (.tup [.str "record", .str z])) t1 = some (.tup [.str "record", .str z]) := upd_same
                have hpl5 := hup (o := .tup [.str "record", .str z]) ht1 hpl4
                replace W := W.new (o := .tup [.str "record", .str z]) ht1
                have rd : ([V.str "record", V.str z] : List V) = [V.str "record", V.str z] := rfl
                generalize upd H15 t1 (.tup [.str "record", .str z]) = H16 at *
                refine ⟨_, rfl, _, rfl, _, rfl, _, rfl, (by show 2 ≤ sizeLine; decide), fun t2 ht2 => ?_⟩
                have x2 : (upd H16 t2 (.tup [.str "list", .ref t1])) t2 = some (.tup [.str "list", .ref t1]) := upd_same
                have x1' := hup (o := .tup [.str "list", .ref t1]) ht2 x1
                have hpl6 := hup (o := .tup [.str "list", .ref t1]) ht2 hpl5
                replace W := W.new (o := .tup [.str "list", .ref t1]) ht2
                generalize upd H16 t2 (.tup [.str "list", .ref t1]) = H17 at *
                refine ⟨(by show 4 ≤ sizeLine; decide), fun l4 hl4 => ?_⟩
                have nl4 : l4 ≠ b := new_ne hl4 W.bg
                have y1 := hup (o := .lst [.ref t1, .ref t1, .ref t1, .ref t2]) hl4 x1'
                have y2 := hup (o := .lst [.ref t1, .ref t1, .ref t1, .ref t2]) hl4 x2
                have hpl7 := hup (o := .lst [.ref t1, .ref t1, .ref t1, .ref t2]) hl4 hpl6
                replace W := W.new (o := .lst [.ref t1, .ref t1, .ref t1, .ref t2]) hl4
                refine ⟨_, rfl, b, 4, _, rfl, by decide, by decide, W.bg, by omega, fun d6 H18 g0 g1 k18 b18 => ?_⟩
                have w1 := k18 _ _ (tup_ne y1 W.bg) y1
                have w2 := k18 _ _ (tup_ne y2 W.bg) y2
                have w4 := k18 _ _ nl4 upd_same
                have hpl8 := k18 _ _ npl hpl7
                replace W := W.step k18 b18
                have tr : Tp H18 (.ref t1) (Kn.one (.rc z)).d := .tup w1 (.cons (.str _) (.cons (.str _) .nil))
                rcases (by omega : d6 = 0 ∨ d6 = 1 ∨ d6 = 2 ∨ d6 = 3) with rfl | rfl | rfl | rfl
                · exact ⟨l4, _, _, _, rfl, rfl, SqL.of w4, rfl, _, .one (.rc z), rfl, W.mono (by omega), hpl8, tr, zw⟩
                · exact ⟨l4, _, _, _, rfl, rfl, SqL.of w4, rfl, _, .one (.rc z), rfl, W.mono (by omega), hpl8, tr, zw⟩
                · exact ⟨l4, _, _, _, rfl, rfl, SqL.of w4, rfl, _, .one (.rc z), rfl, W.mono (by omega), hpl8, tr, zw⟩
                · exact ⟨l4, _, _, _, rfl, rfl, SqL.of w4, rfl, _, .lst (.rc z), rfl, W.mono (by omega), hpl8, .tup w2 (.cons (.str _) (.cons tr .nil)), zw⟩
            clear W hpl tk gk
            rintro σ H12 ⟨kv, k, rfl, W, hpl, tk, gk⟩
            have lus : us.length = j := by rw [W.t3.length, List.length_map]; exact lfs
            refine ⟨_, rfl, .inl ⟨rfl, _, SqL.of W.l3⟩, ?_⟩
            refine ⟨_, rfl, _, rfl, _, rfl, (by show 4 ≤ sizeLine; decide), fun l4 hl4 => ?_⟩
            have nl4 : l4 ≠ b := new_ne hl4 W.bg
            replace tk := Tp.keep (Tk.new (o := .lst [.str "must", .str "must", .str "must", .str "may"]) hl4) _ _ tk
            replace W := W.new (o := .lst [.str "must", .str "must", .str "must", .str "may"]) hl4
            refine ⟨_, rfl, b, 4, _, rfl, by decide, by decide, W.bg, by omega, fun d9 H13 g0 g1 k13 b13 => ?_⟩
            replace tk := Tp.keep (k13.tk W.bg) _ _ tk
            have x4 := k13 _ _ nl4 upd_same
            replace W := W.step k13 b13
            have pick : ∃ mu : Bool, atI [V.str "must", V.str "must", V.str "must", V.str "may"] d9 = some (.str (needS mu)) := by
              rcases (by omega : d9 = 0 ∨ d9 = 1 ∨ d9 = 2 ∨ d9 = 3) with rfl | rfl | rfl | rfl
              · exact ⟨true, rfl⟩
              · exact ⟨true, rfl⟩
              · exact ⟨true, rfl⟩
              · exact ⟨false, rfl⟩
            obtain ⟨mu, emu⟩ := pick
            refine ⟨l4, _, _, _, rfl, rfl, SqL.of x4, emu, (by show 4 ≤ sizeLine; decide), fun t ht => ?_⟩
            refine ⟨fl, _, _, rfl, rfl, hup ht W.l3, by rw [lus]; exact Nat.lt_of_lt_of_le (show j < 5 by omega) (by decide), ?_⟩
            have td : Tp (upd H13 t (.tup [.int mk, .str nw, kv, .str (needS mu)])) (.ref t) (Fl.d ⟨mk, nw, k, mu⟩) := .tup upd_same (.cons (.int _) (.cons (.str _) (.cons (Tp.keep (Tk.new ht) _ _ tk) (.cons (.str _) .nil))))
            have W2 := W.app ht td hflH fwl frl flzl flzr
            refine ⟨fs ++ [⟨mk, nw, k, mu⟩], us ++ [.ref t], ⟨_, _, _, _, rfl⟩, ?_, by rw [List.length_append, lfs]; rfl, fun f hf => ?_, by rw [List.map_append, nfs, List.take_add_one, hnw]; rfl, by rw [List.map_append, mfs, List.take_add_one, hmk]; rfl⟩
            rotate_left
            · rcases List.mem_append.mp hf with h | h
              · exact gfs f h
              · rw [List.mem_singleton.mp h]
                exact gk
            rw [List.map_append]
            exact W2.mono (by omega)
        · rintro σ H9 ⟨fs, us, ⟨a8, a9, a10, a11, rfl⟩, W, lfs, gfs, nfs, mfs⟩
          have lus : us.length ≤ 5 := by rw [W.t3.length, List.length_map]; omega
          refine ⟨_, rfl, .inl ⟨rfl, _, SqL.of W.l2⟩, ?_⟩
          refine ⟨_, rfl, _, rfl, fl, _, rfl, .inl ⟨SqL.of W.l3, fun t1 ht1 => ?_⟩⟩
          have x1 : (upd H9 t1 (.tup us)) t1 = some (.tup us) := upd_same
          have tf : Tp (upd H9 t1 (.tup us)) (.ref t1) (fieldsD fs) := .tup upd_same (TpAll.keep (Tk.new ht1) _ _ W.t3)
          replace W := W.new (o := .tup us) ht1
          generalize upd H9 t1 (.tup us) = H10 at *
          refine ⟨(by show 2 ≤ sizeLine; decide), fun t2 ht2 => ?_⟩
          have tr : Tp (upd H10 t2 (.tup [.str wd, .ref t1])) (.ref t2) (.tuple [.str wd, fieldsD fs]) := .tup upd_same (.cons (.str _) (.cons (Tp.keep (Tk.new ht2) _ _ tf) .nil))
          replace W := W.new (o := .tup [.str wd, .ref t1]) ht2
          generalize upd H10 t2 (.tup [.str wd, .ref t1]) = H11 at *
          refine ⟨rl, _, _, rfl, rfl, W.l2, by rw [hvl]; exact Nat.lt_of_le_of_lt hrl2 (by decide), ?_⟩
          have tkr : Tk H11 (upd H11 rl (.lst (vs ++ [.ref t2]))) := Tk.wr W.l2
          refine ⟨recs ++ [(wd, fs)], vs ++ [.ref t2], ⟨_, _, _, _, _, _, _, _, rfl⟩, W.kp.wr hrlH, (W.bg.ne nrl).mono (by omega), ?_, upd_same, ?_, ?_, ?_, ?_⟩
          · rw [upd_ne wlrl]
            exact W.l1
          · rw [List.map_append, List.map_append]
            exact (TpAll.keep tkr _ _ W.t2).app (TpAll.one (Tp.keep tkr _ _ tr))
          · rw [List.map_append, en4, List.take_add_one, hwd]
            rfl
          · intro r hr'
            rcases List.mem_append.mp hr' with h | h
            · exact fl4 r h
            · rw [List.mem_singleton.mp h]
              show fs.length ≤ 5
              omega
          · intro r hr'
            rcases List.mem_append.mp hr' with h | h
            · exact rg4 r h
            · rw [List.mem_singleton.mp h]
              rw [List.take_length] at mfs
              exact rg_of gfs (by rw [lfs]; exact nfs) mfs npw nrg
    · rintro σ H4 ⟨recs, vs, ⟨a4, a5, a6, a7, a8, a9, a10, a11, rfl⟩, K4, b4, h4w, h4r, t4, en4, fl4, rg4⟩
      rw [List.take_length] at en4
      have lrc : recs.length ≤ 6 := by
        have z := congrArg List.length en4
        rw [List.length_map] at z
        omega
      refine ⟨_, rfl, b, 30, _, rfl, by decide, by decide, b4, by omega, fun d1 H5 e0 e1 k5 b5 => ?_⟩
      have K5 := K4.trans k5
      have t5 := TpAll.keep (k5.tk b4) _ _ t4
      have h5r := k5 _ _ nrl h4r
      refine ⟨_, _, rfl, rfl, (by show 2 ≤ sizeLine; decide), fun t1 ht1 => ?_⟩
      have x1 : Tp (upd H5 t1 (.tup [.int (1 + d1), .str "x"])) (.ref t1) (.tuple [.int (1 + d1), .str "x"]) := .tup upd_same (.cons (.int _) (.cons (.str _) .nil))
      replace K5 := K5.new (o := .tup [.int (1 + d1), .str "x"]) ht1
      replace b5 := b5.new (o := .tup [.int (1 + d1), .str "x"]) ht1
      replace t5 := TpAll.keep (Tk.new (o := .tup [.int (1 + d1), .str "x"]) ht1) _ _ t5
      replace h5r := hup (o := .tup [.int (1 + d1), .str "x"]) ht1 h5r
      generalize upd H5 t1 (.tup [.int (1 + d1), .str "x"]) = H6 at *
      refine ⟨(by show 1 ≤ sizeLine; decide), fun t2 ht2 => ?_⟩
      have x2 : Tp (upd H6 t2 (.tup [.ref t1])) (.ref t2) (optsD [(1 + d1, "x")]) := .tup upd_same (.cons (Tp.keep (Tk.new ht2) _ _ x1) .nil)
      replace K5 := K5.new (o := .tup [.ref t1]) ht2
      replace b5 := b5.new (o := .tup [.ref t1]) ht2
      replace t5 := TpAll.keep (Tk.new (o := .tup [.ref t1]) ht2) _ _ t5
      replace h5r := hup (o := .tup [.ref t1]) ht2 h5r
      generalize upd H6 t2 (.tup [.ref t1]) = H7 at *
      refine ⟨(by show 2 ≤ sizeLine; decide), fun t3 ht3 => ?_⟩
      have x3 : Tp (upd H7 t3 (.tup [.str "menu", .ref t2])) (.ref t3) (.tuple [.str "menu", optsD [(1 + d1, "x")]]) := .tup upd_same (.cons (.str _) (.cons (Tp.keep (Tk.new ht3) _ _ x2) .nil))
      replace K5 := K5.new (o := .tup [.str "menu", .ref t2]) ht3
      replace b5 := b5.new (o := .tup [.str "menu", .ref t2]) ht3
      replace t5 := TpAll.keep (Tk.new (o := .tup [.str "menu", .ref t2]) ht3) _ _ t5
      replace h5r := hup (o := .tup [.str "menu", .ref t2]) ht3 h5r
      generalize upd H7 t3 (.tup [.str "menu", .ref t2]) = H8 at *
      refine ⟨(by show 1 ≤ sizeLine; decide), fun c oc hc plc => ?_⟩
      have y1 : (upd H8 c (.frz oc (.tup [.ref t3]))) c = some (.frz oc (.tup [.ref t3])) := upd_same
      replace x3 := Tp.keep (Tk.new (o := .frz oc (.tup [.ref t3])) hc) _ _ x3
      replace K5 := K5.new (o := .frz oc (.tup [.ref t3])) hc
      replace b5 := b5.new (o := .frz oc (.tup [.ref t3])) hc
      replace t5 := TpAll.keep (Tk.new (o := .frz oc (.tup [.ref t3])) hc) _ _ t5
      replace h5r := hup (o := .frz oc (.tup [.ref t3])) hc h5r
      generalize upd H8 c (.frz oc (.tup [.ref t3])) = H9 at *
      refine ⟨_, rfl, rl, vs, rfl, SqL.of h5r, fun r ow hr' plr => ?_⟩
      have y2 : (upd H9 r (.frz ow (.tup vs))) r = some (.frz ow (.tup vs)) := upd_same
      replace y1 := hup (o := .frz ow (.tup vs)) hr' y1
      replace x3 := Tp.keep (Tk.new (o := .frz ow (.tup vs)) hr') _ _ x3
      replace K5 := K5.new (o := .frz ow (.tup vs)) hr'
      replace b5 := b5.new (o := .frz ow (.tup vs)) hr'
      replace t5 := TpAll.keep (Tk.new (o := .frz ow (.tup vs)) hr') _ _ t5
      generalize upd H9 r (.frz ow (.tup vs)) = H10 at *
      refine ⟨Nat.zero_le _, fun e he => ?_⟩
      have y3 : (upd H10 e (.tup [])) e = some (.tup []) := upd_same
      replace y1 := hup (o := .tup []) he y1
      replace y2 := hup (o := .tup []) he y2
      replace x3 := Tp.keep (Tk.new (o := .tup []) he) _ _ x3
      replace K5 := K5.new (o := .tup []) he
      replace b5 := b5.new (o := .tup []) he
      replace t5 := TpAll.keep (Tk.new (o := .tup []) he) _ _ t5
      generalize upd H10 e (.tup []) = H11 at *
      refine ⟨(by show 5 ≤ sizeLine; decide), fun p hp => ?_⟩
      obtain ⟨f1, f2, f3⟩ := held_face e0 e1 en4 ndw lw6 fl4 rg4
      refine q p ⟨[("menu", [(1 + d1, "x")])], recs⟩ _ (K5.new hp) ((b5.new hp).mono (by omega)) ?_ f1 f2 f3 ?_ ?_
      · exact ⟨c, r, e, oc, ow, _, _, _, _, upd_same, hup hp y1, plc, TpAll.keep (Tk.new hp) _ _ (.cons x3 .nil), hup hp y2, plr, TpAll.keep (Tk.new hp) _ _ t5, hup hp y3⟩
      · show (recs.map (·.1)).Nodup
        rw [en4]
        exact ndw
      · intro r' hr2
        have z : r'.1 ∈ ws := by rw [← en4]; exact List.mem_map.mpr ⟨r', hr2, rfl⟩
        exact (nmz _ (pm.mem_iff.mp z)).1
end
end Fh

set_option Elab.async false
set_option linter.all false
set_option maxRecDepth 100000
set_option maxHeartbeats 4000000
namespace Fh
open PySem L2 PyProof.Rows
/-! ### == of two values of one form -/
def NstS (R : Vl → Prop) : Vl → Prop
  | .lst xs => ∀ x ∈ xs, R x
  | .rcd fs => (fs.map Prod.fst).Nodup ∧ ∀ f ∈ fs, R f.2
  | _ => True
/-- of nesting below n -/
def Nst : Nat → Vl → Prop
  | 0 => fun _ => False
  | n + 1 => NstS (Nst n)
theorem nst_lv {F : Fc} (fo : FcOk F) : ∀ {n : Nat} {k : Kn}, Wfr F n k → Nst n (lv F n k)
  | 0, _, h => h.elim
  | n + 1, k, h => by
    cases k with
    | lst b => exact fun x hx => by cases hx
    | one b =>
      cases b with
      | whole => exact True.intro
      | truth => exact True.intro
      | text => exact True.intro
      | ch c => exact True.intro
      | rc z =>
        obtain ⟨fl, e, q⟩ := h
        have fz : flds F z = fl := by unfold flds; rw [e]; rfl
        have nf : (fl.map (·.nam)).Nodup := fo.nf _ (look_mem e)
        show NstS (Nst n) (.rcd (lvR (lv F n) (flds F z)))
        rw [fz]
        refine ⟨?_, fun f hf => ?_⟩
        · rw [lv_keys]
          exact nf.sublist (List.Sublist.map _ List.filter_sublist)
        · obtain ⟨g, hg, rfl⟩ := List.mem_map.mp hf
          obtain ⟨g1, g2⟩ := List.mem_filter.mp hg
          exact nst_lv fo (q g g1 g2)
theorem kv_at : ∀ {kvs : List (Key × V)} {va : List (Key × Value)}, KV kvs va → ∀ {k : Key} {v : Value}, (k, v) ∈ va → ∃ (j : Nat) (x : V), kvs[j]? = some (k, x) ∧ L2.RelV x v := by
  intro kvs va h
  unfold KV at h
  induction h with
  | nil => intro k v m; cases m
  | @cons p q ps qs h t ih =>
    intro k v m
    rcases List.mem_cons.mp m with e | m
    · subst e
      obtain ⟨h1, h2⟩ := h
      have h1 : p.1 = k := h1
      exact ⟨0, p.2, by rw [List.getElem?_cons_zero, ← h1], h2⟩
    · obtain ⟨j, x, e, r⟩ := ih m
      exact ⟨j + 1, x, by rw [List.getElem?_cons_succ]; exact e, r⟩
section
variable {X : Cx} {pins : List (Addr × Obj)} {σ : L2.St} {H : Hp} {s : Shared}
theorem vals_at : ∀ {xs : List V} {us : List Value}, Vals xs us → ∀ (j : Nat) (h : j < us.length), ∃ x, xs[j]? = some x ∧ L2.RelV x us[j] := by
  intro xs us r
  induction r with
  | nil => intro j h; exact absurd h (Nat.not_lt_zero j)
  | cons a b ih =>
    intro j h
    cases j with
    | zero => exact ⟨_, rfl, a⟩
    | succ j => exact ih j (Nat.lt_of_succ_lt_succ h)
/-- what two dicts of one value hold at a key -/
theorem vd_pair {ka kb : List (Key × V)} {fs : List (Str × Vl)} {va vb : List (Key × Value)} (nd : (fs.map Prod.fst).Nodup) (ea : ka.map Prod.fst = fs.map (fun f => Sum.inr f.1)) (qa : VDs H (ka.map Prod.snd) (fs.map Prod.snd))
    (eb : kb.map Prod.fst = fs.map (fun f => Sum.inr f.1)) (qb : VDs H (kb.map Prod.snd) (fs.map Prod.snd)) (ra : KV ka va) (rb : KV kb vb) {k : Key} {v : Value} (hm : (k, v) ∈ va) :
    ∃ f ∈ fs, ∃ x y u, VD H x f.2 ∧ VD H y f.2 ∧ L2.RelV x v ∧ L2.RelV y u ∧ valueAt vb k = some u := by
  obtain ⟨j, x, hj, rx⟩ := kv_at ra hm
  have h1 : (ka.map Prod.fst)[j]? = some k := by rw [List.getElem?_map, hj]; rfl
  rw [ea, List.getElem?_map] at h1
  cases hf : fs[j]? with
  | none => rw [hf] at h1; cases h1
  | some f =>
    rw [hf] at h1
    have ek : Sum.inr f.1 = k := Option.some.inj h1
    have h2 : (ka.map Prod.snd)[j]? = some x := by rw [List.getElem?_map, hj]; rfl
    obtain ⟨w, hw, vx⟩ := qa.get h2
    rw [List.getElem?_map, hf] at hw
    have ew : f.2 = w := Option.some.inj hw
    have fm := List.mem_of_getElem? hf
    have lk := look_self nd f fm
    obtain ⟨y, hy, vy⟩ := (vd_at eb qb f.1).2 f.2 lk
    have rr : RelO (some y) (valueAt vb k) := by rw [← hy, ek]; exact rb.val k
    obtain ⟨u, hu, ry⟩ := rr.some_of
    exact ⟨f, fm, x, y, u, by rw [ew]; exact vx, vy, rx, ry, hu⟩
theorem vd_tree (I : Inv X pins σ H s) : ∀ (n : Nat) (c : Vl) (x y : V) (v u : Value), Nst n c → VD H x c → VD H y c → L2.RelV x v → L2.RelV y u → PySem.W.EqTree X.prog X.w s n v u true
  | 0, _, _, _, _, _, h, _, _, _, _ => h.elim
  | n + 1, c, x, y, v, u, hn, hx, hy, rx, ry => by
    cases hx with
    | num i =>
      cases hy
      exact .leaf fun A _ => eqAt_same rx ry rfl
    | tru b =>
      cases hy
      exact .leaf fun A _ => eqAt_same rx ry rfl
    | txt z =>
      cases hy
      exact .leaf fun A _ => eqAt_same rx ry rfl
    | @lst a xs vs ha qa =>
      cases hy with
      | @lst b ys _ hb qb =>
        cases (show v = Value.ref a from rx)
        cases (show u = Value.ref b from ry)
        by_cases e : a = b
        · subst e
          exact .same
        · obtain ⟨us, r1, p1, _⟩ := I.tuple (SqT.of ha)
          obtain ⟨ws, r2, p2, _⟩ := I.tuple (SqT.of hb)
          have l1 : us.length = vs.length := by rw [← r1.length, qa.length]
          have l2 : ws.length = vs.length := by rw [← r2.length, qb.length]
          have t := PySem.W.EqTree.tuples (prog := X.prog) (w := X.w) (s := s) (n := n) (e := fun _ => true) e (show s.heap.IsTuple a us.toArray from p1) (show s.heap.IsTuple b ws.toArray from p2) (fun j h1 h2 => by
            rw [List.size_toArray] at h1 h2
            obtain ⟨x, hx, rx⟩ := vals_at r1 j h1
            obtain ⟨y, hy, ry⟩ := vals_at r2 j h2
            obtain ⟨c1, e1, v1⟩ := qa.get hx
            obtain ⟨c2, e2, v2⟩ := qb.get hy
            rw [e1] at e2
            cases e2
            have k := vd_tree I n c1 x y _ _ (hn c1 (List.mem_of_getElem? e1)) v1 v2 rx ry
            simpa using k)
          have e1 : ((List.range (min us.toArray.size ws.toArray.size)).all (fun _ => true) && us.toArray.size == ws.toArray.size) = true := by
            rw [List.size_toArray, List.size_toArray, l1, l2]
            simp
          rw [e1] at t
          exact t
    | @rcd a ka fs ha ea qa =>
      cases hy with
      | @rcd b kb _ hb eb qb =>
        cases (show v = Value.ref a from rx)
        cases (show u = Value.ref b from ry)
        by_cases e : a = b
        · subst e
          exact .same
        · obtain ⟨_, ya, va, ra, da⟩ := dk_of I.hok ha
          obtain ⟨_, yb, vb, rb, db⟩ := dk_of I.hok hb
          have t := PySem.W.EqTree.dicts (prog := X.prog) (w := X.w) (s := s) (n := n) (e := fun _ => true) e ya yb da db (fun k v y hm hv => by
            obtain ⟨f, fm, x, y2, u, v1, v2, r1, r2, hu⟩ := vd_pair hn.1 ea qa eb qb ra rb hm
            rw [hu] at hv
            cases hv
            exact vd_tree I n f.2 x y2 _ _ (hn.2 f fm) v1 v2 r1 r2)
          have e1 : (va.length == vb.length && va.all fun p => (valueAt vb p.1).isSome && true) = true := by
            have l1 : va.length = fs.length := by rw [← ra.length]; have := congrArg List.length ea; simpa using this
            have l2 : vb.length = fs.length := by rw [← rb.length]; have := congrArg List.length eb; simpa using this
            rw [Bool.and_eq_true, List.all_eq_true]
            refine ⟨by rw [l1, l2]; simp, fun p hp => ?_⟩
            obtain ⟨k, v⟩ := p
            obtain ⟨f, fm, x, y2, u, v1, v2, r1, r2, hu⟩ := vd_pair hn.1 ea qa eb qb ra rb hp
            show ((valueAt vb k).isSome && true) = true
            rw [hu]
            rfl
          rw [e1] at t
          exact t
end
/-- a == b of two records that are the same value -/
def rEqVl : R2 := fun x y H Q => ∃ (n : Nat) (fs : List (Str × Vl)), n ≤ 60 ∧ Nst n (.rcd fs) ∧ VD H x (.rcd fs) ∧ VD H y (.rcd fs) ∧ Q (.bl true) H
theorem op_eqVl {X : Cx} (hu : X.A.units + 64 < cLine) : OpR X (compareOp .Eq) rEqVl := by
  intro pins s σ H x y v u Q I rx ry h
  obtain ⟨n, fs, hn, ns, hx, hy, q⟩ := h
  cases n with
  | zero => exact ns.elim
  | succ n =>
    cases hx with
    | @rcd a ka _ ha ea qa =>
      cases hy with
      | @rcd b kb _ hb eb qb =>
        cases (show v = Value.ref a from rx)
        cases (show u = Value.ref b from ry)
        obtain ⟨_, ya, va, ra, da⟩ := dk_of I.hok ha
        obtain ⟨_, yb, vb, rb, db⟩ := dk_of I.hok hb
        refine PySem.W.eq_dictsT (n := n) (e := fun _ => true) ya yb da db (fun k v y hm hv => ?_) (by omega) ?_
        · obtain ⟨f, fm, x, y2, u, v1, v2, r1, r2, hu⟩ := vd_pair ns.1 ea qa eb qb ra rb hm
          rw [hu] at hv
          cases hv
          exact vd_tree I n f.2 x y2 _ _ (ns.2 f fm) v1 v2 r1 r2
        · have e1 : (va.length == vb.length && va.all fun p => (valueAt vb p.1).isSome && true) = true := by
            have l1 : va.length = fs.length := by rw [← ra.length]; have := congrArg List.length ea; simpa using this
            have l2 : vb.length = fs.length := by rw [← rb.length]; have := congrArg List.length eb; simpa using this
            rw [Bool.and_eq_true, List.all_eq_true]
            refine ⟨by rw [l1, l2]; simp, fun p hp => ?_⟩
            obtain ⟨k, v⟩ := p
            obtain ⟨f, fm, x, y2, u, v1, v2, r1, r2, hu⟩ := vd_pair ns.1 ea qa eb qb ra rb hp
            show ((valueAt vb k).isSome && true) = true
            rw [hu]
            rfl
          rw [e1]
          exact ⟨.bl true, H, I, rfl, q⟩
end Fh

set_option Elab.async false
set_option linter.all false
set_option maxRecDepth 100000
set_option maxHeartbeats 4000000
namespace Fh
open PySem L2 PyProof.Rows
abbrev sRgt : Stmt := top 85
abbrev nRgt : List Str := ["_law_shape", "_law_told", "_law_one", "_law_size", "_law_value", "_law_body"]
/-- a list of tuples of texts as data -/
def txsD (xs : List (List Str)) : PyData := .list (xs.map fun x => .tuple (x.map .str))
theorem tx_dp {K : PySem.W.Frag} {H : Hp} : ∀ {T : List TxR}, (∀ q ∈ T, H q.1 = some (.tup (q.2.map V.str))) → DpAll K H (T.map fun q => V.ref q.1) ((T.map (·.2)).map fun x => .tuple (x.map .str))
  | [], _ => .nil
  | q :: T, h => .cons (.tup (SqT.of (h q List.mem_cons_self)) (Dp.strs q.2)) (tx_dp fun r hr => h r (List.mem_cons_of_mem _ hr))
theorem TxL.dp {K : PySem.W.Frag} {H : Hp} {p : Addr} {T : List TxR} (h : TxL H p T) : Dp K H (.ref p) (txsD (T.map (·.2))) := .lst (SqL.of h.l) (tx_dp h.t)
theorem txs_shaped {xs : List (List Str)} (h : ∀ x ∈ xs, ∀ z ∈ x, Sh 0 (.str z)) : SeqAt.shaped (txsD xs) = true := by
  refine Sh.shaped (n := 2) (Sh.lst fun d hd => ?_) (by decide)
  obtain ⟨x, hx, rfl⟩ := List.mem_map.mp hd
  refine Sh.tup fun e he => ?_
  obtain ⟨z, hz, rfl⟩ := List.mem_map.mp he
  exact h x hx z hz
theorem end_eqv (y z : Str) : PyData.eqv (.tuple [.str "endless", .str y]) (.tuple [.str "endless", .str z]) = decide (y = z) := by
  have e1 : (("endless" : Str) == "endless") = true := beq_self_eq_true _
  show ((("endless" : Str) == "endless") && ((y == z) && true)) = _
  rw [e1, Bool.true_and, Bool.and_true]
  by_cases c : y = z
  · subst c
    rw [beq_self_eq_true, decide_eq_true rfl]
  · rw [beq_eq_false_iff_ne.mpr c, decide_eq_false c]
theorem end_mem {D : Szs} {recs : List Rec} {x : List Str} (h : x ∈ endL D recs) : ∃ r ∈ recs, bad (D r.1) = true ∧ x = [("endless" : Str), r.1] := by
  obtain ⟨r, hr, e⟩ := List.mem_map.mp h
  obtain ⟨h1, h2⟩ := List.mem_filter.mp hr
  exact ⟨r, h1, h2, e.symm⟩
/-- told as endless, just where the size is none or great -/
theorem told_any {D : Szs} {recs : List Rec} {xs : List (List Str)} (t : Told2 D recs xs) {z : Str} (hz : ∃ r ∈ recs, r.1 = z) : ((xs.map fun x => PyData.tuple (x.map .str)).any fun y => PyData.eqv y (.tuple ([("endless" : Str), z].map .str))) = bad (D z) := by
  rw [Bool.eq_iff_iff, List.any_eq_true]
  constructor
  · rintro ⟨d, hd, e⟩
    obtain ⟨x, hx, rfl⟩ := List.mem_map.mp hd
    obtain ⟨r, hr, hb, rfl⟩ := end_mem (t.of x hx)
    have e2 : decide (r.1 = z) = true := by rw [← end_eqv]; exact e
    rw [← of_decide_eq_true e2]
    exact hb
  · intro hb
    obtain ⟨r, hr, e⟩ := hz
    have m : [("endless" : Str), z] ∈ endL D recs := List.mem_map.mpr ⟨r, List.mem_filter.mpr ⟨hr, by rw [e]; exact hb⟩, by rw [e]⟩
    refine ⟨_, List.mem_map.mpr ⟨_, t.all _ m, rfl⟩, ?_⟩
    have := end_eqv z z
    rw [decide_eq_true rfl] at this
    exact this
def spRgt (C : Addr) : Sp := fun vs H Q _ => ∃ (a tl : Addr) (z : Str) (F : Fc) (T : List TxR), vs = [.ref a, .ref tl, .str z, optV (szF F z)] ∧ FaceF C H a F ∧ FcL F ∧ (∃ r ∈ F.rs, r.1 = z) ∧ (∀ r ∈ F.rs, Nm r.1) ∧ TxL H tl T ∧ Told2 (szF F) F.rs (T.map (·.2)) ∧ ∀ H', Same H H' → Q (.bl true) H'
section
variable {P : Program} {w : World} {K : PySem.W.Frag} {mg : Str → Option Value} {base : Heap}
theorem scRgt : FnScope nRgt ["_law_shape", "_law_told", "_law_one", "_law_size"] (defScope sRgt) := ⟨rfl, rfl, rfl, by decide +kernel, rfl, by decide +kernel, by decide +kernel⟩
theorem ok_rgt {C f : Addr} {fd : FuncData} {l l1 l2 l3 l4 : Nat} (h1 : l1 ≤ l) (h2 : l2 ≤ l) (h3 : l3 ≤ l) (h4 : l4 ≤ l) (F : Fun K "_law_right" "_law_right" sRgt f fd) (G : Glb mg) (DL : Has P w K mg base "least" l1 ["face", "record"] (spLea C)) (DW : Has P w K mg base "written" l2 ["face", "record", "value"] (spWri C 37)) (DI : Has P w K mg base "is_value" l3 ["face", "record", "thing"] (spIva C 37))
    (DR : Has P w K mg base "read" l4 ["face", "record", "body"] (spRea C 37)) : FnOk P w K mg base CX0 (l + 1) f fd ["_law_shape", "_law_told", "_law_one", "_law_size"] (spRgt C) := by
  refine F.ok scRgt (fun vs H Q E h => ?_) (fun cdv A outer s H vs Q E hr h => ?_)
  · obtain ⟨a, tl, z, F, T, rfl, _⟩ := h
    rfl
  · obtain ⟨a, tl, z, F, T, rfl, hF, hL, ⟨r, hrm, rfl⟩, nm, hT, told, q⟩ := h
    have hu65 : (A.deeper (envOfC "_law_right" (defScope sRgt) s.heap.objs.size f cdv)).units + 65 < cLine := by have := hr.un; omega
    refine ⟨_, (pss_cons (ps_set (i := 4) scRgt.nd rfl (Or.inl rfl) (pe_has DL (hr.mono (by omega)) rfl (pa_cons (pv 0) (pa_cons (pv 2) pa_nil))))
      (pss_cons (ps_if (PW.pt (pw_or (pt_cmpR op_ne (pe_cmpR op_isN (pv 4) pe_non (nomark _)) (pe_or (pe_cmpR op_isN (pv 3) pe_non (nomark _)) (pe_one (pe_cmpR op_gt (pv 3) pe_int (nomark _)))) (nomark _)) (pw_or1 (pt_cmpR op_ne (pe_cmpR (op_inD hu65) (pe_tup (pa_cons pe_str (pa_cons (pv 2) pa_nil))) (pv 1) rfl) (pe_or (pe_cmpR op_isN (pv 3) pe_non (nomark _)) (pe_one (pe_cmpR op_gt (pv 3) pe_int (nomark _)))) (nomark _)))))
      (pss_one (ps_ret pe_bl))
      pss_nil)
      (pss_cons (ps_if (PW.pt (pw_or (pt_cmpR op_isN (pv 3) pe_non (nomark _)) (pw_or1 (pt_cmpR op_gt (pv 3) pe_int (nomark _)))))
      (pss_one (ps_ret pe_bl))
      pss_nil)
      (pss_cons (ps_set (i := 5) scRgt.nd rfl (Or.inl rfl) (pe_has DW (hr.mono (by omega)) rfl (pa_cons (pv 0) (pa_cons (pv 2) (pa_cons (pv 4) pa_nil)))))
      (pss_cons (ps_if (PW.pt (pw_or (pt_cmpR op_isnot_bl (pe_has DI (hr.mono (by omega)) rfl (pa_cons (pv 0) (pa_cons (pv 2) (pa_cons (pv 4) pa_nil)))) pe_bl (nomark _)) (pw_or (pt_not (pt_val (pe_callB call_isi (by rfl) G.isi (by decide +kernel) (pa_cons (pv 5) (pa_cons (pe_bltn (v := .ty "tuple") rfl G.tuple (by decide +kernel) rfl) pa_nil))))) (pw_or1 (pt_cmpR op_ne (pe_callB call_len_seq (by rfl) G.len (by decide +kernel) (pa_cons (pv 5) pa_nil)) (pv 3) (nomark _))))))
      (pss_one (ps_ret pe_bl))
      pss_nil)
      (pss_one (ps_ret (pe_cmpR (op_eqVl hr.units) (pe_has DR (hr.mono (by omega)) rfl (pa_cons (pv 0) (pa_cons (pv 2) (pa_cons (pv 5) pa_nil)))) (pv 4) (nomark _))))))))), ?_⟩
    have hfl : F.rs.lookup r.1 = some r.2 := hL.lk r hrm
    refine ⟨_, rfl, _, rfl, a, r.1, F, rfl, hF, hL, ⟨_, hfl⟩, fun x H1 S1 hx => ?_⟩
    have hT1 := hT.same S1
    have shT : SeqAt.shaped (txsD (T.map (·.2))) = true := txs_shaped fun x hx z hz => by
      obtain ⟨r2, hr2, _, rfl⟩ := end_mem (told.of x hx)
      rcases List.mem_cons.mp hz with rfl | hz
      · exact ⟨by decide +kernel, Nat.le_refl _⟩
      · rw [List.mem_singleton.mp hz]
        exact nm_sh (nm r2 hr2)
    have shd : SeqAt.shaped (.tuple [.str "endless", .str r.1]) = true := Sh.shaped (n := 1) (Sh.tup fun e he => by
      rcases List.mem_cons.mp he with rfl | he
      · exact ⟨by decide +kernel, Nat.le_refl _⟩
      · rw [List.mem_singleton.mp he]
        exact nm_sh (nm r hrm)) (by decide)
    have any := told_any told ⟨r, hrm, rfl⟩
    cases hs : szF F r.1 with
    | none =>
      rw [hs] at any
      have ex : x = .non := by
        rcases hx with ⟨e, _⟩ | ⟨v, e, _⟩
        · exact e
        · rw [hs] at e
          cases e
      subst ex
      refine ⟨_, rfl, rfl, _, rfl, rfl, _, rfl, iteT ?_⟩
      refine ⟨rfl, _, rfl, ?_⟩
      refine ite2 (fun h => absurd h (by decide)) (fun _ => ?_)
      refine ⟨_, rfl, (by show 2 ≤ sizeLine; decide), fun t ht => ?_⟩
      have S2 : Same H1 (upd H1 t (.tup [.str "endless", .str r.1])) := Same.new ht
      refine ⟨_, rfl, _, _, .tup (SqT.of upd_same) (Dp.strs [("endless" : Str), r.1]), (hT1.same S2).dp, shd, shT, _, rfl, rfl, _, rfl, iteT ?_⟩
      rw [any]
      refine ⟨rfl, _, rfl, ?_⟩
      refine ite2 (fun h => absurd h (by decide)) (fun _ => ?_)
      refine ⟨_, rfl, rfl, _, rfl, ?_⟩
      refine ite2 (fun _ => ?_) (fun h => absurd rfl h)
      exact q _ (fun b o e => S2 b o (S1 b o e))
    | some v =>
      rw [hs] at any
      have dv := dv_37 hF.2 hL.c1 hL.lk hL.ok.len r.1 v hs
      have ex : decide (x = .non) = decide (10000 < v) := by
        rcases hx with ⟨e, h | ⟨v', e', hv⟩⟩ | ⟨v', e', hv, ⟨p, e⟩, _⟩
        · rw [hs] at h
          cases h
        · rw [hs] at e'
          cases e'
          rw [e, decide_eq_true rfl, decide_eq_true hv]
        · rw [hs] at e'
          cases e'
          rw [e, decide_eq_false (by omega : ¬ 10000 < v)]
          rfl
      have z1 : (!decide (V.bl (decide (x = .non)) = V.bl (decide (10000 < v)))) = false := by
        rw [ex, decide_eq_true rfl]
        rfl
      refine ⟨_, rfl, rfl, _, rfl, rfl, _, rfl, iteF ?_⟩
      refine ⟨_, rfl, v, 10000, rfl, rfl, rfl, _, rfl, ?_⟩
      refine ite2 (fun h => absurd (z1.symm.trans h) Bool.false_ne_true) (fun _ => ?_)
      refine ⟨_, rfl, (by show 2 ≤ sizeLine; decide), fun t ht => ?_⟩
      have S2 : Same H1 (upd H1 t (.tup [.str "endless", .str r.1])) := Same.new ht
      refine ⟨_, rfl, _, _, .tup (SqT.of upd_same) (Dp.strs [("endless" : Str), r.1]), (hT1.same S2).dp, shd, shT, _, rfl, rfl, _, rfl, iteF ?_⟩
      refine ⟨_, rfl, v, 60, rfl, rfl, ?_⟩
      rw [any]
      refine ⟨rfl, _, rfl, ?_⟩
      have e60 : (!decide (V.bl (bad (some v)) = V.bl (decide (60 < v)))) = false := by
        show (!decide (V.bl (decide (60 < v)) = V.bl (decide (60 < v)))) = false
        rw [decide_eq_true rfl]
        rfl
      refine ite2 (fun h => absurd (e60.symm.trans h) Bool.false_ne_true) (fun _ => ?_)
      have S12 : Same H (upd H1 t (.tup [.str "endless", .str r.1])) := fun b o e => S2 b o (S1 b o e)
      refine ⟨_, rfl, rfl, _, rfl, iteF ?_⟩
      refine ⟨_, rfl, v, 600, rfl, rfl, _, rfl, ?_⟩
      refine ite2 (fun h => q _ S12) (fun h => ?_)
      have le6 : v ≤ 600 := by
        have : ¬ 600 < v := fun e => h (decide_eq_true e)
        omega
      obtain ⟨p, xv⟩ : ∃ p, x = .ref p ∧ VD H1 x (lv F 37 (.one (.rc r.1))) := by
        rcases hx with ⟨e, h | ⟨v', e', hv⟩⟩ | ⟨v', e', hv, ⟨p, e⟩, vd⟩
        · rw [hs] at h
          cases h
        · rw [hs] at e'
          cases e'
          omega
        · exact ⟨p, e, vd⟩
      obtain ⟨rfl, vd⟩ := xv
      have vd2 := vd.same S2
      have ok := ok_lv hF.2 dv.1
      have el : ((enc F 37 (.one (.rc r.1)) (lv F 37 (.one (.rc r.1)))).length : Int) = v := dv.2
      have le1 : (enc F 37 (.one (.rc r.1)) (lv F 37 (.one (.rc r.1)))).length ≤ 10000 := by omega
      generalize upd H1 t (.tup [.str "endless", .str r.1]) = H2 at *
      refine ⟨_, rfl, _, rfl, _, rfl, a, r.1, _, _, F, rfl, hF.same S12, vd2, ok, le1, fun pb H3 S3 hpb => ?_⟩
      have S13 : Same H H3 := fun b o e => S3 b o (S12 b o e)
      refine ⟨_, rfl, _, rfl, _, rfl, a, r.1, _, _, F, rfl, hF.same S13, vd2.same S3, ok, by decide, le1, fun H4 S4 => ?_⟩
      have S14 : Same H H4 := fun b o e => S4 b o (S13 b o e)
      have vd4 := (vd2.same S3).same S4
      have hpb4 := S4 _ _ hpb
      refine ⟨_, _, rfl, rfl, _, rfl, iteF ?_⟩
      refine ⟨_, rfl, _, _, .type "tuple", .type "tuple", true, rfl, .ty _, .base (.tup hpb4), rfl, true, rfl, iteF ?_⟩
      refine ⟨_, rfl, pb, _, rfl, .inr (SqT.of hpb4), _, rfl, rfl, _, rfl, ?_⟩
      have zl : (!decide (V.int ((List.map V.int (enc F 37 (.one (.rc r.1)) (lv F 37 (.one (.rc r.1))))).length : Nat) = V.int v)) = false := by
        rw [List.length_map, el, decide_eq_true rfl]
        rfl
      refine ite2 (fun h => absurd (zl.symm.trans h) Bool.false_ne_true) (fun _ => ?_)
      refine ⟨_, rfl, _, rfl, _, rfl, a, pb, r.1, _, F, rfl, hF.same S14, hpb4, ok, le1, enc_by hF.2 ok le1, by decide, fun y H5 S5 vy => ?_⟩
      have vy5 := vy.same nw_same
      rw [nrm_lv hF.2 dv.1] at vy5
      have ns := nst_lv hF.2 dv.1
      have S15 : Same H H5 := fun b o e => S5 b o (S14 b o e)
      exact ⟨_, rfl, 37, _, by decide, ns, vy5, vd4.same S5, q H5 S15⟩
end
end Fh

set_option Elab.async false
set_option linter.all false
set_option maxRecDepth 100000
set_option maxHeartbeats 4000000
namespace Fh
open PySem L2 PyProof.Rows
abbrev sLaw : Stmt := top 86
abbrev nLaw : List Str := ["_law_script", "_law_k", "_law_bag_here", "_law_parts", "_law_shape", "_law_sizes", "_law_told", "_law_one"]
theorem at0 {α : Type} (y : α) (r : List α) : atI (y :: r) 0 = some y := by
  obtain ⟨v, e, e2, _⟩ := atI_in (xs := y :: r) (i := 0) (Int.le_refl _) (by rw [List.length_cons]; omega)
  rw [e]
  exact e2.symm
def spLaw (K : PySem.W.Frag) : Sp := fun vs H Q _ => ∃ (a : Addr) (ns : List Int), vs = [.ref a] ∧ SqL K H a (ns.map V.int) ∧ ∀ H', Q (.bl true) H'
section
variable {P : Program} {w : World} {K : PySem.W.Frag} {mg : Str → Option Value} {base : Heap}
theorem scLaw : FnScope nLaw ["_law_script"] (defScope sLaw) := ⟨rfl, rfl, rfl, by decide +kernel, rfl, by decide +kernel, by decide +kernel⟩
theorem ok_law {f C : Addr} {fd : FuncData} {l : Nat} (hl : 7 ≤ l) (F : Fun K "law" "law" sLaw f fd) (G : Glb mg) (DB : Has P w K mg base "_law_bag" 1 ["_law_script", "_law_at"] (spBag K)) (DH : Has P w K mg base "_law_held" 4 ["_law_bag_here"] spHeld2) (DA : Has P w K mg base "_law_all_sizes" 2 ["_law_parts"] spAll)
    (DF : Has P w K mg base "_law_made_face" 3 ["_law_parts"] (spFace C)) (DW : Has P w K mg base "wrong" 7 ["face"] (spWrong2 C)) (DR : Has P w K mg base "_law_right" l ["_law_shape", "_law_told", "_law_one", "_law_size"] (spRgt C)) : FnOk P w K mg base CX0 (l + 1) f fd ["_law_script"] (spLaw K) := by
  refine F.ok scLaw (fun vs H Q E h => ?_) (fun cdv A outer s H vs Q E hr h => ?_)
  · obtain ⟨a, ns, rfl, _⟩ := h
    rfl
  · obtain ⟨a, ns, rfl, hS, k⟩ := h
    have hu := hu_of hr
    refine ⟨_, (pss_cons (ps_for PassesOwn.never rfl (pi_range1 rfl G.range (pa_cons (pe_mid (pe_callB (call_max2 rfl) (by rfl) G.max (by decide +kernel) (pa_cons pe_int (pa_cons (pe_callB (call_min2 rfl) (by rfl) G.min (by decide +kernel) (pa_cons pe_int (pa_cons (pe_callB call_len_seq (by rfl) G.len (by decide +kernel) (pa_cons (pv 0) pa_nil)) pa_nil))) pa_nil)))) pa_nil)) (pg_name (i := 1) scLaw.nd rfl (Or.inl rfl))
      (pss_cons (ps_set (i := 2) scLaw.nd rfl (Or.inl rfl) (pe_has DB (hr.mono (by omega)) rfl (pa_cons (pv 0) (pa_cons (pv 1) pa_nil))))
      (pss_cons (ps_set (i := 3) scLaw.nd rfl (Or.inl rfl) (pe_has DH (hr.mono (by omega)) rfl (pa_cons (pv 2) pa_nil)))
      (pss_cons (ps_par (i := 4) (j := 5) rfl scLaw.nd rfl rfl (by decide) rfl rfl (pa_cons (pe_has DF (hr.mono (by omega)) rfl (pa_cons (pv 3) pa_nil)) (pa_cons (pe_has DA (hr.mono (by omega)) rfl (pa_cons (pv 3) pa_nil)) pa_nil)) (by rfl))
      (pss_cons (ps_set (i := 6) scLaw.nd rfl (Or.inl rfl) (pe_has DW (hr.mono (by omega)) rfl (pa_cons (pv 4) pa_nil)))
      (pss_cons (ps_lock (ps_for PassesOwn.never rfl (pi_keys (pv 5)) (pg_name (i := 7) scLaw.nd rfl (Or.inl rfl))
      (pss_one (ps_if (pt_not (pt_val (pe_has DR hr rfl (pa_cons (pv 4) (pa_cons (pv 6) (pa_cons (pv 7) (pa_cons (pe_dget hu (pv 5) (pv 7) (fun _ _ => rfl)) pa_nil)))))))
      (pss_one (ps_ret pe_bl))
      pss_nil))))
      (pss_one (ps_if (pt_cmpR (op_neD hr.units) (pe_lc (own := [("_law_one", 7)]) (g := (gName 7)) (tt := tTest (tOp rNe (tOp (rIxT K) (tVar 7) (tC (.int 0))) (tC (.str "endless")))) (te := tVar 7) rfl scLaw.nd (pi_list (pv 6)) (blkOk_by (N := nLaw) (sc := defScope sLaw) (by decide +kernel)) (fun _ _ _ _ _ => (pg_name (i := 7) scLaw.nd rfl (Or.inl rfl))) (fun _ _ _ _ _ => pts_one (pt_cmpR op_ne (pe_ix ix_tup (pv 7) pe_int (fun _ _ => rfl)) pe_str (nomark _))) (fun _ _ _ _ _ => (pv 7))) (pe_lst pa_nil) (nomark _))
      (pss_one (ps_ret pe_bl))
      pss_nil))))))))
      (pss_one (ps_ret pe_bl))), ?_⟩
    refine ⟨fun v H1 => ∃ m : Int, v = .int m ∧ 0 ≤ m ∧ m ≤ 8 ∧ H = H1, ?_, ?_⟩
    · refine ⟨_, rfl, a, _, rfl, .inl hS, _, _, rfl, _, _, rfl, ?_⟩
      refine ⟨_, rfl, ?_, ?_, rfl⟩
      · split <;> split <;> omega
      · split <;> split <;> omega
    rintro v H1 ⟨m, rfl, m0, m8, rfl⟩
    refine ⟨m, rfl, by omega, by omega, ?_⟩
    refine for_range (lo := 0) (n := m.toNat) (fun i σ H1 => (∃ a1 a2 a3 a4 a5 a6 a7, σ = [some (.ref a), a1, a2, a3, a4, a5, a6, a7]) ∧ Same H H1) ?_ ?_ ?_
    · exact ⟨⟨_, _, _, _, _, _, _, rfl⟩, Same.refl H⟩
    · rintro i σ H1 hi ⟨⟨a1, a2, a3, a4, a5, a6, a7, rfl⟩, sm1⟩
      refine ⟨_, rfl, _, rfl, a, ns, _, rfl, SqL.ext hS sm1, by omega, by omega, fun b H2 sm2 hb B2 => ?_⟩
      have hb0 : H b = none := sm1.free hb
      have toS : ∀ {H' : Hp}, Kp b H2 H' → Same H H' := fun {H'} kp c o e => kp c o (fun q => by rw [q, hb0] at e; cases e) (sm2 _ _ (sm1 _ _ e))
      refine ⟨_, rfl, b, 0, rfl, B2, by decide, fun p F H3 K3 B3 hP fo fL nn nd nm => ?_⟩
      have SH3 : Same H H3 := toS K3
      have ok := fL.ok
      have ok6 := ok.len
      have lc : F.c.length ≤ 100 := by unfold Fc.c; rw [List.length_map]; exact fo.lc
      obtain ⟨c, rr, e, oc, ow, xc, xr, v1, v2, h1, h2, h3, h4, h5, h6, h7, h8⟩ := id hP
      refine ⟨_, rfl, p, v1, v2, _, _, _, rfl, h1, fun x dx H4 S4 hx hx4 => ?_⟩
      have fw : ∀ {H' : Hp}, Same H4 H' → FaceW C H' x F.c F.r := fun {H'} S => ⟨dx, e, v1, v2, _, _, S _ _ hx4, ⟨c, xc, _, rfl, rfl, .inr ⟨oc, S _ _ (S4 _ _ h2)⟩, TpAll.keep (Same.tk S) _ _ (TpAll.keep (Same.tk S4) _ _ h4)⟩, ⟨rr, xr, _, rfl, rfl, .inr ⟨ow, S _ _ (S4 _ _ h5)⟩, TpAll.keep (Same.tk S) _ _ (TpAll.keep (Same.tk S4) _ _ h7)⟩, S _ _ (S4 _ _ h8)⟩
      have SH4 : Same H H4 := fun c o e => S4 c o (SH3 c o e)
      refine ⟨_, rfl, p, F.c, F.rs, rfl, hP.same S4, lc, ok, nd, fun d kvs H5 S5 hd0 hd5 ek ao => ?_⟩
      have lk : kvs.length = F.rs.length := by
        have z := congrArg List.length ek
        unfold nmK at z
        rwa [List.length_map, List.length_map] at z
      refine ⟨_, _, rfl, _, rfl, x, F.c, F.rs, rfl, fw S5, lc, fL.c1, ok, nn, fun tl Tt H6 S6 htl Xt lt told => ?_⟩
      have hd6 := S6 _ _ hd5
      refine ⟨d, _, hd6, trivial, fun od => ?_⟩
      have SL : Same H4 (upd H6 d (.frz od (.dK kvs))) := fun b o e => by
        rw [upd_ne (ne_of_none e hd0)]
        exact S6 _ _ (S5 _ _ e)
      have hdL : (upd H6 d (.frz od (.dK kvs))) d = some (.frz od (.dK kvs)) := upd_same
      have XL : TxL (upd H6 d (.frz od (.dK kvs))) tl Tt := ⟨by rw [upd_ne (fun e => by have z := Xt.l; rw [e, hd6] at z; cases z)]; exact Xt.l, fun q hq => by
        have z := Xt.t q hq
        rw [upd_ne (fun e => by rw [e, hd6] at z; cases z)]
        exact z⟩
      generalize hHL : upd H6 d (.frz od (.dK kvs)) = HL at *
      refine ⟨_, rfl, d, od, rfl, .inl ⟨kvs, hdL, ?_⟩⟩
      refine for_it kvs.length (fun j σ H7 => (∃ a7, σ = [some (.ref a), some (.int (0 + (i : Int))), some (.ref b), some (.ref p), some (.ref x), some (.ref d), some (.ref tl), a7]) ∧ Same HL H7) ?_ ?_ ?_ ?_ ?_
      · exact ⟨⟨_, rfl⟩, Same.refl _⟩
      · rintro j σ H7 hj ⟨_, S7⟩
        exact ⟨S7 _ _ hdL, hj⟩
      · rintro σ H7 ⟨_, S7⟩
        exact ⟨S7 _ _ hdL, Nat.le_refl _⟩
      · rintro j σ H7 y H7' hj ⟨⟨a7, rfl⟩, S7⟩ ⟨rfl, kk, vv, hkv, rfl⟩
        have hjr : j < F.rs.length := by omega
        obtain ⟨r, hr'⟩ : ∃ r, F.rs[j]? = some r := ⟨_, List.getElem?_eq_getElem hjr⟩
        have ekj : kk = Sum.inr r.1 := by
          have z := congrArg (fun l => l[j]?) ek
          unfold nmK at z
          simp only [List.getElem?_map, hkv, hr'] at z
          exact Option.some.inj z
        subst ekj
        have rm := List.mem_of_getElem? hr'
        have hd7 := S7 _ _ hdL
        obtain ⟨v, hv⟩ : ∃ v, valV kvs (Sum.inr r.1) = some v := by
          cases e : valV kvs (Sum.inr r.1) with
          | some v => exact ⟨v, rfl⟩
          | none =>
            have hin : (Sum.inr r.1 : Key) ∈ kvs.map Prod.fst := by rw [ek]; exact List.mem_map.mpr ⟨r, rm, rfl⟩
            obtain ⟨kv, m1, m2⟩ := List.mem_map.mp hin
            unfold valV at e
            rw [Option.map_eq_none_iff, List.find?_eq_none] at e
            exact absurd (decide_eq_true m2) (e kv m1)
        have ev : v = optV (szF F r.1) := by
          have z := ao r.1
          rw [hv] at z
          exact z
        have hg : DGet H7' d (.str r.1) (some v) := .inl ⟨kvs, Sum.inr r.1, .inr ⟨od, hd7⟩, rfl, hv.symm⟩
        subst ev
        have S47 : Same H4 H7' := fun b o e => S7 _ _ (SL _ _ e)
        refine ⟨_, rfl, _, rfl, _, rfl, _, rfl, _, rfl, d, _, rfl, hg, x, tl, r.1, F, Tt, rfl, ⟨(fw S47).r, fo⟩, fL, ⟨r, rm, rfl⟩, nm, XL.same S7, told, fun H8 S8 => ?_⟩
        refine ⟨true, rfl, iteF ?_⟩
        exact ⟨⟨_, rfl⟩, fun b o e => S8 _ _ (S7 _ _ e)⟩
      · rintro σ H7 ⟨⟨a7, rfl⟩, S7⟩
        refine ⟨S7 _ _ hdL, ?_⟩
        have S48 : Same H4 (upd H7 d (.dK kvs)) := fun b o e => by
          rw [upd_ne (ne_of_none e hd0)]
          exact S7 _ _ (SL _ _ e)
        have hd7 := S7 _ _ hdL
        have X8 : TxL (upd H7 d (.dK kvs)) tl Tt := ⟨by rw [upd_ne (fun e => by have z := (XL.same S7).l; rw [e, hd7] at z; cases z)]; exact (XL.same S7).l, fun q hq => by
          have z := (XL.same S7).t q hq
          rw [upd_ne (fun e => by rw [e, hd7] at z; cases z)]
          exact z⟩
        generalize upd H7 d (.dK kvs) = H8 at *
        have SH8 : Same H H8 := fun c o e => S48 c o (SH4 c o e)
        refine ⟨_, rfl, tl, rfl, ⟨_, SqL.of X8.l⟩, fun D2 hD2 => ?_⟩
        refine lc_list (xs := Tt.map fun q => V.ref q.1) (fun j H9 => Same H8 H9 ∧ H9 D2 = some (.lst [])) ?_ ?_ ?_ ?_
        · exact ⟨Same.new hD2, upd_same⟩
        · rintro j H9 _ ⟨S9, _⟩
          exact SqL.of (S9 _ _ X8.l)
        · rintro j y H9 hy ⟨S9, h9⟩
          rw [List.getElem?_map] at hy
          cases hq : Tt[j]? with
          | none => rw [hq] at hy; cases hy
          | some q =>
            rw [hq] at hy
            cases hy
            have m1 : q.2 ∈ Tt.map (·.2) := List.mem_map.mpr ⟨q, List.mem_of_getElem? hq, rfl⟩
            obtain ⟨r2, _, _, eq2⟩ := end_mem (told.of _ m1)
            have ht := S9 _ _ (X8.t q (List.mem_of_getElem? hq))
            rw [eq2] at ht
            refine ⟨rfl, ?_⟩
            refine ⟨_, rfl, q.1, _, _, .str "endless", rfl, rfl, SqT.of ht, at0 _ _, rfl, _, rfl, ?_⟩
            have zz : (!decide (V.str "endless" = V.str "endless")) = false := by rw [decide_eq_true rfl]; rfl
            refine ite2 (fun h => absurd (zz.symm.trans h) Bool.false_ne_true) (fun _ => ⟨S9, h9⟩)
        · rintro H9 ⟨S9, h9⟩
          have SH9 : Same H H9 := fun c o e => S9 c o (SH8 c o e)
          refine ⟨Nat.zero_le _, fun el hel => ?_⟩
          have she : Sh 1 (.list []) := Sh.lst fun d hd => nomatch hd
          refine ⟨_, _, .lst (SqL.of (Same.new hel _ _ h9)) .nil, .lst (SqL.of upd_same) .nil, she.shaped (by decide), she.shaped (by decide), _, rfl, ?_⟩
          refine iteF ⟨⟨_, _, _, _, _, _, _, rfl⟩, fun c o e => Same.new hel c o (SH9 c o e)⟩
    · rintro σ H1 _
      exact k H1
end
end Fh

set_option Elab.async false
set_option linter.all false
set_option maxRecDepth 100000
set_option maxHeartbeats 0
namespace Fh
open PySem PySem.Spec PyProof.Rows L2
theorem toFun {K : PySem.W.Frag} {x q : Str} {st : Stmt} {f : Addr} {fd : FuncData} (F : FunD K x q (defArgs st) (defBody st) (defScope st) [] [] f fd) : Fun K x q st f fd := by
  obtain ⟨oc, od, dV, kV, doc, pm, an, cdv, ct, osl, e, lk, hcd, hD, _⟩ := F.ex
  rcases hD with ⟨_, rfl⟩ | ⟨e, _⟩
  · exact ⟨⟨oc, od, kV, doc, pm, an, cdv, ct, osl, e, lk, hcd⟩, F.kp⟩
  · exact absurd rfl e
section
variable {P : Program} {w : World} {K : PySem.W.Frag} {mg : Str → Option Value} {base : Heap}
theorem none_nob {C f : Addr} {fd : FuncData} (F : Fun K "names_nobody" "names_nobody" sNob f fd) : FnOk P w K mg base CX0 1 f fd ["face", "kind"] (spNob C fun _ => False) := by
  refine F.ok scNob (fun vs H Q E h => ?_) (fun cdv A outer s H vs Q E hr h => ?_)
  · obtain ⟨_, _, _, _, _, _, _, _, _, _, hk, _⟩ := h
    exact hk.elim
  · obtain ⟨_, _, _, _, _, _, _, _, _, _, hk, _⟩ := h
    exact hk.elim
theorem none_nin {f : Addr} {fd : FuncData} (F : Fun K "name_in" "name_in" sNin f fd) : FnOk P w K mg base CX0 1 f fd ["kind"] (spNin fun _ => False) := by
  refine F.ok scNin (fun vs H Q E h => ?_) (fun cdv A outer s H vs Q E hr h => ?_)
  · obtain ⟨_, _, _, _, _, _, hk, _⟩ := h
    exact hk.elim
  · obtain ⟨_, _, _, _, _, _, hk, _⟩ := h
    exact hk.elim
theorem none_leo {C f : Addr} {fd : FuncData} (F : Fun K "least_of" "least_of" sLeastOf f fd) : FnOk P w K mg base CX0 1 f fd ["face", "kind"] (spLeo C 0) := by
  refine F.ok scLeastOf (fun vs H Q E h => ?_) (fun cdv A outer s H vs Q E hr h => ?_)
  · obtain ⟨_, _, _, _, _, _, _, hk, _⟩ := h
    exact hk.elim
  · obtain ⟨_, _, _, _, _, _, _, hk, _⟩ := h
    exact hk.elim
theorem none_con {C f : Addr} {fd : FuncData} (F : Fun K "content_of" "content_of" sCon f fd) : FnOk P w K mg base CX0 2 f fd ["face", "kind", "value"] (spCon C 0) := by
  refine F.ok scCon (fun vs H Q E h => ?_) (fun cdv A outer s H vs Q E hr h => ?_)
  · obtain ⟨_, _, _, _, _, _, _, _, _, _, hk, _⟩ := h
    exact hk.elim
  · obtain ⟨_, _, _, _, _, _, _, _, _, _, hk, _⟩ := h
    exact hk.elim
theorem none_rcn {C f : Addr} {fd : FuncData} (F : Fun K "read_content" "read_content" sRcn f fd) : FnOk P w K mg base CX0 3 f fd ["face", "kind", "content", "depth"] (spRcn C 0) := by
  refine F.ok scRcn (fun vs H Q E h => ?_) (fun cdv A outer s H vs Q E hr h => ?_)
  · obtain ⟨_, _, _, _, _, _, _, _, _, _, _, hk, _⟩ := h
    exact hk.elim
  · obtain ⟨_, _, _, _, _, _, _, _, _, _, _, hk, _⟩ := h
    exact hk.elim
theorem none_sin {C f : Addr} {fd : FuncData} (F : Fun K "size_in" "size_in" sSin f fd) : FnOk P w K mg base CX0 3 f fd ["face", "kind", "thing", "depth", "room"] (spSin C 0) := by
  refine F.ok scSin (fun vs H Q E h => ?_) (fun cdv A outer s H vs Q E hr h => ?_)
  · obtain ⟨_, _, _, _, _, _, _, _, _, _, _, _, hk, _⟩ := h
    exact hk.elim
  · obtain ⟨_, _, _, _, _, _, _, _, _, _, _, _, hk, _⟩ := h
    exact hk.elim
end
theorem tk_str {mg : Str → Option Value} {x z : Str} (h : ∃ t, mg x = some (.str z t)) : mg x = some (.str z (tkOf mg x)) := by
  obtain ⟨t, h⟩ := h
  unfold tkOf
  rw [h]
theorem kdct {K : PySem.W.Frag} {w : World} {a : Addr} {kvs : List (Str × He.Dv)} (h : ∃ es n, KDict K w a es n) (v : He.valsB K a kvs = true) {x : Str} {d : He.Dv} (m : (x, d) ∈ kvs) : KDct K w a x (d.v K) := by
  obtain ⟨es, n, D⟩ := h
  obtain ⟨u, e, r⟩ := He.valsB_ok v m
  exact ⟨es, n, u, D.at_, D.lit, e, r⟩
theorem facts {P : Program} {w : World} {K : PySem.W.Frag} {h : Heap} {mg : Str → Option Value} {f : Addr} (X : K.In h) (G : h.Ns mainGlobals mg) (hfa : mg ("law" : Str) = some (.ref f)) (c : He.SaysX fa fn ts [] ex w h K) :
    ∃ fd : FuncData, (∀ (s : Shared) (v : Value), BindsTo s fd ⟨[v], []⟩ [("_law_script", v)]) ∧ ∀ base : Heap, K.In base → base.Ns mainGlobals mg → FnOk P w K mg base CX0 80 f fd ["_law_script"] (spLaw K) := by
  have d := c.t.d
  have gl : ∀ (i : Nat) {x : Str}, fa[i]? = some (.glo x) → mg x = some (.ref (He.ga K x)) := fun i x hi => He.glo_ok X G (d.fact i hi)
  have fr : ∀ (i : Nat) {x : Str}, fa[i]? = some (.free x) → mg x = none := fun i x hi => He.free_ok X G (d.fact i hi)
  have na : ∀ (i : Nat) {x y : Str}, fa[i]? = some (.noat x y) → NoAttr K (He.ga K x) y := fun i x y hi => He.noat_ok (d.fact i hi)
  have it : ∀ (i : Nat) {x : Str} {z : Int}, fa[i]? = some (.int x z) → ∃ t, mg x = some (.int z t) := fun i x z hi => He.int_ok X G (d.fact i hi)
  obtain ⟨x0, x1⟩ := He.ba c.more
  have GG : Glb mg := ⟨fr 54 rfl, fr 55 rfl, fr 56 rfl, fr 57 rfl, fr 58 rfl, fr 59 rfl, fr 60 rfl, fr 61 rfl, fr 62 rfl, fr 63 rfl, fr 64 rfl, fr 65 rfl, fr 66 rfl, fr 67 rfl, fr 68 rfl, fr 69 rfl, fr 70 rfl⟩
  have cl : Cls K (fC K) := He.cls_ok (d.fact 74 (f := .cls "Face") rfl)
  have mk : Mk K (fC K) (He.ma K (fC K) "__init__") := He.mkr_ok (d.fact 80 (f := .mkr "Face") rfl)
  have T : ClsF K mg (fC K) := ⟨cl, na 75 rfl, na 76 rfl, na 77 rfl, na 78 rfl, na 79 rfl, gl 0 rfl⟩
  obtain ⟨fdI, DI⟩ := d.def_ 0 (d := dInit) rfl
  have mm0 : Meth K (fC K) "fields_of" (He.ma K (fC K) "fields_of") := He.meth_ok (d.fact 81 (f := .meth "Face" "fields_of") rfl)
  obtain ⟨fdm0, Dm0⟩ := d.def_ 1 (d := mdef "fields_of" "Face.fields_of" sFields) rfl
  have mm1 : Meth K (fC K) "options_of" (He.ma K (fC K) "options_of") := He.meth_ok (d.fact 82 (f := .meth "Face" "options_of") rfl)
  obtain ⟨fdm1, Dm1⟩ := d.def_ 2 (d := mdef "options_of" "Face.options_of" sOptions) rfl
  obtain ⟨fd0, D0⟩ := d.def_ 3 (d := fdef "word_of" sWord) rfl
  obtain ⟨fd1, D1⟩ := d.def_ 4 (d := fdef "mark_of" sMark) rfl
  obtain ⟨fd2, D2⟩ := d.def_ 5 (d := fdef "name_in" sNin) rfl
  obtain ⟨fd3, D3⟩ := d.def_ 6 (d := fdef "names_nobody" sNob) rfl
  obtain ⟨fd4, D4⟩ := d.def_ 7 (d := fdef "number_of" sNum) rfl
  obtain ⟨fd5, D5⟩ := d.def_ 8 (d := fdef "is_whole" sWho) rfl
  obtain ⟨fd6, D6⟩ := d.def_ 9 (d := fdef "digits_of" sDigits) rfl
  obtain ⟨fd7, D7⟩ := d.def_ 10 (d := fdef "told_size" sTold) rfl
  obtain ⟨fd8, D8⟩ := d.def_ 11 (d := fdef "part_size" sPart) rfl
  obtain ⟨fd9, D9⟩ := d.def_ 12 (d := fdef "field_size" sFSize) rfl
  obtain ⟨fd10, D10⟩ := d.def_ 13 (d := fdef "is_value" sIva) rfl
  obtain ⟨fd11, D11⟩ := d.def_ 14 (d := fdef "size_in" sSin) rfl
  obtain ⟨fd12, D12⟩ := d.def_ 15 (d := fdef "record_size" sRsz) rfl
  obtain ⟨fd13, D13⟩ := d.def_ 16 (d := fdef "has_names" sHas) rfl
  obtain ⟨fd14, D14⟩ := d.def_ 17 (d := fdef "list_size" sLsz) rfl
  obtain ⟨fd15, D15⟩ := d.def_ 18 (d := fdef "is_text" sItx) rfl
  obtain ⟨fd16, D16⟩ := d.def_ 19 (d := fdef "is_sign" sSig) rfl
  obtain ⟨fd17, D17⟩ := d.def_ 20 (d := fdef "is_numbered" sInu) rfl
  obtain ⟨fd18, D18⟩ := d.def_ 21 (d := fdef "least" sLea) rfl
  obtain ⟨fd19, D19⟩ := d.def_ 22 (d := fdef "least_of" sLeastOf) rfl
  obtain ⟨fd20, D20⟩ := d.def_ 23 (d := fdef "least_sizes" sLSizes) rfl
  obtain ⟨fd21, D21⟩ := d.def_ 24 (d := fdef "least_size" sLSize) rfl
  obtain ⟨fd22, D22⟩ := d.def_ 25 (d := fdef "wrong" sWrong) rfl
  obtain ⟨fd23, D23⟩ := d.def_ 26 (d := fdef "strangers_in_kinds" sStr) rfl
  obtain ⟨fd24, D24⟩ := d.def_ 27 (d := fdef "endless_records" sEnd) rfl
  obtain ⟨fd25, D25⟩ := d.def_ 28 (d := fdef "written" sWri) rfl
  obtain ⟨fd26, D26⟩ := d.def_ 29 (d := fdef "content_of" sCon) rfl
  obtain ⟨fd27, D27⟩ := d.def_ 30 (d := fdef "record_content" sRec) rfl
  obtain ⟨fd28, D28⟩ := d.def_ 31 (d := fdef "list_content" sLst) rfl
  obtain ⟨fd29, D29⟩ := d.def_ 32 (d := fdef "read" sRea) rfl
  obtain ⟨fd30, D30⟩ := d.def_ 33 (d := fdef "demand" sDem) rfl
  obtain ⟨fd31, D31⟩ := d.def_ 34 (d := fdef "is_body" sBod) rfl
  obtain ⟨fd32, D32⟩ := d.def_ 35 (d := fdef "read_content" sRcn) rfl
  obtain ⟨fd33, D33⟩ := d.def_ 36 (d := fdef "read_record" sRre) rfl
  obtain ⟨fd34, D34⟩ := d.def_ 37 (d := fdef "split_fields" sSpf) rfl
  obtain ⟨fd35, D35⟩ := d.def_ 38 (d := fdef "split_part" sSpp) rfl
  obtain ⟨fd36, D36⟩ := d.def_ 39 (d := fdef "read_list" sRli) rfl
  obtain ⟨fd37, D37⟩ := d.def_ 40 (d := fdef "read_text" sRtx) rfl
  obtain ⟨fd38, D38⟩ := d.def_ 41 (d := fdef "read_number" sRnu) rfl
  obtain ⟨fd39, D39⟩ := d.def_ 42 (d := fdef "read_numbered" sRnd) rfl
  obtain ⟨fd40, D40⟩ := d.def_ 43 (d := fdef "_law_bag" sBag) rfl
  obtain ⟨fd41, D41⟩ := d.def_ 44 (d := fdef "_law_take" sTake) rfl
  obtain ⟨fd42, D42⟩ := d.def_ 45 (d := fdef "_law_drawn_name" sName) rfl
  obtain ⟨fd43, D43⟩ := d.def_ 46 (d := fdef "_law_unlike_names" sUnlikeN) rfl
  obtain ⟨fd44, D44⟩ := d.def_ 47 (d := fdef "_law_rising" sRis) rfl
  obtain ⟨fd45, D45⟩ := d.def_ 48 (d := fdef "_law_made_face" sFace) rfl
  obtain ⟨fd46, D46⟩ := d.def_ 49 (d := fdef "_law_nobody" sNbd) rfl
  obtain ⟨fd47, D47⟩ := d.def_ 50 (d := fdef "_law_all_sizes" sAll) rfl
  obtain ⟨fd48, D48⟩ := d.def_ 51 (d := fdef "_law_held" sHeld) rfl
  obtain ⟨fd49, D49⟩ := d.def_ 52 (d := fdef "_law_right" sRgt) rfl
  obtain ⟨fd50, D50⟩ := d.def_ 53 (d := fdef "law" sLaw) rfl
  have e2 := hfa.symm.trans (gl 53 (x := "law") rfl)
  cases e2
  have bL := FunD.bindsA (ps := ["_law_script"]) D50 fun _ _ _ _ _ _ us hl => match us, hl with | [_], _ => rfl
  refine ⟨fd50, fun s v => bL s [v] rfl, fun base _ _ => ?_⟩
  have FI : DInit K (kwOf ("Face", some "__init__") "choices" K) (kwOf ("Face", some "__init__") "records" K) (kwOf ("Face", some "__init__") "calls" K) (He.ma K (fC K) "__init__") fdI := DI
  have M : MkF P w K mg base (fC K) := ⟨⟨_, fdI, _, _, _, mk, ok_init FI T, FI⟩, gl 0 rfl⟩
  have i0 := it 84 (x := "BASE") (z := 256) rfl
  have i1 := it 85 (x := "FIRST_LONG_SIZE") (z := 200) rfl
  have i2 := it 86 (x := "GREATEST_NUMBER") (z := 30) rfl
  have i3 := it 87 (x := "GREATEST_MARK") (z := 4) rfl
  have i4 := it 88 (x := "DEEPEST") (z := 80) rfl
  have i5 := it 89 (x := "LONGEST_LIST") (z := 6) rfl
  have i6 := it 90 (x := "LONGEST_TEXT") (z := 20) rfl
  have i7 := it 91 (x := "GREATEST_WHOLE") (z := 1000000000) rfl
  have i8 := it 92 (x := "GREATEST_BODY") (z := 10000) rfl
  have i9 := it 93 (x := "PERCENT") (z := 37) rfl
  have i10 := it 94 (x := "FIRST_CODE") (z := 32) rfl
  have iL := it 95 (x := "GREATEST_LEAST") (z := 60) rfl
  have NN : Nums mg := ⟨i0, i1, iL⟩
  have WW : Wn mg := ⟨tk_int i0, tk_int i1, tk_int i2, tk_int i3, tk_int i4, tk_int i5, tk_int i6, tk_int i7, tk_int i8, tk_int i9, tk_int i10, fr 71 rfl, fr 72 rfl, fr 73 rfl⟩
  have WG : Wg mg := ⟨tk_str (He.str_ok X G (d.fact 96 (f := .str "SIGNS" SG) rfl))⟩
  have MM : Marks K w mg := ⟨He.ga K "MARKS", gl 1 rfl, kdct (c.t.tab 0 rfl) x0 (x := "whole") (d := .int 1) (by simp [tb0]), kdct (c.t.tab 0 rfl) x0 (x := "truth") (d := .int 1) (by simp [tb0]), kdct (c.t.tab 0 rfl) x0 (x := "choice") (d := .int 1) (by simp [tb0]), kdct (c.t.tab 0 rfl) x0 (x := "text") (d := .int 2) (by simp [tb0]), kdct (c.t.tab 0 rfl) x0 (x := "list") (d := .int 3) (by simp [tb0]), kdct (c.t.tab 0 rfl) x0 (x := "record") (d := .int 4) (by simp [tb0])⟩
  have PP : Plains K w mg := ⟨He.ga K "LEAST_PLAIN", gl 2 rfl, kdct (c.t.tab 1 rfl) x1 (x := "whole") (d := .int 0) (by simp [tb1]), kdct (c.t.tab 1 rfl) x1 (x := "truth") (d := .bl false) (by simp [tb1]), kdct (c.t.tab 1 rfl) x1 (x := "text") (d := .str "") (by simp [tb1])⟩
  have W : Has P w K mg base "word_of" 1 ["kind"] spWord := ⟨⟨_, fd0, gl 3 rfl, D0.kp, FunD.bindsN D0 (fun _ _ _ _ _ _ us hl => match us, hl with | [_], _ => rfl), ok_word (toFun (x := "word_of") (q := "word_of") (st := sWord) D0) GG⟩⟩
  have Mk : Has P w K mg base "mark_of" 2 ["kind"] spMark := ⟨⟨_, fd1, gl 4 rfl, D1.kp, FunD.bindsN D1 (fun _ _ _ _ _ _ us hl => match us, hl with | [_], _ => rfl), ok_mark (toFun (x := "mark_of") (q := "mark_of") (st := sMark) D1) MM W⟩⟩
  have I0 : Has P w K mg base "name_in" 1 ["kind"] (spNin fun _ => False) := ⟨⟨_, fd2, gl 5 rfl, D2.kp, FunD.bindsN D2 (fun _ _ _ _ _ _ us hl => match us, hl with | [_], _ => rfl), none_nin (toFun (x := "name_in") (q := "name_in") (st := sNin) D2)⟩⟩
  have I1 : Has P w K mg base "name_in" 2 ["kind"] (spNin isOne) := ⟨⟨_, fd2, gl 5 rfl, D2.kp, FunD.bindsN D2 (fun _ _ _ _ _ _ us hl => match us, hl with | [_], _ => rfl), ok_nin (toFun (x := "name_in") (q := "name_in") (st := sNin) D2) I0 (fun b hb => by obtain ⟨_, hb⟩ := hb; cases hb)⟩⟩
  have I2 : Has P w K mg base "name_in" 3 ["kind"] (spNin fun _ => True) := ⟨⟨_, fd2, gl 5 rfl, D2.kp, FunD.bindsN D2 (fun _ _ _ _ _ _ us hl => match us, hl with | [_], _ => rfl), ok_nin (toFun (x := "name_in") (q := "name_in") (st := sNin) D2) I1 (fun b _ => ⟨b, rfl⟩)⟩⟩
  have B0 : Has P w K mg base "names_nobody" 1 ["face", "kind"] (spNob (fC K) fun _ => False) := ⟨⟨_, fd3, gl 6 rfl, D3.kp, FunD.bindsN D3 (fun _ _ _ _ _ _ us hl => match us, hl with | [_, _], _ => rfl), none_nob (toFun (x := "names_nobody") (q := "names_nobody") (st := sNob) D3)⟩⟩
  have B1 : Has P w K mg base "names_nobody" 2 ["face", "kind"] (spNob (fC K) isOne) := ⟨⟨_, fd3, gl 6 rfl, D3.kp, FunD.bindsN D3 (fun _ _ _ _ _ _ us hl => match us, hl with | [_, _], _ => rfl), ok_nob (toFun (x := "names_nobody") (q := "names_nobody") (st := sNob) D3) GG cl T.n3 T.n4 B0 (fun b hb => by obtain ⟨_, hb⟩ := hb; cases hb)⟩⟩
  have B2 : Has P w K mg base "names_nobody" 3 ["face", "kind"] (spNob (fC K) fun _ => True) := ⟨⟨_, fd3, gl 6 rfl, D3.kp, FunD.bindsN D3 (fun _ _ _ _ _ _ us hl => match us, hl with | [_, _], _ => rfl), ok_nob (toFun (x := "names_nobody") (q := "names_nobody") (st := sNob) D3) GG cl T.n3 T.n4 B1 (fun b _ => ⟨b, rfl⟩)⟩⟩
  have Fi : HasM P w K mg base (fC K) "fields_of" 1 ["self", "record"] (spFields (fC K)) := ⟨cl, _, fdm0, mm0, FunD.bindsN (ps := ["self", "record"]) Dm0 (fun _ _ _ _ _ _ us hl => match us, hl with | [_, _], _ => rfl), ok_fields (toFun (x := "fields_of") (q := "Face.fields_of") (st := sFields) Dm0) cl T.n4⟩
  have O : HasM P w K mg base (fC K) "options_of" 1 ["self", "choice"] (spOptions (fC K)) := ⟨cl, _, fdm1, mm1, FunD.bindsN (ps := ["self", "choice"]) Dm1 (fun _ _ _ _ _ _ us hl => match us, hl with | [_, _], _ => rfl), ok_options (toFun (x := "options_of") (q := "Face.options_of") (st := sOptions) Dm1) cl T.n3⟩
  have U : Has P w K mg base "number_of" 2 ["face", "kind", "value"] (spNum (fC K)) := ⟨⟨_, fd4, gl 7 rfl, D4.kp, FunD.bindsN D4 (fun _ _ _ _ _ _ us hl => match us, hl with | [_, _, _], _ => rfl), ok_num (toFun (x := "number_of") (q := "number_of") (st := sNum) D4) W O⟩⟩
  have Dg : Has P w K mg base "digits_of" 1 ["number"] spDigits := ⟨⟨_, fd6, gl 9 rfl, D6.kp, FunD.bindsN D6 (fun _ _ _ _ _ _ us hl => match us, hl with | [_], _ => rfl), ok_digits (toFun (x := "digits_of") (q := "digits_of") (st := sDigits) D6) GG NN⟩⟩
  have Td : Has P w K mg base "told_size" 1 ["size"] spTold := ⟨⟨_, fd7, gl 10 rfl, D7.kp, FunD.bindsN D7 (fun _ _ _ _ _ _ us hl => match us, hl with | [_], _ => rfl), ok_told (toFun (x := "told_size") (q := "told_size") (st := sTold) D7) NN⟩⟩
  have Pt : Has P w K mg base "part_size" 2 ["size"] spPart := ⟨⟨_, fd8, gl 11 rfl, D8.kp, FunD.bindsN D8 (fun _ _ _ _ _ _ us hl => match us, hl with | [_], _ => rfl), ok_part (toFun (x := "part_size") (q := "part_size") (st := sPart) D8) GG Td⟩⟩
  have Fs : Has P w K mg base "field_size" 3 ["size"] spFSize := ⟨⟨_, fd9, gl 12 rfl, D9.kp, FunD.bindsN D9 (fun _ _ _ _ _ _ us hl => match us, hl with | [_], _ => rfl), ok_fsize (toFun (x := "field_size") (q := "field_size") (st := sFSize) D9) Pt⟩⟩
  have DgE : Has P w K mg base "digits_of" 1 ["number"] spDigE := ⟨⟨_, fd6, gl 9 rfl, D6.kp, FunD.bindsN D6 (fun _ _ _ _ _ _ us hl => match us, hl with | [_], _ => rfl), ok_digE (toFun (x := "digits_of") (q := "digits_of") (st := sDigits) D6) GG NN⟩⟩
  have TdE : Has P w K mg base "told_size" 1 ["size"] spToldE := ⟨⟨_, fd7, gl 10 rfl, D7.kp, FunD.bindsN D7 (fun _ _ _ _ _ _ us hl => match us, hl with | [_], _ => rfl), ok_toldE (toFun (x := "told_size") (q := "told_size") (st := sTold) D7) NN⟩⟩
  have Lo : Has P w K mg base "least_of" 2 ["face", "kind"] (spLeastOf (fC K)) := ⟨⟨_, fd19, gl 22 rfl, D19.kp, FunD.bindsN D19 (fun _ _ _ _ _ _ us hl => match us, hl with | [_, _], _ => rfl), ok_leastOf (toFun (x := "least_of") (q := "least_of") (st := sLeastOf) D19) W O⟩⟩
  have Ls : Has P w K mg base "least_size" 4 ["face", "kind", "sizes"] (spLSize (fC K)) := ⟨⟨_, fd21, gl 24 rfl, D21.kp, FunD.bindsN D21 (fun _ _ _ _ _ _ us hl => match us, hl with | [_, _, _], _ => rfl), ok_lsize (toFun (x := "least_size") (q := "least_size") (st := sLSize) D21) GG B2 W Dg U Lo⟩⟩
  have Lss : Has P w K mg base "least_sizes" 5 ["face"] (spLSizes (fC K)) := ⟨⟨_, fd20, gl 23 rfl, D20.kp, FunD.bindsN D20 (fun _ _ _ _ _ _ us hl => match us, hl with | [_], _ => rfl), ok_lsizes (toFun (x := "least_sizes") (q := "least_sizes") (st := sLSizes) D20) GG cl T.n4 Ls Fs⟩⟩
  have LeN : ∀ n, Has P w K mg base "least_of" (n + 1) ["face", "kind"] (spLeo (fC K) n) := by
    intro n
    induction n with
    | zero => exact ⟨⟨_, fd19, gl 22 rfl, D19.kp, FunD.bindsN D19 (fun _ _ _ _ _ _ us hl => match us, hl with | [_, _], _ => rfl), none_leo (toFun (x := "least_of") (q := "least_of") (st := sLeastOf) D19)⟩⟩
    | succ n ih => exact ⟨⟨_, fd19, gl 22 rfl, D19.kp, FunD.bindsN D19 (fun _ _ _ _ _ _ us hl => match us, hl with | [_, _], _ => rfl), ok_leo (toFun (x := "least_of") (q := "least_of") (st := sLeastOf) D19) PP W Fi O ih (by omega)⟩⟩
  have Le : Has P w K mg base "least" 39 ["face", "record"] (spLea (fC K)) := ⟨⟨_, fd18, gl 21 rfl, D18.kp, FunD.bindsN D18 (fun _ _ _ _ _ _ us hl => match us, hl with | [_, _], _ => rfl), ok_lea (by decide) (toFun (x := "least") (q := "least") (st := sLea) D18) WW Fi Lss (LeN 37)⟩⟩
  have reN : ∀ n, Has P w K mg base "content_of" (2 * n + 2) ["face", "kind", "value"] (spCon (fC K) n) → Has P w K mg base "record_content" (2 * n + 2 + 1) ["face", "record", "value"] (spRec (fC K) (n + 1)) := fun n ih => ⟨⟨_, fd27, gl 30 rfl, D27.kp, FunD.bindsN D27 (fun _ _ _ _ _ _ us hl => match us, hl with | [_, _, _], _ => rfl), ok_rec (by omega) (toFun (x := "record_content") (q := "record_content") (st := sRec) D27) GG ih Mk TdE Fi⟩⟩
  have CoN : ∀ n, Has P w K mg base "content_of" (2 * n + 2) ["face", "kind", "value"] (spCon (fC K) n) := by
    intro n
    induction n with
    | zero => exact ⟨⟨_, fd26, gl 29 rfl, D26.kp, FunD.bindsN D26 (fun _ _ _ _ _ _ us hl => match us, hl with | [_, _, _], _ => rfl), none_con (toFun (x := "content_of") (q := "content_of") (st := sCon) D26)⟩⟩
    | succ n ih =>
      have L : Has P w K mg base "list_content" (2 * n + 2 + 1) ["face", "kind", "values"] (spLst (fC K) (n + 1)) := ⟨⟨_, fd28, gl 31 rfl, D28.kp, FunD.bindsN D28 (fun _ _ _ _ _ _ us hl => match us, hl with | [_, _, _], _ => rfl), ok_lst (by omega) (toFun (x := "list_content") (q := "list_content") (st := sLst) D28) GG ih Mk TdE⟩⟩
      exact ⟨⟨_, fd26, gl 29 rfl, D26.kp, FunD.bindsN D26 (fun _ _ _ _ _ _ us hl => match us, hl with | [_, _, _], _ => rfl), ok_con (l := 2 * n + 2 + 1) (by omega) (toFun (x := "content_of") (q := "content_of") (st := sCon) D26) GG WW.ord W (reN n ih) L DgE U⟩⟩
  have Wt : Has P w K mg base "written" 76 ["face", "record", "value"] (spWri (fC K) 37) := ⟨⟨_, fd25, gl 28 rfl, D25.kp, FunD.bindsN D25 (fun _ _ _ _ _ _ us hl => match us, hl with | [_, _, _], _ => rfl), ok_wri (toFun (x := "written") (q := "written") (st := sWri) D25) GG (reN 36 (CoN 36))⟩⟩
  have Dm : Has P w K mg base "demand" 1 ["holds", "why"] spDem := ⟨⟨_, fd30, gl 33 rfl, D30.kp, FunD.bindsN D30 (fun _ _ _ _ _ _ us hl => match us, hl with | [_, _], _ => rfl), ok_dem (toFun (x := "demand") (q := "demand") (st := sDem) D30)⟩⟩
  have Wh : Has P w K mg base "is_whole" 1 ["thing"] spWho := ⟨⟨_, fd5, gl 8 rfl, D5.kp, FunD.bindsN D5 (fun _ _ _ _ _ _ us hl => match us, hl with | [_], _ => rfl), ok_who (toFun (x := "is_whole") (q := "is_whole") (st := sWho) D5) GG WW⟩⟩
  have Sg : Has P w K mg base "is_sign" 1 ["code"] spSig := ⟨⟨_, fd16, gl 19 rfl, D16.kp, FunD.bindsN D16 (fun _ _ _ _ _ _ us hl => match us, hl with | [_], _ => rfl), ok_sig (toFun (x := "is_sign") (q := "is_sign") (st := sSig) D16) WW⟩⟩
  have Bo : Has P w K mg base "is_body" 2 ["thing"] spBod := ⟨⟨_, fd31, gl 34 rfl, D31.kp, FunD.bindsN D31 (fun _ _ _ _ _ _ us hl => match us, hl with | [_], _ => rfl), ok_bod (toFun (x := "is_body") (q := "is_body") (st := sBod) D31) GG WW Wh⟩⟩
  have Sp : Has P w K mg base "split_part" 2 ["content", "at"] spSpp := ⟨⟨_, fd35, gl 38 rfl, D35.kp, FunD.bindsN D35 (fun _ _ _ _ _ _ us hl => match us, hl with | [_, _], _ => rfl), ok_spp (toFun (x := "split_part") (q := "split_part") (st := sSpp) D35) GG WW Dm⟩⟩
  have Sf : Has P w K mg base "split_fields" 3 ["content"] spSpf := ⟨⟨_, fd34, gl 37 rfl, D34.kp, FunD.bindsN D34 (fun _ _ _ _ _ _ us hl => match us, hl with | [_], _ => rfl), ok_spf (toFun (x := "split_fields") (q := "split_fields") (st := sSpf) D34) GG WW Dm Sp⟩⟩
  have Rt : Has P w K mg base "read_text" 2 ["content"] spRtx := ⟨⟨_, fd37, gl 40 rfl, D37.kp, FunD.bindsN D37 (fun _ _ _ _ _ _ us hl => match us, hl with | [_], _ => rfl), ok_rtx (toFun (x := "read_text") (q := "read_text") (st := sRtx) D37) GG WW WG Dm Sg⟩⟩
  have Rn : Has P w K mg base "read_number" 2 ["content"] spRnu := ⟨⟨_, fd38, gl 41 rfl, D38.kp, FunD.bindsN D38 (fun _ _ _ _ _ _ us hl => match us, hl with | [_], _ => rfl), ok_rnu (toFun (x := "read_number") (q := "read_number") (st := sRnu) D38) WW Dm⟩⟩
  have Rd : Has P w K mg base "read_numbered" 2 ["face", "kind", "number"] (spRnd (fC K)) := ⟨⟨_, fd39, gl 42 rfl, D39.kp, FunD.bindsN D39 (fun _ _ _ _ _ _ us hl => match us, hl with | [_, _, _], _ => rfl), ok_rnd (toFun (x := "read_numbered") (q := "read_numbered") (st := sRnd) D39) WW Dm O⟩⟩
  have rrN : ∀ n, Has P w K mg base "read_content" (2 * n + 3) ["face", "kind", "content", "depth"] (spRcn (fC K) n) → Has P w K mg base "read_record" (2 * n + 3 + 1) ["face", "record", "content", "depth"] (spRre (fC K) (n + 1)) := fun n ih => ⟨⟨_, fd33, gl 36 rfl, D33.kp, FunD.bindsN D33 (fun _ _ _ _ _ _ us hl => match us, hl with | [_, _, _, _], _ => rfl), ok_rre (by omega) (toFun (x := "read_record") (q := "read_record") (st := sRre) D33) WW Dm Sf Mk ih Fi⟩⟩
  have RcN : ∀ n, Has P w K mg base "read_content" (2 * n + 3) ["face", "kind", "content", "depth"] (spRcn (fC K) n) := by
    intro n
    induction n with
    | zero => exact ⟨⟨_, fd32, gl 35 rfl, D32.kp, FunD.bindsN D32 (fun _ _ _ _ _ _ us hl => match us, hl with | [_, _, _, _], _ => rfl), none_rcn (toFun (x := "read_content") (q := "read_content") (st := sRcn) D32)⟩⟩
    | succ n ih =>
      have L : Has P w K mg base "read_list" (2 * n + 3 + 1) ["face", "kind", "content", "depth"] (spRli (fC K) (n + 1)) := ⟨⟨_, fd36, gl 39 rfl, D36.kp, FunD.bindsN D36 (fun _ _ _ _ _ _ us hl => match us, hl with | [_, _, _, _], _ => rfl), ok_rli (by omega) (toFun (x := "read_list") (q := "read_list") (st := sRli) D36) GG WW Dm Sp Mk ih⟩⟩
      exact ⟨⟨_, fd32, gl 35 rfl, D32.kp, FunD.bindsN D32 (fun _ _ _ _ _ _ us hl => match us, hl with | [_, _, _, _], _ => rfl), ok_rcn (l := 2 * n + 3 + 1) (by omega) (toFun (x := "read_content") (q := "read_content") (st := sRcn) D32) Dm B2 W (rrN n ih) L Rt Rd Rn⟩⟩
  have Re : Has P w K mg base "read" 77 ["face", "record", "body"] (spRea (fC K) 37) := ⟨⟨_, fd29, gl 32 rfl, D29.kp, FunD.bindsN D29 (fun _ _ _ _ _ _ us hl => match us, hl with | [_, _, _], _ => rfl), ok_rea (by decide) (toFun (x := "read") (q := "read") (st := sRea) D29) Dm Bo (rrN 36 (RcN 36))⟩⟩
  have Ix : Has P w K mg base "is_text" 2 ["thing"] spItx := ⟨⟨_, fd15, gl 18 rfl, D15.kp, FunD.bindsN D15 (fun _ _ _ _ _ _ us hl => match us, hl with | [_], _ => rfl), ok_itx (toFun (x := "is_text") (q := "is_text") (st := sItx) D15) GG WW Sg⟩⟩
  have In : Has P w K mg base "is_numbered" 2 ["face", "kind", "thing"] (spInu (fC K)) := ⟨⟨_, fd17, gl 20 rfl, D17.kp, FunD.bindsN D17 (fun _ _ _ _ _ _ us hl => match us, hl with | [_, _, _], _ => rfl), ok_inu (toFun (x := "is_numbered") (q := "is_numbered") (st := sInu) D17) GG WW Wh O⟩⟩
  have Hn : Has P w K mg base "has_names" 1 ["fields", "thing"] spHas := ⟨⟨_, fd13, gl 16 rfl, D13.kp, FunD.bindsN D13 (fun _ _ _ _ _ _ us hl => match us, hl with | [_, _], _ => rfl), ok_has (toFun (x := "has_names") (q := "has_names") (st := sHas) D13) GG WW⟩⟩
  have SiN : ∀ n, Has P w K mg base "size_in" (2 * n + 3) ["face", "kind", "thing", "depth", "room"] (spSin (fC K) n) := by
    intro n
    induction n with
    | zero => exact ⟨⟨_, fd11, gl 14 rfl, D11.kp, FunD.bindsN D11 (fun _ _ _ _ _ _ us hl => match us, hl with | [_, _, _, _, _], _ => rfl), none_sin (toFun (x := "size_in") (q := "size_in") (st := sSin) D11)⟩⟩
    | succ n ih =>
      have R : Has P w K mg base "record_size" (2 * n + 3 + 1) ["face", "record", "thing", "depth", "room"] (spRsz (fC K) (n + 1)) := ⟨⟨_, fd12, gl 15 rfl, D12.kp, FunD.bindsN D12 (fun _ _ _ _ _ _ us hl => match us, hl with | [_, _, _, _, _], _ => rfl), ok_rsz (by omega) (toFun (x := "record_size") (q := "record_size") (st := sRsz) D12) GG WW Fi Hn ih Fs⟩⟩
      have L : Has P w K mg base "list_size" (2 * n + 3 + 1) ["face", "kind", "thing", "depth", "room"] (spLsz (fC K) (n + 1)) := ⟨⟨_, fd14, gl 17 rfl, D14.kp, FunD.bindsN D14 (fun _ _ _ _ _ _ us hl => match us, hl with | [_, _, _, _, _], _ => rfl), ok_lsz (by omega) (toFun (x := "list_size") (q := "list_size") (st := sLsz) D14) GG WW ih Pt⟩⟩
      exact ⟨⟨_, fd11, gl 14 rfl, D11.kp, FunD.bindsN D11 (fun _ _ _ _ _ _ us hl => match us, hl with | [_, _, _, _, _], _ => rfl), ok_sin (l := 2 * n + 3 + 1) (by omega) (toFun (x := "size_in") (q := "size_in") (st := sSin) D11) GG B2 W R L Ix DgE U In⟩⟩
  have Iv : Has P w K mg base "is_value" 78 ["face", "record", "thing"] (spIva (fC K) 37) := ⟨⟨_, fd10, gl 13 rfl, D10.kp, FunD.bindsN D10 (fun _ _ _ _ _ _ us hl => match us, hl with | [_, _, _], _ => rfl), ok_iva (by decide) (toFun (x := "is_value") (q := "is_value") (st := sIva) D10) WW Fi (SiN 37)⟩⟩
  have Sk : Has P w K mg base "strangers_in_kinds" 4 ["face"] (spStr2 (fC K)) := ⟨⟨_, fd23, gl 26 rfl, D23.kp, FunD.bindsN D23 (fun _ _ _ _ _ _ us hl => match us, hl with | [_], _ => rfl), ok_str2 (toFun (x := "strangers_in_kinds") (q := "strangers_in_kinds") (st := sStr) D23) GG cl T.n4 B2 I2⟩⟩
  have En : Has P w K mg base "endless_records" 6 ["face"] (spEnd (fC K)) := ⟨⟨_, fd24, gl 27 rfl, D24.kp, FunD.bindsN D24 (fun _ _ _ _ _ _ us hl => match us, hl with | [_], _ => rfl), ok_end (toFun (x := "endless_records") (q := "endless_records") (st := sEnd) D24) NN cl T.n4 Lss⟩⟩
  have Wr : Has P w K mg base "wrong" 7 ["face"] (spWrong2 (fC K)) := ⟨⟨_, fd22, gl 25 rfl, D22.kp, FunD.bindsN D22 (fun _ _ _ _ _ _ us hl => match us, hl with | [_], _ => rfl), ok_wrong2 (toFun (x := "wrong") (q := "wrong") (st := sWrong) D22) GG cl T.n5 Sk En⟩⟩
  have LB : Has P w K mg base "_law_bag" 1 ["_law_script", "_law_at"] (spBag K) := ⟨⟨_, fd40, gl 43 rfl, D40.kp, FunD.bindsN D40 (fun _ _ _ _ _ _ us hl => match us, hl with | [_, _], _ => rfl), ok_bag (toFun (x := "_law_bag") (q := "_law_bag") (st := sBag) D40) GG⟩⟩
  have LT : Has P w K mg base "_law_take" 1 ["_law_bag_here", "_law_size"] spTake := ⟨⟨_, fd41, gl 44 rfl, D41.kp, FunD.bindsN D41 (fun _ _ _ _ _ _ us hl => match us, hl with | [_, _], _ => rfl), ok_take (toFun (x := "_law_take") (q := "_law_take") (st := sTake) D41)⟩⟩
  have LN : Has P w K mg base "_law_drawn_name" 2 ["_law_bag_here"] spName := ⟨⟨_, fd42, gl 45 rfl, D42.kp, FunD.bindsN D42 (fun _ _ _ _ _ _ us hl => match us, hl with | [_], _ => rfl), ok_name (toFun (x := "_law_drawn_name") (q := "_law_drawn_name") (st := sName) D42) GG LT⟩⟩
  have LU : Has P w K mg base "_law_unlike_names" 3 ["_law_bag_here", "_law_size", "_law_taken"] spUnlikeN := ⟨⟨_, fd43, gl 46 rfl, D43.kp, FunD.bindsN D43 (fun _ _ _ _ _ _ us hl => match us, hl with | [_, _, _], _ => rfl), ok_unlikeN (toFun (x := "_law_unlike_names") (q := "_law_unlike_names") (st := sUnlikeN) D43) GG LN⟩⟩
  have LR : Has P w K mg base "_law_rising" 2 ["_law_bag_here", "_law_size", "_law_most"] spRis2 := ⟨⟨_, fd44, gl 47 rfl, D44.kp, FunD.bindsN D44 (fun _ _ _ _ _ _ us hl => match us, hl with | [_, _, _], _ => rfl), ok_ris2 (toFun (x := "_law_rising") (q := "_law_rising") (st := sRis) D44) GG LT⟩⟩
  have LF : Has P w K mg base "_law_made_face" 3 ["_law_parts"] (spFace (fC K)) := ⟨⟨_, fd45, gl 48 rfl, D45.kp, FunD.bindsN D45 (fun _ _ _ _ _ _ us hl => match us, hl with | [_], _ => rfl), ok_face (toFun (x := "_law_made_face") (q := "_law_made_face") (st := sFace) D45) M⟩⟩
  have LNb : Has P w K mg base "_law_nobody" 1 ["_law_parts", "_law_kind"] spNbd := ⟨⟨_, fd46, gl 49 rfl, D46.kp, FunD.bindsN D46 (fun _ _ _ _ _ _ us hl => match us, hl with | [_, _], _ => rfl), ok_nbd (toFun (x := "_law_nobody") (q := "_law_nobody") (st := sNbd) D46) GG⟩⟩
  have LA : Has P w K mg base "_law_all_sizes" 2 ["_law_parts"] spAll := ⟨⟨_, fd47, gl 50 rfl, D47.kp, FunD.bindsN D47 (fun _ _ _ _ _ _ us hl => match us, hl with | [_], _ => rfl), ok_all (toFun (x := "_law_all_sizes") (q := "_law_all_sizes") (st := sAll) D47) GG LNb⟩⟩
  have LH : Has P w K mg base "_law_held" 4 ["_law_bag_here"] spHeld2 := ⟨⟨_, fd48, gl 51 rfl, D48.kp, FunD.bindsN D48 (fun _ _ _ _ _ _ us hl => match us, hl with | [_], _ => rfl), ok_held2 (toFun (x := "_law_held") (q := "_law_held") (st := sHeld) D48) GG LT LU LR⟩⟩
  have LX : Has P w K mg base "_law_right" 79 ["_law_shape", "_law_told", "_law_one", "_law_size"] (spRgt (fC K)) := ⟨⟨_, fd49, gl 52 rfl, D49.kp, FunD.bindsN D49 (fun _ _ _ _ _ _ us hl => match us, hl with | [_, _, _, _], _ => rfl), ok_rgt (l := 78) (by decide) (by decide) (by decide) (by decide) (toFun (x := "_law_right") (q := "_law_right") (st := sRgt) D49) GG Le Wt Iv Re⟩⟩
  exact ok_law (by decide) (toFun (x := "law") (q := "law") (st := sLaw) D50) GG LB LH LA LF Wr LX
end Fh
open PySem PySem.W PySem.Calls PyProof.Rows
theorem PySem.Challenge.cw_facehouse_k17_whole_least_bodies_holds : PySem.Challenge.rw_facehouse_k17_whole_least_bodies.Holds := by
  w_on; o_law
  refine HandSHeadRun.head_any (r := Fh.R) (q := view Fh.R.prog [86]) (H := Fh.hk) (ob := Fh.ob) (M := 20000) (loose := Fh.loose) (d := HandSHeadRun.topDef Fh.R.prog 86) (kwd := []) Fh.ob_eq
    (by kernel_rfl) (fun s => by kernel_rfl) Fh.run (by kernel_rfl) (by kernel_rfl) (by kernel_rfl) (by rfl) (by first | assumption | decide +kernel) (by decide +kernel) ⟨rfl, rfl, rfl, rfl, rfl, by decide +kernel⟩ ?hw ?hc
  case hw => w_witness2
  case hc =>
    refine L2.walk_ofE (l := PySem.Challenge.rw_facehouse_k17_whole_least_bodies) (n := 63) (k := 80) (x := "_law_script") (CX := L2.CX0) rfl (by decide) (by kernel_rfl) ⟨rfl, by decide, by decide⟩ ?F (fun _ _ _ _ z => z)
    intro w mg fa h Y G hmg0
    obtain ⟨K, KX, c⟩ := Y
    have hmg : mg ("law" : PySem.Str) = some (.ref fa) := by
      have e : (HandSHeadRun.topDef Fh.R.prog 86).name = ("law" : PySem.Str) := by kernel_rfl
      rw [← e]
      exact hmg0
    obtain ⟨fd, hb, hF⟩ := Fh.facts (P := (PySem.Challenge.rw_facehouse_k17_whole_least_bodies).prog) (w := w) KX G hmg c
    exact ⟨K, fd, Fh.spLaw K, KX, hb, fun H a ns hl _ hS => ⟨a, ns, rfl, hS, fun _ => rfl⟩, hF⟩
