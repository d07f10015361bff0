import PyProof.Rows.All
import Wide.All
import OpenK.AllK
import Wide.FinOn
import HandS.ForMost
import HandS.TupAny
import HandS.Zip
import HandS.Flow
import HandS.Wide
import HandS.IsInst
import HandS.FStr
import HandS.OwnEq
import HandS.MakeKwOnly
import HandS.Codes
import HandS.Walk
import KE.KDictZip
import HandS.Rev
import KE.KFmtOwn
import KE.DataCmp
import HandS.HeadHook1
import HandS.HeadHook2
import HandS.HeadHook3
import HandS.HeadHook4
import HandS.Head0
import HandS.Head1
import HandS.Head2
import HandS.HeadEnd
import PySem.Challenge.RW_facehouse_k01_faces_made_and_equal
set_option Elab.async false
set_option linter.all false
set_option maxRecDepth 100000
set_option maxHeartbeats 4000000
namespace Fh
open PySem L2 PyProof.Rows

/-! ### rules of our own -/
theorem bits_le {i : Int} {n : Nat} (h : i.natAbs < 2 ^ n) : Builtin.Int.intBits i ≤ n := by
  unfold Builtin.Int.intBits
  split
  · exact Nat.zero_le _
  · rename_i hz
    have h0 : i.natAbs ≠ 0 := fun e => hz (by simp [Int.natAbs_eq_zero.mp e])
    exact (Nat.log2_lt h0).mpr h
def CPowW (i j : Int) : Prop := 0 ≤ j ∧ j ≤ 1000 ∧ i.natAbs < 2 ^ 100
theorem CPowW.ok {i j : Int} (h : CPowW i j) : (Builtin.Int.intBits i : Int) * j ≤ 2 ^ 27 := by
  obtain ⟨h0, h1, h2⟩ := h
  have hb : (Builtin.Int.intBits i : Int) ≤ 100 := by exact_mod_cast bits_le h2
  calc (Builtin.Int.intBits i : Int) * j ≤ 100 * 1000 := Int.mul_le_mul hb h1 h0 (by decide)
    _ ≤ 2 ^ 27 := by decide
theorem op_powW {X : Cx} : OpR X (binaryOp .Pow) (rI CPowW fun i j => .int (i ^ j.toNat)) := opI fun _ _ _ _ _ _ _ hc q => pow_int hc.1 hc.ok q

/-- what an expression gives, by a word between it and what follows -/
def tMid (t : TE) : TE := fun σ H Q => ∃ Mid : V → Hp → Prop, t σ H Mid ∧ ∀ v H', Mid v H' → Q v H'
theorem pe_mid {X : Cx} {e : Expr} {t : TE} (h : PE X e t) : PE X e (tMid t) := by
  refine ⟨fun pins s σ H Q I hq => ?_⟩
  obtain ⟨Mid, hm, hu⟩ := hq
  exact thn (h.run pins s σ H Mid I hm) fun v s1 ⟨x, H1, I1, r1, q1⟩ => ⟨x, H1, I1, r1, hu x H1 q1⟩
theorem atI_in {α : Type} {xs : List α} {i : Int} (h0 : 0 ≤ i) (h1 : i < (xs.length : Int)) : ∃ v, atI xs i = some v ∧ xs[i.toNat]? = some v ∧ v ∈ xs := by
  have hj : i.toNat < xs.length := by omega
  have e : ixN xs.length i = some i.toNat := by
    unfold ixN
    rw [if_pos h0, if_pos h1]
  refine ⟨xs[i.toNat], ?_, List.getElem?_eq_getElem hj, List.getElem_mem hj⟩
  unfold atI
  rw [e]
  exact List.getElem?_eq_getElem hj

/-! ### the bag -/
/-- a bag at b, drawn from at most n times -/
def Bag (H : Hp) (b : Addr) (n : Nat) : Prop := ∃ x y z : Int, H b = some (.lst [.int x, .int y, .int z]) ∧ 0 ≤ y ∧ y < 2 ^ 61 ∧ 0 ≤ z ∧ z ≤ (n : Int)
theorem Bag.mono {H : Hp} {b : Addr} {n m : Nat} (h : Bag H b n) (hm : n ≤ m) : Bag H b m := by
  obtain ⟨x, y, z, e, a1, a2, a3, a4⟩ := h
  exact ⟨x, y, z, e, a1, a2, a3, by omega⟩
/-- all but what stands at b is kept -/
def Kp (b : Addr) (H H' : Hp) : Prop := ∀ a o, a ≠ b → H a = some o → H' a = some o
theorem Kp.refl {b : Addr} {H : Hp} : Kp b H H := fun _ _ _ h => h
theorem Kp.trans {b : Addr} {H H1 H2 : Hp} (x : Kp b H H1) (y : Kp b H1 H2) : Kp b H H2 := fun a o n h => y a o n (x a o n h)
theorem Kp.same {b : Addr} {H H1 H2 : Hp} (x : Kp b H H1) (y : Same H1 H2) : Kp b H H2 := fun a o n h => y a o (x a o n h)
theorem Kp.upd {b : Addr} {H : Hp} {o : HO} : Kp b H (upd H b o) := fun a u n h => by rw [upd_ne n]; exact h
theorem Kp.new {b p : Addr} {H H1 : Hp} {o : HO} (x : Kp b H H1) (h : H1 p = none) : Kp b H (L2.upd H1 p o) := fun a u n e => by
  rw [upd_ne (ne_of_none (x a u n e) h)]
  exact x a u n e
theorem Kp.wr {b p : Addr} {H H1 : Hp} {o : HO} (x : Kp b H H1) (h : H p = none) : Kp b H (L2.upd H1 p o) := fun a u n e => by
  rw [upd_ne (ne_of_none e h)]
  exact x a u n e
theorem Bag.same {H H' : Hp} {b : Addr} {n : Nat} (h : Bag H b n) (s : Same H H') : Bag H' b n := by
  obtain ⟨x, y, z, e, a⟩ := h
  exact ⟨x, y, z, s _ _ e, a⟩
theorem Bag.new {H : Hp} {b p : Addr} {n : Nat} {o : HO} (h : Bag H b n) (hp : H p = none) : Bag (L2.upd H p o) b n := by
  obtain ⟨x, y, z, e, a⟩ := h
  exact ⟨x, y, z, by rw [upd_ne (ne_of_none e hp)]; exact e, a⟩
theorem Bag.ne {H : Hp} {b p : Addr} {n : Nat} {o : HO} (h : Bag H b n) (hp : p ≠ b) : Bag (L2.upd H p o) b n := by
  obtain ⟨x, y, z, e, a⟩ := h
  exact ⟨x, y, z, by rw [upd_ne (Ne.symm hp)]; exact e, a⟩
theorem Kp.free {b p : Addr} {H H' : Hp} (x : Kp b H H') (hb : ∃ o, H' b = some o) (h : H' p = none) : H p = none := by
  cases q : H p with
  | none => rfl
  | some o =>
    by_cases e : p = b
    · subst e
      obtain ⟨u, hu⟩ := hb
      rw [h] at hu
      cases hu
    · rw [x p o e q] at h
      cases h
theorem Bag.at {H : Hp} {b : Addr} {n : Nat} (h : Bag H b n) : ∃ o, H b = some o := let ⟨_, _, _, e, _⟩ := h; ⟨_, e⟩

/-! ### promises: the bag and a draw -/
def most : Nat := 1000000
def spTake : Sp := fun vs H Q _ => ∃ (b : Addr) (size : Int) (n : Nat), vs = [.ref b, .int size] ∧ 0 < size ∧ size < 1073741824 ∧ Bag H b n ∧ n ≤ most ∧
  ∀ (d : Int) (H' : Hp), 0 ≤ d → d < size → Kp b H H' → Bag H' b (n + 1) → Q (.int d) H'
def spBag (K : PySem.W.Frag) : Sp := fun vs H Q _ => ∃ (a : Addr) (ns : List Int) (i : Int), vs = [.ref a, .int i] ∧ SqL K H a (ns.map V.int) ∧ 0 ≤ i ∧ i ≤ 100 ∧
  ∀ (p : Addr) (H' : Hp), Same H H' → H p = none → Bag H' p 0 → Q (.ref p) H'
theorem basis_le {y z : Int} (hy : 0 ≤ y) (hy2 : y < 2 ^ 61) (hz : 0 ≤ z) (hz2 : z ≤ 1000001) : (y * (2 * z + 1) + 6007 * z * z + 31).natAbs < 2 ^ 100 := by
  have h1 : y * (2 * z + 1) ≤ 2 ^ 61 * 2000003 := Int.mul_le_mul (by omega) (by omega) (by omega) (by decide)
  have h2 : (6007 * z) * z ≤ (6007 * 1000001) * 1000001 := Int.mul_le_mul (by omega) hz2 hz (by decide)
  have h3 : 0 ≤ y * (2 * z + 1) := Int.mul_nonneg hy (by omega)
  have h4 : 0 ≤ (6007 * z) * z := Int.mul_nonneg (by omega) hz
  omega
end Fh
set_option maxHeartbeats 4000000
namespace Fh
open PySem L2 PyProof.Rows
def top (i : Nat) : Stmt := PySem.Challenge.pw_facehouse_k01_faces_made_and_equal.main.body.getD i (.Pass ⟨0, 0, 0, 0⟩)
abbrev sBag : Stmt := top 4
abbrev sTake : Stmt := top 5
/-- built-in names that no module's name hides -/
structure Glb (mg : Str → Option Value) : Prop where
  len : mg "len" = none
  abs : mg "abs" = none
  int : mg "int" = none
  range : mg "range" = none
  list : mg "list" = none
  min : mg "min" = none
  max : mg "max" = none
  tuple : mg "tuple" = none
  zip : mg "zip" = none
  sorted : mg "sorted" = none
  dict : mg "dict" = none
section
variable {P : Program} {w : World} {K : PySem.W.Frag} {mg : Str → Option Value} {base : Heap}
theorem scBag : FnScope ["_law_script", "_law_at", "_law_cell", "_law_far"] ["_law_script", "_law_at"] (defScope sBag) := ⟨rfl, rfl, rfl, by decide +kernel, rfl, by decide +kernel, by decide +kernel⟩
theorem scTake : FnScope ["_law_bag_here", "_law_size", "_law_digit", "_law_primes", "_law_stage", "_law_basis", "_law_found"] ["_law_bag_here", "_law_size"] (defScope sTake) := ⟨rfl, rfl, rfl, by decide +kernel, rfl, by decide +kernel, by decide +kernel⟩
theorem ok_take {f : Addr} {fd : FuncData} (F : Fun K "_law_take" "_law_take" sTake f fd) : FnOk P w K mg base CX0 1 f fd ["_law_bag_here", "_law_size"] spTake := by
  refine F.ok scTake (fun vs H Q E h => ?_) (fun cdv A outer s H vs Q E hr h => ?_)
  · obtain ⟨b, size, n, rfl, _⟩ := h
    rfl
  · obtain ⟨b, size, n, rfl, hs0, hs1, ⟨x, y, z, hb, y0, y1, z0, z1⟩, hn, k⟩ := h
    have hn' : n ≤ 1000000 := hn
    refine ⟨_, pss_cons (ps_if (pt_cmpR op_gt (pe_ix ix_list (pv 0) pe_int (fun _ _ => rfl)) pe_int (nomark _))
        (pss_cons (ps_set (i := 2) scTake.nd rfl (Or.inl rfl) (pe_op op_mod (pe_ix ix_list (pv 0) pe_int (fun _ _ => rfl)) (pv 1)))
        (pss_cons (ps_asg (pe_op op_fdiv (pe_ix ix_list (pv 0) pe_int (fun _ _ => rfl)) (pv 1)) (pg_sub (pv 0) pe_int set_list))
        (pss_one (ps_ret (pv 2))))) pss_nil)
      (pss_cons (ps_set (i := 3) scTake.nd rfl (Or.inl rfl) (pe_tup (pa_cons pe_int (pa_cons pe_int (pa_cons pe_int (pa_cons pe_int (pa_cons pe_int (pa_cons pe_int (pa_cons pe_int (pa_cons pe_int pa_nil))))))))))
      (pss_cons (ps_asg (pe_op op_add (pe_ix ix_list (pv 0) pe_int (fun _ _ => rfl)) pe_int) (pg_sub (pv 0) pe_int set_list))
      (pss_cons (ps_set (i := 4) scTake.nd rfl (Or.inl rfl) (pe_ix ix_list (pv 0) pe_int (fun _ _ => rfl)))
      (pss_cons (ps_set (i := 5) scTake.nd rfl (Or.inl rfl) (pe_op op_add (pe_op op_add (pe_op op_mul (pe_ix ix_list (pv 0) pe_int (fun _ _ => rfl)) (pe_op op_add (pe_op op_mul pe_int (pv 4)) pe_int)) (pe_op op_mul (pe_op op_mul pe_int (pv 4)) (pv 4))) pe_int))
      (pss_cons (ps_set (i := 6) scTake.nd rfl (Or.inl rfl) (pe_op op_mod (pe_op op_powW (pv 5) pe_int) (pe_ix ix_tup (pv 3) (pe_op op_mod (pv 4) pe_int) (fun _ _ => rfl))))
      (pss_one (ps_ret (pe_op op_mod (pe_op op_fdiv (pe_op op_mod (pe_op op_mul (pv 6) (pe_op op_add (pe_op op_fdiv (pv 6) pe_int) pe_int)) (pe_ix ix_tup (pv 3) (pe_op op_mod (pe_op op_add (pv 4) pe_int) pe_int) (fun _ _ => rfl))) pe_int) (pv 1))))))))), ?_⟩
    refine ⟨_, rfl, b, _, _, _, rfl, rfl, SqL.of hb, rfl, _, _, rfl, rfl, _, rfl, ?_⟩
    refine ite2 (fun _ => ?_) (fun _ => ?_)
    · refine ⟨_, rfl, b, _, _, _, rfl, rfl, SqL.of hb, rfl, _, rfl, _, _, rfl, rfl, hs0, ?_⟩
      refine ⟨_, rfl, b, _, _, _, rfl, rfl, SqL.of hb, rfl, _, rfl, _, _, rfl, rfl, ⟨hs0, hs1⟩, ?_⟩
      refine ⟨_, rfl, b, _, _, 0, rfl, rfl, hb, rfl, _, rfl, ?_⟩
      exact k _ _ (Int.emod_nonneg _ (by omega)) (Int.emod_lt_of_pos _ hs0) Kp.upd ⟨_, y, z, upd_same, y0, y1, z0, by omega⟩
    · refine ⟨by decide, fun t ht => ?_⟩
      have nbt : b ≠ t := ne_of_none hb ht
      have hb1 : (upd H t (.tup [.int 2147483647, .int 2147483629, .int 2147483587, .int 2147483579, .int 2147483563, .int 2147483549, .int 2147483543, .int 2147483497])) b = some (.lst [.int x, .int y, .int z]) := by rw [upd_ne nbt]; exact hb
      refine ⟨_, rfl, b, _, _, _, rfl, rfl, SqL.of hb1, rfl, _, _, rfl, rfl, ?_⟩
      refine ⟨_, rfl, b, _, _, 2, rfl, rfl, hb1, rfl, ?_⟩
      refine ⟨_, rfl, b, _, _, _, rfl, rfl, SqL.of upd_same, rfl, ?_⟩
      have c1 : CMul y (2 * (z + 1) + 1) := .inl ⟨by omega, by omega⟩
      refine ⟨_, rfl, b, _, _, _, rfl, rfl, SqL.of upd_same, rfl, _, rfl, _, _, rfl, rfl, .inl ⟨by decide, by decide⟩, _, _, rfl, rfl, _, _, rfl, rfl, c1, _, rfl, _, _, rfl, rfl, .inl ⟨by decide, by decide⟩, _, rfl, _, _, rfl, rfl, .inr ⟨by omega, by omega⟩, _, _, rfl, rfl, _, _, rfl, rfl, ?_⟩
      have ht1 : (upd (upd H t (.tup [.int 2147483647, .int 2147483629, .int 2147483587, .int 2147483579, .int 2147483563, .int 2147483549, .int 2147483543, .int 2147483497])) b (.lst [.int x, .int y, .int (z + 1)])) t = some (.tup [.int 2147483647, .int 2147483629, .int 2147483587, .int 2147483579, .int 2147483563, .int 2147483549, .int 2147483543, .int 2147483497]) := by rw [upd_ne nbt.symm, upd_same]
      have prim : ∀ i : Int, ∃ p, atI [V.int 2147483647, .int 2147483629, .int 2147483587, .int 2147483579, .int 2147483563, .int 2147483549, .int 2147483543, .int 2147483497] (i % 8) = some (.int p) ∧ 0 < p ∧ p ≤ 2147483647 := fun i => by
        obtain ⟨v, e, _, hm⟩ := atI_in (xs := [V.int 2147483647, .int 2147483629, .int 2147483587, .int 2147483579, .int 2147483563, .int 2147483549, .int 2147483543, .int 2147483497]) (i := i % 8) (by omega) (by show i % 8 < 8; omega)
        simp only [List.mem_cons, List.not_mem_nil, or_false] at hm
        rcases hm with rfl | rfl | rfl | rfl | rfl | rfl | rfl | rfl <;> exact ⟨_, e, by decide, by decide⟩
      obtain ⟨p1, e1, l1, u1⟩ := prim (z + 1)
      obtain ⟨p2, e2, l2, u2⟩ := prim (z + 1 + 5)
      have hB : CPowW (y * (2 * (z + 1) + 1) + 6007 * (z + 1) * (z + 1) + 31) 3 := ⟨by decide, by decide, basis_le y0 y1 (by omega) (by omega)⟩
      refine ⟨_, rfl, _, _, rfl, rfl, hB, _, rfl, _, rfl, _, _, rfl, rfl, (by show (0 : Int) < 8; decide), t, _, _, _, rfl, rfl, SqT.of ht1, e1, _, _, rfl, rfl, l1, ?_⟩
      generalize hfd : (y * (2 * (z + 1) + 1) + 6007 * (z + 1) * (z + 1) + 31) ^ (3 : Int).toNat % p1 = fd
      have f0 : 0 ≤ fd := by rw [← hfd]; exact Int.emod_nonneg _ (by omega)
      have f1 : fd < p1 := by rw [← hfd]; exact Int.emod_lt_of_pos _ l1
      refine ⟨_, rfl, _, rfl, _, _, rfl, rfl, ⟨by decide, by decide⟩, _, _, rfl, rfl, _, _, rfl, rfl, .inl ⟨by omega, by omega⟩, _, rfl, _, rfl, _, _, rfl, rfl, _, _, rfl, rfl, (by show (0 : Int) < 8; decide), t, _, _, _, rfl, rfl, SqT.of ht1, e2, _, _, rfl, rfl, l2, _, _, rfl, rfl, ⟨by decide, by decide⟩, _, rfl, _, _, rfl, rfl, hs0, ?_⟩
      refine k _ _ (Int.emod_nonneg _ (by omega)) (Int.emod_lt_of_pos _ hs0) ?_ ⟨_, y, z + 1, upd_same, y0, y1, by omega, by omega⟩
      exact (Kp.refl.new ht).trans Kp.upd
end
end Fh
set_option maxHeartbeats 4000000
namespace Fh
open PySem L2 PyProof.Rows
/-! ### a def that is called by its name -/
structure Has (P : Program) (w : World) (K : PySem.W.Frag) (mg : Str → Option Value) (base : Heap) (x : Str) (k : Nat) (ps : List Str) (sp : Sp) : Prop where
  ex : ∃ (f : Addr) (fd : FuncData), mg x = some (.ref f) ∧ PySem.W.keepIn K (.ref f) = true ∧ Binds K fd ps [] ∧ FnOk P w K mg base CX0 k f fd ps sp
theorem pe_has {X : Cx} {k : Nat} {x : Str} {ps : List Str} {sp : Sp} {e : Expr} {es : List Expr} {t : TA} {p pos : Pos} (D : Has X.prog X.w X.K X.mg X.base x k ps sp) (hr : Room k X.A) (hg : Gl X x)
    (ha : PA X (e :: es) t) (hdb : (x == ("__debug__" : Str)) = false := by decide) (he : starEach (e :: es) X.env = (false, eval e X.env) :: starEach es X.env := by rfl) (hpl : (backTo pos (starEach es X.env)).any (·.1) = false := by rfl) :
    PE X (.Call (.Name x p) (e :: es) [] pos) (tCall sp [] E0 t) := by
  obtain ⟨f, fd, hm, hk, hb, F⟩ := D.ex
  exact pe_call F hr hg hm hk hb .nil pass0 ha hdb he hpl
theorem iteT_elim {A B : Prop} (h : if true = true then A else B) : A := by rw [if_pos rfl] at h; exact h
theorem iteF_elim {A B : Prop} (h : if false = true then A else B) : B := by rw [if_neg Bool.false_ne_true] at h; exact h
theorem yes {σ : L2.St} {H : Hp} {Q : Bool → Hp → Prop} (h : Q true H) : tYes σ H Q := h
theorem b01 {i : Int} {k : Bool} : CMul i (if k = true then 1 else 0) := by cases k <;> exact .inr ⟨by decide, by decide⟩
/-! ### names -/
def Lt (c : Nat) : Prop := 97 ≤ c ∧ c ≤ 122
structure Nm (z : Str) : Prop where
  lo : 1 ≤ z.length
  hi : z.length ≤ 8
  sg : ∀ c ∈ z.cps.toList, Lt c
def one (c : Nat) : Str := ⟨#[c]⟩
theorem tl_ones : ∀ cs : List Nat, ∀ a : Str, a.cps.toList = [] → (Str.join a (cs.map one)).cps.toList = cs
  | [], _, _ => rfl
  | [c], _, _ => rfl
  | c :: d :: r, a, ha => by
    show (one c ++ a ++ Str.join a ((d :: r).map one)).cps.toList = _
    have e := tl_ones (d :: r) a ha
    show ((one c).cps ++ a.cps ++ (Str.join a ((d :: r).map one)).cps).toList = _
    rw [Array.toList_append, Array.toList_append, e, ha]
    rfl
theorem join_nm {cs : List Nat} (h1 : 1 ≤ cs.length) (h2 : cs.length ≤ 8) (h3 : ∀ c ∈ cs, Lt c) : Nm (Txt.join "" (cs.map one)) := by
  have e : (Txt.join "" (cs.map one)).cps.toList = cs := by
    show (Builtin.Str.glued "" (cs.map one)).cps.toList = cs
    rw [StrLaws.glued_eq_join]
    exact tl_ones cs _ rfl
  have l : (Txt.join "" (cs.map one)).length = cs.length := by
    show (Txt.join "" (cs.map one)).cps.size = _
    rw [← Array.length_toList, e]
  exact ⟨by rw [l]; exact h1, by rw [l]; exact h2, by rw [e]; exact h3⟩
theorem len_ones : ∀ cs : List Nat, ((cs.map one).map (·.length)).sum = cs.length
  | [] => rfl
  | c :: r => by
    show (one c).length + ((r.map one).map (·.length)).sum = r.length + 1
    rw [len_ones r]
    show 1 + _ = _
    omega
abbrev abc : Str := "abcdefghijklmnopqrstuvwxyz"
theorem abc_codes : abc.cps.toList = [97, 98, 99, 100, 101, 102, 103, 104, 105, 106, 107, 108, 109, 110, 111, 112, 113, 114, 115, 116, 117, 118, 119, 120, 121, 122] := by decide +kernel
theorem abc_at {i : Int} (h0 : 0 ≤ i) (h1 : i < 26) : ∃ c, atI abc.cps.toList i = some c ∧ Lt c := by
  have hl : abc.cps.toList.length = 26 := by rw [abc_codes]; rfl
  obtain ⟨v, e, _, hm⟩ := atI_in (xs := abc.cps.toList) h0 (by rw [hl]; exact h1)
  refine ⟨v, e, ?_⟩
  rw [abc_codes] at hm
  revert hm
  unfold Lt
  simp only [List.mem_cons, List.not_mem_nil, or_false]
  omega
def spName : Sp := fun vs H Q _ => ∃ (b : Addr) (n : Nat), vs = [.ref b] ∧ Bag H b n ∧ n + 10 ≤ most ∧
  ∀ (z : Str) (H' : Hp), Nm z → Kp b H H' → Bag H' b (n + 10) → Q (.str z) H'
abbrev sName : Stmt := top 6
section
variable {P : Program} {w : World} {K : PySem.W.Frag} {mg : Str → Option Value} {base : Heap}
theorem ok_bag {f : Addr} {fd : FuncData} (F : Fun K "_law_bag" "_law_bag" sBag f fd) (G : Glb mg) : FnOk P w K mg base CX0 1 f fd ["_law_script", "_law_at"] (spBag K) := by
  refine F.ok scBag (fun vs H Q E h => ?_) (fun cdv A outer s H vs Q E hr h => ?_)
  · obtain ⟨a, ns, i, rfl, _⟩ := h
    rfl
  · obtain ⟨a, ns, i, rfl, hS, i0, i1, k⟩ := h
    refine ⟨_, pss_cons (ps_set (i := 2) scBag.nd rfl (Or.inl rfl) (pe_op op_add (pe_op op_add (pe_op op_mul (pe_op op_mul pe_int (pv 1)) (pv 1)) (pe_op op_mul pe_int (pv 1))) pe_int))
      (C8.pss_cut (ps_if (pt_cmpR op_lt (pv 1) (pe_callB call_len_seq (by rfl) G.len PySem.boot_len (pa_cons (pv 0) pa_nil)) (nomark _)) (pss_one (ps_set (i := 2) scBag.nd rfl (Or.inl rfl) (pe_ix ix_list (pv 0) (pv 1) (fun _ _ => rfl)))) pss_nil)
      (pss_cons (ps_set (i := 3) scBag.nd rfl (Or.inl rfl) (pe_callB call_abs (by rfl) G.abs (by decide +kernel) (pa_cons (pv 2) pa_nil)))
      (pss_one (ps_ret (pe_lst (pa_cons (pe_op op_mul (pv 3) (pe_callTy call_int1 (by rfl) G.int (by decide +kernel) (pa_cons (pe_cmpR op_ge (pv 3) (pe_op op_pow pe_int pe_int) (nomark _)) pa_nil)))
        (pa_cons (pe_op op_add (pe_op op_mod (pv 2) (pe_op op_add (pe_op op_pow pe_int pe_int) pe_int)) (pe_op op_mul pe_int (pv 1))) (pa_cons pe_int pa_nil)))))))), ?_⟩
    refine ⟨_, rfl, _, _, rfl, rfl, .inl ⟨by decide, by decide⟩, _, rfl, _, _, rfl, rfl, .inr ⟨by omega, by omega⟩, _, rfl, _, _, rfl, rfl, .inl ⟨by decide, by decide⟩, _, _, rfl, rfl, _, _, rfl, rfl, ?_⟩
    refine ⟨fun σ H' => H' = H ∧ ∃ c : Int, σ = [some (.ref a), some (.int i), some (.int c), none], ?_, ?_⟩
    · refine ⟨_, rfl, _, rfl, a, _, rfl, .inl hS, _, _, rfl, rfl, _, rfl, ?_⟩
      refine ite2 (fun h => ?_) (fun _ => ?_)
      · have hlt : i < ((ns.map V.int).length : Int) := of_decide_eq_true h
        obtain ⟨v, e1, _, hm⟩ := atI_in (xs := ns.map V.int) i0 hlt
        obtain ⟨c, _, rfl⟩ := List.mem_map.mp hm
        exact ⟨_, rfl, _, rfl, a, _, _, _, rfl, rfl, hS, e1, rfl, c, rfl⟩
      · exact ⟨rfl, _, rfl⟩
    · rintro σ H' ⟨rfl, c, rfl⟩
      refine ⟨_, rfl, _, rfl, ?_⟩
      have e18 : (10 : Int) ^ (18 : Int).toNat = 1000000000000000000 := by decide
      have p18 : CPow 10 18 := ⟨by decide, by decide, by decide⟩
      refine ⟨_, rfl, _, rfl, _, _, rfl, rfl, p18, _, _, rfl, rfl, .inr ⟨_, rfl, _, _, rfl, rfl, b01, ?_⟩⟩
      refine ⟨_, rfl, _, _, rfl, rfl, p18, _, _, rfl, rfl, _, _, rfl, rfl, (by show (0 : Int) < 10 ^ (18 : Int).toNat + 9; rw [e18]; decide), _, rfl, _, _, rfl, rfl, .inl ⟨by decide, by decide⟩, _, _, rfl, rfl, ?_⟩
      refine ⟨(by show 3 ≤ sizeLine; decide), fun p hp => ?_⟩
      have m0 : 0 ≤ c % (10 ^ (18 : Int).toNat + 9) := Int.emod_nonneg _ (by rw [e18]; decide)
      have m1 : c % (10 ^ (18 : Int).toNat + 9) < 10 ^ (18 : Int).toNat + 9 := Int.emod_lt_of_pos _ (by rw [e18]; decide)
      rw [e18] at m0 m1
      refine k p _ (fun b o eb => by rw [upd_ne (ne_of_none eb hp)]; exact eb) hp ⟨_, _, 0, upd_same, ?_, ?_, by omega, by omega⟩
      · rw [e18]; omega
      · rw [e18]; omega
theorem scName : FnScope ["_law_bag_here", "_law_letters", "_law_size", "_law_spot"] ["_law_bag_here"] (defScope sName) := ⟨rfl, rfl, rfl, by decide +kernel, rfl, by decide +kernel, by decide +kernel⟩
theorem ok_name {f : Addr} {fd : FuncData} (F : Fun K "_law_drawn_name" "_law_drawn_name" sName f fd) (G : Glb mg) (DT : Has P w K mg base "_law_take" 1 ["_law_bag_here", "_law_size"] spTake) : FnOk P w K mg base CX0 2 f fd ["_law_bag_here"] spName := by
  refine F.ok scName (fun vs H Q E h => ?_) (fun cdv A outer s H vs Q E hr h => ?_)
  · obtain ⟨b, n, rfl, _⟩ := h
    rfl
  · obtain ⟨b, n, rfl, hB, hn, k⟩ := h
    have hn' : n + 10 ≤ 1000000 := hn
    refine ⟨_, pss_cons (ps_set (i := 1) scName.nd rfl (Or.inr rfl) pe_str)
      (pss_cons (ps_set (i := 2) scName.nd rfl (Or.inl rfl) (pe_op op_add pe_int (pe_has DT hr rfl (pa_cons (pv 0) (pa_cons (pe_mid (pe_ix ix_list (pe_lst (pa_cons pe_int (pa_cons pe_int pa_nil)))
          (pe_callTy call_int1 (by rfl) G.int (by decide +kernel) (pa_cons (pe_cmpR op_eq (pe_has DT hr rfl (pa_cons (pv 0) (pa_cons pe_int pa_nil))) pe_int (nomark _)) pa_nil)) (fun _ _ => rfl))) pa_nil)))))
      (pss_one (ps_ret (pe_join pe_str (pe_lc (own := [("_law_spot", 3)]) (g := gName 3) (tt := tYes) rfl scName.nd (pi_range1 rfl G.range (pa_cons (pv 2) pa_nil)) (blkOk_by (N := ["_law_bag_here", "_law_letters", "_law_size", "_law_spot"]) (sc := defScope sName) (by decide +kernel))
        (fun _ _ _ _ _ => pg_name (i := 3) scName.nd rfl (Or.inl rfl)) (fun _ _ _ _ _ => pts_nil)
        (fun _ _ _ _ _ => pe_ix ix_str (pv 1) (pe_has DT hr rfl (pa_cons (pv 0) (pa_cons pe_int pa_nil))) (fun _ _ => rfl))))))), ?_⟩
    refine ⟨_, rfl, fun v H1 => ∃ m : Int, v = .int m ∧ (m = 2 ∨ m = 8) ∧ Kp b H H1 ∧ Bag H1 b (n + 1), ?_, ?_⟩
    · refine ⟨by decide, fun p hp => ?_⟩
      refine ⟨_, rfl, b, 4, n, rfl, by decide, by decide, hB.new hp, by show n ≤ 1000000; omega, fun d H1 d0 d1 K1 B1 => ?_⟩
      have npb : p ≠ b := fun e => by
        obtain ⟨o, ho⟩ := hB.at
        rw [e, ho] at hp
        cases hp
      have hp1 : H1 p = some (.lst [.int 2, .int 8]) := K1 p _ npb upd_same
      refine ⟨rfl, .inr ⟨_, rfl, ?_⟩⟩
      have kp0 : Kp b H H1 := (Kp.refl.new hp).trans K1
      cases decide (V.int d = V.int 0) with
      | true => exact ⟨p, _, _, _, rfl, rfl, SqL.of hp1, rfl, 8, rfl, .inr rfl, kp0, B1⟩
      | false => exact ⟨p, _, _, _, rfl, rfl, SqL.of hp1, rfl, 2, rfl, .inl rfl, kp0, B1⟩
    · rintro v H1 ⟨m, rfl, hm, K1, B1⟩
      refine ⟨b, m, n + 1, rfl, by omega, by omega, B1, by show n + 1 ≤ 1000000; omega, fun d H2 d0 d1 K2 B2 => ?_⟩
      refine ⟨_, _, rfl, rfl, ?_⟩
      have hd9 : 1 + d ≤ 8 := by omega
      have hd0 : (1 + d).toNat = (1 + d) := by omega
      refine ⟨⟨_, rfl⟩, _, rfl, 1 + d, rfl, by omega, by omega, fun D hD => ?_⟩
      refine lc_range (lo := 0) (n := (1 + d).toNat) (fun i H3 => Kp b H H3 ∧ Bag H3 b (n + 2 + i) ∧ D ≠ b ∧ ∃ cs : List Nat, H3 D = some (.lst ((cs.map one).map V.str)) ∧ cs.length = i ∧ ∀ c ∈ cs, Lt c) ?_ ?_ ?_
      · have nDb : D ≠ b := fun e => by
          obtain ⟨o, ho⟩ := B2.at
          rw [e, ho] at hD
          cases hD
        exact ⟨(K1.trans K2).new hD, B2.new hD, nDb, [], upd_same, rfl, fun c h => nomatch h⟩
      · rintro i H3 hi ⟨K3, B3, nDb, cs, hD3, hl, hc⟩
        refine ⟨rfl, ?_⟩
        refine yes (iteT ?_)
        refine ⟨_, rfl, _, rfl, b, 26, n + 2 + i, rfl, by decide, by decide, B3, by show n + 2 + i ≤ 1000000; omega, fun e H4 e0 e1 K4 B4 => ?_⟩
        obtain ⟨c, hce, hcl⟩ := abc_at e0 e1
        refine ⟨_, _, c, rfl, rfl, by decide +kernel, hce, ?_⟩
        have hD4 := K4 D _ nDb hD3
        have h8 : (1 + d).toNat ≤ 8 := by omega
        have hsz : ((cs.map one).map V.str).length < sizeLine := by
          rw [List.length_map, List.length_map, hl]
          exact Nat.lt_of_lt_of_le hi (Nat.le_trans h8 (by decide))
        refine ⟨_, hD4, hsz, ?_⟩
        refine ⟨(K3.trans K4).wr ?_, B4.ne nDb, nDb, cs ++ [c], ?_, by rw [List.length_append, hl]; rfl, ?_⟩
        · exact (K1.trans K2).free B2.at hD
        · rw [upd_same, List.map_append, List.map_append]; rfl
        · intro c' hc'
          rcases List.mem_append.mp hc' with h | h
          · exact hc c' h
          · rw [List.mem_singleton.mp h]; exact hcl
      · rintro H3 ⟨K3, B3, nDb, cs, hD3, hl, hc⟩
        refine ⟨_, _, _, rfl, rfl, .inl (SqL.of hD3), ?_, ?_⟩
        · rw [len_ones, List.length_map, hl]
          have : (1 + d).toNat ≤ 8 := by omega
          show _ + _ * 0 ≤ _
          omega
        · exact k _ _ (join_nm (by omega) (by omega) hc) K3 (B3.mono (by omega))
end
end Fh
set_option maxHeartbeats 4000000
namespace Fh
open PySem L2 PyProof.Rows
/-! ### lists of texts -/
theorem flat_strs (zs : List Str) : (zs.map V.str).all flatV = true := by
  rw [List.all_eq_true]
  intro x hx
  obtain ⟨z, _, rfl⟩ := List.mem_map.mp hx
  rfl
theorem in_strs (z : Str) (zs : List Str) : inV (.str z) (zs.map V.str) = decide (z ∈ zs) := by
  unfold inV
  induction zs with
  | nil => rfl
  | cons a r ih =>
    rw [List.map_cons, List.any_cons, ih]
    show ((a == z) || decide (z ∈ r)) = decide (z ∈ a :: r)
    by_cases h : a = z
    · subst h; simp
    · have h' : ¬ z = a := fun e => h e.symm
      simp [h, h']
theorem strs_ne_bag {H : Hp} {l b : Addr} {n : Nat} {zs : List Str} (hl : H l = some (.lst (zs.map V.str))) (hb : Bag H b n) : l ≠ b := by
  rintro rfl
  obtain ⟨x, y, z, e, _⟩ := hb
  rw [hl] at e
  cases zs with
  | nil => cases e
  | cons a r => cases e
theorem new_ne {H : Hp} {p b : Addr} {n : Nat} (hp : H p = none) (hb : Bag H b n) : p ≠ b := by
  rintro rfl
  obtain ⟨x, y, z, e, _⟩ := hb
  rw [hp] at e
  cases e
theorem sub_len {α : Type} [DecidableEq α] : ∀ (l u : List α), l.Nodup → (∀ x ∈ l, x ∈ u) → l.length ≤ u.length
  | [], _, _, _ => Nat.zero_le _
  | x :: r, u, hn, hs => by
    have hx : x ∈ u := hs x List.mem_cons_self
    obtain ⟨h1, h2⟩ := List.nodup_cons.mp hn
    have q := sub_len r (u.erase x) h2 fun y hy => (List.mem_erase_of_ne (fun (e : y = x) => h1 (e ▸ hy))).mpr (hs y (List.mem_cons_of_mem _ hy))
    rw [List.length_erase_of_mem hx] at q
    have := List.length_pos_of_mem hx
    simp only [List.length_cons]
    omega
theorem one_app_inj {c d : Nat} {t : Str} (h : one c ++ t = one d ++ t) : c = d := by
  have e : (one c ++ t).cps = (one d ++ t).cps := by rw [h]
  have e2 : ((one c).cps ++ t.cps).toList = ((one d).cps ++ t.cps).toList := by
    show (one c ++ t).cps.toList = _
    rw [e]
    rfl
  rw [Array.toList_append, Array.toList_append] at e2
  exact (List.cons.inj e2).1
def abcL : List Nat := [97, 98, 99, 100, 101, 102, 103, 104, 105, 106, 107, 108, 109, 110, 111, 112, 113, 114, 115, 116, 117, 118, 119, 120, 121, 122]
theorem abc_sz : abc.cps.size = 26 := by decide +kernel
theorem abcL_nodup : abcL.Nodup := by decide
theorem abcL_lt : ∀ c ∈ abcL, Lt c := by unfold Lt; decide
theorem fresh_tail (t : Str) (u : List Str) (hu : u.length < 26) : ∃ z ∈ abcL.map (fun c => one c ++ t), z ∉ u := by
  apply Classical.byContradiction
  intro h
  have hs : ∀ z ∈ abcL.map (fun c => one c ++ t), z ∈ u := fun z hz => Classical.byContradiction fun hn => h ⟨z, hz, hn⟩
  have hn : (abcL.map (fun c => one c ++ t)).Nodup := by
    refine List.Pairwise.map _ (fun c d hcd e => ?_) abcL_nodup
    exact hcd (one_app_inj e)
  have q := sub_len _ u hn hs
  rw [List.length_map] at q
  have : abcL.length = 26 := rfl
  omega
def tail7 (z : Str) : Str := cutS z (some 1) (some 7)
theorem tail7_nm {z : Str} (h : Nm z) : (tail7 z).length ≤ 6 ∧ ∀ c ∈ (tail7 z).cps.toList, Lt c := by
  have e : (tail7 z).cps.toList = (z.cps.toList.drop (HT.sIx z.length 0 (some 1))).take (HT.sIx z.length z.length (some 7) - HT.sIx z.length 0 (some 1)) := rfl
  have e1 : HT.sIx z.length 0 (some 1) = 1 := by
    have := HT.sIx_nat z.length 0 1
    rw [show ((1 : Nat) : Int) = 1 from rfl] at this
    rw [this]
    have := h.lo
    omega
  have e7 : HT.sIx z.length z.length (some 7) ≤ 7 := by
    have := HT.sIx_nat z.length z.length 7
    rw [show ((7 : Nat) : Int) = 7 from rfl] at this
    rw [this]
    omega
  refine ⟨?_, fun c hc => ?_⟩
  · show (tail7 z).cps.size ≤ 6
    rw [← Array.length_toList, e, List.length_take, e1]
    omega
  · rw [e] at hc
    exact h.sg c (List.mem_of_mem_drop (List.mem_of_mem_take hc))
theorem app_codes (a b : Str) : (a ++ b).cps.toList = a.cps.toList ++ b.cps.toList := by
  show (a.cps ++ b.cps).toList = _
  rw [Array.toList_append]
theorem app_len (a b : Str) : (a ++ b).length = a.length + b.length := by
  show (a.cps ++ b.cps).size = _
  rw [Array.size_append]
  rfl
theorem tails_nm {z t : Str} (h : Nm z) (ht : t ∈ abcL.map (fun c => one c ++ tail7 z) ++ abcL.map (fun c => (one c ++ "x") ++ tail7 z)) : Nm t := by
  obtain ⟨hl, hs⟩ := tail7_nm h
  have hone : ∀ c, (one c).length = 1 := fun _ => rfl
  have hx : ("x" : Str).length = 1 := by decide +kernel
  have hxc : ("x" : Str).cps.toList = [120] := by decide +kernel
  rcases List.mem_append.mp ht with h' | h'
  · obtain ⟨c, hc, rfl⟩ := List.mem_map.mp h'
    refine ⟨by rw [app_len, hone]; omega, by rw [app_len, hone]; omega, fun d hd => ?_⟩
    rw [app_codes] at hd
    rcases List.mem_append.mp hd with hd | hd
    · rw [List.mem_singleton.mp hd]; exact abcL_lt c hc
    · exact hs d hd
  · obtain ⟨c, hc, rfl⟩ := List.mem_map.mp h'
    refine ⟨by rw [app_len, app_len, hone]; omega, by rw [app_len, app_len, hone, hx]; omega, fun d hd => ?_⟩
    rw [app_codes, app_codes, hxc] at hd
    rcases List.mem_append.mp hd with hd | hd
    · rcases List.mem_append.mp hd with hd | hd
      · rw [List.mem_singleton.mp hd]; exact abcL_lt c hc
      · rw [List.mem_singleton.mp hd]; exact ⟨by decide, by decide⟩
    · exact hs d hd
/-! ### comprehensions that only read -/
theorem put_next {H1 : Hp} {D : Addr} {ys : List V} {i : Nat} {y : V} (h : ys[i]? = some y) : upd (upd H1 D (.lst (ys.take i))) D (.lst (ys.take i ++ [y])) = upd H1 D (.lst (ys.take (i + 1))) := by
  rw [upd_upd, List.take_succ, h]
  rfl
theorem take_sz {ys : List V} {i n : Nat} (hn : ys.length ≤ n) (hl : n < sizeLine) : (ys.take i).length < sizeLine := by
  rw [List.length_take]
  omega
theorem abcL_at {i : Nat} {c : Nat} (h : abc.cps[i]? = some c) : abcL[i]? = some c := by
  have e : abc.cps = abcL.toArray := by decide +kernel
  rw [e] at h
  simpa using h
def spUnlikeN : Sp := fun vs H Q _ => ∃ (b t : Addr) (size : Int) (tk : List Str) (n : Nat), vs = [.ref b, .int size, .ref t] ∧ Bag H b n ∧ 0 ≤ size ∧ size ≤ 12 ∧ H t = some (.lst (tk.map V.str)) ∧ tk.length ≤ 12 ∧ n + 200 ≤ most ∧
  ∀ (p : Addr) (zs : List Str) (H' : Hp), H p = none → H' p = some (.lst (zs.map V.str)) → (zs.length : Int) = size → zs.Nodup → (∀ z ∈ zs, Nm z ∧ z ∉ tk) → Kp b H H' → Bag H' b (n + 120) → Q (.ref p) H'
abbrev sUnlikeN : Stmt := top 7
abbrev nUnlikeN : List Str := ["_law_bag_here", "_law_size", "_law_taken", "_law_found", "_law_spot", "_law_word", "_law_used", "_law_tails", "_law_one"]
section
variable {P : Program} {w : World} {K : PySem.W.Frag} {mg : Str → Option Value} {base : Heap}
theorem scUnlikeN : FnScope nUnlikeN ["_law_bag_here", "_law_size", "_law_taken"] (defScope sUnlikeN) := ⟨rfl, rfl, rfl, by decide +kernel, rfl, by decide +kernel, by decide +kernel⟩
theorem ok_unlikeN {f : Addr} {fd : FuncData} (F : Fun K "_law_unlike_names" "_law_unlike_names" sUnlikeN f fd) (G : Glb mg) (DN : Has P w K mg base "_law_drawn_name" 2 ["_law_bag_here"] spName) : FnOk P w K mg base CX0 3 f fd ["_law_bag_here", "_law_size", "_law_taken"] spUnlikeN := by
  refine F.ok scUnlikeN (fun vs H Q E h => ?_) (fun cdv A outer s H vs Q E hr h => ?_)
  · obtain ⟨b, t, size, tk, n, rfl, _⟩ := h
    rfl
  · obtain ⟨b, t, size, tk, n, rfl, hB, s0, s1, ht, htl, hn, k⟩ := h
    have hn' : n + 200 ≤ 1000000 := hn
    have ntb : t ≠ b := strs_ne_bag ht hB
    refine ⟨_, pss_cons (ps_set (i := 3) scUnlikeN.nd rfl (Or.inl rfl) (pe_lst pa_nil))
      (pss_cons (ps_for PassesOwn.never rfl (pi_range1 rfl G.range (pa_cons (pv 1) pa_nil)) (pg_name (i := 4) scUnlikeN.nd rfl (Or.inl rfl))
        (pss_cons (ps_set (i := 5) scUnlikeN.nd rfl (Or.inr rfl) (pe_has DN hr rfl (pa_cons (pv 0) pa_nil)))
        (pss_cons (ps_set (i := 6) scUnlikeN.nd rfl (Or.inr rfl) (pe_op op_cat (pv 3) (pe_callTy call_list_of (by rfl) G.list (by decide +kernel) (pa_cons (pv 2) pa_nil))))
        (C8.pss_cut (ps_if (pt_cmpR op_in_seq (pv 5) (pv 6) rfl)
          (pss_cons (ps_setLc (i := 7) (own := [("_law_one", 8)]) (g := gName 8) (tt := tYes) rfl scUnlikeN.nd rfl rfl (sw_true rfl rfl rfl (by decide +kernel)) (pi_str pe_str) (blkOk_by (N := nUnlikeN) (sc := defScope sUnlikeN) (by decide +kernel))
            (fun _ _ _ _ _ => pg_name (i := 8) scUnlikeN.nd rfl (Or.inl rfl)) (fun _ _ _ _ _ => pts_nil)
            (fun _ _ _ _ _ => pe_op op_add_str (pv 8) (pe_slice sl_str (pv 5) (po_some pe_int) (po_some pe_int))))
          (pss_cons (ps_set (i := 7) scUnlikeN.nd rfl (Or.inl rfl) (pe_op op_cat (pv 7) (pe_lc (own := [("_law_one", 8)]) (g := gName 8) (tt := tYes) rfl scUnlikeN.nd (pi_str pe_str) (blkOk_by (N := nUnlikeN) (sc := defScope sUnlikeN) (by decide +kernel))
            (fun _ _ _ _ _ => pg_name (i := 8) scUnlikeN.nd rfl (Or.inl rfl)) (fun _ _ _ _ _ => pts_nil)
            (fun _ _ _ _ _ => pe_op op_add_str (pe_op op_add_str (pv 8) pe_str) (pe_slice sl_str (pv 5) (po_some pe_int) (po_some pe_int))))))
          (pss_one (ps_set (i := 5) scUnlikeN.nd rfl (Or.inr rfl) (pe_ix ix_list (pe_lc (own := [("_law_one", 8)]) (g := gName 8) (tt := tTest (tOp (rIn K true) (tVar 8) (tVar 6))) rfl scUnlikeN.nd (pi_list (pv 7)) (blkOk_by (N := nUnlikeN) (sc := defScope sUnlikeN) (by decide +kernel))
            (fun _ _ _ _ _ => pg_name (i := 8) scUnlikeN.nd rfl (Or.inl rfl)) (fun _ _ _ _ _ => pts_one (pt_cmpR op_notIn_seq (pv 8) (pv 6) rfl))
            (fun _ _ _ _ _ => pv 8)) pe_int (fun _ _ => rfl))))))
          pss_nil)
        (pss_one (ps_expr (pe_bm PySem.F.plainAttrs_list PySem.F.slot_list_append PySem.F.type_list_append mt_append (pv 3) (pa_cons (pv 5) pa_nil))))))))
      (pss_one (ps_ret (pv 3)))), ?_⟩
    refine ⟨by decide, fun p hp => ?_⟩
    have npb : p ≠ b := new_ne hp hB
    refine ⟨_, rfl, size, rfl, by omega, by omega, ?_⟩
    refine for_range (lo := 0) (n := size.toNat) (fun i σ H3 => (∃ a4 a5 a6 a7 a8, σ = [some (.ref b), some (.int size), some (.ref t), some (.ref p), a4, a5, a6, a7, a8]) ∧ Kp b H H3 ∧ Bag H3 b (n + 10 * i) ∧ ∃ zs : List Str, H3 p = some (.lst (zs.map V.str)) ∧ zs.length = i ∧ zs.Nodup ∧ ∀ z ∈ zs, Nm z ∧ z ∉ tk) ?_ ?_ ?_
    · exact ⟨⟨_, _, _, _, _, rfl⟩, Kp.refl.new hp, hB.new hp, [], upd_same, rfl, List.nodup_nil, fun z h => nomatch h⟩
    · rintro i σ H3 hi ⟨⟨a4, a5, a6, a7, a8, rfl⟩, K3, B3, zs, hp3, hl, hnd, hz⟩
      have hB3 : n + 10 * i + 10 ≤ 1000000 := by omega
      have hi12 : i < 12 := by omega
      refine ⟨_, rfl, b, n + 10 * i, rfl, B3, hB3, fun z H4 z4 K4 B4 => ?_⟩
      have K4' : Kp b H H4 := K3.trans K4
      have ht4 : H4 t = some (.lst (tk.map V.str)) := K4' t _ ntb ht
      have hp4 : H4 p = some (.lst (zs.map V.str)) := K4 p _ npb hp3
      refine ⟨_, rfl, _, rfl, t, _, rfl, .inl (SqL.of ht4), fun l hl4 => ?_⟩
      have npl : p ≠ l := ne_of_none hp4 hl4
      refine ⟨p, l, _, _, rfl, rfl, (by rw [upd_ne npl]; exact hp4), upd_same, ?_, fun u hu => ?_⟩
      · rw [List.length_map, List.length_map]
        exact Nat.le_trans (show zs.length + tk.length ≤ 24 by omega) (by decide)
      rw [← List.map_append]
      have K6 : Kp b H (upd (upd H4 l (.lst (tk.map V.str))) u (.lst ((zs ++ tk).map V.str))) := (K4'.new hl4).new hu
      have B6 : Bag (upd (upd H4 l (.lst (tk.map V.str))) u (.lst ((zs ++ tk).map V.str))) b (n + 10 * (i + 1)) := ((B4.new hl4).new hu).mono (by omega)
      have hu6 : (upd (upd H4 l (.lst (tk.map V.str))) u (.lst ((zs ++ tk).map V.str))) u = some (.lst ((zs ++ tk).map V.str)) := upd_same
      have hp6 : (upd (upd H4 l (.lst (tk.map V.str))) u (.lst ((zs ++ tk).map V.str))) p = some (.lst (zs.map V.str)) := by
        have hpl : (upd H4 l (.lst (tk.map V.str))) p = some (.lst (zs.map V.str)) := by rw [upd_ne npl]; exact hp4
        rw [upd_ne (ne_of_none hpl hu)]
        exact hpl
      generalize (upd (upd H4 l (.lst (tk.map V.str))) u (.lst ((zs ++ tk).map V.str))) = H6 at K6 B6 hu6 hp6
      refine ⟨fun σ H' => (∃ v a7 a8, σ = [some (.ref b), some (.int size), some (.ref t), some (.ref p), some (.int (0 + i)), some (.str v), some (.ref u), a7, a8] ∧ Nm v ∧ v ∉ zs ++ tk) ∧ Kp b H H' ∧ Bag H' b (n + 10 * (i + 1)) ∧ H' p = some (.lst (zs.map V.str)), ?_, ?_⟩
      · refine ⟨_, rfl, _, rfl, u, _, rfl, .inl (SqL.of hu6), rfl, flat_strs _, _, rfl, ?_⟩
        rw [in_strs]
        refine ite2 (fun _ => ?_) (fun hno => ?_)
        · refine ⟨_, rfl, fun D hD => ?_⟩
          have l1 : ∀ c, (one c).length + (tail7 z).length ≤ sizeLine := fun c => Nat.le_trans (show (one c).length + (tail7 z).length ≤ 8 by have := (tail7_nm z4).1; show 1 + _ ≤ 8; omega) (by decide)
          have l2 : ∀ c, (one c ++ "x").length + (tail7 z).length ≤ sizeLine := fun c => Nat.le_trans (show (one c ++ "x").length + (tail7 z).length ≤ 8 by have := (tail7_nm z4).1; rw [app_len]; show (1 + 1) + _ ≤ 8; omega) (by decide)
          have zL : z.length ≤ sizeLine := Nat.le_trans z4.hi (by decide)
          refine lc_it walk_str (fun j H7 => H7 = upd H6 D (.lst (((abcL.map fun c => one c ++ tail7 z).map V.str).take j))) rfl (fun _ _ _ _ => trivial) ?_ ?_
          · rintro j x H7 H8 hj rfl ⟨rfl, c, hc, rfl⟩
            have hj' := abcL_at hc
            refine ⟨rfl, yes (iteT ?_)⟩
            refine ⟨_, rfl, _, rfl, 1, rfl, 7, rfl, z, rfl, zL, _, _, rfl, rfl, l1 c, _, upd_same, take_sz (n := 26) (by simp [abcL]) (by decide), put_next ?_⟩
            rw [List.getElem?_map, List.getElem?_map, hj']
            rfl
          · rintro H7 rfl
            rw [abc_sz, List.take_of_length_le (show ((abcL.map fun c => one c ++ tail7 z).map V.str).length ≤ 26 by simp [abcL])]
            have hD7 : (upd H6 D (.lst ((abcL.map fun c => one c ++ tail7 z).map V.str))) D = some (.lst ((abcL.map fun c => one c ++ tail7 z).map V.str)) := upd_same
            have K7 : Kp b H (upd H6 D (.lst ((abcL.map fun c => one c ++ tail7 z).map V.str))) := K6.new hD
            have B7 := B6.new (o := (.lst ((abcL.map fun c => one c ++ tail7 z).map V.str))) hD
            have hu7 : (upd H6 D (.lst ((abcL.map fun c => one c ++ tail7 z).map V.str))) u = some (.lst ((zs ++ tk).map V.str)) := by rw [upd_ne (ne_of_none hu6 hD)]; exact hu6
            have hp7 : (upd H6 D (.lst ((abcL.map fun c => one c ++ tail7 z).map V.str))) p = some (.lst (zs.map V.str)) := by rw [upd_ne (ne_of_none hp6 hD)]; exact hp6
            generalize (upd H6 D (.lst ((abcL.map fun c => one c ++ tail7 z).map V.str))) = H7 at hD7 K7 B7 hu7 hp7
            refine ⟨_, rfl, _, rfl, fun D2 hD2 => ?_⟩
            refine lc_it walk_str (fun j H8 => H8 = upd H7 D2 (.lst (((abcL.map fun c => (one c ++ "x") ++ tail7 z).map V.str).take j))) rfl (fun _ _ _ _ => trivial) ?_ ?_
            · rintro j x H8 H9 hj rfl ⟨rfl, c, hc, rfl⟩
              have hj' := abcL_at hc
              refine ⟨rfl, yes (iteT ?_)⟩
              refine ⟨_, rfl, _, _, rfl, rfl, (by show 1 + 1 ≤ sizeLine; decide), _, rfl, 1, rfl, 7, rfl, z, rfl, zL, _, _, rfl, rfl, l2 c, _, upd_same, take_sz (n := 26) (by simp [abcL]) (by decide), put_next ?_⟩
              rw [List.getElem?_map, List.getElem?_map, hj']
              rfl
            · rintro H8 rfl
              rw [abc_sz, List.take_of_length_le (show ((abcL.map fun c => (one c ++ "x") ++ tail7 z).map V.str).length ≤ 26 by simp [abcL])]
              refine ⟨D, D2, _, _, rfl, rfl, (by rw [upd_ne (ne_of_none hD7 hD2)]; exact hD7), upd_same, (by simp [abcL]; decide), fun T hT => ?_⟩
              rw [← List.map_append]
              have nuT : u ≠ T := fun e => by
                rw [← e, upd_ne (ne_of_none hu7 hD2), hu7] at hT
                cases hT
              have npT : p ≠ T := fun e => by
                rw [← e, upd_ne (ne_of_none hp7 hD2), hp7] at hT
                cases hT
              generalize hts : (abcL.map fun c => one c ++ tail7 z) ++ (abcL.map fun c => (one c ++ "x") ++ tail7 z) = ts
              have hT9 : (upd (upd H7 D2 (.lst ((abcL.map fun c => (one c ++ "x") ++ tail7 z).map V.str))) T (.lst (ts.map V.str))) T = some (.lst (ts.map V.str)) := upd_same
              have K9 : Kp b H (upd (upd H7 D2 (.lst ((abcL.map fun c => (one c ++ "x") ++ tail7 z).map V.str))) T (.lst (ts.map V.str))) := (K7.new hD2).new hT
              have B9 : Bag (upd (upd H7 D2 (.lst ((abcL.map fun c => (one c ++ "x") ++ tail7 z).map V.str))) T (.lst (ts.map V.str))) b (n + 10 * (i + 1)) := (B7.new hD2).new hT
              have hu9 : (upd (upd H7 D2 (.lst ((abcL.map fun c => (one c ++ "x") ++ tail7 z).map V.str))) T (.lst (ts.map V.str))) u = some (.lst ((zs ++ tk).map V.str)) := by rw [upd_ne nuT, upd_ne (ne_of_none hu7 hD2)]; exact hu7
              have hp9 : (upd (upd H7 D2 (.lst ((abcL.map fun c => (one c ++ "x") ++ tail7 z).map V.str))) T (.lst (ts.map V.str))) p = some (.lst (zs.map V.str)) := by rw [upd_ne npT, upd_ne (ne_of_none hp7 hD2)]; exact hp7
              generalize (upd (upd H7 D2 (.lst ((abcL.map fun c => (one c ++ "x") ++ tail7 z).map V.str))) T (.lst (ts.map V.str))) = H9 at hT9 K9 B9 hu9 hp9
              have lts : ts.length = 52 := by rw [← hts]; simp [abcL]
              refine ⟨_, rfl, T, rfl, ⟨_, SqL.of hT9⟩, fun D3 hD3 => ?_⟩
              refine lc_it (walk_list (K := K) (a := T) (xs := ts.map V.str)) (fun j H10 => H10 = upd H9 D3 (.lst (((ts.take j).filter fun t => decide (t ∉ zs ++ tk)).map V.str))) rfl ?_ ?_ ?_
              · rintro j H10 _ rfl
                exact SqL.of (by rw [upd_ne (ne_of_none hT9 hD3)]; exact hT9)
              · rintro j x H10 H11 hj rfl ⟨rfl, hx⟩
                obtain ⟨y, hy, rfl⟩ : ∃ y, ts[j]? = some y ∧ x = V.str y := by
                  rw [List.getElem?_map] at hx
                  cases e : ts[j]? with
                  | none => rw [e] at hx; cases hx
                  | some y => rw [e] at hx; exact ⟨y, rfl, (Option.some.inj hx).symm⟩
                refine ⟨rfl, _, rfl, _, rfl, u, _, rfl, .inl (SqL.of (by rw [upd_ne (ne_of_none hu9 hD3)]; exact hu9)), rfl, flat_strs _, _, rfl, ?_⟩
                rw [in_strs]
                have tk1 : ts.take (j + 1) = ts.take j ++ [y] := by rw [List.take_succ, hy]; rfl
                refine ite2 (fun hin => ?_) (fun hin => ?_)
                · refine ⟨_, rfl, _, upd_same, ?_, ?_⟩
                  · refine Nat.lt_of_le_of_lt (show _ ≤ 52 from ?_) (by decide)
                    rw [List.length_map]
                    exact Nat.le_trans (List.length_filter_le _ _) (by rw [List.length_take]; omega)
                  · have hny : y ∉ zs ++ tk := fun e => by
                      rw [decide_eq_true e] at hin
                      cases hin
                    rw [upd_upd, tk1, List.filter_append, List.map_append]
                    have : ([y].filter fun t => decide (t ∉ zs ++ tk)) = [y] := List.filter_cons_of_pos (decide_eq_true hny)
                    rw [this]
                    rfl
                · have hyy : y ∈ zs ++ tk := Classical.byContradiction fun e => hin (by rw [decide_eq_false e]; rfl)
                  rw [tk1, List.filter_append]
                  have : ([y].filter fun t => decide (t ∉ zs ++ tk)) = [] := by
                    rw [List.filter_eq_nil_iff]
                    intro a ha
                    rw [List.mem_singleton.mp ha, decide_eq_true_eq]
                    exact fun h => h hyy
                  rw [this, List.append_nil]
              · rintro H10 rfl
                rw [show (ts.map V.str).length = ts.length from List.length_map _, List.take_length]
                obtain ⟨z', hz', hn'⟩ := fresh_tail (tail7 z) (zs ++ tk) (by rw [List.length_append]; omega)
                have hmem : z' ∈ ts.filter fun t => decide (t ∉ zs ++ tk) := List.mem_filter.mpr ⟨by rw [← hts]; exact List.mem_append_left _ hz', decide_eq_true hn'⟩
                cases hq : (ts.filter fun t => decide (t ∉ zs ++ tk)) with
                | nil => rw [hq] at hmem; cases hmem
                | cons v r =>
                  have hv : v ∈ ts.filter fun t => decide (t ∉ zs ++ tk) := by rw [hq]; exact List.mem_cons_self
                  obtain ⟨hv1, hv2⟩ := List.mem_filter.mp hv
                  refine ⟨D3, _, _, .str v, rfl, rfl, SqL.of upd_same, atI_nat (j := 0) rfl, ?_⟩
                  refine ⟨⟨v, _, _, rfl, tails_nm z4 (by rw [hts]; exact hv1), of_decide_eq_true hv2⟩, K9.new hD3, B9.new hD3, ?_⟩
                  rw [upd_ne (ne_of_none hp9 hD3)]
                  exact hp9
        · have hno' : z ∉ zs ++ tk := fun e => hno (decide_eq_true e)
          exact ⟨⟨z, _, _, rfl, z4, hno'⟩, K6, B6, hp6⟩
      · rintro σ H7 ⟨⟨v, a7, a8, rfl, nv, hv⟩, K7, B7, hp7⟩
        have hvz : v ∉ zs := fun e => hv (List.mem_append_left _ e)
        have hvt : v ∉ tk := fun e => hv (List.mem_append_right _ e)
        refine ⟨_, rfl, .inl ⟨rfl, _, SqL.of hp7⟩, _, rfl, p, _, _, rfl, rfl, hp7, ?_, ?_⟩
        · rw [List.length_map, hl]
          exact Nat.lt_trans hi12 (by decide)
        · refine ⟨⟨_, _, _, _, _, rfl⟩, K7.wr hp, B7.ne npb, zs ++ [v], ?_, by rw [List.length_append, hl]; rfl, ?_, ?_⟩
          · rw [upd_same, List.map_append]; rfl
          · rw [List.nodup_append]
            refine ⟨hnd, List.nodup_cons.mpr ⟨fun h => (nomatch h), List.nodup_nil⟩, fun a ha c hc e => ?_⟩
            rw [List.mem_singleton.mp hc] at e
            exact hvz (e ▸ ha)
          · intro z' hz'
            rcases List.mem_append.mp hz' with h | h
            · exact hz z' h
            · rw [List.mem_singleton.mp h]
              exact ⟨nv, hvt⟩
    · rintro σ H3 ⟨⟨a4, a5, a6, a7, a8, rfl⟩, K3, B3, zs, hp3, hl, hnd, hz⟩
      exact ⟨_, rfl, k p zs H3 hp hp3 (by omega) hnd hz K3 (B3.mono (by omega))⟩
end
end Fh
set_option maxHeartbeats 4000000
namespace Fh
open PySem L2 PyProof.Rows
/-! ### data in tuples -/
mutual
inductive Tp (H : Hp) : V → PyData → Prop
  | int (i : Int) : Tp H (.int i) (.int i)
  | str (x : Str) : Tp H (.str x) (.str x)
  | tup {a : Addr} {xs : List V} {ds : List PyData} : H a = some (.tup xs) → TpAll H xs ds → Tp H (.ref a) (.tuple ds)
inductive TpAll (H : Hp) : List V → List PyData → Prop
  | nil : TpAll H [] []
  | cons {v : V} {vs : List V} {d : PyData} {ds : List PyData} : Tp H v d → TpAll H vs ds → TpAll H (v :: vs) (d :: ds)
end
/-- tuples stay -/
def Tk (H H' : Hp) : Prop := ∀ a xs, H a = some (.tup xs) → H' a = some (.tup xs)
mutual
theorem Tp.keep {H H' : Hp} (t : Tk H H') : ∀ (d : PyData) (v : V), Tp H v d → Tp H' v d
  | .none, _, h => by cases h
  | .bool _, _, h => by cases h
  | .int i, _, h => by cases h; exact .int i
  | .str x, _, h => by cases h; exact .str x
  | .list _, _, h => by cases h
  | .dict _, _, h => by cases h
  | .tuple ds, _, h => by
    cases h with
    | tup e q => exact .tup (t _ _ e) (TpAll.keep t ds _ q)
theorem TpAll.keep {H H' : Hp} (t : Tk H H') : ∀ (ds : List PyData) (vs : List V), TpAll H vs ds → TpAll H' vs ds
  | [], _, h => by cases h; exact .nil
  | d :: ds, _, h => by
    cases h with
    | cons a q => exact .cons (Tp.keep t d _ a) (TpAll.keep t ds _ q)
end
mutual
theorem Tp.dp {K : PySem.W.Frag} {H : Hp} : ∀ (d : PyData) (v : V), Tp H v d → Dp K H v d
  | .none, _, h => by cases h
  | .bool _, _, h => by cases h
  | .int i, _, h => by cases h; exact .int i
  | .str x, _, h => by cases h; exact .str x
  | .list _, _, h => by cases h
  | .dict _, _, h => by cases h
  | .tuple ds, _, h => by
    cases h with
    | tup e q => exact .tup (SqT.of e) (TpAll.dp ds _ q)
theorem TpAll.dp {K : PySem.W.Frag} {H : Hp} : ∀ (ds : List PyData) (vs : List V), TpAll H vs ds → DpAll K H vs ds
  | [], _, h => by cases h; exact .nil
  | d :: ds, _, h => by
    cases h with
    | cons a q => exact .cons (Tp.dp d _ a) (TpAll.dp ds _ q)
end
theorem Kp.tk {b : Addr} {H H' : Hp} {n : Nat} (k : Kp b H H') (hb : Bag H b n) : Tk H H' := fun a xs h => k a _ (fun e => by
  obtain ⟨x, y, z, e2, _⟩ := hb
  rw [← e, h] at e2
  cases e2) h
theorem Tk.refl {H : Hp} : Tk H H := fun _ _ h => h
theorem Tk.trans {H H1 H2 : Hp} (a : Tk H H1) (b : Tk H1 H2) : Tk H H2 := fun c xs h => b c xs (a c xs h)
theorem Same.tk {H H' : Hp} (s : Same H H') : Tk H H' := fun a xs h => s a _ h
theorem Tk.new {H : Hp} {p : Addr} {o : HO} (h : H p = none) : Tk H (upd H p o) := fun a xs e => by rw [upd_ne (ne_of_none e h)]; exact e
theorem Tk.wr {H : Hp} {p : Addr} {ys : List V} {o : HO} (h : H p = some (.lst ys)) : Tk H (upd H p o) := fun a xs e => by
  rw [upd_ne (fun q => by rw [q, h] at e; cases e)]
  exact e
theorem TpAll.length {H : Hp} : ∀ {vs : List V} {ds : List PyData}, TpAll H vs ds → vs.length = ds.length
  | _, _, .nil => rfl
  | _, _, .cons _ q => by simp [TpAll.length q]
theorem TpAll.get {H : Hp} : ∀ {vs : List V} {ds : List PyData} {i : Nat} {d : PyData}, TpAll H vs ds → ds[i]? = some d → ∃ v, vs[i]? = some v ∧ Tp H v d
  | _, _, _, _, .nil, e => by simp at e
  | _, _, 0, _, .cons a _, e => by simp at e; subst e; exact ⟨_, rfl, a⟩
  | _, _, i + 1, d, .cons _ q, e => by
    obtain ⟨v, h1, h2⟩ := TpAll.get (i := i) (d := d) q (by simpa using e)
    exact ⟨v, by simpa using h1, h2⟩
theorem TpAll.get' {H : Hp} : ∀ {vs : List V} {ds : List PyData} {i : Nat} {v : V}, TpAll H vs ds → vs[i]? = some v → ∃ d, ds[i]? = some d ∧ Tp H v d
  | _, _, _, _, .nil, e => by simp at e
  | _, _, 0, _, .cons a _, e => by simp at e; subst e; exact ⟨_, rfl, a⟩
  | _, _, i + 1, v, .cons _ q, e => by
    obtain ⟨d, h1, h2⟩ := TpAll.get' (i := i) (v := v) q (by simpa using e)
    exact ⟨d, by simpa using h1, h2⟩
theorem TpAll.app {H : Hp} : ∀ {vs ws : List V} {ds es : List PyData}, TpAll H vs ds → TpAll H ws es → TpAll H (vs ++ ws) (ds ++ es)
  | _, _, _, _, .nil, s => s
  | _, _, _, _, .cons a q, s => .cons a (TpAll.app q s)
theorem TpAll.one {H : Hp} {v : V} {d : PyData} (h : Tp H v d) : TpAll H [v] [d] := .cons h .nil
theorem TpAll.strs {H : Hp} : ∀ zs : List Str, TpAll H (zs.map V.str) (zs.map PyData.str)
  | [] => .nil
  | z :: r => .cons (.str z) (TpAll.strs r)
theorem Tp.inv {H : Hp} {v : V} {ds : List PyData} (h : Tp H v (.tuple ds)) : ∃ a xs, v = .ref a ∧ H a = some (.tup xs) ∧ TpAll H xs ds := by
  cases h with
  | tup e q => exact ⟨_, _, rfl, e, q⟩
theorem Tp.istr {H : Hp} {v : V} {z : Str} (h : Tp H v (.str z)) : v = .str z := by cases h; rfl
theorem Tp.iint {H : Hp} {v : V} {i : Int} (h : Tp H v (.int i)) : v = .int i := by cases h; rfl
theorem TpAll.icons {H : Hp} {vs : List V} {d : PyData} {ds : List PyData} (h : TpAll H vs (d :: ds)) : ∃ v r, vs = v :: r ∧ Tp H v d ∧ TpAll H r ds := by
  cases h with
  | cons a q => exact ⟨_, _, rfl, a, q⟩
theorem TpAll.inil {H : Hp} {vs : List V} (h : TpAll H vs []) : vs = [] := by cases h; rfl
/-! ### shaped data -/
def Sh (n : Nat) (d : PyData) : Prop := d.canLay0 = true ∧ d.depth ≤ n
theorem strOk_of {z : Str} (h : ∀ c ∈ z.cps.toList, c < 0x110000) : PyData.canLay0 (.str z) = true := by
  show PyData.strOk z = true
  unfold PyData.strOk
  rw [Array.all_eq_true_iff_forall_mem]
  intro c hc
  exact decide_eq_true (h c (by simpa using hc))
theorem Nm.ok {z : Str} (h : Nm z) : Sh 0 (.str z) := ⟨strOk_of fun c hc => by have := (h.sg c hc).2; omega, Nat.le_refl _⟩
theorem Sh.int {n : Nat} (i : Int) : Sh n (.int i) := ⟨rfl, Nat.zero_le _⟩
theorem Sh.mono {n m : Nat} {d : PyData} (h : Sh n d) (hm : n ≤ m) : Sh m d := ⟨h.1, Nat.le_trans h.2 hm⟩
theorem lay_all : ∀ ds : List PyData, (∀ d ∈ ds, d.canLay0 = true) → PyData.canLayAll0 ds = true
  | [], _ => rfl
  | d :: r, h => by
    show (PyData.canLay0 d && PyData.canLayAll0 r) = true
    rw [h d List.mem_cons_self, lay_all r fun e he => h e (List.mem_cons_of_mem _ he)]
    rfl
theorem depth_all {n : Nat} : ∀ ds : List PyData, (∀ d ∈ ds, d.depth ≤ n) → PyData.depthAll ds ≤ n
  | [], _ => Nat.zero_le _
  | d :: r, h => by
    show max (PyData.depth d) (PyData.depthAll r) ≤ n
    exact Nat.max_le.mpr ⟨h d List.mem_cons_self, depth_all r fun e he => h e (List.mem_cons_of_mem _ he)⟩
theorem Sh.tup {n : Nat} {ds : List PyData} (h : ∀ d ∈ ds, Sh n d) : Sh (n + 1) (.tuple ds) :=
  ⟨lay_all ds fun d hd => (h d hd).1, Nat.succ_le_succ (depth_all ds fun d hd => (h d hd).2)⟩
theorem Sh.lst {n : Nat} {ds : List PyData} (h : ∀ d ∈ ds, Sh n d) : Sh (n + 1) (.list ds) :=
  ⟨lay_all ds fun d hd => (h d hd).1, Nat.succ_le_succ (depth_all ds fun d hd => (h d hd).2)⟩
theorem Sh.shaped {n : Nat} {d : PyData} (h : Sh n d) (hn : n ≤ 64) : SeqAt.shaped d = true := by
  unfold SeqAt.shaped
  rw [h.1, decide_eq_true (Nat.le_trans h.2 hn)]
  rfl
/-! ### lists of data as python sees them -/
theorem Dp.strs {K : PySem.W.Frag} {H : Hp} : ∀ zs : List Str, DpAll K H (zs.map V.str) (zs.map PyData.str)
  | [] => .nil
  | z :: r => .cons (.str z) (Dp.strs r)
/-! ### rising numbers -/
def spRising : Sp := fun vs H Q _ => ∃ (b : Addr) (size top : Int) (n : Nat), vs = [.ref b, .int size, .int top] ∧ Bag H b n ∧ 0 ≤ size ∧ size ≤ top ∧ top ≤ 30 ∧ n + 100 ≤ most ∧
  ∀ (p : Addr) (ns : List Int) (H' : Hp), H p = none → H' p = some (.lst (ns.map V.int)) → (ns.length : Int) = size → ns.Pairwise (· < ·) → (∀ x ∈ ns, 1 ≤ x ∧ x ≤ top) → Kp b H H' → Bag H' b (n + 60) → Q (.ref p) H'
abbrev sRising : Stmt := top 8
abbrev nRising : List Str := ["_law_bag_here", "_law_size", "_law_most", "_law_found", "_law_last", "_law_spot", "_law_wide"]
abbrev pTake : List Str := ["_law_bag_here", "_law_size"]
section
variable {P : Program} {w : World} {K : PySem.W.Frag} {mg : Str → Option Value} {base : Heap}
theorem scRising : FnScope nRising ["_law_bag_here", "_law_size", "_law_most"] (defScope sRising) := ⟨rfl, rfl, rfl, by decide +kernel, rfl, by decide +kernel, by decide +kernel⟩
theorem ok_rising {f : Addr} {fd : FuncData} (F : Fun K "_law_rising" "_law_rising" sRising f fd) (G : Glb mg) (DT : Has P w K mg base "_law_take" 1 pTake spTake) : FnOk P w K mg base CX0 2 f fd ["_law_bag_here", "_law_size", "_law_most"] spRising := by
  refine F.ok scRising (fun vs H Q E h => ?_) (fun cdv A outer s H vs Q E hr h => ?_)
  · obtain ⟨b, size, tp, n, rfl, _⟩ := h
    rfl
  · obtain ⟨b, size, tp, n, rfl, hB, s0, s1, s2, hn, k⟩ := h
    have hn' : n + 100 ≤ 1000000 := hn
    refine ⟨_, pss_cons (ps_par (i := 3) (j := 4) rfl scRising.nd rfl rfl (by decide) rfl rfl (pa_cons (pe_lst pa_nil) (pa_cons pe_int pa_nil)) (by rfl))
      (pss_cons (ps_for PassesOwn.never rfl (pi_range1 rfl G.range (pa_cons (pv 1) pa_nil)) (pg_name (i := 5) scRising.nd rfl (Or.inl rfl))
        (pss_cons (ps_set (i := 6) scRising.nd rfl (Or.inl rfl) (pe_op op_sub (pe_op op_sub (pv 2) (pv 4)) (pe_op op_sub (pe_op op_sub (pv 1) (pv 5)) pe_int)))
        (pss_cons (ps_set (i := 4) scRising.nd rfl (Or.inl rfl) (pe_op op_add (pe_op op_add (pv 4) pe_int) (pe_has DT hr rfl (pa_cons (pv 0) (pa_cons (pe_mid (pe_ix ix_list (pe_lst (pa_cons (pv 6) (pa_cons (pe_callB (call_min2 rfl) (by rfl) G.min (by decide +kernel) (pa_cons (pv 6) (pa_cons pe_int pa_nil))) pa_nil)))
            (pe_has DT hr rfl (pa_cons (pv 0) (pa_cons pe_int pa_nil))) (fun _ _ => rfl))) pa_nil)))))
        (pss_one (ps_expr (pe_bm PySem.F.plainAttrs_list PySem.F.slot_list_append PySem.F.type_list_append mt_append (pv 3) (pa_cons (pv 4) pa_nil)))))))
      (pss_one (ps_ret (pv 3)))), ?_⟩
    refine ⟨Nat.zero_le _, fun p hp => ⟨_, _, rfl, ?_⟩⟩
    have npb : p ≠ b := new_ne hp hB
    refine ⟨_, rfl, size, rfl, by omega, by omega, ?_⟩
    refine for_range (lo := 0) (n := size.toNat) (fun i σ H3 => ∃ (L : Int) (ns : List Int), (∃ a5 a6, σ = [some (.ref b), some (.int size), some (.int tp), some (.ref p), some (.int L), a5, a6]) ∧ Kp b H H3 ∧ Bag H3 b (n + 2 * i) ∧ H3 p = some (.lst (ns.map V.int)) ∧ ns.length = i ∧ ns.Pairwise (· < ·) ∧ (∀ x ∈ ns, 1 ≤ x ∧ x ≤ L) ∧ 0 ≤ L ∧ L + (size - i) ≤ tp) ?_ ?_ ?_
    · exact ⟨0, [], ⟨_, _, rfl⟩, Kp.refl.new hp, hB.new hp, upd_same, rfl, .nil, (fun x h => by cases h), by omega, by omega⟩
    · rintro i σ H3 hi ⟨L, ns, ⟨a5, a6, rfl⟩, K3, B3, hp3, hl, hpw, hx, L0, L1⟩
      refine ⟨_, rfl, _, rfl, _, _, rfl, rfl, _, rfl, _, rfl, _, _, rfl, rfl, _, _, rfl, rfl, _, _, rfl, rfl, ?_⟩
      have w1 : 1 ≤ tp - L - (size - (0 + (i : Int)) - 1) := by omega
      refine ⟨_, rfl, _, _, rfl, rfl, _, rfl, fun v H4 => ∃ m : Int, v = .int m ∧ 1 ≤ m ∧ m ≤ tp - L - (size - (0 + (i : Int)) - 1) ∧ Kp b H3 H4 ∧ Bag H4 b (n + 2 * i + 1), ?_, ?_⟩
      · refine ⟨_, rfl, _, rfl, _, _, rfl, (by show 2 ≤ sizeLine; decide), fun q hq => ?_⟩
        refine ⟨_, rfl, b, 2, n + 2 * i, rfl, by decide, by decide, B3.new hq, by show _ ≤ 1000000; omega, fun d H4 d0 d1 K4 B4 => ?_⟩
        have nqb : q ≠ b := new_ne hq B3
        have hq4 := K4 q _ nqb upd_same
        have kp4 : Kp b H3 H4 := (Kp.refl.new hq).trans K4
        have hd : d = 0 ∨ d = 1 := by omega
        rcases hd with rfl | rfl
        · exact ⟨q, _, _, _, rfl, rfl, SqL.of hq4, rfl, _, rfl, w1, Int.le_refl _, kp4, B4⟩
        · exact ⟨q, _, _, _, rfl, rfl, SqL.of hq4, rfl, _, rfl, by split <;> omega, by split <;> omega, kp4, B4⟩
      · rintro v H4 ⟨m, rfl, m1, m2, K4, B4⟩
        refine ⟨b, m, _, rfl, by omega, by omega, B4, by show _ ≤ 1000000; omega, fun d H5 d0 d1 K5 B5 => ?_⟩
        refine ⟨_, _, rfl, rfl, ?_⟩
        have hp5 : H5 p = some (.lst (ns.map V.int)) := K5 p _ npb (K4 p _ npb hp3)
        refine ⟨_, rfl, .inl ⟨rfl, _, SqL.of hp5⟩, _, rfl, p, _, _, rfl, rfl, hp5, ?_, ?_⟩
        · rw [List.length_map, hl]
          exact Nat.lt_trans (show i < 31 by omega) (by decide)
        · refine ⟨L + 1 + d, ns ++ [L + 1 + d], ⟨_, _, rfl⟩, ((K3.trans K4).trans K5).wr hp, (B5.mono (by omega)).ne npb, ?_, by rw [List.length_append, hl]; rfl, ?_, ?_, by omega, by omega⟩
          · rw [upd_same, List.map_append]; rfl
          · rw [List.pairwise_append]
            refine ⟨hpw, List.pairwise_singleton _ _, fun x hx' y hy => ?_⟩
            rw [List.mem_singleton.mp hy]
            have := (hx x hx').2
            omega
          · intro x hx'
            rcases List.mem_append.mp hx' with h | h
            · have := hx x h
              omega
            · rw [List.mem_singleton.mp h]
              omega
    · rintro σ H3 ⟨L, ns, ⟨a5, a6, rfl⟩, K3, B3, hp3, hl, hpw, hx, L0, L1⟩
      exact ⟨_, rfl, k p ns H3 hp hp3 (by omega) hpw (fun x h => by have := hx x h; omega) K3 (B3.mono (by omega))⟩
end
/-! ### a pick -/
def spPick : Sp := fun vs H Q _ => ∃ (b l : Addr) (s : Str) (ns : List Str) (n : Nat), vs = [.ref b, .ref l, .str s] ∧ Bag H b n ∧ H l = some (.lst (ns.map V.str)) ∧ ns.length ≤ 100 ∧ (∀ z ∈ ns, Nm z) ∧ n + 2 ≤ most ∧
  ∀ (z : Str) (H' : Hp), (z ∈ ns ∨ z = s) → Kp b H H' → Bag H' b (n + 2) → Q (.str z) H'
abbrev sPick : Stmt := top 9
section
variable {P : Program} {w : World} {K : PySem.W.Frag} {mg : Str → Option Value} {base : Heap}
theorem scPick : FnScope ["_law_bag_here", "_law_pool", "_law_strange", "_law_some"] ["_law_bag_here", "_law_pool", "_law_strange"] (defScope sPick) := ⟨rfl, rfl, rfl, by decide +kernel, rfl, by decide +kernel, by decide +kernel⟩
theorem eqv_nil (ns : List Str) : PyData.eqv (.list (ns.map PyData.str)) (.list []) = decide (ns = []) := by
  cases ns with
  | nil => rfl
  | cons a r => rfl
theorem ok_pick {f : Addr} {fd : FuncData} (F : Fun K "_law_pick" "_law_pick" sPick f fd) (G : Glb mg) (DT : Has P w K mg base "_law_take" 1 pTake spTake) : FnOk P w K mg base CX0 2 f fd ["_law_bag_here", "_law_pool", "_law_strange"] spPick := by
  refine F.ok scPick (fun vs H Q E h => ?_) (fun cdv A outer s H vs Q E hr h => ?_)
  · obtain ⟨b, l, s, ns, n, rfl, _⟩ := h
    rfl
  · obtain ⟨b, l, sg, ns, n, rfl, hB, hl, hlen, hnm, hn, k⟩ := h
    have hn' : n + 2 ≤ 1000000 := hn
    have nlb : l ≠ b := strs_ne_bag hl hB
    refine ⟨_, pss_cons (ps_set (i := 3) scPick.nd rfl (Or.inl rfl) (pe_mid (pe_ix ix_list (pe_lst (pa_cons (pv 1) (pa_cons (pe_op op_cat (pv 1) (pe_lst (pa_cons (pv 2) pa_nil))) pa_nil)))
        (pe_callTy call_int1 (by rfl) G.int (by decide +kernel) (pa_cons (pe_mid (pe_or (pe_cmpR op_eq (pe_has DT hr rfl (pa_cons (pv 0) (pa_cons pe_int pa_nil))) pe_int (nomark _)) (pe_one (pe_cmpR (op_eqD hr.units) (pv 1) (pe_lst pa_nil) (nomark _))))) pa_nil)) (fun _ _ => rfl))))
      (pss_one (ps_ret (pe_ix ix_list (pv 3) (pe_has DT hr rfl (pa_cons (pv 0) (pa_cons (pe_callB call_len_seq (by rfl) G.len PySem.boot_len (pa_cons (pv 3) pa_nil)) pa_nil))) (fun _ _ => rfl)))), ?_⟩
    refine ⟨fun v H1 => ∃ (p : Addr) (ms : List Str), v = .ref p ∧ H1 p = some (.lst (ms.map V.str)) ∧ 0 < ms.length ∧ ms.length ≤ 101 ∧ (∀ z ∈ ms, z ∈ ns ∨ z = sg) ∧ Kp b H H1 ∧ Bag H1 b (n + 1), ?_, ?_⟩
    · refine ⟨_, rfl, _, rfl, _, rfl, (by show 1 ≤ sizeLine; decide), fun q hq => ?_⟩
      have nlq : l ≠ q := ne_of_none hl hq
      refine ⟨l, q, _, _, rfl, rfl, (by rw [upd_ne nlq]; exact hl), upd_same, ?_, fun u hu => ?_⟩
      · rw [List.length_map]
        exact Nat.le_trans (show ns.length + 1 ≤ 101 by omega) (by decide)
      have nlu : l ≠ u := fun e => by
        rw [← e, upd_ne nlq, hl] at hu
        cases hu
      have nub : u ≠ b := new_ne hu (hB.new hq)
      refine ⟨(by show 2 ≤ sizeLine; decide), fun r hr' => ?_⟩
      have K0 : Kp b H (upd (upd (upd H q (.lst [.str sg])) u (.lst (ns.map V.str ++ [V.str sg]))) r (.lst [.ref l, .ref u])) := ((Kp.refl.new hq).new hu).new hr'
      have B0 : Bag (upd (upd (upd H q (.lst [.str sg])) u (.lst (ns.map V.str ++ [V.str sg]))) r (.lst [.ref l, .ref u])) b n := ((hB.new hq).new hu).new hr'
      have hl0 : (upd (upd (upd H q (.lst [.str sg])) u (.lst (ns.map V.str ++ [V.str sg]))) r (.lst [.ref l, .ref u])) l = some (.lst (ns.map V.str)) := K0 l _ nlb hl
      have hu0 : (upd (upd (upd H q (.lst [.str sg])) u (.lst (ns.map V.str ++ [V.str sg]))) r (.lst [.ref l, .ref u])) u = some (.lst ((ns ++ [sg]).map V.str)) := by
        rw [upd_ne (fun e => by rw [← e, upd_same] at hr'; cases hr'), upd_same, List.map_append]
        rfl
      have hr0 : (upd (upd (upd H q (.lst [.str sg])) u (.lst (ns.map V.str ++ [V.str sg]))) r (.lst [.ref l, .ref u])) r = some (.lst [.ref l, .ref u]) := upd_same
      have nrb : r ≠ b := new_ne hr' ((hB.new hq).new hu)
      generalize (upd (upd (upd H q (.lst [.str sg])) u (.lst (ns.map V.str ++ [V.str sg]))) r (.lst [.ref l, .ref u])) = H0 at K0 B0 hl0 hu0 hr0
      refine ⟨fun v H1 => ∃ c : Bool, v = .bl c ∧ (c = false → 0 < ns.length) ∧ Kp b H0 H1 ∧ Bag H1 b (n + 1), ?_, ?_⟩
      · refine ⟨_, rfl, b, 8, n, rfl, by decide, by decide, B0, by show _ ≤ 1000000; omega, fun d H1 d0 d1 K1 B1 => ?_⟩
        refine ⟨rfl, _, rfl, ?_⟩
        refine ite2 (fun _ => ?_) (fun _ => ?_)
        · exact ⟨true, rfl, (fun h => by cases h), K1, B1⟩
        · refine ⟨_, rfl, (by show 0 ≤ sizeLine; decide), fun x hx => ?_⟩
          have hl1 : (upd H1 x (.lst [])) l = some (.lst (ns.map V.str)) := by
            have := K1 l _ nlb hl0
            rw [upd_ne (ne_of_none this hx)]
            exact this
          refine ⟨_, _, .lst (SqL.of hl1) (Dp.strs ns), .lst (SqL.of upd_same) .nil, (Sh.lst (n := 0) fun d hd => ?_).shaped (by decide), rfl, ?_⟩
          · obtain ⟨z, hz, rfl⟩ := List.mem_map.mp hd
            exact (hnm z hz).ok
          · rw [eqv_nil]
            refine ⟨_, rfl, fun h => ?_, K1.new hx, B1.new hx⟩
            have : ns ≠ [] := of_decide_eq_false h
            exact List.length_pos_iff.mpr this
      · rintro v H1 ⟨c, rfl, hc, K1, B1⟩
        refine .inr ⟨c, rfl, ?_⟩
        have hr1 := K1 r _ nrb hr0
        cases c with
        | true => exact ⟨r, _, _, _, rfl, rfl, SqL.of hr1, rfl, u, ns ++ [sg], rfl, K1 u _ nub hu0, by simp, by simp; omega, fun z hz => by
            rcases List.mem_append.mp hz with h | h
            · exact .inl h
            · exact .inr (List.mem_singleton.mp h), K0.trans K1, B1⟩
        | false => exact ⟨r, _, _, _, rfl, rfl, SqL.of hr1, rfl, l, ns, rfl, K1 l _ nlb hl0, hc rfl, by omega, fun z hz => .inl hz, K0.trans K1, B1⟩
    · rintro v H1 ⟨p, ms, rfl, hp, m0, m1, hm, K1, B1⟩
      have npb : p ≠ b := strs_ne_bag hp B1
      refine ⟨_, rfl, _, rfl, _, rfl, p, _, rfl, .inl (SqL.of hp), ?_⟩
      refine ⟨b, _, n + 1, rfl, by rw [List.length_map]; omega, by rw [List.length_map]; omega, B1, by show _ ≤ 1000000; omega, fun d H2 d0 d1 K2 B2 => ?_⟩
      obtain ⟨y, e1, _, hy⟩ := atI_in (xs := ms.map V.str) d0 d1
      obtain ⟨z, hz, rfl⟩ := List.mem_map.mp hy
      exact ⟨p, _, _, _, rfl, rfl, SqL.of (K2 p _ npb hp), e1, k z H2 (hm z hz) (K1.trans K2) B2⟩
end
end Fh
set_option maxHeartbeats 4000000
namespace Fh
open PySem L2 PyProof.Rows
/-! ### kinds -/
inductive Kd0 where
  | plain (w : Str)
  | named (w n : Str)
def Kd0.d : Kd0 → PyData
  | .plain w => .str w
  | .named w n => .tuple [.str w, .str n]
def Kd0.ok (ms fs : List Str) : Kd0 → Prop
  | .plain w => w = "whole" ∨ w = "truth" ∨ w = "text"
  | .named w n => (w = "choice" ∧ (n ∈ ms ∨ n = "menu")) ∨ (w = "record" ∧ (n ∈ fs ∨ n = "form"))
inductive Kd where
  | one (k : Kd0)
  | list (k : Kd0)
def Kd.d : Kd → PyData
  | .one k => k.d
  | .list k => .tuple [.str "list", k.d]
def Kd.ok (ms fs : List Str) : Kd → Prop
  | .one k => k.ok ms fs
  | .list k => k.ok ms fs
def spKind : Sp := fun vs H Q _ => ∃ (b lm lf : Addr) (ms fs : List Str) (n : Nat), vs = [.ref b, .ref lm, .ref lf] ∧ Bag H b n ∧ H lm = some (.lst (ms.map V.str)) ∧ H lf = some (.lst (fs.map V.str)) ∧ ms.length ≤ 100 ∧ fs.length ≤ 100 ∧ (∀ z ∈ ms, Nm z) ∧ (∀ z ∈ fs, Nm z) ∧ n + 10 ≤ most ∧
  ∀ (v : V) (k : Kd) (H' : Hp), Tp H' v k.d → k.ok ms fs → Kp b H H' → Bag H' b (n + 10) → Q v H'
abbrev sKind : Stmt := top 10
abbrev pPick : List Str := ["_law_bag_here", "_law_pool", "_law_strange"]
section
variable {P : Program} {w : World} {K : PySem.W.Frag} {mg : Str → Option Value} {base : Heap}
theorem scKind : FnScope ["_law_bag_here", "_law_menus", "_law_forms", "_law_way", "_law_kind"] ["_law_bag_here", "_law_menus", "_law_forms"] (defScope sKind) := ⟨rfl, rfl, rfl, by decide +kernel, rfl, by decide +kernel, by decide +kernel⟩
theorem ok_kind {f : Addr} {fd : FuncData} (F : Fun K "_law_kind_drawn" "_law_kind_drawn" sKind f fd) (G : Glb mg) (DT : Has P w K mg base "_law_take" 1 pTake spTake) (DP : Has P w K mg base "_law_pick" 2 pPick spPick) : FnOk P w K mg base CX0 3 f fd ["_law_bag_here", "_law_menus", "_law_forms"] spKind := by
  refine F.ok scKind (fun vs H Q E h => ?_) (fun cdv A outer s H vs Q E hr h => ?_)
  · obtain ⟨b, lm, lf, ms, fs, n, rfl, _⟩ := h
    rfl
  · obtain ⟨b, lm, lf, ms, fs, n, rfl, hB, hm, hf, lem, lef, nm, nf, hn, k⟩ := h
    have hn' : n + 10 ≤ 1000000 := hn
    have hr1 : Room 1 _ := hr.mono (by decide)
    have nmb : lm ≠ b := strs_ne_bag hm hB
    have nfb : lf ≠ b := strs_ne_bag hf hB
    refine ⟨_, pss_cons (ps_set (i := 3) scKind.nd rfl (Or.inl rfl) (pe_has DT hr1 rfl (pa_cons (pv 0) (pa_cons pe_int pa_nil))))
      (pss_cons (ps_set (i := 4) scKind.nd rfl (Or.inl rfl) (pe_mid (pe_ix ix_list (pe_lst (pa_cons pe_str (pa_cons pe_str (pa_cons pe_str (pa_cons pe_str (pa_cons pe_str pa_nil)))))) (pe_op op_mod (pv 3) pe_int) (fun _ _ => rfl))))
      (C8.pss_cut (ps_if (pt_cmpR op_in_seq (pv 3) (pe_tup (pa_cons pe_int (pa_cons pe_int pa_nil))) rfl)
        (pss_one (ps_set (i := 4) scKind.nd rfl (Or.inl rfl) (pe_tup (pa_cons pe_str (pa_cons (pe_has DP hr rfl (pa_cons (pv 0) (pa_cons (pv 1) (pa_cons pe_str pa_nil)))) pa_nil))))) pss_nil)
      (C8.pss_cut (ps_if (pt_cmpR op_in_seq (pv 3) (pe_tup (pa_cons pe_int (pa_cons pe_int pa_nil))) rfl)
        (pss_one (ps_set (i := 4) scKind.nd rfl (Or.inl rfl) (pe_tup (pa_cons pe_str (pa_cons (pe_has DP hr rfl (pa_cons (pv 0) (pa_cons (pv 2) (pa_cons pe_str pa_nil)))) pa_nil))))) pss_nil)
      (pss_one (ps_ret (pe_ix ix_list (pe_lst (pa_cons (pv 4) (pa_cons (pv 4) (pa_cons (pe_tup (pa_cons pe_str (pa_cons (pv 4) pa_nil))) pa_nil)))) (pe_has DT hr1 rfl (pa_cons (pv 0) (pa_cons pe_int pa_nil))) (fun _ _ => rfl))))))), ?_⟩
    refine ⟨_, rfl, b, 9, n, rfl, by decide, by decide, hB, by show _ ≤ 1000000; omega, fun way H1 y0 y1 K1 B1 => ?_⟩
    refine ⟨fun v H2 => ∃ k0 : Kd0, Tp H2 v k0.d ∧ k0.ok ms fs ∧ Kp b H H2 ∧ Bag H2 b (n + 1), ?_, ?_⟩
    · refine ⟨(by show 5 ≤ sizeLine; decide), fun q hq => ?_⟩
      refine ⟨_, rfl, _, _, rfl, rfl, (by show (0 : Int) < 5; decide), ?_⟩
      obtain ⟨y, e1, _, hy⟩ := atI_in (xs := [V.str "whole", V.str "truth", V.str "text", V.str "text", V.str "whole"]) (i := way % 5) (by omega) (by show way % 5 < 5; omega)
      have hw : ∃ x : Str, y = .str x ∧ (x = "whole" ∨ x = "truth" ∨ x = "text") := by
        simp only [List.mem_cons, List.not_mem_nil, or_false] at hy
        rcases hy with rfl | rfl | rfl | rfl | rfl
        · exact ⟨_, rfl, .inl rfl⟩
        · exact ⟨_, rfl, .inr (.inl rfl)⟩
        · exact ⟨_, rfl, .inr (.inr rfl)⟩
        · exact ⟨_, rfl, .inr (.inr rfl)⟩
        · exact ⟨_, rfl, .inl rfl⟩
      obtain ⟨x, rfl, hx⟩ := hw
      exact ⟨q, _, _, _, rfl, rfl, SqL.of upd_same, e1, .plain x, .str x, hx, K1.new hq, B1.new hq⟩
    · rintro v H2 ⟨k0, t0, o0, K2, B2⟩
      refine ⟨fun σ H3 => ∃ (v : V) (k0 : Kd0), σ = [some (.ref b), some (.ref lm), some (.ref lf), some (.int way), some v] ∧ Tp H3 v k0.d ∧ k0.ok ms fs ∧ Kp b H H3 ∧ Bag H3 b (n + 3), ?_, ?_⟩
      · refine ⟨_, rfl, (by show 2 ≤ sizeLine; decide), fun q hq => ?_⟩
        refine ⟨q, _, rfl, .inr (SqT.of upd_same), rfl, rfl, _, rfl, ?_⟩
        refine ite2 (fun _ => ?_) (fun _ => ?_)
        · refine ⟨_, rfl, _, rfl, b, lm, _, ms, n + 1, rfl, B2.new hq, (K2.new hq) lm _ nmb hm, lem, nm, by show _ ≤ 1000000; omega, fun z H3 hz K3 B3 => ?_⟩
          refine ⟨(by show 2 ≤ sizeLine; decide), fun r hr' => ?_⟩
          exact ⟨_, .named "choice" z, rfl, .tup upd_same (.cons (.str _) (.cons (.str _) .nil)), .inl ⟨rfl, hz⟩, ((K2.new hq).trans K3).new hr', B3.new hr'⟩
        · exact ⟨_, k0, rfl, Tp.keep (Tk.new hq) _ _ t0, o0, K2.new hq, (B2.new hq).mono (by omega)⟩
      · rintro σ H3 ⟨v, k0, rfl, t0, o0, K3, B3⟩
        refine ⟨fun σ H3 => ∃ (v : V) (k0 : Kd0), σ = [some (.ref b), some (.ref lm), some (.ref lf), some (.int way), some v] ∧ Tp H3 v k0.d ∧ k0.ok ms fs ∧ Kp b H H3 ∧ Bag H3 b (n + 5), ?_, ?_⟩
        · refine ⟨_, rfl, (by show 2 ≤ sizeLine; decide), fun q hq => ?_⟩
          refine ⟨q, _, rfl, .inr (SqT.of upd_same), rfl, rfl, _, rfl, ?_⟩
          refine ite2 (fun _ => ?_) (fun _ => ?_)
          · refine ⟨_, rfl, _, rfl, b, lf, _, fs, n + 3, rfl, B3.new hq, (K3.new hq) lf _ nfb hf, lef, nf, by show _ ≤ 1000000; omega, fun z H4 hz K4 B4 => ?_⟩
            refine ⟨(by show 2 ≤ sizeLine; decide), fun r hr' => ?_⟩
            exact ⟨_, .named "record" z, rfl, .tup upd_same (.cons (.str _) (.cons (.str _) .nil)), .inr ⟨rfl, hz⟩, ((K3.new hq).trans K4).new hr', B4.new hr'⟩
          · exact ⟨_, k0, rfl, Tp.keep (Tk.new hq) _ _ t0, o0, K3.new hq, (B3.new hq).mono (by omega)⟩
        · rintro σ H4 ⟨v, k0, rfl, t0, o0, K4, B4⟩
          refine ⟨_, rfl, _, rfl, _, rfl, (by show 2 ≤ sizeLine; decide), fun q hq => ?_⟩
          refine ⟨(by show 3 ≤ sizeLine; decide), fun r hr' => ?_⟩
          have B5 := (B4.new (o := .tup [.str "list", v]) hq).new (o := .lst [v, v, .ref q]) hr'
          refine ⟨_, rfl, b, 3, _, rfl, by decide, by decide, B5, by show _ ≤ 1000000; omega, fun d H5 d0 d1 K5 B6 => ?_⟩
          have nrb : r ≠ b := new_ne hr' (B4.new hq)
          have hr5 := K5 r _ nrb upd_same
          have tk : Tk H4 H5 := ((Tk.new hq).trans (Tk.new hr')).trans (K5.tk B5)
          have kp : Kp b H H5 := ((K4.new hq).new hr').trans K5
          have hd : d = 0 ∨ d = 1 ∨ d = 2 := by omega
          rcases hd with rfl | rfl | rfl
          · exact ⟨r, _, _, _, rfl, rfl, SqL.of hr5, rfl, k v (.one k0) H5 (Tp.keep tk _ _ t0) o0 kp (B6.mono (by omega))⟩
          · exact ⟨r, _, _, _, rfl, rfl, SqL.of hr5, rfl, k v (.one k0) H5 (Tp.keep tk _ _ t0) o0 kp (B6.mono (by omega))⟩
          · refine ⟨r, _, _, _, rfl, rfl, SqL.of hr5, rfl, k (.ref q) (.list k0) H5 (.tup ?_ (.cons (.str _) (.cons (Tp.keep tk _ _ t0) .nil))) o0 kp (B6.mono (by omega))⟩
            exact ((Tk.new hr').trans (K5.tk B5)) q _ upd_same
end
end Fh
set_option maxHeartbeats 4000000
namespace Fh
open PySem L2 PyProof.Rows
def nmB (z : Str) : Bool := decide (1 ≤ z.length) && decide (z.length ≤ 8) && z.cps.toList.all fun c => decide (97 ≤ c) && decide (c ≤ 122)
theorem nm_of {z : Str} (h : nmB z = true) : Nm z := by
  unfold nmB at h
  simp only [Bool.and_eq_true, decide_eq_true_eq, List.all_eq_true] at h
  exact ⟨h.1.1, h.1.2, fun c hc => h.2 c hc⟩
def fewL : List Str := ["a", "b", "c", "id", "sum", "who", "note", "longname"]
theorem few_nm : ∀ z ∈ fewL, Nm z := by
  have h : fewL.all nmB = true := by decide +kernel
  intro z hz
  exact nm_of (List.all_eq_true.mp h z hz)
theorem few_nodup : fewL.Nodup := by decide +kernel
theorem erase_map {α β : Type} (f : α → β) : ∀ (l : List α) (k : Nat), (l.map f).eraseIdx k = (l.eraseIdx k).map f
  | [], _ => rfl
  | _ :: _, 0 => rfl
  | a :: r, k + 1 => by
    show f a :: (r.map f).eraseIdx k = f a :: (r.eraseIdx k).map f
    rw [erase_map f r k]
theorem perm_erase {α : Type} : ∀ (l : List α) (k : Nat) (h : k < l.length), (l[k] :: l.eraseIdx k).Perm l
  | [], k, h => absurd h (Nat.not_lt_zero k)
  | a :: r, 0, _ => List.Perm.refl _
  | a :: r, k + 1, h => by
    show (r[k]'(Nat.lt_of_succ_lt_succ h) :: a :: r.eraseIdx k).Perm (a :: r)
    exact (List.Perm.swap _ _ _).trans (List.Perm.cons a (perm_erase r k (Nat.lt_of_succ_lt_succ h)))
theorem seqIx {i : Int} {n : Nat} (h0 : 0 ≤ i) (h1 : i < (n : Int)) : seqIndex? i n = some i.toNat := by
  have e : ixN n i = some i.toNat := by
    unfold ixN
    rw [if_pos h0, if_pos h1]
  exact (ixN_seq e).1
abbrev rLenS (K : PySem.W.Frag) : List V → Hp → VK → Prop := fun xs H Q => ∃ p ys, xs = [.ref p] ∧ (SqL K H p ys ∨ SqT K H p ys) ∧ Q (.int ys.length) H
def spUnlike : Sp := fun vs H Q _ => ∃ (b : Addr) (size : Int) (n : Nat), vs = [.ref b, .int size] ∧ Bag H b n ∧ 0 ≤ size ∧ size ≤ 8 ∧ n + 300 ≤ most ∧
  ∀ (p : Addr) (zs : List Str) (H' : Hp), H p = none → H' p = some (.lst (zs.map V.str)) → (zs.length : Int) = size → zs.Nodup → (∀ z ∈ zs, Nm z) → Kp b H H' → Bag H' b (n + 130) → Q (.ref p) H'
abbrev sUnlike : Stmt := top 12
abbrev nUnlike : List Str := ["_law_bag_here", "_law_size", "_law_few", "_law_spot"]
abbrev pUnlikeN : List Str := ["_law_bag_here", "_law_size", "_law_taken"]
section
variable {P : Program} {w : World} {K : PySem.W.Frag} {mg : Str → Option Value} {base : Heap}
theorem scUnlike : FnScope nUnlike ["_law_bag_here", "_law_size"] (defScope sUnlike) := ⟨rfl, rfl, rfl, by decide +kernel, rfl, by decide +kernel, by decide +kernel⟩
theorem ok_unlike {f : Addr} {fd : FuncData} (F : Fun K "_law_unlike" "_law_unlike" sUnlike f fd) (G : Glb mg) (DT : Has P w K mg base "_law_take" 1 pTake spTake) (DU : Has P w K mg base "_law_unlike_names" 3 pUnlikeN spUnlikeN) : FnOk P w K mg base CX0 4 f fd ["_law_bag_here", "_law_size"] spUnlike := by
  refine F.ok scUnlike (fun vs H Q E h => ?_) (fun cdv A outer s H vs Q E hr h => ?_)
  · obtain ⟨b, size, n, rfl, _⟩ := h
    rfl
  · obtain ⟨b, size, n, rfl, hB, s0, s1, hn, k⟩ := h
    have hn' : n + 300 ≤ 1000000 := hn
    have hr1 : Room 1 _ := hr.mono (by decide)
    refine ⟨_, pss_cons (ps_set (i := 2) scUnlike.nd rfl (Or.inr rfl) (pe_lst (pa_cons pe_str (pa_cons pe_str (pa_cons pe_str (pa_cons pe_str (pa_cons pe_str (pa_cons pe_str (pa_cons pe_str (pa_cons pe_str pa_nil))))))))))
      (pss_cons (ps_if (pt_cmpR op_eq (pe_has DT hr1 rfl (pa_cons (pv 0) (pa_cons pe_int pa_nil))) pe_int (nomark _))
        (pss_one (ps_ret (pe_has DU hr rfl (pa_cons (pv 0) (pa_cons (pv 1) (pa_cons (pe_lst pa_nil) pa_nil)))))) pss_nil)
      (pss_one (ps_ret (pe_lc (own := [("_law_spot", 3)]) (g := gName 3) (tt := tYes) (te := tBM K "list" rPopAt (tVar 2) (tCons (tCall spTake [] E0 (tCons (tVar 0) (tCons (tCB (rLenS K) (tCons (tVar 2) tNil)) tNil))) tNil)) rfl scUnlike.nd (pi_range1 rfl G.range (pa_cons (pv 1) pa_nil)) (blkOk_by (N := nUnlike) (sc := defScope sUnlike) (by decide +kernel))
        (fun _ _ _ _ _ => pg_name (i := 3) scUnlike.nd rfl (Or.inl rfl)) (fun _ _ _ _ _ => pts_nil)
        (fun _ _ _ _ _ => pe_bm PySem.F.plainAttrs_list PySem.F.slot_list_pop PySem.F.type_list_pop mt_popAt (pv 2) (pa_cons (pe_has DT hr1 rfl (pa_cons (pv 0) (pa_cons (pe_callB call_len_seq (by rfl) G.len PySem.boot_len (pa_cons (pv 2) pa_nil)) pa_nil))) pa_nil)))))), ?_⟩
    refine ⟨(by show 8 ≤ sizeLine; decide), fun q hq => ?_⟩
    have nqb : q ≠ b := new_ne hq hB
    refine ⟨_, rfl, b, 3, n, rfl, by decide, by decide, hB.new hq, by show _ ≤ 1000000; omega, fun d H1 d0 d1 K1 B1 => ?_⟩
    have hq1 : H1 q = some (.lst (fewL.map V.str)) := K1 q _ nqb upd_same
    have K1' : Kp b H H1 := (Kp.refl.new hq).trans K1
    refine ⟨rfl, _, rfl, ?_⟩
    refine ite2 (fun _ => ?_) (fun _ => ?_)
    · refine ⟨_, rfl, _, rfl, Nat.zero_le _, fun t ht => ?_⟩
      refine ⟨b, t, size, [], n + 1, rfl, B1.new ht, s0, by omega, upd_same, by decide, by show _ ≤ 1000000; omega, fun p zs H2 hp hp2 hl hnd hz K2 B2 => ?_⟩
      have hp0 : H p = none := (K1'.new (o := .lst []) ht).free (B1.new ht).at hp
      exact k p zs H2 hp0 hp2 hl hnd (fun z h => (hz z h).1) ((K1'.new ht).trans K2) (B2.mono (by omega))
    · refine ⟨_, rfl, size, rfl, by omega, by omega, fun D hD => ?_⟩
      have nDb : D ≠ b := new_ne hD B1
      have nDq : D ≠ q := (ne_of_none hq1 hD).symm
      have hD0 : H D = none := K1'.free B1.at hD
      refine lc_range (lo := 0) (n := size.toNat) (fun i H3 => Kp b H H3 ∧ Bag H3 b (n + 1 + i) ∧ ∃ zs ws : List Str, H3 D = some (.lst (zs.map V.str)) ∧ H3 q = some (.lst (ws.map V.str)) ∧ zs.length = i ∧ ws.length = 8 - i ∧ (zs ++ ws).Perm fewL) ?_ ?_ ?_
      · exact ⟨K1'.new hD, B1.new hD, [], fewL, upd_same, (by rw [upd_ne nDq.symm]; exact hq1), rfl, rfl, List.Perm.refl _⟩
      · rintro i H3 hi ⟨K3, B3, zs, ws, hD3, hq3, lz, lw, pm⟩
        have hi8 : i < 8 := by omega
        refine ⟨rfl, yes (iteT ?_)⟩
        refine ⟨_, rfl, .inl ⟨rfl, _, SqL.of hq3⟩, _, rfl, _, rfl, q, _, rfl, .inl (SqL.of hq3), ?_⟩
        refine ⟨b, _, n + 1 + i, rfl, by rw [List.length_map]; omega, by rw [List.length_map]; omega, B3, by show _ ≤ 1000000; omega, fun e H4 e0 e1 K4 B4 => ?_⟩
        have hq4 := K4 q _ nqb hq3
        have hD4 := K4 D _ nDb hD3
        have e1' : e < (ws.length : Int) := by rw [List.length_map] at e1; exact e1
        have hk : e.toNat < ws.length := by omega
        refine ⟨q, _, e, e.toNat, .str ws[e.toNat], rfl, rfl, hq4, by omega, by omega, seqIx e0 e1, by rw [List.getElem?_map, List.getElem?_eq_getElem hk]; rfl, ?_⟩
        refine ⟨zs.map V.str, by rw [upd_ne nDq]; exact hD4, by rw [List.length_map, lz]; exact Nat.lt_trans hi8 (by decide), ?_⟩
        refine ⟨((K3.trans K4).wr hq).wr hD0, ((B4.mono (by omega)).ne nqb).ne nDb, zs ++ [ws[e.toNat]], ws.eraseIdx e.toNat, ?_, ?_, by rw [List.length_append, lz]; rfl, by rw [List.length_eraseIdx_of_lt hk]; omega, ?_⟩
        · rw [upd_same, List.map_append]; rfl
        · rw [upd_ne nDq.symm, upd_same, erase_map]
        · refine List.Perm.trans ?_ pm
          rw [List.append_assoc]
          exact List.Perm.append_left zs (perm_erase _ _ hk)
      · rintro H3 ⟨K3, B3, zs, ws, hD3, hq3, lz, lw, pm⟩
        have hnd : (zs ++ ws).Nodup := pm.nodup_iff.mpr few_nodup
        exact k D zs H3 hD0 hD3 (by omega) (List.nodup_append.mp hnd).1 (fun z hz => few_nm z (pm.mem_iff.mp (List.mem_append_left _ hz))) K3 (B3.mono (by omega))
end
/-! ### fields -/
structure Fld where
  num : Int
  nm : Str
  kd : Kd
  need : Str
def Fld.d (f : Fld) : PyData := .tuple [.int f.num, .str f.nm, f.kd.d, .str f.need]
structure FldsOk (ms fm : List Str) (fs : List Fld) : Prop where
  len : fs.length ≤ 5
  rise : (fs.map (·.num)).Pairwise (· < ·)
  unl : (fs.map (·.nm)).Nodup
  all : ∀ f ∈ fs, (1 ≤ f.num ∧ f.num ≤ 30) ∧ Nm f.nm ∧ f.kd.ok ms fm ∧ (f.need = "must" ∨ f.need = "may")
def spForm : Sp := fun vs H Q _ => ∃ (b lm lf : Addr) (ms fm : List Str) (n : Nat), vs = [.ref b, .ref lm, .ref lf] ∧ Bag H b n ∧ H lm = some (.lst (ms.map V.str)) ∧ H lf = some (.lst (fm.map V.str)) ∧ ms.length ≤ 100 ∧ fm.length ≤ 100 ∧ (∀ z ∈ ms, Nm z) ∧ (∀ z ∈ fm, Nm z) ∧ n + 600 ≤ most ∧
  ∀ (v : V) (fs : List Fld) (H' : Hp), Tp H' v (.tuple (fs.map Fld.d)) → FldsOk ms fm fs → Kp b H H' → Bag H' b (n + 300) → Q v H'
abbrev sForm : Stmt := top 11
abbrev nForm : List Str := ["_law_bag_here", "_law_menus", "_law_forms", "_law_size", "_law_marks", "_law_found", "_law_mark", "_law_word"]
abbrev pForm : List Str := ["_law_bag_here", "_law_menus", "_law_forms"]
abbrev pRising : List Str := ["_law_bag_here", "_law_size", "_law_most"]
section
variable {P : Program} {w : World} {K : PySem.W.Frag} {mg : Str → Option Value} {base : Heap}
theorem scForm : FnScope nForm pForm (defScope sForm) := ⟨rfl, rfl, rfl, by decide +kernel, rfl, by decide +kernel, by decide +kernel⟩
theorem ok_form {f : Addr} {fd : FuncData} (F : Fun K "_law_form_drawn" "_law_form_drawn" sForm f fd) (G : Glb mg) (DT : Has P w K mg base "_law_take" 1 pTake spTake) (DR : Has P w K mg base "_law_rising" 2 pRising spRising)
    (DU : Has P w K mg base "_law_unlike" 4 pTake spUnlike) (DK : Has P w K mg base "_law_kind_drawn" 3 pForm spKind) : FnOk P w K mg base CX0 5 f fd pForm spForm := by
  refine F.ok scForm (fun vs H Q E h => ?_) (fun cdv A outer s H vs Q E hr h => ?_)
  · obtain ⟨b, lm, lf, ms, fm, n, rfl, _⟩ := h
    rfl
  · obtain ⟨b, lm, lf, ms, fm, n, rfl, hB, hm, hf, lem, lef, nm, nf, hn, k⟩ := h
    have hn' : n + 600 ≤ 1000000 := hn
    have hr1 : Room 1 _ := hr.mono (by decide)
    have hr2 : Room 2 _ := hr.mono (by decide)
    have hr3 : Room 3 _ := hr.mono (by decide)
    have nmb : lm ≠ b := strs_ne_bag hm hB
    have nfb : lf ≠ b := strs_ne_bag hf hB
    refine ⟨_, pss_cons (ps_set (i := 3) scForm.nd rfl (Or.inl rfl) (pe_has DT hr1 rfl (pa_cons (pv 0) (pa_cons pe_int pa_nil))))
      (pss_cons (ps_par (i := 4) (j := 5) rfl scForm.nd rfl rfl (by decide) rfl rfl (pa_cons (pe_has DR hr2 rfl (pa_cons (pv 0) (pa_cons (pv 3) (pa_cons pe_int pa_nil)))) (pa_cons (pe_lst pa_nil) pa_nil)) (by rfl))
      (pss_cons (ps_for PassesOwn.never rfl (pi_zip rfl G.zip (pa_cons (pv 4) (pa_cons (pe_has DU hr rfl (pa_cons (pv 0) (pa_cons (pv 3) pa_nil))) pa_nil)))
          (pg_tup rfl (pgs_cons (pg_name (i := 6) scForm.nd rfl (.inl rfl)) (pgs_cons (pg_name (i := 7) scForm.nd rfl (.inl rfl)) pgs_nil)))
        (pss_one (ps_expr (pe_bm PySem.F.plainAttrs_list PySem.F.slot_list_append PySem.F.type_list_append mt_append (pv 5) (pa_cons
          (pe_tup (pa_cons (pv 6) (pa_cons (pv 7) (pa_cons (pe_has DK hr3 rfl (pa_cons (pv 0) (pa_cons (pv 1) (pa_cons (pv 2) pa_nil))))
            (pa_cons (pe_mid (pe_ix ix_list (pe_lst (pa_cons pe_str (pa_cons pe_str pa_nil))) (pe_has DT hr1 rfl (pa_cons (pv 0) (pa_cons pe_int pa_nil))) (fun _ _ => rfl))) pa_nil))))) pa_nil)))))
      (pss_one (ps_ret (pe_callTy call_tuple_of (by rfl) G.tuple (by decide +kernel) (pa_cons (pv 5) pa_nil)))))), ?_⟩
    refine ⟨_, rfl, b, 6, n, rfl, by decide, by decide, hB, by show _ ≤ 1000000; omega, fun size H1 y0 y1 K1 B1 => ?_⟩
    refine ⟨_, rfl, _, rfl, b, size, 30, n + 1, rfl, B1, y0, by omega, by decide, by show _ ≤ 1000000; omega, fun M ns H2 hM0 hM2 ln hpw hx K2 B2 => ?_⟩
    have nMb : M ≠ b := new_ne hM0 B1
    refine ⟨Nat.zero_le _, fun C hC => ⟨_, _, rfl, ?_⟩⟩
    have nMC : M ≠ C := ne_of_none hM2 hC
    have nCb : C ≠ b := new_ne hC B2
    refine ⟨_, rfl, _, rfl, _, rfl, b, size, n + 1 + 60, rfl, B2.new hC, y0, by omega, by show _ ≤ 1000000; omega, fun U zs H3 hU0 hU3 lz hnd hz K3 B3 => ?_⟩
    have nUC : U ≠ C := fun e => by rw [e, upd_same] at hU0; cases hU0
    have nUb : U ≠ b := new_ne hU0 (B2.new hC)
    have hM3 : H3 M = some (.lst (ns.map V.int)) := K3 M _ nMb (by rw [upd_ne nMC]; exact hM2)
    have hC3 : H3 C = some (.lst []) := K3 C _ nCb upd_same
    have hC0 : H C = none := (K1.trans K2).free B2.at hC
    have K3' : Kp b H H3 := ((K1.trans K2).new hC).trans K3
    have hlen : ns.length = zs.length := by omega
    refine ⟨M, U, _, _, rfl, SqL.of hM3, SqL.of hU3, ?_⟩
    refine RZ.for_zipL (K := K) (xs := ns.map V.int) (ys := zs.map V.str) (by rw [List.length_map, List.length_map]; exact hlen)
      (fun i σ H4 => (∃ a6 a7, σ = [some (.ref b), some (.ref lm), some (.ref lf), some (.int size), some (.ref M), some (.ref C), a6, a7]) ∧ Kp b H H4 ∧ Bag H4 b (n + 200 + 11 * i) ∧ H4 M = some (.lst (ns.map V.int)) ∧ H4 U = some (.lst (zs.map V.str)) ∧
        ∃ (vs : List V) (fs : List Fld), H4 C = some (.lst vs) ∧ TpAll H4 vs (fs.map Fld.d) ∧ fs.map (·.num) = ns.take i ∧ fs.map (·.nm) = zs.take i ∧ ∀ f ∈ fs, f.kd.ok ms fm ∧ (f.need = "must" ∨ f.need = "may")) ?_ ?_ ?_ ?_
    · exact ⟨⟨_, _, rfl⟩, K3', B3.mono (by omega), hM3, hU3, [], [], hC3, .nil, rfl, rfl, fun f h => by cases h⟩
    · rintro i σ H4 ⟨_, _, _, hM4, hU4, _⟩
      exact ⟨SqL.of hM4, SqL.of hU4⟩
    · rintro i x y T σ H4 hx' hy' ⟨⟨a6, a7, rfl⟩, K4, B4, hM4, hU4, vs, fs, hC4, tp, e1, e2, hall⟩ hT
      obtain ⟨mk, hmk, rfl⟩ : ∃ u, ns[i]? = some u ∧ x = V.int u := by
        rw [List.getElem?_map] at hx'
        cases e : ns[i]? with
        | none => rw [e] at hx'; cases hx'
        | some u => rw [e] at hx'; exact ⟨u, rfl, (Option.some.inj hx').symm⟩
      obtain ⟨wd, hwd, rfl⟩ : ∃ u, zs[i]? = some u ∧ y = V.str u := by
        rw [List.getElem?_map] at hy'
        cases e : zs[i]? with
        | none => rw [e] at hy'; cases hy'
        | some u => rw [e] at hy'; exact ⟨u, rfl, (Option.some.inj hy').symm⟩
      have hi5 : i < 5 := by
        have := (List.getElem?_eq_some_iff.mp hmk).1
        omega
      have lvs : vs.length = i := by
        have h1 := tp.length
        have h2 : (fs.map (·.num)).length = (ns.take i).length := by rw [e1]
        rw [List.length_map, List.length_take] at h2
        have := (List.getElem?_eq_some_iff.mp hmk).1
        rw [List.length_map] at h1
        omega
      refine ⟨T, _, rfl, SqT.of upd_same, rfl, _, _, rfl, _, _, rfl, rfl, ?_⟩
      have B5 := B4.new (o := .tup [.int mk, .str wd]) hT
      have K5 := K4.new (o := .tup [.int mk, .str wd]) hT
      have hC5 : (upd H4 T (.tup [.int mk, .str wd])) C = some (.lst vs) := by rw [upd_ne (ne_of_none hC4 hT)]; exact hC4
      have hM5 : (upd H4 T (.tup [.int mk, .str wd])) M = some (.lst (ns.map V.int)) := by rw [upd_ne (ne_of_none hM4 hT)]; exact hM4
      have hU5 : (upd H4 T (.tup [.int mk, .str wd])) U = some (.lst (zs.map V.str)) := by rw [upd_ne (ne_of_none hU4 hT)]; exact hU4
      have tp5 := TpAll.keep (Tk.new (o := .tup [.int mk, .str wd]) hT) _ _ tp
      generalize upd H4 T (.tup [.int mk, .str wd]) = H5 at B5 K5 hC5 hM5 hU5 tp5
      refine ⟨_, rfl, .inl ⟨rfl, _, SqL.of hC5⟩, _, rfl, _, rfl, _, rfl, _, rfl, _, rfl, b, lm, lf, ms, fm, n + 200 + 11 * i, rfl, B5, K5 lm _ nmb hm, K5 lf _ nfb hf, lem, lef, nm, nf, by show _ ≤ 1000000; omega, fun v kd H6 tv kok K6 B6 => ?_⟩
      refine ⟨fun v6 H7 => ∃ need : Str, v6 = .str need ∧ (need = "must" ∨ need = "may") ∧ Kp b H6 H7 ∧ Bag H7 b (n + 200 + 11 * i + 11), ?_, ?_⟩
      · refine ⟨(by show 2 ≤ sizeLine; decide), fun q hq => ?_⟩
        refine ⟨_, rfl, b, 2, _, rfl, by decide, by decide, B6.new hq, by show _ ≤ 1000000; omega, fun d H7 d0 d1 K7 B7 => ?_⟩
        have hq7 := K7 q _ (new_ne hq B6) upd_same
        have hd : d = 0 ∨ d = 1 := by omega
        rcases hd with rfl | rfl
        · exact ⟨q, _, _, _, rfl, rfl, SqL.of hq7, rfl, "must", rfl, .inl rfl, (Kp.refl.new hq).trans K7, B7⟩
        · exact ⟨q, _, _, _, rfl, rfl, SqL.of hq7, rfl, "may", rfl, .inr rfl, (Kp.refl.new hq).trans K7, B7⟩
      · rintro v6 H7 ⟨need, rfl, hneed, K7, B7⟩
        refine ⟨(by show 4 ≤ sizeLine; decide), fun R hR => ?_⟩
        have K57 : Kp b H5 H7 := K6.trans K7
        have hC7 := K57 C _ nCb hC5
        have nCR : C ≠ R := ne_of_none hC7 hR
        refine ⟨C, _, _, rfl, rfl, (by rw [upd_ne nCR]; exact hC7), by rw [lvs]; exact Nat.lt_trans hi5 (by decide), ?_⟩
        have hM7 := K57 M _ nMb hM5
        have hU7 := K57 U _ nUb hU5
        have tkR : Tk H7 (upd (upd H7 R (.tup [.int mk, .str wd, v, .str need])) C (.lst (vs ++ [.ref R]))) := (Tk.new hR).trans (Tk.wr (by rw [upd_ne nCR]; exact hC7))
        have tk5 : Tk H5 (upd (upd H7 R (.tup [.int mk, .str wd, v, .str need])) C (.lst (vs ++ [.ref R]))) := (K57.tk B5).trans tkR
        have tk6 : Tk H6 (upd (upd H7 R (.tup [.int mk, .str wd, v, .str need])) C (.lst (vs ++ [.ref R]))) := (K7.tk B6).trans tkR
        refine ⟨⟨_, _, rfl⟩, ((K5.trans K57).new hR).wr hC0, ((B7.new hR).mono (by omega)).ne nCb, ?_, ?_, vs ++ [.ref R], fs ++ [⟨mk, wd, kd, need⟩], upd_same, ?_, ?_, ?_, ?_⟩
        · rw [upd_ne nMC, upd_ne (ne_of_none hM7 hR)]; exact hM7
        · rw [upd_ne nUC, upd_ne (ne_of_none hU7 hR)]; exact hU7
        · rw [List.map_append]
          refine (TpAll.keep tk5 _ _ tp5).app (TpAll.one (.tup (by rw [upd_ne nCR.symm, upd_same]) (.cons (.int _) (.cons (.str _) (.cons (Tp.keep tk6 _ _ tv) (.cons (.str _) .nil))))))
        · rw [List.map_append, e1, List.take_succ, hmk]; rfl
        · rw [List.map_append, e2, List.take_succ, hwd]; rfl
        · intro g hg
          rcases List.mem_append.mp hg with h | h
          · exact hall g h
          · rw [List.mem_singleton.mp h]
            exact ⟨kok, hneed⟩
    · rintro σ H4 ⟨⟨a6, a7, rfl⟩, K4, B4, hM4, hU4, vs, fs, hC4, tp, e1, e2, hall⟩
      refine ⟨_, rfl, C, _, rfl, .inl ⟨SqL.of hC4, fun R hR => ?_⟩⟩
      rw [List.length_map, List.take_length] at e1
      rw [List.length_map, hlen, List.take_length] at e2
      have l1 : fs.length = ns.length := by rw [← e1, List.length_map]
      refine k (.ref R) fs _ (.tup upd_same (TpAll.keep (Tk.new hR) _ _ tp)) ⟨by omega, by rw [e1]; exact hpw, by rw [e2]; exact hnd, fun g hg => ⟨?_, ?_, hall g hg⟩⟩ (K4.new hR) ((B4.new hR).mono (by rw [List.length_map]; omega))
      · exact hx _ (by rw [← e1]; exact List.mem_map.mpr ⟨g, hg, rfl⟩)
      · exact hz _ (by rw [← e2]; exact List.mem_map.mpr ⟨g, hg, rfl⟩)
end
end Fh
set_option maxHeartbeats 4000000
namespace Fh
open PySem L2 PyProof.Rows
/-! ### deeds -/
def wayL : List Str := ["take", "add", "tell", "copy", "ask", "get", "tell", "copy"]
structure DeedOk (ws : List Str) : Prop where
  form : (∃ f g x : Str, ws = [("take" : Str), f, g, x]) ∨ ∃ y f g : Str, ws = [y, f, g] ∧ (y = "add" ∨ y = "tell" ∨ y = "copy" ∨ y = "ask" ∨ y = "get")
  nm : ∀ z ∈ ws, Nm z
theorem way_nm : ∀ z ∈ wayL, Nm z := by
  have h : wayL.all nmB = true := by decide +kernel
  exact fun z hz => nm_of (List.all_eq_true.mp h z hz)
theorem nm_in : Nm "in" := nm_of (by decide +kernel)
theorem nm_out : Nm "out" := nm_of (by decide +kernel)
theorem nmOr {zs : List Str} {z sg : Str} (h : ∀ z ∈ zs, Nm z) (hs : Nm sg) (hz : z ∈ zs ∨ z = sg) : Nm z := hz.elim (h z) fun e => by rw [e]; exact hs
def spDeed : Sp := fun vs H Q _ => ∃ (b li lo : Addr) (own : Str) (ins outs : List Str) (n : Nat), vs = [.ref b, .str own, .ref li, .ref lo] ∧ Bag H b n ∧ Nm own ∧ H li = some (.lst (ins.map V.str)) ∧ H lo = some (.lst (outs.map V.str)) ∧ ins.length ≤ 100 ∧ outs.length ≤ 100 ∧ (∀ z ∈ ins, Nm z) ∧ (∀ z ∈ outs, Nm z) ∧ n + 20 ≤ most ∧
  ∀ (v : V) (ws : List Str) (H' : Hp), Tp H' v (.tuple (ws.map PyData.str)) → DeedOk ws → Kp b H H' → Bag H' b (n + 20) → Q v H'
abbrev sDeed : Stmt := top 13
abbrev nDeed : List Str := ["_law_bag_here", "_law_own", "_law_ins", "_law_outs", "_law_way"]
abbrev pDeed : List Str := ["_law_bag_here", "_law_own", "_law_ins", "_law_outs"]
/-- one of a written list of texts -/
theorem str_at {zs : List Str} {i : Int} (h0 : 0 ≤ i) (h1 : i < (zs.length : Int)) : ∃ z, atI (zs.map V.str) i = some (.str z) ∧ z ∈ zs := by
  obtain ⟨v, e, _, hm⟩ := atI_in (xs := zs.map V.str) h0 (by rw [List.length_map]; exact h1)
  obtain ⟨z, hz, rfl⟩ := List.mem_map.mp hm
  exact ⟨z, e, hz⟩
section
variable {P : Program} {w : World} {K : PySem.W.Frag} {mg : Str → Option Value} {base : Heap}
theorem scDeed : FnScope nDeed pDeed (defScope sDeed) := ⟨rfl, rfl, rfl, by decide +kernel, rfl, by decide +kernel, by decide +kernel⟩
theorem ok_deed {f : Addr} {fd : FuncData} (F : Fun K "_law_deed_drawn" "_law_deed_drawn" sDeed f fd) (G : Glb mg) (DT : Has P w K mg base "_law_take" 1 pTake spTake) (DP : Has P w K mg base "_law_pick" 2 pPick spPick)
    (DN : Has P w K mg base "_law_drawn_name" 2 ["_law_bag_here"] spName) : FnOk P w K mg base CX0 3 f fd pDeed spDeed := by
  refine F.ok scDeed (fun vs H Q E h => ?_) (fun cdv A outer s H vs Q E hr h => ?_)
  · obtain ⟨b, li, lo, own, ins, outs, n, rfl, _⟩ := h
    rfl
  · obtain ⟨b, li, lo, own, ins, outs, n, rfl, hB, hown, hi, ho, lei, leo, ni, no, hn, k⟩ := h
    have hn' : n + 20 ≤ 1000000 := hn
    have hr1 : Room 1 _ := hr.mono (by decide)
    have nib : li ≠ b := strs_ne_bag hi hB
    have nob : lo ≠ b := strs_ne_bag ho hB
    refine ⟨_, pss_cons (ps_set (i := 4) scDeed.nd rfl (Or.inl rfl) (pe_mid (pe_ix ix_list (pe_lst (pa_cons pe_str (pa_cons pe_str (pa_cons pe_str (pa_cons pe_str (pa_cons pe_str (pa_cons pe_str (pa_cons pe_str (pa_cons pe_str pa_nil))))))))) (pe_has DT hr1 rfl (pa_cons (pv 0) (pa_cons pe_int pa_nil))) (fun _ _ => rfl))))
      (pss_cons (ps_if (pt_cmpR op_eq (pv 4) pe_str (nomark _)) (pss_one (ps_ret (pe_tup (pa_cons (pv 4) (pa_cons (pe_has DP hr rfl (pa_cons (pv 0) (pa_cons (pv 2) (pa_cons pe_str pa_nil)))) (pa_cons (pe_has DP hr rfl (pa_cons (pv 0) (pa_cons (pv 2) (pa_cons pe_str pa_nil)))) (pa_cons (pe_has DN hr rfl (pa_cons (pv 0) pa_nil)) pa_nil))))))) pss_nil)
      (pss_cons (ps_if (pt_cmpR op_eq (pv 4) pe_str (nomark _)) (pss_one (ps_ret (pe_tup (pa_cons (pv 4) (pa_cons (pe_has DP hr rfl (pa_cons (pv 0) (pa_cons (pv 2) (pa_cons pe_str pa_nil)))) (pa_cons (pe_has DP hr rfl (pa_cons (pv 0) (pa_cons (pv 2) (pa_cons pe_str pa_nil)))) pa_nil)))))) pss_nil)
      (pss_cons (ps_if (pt_cmpR op_eq (pv 4) pe_str (nomark _)) (pss_one (ps_ret (pe_tup (pa_cons (pv 4) (pa_cons (pe_mid (pe_ix ix_list (pe_lst (pa_cons pe_str (pa_cons pe_str (pa_cons pe_str (pa_cons (pv 1) pa_nil))))) (pe_has DT hr1 rfl (pa_cons (pv 0) (pa_cons pe_int pa_nil))) (fun _ _ => rfl)))
          (pa_cons (pe_mid (pe_ix ix_list (pe_lst (pa_cons pe_str (pa_cons pe_str (pa_cons pe_str pa_nil)))) (pe_has DT hr1 rfl (pa_cons (pv 0) (pa_cons pe_int pa_nil))) (fun _ _ => rfl))) pa_nil)))))) pss_nil)
      (pss_one (ps_ret (pe_tup (pa_cons (pv 4) (pa_cons (pe_has DP hr rfl (pa_cons (pv 0) (pa_cons (pv 3) (pa_cons pe_str pa_nil)))) (pa_cons (pe_has DP hr rfl (pa_cons (pv 0) (pa_cons (pe_mid (pe_ix ix_list (pe_lst (pa_cons (pv 2) (pa_cons (pv 3) pa_nil))) (pe_callTy call_int1 (by rfl) G.int (by decide +kernel) (pa_cons (pe_cmpR op_eq (pv 4) pe_str (nomark _)) pa_nil)) (fun _ _ => rfl))) (pa_cons pe_str pa_nil)))) pa_nil))))))))), ?_⟩
    refine ⟨fun v H1 => ∃ x : Str, v = .str x ∧ x ∈ wayL ∧ Kp b H H1 ∧ Bag H1 b (n + 1), ?_, ?_⟩
    · refine ⟨(by show 8 ≤ sizeLine; decide), fun q hq => ?_⟩
      refine ⟨_, rfl, b, 8, n, rfl, by decide, by decide, hB.new hq, by show _ ≤ 1000000; omega, fun d H1 d0 d1 K1 B1 => ?_⟩
      have hq1 : H1 q = some (.lst (wayL.map V.str)) := K1 q _ (new_ne hq hB) upd_same
      obtain ⟨z, e, hz⟩ := str_at (zs := wayL) d0 d1
      exact ⟨q, _, _, _, rfl, rfl, SqL.of hq1, e, z, rfl, hz, (Kp.refl.new hq).trans K1, B1⟩
    · rintro v H1 ⟨x, rfl, hx, K1, B1⟩
      refine ⟨_, rfl, rfl, _, rfl, ?_⟩
      refine ite2 (fun h1 => ?_) (fun h1 => ?_)
      · have hx1 : x = "take" := by have := of_decide_eq_true h1; injection this
        refine ⟨_, rfl, _, rfl, _, rfl, b, li, _, ins, n + 1, rfl, B1, K1 li _ nib hi, lei, ni, by show _ ≤ 1000000; omega, fun z1 H2 z1m K2 B2 => ?_⟩
        have z1n := nmOr ni nm_in z1m
        refine ⟨_, rfl, _, rfl, b, li, _, ins, n + 3, rfl, B2, (K1.trans K2) li _ nib hi, lei, ni, by show _ ≤ 1000000; omega, fun z2 H3 z2m K3 B3 => ?_⟩
        have z2n := nmOr ni nm_in z2m
        refine ⟨_, rfl, b, _, rfl, B3, by show _ ≤ 1000000; omega, fun z3 H4 z3n K4 B4 => ?_⟩
        refine ⟨(by show 4 ≤ sizeLine; decide), fun R hR => ?_⟩
        subst hx1
        refine k _ ["take", z1, z2, z3] _ (.tup upd_same (TpAll.strs ["take", z1, z2, z3])) ⟨.inl ⟨_, _, _, rfl⟩, ?_⟩ ((((K1.trans K2).trans K3).trans K4).new hR) ((B4.new hR).mono (by omega))
        intro z hz
        simp only [List.mem_cons, List.not_mem_nil, or_false] at hz
        rcases hz with rfl | rfl | rfl | rfl
        · exact way_nm _ hx
        · exact z1n
        · exact z2n
        · exact z3n
      have fin3 : ∀ (z1 z2 : Str) (H3 : Hp) (m : Nat), (x = "add" ∨ x = "tell" ∨ x = "copy" ∨ x = "ask" ∨ x = "get") → Nm z1 → Nm z2 → Kp b H1 H3 → Bag H3 b m → m ≤ n + 20 → ∀ R, H3 R = none → Q (.ref R) (upd H3 R (.tup [.str x, .str z1, .str z2])) := by
        intro z1 z2 H3 m hxx z1n z2n K3 B3 hm R hR
        refine k _ [x, z1, z2] _ (.tup upd_same (TpAll.strs [x, z1, z2])) ⟨.inr ⟨_, _, _, rfl, hxx⟩, ?_⟩ ((K1.trans K3).new hR) ((B3.new hR).mono hm)
        intro z hz
        simp only [List.mem_cons, List.not_mem_nil, or_false] at hz
        rcases hz with rfl | rfl | rfl
        · exact way_nm _ hx
        · exact z1n
        · exact z2n
      refine ⟨_, rfl, rfl, _, rfl, ?_⟩
      refine ite2 (fun h2 => ?_) (fun h2 => ?_)
      · have hx1 : x = "add" := by have := of_decide_eq_true h2; injection this
        refine ⟨_, rfl, _, rfl, _, rfl, b, li, _, ins, n + 1, rfl, B1, K1 li _ nib hi, lei, ni, by show _ ≤ 1000000; omega, fun z1 H2 z1m K2 B2 => ?_⟩
        have z1n := nmOr ni nm_in z1m
        refine ⟨_, rfl, _, rfl, b, li, _, ins, n + 3, rfl, B2, (K1.trans K2) li _ nib hi, lei, ni, by show _ ≤ 1000000; omega, fun z2 H3 z2m K3 B3 => ?_⟩
        have z2n := nmOr ni nm_in z2m
        exact ⟨(by show 3 ≤ sizeLine; decide), fin3 z1 z2 H3 _ (.inl hx1) z1n z2n (K2.trans K3) B3 (by omega)⟩
      refine ⟨_, rfl, rfl, _, rfl, ?_⟩
      refine ite2 (fun h3 => ?_) (fun h3 => ?_)
      · have hx1 : x = "ask" := by have := of_decide_eq_true h3; injection this
        refine ⟨_, rfl, fun v H2 => ∃ z : Str, v = .str z ∧ Nm z ∧ Kp b H1 H2 ∧ Bag H2 b (n + 2), ?_, ?_⟩
        · refine ⟨_, rfl, (by show 4 ≤ sizeLine; decide), fun q hq => ?_⟩
          refine ⟨_, rfl, b, 4, n + 1, rfl, by decide, by decide, B1.new hq, by show _ ≤ 1000000; omega, fun d H2 d0 d1 K2 B2 => ?_⟩
          have hq1 : H2 q = some (.lst ((["bank", "shop", "till", own] : List Str).map V.str)) := K2 q _ (new_ne hq B1) upd_same
          obtain ⟨z, e, hz⟩ := str_at (zs := ["bank", "shop", "till", own]) d0 d1
          refine ⟨q, _, _, _, rfl, rfl, SqL.of hq1, e, z, rfl, ?_, (Kp.refl.new hq).trans K2, B2⟩
          simp only [List.mem_cons, List.not_mem_nil, or_false] at hz
          rcases hz with rfl | rfl | rfl | rfl
          · exact nm_of (by decide +kernel)
          · exact nm_of (by decide +kernel)
          · exact nm_of (by decide +kernel)
          · exact hown
        · rintro v H2 ⟨z1, rfl, z1n, K2, B2⟩
          refine ⟨fun v H3 => ∃ z : Str, v = .str z ∧ Nm z ∧ Kp b H2 H3 ∧ Bag H3 b (n + 3), ?_, ?_⟩
          · refine ⟨(by show 3 ≤ sizeLine; decide), fun q hq => ?_⟩
            refine ⟨_, rfl, b, 3, n + 2, rfl, by decide, by decide, B2.new hq, by show _ ≤ 1000000; omega, fun d H3 d0 d1 K3 B3 => ?_⟩
            have hq1 : H3 q = some (.lst ((["pay", "see", "a"] : List Str).map V.str)) := K3 q _ (new_ne hq B2) upd_same
            obtain ⟨z, e, hz⟩ := str_at (zs := ["pay", "see", "a"]) d0 d1
            refine ⟨q, _, _, _, rfl, rfl, SqL.of hq1, e, z, rfl, ?_, (Kp.refl.new hq).trans K3, B3⟩
            simp only [List.mem_cons, List.not_mem_nil, or_false] at hz
            rcases hz with rfl | rfl | rfl
            · exact nm_of (by decide +kernel)
            · exact nm_of (by decide +kernel)
            · exact nm_of (by decide +kernel)
          · rintro v H3 ⟨z2, rfl, z2n, K3, B3⟩
            exact ⟨(by show 3 ≤ sizeLine; decide), fin3 z1 z2 H3 _ (.inr (.inr (.inr (.inl hx1)))) z1n z2n (K2.trans K3) B3 (by omega)⟩
      have hxx : x = "add" ∨ x = "tell" ∨ x = "copy" ∨ x = "ask" ∨ x = "get" := by
        have g1 : x ≠ "take" := fun e => h1 (decide_eq_true (by rw [e]))
        simp only [wayL, List.mem_cons, List.not_mem_nil, or_false] at hx
        rcases hx with e | e | e | e | e | e | e | e
        · exact absurd e g1
        · exact .inl e
        · exact .inr (.inl e)
        · exact .inr (.inr (.inl e))
        · exact .inr (.inr (.inr (.inl e)))
        · exact .inr (.inr (.inr (.inr e)))
        · exact .inr (.inl e)
        · exact .inr (.inr (.inl e))
      refine ⟨_, rfl, _, rfl, _, rfl, b, lo, _, outs, n + 1, rfl, B1, K1 lo _ nob ho, leo, no, by show _ ≤ 1000000; omega, fun z1 H2 z1m K2 B2 => ?_⟩
      have z1n := nmOr no nm_out z1m
      refine ⟨_, rfl, fun v H3 => ∃ (l : Addr) (zs : List Str), v = .ref l ∧ l ≠ b ∧ (∀ z ∈ zs, Nm z) ∧ zs.length ≤ 100 ∧ H3 l = some (.lst (zs.map V.str)) ∧ Kp b H2 H3 ∧ Bag H3 b (n + 3), ?_, ?_⟩
      · refine ⟨_, rfl, _, rfl, (by show 2 ≤ sizeLine; decide), fun q hq => ?_⟩
        refine ⟨_, rfl, rfl, .inr ⟨_, rfl, ?_⟩⟩
        have K3 : Kp b H2 (upd H2 q (.lst [.ref li, .ref lo])) := Kp.refl.new hq
        cases decide (V.str x = V.str "get") with
        | true => exact ⟨q, _, _, _, rfl, rfl, SqL.of upd_same, rfl, lo, outs, rfl, nob, no, leo, (K1.trans (K2.trans K3)) lo _ nob ho, K3, B2.new hq⟩
        | false => exact ⟨q, _, _, _, rfl, rfl, SqL.of upd_same, rfl, li, ins, rfl, nib, ni, lei, (K1.trans (K2.trans K3)) li _ nib hi, K3, B2.new hq⟩
      · rintro v H3 ⟨l, zs, rfl, nlb, nz, lz, hl, K3, B3⟩
        refine ⟨b, l, _, zs, n + 3, rfl, B3, hl, lz, nz, by show _ ≤ 1000000; omega, fun z2 H4 z2m K4 B4 => ?_⟩
        have z2n := nmOr nz nm_in z2m
        exact ⟨(by show 3 ≤ sizeLine; decide), fin3 z1 z2 H4 _ hxx z1n z2n ((K2.trans K3).trans K4) B4 (by omega)⟩
end
end Fh
set_option maxHeartbeats 4000000
namespace Fh
open PySem L2 PyProof.Rows
/-! ### records and calls as data -/
structure Rec where
  nm : Str
  fs : List Fld
def Rec.d (r : Rec) : PyData := .tuple [.str r.nm, .tuple (r.fs.map Fld.d)]
structure Act where
  num : Int
  nm : Str
  ask : Str
  back : Str
  deeds : List (List Str)
def deedD (ws : List Str) : PyData := .tuple (ws.map PyData.str)
def Act.d (a : Act) : PyData := .tuple [.int a.num, .str a.nm, .str a.ask, .str a.back, .tuple (a.deeds.map deedD)]
structure ActsOk (as : List Act) : Prop where
  len : as.length ≤ 6
  rise : (as.map (·.num)).Pairwise (· < ·)
  unl : (as.map (·.nm)).Nodup
  all : ∀ a ∈ as, (1 ≤ a.num ∧ a.num ≤ 30) ∧ Nm a.nm ∧ Nm a.ask ∧ Nm a.back ∧ a.deeds.length ≤ 6 ∧ ∀ ws ∈ a.deeds, DeedOk ws
theorem nm_form : Nm "form" := nm_of (by decide +kernel)
theorem nm_back : Nm "back" := nm_of (by decide +kernel)
/-! ### a dict of a list of pairs -/
theorem val_merge : ∀ (kvs acc : List (Key × V)) {j : Key} {u : V}, valV (mergeK acc kvs) j = some u → (j, u) ∈ kvs ∨ valV acc j = some u
  | [], _, _, _, h => .inr h
  | (k, v) :: r, acc, j, u, h => by
    rcases val_merge r (putK acc k v) h with h1 | h1
    · exact .inl (List.mem_cons_of_mem _ h1)
    · rw [valV_put] at h1
      by_cases e : j = k
      · rw [if_pos e] at h1
        cases h1
        exact .inl (by rw [e]; exact List.mem_cons_self)
      · rw [if_neg e] at h1
        exact .inr h1
theorem recs_pairs {K : PySem.W.Frag} {H : Hp} : ∀ {vs : List V} {rs : List Rec}, TpAll H vs (rs.map Rec.d) → ∃ (ps : List Addr) (kvs : List (Key × V)), vs = ps.map V.ref ∧ Paired (fun p kv => SqT K H p [kV kv.1, kv.2]) ps kvs ∧
    (∀ kv ∈ kvs, ∃ r ∈ rs, kv.1 = Sum.inr r.nm ∧ Tp H kv.2 (.tuple (r.fs.map Fld.d)))
  | _, [], h => by
    rw [h.inil]
    exact ⟨[], [], rfl, .nil, fun kv h => by cases h⟩
  | _, r :: rs, h => by
    obtain ⟨v, vr, rfl, h1, h2⟩ := h.icons
    obtain ⟨ps, kvs, e, pr, hk⟩ := recs_pairs (K := K) h2
    obtain ⟨a, xs, rfl, ha, h3⟩ := h1.inv
    obtain ⟨x1, xr, rfl, h4, h5⟩ := h3.icons
    obtain ⟨x2, xr2, rfl, h6, h7⟩ := h5.icons
    obtain rfl := h7.inil
    obtain rfl := h4.istr
    refine ⟨a :: ps, (Sum.inr r.nm, x2) :: kvs, by rw [e]; rfl, .cons (SqT.of ha) pr, fun kv hkv => ?_⟩
    rcases List.mem_cons.mp hkv with rfl | hkv
    · exact ⟨r, List.mem_cons_self, rfl, h6⟩
    · obtain ⟨r', hr', q⟩ := hk kv hkv
      exact ⟨r', List.mem_cons_of_mem _ hr', q⟩
theorem recs_ne_bag {H : Hp} {l b : Addr} {n : Nat} {vs : List V} {rs : List Rec} (hl : H l = some (.lst vs)) (tp : TpAll H vs (rs.map Rec.d)) (hb : Bag H b n) : l ≠ b := by
  rintro rfl
  obtain ⟨x, y, z, e, _⟩ := hb
  rw [hl] at e
  cases e
  cases rs with
  | nil => cases tp.inil
  | cons r rs =>
    obtain ⟨v, vr, e, h1, h2⟩ := tp.icons
    obtain ⟨a, xs, rfl, _⟩ := h1.inv
    cases e
def RecsOk (rs : List Rec) : Prop := rs.length ≤ 12 ∧ ∀ r ∈ rs, Nm r.nm ∧ r.fs.length ≤ 5 ∧ ∀ f ∈ r.fs, Nm f.nm
def spActs : Sp := fun vs H Q _ => ∃ (b rl : Addr) (own : Str) (ws : List V) (rs : List Rec) (n : Nat), vs = [.ref b, .str own, .ref rl] ∧ Bag H b n ∧ Nm own ∧ H rl = some (.lst ws) ∧ TpAll H ws (rs.map Rec.d) ∧ RecsOk rs ∧ n + 3000 ≤ most ∧
  ∀ (v : V) (as : List Act) (H' : Hp), Tp H' v (.tuple (as.map Act.d)) → ActsOk as → Kp b H H' → Bag H' b (n + 1000) → Q v H'
abbrev sActs : Stmt := top 14
abbrev nActs : List Str := ["_law_bag_here", "_law_own", "_law_found_forms", "_law_size", "_law_forms", "_law_found", "_law_mark", "_law_word", "_law_ask", "_law_back", "_law_sides", "_law_deeds", "_law_one", "_law_fields", "_law_field", "_law_turn"]
abbrev pActs : List Str := ["_law_bag_here", "_law_own", "_law_found_forms"]
abbrev cs1 : Scope := { kind := .function, names := [(".0", .local), ("_law_one", .local), ("dict", .globalImplicit), ("_law_found_forms", .cell)], isGenerator := false, isCoroutine := false, more := [] }
abbrev rDictP (K : PySem.W.Frag) : List V → Hp → VK → Prop := fun xs H Q => ∃ (a : Addr) (ps : List Addr) (kvs : List (Key × V)), xs = [.ref a] ∧ SqL K H a (ps.map V.ref) ∧ Paired (fun p kv => SqT K H p [kV kv.1, kv.2]) ps kvs ∧ ∀ p, H p = none → Q (.ref p) (upd H p (.dK (mergeK [] kvs)))
abbrev tSide (K : PySem.W.Frag) : TE := tLc (iTup K (tDGet2 (tCB (rDictP K) (tCons (tVar 2) tNil)) (tVar 12) (tTup tNil))) (gName 14) tYes (tOp (rIxT K) (tVar 14) (tC (.int 1))) [14]
theorem side_ok {K : PySem.W.Frag} {H : Hp} {rl : Addr} {ws : List V} {rs : List Rec} {z : Str} {s0 s1 s3 s4 s5 s6 s7 s8 s9 s10 s11 s13 s14 s15 : Option V} (hrl : H rl = some (.lst ws)) (tp : TpAll H ws (rs.map Rec.d)) (rok : RecsOk rs) :
    tSide K [s0, s1, some (.ref rl), s3, s4, s5, s6, s7, s8, s9, s10, s11, some (.str z), s13, s14, s15] H (fun v H' => ∃ (L : Addr) (zs : List Str), v = .ref L ∧ H L = none ∧ H' L = some (.lst (zs.map V.str)) ∧ zs.length ≤ 100 ∧ (∀ z ∈ zs, Nm z) ∧ Same H H') := by
  obtain ⟨ps, kvs, e, pr, hk⟩ := recs_pairs (K := K) tp
  refine ⟨_, rfl, rl, ps, kvs, rfl, SqL.of (by rw [← e]; exact hrl), pr, fun dd hdd => ⟨dd, rfl, .inl ⟨_, .inl upd_same⟩, _, rfl, Nat.zero_le _, fun e0 he0 => ?_⟩⟩
  have ndd : dd ≠ e0 := fun q => by rw [← q, upd_same] at he0; cases he0
  have hdd2 : (upd (upd H dd (.dK (mergeK [] kvs))) e0 (.tup [])) dd = some (.dK (mergeK [] kvs)) := by rw [upd_ne ndd, upd_same]
  have sm : Same H (upd (upd H dd (.dK (mergeK [] kvs))) e0 (.tup [])) := fun b o q => by
    have h1 : (upd H dd (.dK (mergeK [] kvs))) b = some o := by rw [upd_ne (ne_of_none q hdd)]; exact q
    rw [upd_ne (ne_of_none h1 he0)]
    exact h1
  have he1 : (upd (upd H dd (.dK (mergeK [] kvs))) e0 (.tup [])) e0 = some (.tup []) := upd_same
  generalize upd (upd H dd (.dK (mergeK [] kvs))) e0 (.tup []) = H2 at hdd2 sm he1
  refine ⟨_, DGet.k (k := Sum.inr z) hdd2, ?_⟩
  obtain ⟨a, xs, fs, ea, ha, tpx, lf, nf⟩ : ∃ (a : Addr) (xs : List V) (fs : List Fld), (valV (mergeK [] kvs) (Sum.inr z)).getD (.ref e0) = .ref a ∧ H2 a = some (.tup xs) ∧ TpAll H2 xs (fs.map Fld.d) ∧ fs.length ≤ 5 ∧ ∀ f ∈ fs, Nm f.nm := by
    cases hv : valV (mergeK [] kvs) (Sum.inr z) with
    | none => exact ⟨e0, [], [], rfl, he1, .nil, by decide, fun f h => by cases h⟩
    | some u =>
      rcases val_merge kvs [] hv with h1 | h1
      · obtain ⟨r, hr, _, tu⟩ := hk _ h1
        obtain ⟨a, xs, rfl, ha, h3⟩ := tu.inv
        exact ⟨a, xs, r.fs, rfl, sm _ _ ha, TpAll.keep (Same.tk sm) _ _ h3, (rok.2 r hr).2.1, (rok.2 r hr).2.2⟩
      · cases h1
  refine ⟨a, ea, ⟨_, SqT.of ha⟩, fun D hD => ?_⟩
  refine lc_it (walk_tup (K := K) (a := a) (xs := xs)) (fun j H3 => H3 = upd H2 D (.lst (((fs.map (·.nm)).map V.str).take j))) rfl ?_ ?_ ?_
  · rintro j H3 _ rfl
    exact SqT.of (by rw [upd_ne (ne_of_none ha hD)]; exact ha)
  · rintro j x H3 H4 hj rfl ⟨rfl, hx⟩
    obtain ⟨dd', hdd', tx⟩ := tpx.get' hx
    rw [List.getElem?_map] at hdd'
    cases er : fs[j]? with
    | none => rw [er] at hdd'; cases hdd'
    | some r =>
      rw [er] at hdd'
      cases hdd'
      obtain ⟨af, ys, rfl, haf, h3⟩ := tx.inv
      obtain ⟨x1, xr, rfl, h4, h5⟩ := h3.icons
      obtain ⟨x2, xr2, rfl, h6, h7⟩ := h5.icons
      obtain rfl := h6.istr
      refine ⟨rfl, yes (iteT ?_)⟩
      refine ⟨_, rfl, af, _, _, .str r.nm, rfl, rfl, SqT.of (by rw [upd_ne (ne_of_none haf hD)]; exact haf), atI_nat (j := 1) rfl, _, upd_same, take_sz (n := 5) (by rw [List.length_map, List.length_map]; exact lf) (by decide), put_next ?_⟩
      rw [List.getElem?_map, List.getElem?_map, er]
      rfl
  · rintro H3 rfl
    have lxs : xs.length = fs.length := by have := tpx.length; rw [List.length_map] at this; exact this
    rw [List.take_of_length_le (by rw [List.length_map, List.length_map, lxs]; exact Nat.le_refl _)]
    refine ⟨D, fs.map (·.nm), rfl, sm.free hD, upd_same, by rw [List.length_map]; omega, fun z' hz' => ?_, fun c o q => ?_⟩
    · obtain ⟨f, hf, rfl⟩ := List.mem_map.mp hz'
      exact nf f hf
    · rw [upd_ne (ne_of_none (sm _ _ q) hD)]
      exact sm _ _ q
section
variable {P : Program} {w : World} {K : PySem.W.Frag} {mg : Str → Option Value} {base : Heap}
theorem scActs : FnScope nActs pActs (defScope sActs) := ⟨rfl, rfl, rfl, by decide +kernel, rfl, by decide +kernel, by decide +kernel⟩
theorem ok_acts {f : Addr} {fd : FuncData} (F : Fun K "_law_acts_drawn" "_law_acts_drawn" sActs f fd) (G : Glb mg) (DT : Has P w K mg base "_law_take" 1 pTake spTake) (DP : Has P w K mg base "_law_pick" 2 pPick spPick) (DR : Has P w K mg base "_law_rising" 2 pRising spRising)
    (DU : Has P w K mg base "_law_unlike" 4 pTake spUnlike) (DD : Has P w K mg base "_law_deed_drawn" 3 pDeed spDeed) : FnOk P w K mg base CX0 5 f fd pActs spActs := by
  refine F.ok scActs (fun vs H Q E h => ?_) (fun cdv A outer s H vs Q E hr h => ?_)
  · obtain ⟨b, rl, own, ws, rs, n, rfl, _⟩ := h
    rfl
  · obtain ⟨b, rl, own, ws, rs, n, rfl, hB, hown, hrl, tpr, rok, hn, k⟩ := h
    have hn' : n + 3000 ≤ 1000000 := hn
    have hr1 : Room 1 _ := hr.mono (by decide)
    have hr2 : Room 2 _ := hr.mono (by decide)
    have hr3 : Room 3 _ := hr.mono (by decide)
    have hu := hu_of hr
    have nrb : rl ≠ b := recs_ne_bag hrl tpr hB
    refine ⟨_, pss_cons (ps_set (i := 3) scActs.nd rfl (Or.inl rfl) (pe_has DT hr1 rfl (pa_cons (pv 0) (pa_cons pe_int pa_nil))))
      (pss_cons (ps_par (i := 4) (j := 5) rfl scActs.nd rfl rfl (by decide) rfl rfl (pa_cons (pe_lc (own := [("_law_one", 12), ("_law_fields", 13)]) (g := gTup K 2 (gCons (gName 12) (gCons (gName 13) gNil))) (tt := tYes) (te := tVar 12) rfl scActs.nd (pi_list (pv 2)) (blkOk_by (N := nActs) (sc := defScope sActs) (by decide +kernel))
          (fun _ _ _ _ _ => pg_tup rfl (pgs_cons (pg_name (i := 12) scActs.nd rfl (Or.inl rfl)) (pgs_cons (pg_name (i := 13) scActs.nd rfl (Or.inl rfl)) pgs_nil))) (fun _ _ _ _ _ => pts_nil) (fun _ _ _ _ _ => pv 12)) (pa_cons (pe_lst pa_nil) pa_nil)) (by rfl))
      (pss_cons (ps_for PassesOwn.never rfl (pi_zip rfl G.zip (pa_cons (pe_has DR hr2 rfl (pa_cons (pv 0) (pa_cons (pv 3) (pa_cons pe_int pa_nil)))) (pa_cons (pe_has DU hr rfl (pa_cons (pv 0) (pa_cons (pv 3) pa_nil))) pa_nil)))
          (pg_tup rfl (pgs_cons (pg_name (i := 6) scActs.nd rfl (.inl rfl)) (pgs_cons (pg_name (i := 7) scActs.nd rfl (.inl rfl)) pgs_nil)))
        (pss_cons (ps_par (i := 8) (j := 9) rfl scActs.nd rfl rfl (by decide) rfl rfl (pa_cons (pe_has DP hr2 rfl (pa_cons (pv 0) (pa_cons (pv 4) (pa_cons pe_str pa_nil)))) (pa_cons (pe_has DP hr2 rfl (pa_cons (pv 0) (pa_cons (pv 4) (pa_cons pe_str pa_nil)))) pa_nil)) (by rfl))
        (pss_cons (ps_set (i := 10) scActs.nd rfl (Or.inr rfl) (pe_mid (pe_lc (own := [("_law_one", 12)]) (g := gName 12) (tt := tYes) (te := tMid (tSide K)) rfl scActs.nd (pi_tup (pe_tup (pa_cons (pv 8) (pa_cons (pv 9) pa_nil)))) (blkOk_by (N := nActs) (sc := defScope sActs) (by decide +kernel))
          (fun _ _ _ _ _ => pg_name (i := 12) scActs.nd rfl (Or.inl rfl)) (fun _ _ _ _ _ => pts_nil)
          (fun _ _ _ _ _ => pe_mid (pe_lc (own := [("_law_field", 14)]) (g := gName 14) (tt := tYes) (te := tOp (rIxT K) (tVar 14) (tC (.int 1))) rfl scActs.nd (pi_tup (pe_dget2 hu (pe_callTy (call_dictP rfl) (by rfl) G.dict (by decide +kernel) (pa_cons (pv 2) pa_nil)) (pv 12) (pe_tup pa_nil) ⟨rfl, rfl, rfl, rfl⟩)) (blkOk_by (N := nActs) (sc := cs1) (by decide +kernel))
            (fun _ _ _ _ _ => pg_name (i := 14) scActs.nd rfl (Or.inl rfl)) (fun _ _ _ _ _ => pts_nil) (fun _ _ _ _ _ => pe_ix ix_tup (pv 14) pe_int (fun _ _ => rfl)))))))
        (pss_cons (ps_setLc (i := 11) (own := [("_law_turn", 15)]) (g := gName 15) (tt := tYes) (te := tCall spDeed [] E0 (tCons (tVar 0) (tCons (tVar 1) (tCons (tOp (rIxL K) (tVar 10) (tC (.int 0))) (tCons (tOp (rIxL K) (tVar 10) (tC (.int 1))) tNil))))) rfl scActs.nd rfl rfl (sw_true rfl rfl rfl (by decide +kernel)) (pi_range1 rfl G.range (pa_cons (pe_has DT hr1 rfl (pa_cons (pv 0) (pa_cons pe_int pa_nil))) pa_nil)) (blkOk_by (N := nActs) (sc := defScope sActs) (by decide +kernel))
          (fun _ _ _ _ _ => pg_name (i := 15) scActs.nd rfl (Or.inl rfl)) (fun _ _ _ _ _ => pts_nil)
          (fun _ _ _ _ _ => pe_has DD hr3 rfl (pa_cons (pv 0) (pa_cons (pv 1) (pa_cons (pe_ix ix_list (pv 10) pe_int (fun _ _ => rfl)) (pa_cons (pe_ix ix_list (pv 10) pe_int (fun _ _ => rfl)) pa_nil))))))
        (pss_one (ps_expr (pe_bm PySem.F.plainAttrs_list PySem.F.slot_list_append PySem.F.type_list_append mt_append (pv 5) (pa_cons
          (pe_tup (pa_cons (pv 6) (pa_cons (pv 7) (pa_cons (pv 8) (pa_cons (pv 9) (pa_cons (pe_callTy call_tuple_of (by rfl) G.tuple (by decide +kernel) (pa_cons (pv 11) pa_nil)) pa_nil)))))) pa_nil))))))))
      (pss_one (ps_ret (pe_callTy call_tuple_of (by rfl) G.tuple (by decide +kernel) (pa_cons (pv 5) pa_nil)))))), ?_⟩
    refine ⟨_, rfl, b, 7, n, rfl, by decide, by decide, hB, by show _ ≤ 1000000; omega, fun size H1 y0 y1 K1 B1 => ?_⟩
    have nmR : ∀ z ∈ rs.map (·.nm), Nm z := fun z hz => by
      obtain ⟨r, hr', rfl⟩ := List.mem_map.mp hz
      exact (rok.2 r hr').1
    have lenR : (rs.map (·.nm)).length ≤ 100 := by rw [List.length_map]; have := rok.1; omega
    have hrl1 := K1 rl _ nrb hrl
    have tp1 := TpAll.keep (K1.tk hB) _ _ tpr
    refine ⟨_, rfl, rl, rfl, ⟨_, SqL.of hrl1⟩, fun FL hFL => ?_⟩
    refine lc_it (walk_list (K := K) (a := rl) (xs := ws)) (fun j H2 => H2 = upd H1 FL (.lst (((rs.map (·.nm)).map V.str).take j))) rfl ?_ ?_ ?_
    · rintro j H2 _ rfl
      exact SqL.of (by rw [upd_ne (ne_of_none hrl1 hFL)]; exact hrl1)
    · rintro j x H2 H3 hj rfl ⟨rfl, hx⟩
      obtain ⟨dd, hdd, tx⟩ := tp1.get' hx
      rw [List.getElem?_map] at hdd
      cases er : rs[j]? with
      | none => rw [er] at hdd; cases hdd
      | some r =>
        rw [er] at hdd
        cases hdd
        obtain ⟨a, xs, rfl, ha, h3⟩ := tx.inv
        obtain ⟨x1, xr, rfl, h4, h5⟩ := h3.icons
        obtain ⟨x2, xr2, rfl, h6, h7⟩ := h5.icons
        obtain rfl := h7.inil
        obtain rfl := h4.istr
        refine ⟨a, _, rfl, SqT.of (by rw [upd_ne (ne_of_none ha hFL)]; exact ha), rfl, _, _, rfl, _, _, rfl, rfl, rfl, yes (iteT ?_)⟩
        refine ⟨_, rfl, _, upd_same, take_sz (n := 12) (by rw [List.length_map, List.length_map]; exact rok.1) (by decide), put_next ?_⟩
        rw [List.getElem?_map, List.getElem?_map, er]
        rfl
    rintro H2 rfl
    have lws : ws.length = rs.length := by have := tpr.length; rw [List.length_map] at this; exact this
    rw [List.take_of_length_le (by rw [List.length_map, List.length_map, lws]; exact Nat.le_refl _)]
    refine ⟨Nat.zero_le _, fun C hC => ⟨_, _, rfl, ?_⟩⟩
    have K2 : Kp b H (upd (upd H1 FL (.lst ((rs.map (·.nm)).map V.str))) C (.lst [])) := (K1.new hFL).new hC
    have B2 : Bag (upd (upd H1 FL (.lst ((rs.map (·.nm)).map V.str))) C (.lst [])) b (n + 1) := (B1.new hFL).new hC
    have nFb : FL ≠ b := new_ne hFL B1
    have nCb : C ≠ b := new_ne hC (B1.new hFL)
    have nFC : FL ≠ C := fun e => by rw [← e, upd_same] at hC; cases hC
    have hF2 : (upd (upd H1 FL (.lst ((rs.map (·.nm)).map V.str))) C (.lst [])) FL = some (.lst ((rs.map (·.nm)).map V.str)) := by rw [upd_ne nFC, upd_same]
    have hC2 : (upd (upd H1 FL (.lst ((rs.map (·.nm)).map V.str))) C (.lst [])) C = some (.lst []) := upd_same
    have hC0 : H C = none := (K1.new hFL).free (B1.new hFL).at hC
    generalize (upd (upd H1 FL (.lst ((rs.map (·.nm)).map V.str))) C (.lst [])) = H2 at K2 B2 hF2 hC2
    refine ⟨_, rfl, _, rfl, b, size, 30, n + 1, rfl, B2, y0, by omega, by decide, by show _ ≤ 1000000; omega, fun M ns H3 hM2 hM3 ln hpw hxn K3 B3 => ?_⟩
    have nMb : M ≠ b := new_ne hM2 B2
    have nMC : M ≠ C := (ne_of_none hC2 hM2).symm
    refine ⟨_, rfl, _, rfl, b, size, n + 1 + 60, rfl, B3, y0, by omega, by show _ ≤ 1000000; omega, fun U zs H4 hU3 hU4 lz hnd hz K4 B4 => ?_⟩
    have nUb : U ≠ b := new_ne hU3 B3
    have hC3 := K3 C _ nCb hC2
    have nUC : U ≠ C := (ne_of_none hC3 hU3).symm
    have hM4 := K4 M _ nMb hM3
    have hC4 := K4 C _ nCb hC3
    have hF4 := K4 FL _ nFb (K3 FL _ nFb hF2)
    have K4' : Kp b H H4 := (K2.trans K3).trans K4
    have hlen : ns.length = zs.length := by omega
    refine ⟨M, U, _, _, rfl, SqL.of hM4, SqL.of hU4, ?_⟩
    refine RZ.for_zipL (K := K) (xs := ns.map V.int) (ys := zs.map V.str) (by rw [List.length_map, List.length_map]; exact hlen)
      (fun i σ H5 => (∃ a6 a7 a8 a9 a10 a11 a12 a13 a14 a15, σ = [some (.ref b), some (.str own), some (.ref rl), some (.int size), some (.ref FL), some (.ref C), a6, a7, a8, a9, a10, a11, a12, a13, a14, a15]) ∧ Kp b H H5 ∧ Bag H5 b (n + 200 + 130 * i) ∧ H5 M = some (.lst (ns.map V.int)) ∧ H5 U = some (.lst (zs.map V.str)) ∧ H5 FL = some (.lst ((rs.map (·.nm)).map V.str)) ∧
        ∃ (vs : List V) (as : List Act), H5 C = some (.lst vs) ∧ TpAll H5 vs (as.map Act.d) ∧ as.map (·.num) = ns.take i ∧ as.map (·.nm) = zs.take i ∧ ∀ a ∈ as, Nm a.ask ∧ Nm a.back ∧ a.deeds.length ≤ 6 ∧ ∀ ws ∈ a.deeds, DeedOk ws) ?_ ?_ ?_ ?_
    · exact ⟨⟨_, _, _, _, _, _, _, _, _, _, rfl⟩, K4', B4.mono (by omega), hM4, hU4, hF4, [], [], hC4, .nil, rfl, rfl, fun f h => by cases h⟩
    · rintro i σ H5 ⟨_, _, _, hM5, hU5, _⟩
      exact ⟨SqL.of hM5, SqL.of hU5⟩
    · rintro i x y T σ H5 hx' hy' ⟨⟨a6, a7, a8, a9, a10, a11, a12, a13, a14, a15, rfl⟩, K5, B5, hM5, hU5, hF5, vs, as, hC5, tp, e1, e2, hall⟩ hT
      obtain ⟨mk, hmk, rfl⟩ : ∃ u, ns[i]? = some u ∧ x = V.int u := by
        rw [List.getElem?_map] at hx'
        cases e : ns[i]? with
        | none => rw [e] at hx'; cases hx'
        | some u => rw [e] at hx'; exact ⟨u, rfl, (Option.some.inj hx').symm⟩
      obtain ⟨wd, hwd, rfl⟩ : ∃ u, zs[i]? = some u ∧ y = V.str u := by
        rw [List.getElem?_map] at hy'
        cases e : zs[i]? with
        | none => rw [e] at hy'; cases hy'
        | some u => rw [e] at hy'; exact ⟨u, rfl, (Option.some.inj hy').symm⟩
      have hi6 : i < 6 := by
        have := (List.getElem?_eq_some_iff.mp hmk).1
        omega
      have lvs : vs.length = i := by
        have h1 := tp.length
        have h2 : (as.map (·.num)).length = (ns.take i).length := by rw [e1]
        rw [List.length_map, List.length_take] at h2
        have := (List.getElem?_eq_some_iff.mp hmk).1
        rw [List.length_map] at h1
        omega
      refine ⟨T, _, rfl, SqT.of upd_same, rfl, _, _, rfl, _, _, rfl, rfl, ?_⟩
      have B6 := B5.new (o := .tup [.int mk, .str wd]) hT
      have K6 : Kp b H5 (upd H5 T (.tup [.int mk, .str wd])) := Kp.refl.new hT
      generalize upd H5 T (.tup [.int mk, .str wd]) = H6 at B6 K6
      refine ⟨_, rfl, _, rfl, b, FL, "form", rs.map (·.nm), n + 200 + 130 * i, rfl, B6, K6 FL _ nFb hF5, lenR, nmR, by show _ ≤ 1000000; omega, fun z1 H7 z1m K7 B7 => ?_⟩
      have z1n := nmOr nmR nm_form z1m
      refine ⟨_, rfl, _, rfl, b, FL, "back", rs.map (·.nm), n + 200 + 130 * i + 2, rfl, B7, K7 FL _ nFb (K6 FL _ nFb hF5), lenR, nmR, by show _ ≤ 1000000; omega, fun z2 H8 z2m K8 B8 => ⟨_, _, rfl, ?_⟩⟩
      have z2n := nmOr nmR nm_back z2m
      have K58 : Kp b H5 H8 := (K6.trans K7).trans K8
      have hrl8 : H8 rl = some (.lst ws) := (K5.trans K58) rl _ nrb hrl
      have tp8 : TpAll H8 ws (rs.map Rec.d) := TpAll.keep ((K5.trans K58).tk hB) _ _ tpr
      refine ⟨fun v H9 => ∃ (S L1 L2 : Addr) (ins outs : List Str), v = .ref S ∧ S ≠ b ∧ L1 ≠ b ∧ L2 ≠ b ∧ H9 S = some (.lst [.ref L1, .ref L2]) ∧ H9 L1 = some (.lst (ins.map V.str)) ∧ H9 L2 = some (.lst (outs.map V.str)) ∧ ins.length ≤ 100 ∧ outs.length ≤ 100 ∧ (∀ z ∈ ins, Nm z) ∧ (∀ z ∈ outs, Nm z) ∧ Kp b H8 H9 ∧ Bag H9 b (n + 200 + 130 * i + 4), ?_, ?_⟩
      · refine ⟨_, rfl, _, rfl, (by show 2 ≤ sizeLine; decide), fun q hq => ⟨q, rfl, ⟨_, SqT.of upd_same⟩, fun D hD => ?_⟩⟩
        have nDb : D ≠ b := new_ne hD (B8.new hq)
        have hD8 : H8 D = none := (Kp.refl.new hq).free (B8.new hq).at hD
        have hrl9 : (upd H8 q (.tup [.str z1, .str z2])) rl = some (.lst ws) := by rw [upd_ne (ne_of_none hrl8 hq)]; exact hrl8
        have nrD : rl ≠ D := ne_of_none hrl9 hD
        refine lc_it (walk_tup (K := K) (a := q) (xs := [.str z1, .str z2])) (fun j H9 => Kp b H8 H9 ∧ Bag H9 b (n + 200 + 130 * i + 4) ∧ H9 q = some (.tup [.str z1, .str z2]) ∧ ∃ Ls : List Addr, H9 D = some (.lst (Ls.map V.ref)) ∧ Ls.length = j ∧ ∀ L ∈ Ls, L ≠ b ∧ L ≠ D ∧ ∃ zs : List Str, H9 L = some (.lst (zs.map V.str)) ∧ zs.length ≤ 100 ∧ ∀ z ∈ zs, Nm z) ?_ ?_ ?_ ?_
        · exact ⟨(Kp.refl.new hq).new hD, ((B8.new hq).new hD).mono (by omega), (by rw [upd_ne (fun e => by rw [← e, upd_same] at hD; cases hD), upd_same]), [], upd_same, rfl, fun L h => by cases h⟩
        · rintro j H9 _ ⟨_, _, hq9, _⟩
          exact SqT.of hq9
        · rintro j x H9o H9 hj ⟨K9, B9, hq9, Ls, hD9, lLs, hLs⟩ ⟨rfl, hx⟩
          obtain ⟨z, rfl, zn⟩ : ∃ z : Str, x = .str z ∧ Nm z := by
            have hm := List.mem_of_getElem? hx
            simp only [List.mem_cons, List.not_mem_nil, or_false] at hm
            rcases hm with rfl | rfl
            · exact ⟨_, rfl, z1n⟩
            · exact ⟨_, rfl, z2n⟩
          refine ⟨rfl, yes (iteT ?_)⟩
          have tp9 : TpAll H9 ws (rs.map Rec.d) := TpAll.keep (K9.tk B8) _ _ tp8
          refine ⟨_, side_ok (K9 rl _ nrb hrl8) tp9 rok, ?_⟩
          rintro v H10 ⟨L, zs', rfl, hL9, hL10, lzs, nzs, sm⟩
          have nLb : L ≠ b := new_ne hL9 B9
          have nLD : L ≠ D := (ne_of_none hD9 hL9).symm
          have hj2 : j < 2 := hj
          refine ⟨_, sm _ _ hD9, by rw [List.length_map, lLs]; exact Nat.lt_trans hj2 (by decide), ?_⟩
          refine ⟨(K9.same sm).wr hD8, (B9.same sm).ne nDb, ?_, Ls ++ [L], ?_, by rw [List.length_append, lLs]; rfl, ?_⟩
          · have := sm _ _ hq9
            rw [upd_ne (fun e => by rw [e, sm _ _ hD9] at this; cases this)]
            exact this
          · rw [upd_same, List.map_append]; rfl
          · intro L' hL'
            rcases List.mem_append.mp hL' with h | h
            · obtain ⟨n1, n2, zs1, h1, h2⟩ := hLs L' h
              exact ⟨n1, n2, zs1, by rw [upd_ne n2]; exact sm _ _ h1, h2⟩
            · rw [List.mem_singleton.mp h]
              exact ⟨nLb, nLD, zs', by rw [upd_ne nLD]; exact hL10, lzs, nzs⟩
        · rintro H9 ⟨K9, B9, hq9, Ls, hD9, lLs, hLs⟩
          match Ls, lLs, hD9, hLs with
          | [L1, L2], _, hD9, hLs =>
            obtain ⟨n1, n2, zs1, h1, h2, h3⟩ := hLs L1 (by simp)
            obtain ⟨m1, m2, zs2, k1, k2, k3⟩ := hLs L2 (by simp)
            exact ⟨D, L1, L2, zs1, zs2, rfl, nDb, n1, m1, hD9, h1, k1, h2, k2, h3, k3, K9, B9⟩
      · rintro v H9 ⟨S, L1, L2, ins, outs, rfl, nSb, n1b, n2b, hS9, hL1, hL2, li, lo, ni, no, K9, B9⟩
        refine ⟨_, rfl, b, 7, n + 200 + 130 * i + 4, rfl, by decide, by decide, B9, by show _ ≤ 1000000; omega, fun cnt H10 c0 c1 K10 B10 => ?_⟩
        refine ⟨cnt, rfl, by omega, by omega, fun D hD => ?_⟩
        have nDb : D ≠ b := new_ne hD B10
        have K9D : Kp b H9 (upd H10 D (.lst [])) := K10.new hD
        have hD9 : H9 D = none := K10.free B10.at hD
        refine lc_range (lo := 0) (n := cnt.toNat) (fun j H11 => Kp b H9 H11 ∧ Bag H11 b (n + 200 + 130 * i + 5 + 20 * j) ∧ ∃ (us : List V) (dl : List (List Str)), H11 D = some (.lst us) ∧ TpAll H11 us (dl.map deedD) ∧ dl.length = j ∧ ∀ ws ∈ dl, DeedOk ws) ?_ ?_ ?_
        · exact ⟨K9D, (B10.new hD).mono (by omega), [], [], upd_same, .nil, rfl, fun w h => by cases h⟩
        · rintro j H11 hj ⟨K11, B11, us, dl, hD11, tpd, ldl, okd⟩
          refine ⟨rfl, yes (iteT ?_)⟩
          have hS11 := K11 S _ nSb hS9
          have lus : us.length = j := by have := tpd.length; rw [List.length_map] at this; omega
          refine ⟨_, rfl, _, rfl, _, rfl, S, _, _, _, rfl, rfl, SqL.of hS11, rfl, _, rfl, S, _, _, _, rfl, rfl, SqL.of hS11, rfl, b, L1, L2, own, ins, outs, n + 200 + 130 * i + 5 + 20 * j, rfl, B11, hown, K11 L1 _ n1b hL1, K11 L2 _ n2b hL2, li, lo, ni, no, by show _ ≤ 1000000; omega, fun v ws' H12 tv okw K12 B12 => ?_⟩
          have hD12 := K12 D _ nDb hD11
          refine ⟨us, hD12, by rw [lus]; exact Nat.lt_trans (show j < 7 by omega) (by decide), ?_⟩
          have tkW : Tk H12 (upd H12 D (.lst (us ++ [v]))) := Tk.wr hD12
          refine ⟨(K11.trans K12).wr hD9, (B12.mono (by omega)).ne nDb, us ++ [v], dl ++ [ws'], upd_same, ?_, by rw [List.length_append, ldl]; rfl, ?_⟩
          · rw [List.map_append]
            exact (TpAll.keep ((K12.tk B11).trans tkW) _ _ tpd).app (TpAll.one (Tp.keep tkW _ _ tv))
          · intro w hw
            rcases List.mem_append.mp hw with h | h
            · exact okd w h
            · rw [List.mem_singleton.mp h]; exact okw
        · rintro H11 ⟨K11, B11, us, dl, hD11, tpd, ldl, okd⟩
          have K5' : Kp b H5 H11 := (K58.trans K9).trans K11
          have hC11 := K5' C _ nCb hC5
          have lus : us.length = cnt.toNat := by have := tpd.length; rw [List.length_map] at this; omega
          refine ⟨_, rfl, .inl ⟨rfl, _, SqL.of hC11⟩, _, rfl, _, rfl, _, rfl, _, rfl, _, rfl, D, _, rfl, .inl ⟨SqL.of hD11, fun R hR => ?_⟩⟩
          refine ⟨(by show 5 ≤ sizeLine; decide), fun W hW => ?_⟩
          have nCR : C ≠ R := ne_of_none hC11 hR
          have hC12 : (upd H11 R (.tup us)) C = some (.lst vs) := by rw [upd_ne nCR]; exact hC11
          have nCW : C ≠ W := ne_of_none hC12 hW
          have hC13 : (upd (upd H11 R (.tup us)) W (.tup [.int mk, .str wd, .str z1, .str z2, .ref R])) C = some (.lst vs) := by rw [upd_ne nCW]; exact hC12
          refine ⟨C, _, _, rfl, rfl, hC13, by rw [lvs]; exact Nat.lt_trans hi6 (by decide), ?_⟩
          have tkE : Tk H11 (upd (upd (upd H11 R (.tup us)) W (.tup [.int mk, .str wd, .str z1, .str z2, .ref R])) C (.lst (vs ++ [.ref W]))) := ((Tk.new hR).trans (Tk.new hW)).trans (Tk.wr hC13)
          have hM11 := K5' M _ nMb hM5
          have hU11 := K5' U _ nUb hU5
          have hF11 := K5' FL _ nFb hF5
          have keepX : ∀ (X : Addr) (o : HO), X ≠ C → H11 X = some o → (upd (upd (upd H11 R (.tup us)) W (.tup [.int mk, .str wd, .str z1, .str z2, .ref R])) C (.lst (vs ++ [.ref W]))) X = some o := fun X o nXC hX => by
            have h1 : (upd H11 R (.tup us)) X = some o := by rw [upd_ne (ne_of_none hX hR)]; exact hX
            rw [upd_ne nXC, upd_ne (ne_of_none h1 hW)]
            exact h1
          refine ⟨⟨_, _, _, _, _, _, _, _, _, _, rfl⟩, (((K5.trans K5').new hR).new hW).wr hC0, (((B11.new hR).new hW).mono (by omega)).ne nCb, keepX M _ nMC hM11, keepX U _ nUC hU11, keepX FL _ nFC hF11, vs ++ [.ref W], as ++ [⟨mk, wd, z1, z2, dl⟩], upd_same, ?_, ?_, ?_, ?_⟩
          · rw [List.map_append]
            refine (TpAll.keep ((K5'.tk B5).trans tkE) _ _ tp).app (TpAll.one (.tup (by rw [upd_ne nCW.symm, upd_same]) (.cons (.int _) (.cons (.str _) (.cons (.str _) (.cons (.str _) (.cons ?_ .nil)))))))
            refine .tup ?_ (TpAll.keep tkE _ _ tpd)
            exact ((Tk.new hW).trans (Tk.wr hC13)) R _ upd_same
          · rw [List.map_append, e1, List.take_succ, hmk]; rfl
          · rw [List.map_append, e2, List.take_succ, hwd]; rfl
          · intro a ha
            rcases List.mem_append.mp ha with h | h
            · exact hall a h
            · rw [List.mem_singleton.mp h]
              exact ⟨z1n, z2n, by show dl.length ≤ 6; omega, okd⟩
    · rintro σ H5 ⟨⟨a6, a7, a8, a9, a10, a11, a12, a13, a14, a15, rfl⟩, K5, B5, hM5, hU5, hF5, vs, as, hC5, tp, e1, e2, hall⟩
      refine ⟨_, rfl, C, _, rfl, .inl ⟨SqL.of hC5, fun R hR => ?_⟩⟩
      rw [List.length_map, List.take_length] at e1
      rw [List.length_map, hlen, List.take_length] at e2
      have l1 : as.length = ns.length := by rw [← e1, List.length_map]
      refine k (.ref R) as _ (.tup upd_same (TpAll.keep (Tk.new hR) _ _ tp)) ⟨by omega, by rw [e1]; exact hpw, by rw [e2]; exact hnd, fun a ha => ⟨?_, ?_, hall a ha⟩⟩ (K5.new hR) ((B5.new hR).mono (by rw [List.length_map]; omega))
      · exact hxn _ (by rw [← e1]; exact List.mem_map.mpr ⟨a, ha, rfl⟩)
      · exact hz _ (by rw [← e2]; exact List.mem_map.mpr ⟨a, ha, rfl⟩)
end
end Fh
set_option maxHeartbeats 4000000
/-! tuple(zip(a, b)) of two lists of one length -/
namespace Fh
open PySem PySem.Spec PyProof.Rows L2
/-- the zip ahead of turn i -/
structure ZAt (h : Heap) (z TI TO i1 i2 l1 l2 S : Addr) (xs ys : Array Value) (i : Nat) : Prop where
  ti : PySem.IsPair h TI (.ref i1) (.ref i2)
  a1 : h.IsListIter i1 l1 i
  a2 : h.IsListIter i2 l2 i
  b1 : h.IsList l1 xs
  b2 : h.IsList l2 ys
  tt : ∃ a b, PySem.IsPair h TO a b
  zp : IsZip h z TI TO .none ∨ ∃ T f oT, IsZipHeld h z TI TO T f ∧ h.get? T = some oT ∧ T ≠ z ∧ T ≠ i1 ∧ T ≠ i2 ∧ T ≠ S
/-- the pairs given out so far -/
def Outs (h : Heap) (xs ys : Array Value) (bad : List Addr) (ps : List Addr) : Prop := ∀ (j : Nat) (p : Addr), ps[j]? = some p → p ∉ bad ∧ ∃ x y, xs[j]? = some x ∧ ys[j]? = some y ∧ PySem.IsPair h p x y
def lstO (ps : List Addr) (c : Nat) : Obj := { cls := .type "list", dict := none, data := .seq (ps.map Value.ref).toArray c, slots := #[] }
structure OffS (S z TI TO i1 i2 l1 l2 : Addr) : Prop where
  z : S ≠ z
  ti : S ≠ TI
  to : S ≠ TO
  a1 : S ≠ i1
  a2 : S ≠ i2
  b1 : S ≠ l1
  b2 : S ≠ l2
section
variable {prog : Program} {w : World} {A : Around} {R : Result → Shared → Prop} {z TI TO i1 i2 l1 l2 S : Addr} {xs ys : Array Value}
theorem ZAt.off {h h' : Heap} {i : Nat} (Z : ZAt h z TI TO i1 i2 l1 l2 S xs ys i) (o : OffS S z TI TO i1 i2 l1 l2) (k : ∀ b ob, b ≠ S → h.get? b = some ob → h'.get? b = some ob) : ZAt h' z TI TO i1 i2 l1 l2 S xs ys i := by
  refine ⟨k _ _ (Ne.symm o.ti) Z.ti, Z.a1.at fun ob e => k _ ob (Ne.symm o.a1) e, Z.a2.at fun ob e => k _ ob (Ne.symm o.a2) e, Z.b1.at fun ob e => k _ ob (Ne.symm o.b1) e, Z.b2.at fun ob e => k _ ob (Ne.symm o.b2) e, let ⟨a, b, q⟩ := Z.tt; ⟨a, b, k _ _ (Ne.symm o.to) q⟩, ?_⟩
  rcases Z.zp with hz | ⟨T, f, oT, hz, hT, r1, r2, r3, r4⟩
  · exact .inl (k _ _ (Ne.symm o.z) hz)
  · exact .inr ⟨T, f, oT, k _ _ (Ne.symm o.z) hz, k _ _ r4 hT, r1, r2, r3, r4⟩
theorem ext_zip (hA : A.in1.handled = none) (D : ZipApart z TI TO i1 i2 l1 l2) (o : OffS S z TI TO i1 i2 l1 l2) (hsz : xs.size = ys.size) (hn : xs.size < sizeLine) (res : Value) (B0 : Nat) :
    ∀ (k i : Nat) (s : Shared) (ps : List Addr) (c : Nat), xs.size - i = k → i ≤ xs.size → ZAt s.heap z TI TO i1 i2 l1 l2 S xs ys i → s.heap.get? S = some (lstO ps c) → ps.length = i → ps.Nodup → Outs s.heap xs ys [S, z, TO, i1, i2] ps → (∀ p ∈ ps, B0 ≤ p) → B0 ≤ s.heap.objs.size →
      (∀ (h' : Heap) (ps' : List Addr) (c' : Nat), (∀ b ob, b ∉ [S, z, TO, i1, i2] → s.heap.get? b = some ob → h'.get? b = some ob) → h'.get? S = some (lstO ps' c') → ps'.length = xs.size → ps'.Nodup → Outs h' xs ys [S, z, TO, i1, i2] ps' → (∀ p ∈ ps', B0 ≤ p) → R (.ok (.ret res)) { s with heap := h' }) →
      codeAny (model prog w) A (.builtin "list.extend.loop" ⟨[.ref S, .ref z, res], []⟩) R s := by
  intro k
  induction k with
  | zero =>
    intro i s ps c hk hi Z hS hl hnd hO hB hB0 hR
    have hin : i = xs.size := by omega
    (refine codeAny_builtin F.entry_extend_loop ?_; rw [Around.under_plainId F.plain_extend_loop _]; show wpAny _ A.in1 (pyNext (.ref z) >>= _) _ _ s; refine wpAny_bind ?_)
    have hend : xs[i]? = none ∨ ys[i]? = none := .inl (Array.getElem?_eq_none (by omega))
    have fin : ∀ h' : Heap, (∀ b ob, b ≠ z → b ≠ TO → b ≠ i1 → b ≠ i2 → s.heap.get? b = some ob → h'.get? b = some ob) → R (.ok (.ret res)) { s with heap := h' } := fun h' hk' => by
      refine hR h' ps c (fun b ob hb e => ?_) (hk' _ _ o.z o.to o.a1 o.a2 hS) (by omega) hnd (fun j p hp => ?_) hB
      · simp only [List.mem_cons, List.not_mem_nil, or_false, not_or] at hb
        exact hk' b ob hb.2.1 hb.2.2.1 hb.2.2.2.1 hb.2.2.2.2 e
      · obtain ⟨nb, x, y, hx, hy, hp'⟩ := hO j p hp
        refine ⟨nb, x, y, hx, hy, ?_⟩
        simp only [List.mem_cons, List.not_mem_nil, or_false, not_or] at nb
        exact hk' _ _ nb.2.1 nb.2.2.1 nb.2.2.2.1 nb.2.2.2.2 hp'
    obtain ⟨ta, tb, hTO⟩ := Z.tt
    rcases Z.zp with hz | ⟨T, f, oT, hz, hT, r1, r2, r3, r4⟩
    · exact wpAny_pyNext_zip_end hA D hz Z.ti hTO Z.a1 Z.a2 Z.b1 Z.b2 hend fun h' hk' => wpAny_pure (fin h' hk')
    · exact wpAny_pyNext_zip_end_held hA D hz hT Z.ti Z.a1 Z.a2 Z.b1 Z.b2 hend fun h' hk' => wpAny_pure (fin h' fun b ob n1 _ n3 n4 e => hk' b ob n1 n3 n4 e)
  | succ k ih =>
    intro i s ps c hk hi Z hS hl hnd hO hB hB0 hR
    have hlt : i < xs.size := by omega
    have hlt2 : i < ys.size := by omega
    have ex := Array.getElem?_eq_getElem hlt
    have ey := Array.getElem?_eq_getElem hlt2
    (refine codeAny_builtin F.entry_extend_loop ?_; rw [Around.under_plainId F.plain_extend_loop _]; show wpAny _ A.in1 (pyNext (.ref z) >>= _) _ _ s; refine wpAny_bind ?_)
    have lt : ∀ {c ob}, s.heap.get? c = some ob → s.heap.objs.size ≠ c := fun e => Nat.ne_of_gt (Heap.lt_size e)
    have n1 : s.heap.objs.size ≠ i1 := let ⟨_, e, _⟩ := Z.a1; lt e
    have n2 : s.heap.objs.size ≠ i2 := let ⟨_, e, _⟩ := Z.a2; lt e
    have nS : s.heap.objs.size ≠ S := lt hS
    have nz : s.heap.objs.size ≠ z := by
      rcases Z.zp with hz | ⟨T, f, oT, hz, _⟩
      · exact lt hz
      · exact lt hz
    have go : ∀ h' : Heap, s.heap.objs.size ≠ TO → ZAt h' z TI TO i1 i2 l1 l2 S xs ys (i + 1) → PySem.IsPair h' s.heap.objs.size xs[i] ys[i] → h'.objs.size = s.heap.objs.size + 1 →
        (∀ b ob, b ≠ z → b ≠ TO → b ≠ i1 → b ≠ i2 → s.heap.get? b = some ob → h'.get? b = some ob) →
        wpAny (model prog w) A.in1 (updateSeq S (·.push (.ref s.heap.objs.size)) >>= fun _ => again (.builtin "list.extend.loop" ⟨[.ref S, .ref z, res], []⟩)) (fun fin s' => match fin with
          | .done f => R (.ok f) s'
          | .again c' => c'.quiet = true ∧ codeAny (model prog w) A c' R s') (fun e s' => R (.error e) s') { s with heap := h' } := by
      intro h' nTO Z' hp' hsz' hk'
      have hS' : h'.get? S = some (lstO ps c) := hk' _ _ o.z o.to o.a1 o.a2 hS
      have szl : ((ps.map Value.ref).toArray).size = i := by simp [hl]
      refine wpAny_bind (wpAny_updateSeq (s := { s with heap := h' }) hS' rfl (wpAny_pure ⟨plainId_quiet F.plain_extend_loop _, ?_⟩) (by rw [szl]; omega) (by show (((ps.map Value.ref).toArray).push _).size ≤ sizeLine + 1; rw [Array.size_push, szl]; omega))
      have oth : ∀ b ob, b ≠ S → h'.get? b = some ob → (h'.update S (Obj.mapSeq (·.push (.ref s.heap.objs.size)))).get? b = some ob := fun b ob hb e => (Heap.get?_update_other _ _ (Ne.symm hb)).trans e
      have hS2 := Heap.get?_update_self (Obj.mapSeq (·.push (Value.ref s.heap.objs.size))) hS' rfl
      have eA : ((ps.map Value.ref).toArray.push (Value.ref s.heap.objs.size)) = ((ps ++ [s.heap.objs.size]).map Value.ref).toArray := by simp
      have hS3 : ∃ c', (h'.update S (Obj.mapSeq (·.push (Value.ref s.heap.objs.size)))).get? S = some (lstO (ps ++ [s.heap.objs.size]) c') := by
        rw [hS2]
        unfold lstO
        rw [← eA]
        exact ⟨_, rfl⟩
      obtain ⟨c', hS4⟩ := hS3
      have sz2 : (h'.update S (Obj.mapSeq (·.push (Value.ref s.heap.objs.size)))).objs.size = h'.objs.size := by simp
      have kept : ∀ b ob, b ∉ [S, z, TO, i1, i2] → s.heap.get? b = some ob → (h'.update S (Obj.mapSeq (·.push (Value.ref s.heap.objs.size)))).get? b = some ob := fun b ob hb e => by
        simp only [List.mem_cons, List.not_mem_nil, or_false, not_or] at hb
        exact oth b ob hb.1 (hk' b ob hb.2.1 hb.2.2.1 hb.2.2.2.1 hb.2.2.2.2 e)
      refine ih (i + 1) { s with heap := h'.update S (Obj.mapSeq (·.push (Value.ref s.heap.objs.size))) } (ps ++ [s.heap.objs.size]) c' (by omega) hlt (Z'.off o oth) hS4 (by rw [List.length_append, hl]; rfl) ?_ ?_ ?_ ?_ ?_
      · rw [List.nodup_append]
        refine ⟨hnd, List.nodup_cons.mpr ⟨fun h => (nomatch h), List.nodup_nil⟩, fun a ha b hb e => ?_⟩
        rw [List.mem_singleton.mp hb] at e
        obtain ⟨j, hj⟩ := List.getElem?_of_mem ha
        obtain ⟨_, x, y, _, _, hp⟩ := hO j a hj
        exact lt hp e.symm
      · intro j p hp
        rw [List.getElem?_append] at hp
        split at hp
        · obtain ⟨nb, x, y, hx, hy, hp2⟩ := hO j p hp
          exact ⟨nb, x, y, hx, hy, kept p _ nb hp2⟩
        · rename_i hj
          have hj' : j - ps.length = 0 := by
            by_cases e : j - ps.length = 0
            · exact e
            · rw [List.getElem?_eq_none (by simp; omega)] at hp
              cases hp
          rw [hj'] at hp
          have hjj : j = i := by omega
          subst hjj
          cases hp
          refine ⟨?_, xs[j], ys[j], ex, ey, oth _ _ nS hp'⟩
          simp only [List.mem_cons, List.not_mem_nil, or_false, not_or]
          exact ⟨nS, nz, nTO, n1, n2⟩
      · intro p hp
        rcases List.mem_append.mp hp with h | h
        · exact hB p h
        · rw [List.mem_singleton.mp h]; exact hB0
      · show B0 ≤ (h'.update S (Obj.mapSeq (·.push (Value.ref s.heap.objs.size)))).objs.size
        rw [sz2, hsz']
        omega
      · intro h'' ps' c'' hk'' hS'' hl'' hnd'' hO'' hB''
        exact hR h'' ps' c'' (fun b ob hb e => hk'' b ob hb (kept b ob hb e)) hS'' hl'' hnd'' hO'' hB''
    obtain ⟨ta, tb, hTO⟩ := Z.tt
    rcases Z.zp with hz | ⟨T, f, oT, hz, hT, r1, r2, r3, r4⟩
    · refine wpAny_pyNext_zip_item D hz Z.ti hTO Z.a1 Z.a2 Z.b1 Z.b2 ex ey fun h' q1 q2 q3 q4 q5 q6 hk' => ?_
      exact go h' (lt hTO) ⟨hk' _ _ D.TIz D.TITO D.TIi1 D.TIi2 Z.ti, q3, q4, Z.b1.at fun ob e => hk' _ ob D.l1z D.l1TO D.l1i1 D.l1i2 e, Z.b2.at fun ob e => hk' _ ob D.l2z D.l2TO D.l2i1 D.l2i2 e, ⟨_, _, q2⟩, .inr ⟨s.heap.objs.size, false, _, q1, q5, nz, n1, n2, nS⟩⟩ q5 q6 hk'
    · refine wpAny_pyNext_zip_item_held D hz hT Z.ti Z.a1 Z.a2 Z.b1 Z.b2 ex ey fun h' q1 q3 q4 q5 q6 hk' => ?_
      exact go h' (lt hTO) ⟨hk' _ _ D.TIz D.TIi1 D.TIi2 Z.ti, q3, q4, Z.b1.at fun ob e => hk' _ ob D.l1z D.l1i1 D.l1i2 e, Z.b2.at fun ob e => hk' _ ob D.l2z D.l2i1 D.l2i2 e, ⟨_, _, hk' _ _ D.TOz D.TOi1 D.TOi2 hTO⟩, .inr ⟨T, true, oT, q1, hk' _ _ r1 r2 r3 hT, r1, r2, r3, r4⟩⟩ q5 q6 (fun b ob n1 _ n3 n4 e => hk' b ob n1 n3 n4 e)
end
/-! ### the tuple of it -/
theorem zip_nolen : typeLookup (.type "zip") "__len__" = pure none := am_miss_of_fast (by decide +kernel)
theorem zip_nohint : typeLookup (.type "zip") "__length_hint__" = pure none := am_miss_of_fast (by decide +kernel)
def emptyL : Obj := { cls := .type "list", data := .seq ([] : List Value).toArray }
section
variable {prog : Program} {w : World} {A : Around} {E : Value → Shared → Prop} {s : Shared} {z TI TO i1 i2 l1 l2 : Addr} {xs ys : Array Value}
theorem collect_zip {Q : List Value → Shared → Prop} (hA : A.handled = none) (D : ZipApart z TI TO i1 i2 l1 l2) (hsz : xs.size = ys.size) (hn : xs.size < sizeLine)
    (ti : PySem.IsPair s.heap TI (.ref i1) (.ref i2)) (a1 : s.heap.IsListIter i1 l1 0) (a2 : s.heap.IsListIter i2 l2 0) (b1 : s.heap.IsList l1 xs) (b2 : s.heap.IsList l2 ys) (hz : IsZip s.heap z TI TO .none) (tt : ∃ a b, PySem.IsPair s.heap TO a b)
    (hQ : ∀ (h' : Heap) (ps : List Addr), (∀ b ob, b ∉ [z, TO, i1, i2] → s.heap.get? b = some ob → h'.get? b = some ob) → ps.length = xs.size → ps.Nodup → Outs h' xs ys [] ps → (∀ p ∈ ps, s.heap.objs.size ≤ p) → Q (ps.map Value.ref) { s with heap := h' }) :
    wpAny (model prog w) A (collect (.ref z)) Q E s := by
  have lt : ∀ {c ob}, s.heap.get? c = some ob → s.heap.objs.size ≠ c := fun e => Nat.ne_of_gt (Heap.lt_size e)
  have o : OffS s.heap.objs.size z TI TO i1 i2 l1 l2 := ⟨lt hz, lt ti, let ⟨_, _, q⟩ := tt; lt q, let ⟨_, e, _⟩ := a1; lt e, let ⟨_, e, _⟩ := a2; lt e, let ⟨_, e, _⟩ := b1; lt e, let ⟨_, e, _⟩ := b2; lt e⟩
  have hT1 : ({ s with heap := s.heap.push emptyL } : Shared).TypeIs (.ref z) "zip" := ⟨_, Heap.get?_push_of_some _ hz, rfl⟩
  unfold collect
  (refine wpAny_bind (wpAny_runValue (codeAny_builtin F.entry_proto_collect ?_)); rw [Around.under_plainId F.plain_proto_collect _])
  (show wpAny _ A.in1 (newList [] >>= fun l' => again (.builtin "list.__iadd__" ⟨[l', .ref z], []⟩)) _ _ s; refine wpAny_bind (wpAny_newObj_type ?_))
  (refine wpAny_pure ⟨plainId_quiet F.plain_list_iadd _, codeAny_builtin F.entry_list_iadd ?_⟩; rw [Around.under_plainId F.plain_list_iadd _])
  show wpAny _ A.in1 (Builtin.List.listExtendWith (.ref s.heap.objs.size) (.ref z) (.ref s.heap.objs.size)) _ _ { s with heap := s.heap.push emptyL }
  unfold Builtin.List.listExtendWith
  refine wpAny_bind (wpAny_typeOf hT1 ?_)
  have g1 : Builtin.List.listSameRef (.ref s.heap.objs.size) (.ref z) = false := by simp [Builtin.List.listSameRef, o.z]
  have g2 : (Value.type "zip" == Value.type "list") = false := by decide
  have g3 : (Value.type "zip" == Value.type "tuple") = false := by decide
  simp only [g1, g2, g3, Bool.or_false, Bool.false_eq_true, if_false]
  refine wpAny_bind (wpAny_pyIter_zip (s := { s with heap := s.heap.push emptyL }) (Heap.get?_push_of_some _ hz) ?_)
  (refine wpAny_bind (wpAny_holding ?_); unfold Builtin.List.listLengthHint; refine wpAny_bind (wpAny_specialOf hT1 zip_nolen ?_))
  (show wpAny _ A.in1 (specialOf (Value.ref z) (Str.ofString "__length_hint__") >>= _) _ _ _; refine wpAny_bind (wpAny_specialOf hT1 zip_nohint ?_); refine wpAny_pure ?_)
  show wpAny _ A.in1 (rule "list.extend.makes-room" >>= fun _ => Builtin.List.listTouch (.ref s.heap.objs.size) >>= fun _ => again (.builtin "list.extend.loop" ⟨[.ref s.heap.objs.size, .ref z, .ref s.heap.objs.size], []⟩)) _ _ _
  refine wpAny_bind (wpAny_rule ?_)
  have t1 : (s.heap.push emptyL).get? s.heap.objs.size = some emptyL := Heap.get?_push_size _ rfl
  refine wpAny_bind ?_
  show wpAny _ A.in1 (updateSeq s.heap.objs.size (·.push .none) >>= fun _ => updateSeq s.heap.objs.size (·.pop)) _ _ { s with heap := s.heap.push emptyL }
  refine wpAny_bind (wpAny_updateSeq (s := { s with heap := s.heap.push emptyL }) t1 rfl ?_)
  have t2 := Heap.get?_update_self (Obj.mapSeq (·.push Value.none)) t1 rfl
  refine wpAny_updateSeq (s := { s with heap := (s.heap.push emptyL).update s.heap.objs.size (Obj.mapSeq (·.push Value.none)) }) t2 rfl ?_
  have t3 := Heap.get?_update_self (Obj.mapSeq (·.pop)) t2 rfl
  have oth : ∀ b ob, b ≠ s.heap.objs.size → s.heap.get? b = some ob → (((s.heap.push emptyL).update s.heap.objs.size (Obj.mapSeq (·.push Value.none))).update s.heap.objs.size (Obj.mapSeq (·.pop))).get? b = some ob := fun b ob hb e =>
    (Heap.get?_update_other _ _ (Ne.symm hb)).trans ((Heap.get?_update_other _ _ (Ne.symm hb)).trans (Heap.get?_push_of_some _ e))
  have Z0 : ZAt s.heap z TI TO i1 i2 l1 l2 s.heap.objs.size xs ys 0 := ⟨ti, a1, a2, b1, b2, tt, .inl hz⟩
  have t4 : ∃ c, (((s.heap.push emptyL).update s.heap.objs.size (Obj.mapSeq (·.push Value.none))).update s.heap.objs.size (Obj.mapSeq (·.pop))).get? s.heap.objs.size = some (lstO [] c) := ⟨_, t3⟩
  obtain ⟨c, t5⟩ := t4
  have bsz : s.heap.objs.size ≤ (((s.heap.push emptyL).update s.heap.objs.size (Obj.mapSeq (·.push Value.none))).update s.heap.objs.size (Obj.mapSeq (·.pop))).objs.size := by simp
  refine wpAny_pure ⟨plainId_quiet F.plain_extend_loop _, ext_zip (S := s.heap.objs.size) hA D o hsz hn _ s.heap.objs.size xs.size 0 { s with heap := ((s.heap.push emptyL).update s.heap.objs.size (Obj.mapSeq (·.push Value.none))).update s.heap.objs.size (Obj.mapSeq (·.pop)) } [] c (by omega) (Nat.zero_le _) (Z0.off o oth) t5 rfl List.nodup_nil (fun j p h => by simp at h) (fun p h => by cases h) bsz fun h' ps c' hk' hS' hl hnd hO hB => ?_⟩
  (show wpAny _ A (load s.heap.objs.size >>= _) _ _ _; refine wpAny_bind (wpAny_load (s := { s with heap := h' }) hS' ?_); refine wpAny_pure ?_)
  have e : ((ps.map Value.ref).toArray).toList = ps.map Value.ref := by simp
  show Q ((ps.map Value.ref).toArray).toList { s with heap := h' }
  rw [e]
  refine hQ h' ps (fun b ob hb q => ?_) hl hnd (fun j p hp => ⟨fun h => (nomatch h), (hO j p hp).2⟩) hB
  have nS : b ≠ s.heap.objs.size := fun e => lt q e.symm
  refine hk' b ob (fun hm => ?_) (oth b ob nS q)
  rcases List.mem_cons.mp hm with h | h
  · exact nS h
  · exact hb h
theorem code_tuple_zip {Q1 : Value → Shared → Prop} (hA : A.handled = none) (D : ZipApart z TI TO i1 i2 l1 l2) (hsz : xs.size = ys.size) (hn : xs.size < sizeLine)
    (ti : PySem.IsPair s.heap TI (.ref i1) (.ref i2)) (a1 : s.heap.IsListIter i1 l1 0) (a2 : s.heap.IsListIter i2 l2 0) (b1 : s.heap.IsList l1 xs) (b2 : s.heap.IsList l2 ys) (hz : IsZip s.heap z TI TO .none) (tt : ∃ a b, PySem.IsPair s.heap TO a b)
    (hQ : ∀ (h' : Heap) (ps : List Addr), (∀ b ob, b ∉ [z, TO, i1, i2] → s.heap.get? b = some ob → h'.get? b = some ob) → ps.length = xs.size → ps.Nodup → Outs h' xs ys [] ps → (∀ p ∈ ps, s.heap.objs.size ≤ p) → Q1 (.ref h'.objs.size) { s with heap := h'.push { cls := .type "tuple", data := .seq (ps.map Value.ref).toArray } }) :
    codeAny (model prog w) A (.call (.builtin "tuple.__new__") ⟨[.type "tuple", .ref z], []⟩) (wants Q1 E) s := by
  refine codeAny_of_tree ?_
  show wpAny _ A.in1 (do checkBuiltinCall "tuple.__new__" ⟨[.type "tuple", .ref z], []⟩; again (.builtin "tuple.__new__" ⟨[.type "tuple", .ref z], []⟩)) _ _ s
  (refine wpAny_bind (wpAny_of_eq (F.newCall_tuple_1 _) (wpAny_pure ⟨plainId_quiet F.plain_tuple_new _, codeAny_builtin F.entry_tuple_new ?_⟩)); rw [Around.under_plainId F.plain_tuple_new _])
  have f1 := sub_tuple_self
  have f2 := init_tuple_lookup
  have f3 := madeHere_tuple
  have f4 : s.TypeIs (.ref z) "zip" := ⟨_, hz, rfl⟩
  have hA1 : A.in1.handled = none := hA
  wp_walk using wpAny_typeOf f4, collect_zip (A := A.in1) hA1 D hsz hn ti a1 a2 b1 b2 hz tt
  intro h' ps hk hl hnd hO hB
  show wpAny _ _ (Builtin.Tuple.tupleExact (ps.map Value.ref).toArray >>= fun v => ret v) _ _ { s with heap := h' }
  unfold Builtin.Tuple.tupleExact
  refine wpAny_bind (wpAny_newObj_type ?_ (by show ((ps.map Value.ref).toArray).size ≤ sizeLine; simp; omega))
  exact wpAny_pure (hQ h' ps hk hl hnd hO hB)
theorem call_tuple_zip {Q : Value → Shared → Prop} (hA : A.handled = none) (D : ZipApart z TI TO i1 i2 l1 l2) (hsz : xs.size = ys.size) (hn : xs.size < sizeLine)
    (ti : PySem.IsPair s.heap TI (.ref i1) (.ref i2)) (a1 : s.heap.IsListIter i1 l1 0) (a2 : s.heap.IsListIter i2 l2 0) (b1 : s.heap.IsList l1 xs) (b2 : s.heap.IsList l2 ys) (hz : IsZip s.heap z TI TO .none) (tt : ∃ a b, PySem.IsPair s.heap TO a b)
    (hQ : ∀ (h' : Heap) (ps : List Addr), (∀ b ob, b ∉ [z, TO, i1, i2] → s.heap.get? b = some ob → h'.get? b = some ob) → ps.length = xs.size → ps.Nodup → Outs h' xs ys [] ps → (∀ p ∈ ps, s.heap.objs.size ≤ p) → Q (.ref h'.objs.size) { s with heap := h'.push { cls := .type "tuple", data := .seq (ps.map Value.ref).toArray } }) :
    wpAny (model prog w) A (call (.type "tuple") [.ref z]) Q E s := by
  refine callType_codes (Q₁ := fun obj s1 => s1.TypeIs obj "tuple" ∧ Q obj s1) F.called_tuple (F.typeCall_tuple_1 _) F.entry_object_init
    (code_tuple_zip (A := A.in1) hA D hsz hn ti a1 a2 b1 b2 hz tt fun h' ps hk hl hnd hO hB => ⟨⟨_, Heap.get?_push_size _ rfl, rfl⟩, hQ h' ps hk hl hnd hO hB⟩) fun obj s1 q => ?_
  exact ⟨q.1, F.args_object_init_2 obj _, object_init_meets F.called_tuple.init.lookup F.called_tuple.made (by decide) prog w A.in1 _ s1 ⟨q.1, rfl, q.2⟩⟩
end
end Fh
set_option maxHeartbeats 4000000
namespace Fh
open PySem PySem.Spec PyProof.Rows L2
theorem hok_add {P : Program} {w : World} {H : Hp} {h : Heap} {a : Addr} {xs : List V} {its : List Value} (ok : HOk P w H h) (hn : H a = none) (hz : xs.length ≤ sizeLine) (r : Vals xs its) (ht : IsTup h a its.toArray) : HOk P w (upd H a (.tup xs)) h := fun b u e => by
  by_cases hb : b = a
  · subst hb
    rw [upd_same] at e
    cases e
    exact ⟨hz, its, r, ht⟩
  · rw [upd_ne hb] at e
    exact (ok b u e).stay (fun c v _ q => q) (fun c q => by rw [upd_ne (ne_of_none q hn)]; exact q) fun c ys q => by rw [upd_ne (ne_of_none q hn)]; exact q
theorem inv_grow {X : Cx} {pins : List (Addr × Obj)} {σ : L2.St} {H H' : Hp} {s : Shared} {h' : Heap} {t' : Nat} (I : Inv X pins σ H s) (k : ∀ b u, s.heap.get? b = some u → h'.get? b = some u) (hs : Same H H')
    (hf : ∀ b o, s.heap.get? b = some o → H b = none → H' b = none) (hok : HOk X.prog X.w H' h') : Inv X pins σ H' { s with heap := h', toks := t' } :=
  I.un ⟨fun b ob q _ _ _ => k b ob q, fun b ob q _ _ _ => ⟨ob.slots, k b ob q⟩, fun b ob q n _ => hf b ob q n, fun b ob q _ => ⟨ob, k b ob q⟩, fun b xs q => hs _ _ q, fun b o u q => hs _ _ q, fun b ps q => ⟨#[], by rw [hs _ _ q]; simp⟩⟩ hok
/-- pairs laid one after another -/
def putP (H : Hp) : List (Addr × V × V) → Hp
  | [] => H
  | (p, x, y) :: r => upd (putP H r) p (.tup [x, y])
theorem putP_out {H : Hp} {a : Addr} : ∀ {l : List (Addr × V × V)}, a ∉ l.map (·.1) → putP H l a = H a
  | [], _ => rfl
  | (p, x, y) :: r, h => by
    have h1 : a ≠ p := fun e => h (by rw [e]; exact List.mem_cons_self)
    have h2 : a ∉ r.map (·.1) := fun e => h (List.mem_cons_of_mem _ e)
    show upd (putP H r) p (.tup [x, y]) a = _
    rw [upd_ne h1, putP_out h2]
theorem putP_at {H : Hp} : ∀ {l : List (Addr × V × V)} {q : Addr × V × V}, (l.map (·.1)).Nodup → q ∈ l → putP H l q.1 = some (.tup [q.2.1, q.2.2])
  | (p, x, y) :: r, q, hn, hq => by
    obtain ⟨h1, h2⟩ := List.nodup_cons.mp hn
    show upd (putP H r) p (.tup [x, y]) q.1 = _
    rcases List.mem_cons.mp hq with rfl | hq
    · rw [upd_same]
    · have hne : q.1 ≠ p := fun e => h1 (by rw [← e]; exact List.mem_map.mpr ⟨q, hq, rfl⟩)
      rw [upd_ne hne, putP_at h2 hq]
theorem hok_putP {P : Program} {w : World} {H : Hp} {h : Heap} (ok : HOk P w H h) : ∀ {l : List (Addr × V × V)}, (l.map (·.1)).Nodup → (∀ q ∈ l, H q.1 = none ∧ ∃ u v, RelV q.2.1 u ∧ RelV q.2.2 v ∧ PySem.IsPair h q.1 u v) → HOk P w (putP H l) h
  | [], _, _ => ok
  | (p, x, y) :: r, hn, hq => by
    obtain ⟨h1, h2⟩ := List.nodup_cons.mp hn
    obtain ⟨hp, u, v, ru, rv, hpr⟩ := hq (p, x, y) List.mem_cons_self
    refine hok_add (its := [u, v]) (hok_putP ok h2 fun q h => hq q (List.mem_cons_of_mem _ h)) (by rw [putP_out h1]; exact hp) (by show 2 ≤ sizeLine; decide) (.cons ru (.cons rv .nil)) ⟨_, hpr, rfl, _, rfl⟩
def tTupZip (K : PySem.W.Frag) (ta : TA) : TE := fun σ H Q => ta σ H fun vs H1 => ∃ (a b : Addr) (xs ys : List V), vs = [.ref a, .ref b] ∧ SqL K H1 a xs ∧ SqL K H1 b ys ∧ xs.length = ys.length ∧ xs.length < sizeLine ∧
  ∀ (R : Addr) (ps : List Addr) (H2 : Hp), Same H1 H2 → H1 R = none → H2 R = some (.tup (ps.map V.ref)) → ps.length = xs.length → (∀ (j : Nat) (p : Addr) (x y : V), ps[j]? = some p → xs[j]? = some x → ys[j]? = some y → H2 p = some (.tup [x, y])) → Q (.ref R) H2
theorem vals_refs : ∀ ps : List Addr, Vals (ps.map V.ref) (ps.map Value.ref)
  | [] => .nil
  | p :: r => .cons rfl (vals_refs r)
theorem pe_tupZip {X : Cx} {e e2 : Expr} {ta : TA} {p p2 pos pos2 : Pos} (hc : X.calm = true) (hg : Gl X "tuple") (hm : X.mg "tuple" = none) (hg2 : Gl X "zip") (hm2 : X.mg "zip" = none) (ha : PA X [e, e2] ta)
    (hs : starEach [e, e2] X.env = (false, eval e X.env) :: starEach [e2] X.env := by rfl) (hpl : (backTo pos2 (starEach [e2] X.env)).any (·.1) = false := by rfl)
    (hs2 : starEach [.Call (.Name "zip" p2) [e, e2] [] pos2] X.env = (false, eval (.Call (.Name "zip" p2) [e, e2] [] pos2) X.env) :: starEach [] X.env := by rfl) :
    PE X (.Call (.Name "tuple" p) [.Call (.Name "zip" p2) [e, e2] [] pos2] [] pos) (tTupZip X.K ta) := by
  refine ⟨fun pins s σ H Q I h => ?_⟩
  refine Call_ (ld_blt I hg hm boot_tuple (PyProof.Rows.callWith_type1 (args_cons (Call_ (ld_blt I hg2 hm2 PyProof.Rows.boot_zip (PyProof.Rows.callWith_type1 (thn (ha.run pos2 pins s σ H _ I h) fun us s1 ⟨vs, H1, I1, r1, q1⟩ => ?_) hs hpl))) hs2) hs2 rfl))
  obtain ⟨a, b, xs, ys, ex, hqx, hqy, hlen, hlt, q⟩ := q1
  subst ex
  cases r1 with
  | cons r rr =>
    cases rr with
    | cons r' rr =>
      cases rr
      cases r
      cases r'
      obtain ⟨its, rv, pl, _⟩ := I1.list hqx
      obtain ⟨its2, rv2, pl2, _⟩ := I1.list hqy
      refine call_zip_2 pl.isList pl2.isList fun h' hz hTI hTO h1 h2 hsz hk => args_nil ?_
      have l1 := rv.length
      have l2 := rv2.length
      refine call_tuple_zip (s := { s1 with heap := h' }) (xs := its.toArray) (ys := its2.toArray) (I1.ok.hd hc) (PySem.W.ktu_apart s1.heap.objs.size a b pl.lt pl2.lt) (by simp; omega) (by simp; omega) hTI h1 h2
        (pl.isList.at fun o e => hk _ o e) (pl2.isList.at fun o e => hk _ o e) hz ⟨_, _, hTO⟩ fun h'' ps hk2 hl hnd hO hB => ?_
      have hl' : ps.length = xs.length := by rw [hl]; simp; omega
      have kept : ∀ c ob, s1.heap.get? c = some ob → h''.get? c = some ob := fun c ob e => hk2 c ob (fun hm => by
        have hlt := Heap.lt_size e
        simp only [List.mem_cons, List.not_mem_nil, or_false] at hm
        have hlt' : c < s1.heap.objs.size := hlt
        have key : ∀ (m n : Nat), m < n → (m = n + 4 ∨ m = n + 3 ∨ m = n ∨ m = n + 1) → False := fun m n h1 h2 => by omega
        exact key c s1.heap.objs.size hlt' hm) (hk c ob e)
      have new : ∀ p' ∈ ps, s1.heap.objs.size ≤ p' := fun p' hp' => Nat.le_trans (by rw [hsz]; exact Nat.le_add_right _ _) (hB p' hp')
      have none1 : ∀ p' ∈ ps, H1 p' = none := fun p' hp' => I1.hok.fresh (new p' hp')
      have hfst : (ps.zip (xs.zip ys)).map (·.1) = ps := by
        rw [List.map_fst_zip]
        rw [List.length_zip]
        omega
      have hnd' : ((ps.zip (xs.zip ys)).map (·.1)).Nodup := by rw [hfst]; exact hnd
      have hmem : ∀ (j : Nat) (p' : Addr) (x y : V), ps[j]? = some p' → xs[j]? = some x → ys[j]? = some y → (p', x, y) ∈ ps.zip (xs.zip ys) := fun j p' x y e1 e2 e3 => by
        refine List.mem_of_getElem? (i := j) ?_
        rw [List.getElem?_zip_eq_some]
        refine ⟨e1, ?_⟩
        rw [List.getElem?_zip_eq_some]
        exact ⟨e2, e3⟩
      have okP : HOk X.prog X.w (putP H1 (ps.zip (xs.zip ys))) h'' := by
        refine hok_putP (I1.hok.kept kept) hnd' fun t ht => ?_
        obtain ⟨j, hj⟩ := List.getElem?_of_mem ht
        rw [List.getElem?_zip_eq_some] at hj
        obtain ⟨e1, e2⟩ := hj
        rw [List.getElem?_zip_eq_some] at e2
        obtain ⟨_, u, v, hu, hv, hp'⟩ := hO j _ e1
        obtain ⟨u', hu', ru⟩ := rv.get e2.1
        obtain ⟨v', hv', rv'⟩ := rv2.get e2.2
        have eu : u = u' := by
          have : its[j]? = some u := by simpa using hu
          rw [hu'] at this
          exact (Option.some.inj this).symm
        have ev : v = v' := by
          have : its2[j]? = some v := by simpa using hv
          rw [hv'] at this
          exact (Option.some.inj this).symm
        exact ⟨none1 _ (List.mem_of_getElem? e1), u, v, by rw [eu]; exact ru, by rw [ev]; exact rv', hp'⟩
      have kp : ∀ c ob, h''.get? c = some ob → (h''.push { cls := .type "tuple", data := .seq (ps.map Value.ref).toArray }).get? c = some ob := fun c ob e => Heap.get?_push_of_some _ e
      have nR : putP H1 (ps.zip (xs.zip ys)) h''.objs.size = none := okP.fresh (Nat.le_refl _)
      have okR : HOk X.prog X.w (upd (putP H1 (ps.zip (xs.zip ys))) h''.objs.size (.tup (ps.map V.ref))) (h''.push { cls := .type "tuple", data := .seq (ps.map Value.ref).toArray }) :=
        hok_add (its := ps.map Value.ref) (okP.kept kp) nR (by rw [List.length_map]; omega) (vals_refs ps) (IsTup.new _ _)
      have sm : Same H1 (upd (putP H1 (ps.zip (xs.zip ys))) h''.objs.size (.tup (ps.map V.ref))) := fun c o ec => by
        have hc1 : c ∉ (ps.zip (xs.zip ys)).map (·.1) := fun hm => by
          rw [hfst] at hm
          rw [none1 c hm] at ec
          cases ec
        have hc2 : putP H1 (ps.zip (xs.zip ys)) c = some o := by rw [putP_out hc1]; exact ec
        rw [upd_ne (ne_of_none hc2 nR)]
        exact hc2
      have free : ∀ c o, s1.heap.get? c = some o → H1 c = none → upd (putP H1 (ps.zip (xs.zip ys))) h''.objs.size (.tup (ps.map V.ref)) c = none := fun c o ec hn => by
        have hlt : c < s1.heap.objs.size := Heap.lt_size ec
        have hc1 : c ∉ (ps.zip (xs.zip ys)).map (·.1) := fun hm => by
          rw [hfst] at hm
          exact absurd (Nat.lt_of_lt_of_le hlt (new c hm)) (Nat.lt_irrefl _)
        have hc3 : c ≠ h''.objs.size := Nat.ne_of_lt (Heap.lt_size (kept c o ec))
        rw [upd_ne hc3, putP_out hc1]
        exact hn
      have I3 : Inv X pins σ (upd (putP H1 (ps.zip (xs.zip ys))) h''.objs.size (.tup (ps.map V.ref))) { s1 with heap := h''.push { cls := .type "tuple", data := .seq (ps.map Value.ref).toArray } } :=
        inv_grow (t' := s1.toks) I1 (fun c ob e => kp c ob (kept c ob e)) sm free okR
      have hR1 : H1 h''.objs.size = none := by
        cases eR : H1 h''.objs.size with
        | none => rfl
        | some o =>
          have hc1 : h''.objs.size ∉ (ps.zip (xs.zip ys)).map (·.1) := fun hm => by
            rw [hfst] at hm
            rw [none1 _ hm] at eR
            cases eR
          rw [putP_out hc1, eR] at nR
          cases nR
      refine ⟨.ref h''.objs.size, _, I3, rfl, q h''.objs.size ps _ sm hR1 upd_same hl' fun j p' x y e1 e2 e3 => ?_⟩
      have := putP_at (H := H1) hnd' (hmem j p' x y e1 e2 e3)
      rw [upd_ne (ne_of_none this nR)]
      exact this
end Fh
set_option maxHeartbeats 4000000
namespace Fh
open PySem L2 PyProof.Rows
structure Chc where
  nm : Str
  os : List (Int × Str)
def optD (o : Int × Str) : PyData := .tuple [.int o.1, .str o.2]
def Chc.d (c : Chc) : PyData := .tuple [.str c.nm, .tuple (c.os.map optD)]
structure Fc where
  own : Str
  age : Int
  chs : List Chc
  recs : List Rec
  acts : List Act
def Fc.d (f : Fc) : PyData := .tuple [.str f.own, .int f.age, .tuple (f.chs.map Chc.d), .tuple (f.recs.map Rec.d), .tuple (f.acts.map Act.d)]
structure OptsOk (os : List (Int × Str)) : Prop where
  lo : 1 ≤ os.length
  hi : os.length ≤ 6
  rise : (os.map (·.1)).Pairwise (· < ·)
  unl : (os.map (·.2)).Nodup
  num : ∀ o ∈ os, 1 ≤ o.1 ∧ o.1 ≤ 30
  nm : ∀ o ∈ os, Nm o.2
structure FcOk (f : Fc) : Prop where
  own : Nm f.own
  age : 1 ≤ f.age ∧ f.age ≤ 99
  chsN : f.chs.length ≤ 4
  recsN : f.recs.length ≤ 6
  names : (f.chs.map (·.nm) ++ f.recs.map (·.nm)).Nodup
  chsS : sortedS (f.chs.map (·.nm)) = true
  recsS : sortedS (f.recs.map (·.nm)) = true
  nms : ∀ z ∈ f.chs.map (·.nm) ++ f.recs.map (·.nm), Nm z
  chs : ∀ c ∈ f.chs, OptsOk c.os
  recs : ∀ r ∈ f.recs, FldsOk (f.chs.map (·.nm)) (f.recs.map (·.nm)) r.fs
  acts : ActsOk f.acts
theorem tpall_of {H : Hp} : ∀ {vs : List V} {ds : List PyData}, vs.length = ds.length → (∀ (j : Nat) (v : V), vs[j]? = some v → ∃ d, ds[j]? = some d ∧ Tp H v d) → TpAll H vs ds
  | [], [], _, _ => .nil
  | [], _ :: _, h, _ => by cases h
  | _ :: _, [], h, _ => by cases h
  | v :: vs, d :: ds, h, q => by
    obtain ⟨d', e, t⟩ := q 0 v rfl
    cases e
    exact .cons t (tpall_of (by simpa using h) fun j w hw => q (j + 1) w (by simpa using hw))
def spAll : Sp := fun vs H Q _ => ∃ (b : Addr) (n : Nat), vs = [.ref b] ∧ Bag H b n ∧ n + 10000 ≤ most ∧
  ∀ (v : V) (f : Fc) (H' : Hp), Tp H' v f.d → FcOk f → Kp b H H' → Bag H' b (n + 5000) → Q v H'
abbrev sAll : Stmt := top 15
abbrev nAll : List Str := ["_law_bag_here", "_law_own", "_law_age", "_law_size", "_law_many", "_law_some", "_law_menus", "_law_forms", "_law_opts", "_law_one", "_law_marks", "_law_recs", "_law_spot"]
section
variable {P : Program} {w : World} {K : PySem.W.Frag} {mg : Str → Option Value} {base : Heap}
theorem scAll : FnScope nAll ["_law_bag_here"] (defScope sAll) := ⟨rfl, rfl, rfl, by decide +kernel, rfl, by decide +kernel, by decide +kernel⟩
theorem ok_all {f : Addr} {fd : FuncData} (F : Fun K "_law_all_drawn" "_law_all_drawn" sAll f fd) (G : Glb mg) (DT : Has P w K mg base "_law_take" 1 pTake spTake) (DN : Has P w K mg base "_law_drawn_name" 2 ["_law_bag_here"] spName) (DUN : Has P w K mg base "_law_unlike_names" 3 pUnlikeN spUnlikeN) (DR : Has P w K mg base "_law_rising" 2 pRising spRising)
    (DU : Has P w K mg base "_law_unlike" 4 pTake spUnlike) (DF : Has P w K mg base "_law_form_drawn" 5 pForm spForm) (DA : Has P w K mg base "_law_acts_drawn" 5 pActs spActs) : FnOk P w K mg base CX0 6 f fd ["_law_bag_here"] spAll := by
  refine F.ok scAll (fun vs H Q E h => ?_) (fun cdv A outer s H vs Q E hr h => ?_)
  · obtain ⟨b, n, rfl, _⟩ := h
    rfl
  · obtain ⟨b, n, rfl, hB, hn, k⟩ := h
    have hn' : n + 10000 ≤ 1000000 := hn
    have hr1 : Room 1 _ := hr.mono (by decide)
    have hr2 : Room 2 _ := hr.mono (by decide)
    have hr3 : Room 3 _ := hr.mono (by decide)
    have hr4 : Room 4 _ := hr.mono (by decide)
    refine ⟨_, pss_cons (ps_par (i := 1) (j := 2) rfl scAll.nd rfl rfl (by decide) rfl rfl (pa_cons (pe_has DN hr2 rfl (pa_cons (pv 0) pa_nil)) (pa_cons (pe_op op_add pe_int (pe_has DT hr1 rfl (pa_cons (pv 0) (pa_cons (pe_mid (pe_ix ix_list (pe_lst (pa_cons pe_int (pa_cons pe_int pa_nil))) (pe_has DT hr1 rfl (pa_cons (pv 0) (pa_cons pe_int pa_nil))) (fun _ _ => rfl))) pa_nil)))) pa_nil)) (by rfl))
      (pss_cons (ps_par (i := 3) (j := 4) rfl scAll.nd rfl rfl (by decide) rfl rfl (pa_cons (pe_has DT hr1 rfl (pa_cons (pv 0) (pa_cons pe_int pa_nil))) (pa_cons (pe_has DT hr1 rfl (pa_cons (pv 0) (pa_cons pe_int pa_nil))) pa_nil)) (by rfl))
      (pss_cons (ps_set (i := 5) scAll.nd rfl (Or.inr rfl) (pe_has DUN hr3 rfl (pa_cons (pv 0) (pa_cons (pe_op op_add (pv 3) (pv 4)) (pa_cons (pe_lst pa_nil) pa_nil)))))
      (pss_cons (ps_set (i := 6) scAll.nd rfl (Or.inr rfl) (pe_callB cr_sortedS (by rfl) G.sorted (by decide +kernel) (pa_cons (pe_lc (own := [("_law_spot", 12)]) (g := gName 12) (tt := tYes) (te := tBM K "list" rPopAt (tVar 5) (tCons (tCall spTake [] E0 (tCons (tVar 0) (tCons (tCB (rLenS K) (tCons (tVar 5) tNil)) tNil))) tNil)) rfl scAll.nd (pi_range1 rfl G.range (pa_cons (pv 3) pa_nil)) (blkOk_by (N := nAll) (sc := defScope sAll) (by decide +kernel))
          (fun _ _ _ _ _ => pg_name (i := 12) scAll.nd rfl (Or.inl rfl)) (fun _ _ _ _ _ => pts_nil)
          (fun _ _ _ _ _ => pe_bm PySem.F.plainAttrs_list PySem.F.slot_list_pop PySem.F.type_list_pop mt_popAt (pv 5) (pa_cons (pe_has DT hr1 rfl (pa_cons (pv 0) (pa_cons (pe_callB call_len_seq (by rfl) G.len PySem.boot_len (pa_cons (pv 5) pa_nil)) pa_nil))) pa_nil))) pa_nil)))
      (pss_cons (ps_asg (pe_tup (pa_cons (pe_callB cr_sortedS (by rfl) G.sorted (by decide +kernel) (pa_cons (pv 5) pa_nil)) (pa_cons (pe_lst pa_nil) pa_nil))) (pg_tup rfl (pgs_cons (pg_name (i := 7) scAll.nd rfl (.inr rfl)) (pgs_cons (pg_name (i := 8) scAll.nd rfl (.inl rfl)) pgs_nil))))
      (pss_cons (ps_for PassesOwn.never rfl (pi_list (pv 6)) (pg_name (i := 9) scAll.nd rfl (Or.inl rfl))
        (pss_cons (ps_set (i := 10) scAll.nd rfl (Or.inl rfl) (pe_has DR hr2 rfl (pa_cons (pv 0) (pa_cons (pe_op op_add pe_int (pe_has DT hr1 rfl (pa_cons (pv 0) (pa_cons pe_int pa_nil)))) (pa_cons pe_int pa_nil)))))
        (pss_one (ps_expr (pe_bm PySem.F.plainAttrs_list PySem.F.slot_list_append PySem.F.type_list_append mt_append (pv 8) (pa_cons
          (pe_tup (pa_cons (pv 9) (pa_cons (pe_tupZip rfl rfl G.tuple rfl G.zip (pa_cons (pv 10) (pa_cons (pe_has DU hr4 rfl (pa_cons (pv 0) (pa_cons (pe_callB call_len_seq (by rfl) G.len PySem.boot_len (pa_cons (pv 10) pa_nil)) pa_nil))) pa_nil))) pa_nil))) pa_nil))))))
      (pss_cons (ps_setLc (i := 11) (own := [("_law_one", 9)]) (g := gName 9) (tt := tYes) (te := tTup (tCons (tVar 9) (tCons (tCall spForm [] E0 (tCons (tVar 0) (tCons (tVar 6) (tCons (tVar 7) tNil)))) tNil))) rfl scAll.nd rfl rfl (sw_true rfl rfl rfl (by decide +kernel)) (pi_list (pv 7)) (blkOk_by (N := nAll) (sc := defScope sAll) (by decide +kernel))
          (fun _ _ _ _ _ => pg_name (i := 9) scAll.nd rfl (Or.inl rfl)) (fun _ _ _ _ _ => pts_nil)
          (fun _ _ _ _ _ => pe_tup (pa_cons (pv 9) (pa_cons (pe_has DF hr rfl (pa_cons (pv 0) (pa_cons (pv 6) (pa_cons (pv 7) pa_nil)))) pa_nil))))
      (pss_one (ps_ret (pe_tup (pa_cons (pv 1) (pa_cons (pv 2) (pa_cons (pe_callTy call_tuple_of (by rfl) G.tuple (by decide +kernel) (pa_cons (pv 8) pa_nil)) (pa_cons (pe_callTy call_tuple_of (by rfl) G.tuple (by decide +kernel) (pa_cons (pv 11) pa_nil))
        (pa_cons (pe_has DA hr rfl (pa_cons (pv 0) (pa_cons (pv 1) (pa_cons (pv 11) pa_nil)))) pa_nil)))))))))))))), ?_⟩
    refine ⟨_, rfl, b, n, rfl, hB, by show _ ≤ 1000000; omega, fun own H1 hown K1 B1 => ?_⟩
    refine ⟨_, rfl, fun v H2 => ∃ m : Int, v = .int m ∧ (m = 4 ∨ m = 99) ∧ Kp b H1 H2 ∧ Bag H2 b (n + 11), ?_, ?_⟩
    · refine ⟨(by show 2 ≤ sizeLine; decide), fun q hq => ?_⟩
      refine ⟨_, rfl, b, 2, n + 10, rfl, by decide, by decide, B1.new hq, by show _ ≤ 1000000; omega, fun d H2 d0 d1 K2 B2 => ?_⟩
      have hq2 := K2 q _ (new_ne hq B1) upd_same
      have hd : d = 0 ∨ d = 1 := by omega
      rcases hd with rfl | rfl
      · exact ⟨q, _, _, _, rfl, rfl, SqL.of hq2, rfl, 4, rfl, .inl rfl, (Kp.refl.new hq).trans K2, B2⟩
      · exact ⟨q, _, _, _, rfl, rfl, SqL.of hq2, rfl, 99, rfl, .inr rfl, (Kp.refl.new hq).trans K2, B2⟩
    rintro v H2 ⟨m, rfl, hm, K2, B2⟩
    refine ⟨b, m, n + 11, rfl, by omega, by omega, B2, by show _ ≤ 1000000; omega, fun ag H3 g0 g1 K3 B3 => ?_⟩
    refine ⟨_, _, rfl, rfl, _, _, rfl, ?_⟩
    refine ⟨_, rfl, b, 5, n + 12, rfl, by decide, by decide, B3, by show _ ≤ 1000000; omega, fun size H4 s0 s1 K4 B4 => ?_⟩
    refine ⟨_, rfl, b, 7, n + 13, rfl, by decide, by decide, B4, by show _ ≤ 1000000; omega, fun many H5 m0 m1 K5 B5 => ⟨_, _, rfl, ?_⟩⟩
    have K05 : Kp b H H5 := (((K1.trans K2).trans K3).trans K4).trans K5
    refine ⟨_, rfl, _, rfl, _, rfl, _, _, rfl, rfl, Nat.zero_le _, fun t0 ht0 => ?_⟩
    refine ⟨b, t0, size + many, [], n + 14, rfl, B5.new ht0, by omega, by omega, upd_same, by decide, by show _ ≤ 1000000; omega, fun So al H6 hSo hSo6 lal ndal nal K6 B6 => ?_⟩
    have K06 : Kp b H H6 := (K05.new ht0).trans K6
    have nSb : So ≠ b := new_ne hSo (B5.new ht0)
    have hS0 : H So = none := (K05.new (o := .lst []) ht0).free (B5.new ht0).at hSo
    have lal10 : al.length ≤ 10 := by omega
    have hal : size ≤ (al.length : Int) := by omega
    refine ⟨_, rfl, size, rfl, by omega, by omega, fun D hD => ?_⟩
    have nDb : D ≠ b := new_ne hD B6
    have nDS : D ≠ So := (ne_of_none hSo6 hD).symm
    have hD0 : H D = none := K06.free B6.at hD
    refine lc_range (lo := 0) (n := size.toNat) (fun i H7 => Kp b H H7 ∧ Bag H7 b (n + 134 + i) ∧ ∃ zs ws : List Str, H7 D = some (.lst (zs.map V.str)) ∧ H7 So = some (.lst (ws.map V.str)) ∧ zs.length = i ∧ zs.length + ws.length = al.length ∧ (zs ++ ws).Perm al) ?_ ?_ ?_
    · exact ⟨K06.new hD, (B6.new hD).mono (by omega), [], al, upd_same, (by rw [upd_ne nDS.symm]; exact hSo6), rfl, Nat.zero_add _, List.Perm.refl _⟩
    · rintro i H7 hi ⟨K7, B7, zs, ws, hD7, hS7, lz, lw, pm⟩
      have hi4 : i < 4 := by omega
      refine ⟨rfl, yes (iteT ?_)⟩
      refine ⟨_, rfl, .inl ⟨rfl, _, SqL.of hS7⟩, _, rfl, _, rfl, So, _, rfl, .inl (SqL.of hS7), ?_⟩
      refine ⟨b, _, n + 134 + i, rfl, by rw [List.length_map]; omega, by rw [List.length_map]; omega, B7, by show _ ≤ 1000000; omega, fun e H8 e0 e1 K8 B8 => ?_⟩
      have hS8 := K8 So _ nSb hS7
      have hD8 := K8 D _ nDb hD7
      have e1' : e < (ws.length : Int) := by rw [List.length_map] at e1; exact e1
      have hk : e.toNat < ws.length := by omega
      refine ⟨So, _, e, e.toNat, .str ws[e.toNat], rfl, rfl, hS8, by omega, by omega, seqIx e0 e1, by rw [List.getElem?_map, List.getElem?_eq_getElem hk]; rfl, ?_⟩
      refine ⟨zs.map V.str, by rw [upd_ne nDS]; exact hD8, by rw [List.length_map, lz]; exact Nat.lt_trans hi4 (by decide), ?_⟩
      refine ⟨((K7.trans K8).wr hS0).wr hD0, ((B8.mono (by omega)).ne nSb).ne nDb, zs ++ [ws[e.toNat]], ws.eraseIdx e.toNat, ?_, ?_, by rw [List.length_append, lz]; rfl, by rw [List.length_eraseIdx_of_lt hk, List.length_append]; show zs.length + 1 + _ = _; omega, ?_⟩
      · rw [upd_same, List.map_append]; rfl
      · rw [upd_ne nDS.symm, upd_same, erase_map]
      · refine List.Perm.trans ?_ pm
        rw [List.append_assoc]
        exact List.Perm.append_left zs (perm_erase _ _ hk)
    rintro H7 ⟨K7, B7, zs, ws, hD7, hS7, lz, lw, pm⟩
    have ndzw : (zs ++ ws).Nodup := pm.nodup_iff.mpr ndal
    have nmzw : ∀ z ∈ zs ++ ws, Nm z := fun z hz => (nal z (pm.mem_iff.mp hz)).1
    refine ⟨D, zs, rfl, SqL.of hD7, by omega, fun ms M permM sortM hM => ?_⟩
    have nMb : M ≠ b := new_ne hM B7
    have hS8 : (upd H7 M (.lst (ms.map V.str))) So = some (.lst (ws.map V.str)) := by rw [upd_ne (ne_of_none hS7 hM)]; exact hS7
    refine ⟨_, rfl, So, ws, rfl, SqL.of hS8, by omega, fun fs FM permF sortF hFM => ⟨Nat.zero_le _, fun O hO => ⟨(by show 2 ≤ sizeLine; decide), fun T hT => ⟨T, _, rfl, SqT.of upd_same, rfl, _, _, rfl, _, _, rfl, rfl, ?_⟩⟩⟩⟩
    have B8 := B7.new (o := .lst (ms.map V.str)) hM
    have nFb : FM ≠ b := new_ne hFM B8
    have nOb : O ≠ b := new_ne hO (B8.new hFM)
    have nMF : M ≠ FM := fun e => by rw [← e, upd_same] at hFM; cases hFM
    have nMO : M ≠ O := fun e => by rw [← e, upd_ne nMF, upd_same] at hO; cases hO
    have nFO : FM ≠ O := fun e => by rw [← e, upd_same] at hO; cases hO
    have nMT : M ≠ T := fun e => by rw [← e, upd_ne nMO, upd_ne nMF, upd_same] at hT; cases hT
    have nFT : FM ≠ T := fun e => by rw [← e, upd_ne nFO, upd_same] at hT; cases hT
    have nOT : O ≠ T := fun e => by rw [← e, upd_same] at hT; cases hT
    have K9 : Kp b H (upd (upd (upd (upd H7 M (.lst (ms.map V.str))) FM (.lst (fs.map V.str))) O (.lst [])) T (.tup [.ref FM, .ref O])) := (((K7.new hM).new hFM).new hO).new hT
    have B9 : Bag (upd (upd (upd (upd H7 M (.lst (ms.map V.str))) FM (.lst (fs.map V.str))) O (.lst [])) T (.tup [.ref FM, .ref O])) b (n + 140) := (((B8.new hFM).new hO).new hT).mono (by omega)
    have hM9 : (upd (upd (upd (upd H7 M (.lst (ms.map V.str))) FM (.lst (fs.map V.str))) O (.lst [])) T (.tup [.ref FM, .ref O])) M = some (.lst (ms.map V.str)) := by rw [upd_ne nMT, upd_ne nMO, upd_ne nMF, upd_same]
    have hF9 : (upd (upd (upd (upd H7 M (.lst (ms.map V.str))) FM (.lst (fs.map V.str))) O (.lst [])) T (.tup [.ref FM, .ref O])) FM = some (.lst (fs.map V.str)) := by rw [upd_ne nFT, upd_ne nFO, upd_same]
    have hO9 : (upd (upd (upd (upd H7 M (.lst (ms.map V.str))) FM (.lst (fs.map V.str))) O (.lst [])) T (.tup [.ref FM, .ref O])) O = some (.lst []) := by rw [upd_ne nOT, upd_same]
    have hO0 : H O = none := ((K7.new hM).new hFM).free ((B8.new hFM).at) hO
    generalize (upd (upd (upd (upd H7 M (.lst (ms.map V.str))) FM (.lst (fs.map V.str))) O (.lst [])) T (.tup [.ref FM, .ref O])) = H9 at K9 B9 hM9 hF9 hO9
    have lms : ms.length = zs.length := permM.length_eq
    have lfs : fs.length = ws.length := permF.length_eq
    have permAll : (ms ++ fs).Perm (zs ++ ws) := permM.append permF
    have nmAll : ∀ z ∈ ms ++ fs, Nm z := fun z hz => nmzw z (permAll.mem_iff.mp hz)
    have ndAll : (ms ++ fs).Nodup := permAll.nodup_iff.mpr ndzw
    have nmM : ∀ z ∈ ms, Nm z := fun z hz => nmAll z (List.mem_append_left _ hz)
    have nmF : ∀ z ∈ fs, Nm z := fun z hz => nmAll z (List.mem_append_right _ hz)
    refine ⟨_, rfl, M, rfl, ⟨_, SqL.of hM9⟩, ?_⟩
    refine for_list (K := K) (a := M) (xs := ms.map V.str) (fun i σ HA => (∃ a9 a10 a11 a12, σ = [some (.ref b), some (.str own), some (.int (1 + ag)), some (.int size), some (.int many), some (.ref So), some (.ref M), some (.ref FM), some (.ref O), a9, a10, a11, a12]) ∧ Kp b H HA ∧ Bag HA b (n + 140 + 191 * i) ∧ HA M = some (.lst (ms.map V.str)) ∧ HA FM = some (.lst (fs.map V.str)) ∧
      ∃ (vs : List V) (cs : List Chc), HA O = some (.lst vs) ∧ TpAll HA vs (cs.map Chc.d) ∧ cs.map (·.nm) = ms.take i ∧ ∀ c ∈ cs, OptsOk c.os) ?_ ?_ ?_ ?_
    · exact ⟨⟨_, _, _, _, rfl⟩, K9, B9, hM9, hF9, [], [], hO9, .nil, rfl, fun c h => by cases h⟩
    · rintro i σ HA _ ⟨_, _, _, hMA, _⟩
      exact SqL.of hMA
    · rintro i x σ HA hx ⟨⟨a9, a10, a11, a12, rfl⟩, KA, BA, hMA, hFA, vs, cs, hOA, tpA, ecs, okc⟩
      obtain ⟨z, hz, rfl⟩ : ∃ u, ms[i]? = some u ∧ x = V.str u := by
        rw [List.getElem?_map] at hx
        cases e : ms[i]? with
        | none => rw [e] at hx; cases hx
        | some u => rw [e] at hx; exact ⟨u, rfl, (Option.some.inj hx).symm⟩
      have hi4 : i < 4 := by have := (List.getElem?_eq_some_iff.mp hz).1; omega
      have lvs : vs.length = i := by
        have h1 := tpA.length
        have h2 : (cs.map (·.nm)).length = (ms.take i).length := by rw [ecs]
        rw [List.length_map, List.length_take] at h2
        have := (List.getElem?_eq_some_iff.mp hz).1
        rw [List.length_map] at h1
        omega
      refine ⟨_, rfl, _, rfl, b, 6, n + 140 + 191 * i, rfl, by decide, by decide, BA, by show _ ≤ 1000000; omega, fun d HB d0 d1 KB BB => ?_⟩
      refine ⟨_, _, rfl, rfl, b, 1 + d, 30, n + 140 + 191 * i + 1, rfl, BB, by omega, by omega, by decide, by show _ ≤ 1000000; omega, fun Mk ns HC hMk hMkC lns pwn rgn KC BC => ?_⟩
      have nMkb : Mk ≠ b := new_ne hMk BB
      have KAC : Kp b HA HC := KB.trans KC
      have hOC := KAC O _ nOb hOA
      refine ⟨_, rfl, .inl ⟨rfl, _, SqL.of hOC⟩, _, rfl, _, rfl, _, rfl, _, rfl, Mk, _, rfl, .inl (SqL.of hMkC), ?_⟩
      refine ⟨b, _, n + 140 + 191 * i + 61, rfl, BC, by omega, by rw [List.length_map]; omega, by show _ ≤ 1000000; omega, fun U us HD hU hUD lus ndus nus KD BD => ?_⟩
      have lus' : ns.length = us.length := by rw [List.length_map] at lus; omega
      have hMkD := KD Mk _ nMkb hMkC
      refine ⟨Mk, U, _, _, rfl, SqL.of hMkD, SqL.of hUD, by rw [List.length_map, List.length_map]; exact lus', by rw [List.length_map]; exact Nat.lt_trans (show ns.length < 7 by omega) (by decide), fun R ps HE smE hR hRE lps hps => ?_⟩
      refine ⟨(by show 2 ≤ sizeLine; decide), fun W hW => ?_⟩
      have KAD : Kp b HA HD := KAC.trans KD
      have KAE : Kp b HA HE := KAD.same smE
      have hOE := KAE O _ nOb hOA
      have nOW : O ≠ W := ne_of_none hOE hW
      have hOF : (upd HE W (.tup [.str z, .ref R])) O = some (.lst vs) := by rw [upd_ne nOW]; exact hOE
      refine ⟨O, _, _, rfl, rfl, hOF, by rw [lvs]; exact Nat.lt_trans hi4 (by decide), ?_⟩
      have tkE : Tk HE (upd (upd HE W (.tup [.str z, .ref R])) O (.lst (vs ++ [.ref W]))) := (Tk.new hW).trans (Tk.wr hOF)
      have keepX : ∀ (X : Addr) (o : HO), X ≠ O → HE X = some o → (upd (upd HE W (.tup [.str z, .ref R])) O (.lst (vs ++ [.ref W]))) X = some o := fun X o nXO hX => by
        rw [upd_ne nXO, upd_ne (ne_of_none hX hW)]
        exact hX
      have tpO : TpAll HE (ps.map V.ref) ((ns.zip us).map optD) := by
        refine tpall_of (by rw [List.length_map, List.length_map, List.length_zip, lps, List.length_map]; omega) fun j v hv => ?_
        rw [List.getElem?_map] at hv
        cases ep : ps[j]? with
        | none => rw [ep] at hv; cases hv
        | some p =>
          rw [ep] at hv
          cases hv
          have hjp := (List.getElem?_eq_some_iff.mp ep).1
          have hjn : j < ns.length := by rw [lps, List.length_map] at hjp; exact hjp
          have hju : j < us.length := by omega
          refine ⟨optD (ns[j], us[j]), ?_, .tup (hps j p (.int ns[j]) (.str us[j]) ep ?_ ?_) (.cons (.int _) (.cons (.str _) .nil))⟩
          · rw [List.getElem?_map, List.getElem?_eq_getElem (by rw [List.length_zip]; omega), List.getElem_zip]
            rfl
          · rw [List.getElem?_map, List.getElem?_eq_getElem hjn]; rfl
          · rw [List.getElem?_map, List.getElem?_eq_getElem hju]; rfl
      refine ⟨⟨_, _, _, _, rfl⟩, ((KA.trans KAE).new hW).wr hO0, ((((BD.same smE).new hW).mono (by omega)).ne nOb), keepX M _ nMO (KAE M _ nMb hMA), keepX FM _ nFO (KAE FM _ nFb hFA), vs ++ [.ref W], cs ++ [⟨z, ns.zip us⟩], upd_same, ?_, ?_, ?_⟩
      · rw [List.map_append]
        refine (TpAll.keep ((KAE.tk BA).trans tkE) _ _ tpA).app (TpAll.one (.tup (by rw [upd_ne nOW.symm, upd_same]) (.cons (.str _) (.cons (.tup (keepX R _ (fun e => by rw [e, hOE] at hRE; cases hRE) hRE) (TpAll.keep tkE _ _ tpO)) .nil))))
      · rw [List.map_append, ecs, List.take_succ, hz]; rfl
      · intro c hc
        rcases List.mem_append.mp hc with h | h
        · exact okc c h
        · rw [List.mem_singleton.mp h]
          have e1 : (ns.zip us).map (·.1) = ns := List.map_fst_zip (by omega)
          have e2 : (ns.zip us).map (·.2) = us := List.map_snd_zip (by omega)
          refine ⟨by show 1 ≤ (ns.zip us).length; rw [List.length_zip]; omega, by show (ns.zip us).length ≤ 6; rw [List.length_zip]; omega, by show ((ns.zip us).map (·.1)).Pairwise _; rw [e1]; exact pwn, by show ((ns.zip us).map (·.2)).Nodup; rw [e2]; exact ndus, fun o ho => ?_, fun o ho => ?_⟩
          · exact rgn o.1 (by rw [← e1]; exact List.mem_map.mpr ⟨o, ho, rfl⟩)
          · exact nus o.2 (by rw [← e2]; exact List.mem_map.mpr ⟨o, ho, rfl⟩)
    rintro σ HA ⟨⟨a9, a10, a11, a12, rfl⟩, KA, BA, hMA, hFA, vs, cs, hOA, tpA, ecs, okc⟩
    rw [List.length_map, List.take_length] at ecs
    rw [List.length_map] at BA
    have lcs : cs.length = ms.length := by rw [← ecs, List.length_map]
    refine ⟨_, rfl, FM, rfl, ⟨_, SqL.of hFA⟩, fun D2 hD2 => ?_⟩
    have nDb2 : D2 ≠ b := new_ne hD2 BA
    have nOD : O ≠ D2 := ne_of_none hOA hD2
    have nMD : M ≠ D2 := ne_of_none hMA hD2
    have nFD : FM ≠ D2 := ne_of_none hFA hD2
    have hDA : HA D2 = none := hD2
    refine lc_it (walk_list (K := K) (a := FM) (xs := fs.map V.str)) (fun j HB => Kp b HA HB ∧ Bag HB b (n + 1000 + 300 * j) ∧ ∃ (us : List V) (rs : List Rec), HB D2 = some (.lst us) ∧ TpAll HB us (rs.map Rec.d) ∧ rs.map (·.nm) = fs.take j ∧ ∀ r ∈ rs, FldsOk ms fs r.fs) ?_ ?_ ?_ ?_
    · exact ⟨Kp.refl.new hD2, (BA.new hD2).mono (by omega), [], [], upd_same, .nil, rfl, fun r h => by cases h⟩
    · rintro j HB _ ⟨KB, _⟩
      exact SqL.of (KB FM _ nFb hFA)
    · rintro j x HBo HB hj ⟨KB, BB, us, rs, hDB, tpB, ers, okr⟩ ⟨rfl, hx⟩
      obtain ⟨z, hz, rfl⟩ : ∃ u, fs[j]? = some u ∧ x = V.str u := by
        rw [List.getElem?_map] at hx
        cases e : fs[j]? with
        | none => rw [e] at hx; cases hx
        | some u => rw [e] at hx; exact ⟨u, rfl, (Option.some.inj hx).symm⟩
      have hj6 : j < 10 := by have := (List.getElem?_eq_some_iff.mp hz).1; omega
      have lus : us.length = j := by
        have h1 := tpB.length
        have h2 : (rs.map (·.nm)).length = (fs.take j).length := by rw [ers]
        rw [List.length_map, List.length_take] at h2
        have := (List.getElem?_eq_some_iff.mp hz).1
        rw [List.length_map] at h1
        omega
      refine ⟨rfl, yes (iteT ?_)⟩
      refine ⟨_, rfl, _, rfl, _, rfl, _, rfl, b, M, FM, ms, fs, n + 1000 + 300 * j, rfl, BB, KB M _ nMb hMA, KB FM _ nFb hFA, by omega, by omega, nmM, nmF, by show _ ≤ 1000000; omega, fun v fl HC tv okf KC BC => ?_⟩
      refine ⟨(by show 2 ≤ sizeLine; decide), fun R hR => ?_⟩
      have hDC := KC D2 _ nDb2 hDB
      have nDR : D2 ≠ R := ne_of_none hDC hR
      have hDE : (upd HC R (.tup [.str z, v])) D2 = some (.lst us) := by rw [upd_ne nDR]; exact hDC
      refine ⟨us, hDE, by rw [lus]; exact Nat.lt_trans hj6 (by decide), ?_⟩
      have tkC : Tk HC (upd (upd HC R (.tup [.str z, v])) D2 (.lst (us ++ [.ref R]))) := (Tk.new hR).trans (Tk.wr hDE)
      refine ⟨((KB.trans KC).new hR).wr hDA, ((BC.new hR).mono (by omega)).ne nDb2, us ++ [.ref R], rs ++ [⟨z, fl⟩], upd_same, ?_, ?_, ?_⟩
      · rw [List.map_append]
        exact (TpAll.keep ((KC.tk BB).trans tkC) _ _ tpB).app (TpAll.one (.tup (by rw [upd_ne nDR.symm, upd_same]) (.cons (.str _) (.cons (Tp.keep tkC _ _ tv) .nil))))
      · rw [List.map_append, ers, List.take_succ, hz]; rfl
      · intro r hr'
        rcases List.mem_append.mp hr' with h | h
        · exact okr r h
        · rw [List.mem_singleton.mp h]; exact okf
    rintro HB ⟨KB, BB, us, rs, hDB, tpB, ers, okr⟩
    rw [List.length_map, List.take_length] at ers
    rw [List.length_map] at BB
    have lrs : rs.length = fs.length := by rw [← ers, List.length_map]
    have hOB := KB O _ nOb hOA
    refine ⟨_, rfl, _, rfl, _, rfl, O, _, rfl, .inl ⟨SqL.of hOB, fun R1 hR1 => ?_⟩⟩
    have hDB1 : (upd HB R1 (.tup vs)) D2 = some (.lst us) := by rw [upd_ne (ne_of_none hDB hR1)]; exact hDB
    refine ⟨_, rfl, D2, _, rfl, .inl ⟨SqL.of hDB1, fun R2 hR2 => ?_⟩⟩
    have BB2 := (BB.new (o := .tup vs) hR1).new (o := .tup us) hR2
    have tk2 : Tk HB (upd (upd HB R1 (.tup vs)) R2 (.tup us)) := (Tk.new hR1).trans (Tk.new hR2)
    have hDB2 : (upd (upd HB R1 (.tup vs)) R2 (.tup us)) D2 = some (.lst us) := by rw [upd_ne (ne_of_none hDB1 hR2)]; exact hDB1
    have rok : RecsOk rs := ⟨by omega, fun r hr' => ⟨nmF _ (by rw [← ers]; exact List.mem_map.mpr ⟨r, hr', rfl⟩), (okr r hr').len, fun f hf => ((okr r hr').all f hf).2.1⟩⟩
    have hR12 : (upd (upd HB R1 (.tup vs)) R2 (.tup us)) R1 = some (.tup vs) := (Tk.new hR2) R1 _ upd_same
    have hR22 : (upd (upd HB R1 (.tup vs)) R2 (.tup us)) R2 = some (.tup us) := upd_same
    refine ⟨_, rfl, _, rfl, _, rfl, b, D2, own, us, rs, n + 1000 + 300 * fs.length, rfl, BB2, hown, hDB2, TpAll.keep tk2 _ _ tpB, rok, by show _ ≤ 1000000; omega, fun v as HC tv oka KC BC => ?_⟩
    refine ⟨(by show 5 ≤ sizeLine; decide), fun R3 hR3 => ?_⟩
    have KBC : Kp b HB HC := ((Kp.refl.new hR1).new hR2).trans KC
    have tkC : Tk (upd (upd HB R1 (.tup vs)) R2 (.tup us)) (upd HC R3 (.tup [.str own, .int (1 + ag), .ref R1, .ref R2, v])) := (KC.tk BB2).trans (Tk.new hR3)
    refine k (.ref R3) ⟨own, 1 + ag, cs, rs, as⟩ _ (.tup upd_same (.cons (.str _) (.cons (.int _) (.cons (.tup (tkC _ _ hR12) ?_) (.cons (.tup (tkC _ _ hR22) ?_) (.cons (Tp.keep (Tk.new hR3) _ _ tv) .nil)))))) ?_ (((KA.trans KB).trans KBC).new hR3) ((BC.new hR3).mono (by omega))
    · exact TpAll.keep (((KB.tk BA).trans tk2).trans tkC) _ _ tpA
    · exact TpAll.keep (tk2.trans tkC) _ _ tpB
    · refine ⟨hown, ⟨by show 1 ≤ 1 + ag; omega, by show 1 + ag ≤ 99; omega⟩, by show cs.length ≤ 4; omega, by show rs.length ≤ 6; omega, ?_, ?_, ?_, ?_, okc, ?_, oka⟩
      · show (cs.map (·.nm) ++ rs.map (·.nm)).Nodup
        rw [ecs, ers]; exact ndAll
      · show sortedS (cs.map (·.nm)) = true
        rw [ecs]; exact sortM
      · show sortedS (rs.map (·.nm)) = true
        rw [ers]; exact sortF
      · show ∀ z ∈ cs.map (·.nm) ++ rs.map (·.nm), Nm z
        rw [ecs, ers]; exact nmAll
      · show ∀ r ∈ rs, FldsOk (cs.map (·.nm)) (rs.map (·.nm)) r.fs
        rw [ecs, ers]; exact okr
end
end Fh
set_option maxHeartbeats 4000000
/-! == and != by a face's own __eq__, whatever stands on the other side -/
namespace Fh
open PySem PySem.Spec PyProof.Rows L2
/-- what the text has of the class at C and its own == -/
structure OwnC (K : PySem.W.Frag) (C f : Addr) : Prop where
  eq : PySem.W.findIn K (.ref C) "__eq__" = some (some (.ref f))
  fn : PySem.W.isFn K (.ref f) = true
  ne : PySem.W.findIn K (.ref C) "__ne__" = some (some (.builtin "object.__ne__"))
  obj : PySem.W.mroIn K C (.type "object") = some true
  no : ∀ T ∈ ["NoneType", "tuple", "list", "str", "int"], PySem.W.subIn K (.ref C) (.type T) = some false ∧ PySem.W.subIn K (.type T) (.ref C) = some false
section
variable {X : Cx} {n : Nat} {C f : Addr} {fd : FuncData} {ps : List Str} {sp : Sp} {A : Around} {pins : List (Addr × Obj)} {σ : L2.St} {H : Hp} {s : Shared}
theorem own_call {vs : List V} {us : List Value} {Q : V → Hp → Prop} (F : FnOk X.prog X.w X.K X.mg X.base CX0 n f fd ps sp) (hb : Binds X.K fd ps []) (sb : Sub X n A) (I : Inv X pins σ H s) (rv : Vals vs us) (hsp : sp vs H Q E0) :
    wpAny (model X.prog X.w) A (call (.ref f) us) (EP X pins σ Q) X.xe s := by
  have e := I.env0
  have e0 : Env0 X.prog X.w X.K X.mg X.base A X.stack s H := ⟨by rw [sb.fr]; exact e.frames, e.mod, e.bs, e.bsz, e.funs, e.frf, e.hok, e.bare⟩
  have hl := F.len _ _ _ _ hsp
  refine wpAny_call (codeAny_mono (F.run A X.stack s H ⟨us, []⟩ us vs Q E0 sb.room e0 (by
    have := hb s us I.kIn (by rw [List.append_nil, ← rv.length]; exact hl)
    simpa using this) rv hsp) fun r s' hq => ?_)
  cases r with
  | error e => exact (hq : False).elim
  | ok fl =>
    cases fl with
    | ret w => exact I.after hq
    | next => exact False.elim hq
    | brk => exact False.elim hq
    | cont => exact False.elim hq
/-- the answer r, all else as it stood -/
abbrev Told (X : Cx) (pins : List (Addr × Obj)) (σ : L2.St) (H : Hp) (r : Bool) (u : Value) (s' : Shared) : Prop := u = .bool r ∧ Inv X pins σ H s'
theorem own_told {a : Addr} {y : V} {v : Value} {r : Bool} (F : FnOk X.prog X.w X.K X.mg X.base CX0 n f fd ps sp) (hb : Binds X.K fd ps []) (sb : Sub X n A) (I : Inv X pins σ H s) (rv : RelV y v) (hsp : sp [.ref a, y] H (fun z H' => z = .bl r ∧ H' = H) E0) :
    wpAny (model X.prog X.w) A (call (.ref f) [.ref a, v]) (Told X pins σ H r) X.xe s := by
  refine wpAny_mono (own_call (vs := [.ref a, y]) F hb sb I (.cons rfl (.cons rv .nil)) hsp) (fun u s' q => ?_) fun _ _ z => z
  obtain ⟨z, H', I', rz, ez, eH⟩ := q
  subst ez eH
  exact ⟨rz, I'⟩
/-- face == anything -/
theorem rc_eqL {a dx : Addr} {fs : List (Str × V)} {y : V} {v t : Value} {r : Bool} (F : FnOk X.prog X.w X.K X.mg X.base CX0 n f fd ps sp) (hb : Binds X.K fd ps []) (O : OwnC X.K C f) (sb : Sub X n A) (I : Inv X pins σ H s) (ha : H a = some (.ins C dx fs)) (rv : RelV y v)
    (ty : TyX X.K H y t) (hn : PySem.W.notFirst X.K C t = true) (hsp : sp [.ref a, y] H (fun z H' => z = .bl r ∧ H' = H) E0) : wpAny (model X.prog X.w) A (richCompare .Eq (.ref a) v) (Told X pins σ H r) X.xe s := by
  obtain ⟨mA, J, _⟩ := ins_get I.hok ha
  obtain ⟨od, J, _⟩ := J.look
  obtain ⟨m, hF⟩ := I.fr
  obtain ⟨P, Z, p, _⟩ := kit_of I rv ty
  refine PySem.W.cmp_K (op := .Eq) (tb := t) sb.room.units0 hF I.ok.mod.kin J (Z.ty _ _ I.kIn p) hn O.eq O.fn ?_
  refine wpAny_mono (own_told F hb sb I rv hsp) (fun u s' q => ?_) fun _ _ z => z
  obtain ⟨rfl, I'⟩ := q
  exact ⟨rfl, I'⟩
/-- the built-in special method of an own instance, by its class -/
theorem ifBound_B {M : Model} {E : Value → Shared → Prop} {K : PySem.W.Frag} {x : Addr} {ox : Obj} {od : Option Obj} {name : Str} {id : String} {args : List Value} {Q : Option Value → Shared → Prop} (XK : K.In s.heap) (I : PySem.W.InstAt s.heap x ox C od) (hs : PySem.W.findIn K (.ref C) name = some (some (.builtin id))) (S : Slot "object" name id)
    (h : wpAny M A (call (.builtin id) (.ref x :: args)) (fun v => Q (some v)) E s) : wpAny M A (callSpecialIfBound? (.ref x) name args) Q E s := by
  simp only [callSpecialIfBound?, bindSpecialIfBound?]
  refine wpAny_holding (wpAny_bind (wpAny_bind (wpAny_bind (I.type.here ((PySem.W.looks_findIn XK hs).here ?_)))))
  simp only [S.bind]
  refine wpAny_bind (wpAny_askSetting (wpAny_ite ?_))
  have fin : wpAny M A (call (.builtin id) ([.ref x] ++ args) >>= fun v => pure (some v)) Q E s := wpAny_bind (wpAny_mono h (fun v s' h' => wpAny_pure h') fun _ _ h' => h')
  split
  · exact wpAny_bind (wpAny_pure (wpAny_pure fin))
  · exact wpAny_tryCatch (wpAny_bind (wpAny_pure (wpAny_pure fin)))
/-- the answer of == turned about -/
theorem rc_neL {a dx : Addr} {fs : List (Str × V)} {y : V} {v t : Value} {r : Bool} (F : FnOk X.prog X.w X.K X.mg X.base CX0 n f fd ps sp) (hb : Binds X.K fd ps []) (O : OwnC X.K C f) (sb : Sub X (n + 1) A) (I : Inv X pins σ H s) (ha : H a = some (.ins C dx fs)) (rv : RelV y v)
    (ty : TyX X.K H y t) (hn : PySem.W.notFirst X.K C t = true) (hsp : sp [.ref a, y] H (fun z H' => z = .bl r ∧ H' = H) E0) : wpAny (model X.prog X.w) A (richCompare .NotEq (.ref a) v) (Told X pins σ H (!r)) X.xe s := by
  obtain ⟨mA, J, _⟩ := ins_get I.hok ha
  obtain ⟨od, J, _⟩ := J.look
  obtain ⟨P, Z, p, _⟩ := kit_of I rv ty
  have XK := I.kIn
  have hu : A.units < cLine := sb.room.units0
  have hu1 : A.in1.units < cLine := sb.in1.room.units0
  have one : wpAny (model X.prog X.w) A (tryCompare (.ref a) "__ne__" v) (fun w s' => w = some (.bool (!r)) ∧ Inv X pins σ H s') X.xe s := by
    unfold tryCompare
    refine wpAny_bind (ifBound_B XK J O.ne PySem.F.cmp_object.ne ?_)
    refine wpAny_call (codeAny_call_builtin PySem.F.cmp_object.ne.plain PySem.F.cmpEntry_ne (PySem.W.check_slot (i := "object.__ne__") (owner := "object") (n := "__ne__") PySem.F.cmpKind_ne PySem.F.cmpSplit_ne (J.type.andThen (PySem.W.looks_mroIn XK O.obj)) (PySem.F.cmpArgs_ne _ _) ?_))
    unfold Builtin.«object.__ne__»
    refine wpAny_bind (m := slotArgs "__ne__" 1 _) (wpAny_pure ?_)
    refine wpAny_bind (m := cRoomFor _ _) (wpAny_cRoomFor hu1 ?_)
    refine wpAny_bind (m := callSpecialIfBound? (.ref a) (Str.ofString "__eq__") _) (PySem.W.ifBound_K XK J O.eq O.fn (wpAny_mono (own_told F hb sb.in1 I rv hsp) (fun u s' q => ?_) fun _ _ z => z))
    obtain ⟨rfl, I'⟩ := q
    refine wpAny_bind (m := truthy (.bool r)) (wpAny_truthy_bool ?_)
    exact wpAny_pure (wpAny_pure ⟨rfl, I'⟩)
  (unfold richCompare; simp only [oneThing_ref]; refine wpAny_holding (wpAny_bind (wpAny_cRoomFor hu ?_)); refine wpAny_bind (J.type.here (wpAny_bind ((Z.ty _ _ XK p).here ?_))))
  have fin : ∀ {k : Option Value → Sem Value}, (∀ w, k (some w) = pure w) → wpAny (model X.prog X.w) A (tryCompare (.ref a) (cmpInfo .NotEq).2.1 v >>= k) (Told X pins σ H (!r)) X.xe s := fun {k} hk => by
    refine wpAny_bind (wpAny_mono one (fun w s' z => ?_) fun _ _ e => e)
    obtain ⟨rfl, I'⟩ := z
    rw [hk]
    exact wpAny_pure ⟨rfl, I'⟩
  split
  · rename_i q
    have e : PySem.W.subIn X.K t (.ref C) = some false := by
      rcases Bool.or_eq_true_iff.mp hn with e | e
      · rw [beq_iff_eq.mp e] at q; simp at q
      · exact beq_iff_eq.mp e
    refine wpAny_bind ((PySem.W.looks_subIn XK e).here ?_)
    simp only [Bool.false_eq_true, if_false]
    exact fin fun w => rfl
  · refine wpAny_bind (wpAny_pure ?_)
    simp only [Bool.false_eq_true, if_false]
    exact fin fun w => rfl
/-- what is no face, on the left: its own == declines, the face's is asked -/
theorem rc_eqR {T id : String} {a dx : Addr} {fs : List (Str × V)} {y : V} {v : Value} {r : Bool} (F : FnOk X.prog X.w X.K X.mg X.base CX0 n f fd ps sp) (hb : Binds X.K fd ps []) (O : OwnC X.K C f) (sb : Sub X n A) (I : Inv X pins σ H s) (ha : H a = some (.ins C dx fs)) (rv : RelV y v)
    (hT : s.TypeIs v T) (hm : T ∈ ["NoneType", "tuple", "list", "str", "int"]) (S : Slot T "__eq__" id) (dec : wpAny (model X.prog X.w) A (call (.builtin id) [v, .ref a]) (fun u s' => u = .notImplemented ∧ s' = s) X.xe s)
    (hsp : sp [.ref a, y] H (fun z H' => z = .bl r ∧ H' = H) E0) : wpAny (model X.prog X.w) A (richCompare .Eq v (.ref a)) (Told X pins σ H r) X.xe s := by
  obtain ⟨mA, J, _⟩ := ins_get I.hok ha
  obtain ⟨od, J, _⟩ := J.look
  have XK := I.kIn
  have hu : A.units < cLine := sb.room.units0
  have g1 : (Value.type T != Value.ref C) = true := rfl
  (rcases hi : cmpInfo CmpOp.Eq with ⟨sym, f0, r0⟩; have hi2 := hi; cases hi2; simp only [richCompare, hi, hT.oneThing_none]; refine wpAny_holding (wpAny_bind (wpAny_cRoomFor hu ?_)))
  refine wpAny_bind (wpAny_typeOf hT (wpAny_bind (J.type.here ?_)))
  simp only [g1, if_true]
  refine wpAny_bind ((PySem.W.looks_subIn XK (O.no T hm).1).here ?_)
  simp only [Bool.false_eq_true, if_false, Bool.not_false, if_true]
  refine wpAny_bind (m := tryCompare v _ (.ref a)) (wpAny_tryCompare_declines hT S (wpAny_mono dec (fun u s1 q => ⟨q.1, ?_⟩) fun _ _ z => z))
  obtain ⟨_, rfl⟩ := q
  refine wpAny_bind (m := tryCompare (.ref a) _ v) ?_
  unfold tryCompare
  refine wpAny_bind (PySem.W.ifBound_K XK J O.eq O.fn (wpAny_mono (own_told F hb sb I rv hsp) (fun u s' q => ?_) fun _ _ z => z))
  obtain ⟨rfl, I'⟩ := q
  exact wpAny_pure (wpAny_pure ⟨rfl, I'⟩)
/-! ### what declines -/
theorem inst_not {M : Model} {E : Value → Shared → Prop} {K : PySem.W.Frag} {x : Addr} {ox : Obj} {od : Option Obj} {T : String} {Q : Bool → Shared → Prop} (XK : K.In s.heap) (J : PySem.W.InstAt s.heap x ox C od) (e : PySem.W.subIn K (.ref C) (.type T) = some false) (q : Q false s) : wpAny M A (isInstance (.ref x) (.type T)) Q E s := by
  unfold isInstance
  exact wpAny_bind (J.type.here ((PySem.W.looks_subIn XK e).here q))
variable {prog : Program} {w : World} {E : Value → Shared → Prop} {x : Addr} {ox : Obj} {od : Option Obj} {K : PySem.W.Frag}
theorem dec_none : wpAny (model prog w) A (call (.builtin "NoneType.__eq__") [.none, .ref x]) (fun u s' => u = .notImplemented ∧ s' = s) E s := by
  refine GQ.call_here F.slot_NoneType_eq rfl F.entry_NoneType_eq (F.args_NoneType_eq_2 _ _) ?_
  unfold Builtin.«NoneType.__eq__»
  refine wpAny_bind (m := slotArgs "__eq__" 1 _) (wpAny_pure ?_)
  exact wpAny_pure ⟨rfl, rfl⟩
theorem dec_tuple {t : Addr} (ht : s.TypeIs (.ref t) "tuple") (XK : K.In s.heap) (J : PySem.W.InstAt s.heap x ox C od) (e : PySem.W.subIn K (.ref C) (.type "tuple") = some false) : wpAny (model prog w) A (call (.builtin "tuple.__eq__") [.ref t, .ref x]) (fun u s' => u = .notImplemented ∧ s' = s) E s := by
  refine GQ.call_here F.slot_tuple_eq ht F.entry_tuple_eq (F.args_tuple_eq_2 _ _) ?_
  show wpAny _ _ (slotArgs "__eq__" 1 _ >>= _) _ _ s
  refine wpAny_bind (m := slotArgs "__eq__" 1 _) (wpAny_pure ?_)
  refine wpAny_bind (inst_not XK J e ?_)
  exact wpAny_pure ⟨rfl, rfl⟩
theorem dec_list {t : Addr} (ht : s.TypeIs (.ref t) "list") (XK : K.In s.heap) (J : PySem.W.InstAt s.heap x ox C od) (e : PySem.W.subIn K (.ref C) (.type "list") = some false) : wpAny (model prog w) A (call (.builtin "list.__eq__") [.ref t, .ref x]) (fun u s' => u = .notImplemented ∧ s' = s) E s := by
  refine GQ.call_here F.slot_list_eq ht F.entry_list_eq (F.args_list_eq_2 _ _) ?_
  show wpAny _ _ (slotArgs "__eq__" 1 _ >>= _) _ _ s
  refine wpAny_bind (m := slotArgs "__eq__" 1 _) (wpAny_pure ?_)
  refine wpAny_bind (inst_not XK J e ?_)
  exact wpAny_pure ⟨rfl, rfl⟩
theorem dec_int {i : Int} {t : Tok} {dx : Addr} (hx : s.heap.get? x = some (PySem.W.instObj C dx)) : wpAny (model prog w) A (call (.builtin "int.__eq__") [.int i t, .ref x]) (fun u s' => u = .notImplemented ∧ s' = s) E s := by
  refine GQ.call_here F.slot_int_eq (typeIs_int s i t) F.entry_int_eq (F.args_int_eq_2 _ _) ?_
  show wpAny _ _ (slotArgs "__eq__" 1 _ >>= _) _ _ s
  refine wpAny_bind (m := slotArgs "__eq__" 1 _) (wpAny_pure ?_)
  refine wpAny_bind (m := Builtin.Int.intOfSelf _) (wpAny_pure ?_)
  refine wpAny_bind (m := asInt? (.ref x)) ?_
  show wpAny _ _ (load x >>= _) _ _ s
  refine wpAny_bind (wpAny_load hx ?_)
  refine wpAny_pure ?_
  refine wpAny_bind (wpAny_rule ?_)
  exact wpAny_pure ⟨rfl, rfl⟩
theorem dec_str {z : Str} {t : Tok} {dx : Addr} (hx : s.heap.get? x = some (PySem.W.instObj C dx)) : wpAny (model prog w) A (call (.builtin "str.__eq__") [.str z t, .ref x]) (fun u s' => u = .notImplemented ∧ s' = s) E s := by
  refine GQ.call_here F.slot_str_eq (typeIs_str s z t) F.entry_str_eq (F.args_str_eq_2 _ _) ?_
  show wpAny _ _ (Builtin.Str.strSlot "__eq__" 1 _ >>= _) _ _ s
  refine wpAny_bind (m := Builtin.Str.strSlot "__eq__" 1 _) (wpAny_of_eq (a := (Value.str z t, z, [Value.ref x])) rfl ?_)
  refine wpAny_bind (m := asStr? (.ref x)) ?_
  show wpAny _ _ (load x >>= _) _ _ s
  refine wpAny_bind (wpAny_load hx ?_)
  refine wpAny_pure ?_
  refine wpAny_bind (wpAny_rule ?_)
  exact wpAny_pure ⟨rfl, rfl⟩
end
end Fh
set_option maxHeartbeats 4000000
namespace Fh
open PySem PySem.Spec PyProof.Rows L2
open AutoSeq1 (wpAny_loadPart')
open MeetsSeq SeqRoads2
section
variable {X : Cx} {A : Around} {pins : List (Addr × Obj)} {σ : L2.St} {H : Hp} {s : Shared}
/-- the loop of «in» behind its last item -/
theorem loop_end {R : Result → Shared → Prop} {l : Addr} {items : Array Value} {n : Nat} {v : Value} (hl : s.heap.get? l = some { cls := .type "list", data := .seq items n }) (hs : items.size = 1) (h : R (.ok (.ret (.bool false))) s) :
    wpAny (model X.prog X.w) A.in1 (Builtin.«list.__contains__.loop» ⟨[.ref l, v, rawInt 1], []⟩) (GQ.FinOf X.prog X.w A R) (fun e s' => R (.error e) s') s := by
  obtain ⟨hp, g, d, tk, os⟩ := s
  wp_walk using wpAny_loadPart' hl
  have hi : items[((1 : Nat) : Int).toNat]? = none := by simp; omega
  have hi' : items[(1 : Int).toNat]? = none := hi
  rw [hi']
  exact wpAny_pure h
theorem loop_one {R : Result → Shared → Prop} {l : Addr} {u v : Value} {n : Nat} {z : V} {r : Bool} {items : Array Value} (hi : items[(0 : Int).toNat]? = some u) (hl : s.heap.get? l = some { cls := .type "list", data := .seq items n }) (hH : H l = some (.lst [z]))
    (he : wpAny (model X.prog X.w) A.in1 (eqBool u v) (fun b s' => b = r ∧ Inv X pins σ H s') (fun e s' => R (.error e) s') s) (h : ∀ s', Inv X pins σ H s' → R (.ok (.ret (.bool r))) s') :
    wpAny (model X.prog X.w) A.in1 (Builtin.«list.__contains__.loop» ⟨[.ref l, v, rawInt 0], []⟩) (GQ.FinOf X.prog X.w A R) (fun e s' => R (.error e) s') s := by
  obtain ⟨hp, g, d, tk, os⟩ := s
  wp_walk using wpAny_loadPart' hl
  rw [hi]
  refine wpAny_bind (wpAny_mono he (fun b s' q => ?_) fun _ _ x => x)
  obtain ⟨rfl, I'⟩ := q
  cases b with
  | true => exact wpAny_pure (h s' I')
  | false =>
    obtain ⟨_, its, k, rv, e⟩ := I'.hok l _ hH
    have hsz : its.toArray.size = 1 := by rw [List.size_toArray, ← rv.length]; rfl
    exact wpAny_pure ⟨plainId_quiet plain_contains_loop _, codeAny_builtin entry_contains_loop (by
      rw [Around.under_plainId plain_contains_loop _]
      exact loop_end e hsz (h s' I'))⟩
theorem in_one {l : Addr} {v : Value} {z : V} {r : Bool} (I : Inv X pins σ H s) (hH : H l = some (.lst [z]))
    (he : ∀ u, RelV z u → wpAny (model X.prog X.w) A.in1 (eqBool u v) (fun b s' => b = r ∧ Inv X pins σ H s') X.xe s) : wpAny (model X.prog X.w) A (compareOp .In v (.ref l)) (Told X pins σ H r) X.xe s := by
  obtain ⟨_, its, k, rv, e⟩ := I.hok l _ hH
  cases rv with
  | cons ru rr =>
    cases rr
    rename_i u
    show wpAny _ A (do return Value.bool (← contains (.ref l) v)) _ X.xe s
    refine wpAny_bind (wpAny_contains_slot ⟨_, e, rfl⟩ F.slot_list_contains (wpAny_mono (GQ.call_here (Q := fun w s' => w = .bool r ∧ Inv X pins σ H s') F.slot_list_contains ⟨_, e, rfl⟩ F.entry_list_contains (F.args_list_contains_2 _ _) ?_) (fun w s' q => ?_) fun _ _ x => x))
    · unfold Builtin.«list.__contains__»
      refine wpAny_bind (m := slotArgs "__contains__" 1 _) (wpAny_pure ?_)
      refine wpAny_pure ⟨plainId_quiet plain_contains_loop _, codeAny_builtin entry_contains_loop (by
        rw [Around.under_plainId plain_contains_loop _]
        exact loop_one (r := r) (pins := pins) (σ := σ) (u := u) rfl e hH (he u ru) fun s' I' => ⟨rfl, I'⟩)⟩
    · obtain ⟨rfl, I'⟩ := q
      exact wpAny_truthy_bool (wpAny_pure ⟨rfl, I'⟩)
end
end Fh
set_option maxHeartbeats 4000000
namespace Fh
open PySem PySem.Spec PyProof.Rows L2
/-- things that are no faces -/
inductive Odd (H : Hp) : V → Prop
  | non : Odd H .non
  | int (i : Int) : Odd H (.int i)
  | str (z : Str) : Odd H (.str z)
  | tup {t : Addr} {xs : List V} : H t = some (.tup xs) → Odd H (.ref t)
  | lst {t : Addr} {xs : List V} : H t = some (.lst xs) → Odd H (.ref t)
theorem Odd.ty {K : PySem.W.Frag} {H : Hp} {y : V} (o : Odd H y) : ∃ T ∈ ["NoneType", "tuple", "list", "str", "int"], TyX K H y (.type T) := by
  cases o with
  | non => exact ⟨"NoneType", by decide, .base .non⟩
  | int i => exact ⟨"int", by decide, .base (.int i)⟩
  | str z => exact ⟨"str", by decide, .base (.str z)⟩
  | tup h => exact ⟨"tuple", by decide, .base (.tup h)⟩
  | lst h => exact ⟨"list", by decide, .base (.lst h)⟩
/-- the class with its own ==, its promise sp -/
structure FEq (P : Program) (w : World) (K : PySem.W.Frag) (mg : Str → Option Value) (base : Heap) (C : Addr) (n : Nat) (sp : Sp) : Prop where
  ex : ∃ (f : Addr) (fd : FuncData) (ps : List Str), FnOk P w K mg base CX0 n f fd ps sp ∧ Binds K fd ps [] ∧ OwnC K C f
  ins : C8.InsC K C
def IsF (C : Addr) (H : Hp) (y : V) : Prop := ∃ b dy gs, y = .ref b ∧ H b = some (.ins C dy gs)
def Fo (C : Addr) (H : Hp) (y : V) : Prop := Odd H y ∨ IsF C H y
/-- sp answers r and leaves all as it stood -/
def Ans (sp : Sp) (x y : V) (H : Hp) (r : Bool) : Prop := sp [x, y] H (fun z H' => z = .bl r ∧ H' = H) E0
section
variable {X : Cx} {C : Addr} {n : Nat} {sp : Sp} {A : Around} {pins : List (Addr × Obj)} {σ : L2.St} {H : Hp} {s : Shared}
theorem Fo.ty {f : Addr} (fo : Fo C H y) (O : OwnC X.K C f) (i : C8.InsC X.K C) : ∃ t, TyX X.K H y t ∧ PySem.W.notFirst X.K C t = true := by
  rcases fo with o | ⟨b, dy, gs, rfl, hb⟩
  · obtain ⟨T, hT, ty⟩ := o.ty (K := X.K)
    refine ⟨_, ty, ?_⟩
    unfold PySem.W.notFirst
    rw [(O.no T hT).2]
    simp
  · refine ⟨.ref C, .base (.ins hb i.cl i.ha i.hn i.htk i.hm), ?_⟩
    simp [PySem.W.notFirst]
theorem eqL {x y : V} {u v : Value} {r : Bool} (E : FEq X.prog X.w X.K X.mg X.base C n sp) (sb : Sub X n A) (I : Inv X pins σ H s) (hx : IsF C H x) (hy : Fo C H y) (ru : RelV x u) (rv : RelV y v) (hs : Ans sp x y H r) :
    wpAny (model X.prog X.w) A (richCompare .Eq u v) (Told X pins σ H r) X.xe s := by
  obtain ⟨f, fd, ps, F, hb, O⟩ := E.ex
  obtain ⟨a, dx, fs, rfl, ha⟩ := hx
  obtain ⟨t, ty, hn⟩ := hy.ty (X := X) O E.ins
  cases ru
  exact rc_eqL F hb O sb I ha rv ty hn hs
theorem neL {x y : V} {u v : Value} {r : Bool} (E : FEq X.prog X.w X.K X.mg X.base C n sp) (sb : Sub X (n + 1) A) (I : Inv X pins σ H s) (hx : IsF C H x) (hy : Fo C H y) (ru : RelV x u) (rv : RelV y v) (hs : Ans sp x y H r) :
    wpAny (model X.prog X.w) A (richCompare .NotEq u v) (Told X pins σ H (!r)) X.xe s := by
  obtain ⟨f, fd, ps, F, hb, O⟩ := E.ex
  obtain ⟨a, dx, fs, rfl, ha⟩ := hx
  obtain ⟨t, ty, hn⟩ := hy.ty (X := X) O E.ins
  cases ru
  exact rc_neL F hb O sb I ha rv ty hn hs
theorem eqR {x y : V} {u v : Value} {r : Bool} (E : FEq X.prog X.w X.K X.mg X.base C n sp) (sb : Sub X n A) (I : Inv X pins σ H s) (hx : IsF C H x) (hy : Odd H y) (ru : RelV x u) (rv : RelV y v) (hs : Ans sp x y H r) :
    wpAny (model X.prog X.w) A (richCompare .Eq v u) (Told X pins σ H r) X.xe s := by
  obtain ⟨f, fd, ps, F, hb, O⟩ := E.ex
  obtain ⟨a, dx, fs, rfl, ha⟩ := hx
  cases ru
  have XK := I.kIn
  obtain ⟨_, _, _, hx, _⟩ := (show ObjOk X.prog X.w H s.heap a (.ins C dx fs) from I.hok a _ ha)
  obtain ⟨mA, J, _⟩ := ins_get I.hok ha
  obtain ⟨od, J, _⟩ := J.look
  cases hy with
  | non =>
    cases (show v = Value.none from rv)
    exact rc_eqR F hb O sb I ha (y := .non) rfl rfl (by decide) PySem.F.slot_NoneType_eq dec_none hs
  | int i =>
    obtain ⟨t, rfl⟩ := (show ∃ t, v = Value.int i t from rv)
    exact rc_eqR F hb O sb I ha (y := .int i) ⟨t, rfl⟩ (typeIs_int s i t) (by decide) PySem.F.slot_int_eq (dec_int hx) hs
  | str z =>
    obtain ⟨t, rfl⟩ := (show ∃ t, v = Value.str z t from rv)
    exact rc_eqR F hb O sb I ha (y := .str z) ⟨t, rfl⟩ (typeIs_str s z t) (by decide) PySem.F.slot_str_eq (dec_str hx) hs
  | @tup t xs h =>
    cases (show v = Value.ref t from rv)
    obtain ⟨_, its, _, o, e, c, _⟩ := (show ObjOk X.prog X.w H s.heap t (.tup xs) from I.hok t _ h)
    have ht : s.TypeIs (.ref t) "tuple" := ⟨o, e, c⟩
    exact rc_eqR F hb O sb I ha (y := .ref t) rfl ht (by decide) PySem.F.slot_tuple_eq (dec_tuple ht XK J (O.no "tuple" (by decide)).1) hs
  | @lst t xs h =>
    cases (show v = Value.ref t from rv)
    obtain ⟨_, its, k, _, e⟩ := (show ObjOk X.prog X.w H s.heap t (.lst xs) from I.hok t _ h)
    have ht : s.TypeIs (.ref t) "list" := ⟨_, e, rfl⟩
    exact rc_eqR F hb O sb I ha (y := .ref t) rfl ht (by decide) PySem.F.slot_list_eq (dec_list ht XK J (O.no "list" (by decide)).1) hs
/-- == inside a builtin, of two things that are not one -/
theorem eqB {u v : Value} {r : Bool} (hne : (u == v) = false) (hf : ∀ b t, u ≠ .float b t) (h : wpAny (model X.prog X.w) A (richCompare .Eq u v) (Told X pins σ H r) X.xe s) : wpAny (model X.prog X.w) A (eqBool u v) (fun b s' => b = r ∧ Inv X pins σ H s') X.xe s := by
  unfold eqBool
  refine wpAny_holding ?_
  rw [hne]
  simp only [Bool.false_eq_true, if_false]
  have fin : wpAny (model X.prog X.w) A (richCompare .Eq u v >>= fun w => truthOfDropped w) (fun b s' => b = r ∧ Inv X pins σ H s') X.xe s := by
    refine wpAny_bind (wpAny_mono h (fun w s' q => ?_) fun _ _ x => x)
    obtain ⟨rfl, I'⟩ := q
    exact wpAny_truthy_bool ⟨rfl, I'⟩
  cases u <;> first | exact fin | exact absurd rfl (hf _ _)
def rEqF (C : Addr) (sp : Sp) : R2 := fun x y H Q => ∃ r, ((IsF C H x ∧ Fo C H y ∧ Ans sp x y H r) ∨ (Odd H x ∧ IsF C H y ∧ Ans sp y x H r)) ∧ Q (.bl r) H
theorem op_eqF (E : FEq X.prog X.w X.K X.mg X.base C n sp) (hr : Room n X.A) : OpR X (compareOp .Eq) (rEqF C sp) := by
  intro pins s σ H x y v u Q I rx ry h
  obtain ⟨r, h, q⟩ := h
  show wpAny (model X.prog X.w) X.A (richCompare .Eq v u) (EP X pins σ Q) X.xe s
  have go : wpAny (model X.prog X.w) X.A (richCompare .Eq v u) (Told X pins σ H r) X.xe s := by
    rcases h with ⟨hx, hy, ha⟩ | ⟨hx, hy, ha⟩
    · exact eqL E ⟨hr, rfl⟩ I hx hy rx ry ha
    · exact eqR E ⟨hr, rfl⟩ I hy hx ry rx ha
  refine wpAny_mono go (fun w s' z => ?_) fun _ _ x => x
  obtain ⟨rfl, I'⟩ := z
  exact ⟨.bl r, H, I', rfl, q⟩
def rNeF (C : Addr) (sp : Sp) : R2 := fun x y H Q => ∃ r, IsF C H x ∧ Fo C H y ∧ Ans sp x y H r ∧ Q (.bl (!r)) H
theorem op_neF (E : FEq X.prog X.w X.K X.mg X.base C n sp) (hr : Room (n + 1) X.A) : OpR X (compareOp .NotEq) (rNeF C sp) := by
  intro pins s σ H x y v u Q I rx ry h
  obtain ⟨r, hx, hy, ha, q⟩ := h
  show wpAny (model X.prog X.w) X.A (richCompare .NotEq v u) (EP X pins σ Q) X.xe s
  refine wpAny_mono (neL E ⟨hr, rfl⟩ I hx hy rx ry ha) (fun w s' z => ?_) fun _ _ x => x
  obtain ⟨rfl, I'⟩ := z
  exact ⟨.bl (!r), H, I', rfl, q⟩
theorem odd_nofloat {y : V} {v : Value} (o : Odd H y) (rv : RelV y v) : (∀ b t, v ≠ .float b t) ∧ ∀ a, y ≠ .ref a → (v == .ref a) = false := by
  cases o with
  | non => cases (show v = Value.none from rv); exact ⟨(fun _ _ h => nomatch h), fun _ _ => rfl⟩
  | int i => obtain ⟨t, rfl⟩ := (show ∃ t, v = Value.int i t from rv); exact ⟨(fun _ _ h => nomatch h), fun _ _ => rfl⟩
  | str z => obtain ⟨t, rfl⟩ := (show ∃ t, v = Value.str z t from rv); exact ⟨(fun _ _ h => nomatch h), fun _ _ => rfl⟩
  | @tup t xs h => cases (show v = Value.ref t from rv); exact ⟨(fun _ _ h => nomatch h), fun a hn => beq_eq_false_iff_ne.mpr fun e => hn (by injection e with e; rw [e])⟩
  | @lst t xs h => cases (show v = Value.ref t from rv); exact ⟨(fun _ _ h => nomatch h), fun a hn => beq_eq_false_iff_ne.mpr fun e => hn (by injection e with e; rw [e])⟩
def rInF (C : Addr) (sp : Sp) : R2 := fun x y H Q => ∃ (l : Addr) (z : V) (r : Bool), y = .ref l ∧ H l = some (.lst [z]) ∧ IsF C H x ∧ z ≠ x ∧ ((IsF C H z ∧ Ans sp z x H r) ∨ (Odd H z ∧ Ans sp x z H r)) ∧ Q (.bl r) H
theorem op_inF (E : FEq X.prog X.w X.K X.mg X.base C n sp) (hr : Room (n + 1) X.A) : OpR X (compareOp .In) (rInF C sp) := by
  intro pins s σ H x y v u Q I rx ry h
  obtain ⟨l, z, r, rfl, hl, hx, hne, h, q⟩ := h
  cases ry
  have sb : Sub X (n + 1) X.A := ⟨hr, rfl⟩
  refine wpAny_mono (in_one (r := r) I hl fun w rw' => ?_) (fun w s' z => ?_) fun _ _ x => x
  · rcases h with ⟨hz, ha⟩ | ⟨hz, ha⟩
    · refine eqB ?_ ?_ (eqL E sb.in1 I hz (.inr hx) rw' rx ha)
      · obtain ⟨b, _, _, rfl, _⟩ := id hz
        obtain ⟨a, _, _, rfl, _⟩ := id hx
        cases rw'
        cases rx
        exact beq_eq_false_iff_ne.mpr fun e => hne (by injection e with e; rw [e])
      · obtain ⟨b, _, _, rfl, _⟩ := id hz
        cases rw'
        exact fun _ _ h => nomatch h
    · obtain ⟨h1, h2⟩ := odd_nofloat hz rw'
      refine eqB ?_ h1 (eqR E sb.in1 I hx hz rx rw' ha)
      obtain ⟨a, _, _, rfl, _⟩ := id hx
      cases rx
      exact h2 a hne
  · obtain ⟨rfl, I'⟩ := z
    exact ⟨.bl r, H, I', rfl, q⟩
/-- (0, face) == (0, face), where the two are equal -/
def rPairF (C : Addr) (sp : Sp) : R2 := fun x y H Q => ∃ (p q : Addr) (a b : V), x = .ref p ∧ y = .ref q ∧ H p = some (.tup [.int 0, a]) ∧ H q = some (.tup [.int 0, b]) ∧ a ≠ b ∧ IsF C H a ∧ IsF C H b ∧ Ans sp a b H true ∧ Q (.bl true) H
theorem op_pairF (E : FEq X.prog X.w X.K X.mg X.base C n sp) (hr : Room (n + 1) X.A) : OpR X (compareOp .Eq) (rPairF C sp) := by
  intro pins s σ H x y v u Q I rx ry h
  obtain ⟨p, q, a, b, rfl, rfl, hp, hq, hne, ha, hb, hs, k⟩ := h
  cases rx
  cases ry
  have sb : Sub X (n + 1) X.A := ⟨hr, rfl⟩
  obtain ⟨_, its, rv, pl⟩ := (show ObjOk X.prog X.w H s.heap p (.tup [.int 0, a]) from I.hok p _ hp)
  obtain ⟨_, its2, rv2, pl2⟩ := (show ObjOk X.prog X.w H s.heap q (.tup [.int 0, b]) from I.hok q _ hq)
  cases rv with
  | cons r1 rr =>
    cases rr with
    | cons r2 rr =>
      cases rr
      cases rv2 with
      | cons r3 rr =>
        cases rr with
        | cons r4 rr =>
          cases rr
          obtain ⟨t1, rfl⟩ := r1
          obtain ⟨t2, rfl⟩ := r3
          rename_i u1 u2
          show wpAny (model X.prog X.w) X.A (richCompare .Eq (.ref p) (.ref q)) (EP X pins σ Q) X.xe s
          refine GQ.rc_tupG (items := #[.int 0 t1, u1]) (items2 := #[.int 0 t2, u2]) rfl sb.room.units0 (fun _ s' => Inv X pins σ H s') pl pl2 (fun i h1 h2 s' I' => ?_) (fun s' I' => ⟨.bl true, H, I', rfl, k⟩) I
          match i, h1 with
          | 0, _ => exact wpAny_eqBool_int ⟨rfl, I'⟩
          | 1, _ =>
            refine eqB ?_ ?_ (eqL E sb.in1 I' ha (.inr hb) r2 r4 hs)
            · obtain ⟨a', _, _, rfl, _⟩ := id ha
              obtain ⟨b', _, _, rfl, _⟩ := id hb
              cases r2
              cases r4
              exact beq_eq_false_iff_ne.mpr fun e => hne (by injection e with e; rw [e])
            · obtain ⟨a', _, _, rfl, _⟩ := id ha
              cases r2
              exact fun _ _ h => nomatch h
/-! ### repr by the class's own __repr__ -/
structure FRepr (P : Program) (w : World) (K : PySem.W.Frag) (mg : Str → Option Value) (base : Heap) (C : Addr) (n : Nat) (sp : Sp) : Prop where
  ex : ∃ (f : Addr) (fd : FuncData) (ps : List Str), FnOk P w K mg base CX0 n f fd ps sp ∧ Binds K fd ps [] ∧ PySem.W.findIn K (.ref C) "__repr__" = some (some (.ref f)) ∧ PySem.W.isFn K (.ref f) = true
def rRepr (C : Addr) (sp : Sp) : List V → Hp → VK → Prop := fun xs H Q => ∃ (x : V) (z : Str), xs = [x] ∧ IsF C H x ∧ z.length ≤ sizeLine ∧ sp [x] H (fun v H' => v = .str z ∧ H' = H) E0 ∧ Q (.str z) H
theorem call_reprF (E : FRepr X.prog X.w X.K X.mg X.base C n sp) (hr : Room (n + 1) X.A) : CallR X (.builtin "repr") (rRepr C sp) := by
  intro pins s σ H xs us Q I r h
  obtain ⟨x, z, rfl, ⟨a, dx, fs, rfl, ha⟩, hz, hs, q⟩ := h
  obtain ⟨u, rfl, rx⟩ := vals1 r
  cases rx
  obtain ⟨f, fd, ps, F, hb, he, hf⟩ := E.ex
  have sb : Sub X (n + 1) X.A := ⟨hr, rfl⟩
  obtain ⟨mA, J, _⟩ := ins_get I.hok ha
  obtain ⟨od, J, _⟩ := J.look
  obtain ⟨m, hF⟩ := I.fr
  refine PySem.W.repr_K sb.in1.room.units0 hF I.ok.mod.kin J he hf (wpAny_mono (own_call (vs := [.ref a]) F hb sb.in1 I (.cons rfl .nil) hs) (fun u s' w => ?_) fun _ _ x => x)
  obtain ⟨v, H', I', rv, rfl, rfl⟩ := w
  obtain ⟨t, rfl⟩ := rv
  exact ⟨.str z, H', I', ⟨t, rfl⟩, q⟩
def tFmtF (C : Addr) (sp : Sp) (te : TE) : TE := fun σ H Q => te σ H fun x H1 => rRepr C sp [x] H1 Q
theorem pe_fmtF {e : Expr} {te : TE} {pos : Pos} (E : FRepr X.prog X.w X.K X.mg X.base C n sp) (hr : Room n X.A) (he : PE X e te) : PE X (.FormattedValue e 114 none pos) (tFmtF C sp te) := by
  refine ⟨fun pins s σ H Q I h => ?_⟩
  refine wpAny_FormattedValue_repr (thn (he.run pins s σ H _ I h) fun v s1 hv => ?_)
  obtain ⟨x, H1, I1, r1, y, z, ey, ⟨a, dx, fs, ex, ha⟩, hz, hs, q⟩ := hv
  cases ey
  subst ex
  cases r1
  obtain ⟨f, fd, ps, F, hb, hfind, hf⟩ := E.ex
  have sb : Sub X n X.A := ⟨hr, rfl⟩
  obtain ⟨mA, J, _⟩ := ins_get I1.hok ha
  obtain ⟨od, J, _⟩ := J.look
  have XK := I1.kIn
  unfold pyReprObj
  refine wpAny_bind (wpAny_cRoomFor sb.room.units0 ?_)
  refine wpAny_bind (wpAny_bind (J.type.here ((PySem.W.looks_findIn XK hfind).here ?_)))
  (show wpAny _ _ (if (some (Value.ref f)).isNone = true then _ else _) _ _ _; rw [if_neg (by simp)])
  refine wpAny_bind (m := callSpecialIfBound? (.ref a) (Str.ofString "__repr__") []) (PySem.W.ifBound_K XK J hfind hf (wpAny_mono (own_call (vs := [.ref a]) F hb sb I1 (.cons rfl .nil) hs) (fun u s' w => ?_) fun _ _ x => x))
  obtain ⟨v, H', I', rv, rfl, rfl⟩ := w
  obtain ⟨t, rfl⟩ := rv
  refine wpAny_bind (wpAny_isInstance (T := "str") (b := true) (typeIs_str _ _ _) isSubtype_str_str ?_)
  exact wpAny_pure (wpAny_formatField_str ⟨.str z, H', I', ⟨_, rfl⟩, q⟩ ⟨.str z, H', I'.tok _, ⟨_, rfl⟩, q⟩ hz)
end
end Fh
set_option maxHeartbeats 4000000
namespace Fh
open PySem L2 PyProof.Rows
abbrev sInit : Stmt := inClass (top 2) 0
abbrev sEq : Stmt := inClass (top 2) 1
abbrev sRepr : Stmt := inClass (top 2) 2
/-! ### a face's attributes -/
theorem putF_len (f : Str) (v : V) : ∀ fs : List (Str × V), (putF f v fs).length ≤ fs.length + 1
  | [] => Nat.le_refl _
  | (g, x) :: r => by
    show (if g = f then (g, v) :: r else (g, x) :: putF f v r).length ≤ _
    split
    · exact Nat.le_succ _
    · exact Nat.succ_le_succ (putF_len f v r)
def ff (nm ed ch rc cl : V) : List (Str × V) := putF "calls" cl (putF "records" rc (putF "choices" ch (putF "edition" ed (putF "name" nm []))))
section
variable {nm ed ch rc cl : V}
theorem ff_name : (ff nm ed ch rc cl).lookup ("name" : Str) = some nm := by
  unfold ff
  rw [lookup_putF, if_neg (by decide +kernel), lookup_putF, if_neg (by decide +kernel), lookup_putF, if_neg (by decide +kernel), lookup_putF, if_neg (by decide +kernel), lookup_putF, if_pos rfl]
theorem ff_edition : (ff nm ed ch rc cl).lookup ("edition" : Str) = some ed := by
  unfold ff
  rw [lookup_putF, if_neg (by decide +kernel), lookup_putF, if_neg (by decide +kernel), lookup_putF, if_neg (by decide +kernel), lookup_putF, if_pos rfl]
theorem ff_choices : (ff nm ed ch rc cl).lookup ("choices" : Str) = some ch := by
  unfold ff
  rw [lookup_putF, if_neg (by decide +kernel), lookup_putF, if_neg (by decide +kernel), lookup_putF, if_pos rfl]
theorem ff_records : (ff nm ed ch rc cl).lookup ("records" : Str) = some rc := by
  unfold ff
  rw [lookup_putF, if_neg (by decide +kernel), lookup_putF, if_pos rfl]
theorem ff_calls : (ff nm ed ch rc cl).lookup ("calls" : Str) = some cl := by
  unfold ff
  rw [lookup_putF, if_pos rfl]
end
/-- a written empty tuple -/
def WrT (K : PySem.W.Frag) (e : Addr) : Prop := ∃ o : Obj, K.lookup e = some o ∧ o.cls = .type "tuple" ∧ ∀ H : Hp, SqT K H e []
/-- a part of a face: data in tuples, or a written empty tuple -/
def Fv (K : PySem.W.Frag) (H : Hp) (v : V) (d : PyData) : Prop := Tp H v d ∨ ∃ e, v = .ref e ∧ WrT K e ∧ d = .tuple []
theorem Fv.dp {K : PySem.W.Frag} {H : Hp} {v : V} {d : PyData} (h : Fv K H v d) : Dp K H v d := by
  rcases h with h | ⟨e, rfl, ⟨_, _, _, hw⟩, rfl⟩
  · exact Tp.dp d v h
  · exact .tup (hw H) .nil
theorem Fv.keep {K : PySem.W.Frag} {H H' : Hp} {v : V} {d : PyData} (t : Tk H H') (h : Fv K H v d) : Fv K H' v d := h.imp (Tp.keep t d v) id
theorem fv_dp {K : PySem.W.Frag} {H : Hp} : ∀ {vs : List V} {ds : List PyData}, Paired (Fv K H) vs ds → DpAll K H vs ds
  | _, _, .nil => .nil
  | _, _, .cons h t => .cons h.dp (fv_dp t)
theorem fv_keep {K : PySem.W.Frag} {H H' : Hp} (t : Tk H H') : ∀ {vs : List V} {ds : List PyData}, Paired (Fv K H) vs ds → Paired (Fv K H') vs ds
  | _, _, .nil => .nil
  | _, _, .cons h r => .cons (h.keep t) (fv_keep t r)
theorem fv_tp {K : PySem.W.Frag} {H : Hp} : ∀ {vs : List V} {ds : List PyData}, TpAll H vs ds → Paired (Fv K H) vs ds
  | _, _, .nil => .nil
  | _, _, .cons h t => .cons (.inl h) (fv_tp t)
/-- a face of these five parts stands at a -/
def FaceD (K : PySem.W.Frag) (C : Addr) (H : Hp) (a : Addr) (ds : List PyData) : Prop := ∃ (dx : Addr) (v1 v2 v3 v4 v5 : V), H a = some (.ins C dx (ff v1 v2 v3 v4 v5)) ∧ Paired (Fv K H) [v1, v2, v3, v4, v5] ds
theorem FaceD.kp {K : PySem.W.Frag} {C b : Addr} {H H' : Hp} {a : Addr} {n : Nat} {ds : List PyData} (h : FaceD K C H a ds) (k : Kp b H H') (hb : Bag H b n) : FaceD K C H' a ds := by
  obtain ⟨dx, v1, v2, v3, v4, v5, e, p⟩ := h
  refine ⟨dx, v1, v2, v3, v4, v5, k a _ (fun q => ?_) e, fv_keep (k.tk hb) p⟩
  obtain ⟨x, y, z, e2, _⟩ := hb
  rw [← q, e] at e2
  cases e2
theorem FaceD.same {K : PySem.W.Frag} {C : Addr} {H H' : Hp} {a : Addr} {ds : List PyData} (h : FaceD K C H a ds) (k : Same H H') : FaceD K C H' a ds := by
  obtain ⟨dx, v1, v2, v3, v4, v5, e, p⟩ := h
  exact ⟨dx, v1, v2, v3, v4, v5, k a _ e, fv_keep (Same.tk k) p⟩
theorem FaceD.isF {K : PySem.W.Frag} {C : Addr} {H : Hp} {a : Addr} {ds : List PyData} (h : FaceD K C H a ds) : IsF C H (.ref a) := let ⟨dx, v1, v2, v3, v4, v5, e, _⟩ := h; ⟨a, dx, _, rfl, e⟩
/-- what the class is in the text -/
structure ClsF (K : PySem.W.Frag) (mg : Str → Option Value) (C : Addr) : Prop where
  cl : Cls K C
  n1 : NoAttr K C "name"
  n2 : NoAttr K C "edition"
  n3 : NoAttr K C "choices"
  n4 : NoAttr K C "records"
  n5 : NoAttr K C "calls"
  mgC : mg "Face" = some (.ref C)
  isi : mg "isinstance" = none
  me : PySem.W.kitOne K (.ref C) (.ref C) = some true
  ins : C8.InsC K C
  no : ∀ T ∈ ["NoneType", "tuple", "list", "str", "int"], PySem.W.kitOne K (.type T) (.ref C) = some false
def ShAll (ds : List PyData) : Prop := ∀ d ∈ ds, SeqAt.shaped d = true
def spEqF (K : PySem.W.Frag) (C : Addr) : Sp := fun vs H Q _ => ∃ (a : Addr) (y : V) (r : Bool), vs = [.ref a, y] ∧
  ((∃ (b : Addr) (ds es : List PyData), y = .ref b ∧ FaceD K C H a ds ∧ FaceD K C H b es ∧ ShAll ds ∧ ShAll es ∧ r = PyData.eqvAll ds es) ∨ (Odd H y ∧ r = false)) ∧ Q (.bl r) H
def faceText (z : Str) (i : Int) : Str := ((("Face(" ++ z) ++ " ") ++ toString i) ++ ")"
def spReprF (K : PySem.W.Frag) (C : Addr) : Sp := fun vs H Q _ => ∃ (a : Addr) (z : Str) (i : Int) (ds : List PyData), vs = [.ref a] ∧ FaceD K C H a (.str z :: .int i :: ds) ∧ z.length ≤ 8 ∧ 1 ≤ i ∧ i ≤ 99 ∧ Q (.str (faceText z i)) H
def spInitF (C : Addr) : Sp := fun vs H Q _ => ∃ (x dx : Addr) (v1 v2 v3 v4 v5 : V), vs = [.ref x, v1, v2, v3, v4, v5] ∧ H x = some (.ins C dx []) ∧ Q .non (upd H x (.ins C dx (ff v1 v2 v3 v4 v5)))
section
variable {P : Program} {w : World} {K : PySem.W.Frag} {mg : Str → Option Value} {base : Heap}
theorem scEq : FnScope ["self", "other"] ["self", "other"] (defScope sEq) := ⟨rfl, rfl, rfl, by decide +kernel, rfl, by decide +kernel, by decide +kernel⟩
theorem scRepr : FnScope ["self"] ["self"] (defScope sRepr) := ⟨rfl, rfl, rfl, by decide +kernel, rfl, by decide +kernel, by decide +kernel⟩
abbrev pInit : List Str := ["self", "name", "edition", "choices", "records", "calls"]
theorem scInit : FnScope pInit pInit (defScope sInit) := ⟨rfl, rfl, rfl, by decide +kernel, rfl, by decide +kernel, by decide +kernel⟩
theorem ok_init {f C : Addr} {fd : FuncData} {kws : List (Str × V)} (F : FunD K "__init__" "Face.__init__" (defArgs sInit) (defBody sInit) (defScope sInit) [] kws f fd) (T : ClsF K mg C) : FnOk P w K mg base CX0 1 f fd pInit (spInitF C) := by
  refine F.ok scInit (fun vs H Q E h => ?_) (fun cdv A outer s H vs Q E hr h => ?_)
  · obtain ⟨x, dx, v1, v2, v3, v4, v5, rfl, _⟩ := h
    rfl
  · obtain ⟨x, dx, v1, v2, v3, v4, v5, rfl, hx, k⟩ := h
    refine ⟨_, PSs.nox (pss_cons (ps_fld (pv 0) (pv 1) rfl) (pss_cons (ps_fld (pv 0) (pv 2) rfl) (pss_cons (ps_fld (pv 0) (pv 3) rfl) (pss_cons (ps_fld (pv 0) (pv 4) rfl) (pss_one (ps_fld (pv 0) (pv 5) rfl)))))), ?_⟩
    refine ⟨_, rfl, _, rfl, x, C, dx, _, rfl, hx, T.cl, T.n1, (by show 0 < 1000; decide), ?_⟩
    refine ⟨_, rfl, _, rfl, x, C, dx, _, rfl, upd_same, T.cl, T.n2, ?_, ?_⟩
    · exact Nat.lt_of_le_of_lt (putF_len _ _ _) (by show 0 + 1 < 1000; decide)
    refine ⟨_, rfl, _, rfl, x, C, dx, _, rfl, upd_same, T.cl, T.n3, ?_, ?_⟩
    · exact Nat.lt_of_le_of_lt (Nat.le_trans (putF_len _ _ _) (Nat.succ_le_succ (putF_len _ _ _))) (by show 0 + 1 + 1 < 1000; decide)
    refine ⟨_, rfl, _, rfl, x, C, dx, _, rfl, upd_same, T.cl, T.n4, ?_, ?_⟩
    · exact Nat.lt_of_le_of_lt (Nat.le_trans (putF_len _ _ _) (Nat.succ_le_succ (Nat.le_trans (putF_len _ _ _) (Nat.succ_le_succ (putF_len _ _ _))))) (by show 0 + 1 + 1 + 1 < 1000; decide)
    refine ⟨_, rfl, _, rfl, x, C, dx, _, rfl, upd_same, T.cl, T.n5, ?_, ?_⟩
    · exact Nat.lt_of_le_of_lt (Nat.le_trans (putF_len _ _ _) (Nat.succ_le_succ (Nat.le_trans (putF_len _ _ _) (Nat.succ_le_succ (Nat.le_trans (putF_len _ _ _) (Nat.succ_le_succ (putF_len _ _ _))))))) (by show 0 + 1 + 1 + 1 + 1 < 1000; decide)
    have e : upd (upd (upd (upd (upd H x (.ins C dx (putF "name" v1 []))) x (.ins C dx (putF "edition" v2 (putF "name" v1 [])))) x (.ins C dx (putF "choices" v3 (putF "edition" v2 (putF "name" v1 []))))) x (.ins C dx (putF "records" v4 (putF "choices" v3 (putF "edition" v2 (putF "name" v1 [])))))) x (.ins C dx (ff v1 v2 v3 v4 v5)) = upd H x (.ins C dx (ff v1 v2 v3 v4 v5)) := by
      rw [upd_upd, upd_upd, upd_upd, upd_upd]
    rw [← e] at k
    exact k
theorem DpAll.five {H : Hp} {v1 v2 v3 v4 v5 : V} {ds : List PyData} (h : DpAll K H [v1, v2, v3, v4, v5] ds) : ∃ d1 d2 d3 d4 d5, ds = [d1, d2, d3, d4, d5] ∧ Dp K H v1 d1 ∧ Dp K H v2 d2 ∧ Dp K H v3 d3 ∧ Dp K H v4 d4 ∧ Dp K H v5 d5 := by
  cases h with
  | cons h1 h => cases h with
    | cons h2 h => cases h with
      | cons h3 h => cases h with
        | cons h4 h => cases h with
          | cons h5 h => cases h; exact ⟨_, _, _, _, _, rfl, h1, h2, h3, h4, h5⟩
theorem ok_eq {f C : Addr} {fd : FuncData} (F : Fun K "__eq__" "Face.__eq__" sEq f fd) (T : ClsF K mg C) : FnOk P w K mg base CX0 1 f fd ["self", "other"] (spEqF K C) := by
  refine F.ok scEq (fun vs H Q E h => ?_) (fun cdv A outer s H vs Q E hr h => ?_)
  · obtain ⟨a, y, r, rfl, _⟩ := h
    rfl
  · obtain ⟨a, y, r, rfl, hh, q⟩ := h
    refine ⟨_, pss_one (ps_ret (pe_and (pe_callB call_isi (by rfl) T.isi (by decide +kernel) (pa_cons (pv 1) (pa_cons (pe_glob (v := .ref C) rfl T.mgC rfl) pa_nil)))
      (pe_and (pe_cmpR (op_eqD hr.units) (pe_fld (pv 0) rfl) (pe_fld (pv 1) rfl) (nomark _)) (pe_and (pe_cmpR (op_eqD hr.units) (pe_fld (pv 0) rfl) (pe_fld (pv 1) rfl) (nomark _)) (pe_and (pe_cmpR (op_eqD hr.units) (pe_fld (pv 0) rfl) (pe_fld (pv 1) rfl) (nomark _))
      (pe_and (pe_cmpR (op_eqD hr.units) (pe_fld (pv 0) rfl) (pe_fld (pv 1) rfl) (nomark _)) (pe_one (pe_cmpR (op_eqD hr.units) (pe_fld (pv 0) rfl) (pe_fld (pv 1) rfl) (nomark _))))))))), ?_⟩
    rcases hh with ⟨b, ds, es, rfl, ⟨dx, v1, v2, v3, v4, v5, ha, hd⟩, ⟨dy, w1, w2, w3, w4, w5, hb, he⟩, sd, se, rfl⟩ | ⟨ho, rfl⟩
    · obtain ⟨d1, d2, d3, d4, d5, rfl, p1, p2, p3, p4, p5⟩ := DpAll.five (fv_dp hd)
      obtain ⟨e1, e2, e3, e4, e5, rfl, q1, q2, q3, q4, q5⟩ := DpAll.five (fv_dp he)
      refine ⟨_, rfl, _, _, .ref C, .ref C, true, rfl, .own C, .base (.ins hb T.cl T.ins.ha T.ins.hn T.ins.htk T.ins.hm), T.me, true, rfl, iteT ?_⟩
      refine ⟨_, rfl, a, C, dx, _, _, rfl, ha, T.cl, T.n1, ff_name, _, rfl, b, C, dy, _, _, rfl, hb, T.cl, T.n1, ff_name, d1, e1, p1, q1, sd _ (by simp), se _ (by simp), _, rfl, ?_⟩
      have er : PyData.eqvAll [d1, d2, d3, d4, d5] [e1, e2, e3, e4, e5] = (PyData.eqv d1 e1 && (PyData.eqv d2 e2 && (PyData.eqv d3 e3 && (PyData.eqv d4 e4 && PyData.eqv d5 e5)))) := by
        show (PyData.eqv d1 e1 && (PyData.eqv d2 e2 && (PyData.eqv d3 e3 && (PyData.eqv d4 e4 && (PyData.eqv d5 e5 && true))))) = _
        rw [Bool.and_true]
      rw [er] at q
      cases h1 : PyData.eqv d1 e1 with
      | false => rw [h1] at q; exact iteF q
      | true =>
      rw [h1] at q
      refine iteT ?_
      refine ⟨_, rfl, a, C, dx, _, _, rfl, ha, T.cl, T.n2, ff_edition, _, rfl, b, C, dy, _, _, rfl, hb, T.cl, T.n2, ff_edition, d2, e2, p2, q2, sd _ (by simp), se _ (by simp), _, rfl, ?_⟩
      cases h2 : PyData.eqv d2 e2 with
      | false => rw [h2] at q; exact iteF q
      | true =>
      rw [h2] at q
      refine iteT ?_
      refine ⟨_, rfl, a, C, dx, _, _, rfl, ha, T.cl, T.n3, ff_choices, _, rfl, b, C, dy, _, _, rfl, hb, T.cl, T.n3, ff_choices, d3, e3, p3, q3, sd _ (by simp), se _ (by simp), _, rfl, ?_⟩
      cases h3 : PyData.eqv d3 e3 with
      | false => rw [h3] at q; exact iteF q
      | true =>
      rw [h3] at q
      refine iteT ?_
      refine ⟨_, rfl, a, C, dx, _, _, rfl, ha, T.cl, T.n4, ff_records, _, rfl, b, C, dy, _, _, rfl, hb, T.cl, T.n4, ff_records, d4, e4, p4, q4, sd _ (by simp), se _ (by simp), _, rfl, ?_⟩
      cases h4 : PyData.eqv d4 e4 with
      | false => rw [h4] at q; exact iteF q
      | true =>
      rw [h4] at q
      refine iteT ?_
      exact ⟨_, rfl, a, C, dx, _, _, rfl, ha, T.cl, T.n5, ff_calls, _, rfl, b, C, dy, _, _, rfl, hb, T.cl, T.n5, ff_calls, d5, e5, p5, q5, sd _ (by simp), se _ (by simp), q⟩
    · obtain ⟨Ty, hT, ty⟩ := ho.ty (K := K)
      exact ⟨_, rfl, _, _, .type Ty, .ref C, false, rfl, .own C, ty, T.no Ty hT, false, rfl, iteF q⟩
theorem txtN : ∀ n : Nat, n < 100 → ((toString (n : Int) : String) : Str).length ≤ 3 := by decide +kernel
theorem txt99 {i : Int} (h0 : 1 ≤ i) (h1 : i ≤ 99) : ((toString i : String) : Str).length ≤ 3 := by
  have e : ((i.toNat : Nat) : Int) = i := by omega
  have := txtN i.toNat (by omega)
  rw [e] at this
  exact this
theorem empty_app (z : Str) : Str.empty ++ z = z := by
  show (⟨#[] ++ z.cps⟩ : Str) = z
  rw [Array.empty_append]
theorem ok_repr {f C : Addr} {fd : FuncData} (F : Fun K "__repr__" "Face.__repr__" sRepr f fd) (T : ClsF K mg C) : FnOk P w K mg base CX0 1 f fd ["self"] (spReprF K C) := by
  refine F.ok scRepr (fun vs H Q E h => ?_) (fun cdv A outer s H vs Q E hr h => ?_)
  · obtain ⟨a, z, i, ds, rfl, _⟩ := h
    rfl
  · obtain ⟨a, z, i, ds, rfl, ⟨dx, v1, v2, v3, v4, v5, ha, hd⟩, hz, i0, i1, q⟩ := h
    obtain ⟨d1, d2, d3, d4, d5, e, p1, p2, p3, p4, p5⟩ := DpAll.five (fv_dp hd)
    cases e
    cases p1
    cases p2
    refine ⟨_, pss_one (ps_ret (pe_joined (.cons pe_str (.cons (pe_fmt (pe_fld (pv 0) rfl)) (.cons pe_str (.cons (pe_fmt (pe_fld (pv 0) rfl)) (.cons pe_str .nil))))))), ?_⟩
    have hT := txt99 i0 i1
    have hlog : i.natAbs.log2 < 1920 := by
      have h1 : i.natAbs < 2 ^ 7 := by omega
      have h2 : i.natAbs.log2 < 7 := (Nat.log2_lt (by omega)).mpr h1
      omega
    have big : ∀ {n : Nat}, n ≤ 30 → n ≤ sizeLine := fun h => Nat.le_trans h (by decide)
    have l1 : ("Face(" : Str).length = 5 := by decide +kernel
    have l2 : (" " : Str).length = 1 := by decide +kernel
    have l3 : (")" : Str).length = 1 := by decide +kernel
    have l0 : Str.empty.length = 0 := rfl
    refine ⟨_, rfl, big (by rw [app_len]; omega), _, rfl, a, C, dx, _, _, rfl, ha, T.cl, T.n1, ff_name, .inl ⟨_, rfl, big (by omega), _, rfl, big (by rw [app_len, app_len]; omega), _, rfl, big (by rw [app_len, app_len, app_len]; omega), _, rfl, a, C, dx, _, _, rfl, ha, T.cl, T.n2, ff_edition, .inr ⟨_, rfl, hlog, _, rfl, big (by rw [app_len, app_len, app_len, app_len]; omega), _, rfl, big (by rw [app_len, app_len, app_len, app_len, app_len]; omega), ?_⟩⟩⟩
    show Q (.str (((((Str.empty ++ "Face(") ++ z) ++ " ") ++ toString i) ++ ")")) H
    rw [empty_app]
    exact q
end
end Fh
set_option maxHeartbeats 4000000
namespace Fh
open PySem L2 PyProof.Rows
abbrev sFace : Stmt := top 16
abbrev sAnew : Stmt := top 17
/-- the making of a face: its def with the three keyword-only defaults -/
structure MkF (P : Program) (w : World) (K : PySem.W.Frag) (mg : Str → Option Value) (base : Heap) (C : Addr) : Prop where
  ex : ∃ (f : Addr) (fd : FuncData) (e1 e2 e3 : Addr), Mk K C f ∧ FnOk P w K mg base CX0 1 f fd pInit (spInitF C) ∧ WrT K e1 ∧ WrT K e2 ∧ WrT K e3 ∧ FunD K "__init__" "Face.__init__" (defArgs sInit) (defBody sInit) (defScope sInit) [] [("choices", .ref e1), ("records", .ref e2), ("calls", .ref e3)] f fd
  mgC : mg "Face" = some (.ref C)
def g0 {α : Type} (us mv ws : List α) : List α := us ++ ws
def g1 {α : Type} : List α → List α → List α → List α
  | [s, n], [c, l], [r, e] => [s, n, e, c, r, l]
  | _, _, _ => []
def g2 {α : Type} : List α → List α → List α → List α
  | [s], [l], [r, c, e, n] => [s, n, e, c, r, l]
  | _, _, _ => []
def g3 {α : Type} : List α → List α → List α → List α
  | [s, n, e], [], [l, r, c] => [s, n, e, c, r, l]
  | _, _, _ => []
section
variable {K : PySem.W.Frag} {f : Addr} {fd : FuncData} {e1 e2 e3 : Addr}
abbrev DInit (K : PySem.W.Frag) (e1 e2 e3 f : Addr) (fd : FuncData) : Prop := FunD K "__init__" "Face.__init__" (defArgs sInit) (defBody sInit) (defScope sInit) [] [("choices", .ref e1), ("records", .ref e2), ("calls", .ref e3)] f fd
theorem kb0 (F : DInit K e1 e2 e3 f fd) : ∃ mv : List Value, KBn K fd pInit 3 ["choices", "records", "calls"] (fun us ws => g0 us mv ws) (fun vs zs => g0 vs [] zs) :=
  FunD.kbinds0 F 3 ["choices", "records", "calls"] [] (fun {α} us mv ws => g0 us mv ws) (by simp) (fun q h => by cases h) (fun r1 _ r3 => r1.append r3) fun D doc pm an cdv ct us mv ws h1 h2 h3 => by
    match us, h1, ws, h3, mv, h2 with
    | [_, _, _], _, [_, _, _], _, [], _ => exact rfl
theorem kb3 (F : DInit K e1 e2 e3 f fd) : ∃ mv : List Value, KBn K fd pInit 3 ["calls", "records", "choices"] (fun us ws => g3 us mv ws) (fun vs zs => g3 vs [] zs) :=
  FunD.kbinds0 F 3 ["calls", "records", "choices"] [] (fun {α} us mv ws => g3 us mv ws) (by simp) (fun q h => by cases h) (fun {vs mz zs us mv ws} r1 r2 r3 => by
      cases r1 with
      | nil => exact .nil
      | cons a0 r1 =>
        cases r1 with
        | nil => exact .nil
        | cons a1 r1 =>
          cases r1 with
          | nil => exact .nil
          | cons a2 r1 =>
            cases r1 with
            | cons _ _ => exact .nil
            | nil =>
              cases r2 with
              | cons _ _ => exact .nil
              | nil =>
                cases r3 with
                | nil => exact .nil
                | cons c0 r3 =>
                  cases r3 with
                  | nil => exact .nil
                  | cons c1 r3 =>
                    cases r3 with
                    | nil => exact .nil
                    | cons c2 r3 =>
                      cases r3 with
                      | cons _ _ => exact .nil
                      | nil =>
                        exact .cons a0 (.cons a1 (.cons a2 (.cons c2 (.cons c1 (.cons c0 .nil)))))) fun D doc pm an cdv ct us mv ws h1 h2 h3 => by
    match us, h1, ws, h3, mv, h2 with
    | [_, _, _], _, [_, _, _], _, [], _ => exact rfl
theorem kb1 (F : DInit K e1 e2 e3 f fd) : ∃ mv : List Value, KBn K fd pInit 2 ["records", "edition"] (fun us ws => g1 us mv ws) (fun vs zs => g1 vs [.ref e1, .ref e3] zs) :=
  FunD.kbinds0 F 2 ["records", "edition"] [("choices", .ref e1), ("calls", .ref e3)] (fun {α} us mv ws => g1 us mv ws) (by simp) (fun q h => by
      simp only [List.mem_cons, List.not_mem_nil, or_false] at h
      rcases h with rfl | rfl <;> simp) (fun {vs mz zs us mv ws} r1 r2 r3 => by
      cases r1 with
      | nil => exact .nil
      | cons a0 r1 =>
        cases r1 with
        | nil => exact .nil
        | cons a1 r1 =>
          cases r1 with
          | cons _ _ => exact .nil
          | nil =>
            cases r2 with
            | nil => exact .nil
            | cons b0 r2 =>
              cases r2 with
              | nil => exact .nil
              | cons b1 r2 =>
                cases r2 with
                | cons _ _ => exact .nil
                | nil =>
                  cases r3 with
                  | nil => exact .nil
                  | cons c0 r3 =>
                    cases r3 with
                    | nil => exact .nil
                    | cons c1 r3 =>
                      cases r3 with
                      | cons _ _ => exact .nil
                      | nil =>
                        exact .cons a0 (.cons a1 (.cons c1 (.cons b0 (.cons c0 (.cons b1 .nil)))))) fun D doc pm an cdv ct us mv ws h1 h2 h3 => by
    match us, h1, ws, h3, mv, h2 with
    | [_, _], _, [_, _], _, [_, _], _ => exact ⟨_, _, _, _, _, _, rfl, rfl, _, _, _, _, _, _, rfl, rfl, rfl⟩
theorem kb2 (F : DInit K e1 e2 e3 f fd) : ∃ mv : List Value, KBn K fd pInit 1 ["records", "choices", "edition", "name"] (fun us ws => g2 us mv ws) (fun vs zs => g2 vs [.ref e3] zs) :=
  FunD.kbinds0 F 1 ["records", "choices", "edition", "name"] [("calls", .ref e3)] (fun {α} us mv ws => g2 us mv ws) (by simp) (fun q h => by
      simp only [List.mem_cons, List.not_mem_nil, or_false] at h
      rcases h with rfl
      simp) (fun {vs mz zs us mv ws} r1 r2 r3 => by
      cases r1 with
      | nil => exact .nil
      | cons a0 r1 =>
        cases r1 with
        | cons _ _ => exact .nil
        | nil =>
          cases r2 with
          | nil => exact .nil
          | cons b0 r2 =>
            cases r2 with
            | cons _ _ => exact .nil
            | nil =>
              cases r3 with
              | nil => exact .nil
              | cons c0 r3 =>
                cases r3 with
                | nil => exact .nil
                | cons c1 r3 =>
                  cases r3 with
                  | nil => exact .nil
                  | cons c2 r3 =>
                    cases r3 with
                    | nil => exact .nil
                    | cons c3 r3 =>
                      cases r3 with
                      | cons _ _ => exact .nil
                      | nil =>
                        exact .cons a0 (.cons c3 (.cons c2 (.cons c1 (.cons c0 (.cons b0 .nil)))))) fun D doc pm an cdv ct us mv ws h1 h2 h3 => by
    match us, h1, ws, h3, mv, h2 with
    | [_], _, [_, _, _, _], _, [_], _ => exact ⟨_, _, _, _, _, _, rfl, rfl, rfl⟩
end
/-- a new face of the five parts -/
def spMk (K : PySem.W.Frag) (C : Addr) : Sp := fun vs H Q _ => ∃ (p : Addr) (v1 v2 v3 v4 v5 : V) (ds : List PyData), vs = [.ref p] ∧ H p = some (.tup [v1, v2, v3, v4, v5]) ∧ TpAll H [v1, v2, v3, v4, v5] ds ∧ ShAll ds ∧
  ∀ (x : Addr) (H' : Hp), Same H H' → H x = none → FaceD K C H' x ds → Q (.ref x) H'
theorem made {K : PySem.W.Frag} {C : Addr} {H : Hp} {x dx : Addr} {v1 v2 v3 v4 v5 : V} {ds : List PyData} (hx : H x = none) (hdx : H dx = none) (hp : Paired (Fv K H) [v1, v2, v3, v4, v5] ds) :
    Same H (upd (upd (upd H dx (.own x)) x (.ins C dx [])) x (.ins C dx (ff v1 v2 v3 v4 v5))) ∧ FaceD K C (upd (upd (upd H dx (.own x)) x (.ins C dx [])) x (.ins C dx (ff v1 v2 v3 v4 v5))) x ds := by
  have sm : Same H (upd (upd (upd H dx (.own x)) x (.ins C dx [])) x (.ins C dx (ff v1 v2 v3 v4 v5))) := fun b o e => by
    rw [upd_ne (ne_of_none e hx), upd_ne (ne_of_none e hx), upd_ne (ne_of_none e hdx)]
    exact e
  exact ⟨sm, dx, v1, v2, v3, v4, v5, upd_same, fv_keep (Same.tk sm) hp⟩
section
variable {P : Program} {w : World} {K : PySem.W.Frag} {mg : Str → Option Value} {base : Heap}
theorem scFace : FnScope ["_law_parts"] ["_law_parts"] (defScope sFace) := ⟨rfl, rfl, rfl, by decide +kernel, rfl, by decide +kernel, by decide +kernel⟩
theorem ok_face {f C : Addr} {fd : FuncData} (F : Fun K "_law_made_face" "_law_made_face" sFace f fd) (M : MkF P w K mg base C) : FnOk P w K mg base CX0 3 f fd ["_law_parts"] (spMk K C) := by
  obtain ⟨fi, fdi, e1, e2, e3, mk, FI, w1, w2, w3, DI⟩ := M.ex
  obtain ⟨mv, hb⟩ := kb0 DI
  refine F.ok scFace (fun vs H Q E h => ?_) (fun cdv A outer s H vs Q E hr h => ?_)
  · obtain ⟨p, v1, v2, v3, v4, v5, ds, rfl, _⟩ := h
    rfl
  · obtain ⟨p, v1, v2, v3, v4, v5, ds, rfl, hp, tp, sh, k⟩ := h
    refine ⟨_, pss_one (ps_ret (pe_makeK mk FI hr rfl M.mgC hb pass0 (pa_cons (pe_ix ix_tup (pv 0) pe_int (fun _ _ => rfl)) (pa_cons (pe_ix ix_tup (pv 0) pe_int (fun _ _ => rfl)) pa_nil))
      (pk_cons (pe_ix ix_tup (pv 0) pe_int (fun _ _ => rfl)) (pk_cons (pe_ix ix_tup (pv 0) pe_int (fun _ _ => rfl)) (pk_cons (pe_ix ix_tup (pv 0) pe_int (fun _ _ => rfl)) pk_nil))))), ?_⟩
    refine ⟨_, rfl, p, _, _, _, rfl, rfl, SqT.of hp, rfl, _, rfl, p, _, _, _, rfl, rfl, SqT.of hp, rfl, _, rfl, p, _, _, _, rfl, rfl, SqT.of hp, rfl, _, rfl, p, _, _, _, rfl, rfl, SqT.of hp, rfl, _, rfl, p, _, _, _, rfl, rfl, SqT.of hp, rfl, rfl, rfl, fun x dx hx hdx hne => ?_⟩
    obtain ⟨sm, fc⟩ := made (C := C) hx hdx (fv_tp (K := K) tp)
    exact ⟨x, dx, v1, v2, v3, v4, v5, rfl, upd_same, rfl, k x _ sm hx fc⟩
abbrev nAnew : List Str := ["_law_parts", "_law_own", "_law_age", "_law_opts", "_law_recs", "_law_acts"]
theorem scAnew : FnScope nAnew ["_law_parts"] (defScope sAnew) := ⟨rfl, rfl, rfl, by decide +kernel, rfl, by decide +kernel, by decide +kernel⟩
theorem eqv_nilT (ds : List PyData) : PyData.eqv (.tuple ds) (.tuple []) = decide (ds = []) := by
  cases ds with
  | nil => rfl
  | cons a r => rfl
/-- parts whose last three are tuples -/
def spAnew (K : PySem.W.Frag) (C : Addr) : Sp := fun vs H Q _ => ∃ (p : Addr) (v1 v2 v3 v4 v5 : V) (d1 d2 : PyData) (c3 c4 c5 : List PyData), vs = [.ref p] ∧ H p = some (.tup [v1, v2, v3, v4, v5]) ∧ TpAll H [v1, v2, v3, v4, v5] [d1, d2, .tuple c3, .tuple c4, .tuple c5] ∧ ShAll [d1, d2, .tuple c3, .tuple c4, .tuple c5] ∧
  ∀ (x : Addr) (H' : Hp), Same H H' → H x = none → FaceD K C H' x [d1, d2, .tuple c3, .tuple c4, .tuple c5] → Q (.ref x) H'
theorem ok_anew {f C : Addr} {fd : FuncData} (F : Fun K "_law_made_anew" "_law_made_anew" sAnew f fd) (M : MkF P w K mg base C) : FnOk P w K mg base CX0 3 f fd ["_law_parts"] (spAnew K C) := by
  obtain ⟨fi, fdi, e1, e2, e3, mk, FI, w1, w2, w3, DI⟩ := M.ex
  obtain ⟨mv1, hb1⟩ := kb1 DI
  obtain ⟨mv2, hb2⟩ := kb2 DI
  obtain ⟨mv3, hb3⟩ := kb3 DI
  refine F.ok scAnew (fun vs H Q E h => ?_) (fun cdv A outer s H vs Q E hr h => ?_)
  · obtain ⟨p, v1, v2, v3, v4, v5, d1, d2, c3, c4, c5, rfl, _⟩ := h
    rfl
  · obtain ⟨p, v1, v2, v3, v4, v5, d1, d2, c3, c4, c5, rfl, hp, tp, sh, k⟩ := h
    refine ⟨_, pss_cons (ps_asg (pv 0) (pg_tup rfl (pgs_cons (pg_name (i := 1) scAnew.nd rfl (.inl rfl)) (pgs_cons (pg_name (i := 2) scAnew.nd rfl (.inl rfl)) (pgs_cons (pg_name (i := 3) scAnew.nd rfl (.inl rfl)) (pgs_cons (pg_name (i := 4) scAnew.nd rfl (.inl rfl)) (pgs_cons (pg_name (i := 5) scAnew.nd rfl (.inl rfl)) pgs_nil)))))))
      (pss_cons (ps_if (PW.pt (pw_and (pt_cmpR (op_eqD hr.units) (pv 3) (pe_tup pa_nil) (nomark _)) (pw_and1 (pt_cmpR (op_eqD hr.units) (pv 5) (pe_tup pa_nil) (nomark _)))))
        (pss_one (ps_ret (pe_makeK mk FI hr rfl M.mgC hb1 pass0 (pa_cons (pv 1) pa_nil) (pk_cons (pv 4) (pk_cons (pv 2) pk_nil))))) pss_nil)
      (pss_cons (ps_if (pt_cmpR (op_eqD hr.units) (pv 5) (pe_tup pa_nil) (nomark _))
        (pss_one (ps_ret (pe_makeK0 mk FI hr rfl M.mgC hb2 pass0 (pk_cons (pv 4) (pk_cons (pv 3) (pk_cons (pv 2) (pk_cons (pv 1) pk_nil))))))) pss_nil)
      (pss_one (ps_ret (pe_makeK mk FI hr rfl M.mgC hb3 pass0 (pa_cons (pv 1) (pa_cons (pv 2) pa_nil)) (pk_cons (pv 5) (pk_cons (pv 4) (pk_cons (pv 3) pk_nil)))))))), ?_⟩
    refine ⟨_, rfl, p, _, rfl, SqT.of hp, rfl, _, _, rfl, _, _, rfl, _, _, rfl, _, _, rfl, _, _, rfl, rfl, ?_⟩
    have t3 : ∃ t4, TpAll H [v1, v2, v3, v4, v5] [d1, d2, .tuple c3, .tuple c4, .tuple c5] ∧ Tp H v3 (.tuple c3) ∧ Tp H v5 (.tuple c5) ∧ t4 = () := by
      cases tp with
      | cons a1 tp => cases tp with
        | cons a2 tp => cases tp with
          | cons a3 tp => cases tp with
            | cons a4 tp => cases tp with
              | cons a5 tp => cases tp; exact ⟨(), .cons a1 (.cons a2 (.cons a3 (.cons a4 (.cons a5 .nil)))), a3, a5, rfl⟩
    obtain ⟨_, tp, tp3, tp5, _⟩ := t3
    have s3 := sh (.tuple c3) (by simp)
    have s5 := sh (.tuple c5) (by simp)
    have fin : ∀ (H1 : Hp) (x dx : Addr) (w1 w2 w3 w4 w5 : V), Same H H1 → H1 x = none → H1 dx = none → Paired (Fv K H1) [w1, w2, w3, w4, w5] [d1, d2, .tuple c3, .tuple c4, .tuple c5] →
        Q (.ref x) (upd (upd (upd H1 dx (.own x)) x (.ins C dx [])) x (.ins C dx (ff w1 w2 w3 w4 w5))) := by
      intro H1 x dx w1 w2 w3 w4 w5 sm hx hdx hp'
      obtain ⟨sm', fc⟩ := made (C := C) hx hdx hp'
      exact k x _ (sm.trans sm') (sm.free hx) fc
    have nw : ∀ {H1 : Hp} {t : Addr}, Same H H1 → H1 t = none → Same H (upd H1 t (.tup [])) := fun sm ht b o e => by
      rw [upd_ne (ne_of_none (sm b o e) ht)]
      exact sm b o e
    have five : ∀ {H1 : Hp}, Same H H1 → Paired (Fv K H1) [v1, v2, v3, v4, v5] [d1, d2, .tuple c3, .tuple c4, .tuple c5] := fun sm => fv_keep (Same.tk sm) (fv_tp tp)
    -- the second test and what follows it
    have rest : ∀ (H1 : Hp), Same H H1 → _ := fun H1 sm1 => show (tSeq (tIfS (tTest (tOp (rEqD K) (tVar 5) (tTup tNil))) (tRet (tMakeK C 0 4 (spInitF C) (fun vs zs => g2 vs [.ref e3] zs) E0 tNil (tCons (tVar 4) (tCons (tVar 3) (tCons (tVar 2) (tCons (tVar 1) tNil)))))) tNext)
        (tRet (tMakeK C 2 3 (spInitF C) (fun vs zs => g3 vs [] zs) E0 (tCons (tVar 1) (tCons (tVar 2) tNil)) (tCons (tVar 5) (tCons (tVar 4) (tCons (tVar 3) tNil)))))) { nx := fun _ H' => Q .non H', rt := Q } [some (.ref p), some v1, some v2, some v3, some v4, some v5] H1 from by
      refine ⟨_, rfl, Nat.zero_le _, fun t ht => ⟨_, _, Tp.dp _ _ (Tp.keep (Same.tk (nw sm1 ht)) _ _ tp5), .tup (SqT.of upd_same) .nil, s5, rfl, _, rfl, ?_⟩⟩
      have sm2 := nw sm1 ht
      rw [eqv_nilT]
      refine ite2 (fun h5 => ?_) (fun h5 => ?_)
      · have e5 : c5 = [] := of_decide_eq_true h5
        refine ⟨_, rfl, _, rfl, _, rfl, _, rfl, rfl, rfl, fun x dx hx hdx hne => ?_⟩
        refine ⟨x, dx, v1, v2, v3, v4, .ref e3, rfl, upd_same, rfl, fin _ x dx _ _ _ _ _ sm2 hx hdx ?_⟩
        have q := five sm2
        cases q with
        | cons a1 q => cases q with
          | cons a2 q => cases q with
            | cons a3 q => cases q with
              | cons a4 q => exact .cons a1 (.cons a2 (.cons a3 (.cons a4 (.cons (.inr ⟨e3, rfl, w3, by rw [e5]⟩) .nil))))
      · refine ⟨_, rfl, _, rfl, _, rfl, _, rfl, _, rfl, rfl, rfl, fun x dx hx hdx hne => ?_⟩
        exact ⟨x, dx, v1, v2, v3, v4, v5, rfl, upd_same, rfl, fin _ x dx _ _ _ _ _ sm2 hx hdx (five sm2)⟩
    refine ⟨_, rfl, Nat.zero_le _, fun t ht => ⟨_, _, Tp.dp _ _ (Tp.keep (Same.tk (nw (Same.refl H) ht)) _ _ tp3), .tup (SqT.of upd_same) .nil, s3, rfl, _, rfl, ?_⟩⟩
    have sm1 := nw (Same.refl H) ht
    rw [eqv_nilT]
    by_cases h3 : c3 = []
    · rw [decide_eq_true h3]
      refine iteT ⟨_, rfl, Nat.zero_le _, fun t2 ht2 => ⟨_, _, Tp.dp _ _ (Tp.keep (Same.tk (nw sm1 ht2)) _ _ tp5), .tup (SqT.of upd_same) .nil, s5, rfl, _, rfl, ?_⟩⟩
      have sm2 := nw sm1 ht2
      rw [eqv_nilT]
      by_cases h5 : c5 = []
      · rw [decide_eq_true h5]
        refine iteT ⟨_, rfl, _, rfl, _, rfl, rfl, rfl, fun x dx hx hdx hne => ?_⟩
        refine ⟨x, dx, v1, v2, .ref e1, v4, .ref e3, rfl, upd_same, rfl, fin _ x dx _ _ _ _ _ sm2 hx hdx ?_⟩
        have q := five sm2
        cases q with
        | cons a1 q => cases q with
          | cons a2 q => cases q with
            | cons a3 q => cases q with
              | cons a4 q => exact .cons a1 (.cons a2 (.cons (.inr ⟨e1, rfl, w1, by rw [h3]⟩) (.cons a4 (.cons (.inr ⟨e3, rfl, w3, by rw [h5]⟩) .nil))))
      · rw [decide_eq_false h5]
        exact iteF (rest _ sm2)
    · rw [decide_eq_false h3]
      exact iteF (iteF (rest _ sm1))
end
end Fh
set_option maxHeartbeats 4000000
namespace Fh
open PySem L2 PyProof.Rows
abbrev sMore : Stmt := top 20
abbrev sNear : Stmt := top 19
def spMore : Sp := fun vs H Q _ => ∃ (p : Addr) (xs : List V), vs = [.ref p] ∧ H p = some (.tup xs) ∧
  ∀ (v : V) (ds : List PyData) (H' : Hp), Same H H' → Tp H' v (.tuple ds) → (∀ d ∈ ds, Sh 0 d) → Q v H'
theorem Same.new {H : Hp} {p : Addr} {o : HO} (h : H p = none) : Same H (upd H p o) := fun b u e => by
  rw [upd_ne (ne_of_none e h)]
  exact e
theorem sh_str {z : Str} (h : (PyData.str z).canLay0 = true) : Sh 0 (.str z) := ⟨h, Nat.le_refl _⟩
/-- a tuple that is read and its slice up to the last -/
theorem cut_last {x : V} (xs : List V) : ¬ (HT.sIx (xs ++ [x]).length 0 none = 0 ∧ HT.sIx (xs ++ [x]).length (xs ++ [x]).length (some (-1)) = (xs ++ [x]).length) ∧ cutV (xs ++ [x]) none (some (-1)) = xs := by
  have e : HT.sIx (xs ++ [x]).length (xs ++ [x]).length (some (-1)) = xs.length := by
    show (if (-1 : Int) < 0 then ((-1 : Int) + ((xs ++ [x]).length : Int)).toNat else min (-1 : Int).toNat (xs ++ [x]).length) = _
    rw [if_pos (by decide), List.length_append]
    show ((-1 : Int) + ((xs.length + 1 : Nat) : Int)).toNat = _
    omega
  refine ⟨fun h => ?_, ?_⟩
  · rw [e, List.length_append] at h
    have := h.2
    simp at this
  · unfold cutV
    rw [e, HT.sIx_none, List.drop_zero, Nat.sub_zero, List.take_left']
    rfl
theorem cut_to {xs : List V} {i : Int} (h0 : 0 ≤ i) (h1 : i < (xs.length : Int)) : ¬ (HT.sIx xs.length 0 none = 0 ∧ HT.sIx xs.length xs.length (some i) = xs.length) ∧ cutV xs none (some i) = xs.take i.toNat := by
  have e : HT.sIx xs.length xs.length (some i) = i.toNat := by
    have := HT.sIx_nat xs.length xs.length i.toNat
    rw [show ((i.toNat : Nat) : Int) = i by omega] at this
    rw [this]
    omega
  refine ⟨fun h => ?_, ?_⟩
  · rw [e] at h
    omega
  · unfold cutV
    rw [e, HT.sIx_none, List.drop_zero, Nat.sub_zero]
theorem cut_from {xs : List V} {i : Int} (h0 : 0 ≤ i) (h1 : i < (xs.length : Int)) : ¬ (HT.sIx xs.length 0 (some (i + 1)) = 0 ∧ HT.sIx xs.length xs.length none = xs.length) ∧ cutV xs (some (i + 1)) none = xs.drop (i.toNat + 1) := by
  have e : HT.sIx xs.length 0 (some (i + 1)) = i.toNat + 1 := by
    have := HT.sIx_nat xs.length 0 (i.toNat + 1)
    rw [show ((i.toNat + 1 : Nat) : Int) = i + 1 by omega] at this
    rw [this]
    omega
  refine ⟨fun h => ?_, ?_⟩
  · rw [e] at h
    omega
  · unfold cutV
    rw [e, HT.sIx_none]
    exact List.take_of_length_le (by rw [List.length_drop]; exact Nat.le_refl _)
def spNear : Sp := fun vs H Q _ => ∃ (pr po pl : Addr) (spot : Int) (xr xo xl : List V) (dr do_ dl : List PyData), vs = [.ref pr, .int spot, .ref po] ∧ H pr = some (.tup xr) ∧ TpAll H xr dr ∧ 0 ≤ spot ∧ spot < (xr.length : Int) ∧ xr.length ≤ 100 ∧
  H po = some (.tup (xo ++ [.ref pl])) ∧ xo ≠ [] ∧ xo.length ≤ 100 ∧ H pl = some (.tup xl) ∧ TpAll H xo do_ ∧ TpAll H xl dl ∧ SeqAt.shaped (.tuple dl) = true ∧ xl.length ≤ 100 ∧
  ∀ (v : V) (dl' : List PyData) (H' : Hp), Same H H' → Tp H' v (.tuple (dr.take spot.toNat ++ ([PyData.tuple (do_ ++ [.tuple dl'])] ++ dr.drop (spot.toNat + 1)))) → dl'.length ≠ dl.length → (∀ d ∈ dl', d ∈ dl ∨ Sh 1 d) → dl'.length ≤ dl.length + 1 → Q v H'
theorem TpAll.take {H : Hp} : ∀ (n : Nat) {vs : List V} {ds : List PyData}, TpAll H vs ds → TpAll H (vs.take n) (ds.take n)
  | 0, _, _, _ => .nil
  | _ + 1, _, _, .nil => .nil
  | n + 1, _, _, .cons a q => .cons a (TpAll.take n q)
theorem TpAll.drop {H : Hp} : ∀ (n : Nat) {vs : List V} {ds : List PyData}, TpAll H vs ds → TpAll H (vs.drop n) (ds.drop n)
  | 0, _, _, q => q
  | _ + 1, _, _, .nil => .nil
  | n + 1, _, _, .cons _ q => TpAll.drop n q
section
variable {P : Program} {w : World} {K : PySem.W.Frag} {mg : Str → Option Value} {base : Heap}
theorem scMore : FnScope ["_law_one"] ["_law_one"] (defScope sMore) := ⟨rfl, rfl, rfl, by decide +kernel, rfl, by decide +kernel, by decide +kernel⟩
theorem ok_more {f : Addr} {fd : FuncData} (F : Fun K "_law_one_more" "_law_one_more" sMore f fd) (G : Glb mg) : FnOk P w K mg base CX0 1 f fd ["_law_one"] spMore := by
  refine F.ok scMore (fun vs H Q E h => ?_) (fun cdv A outer s H vs Q E hr h => ?_)
  · obtain ⟨p, xs, rfl, _⟩ := h
    rfl
  · obtain ⟨p, xs, rfl, hp, k⟩ := h
    refine ⟨_, pss_one (ps_ret (pe_ifExp (pt_cmpR op_eq (pe_callB call_len_seq (by rfl) G.len PySem.boot_len (pa_cons (pv 0) pa_nil)) pe_int (nomark _)) (pe_tup (pa_cons pe_str (pa_cons pe_str (pa_cons pe_str pa_nil)))) (pe_tup (pa_cons pe_int (pa_cons pe_str (pa_cons pe_str (pa_cons pe_str pa_nil))))))), ?_⟩
    refine ⟨_, rfl, p, _, rfl, .inr (SqT.of hp), rfl, _, rfl, ?_⟩
    refine ite2 (fun _ => ?_) (fun _ => ?_)
    · refine ⟨(by show 3 ≤ sizeLine; decide), fun q hq => ?_⟩
      refine k _ [.str "add", .str "a", .str "b"] _ (Same.new hq) (.tup upd_same (.cons (.str _) (.cons (.str _) (.cons (.str _) .nil)))) fun d hd => ?_
      simp only [List.mem_cons, List.not_mem_nil, or_false] at hd
      rcases hd with rfl | rfl | rfl <;> exact sh_str (by decide +kernel)
    · refine ⟨(by show 4 ≤ sizeLine; decide), fun q hq => ?_⟩
      refine k _ [.int 1, .str "a", .str "whole", .str "may"] _ (Same.new hq) (.tup upd_same (.cons (.int _) (.cons (.str _) (.cons (.str _) (.cons (.str _) .nil))))) fun d hd => ?_
      simp only [List.mem_cons, List.not_mem_nil, or_false] at hd
      rcases hd with rfl | rfl | rfl | rfl
      · exact Sh.int 1
      all_goals exact sh_str (by decide +kernel)
theorem scNear : FnScope ["_law_rows", "_law_spot", "_law_one", "_law_last"] ["_law_rows", "_law_spot", "_law_one"] (defScope sNear) := ⟨rfl, rfl, rfl, by decide +kernel, rfl, by decide +kernel, by decide +kernel⟩
theorem catA_any {H1 : Hp} {a b : Addr} {xs ys : List V} {M : V → Hp → Prop} (ha : H1 a = some (.tup xs)) (hb : H1 b = some (.tup ys)) (hz : xs.length + ys.length ≤ 1000) (k : ∀ q H', H' q = some (.tup (xs ++ ys)) → Same H1 H' → M (.ref q) H') : rCatA K (.ref a) (.ref b) H1 M := by
  refine ⟨a, b, xs, ys, rfl, rfl, SqT.of ha, SqT.of hb, Nat.le_trans hz (by decide), fun e => ?_, fun _ e => ?_, fun _ _ p hp => ?_⟩
  · exact k b H1 (by rw [e]; exact hb) (Same.refl H1)
  · exact k a H1 (by rw [e, List.append_nil]; exact ha) (Same.refl H1)
  · exact k p _ upd_same (Same.new hp)
theorem ok_near {f : Addr} {fd : FuncData} (F : Fun K "_law_near" "_law_near" sNear f fd) (G : Glb mg) (DM : Has P w K mg base "_law_one_more" 1 ["_law_one"] spMore) : FnOk P w K mg base CX0 2 f fd ["_law_rows", "_law_spot", "_law_one"] spNear := by
  refine F.ok scNear (fun vs H Q E h => ?_) (fun cdv A outer s H vs Q E hr h => ?_)
  · obtain ⟨pr, po, pl, spot, xr, xo, xl, dr, do_, dl, rfl, _⟩ := h
    rfl
  · obtain ⟨pr, po, pl, spot, xr, xo, xl, dr, do_, dl, rfl, hpr, tpr, s0, s1, lr, hpo, no, lo, hpl, tpo, tpl, shl, ll, k⟩ := h
    refine ⟨_, pss_cons (ps_set (i := 3) scNear.nd rfl (Or.inl rfl) (pe_mid (pe_ifExp (pt_cmpR (op_neD hr.units) (pe_ix ix_tup (pv 2) (pe_un un_neg pe_int) (fun _ _ => rfl)) (pe_tup pa_nil) (nomark _))
        (pe_slice sl_tupA (pe_ix ix_tup (pv 2) (pe_un un_neg pe_int) (fun _ _ => rfl)) po_none (po_some (pe_un un_neg pe_int))) (pe_tup (pa_cons (pe_has DM hr rfl (pa_cons (pv 2) pa_nil)) pa_nil)))))
      (pss_one (ps_ret (pe_mid (pe_op op_catA (pe_mid (pe_op op_catA (pe_slice sl_tupA (pv 0) po_none (po_some (pv 1))) (pe_tup (pa_cons (pe_mid (pe_op op_catA (pe_slice sl_tupA (pv 2) po_none (po_some (pe_un un_neg pe_int))) (pe_tup (pa_cons (pv 3) pa_nil)))) pa_nil))))
        (pe_slice sl_tupA (pv 0) (po_some (pe_op op_add (pv 1) pe_int)) po_none))))), ?_⟩
    refine ⟨fun v H1 => ∃ (q : Addr) (zs : List V) (dl' : List PyData), v = .ref q ∧ H1 q = some (.tup zs) ∧ TpAll H1 zs dl' ∧ dl'.length ≠ dl.length ∧ (∀ d ∈ dl', d ∈ dl ∨ Sh 1 d) ∧ dl'.length ≤ dl.length + 1 ∧ Same H H1, ?_, ?_⟩
    · refine ⟨_, rfl, _, rfl, po, _, _, _, rfl, rfl, SqT.of hpo, atI_last _ _, Nat.zero_le _, fun t ht => ?_⟩
      have sm1 : Same H (upd H t (.tup [])) := Same.new ht
      refine ⟨.tuple dl, .tuple [], .tup (SqT.of (sm1 _ _ hpl)) (TpAll.dp _ _ (TpAll.keep (Same.tk sm1) _ _ tpl)), .tup (SqT.of upd_same) .nil, shl, rfl, _, rfl, ?_⟩
      rw [eqv_nilT]
      refine ite2 (fun hne => ?_) (fun hne => ?_)
      · have hdl : dl ≠ [] := fun e => by rw [decide_eq_true e] at hne; cases hne
        obtain ⟨yl, y, rfl⟩ : ∃ yl y, xl = yl ++ [y] := by
          have hx : xl ≠ [] := fun e => by
            have := tpl.length
            rw [e] at this
            exact hdl (List.length_eq_zero_iff.mp this.symm)
          exact ⟨xl.dropLast, xl.getLast hx, (List.dropLast_concat_getLast hx).symm⟩
        obtain ⟨c1, c2⟩ := cut_last (x := y) yl
        refine ⟨_, rfl, _, rfl, po, _, _, _, rfl, rfl, SqT.of (sm1 _ _ hpo), atI_last _ _, _, rfl, _, rfl, pl, _, rfl, SqT.of (sm1 _ _ hpl), fun h => absurd h c1, fun _ q hq => ?_⟩
        rw [c2]
        have l2 := tpl.length
        rw [List.length_append] at l2
        have l2' : dl.length = yl.length + 1 := l2.symm
        have tk2 : Tk H (upd (upd H t (.tup [])) q (.tup yl)) := (Same.tk sm1).trans (Tk.new hq)
        have tpy : TpAll H yl (dl.take yl.length) := by
          have := TpAll.take yl.length tpl
          rw [List.take_left' rfl] at this
          exact this
        refine ⟨q, yl, dl.take yl.length, rfl, upd_same, TpAll.keep tk2 _ _ tpy, by rw [List.length_take]; omega, fun d hd => .inl (List.mem_of_mem_take hd), by rw [List.length_take]; omega, sm1.trans (Same.new hq)⟩
      · have hdl : dl = [] := Classical.byContradiction fun e => hne (by rw [decide_eq_false e]; rfl)
        refine ⟨_, rfl, po, _, rfl, sm1 _ _ hpo, fun v ds H2 sm2 tv shd => ?_⟩
        refine ⟨(by show 1 ≤ sizeLine; decide), fun q hq => ?_⟩
        refine ⟨q, [v], [.tuple ds], rfl, upd_same, TpAll.one (Tp.keep (Tk.new hq) _ _ tv), by rw [hdl]; exact (by show 1 ≠ 0; decide), fun d hd => ?_, by rw [hdl]; exact Nat.le_refl 1, (sm1.trans sm2).trans (Same.new hq)⟩
        rw [List.mem_singleton.mp hd]
        exact .inr (Sh.tup shd)
    · rintro v H1 ⟨q, zs, dl', rfl, hq, tpz, hne, hall, hle, sm1⟩
      have hpr1 := sm1 _ _ hpr
      have hpo1 := sm1 _ _ hpo
      have lt1 : (xr.take spot.toNat).length ≤ 100 := by rw [List.length_take]; omega
      have ld1 : (xr.drop (spot.toNat + 1)).length ≤ 100 := by rw [List.length_drop]; omega
      refine ⟨fun v H5 => ∃ (R W : Addr), v = .ref R ∧ H5 R = some (.tup ((xr.take spot.toNat ++ [.ref W]) ++ xr.drop (spot.toNat + 1))) ∧ H5 W = some (.tup (xo ++ [.ref q])) ∧ Same H1 H5, ?_, ?_⟩
      · refine ⟨fun v H4 => ∃ (R W : Addr), v = .ref R ∧ H4 R = some (.tup (xr.take spot.toNat ++ [.ref W])) ∧ H4 W = some (.tup (xo ++ [.ref q])) ∧ Same H1 H4, ?_, ?_⟩
        · obtain ⟨c1, c2⟩ := cut_to s0 s1
          refine ⟨_, rfl, _, rfl, _, rfl, pr, _, rfl, SqT.of hpr1, fun h => absurd h c1, fun _ p1 hp1 => ?_⟩
          rw [c2]
          have sm2 : Same H1 (upd H1 p1 (.tup (xr.take spot.toNat))) := Same.new hp1
          have hp12 : (upd H1 p1 (.tup (xr.take spot.toNat))) p1 = some (.tup (xr.take spot.toNat)) := upd_same
          generalize upd H1 p1 (.tup (xr.take spot.toNat)) = H2 at sm2 hp12
          refine ⟨fun v H3 => ∃ W, v = .ref W ∧ H3 W = some (.tup (xo ++ [.ref q])) ∧ Same H2 H3, ?_, ?_⟩
          · obtain ⟨b1, b2⟩ := cut_last (x := .ref pl) xo
            refine ⟨_, rfl, _, rfl, _, rfl, po, _, rfl, SqT.of (sm2 _ _ hpo1), fun h => absurd h b1, fun _ p2 hp2 => ?_⟩
            rw [b2]
            refine ⟨_, rfl, (by show 1 ≤ sizeLine; decide), fun p3 hp3 => ?_⟩
            have n23 : p2 ≠ p3 := fun e => by rw [← e, upd_same] at hp3; cases hp3
            exact catA_any (by rw [upd_ne n23, upd_same]) upd_same (by show xo.length + 1 ≤ 1000; omega) fun R H' hR sm => ⟨R, rfl, hR, ((Same.new hp2).trans (Same.new hp3)).trans sm⟩
          · rintro v H3 ⟨W, rfl, hW, sm3⟩
            refine ⟨(by show 1 ≤ sizeLine; decide), fun p4 hp4 => ?_⟩
            have sm4 : Same H3 (upd H3 p4 (.tup [.ref W])) := Same.new hp4
            exact catA_any (sm4 _ _ (sm3 _ _ hp12)) upd_same (by show (xr.take spot.toNat).length + 1 ≤ 1000; omega) fun R H' hR sm => ⟨R, W, rfl, hR, sm _ _ (sm4 _ _ hW), ((sm2.trans sm3).trans sm4).trans sm⟩
        · rintro v H4 ⟨R, W, rfl, hR, hW, sm4⟩
          obtain ⟨c1, c2⟩ := cut_from s0 s1
          refine ⟨_, rfl, _, rfl, _, _, rfl, rfl, _, rfl, pr, _, rfl, SqT.of (sm4 _ _ hpr1), fun h => absurd h c1, fun _ p5 hp5 => ?_⟩
          rw [c2]
          have sm5 : Same H4 (upd H4 p5 (.tup (xr.drop (spot.toNat + 1)))) := Same.new hp5
          exact catA_any (sm5 _ _ hR) upd_same (by rw [List.length_append]; show (xr.take spot.toNat).length + 1 + _ ≤ 1000; omega) fun R' H' hR' sm => ⟨R', W, rfl, hR', sm _ _ (sm5 _ _ hW), (sm4.trans sm5).trans sm⟩
      · rintro v H5 ⟨R, W, rfl, hR, hW, sm5⟩
        have sm05 : Same H H5 := sm1.trans sm5
        refine k (.ref R) dl' H5 sm05 (.tup hR ?_) hne hall hle
        rw [List.append_assoc]
        have tp5 := TpAll.keep (Same.tk sm05) _ _ tpr
        refine (TpAll.take _ tp5).app ((TpAll.one (.tup hW ((TpAll.keep (Same.tk sm05) _ _ tpo).app (TpAll.one (.tup (sm5 _ _ hq) (TpAll.keep (Same.tk sm5) _ _ tpz)))))).app (TpAll.drop _ tp5))
end
end Fh
set_option maxHeartbeats 4000000
namespace Fh
open PySem L2 PyProof.Rows
abbrev sBent : Stmt := top 18
def Elem (d : PyData) : Prop := ∃ (do_ dl : List PyData), d = .tuple (do_ ++ [.tuple dl]) ∧ do_ ≠ [] ∧ do_.length ≤ 4 ∧ dl.length ≤ 6 ∧ (∀ x ∈ do_, Sh 0 x) ∧ ∀ x ∈ dl, Sh 4 x
def Named (d : PyData) : Prop := ∃ (z : Str) (dl : List PyData), d = .tuple [.str z, .tuple dl] ∧ Nm z
abbrev dsOf (own : Str) (age : Int) (c3 c4 c5 : List PyData) : List PyData := [.str own, .int age, .tuple c3, .tuple c4, .tuple c5]
structure PartsOk (own : Str) (age : Int) (c3 c4 c5 : List PyData) : Prop where
  own : Nm own
  age : 1 ≤ age ∧ age ≤ 99
  l3 : c3.length ≤ 6
  l4 : c4.length ≤ 6
  l5 : c5.length ≤ 6
  e3 : ∀ d ∈ c3, Elem d
  e4 : ∀ d ∈ c4, Elem d
  e5 : ∀ d ∈ c5, Elem d
  n3 : ∀ d ∈ c3, Named d
  n4 : ∀ d ∈ c4, Named d
def ShL (ds : List PyData) : Prop := ∀ d ∈ ds, Sh 60 d
theorem ShL.all {ds : List PyData} (h : ShL ds) : ShAll ds := fun d hd => (h d hd).shaped (by decide)
theorem ShL.tup {ds : List PyData} (h : ShL ds) : SeqAt.shaped (.tuple ds) = true := (Sh.tup h).shaped (by decide)
def Bent (own : Str) (age : Int) (c3 c4 c5 : List PyData) (es : List PyData) : Prop := ∃ (z : Str) (i : Int) (d3 d4 d5 : List PyData), es = dsOf z i d3 d4 d5 ∧ z.length ≤ 8 ∧ 1 ≤ i ∧ i ≤ 99 ∧ ShL es ∧ PyData.eqvAll (dsOf own age c3 c4 c5) es = false
theorem elem_sh {d : PyData} (h : Elem d) : Sh 6 d := by
  obtain ⟨do_, dl, rfl, _, _, _, h1, h2⟩ := h
  refine Sh.tup fun x hx => ?_
  rcases List.mem_append.mp hx with h | h
  · exact (h1 x h).mono (by decide)
  · rw [List.mem_singleton.mp h]
    exact Sh.tup h2
theorem elems_sh {c : List PyData} (h : ∀ d ∈ c, Elem d) : Sh 7 (.tuple c) := Sh.tup fun d hd => elem_sh (h d hd)
theorem eqvAll_len : ∀ {xs ys : List PyData}, PyData.eqvAll xs ys = true → xs.length = ys.length
  | [], [], _ => rfl
  | [], _ :: _, h => by cases h
  | _ :: _, [], h => by cases h
  | x :: xs, y :: ys, h => by
    have h2 : (PyData.eqv x y && PyData.eqvAll xs ys) = true := h
    rw [List.length_cons, List.length_cons, eqvAll_len (Bool.and_eq_true_iff.mp h2).2]
theorem eqvAll_at {x y : PyData} {b c : List PyData} : ∀ {a : List PyData}, PyData.eqvAll (a ++ x :: b) (a ++ y :: c) = true → PyData.eqv x y = true
  | [], h => (Bool.and_eq_true_iff.mp (show (PyData.eqv x y && PyData.eqvAll b c) = true from h)).1
  | z :: a, h => eqvAll_at (a := a) (Bool.and_eq_true_iff.mp (show (PyData.eqv z z && PyData.eqvAll (a ++ x :: b) (a ++ y :: c)) = true from h)).2
theorem ne_len {xs ys : List PyData} (h : xs.length ≠ ys.length) : PyData.eqv (.tuple xs) (.tuple ys) = false := by
  cases q : PyData.eqv (.tuple xs) (.tuple ys) with
  | false => rfl
  | true => exact absurd (eqvAll_len (show PyData.eqvAll xs ys = true from q)) h
theorem near_ne {dr do_ dl dl' : List PyData} {i : Nat} (h : dr[i]? = some (.tuple (do_ ++ [.tuple dl]))) (hl : dl'.length ≠ dl.length) : PyData.eqv (.tuple dr) (.tuple (dr.take i ++ ([PyData.tuple (do_ ++ [.tuple dl'])] ++ dr.drop (i + 1)))) = false := by
  cases q : PyData.eqv (.tuple dr) (.tuple (dr.take i ++ ([PyData.tuple (do_ ++ [.tuple dl'])] ++ dr.drop (i + 1)))) with
  | false => rfl
  | true =>
    have q1 : PyData.eqvAll dr (dr.take i ++ ([PyData.tuple (do_ ++ [.tuple dl'])] ++ dr.drop (i + 1))) = true := q
    obtain ⟨hi, e⟩ := List.getElem?_eq_some_iff.mp h
    have e2 : dr = dr.take i ++ .tuple (do_ ++ [.tuple dl]) :: dr.drop (i + 1) := by
      rw [← e, ← List.drop_eq_getElem_cons hi, List.take_append_drop]
    rw [e2] at q1
    have q2 := q1
    rw [List.take_left' (by rw [List.length_take]; omega)] at q2
    have q3 := eqvAll_at (show PyData.eqvAll (dr.take i ++ .tuple (do_ ++ [.tuple dl]) :: dr.drop (i + 1)) (dr.take i ++ PyData.tuple (do_ ++ [.tuple dl']) :: _) = true from q2)
    have q4 := eqvAll_at (show PyData.eqvAll (do_ ++ .tuple dl :: []) (do_ ++ .tuple dl' :: []) = true from q3)
    exact absurd (eqvAll_len (show PyData.eqvAll dl dl' = true from q4)).symm hl
section
variable {own : Str} {age : Int} {c3 c4 c5 : List PyData}
theorem eqv_strs {a b : Str} (h : a ≠ b) : PyData.eqv (.str a) (.str b) = false := by
  show (a == b) = false
  exact beq_eq_false_iff_ne.mpr h
theorem eqv_ints {a b : Int} (h : a ≠ b) : PyData.eqv (.int a) (.int b) = false := by
  show (a == b) = false
  exact beq_eq_false_iff_ne.mpr h
theorem bent_nm (ok : PartsOk own age c3 c4 c5) {z : Str} (hz : Nm z) (hne : z ≠ own) : Bent own age c3 c4 c5 (dsOf z age c3 c4 c5) := by
  refine ⟨z, age, c3, c4, c5, rfl, hz.hi, ok.age.1, ok.age.2, fun d hd => ?_, ?_⟩
  · simp only [dsOf, List.mem_cons, List.not_mem_nil, or_false] at hd
    rcases hd with rfl | rfl | rfl | rfl | rfl
    · exact (hz.ok).mono (by decide)
    · exact (Sh.int (n := 0) age).mono (by decide)
    · exact (elems_sh ok.e3).mono (by decide)
    · exact (elems_sh ok.e4).mono (by decide)
    · exact (elems_sh ok.e5).mono (by decide)
  · show (PyData.eqv (.str own) (.str z) && _) = false
    rw [eqv_strs (fun e => hne e.symm)]
    rfl
theorem bent_age (ok : PartsOk own age c3 c4 c5) : Bent own age c3 c4 c5 (dsOf own (age % 99 + 1) c3 c4 c5) := by
  have ha := ok.age
  refine ⟨own, age % 99 + 1, c3, c4, c5, rfl, ok.own.hi, by omega, by omega, fun d hd => ?_, ?_⟩
  · simp only [dsOf, List.mem_cons, List.not_mem_nil, or_false] at hd
    rcases hd with rfl | rfl | rfl | rfl | rfl
    · exact (ok.own.ok).mono (by decide)
    · exact (Sh.int (n := 0) _).mono (by decide)
    · exact (elems_sh ok.e3).mono (by decide)
    · exact (elems_sh ok.e4).mono (by decide)
    · exact (elems_sh ok.e5).mono (by decide)
  · show (PyData.eqv (.str own) (.str own) && (PyData.eqv (.int age) (.int (age % 99 + 1)) && _)) = false
    rw [eqv_ints (show age ≠ age % 99 + 1 by omega), Bool.false_and, Bool.and_false]
theorem bent_set (ok : PartsOk own age c3 c4 c5) {j : Nat} (h2 : 2 ≤ j) (h4 : j ≤ 4) {c c' : List PyData} (hc : (dsOf own age c3 c4 c5)[j]? = some (.tuple c)) (hne : PyData.eqv (.tuple c) (.tuple c') = false) (hs : Sh 60 (.tuple c')) :
    Bent own age c3 c4 c5 ((dsOf own age c3 c4 c5).set j (.tuple c')) := by
  have sh : ShL ((dsOf own age c3 c4 c5).set j (.tuple c')) := fun d hd => by
    rcases List.mem_or_eq_of_mem_set hd with h | rfl
    · simp only [dsOf, List.mem_cons, List.not_mem_nil, or_false] at h
      rcases h with rfl | rfl | rfl | rfl | rfl
      · exact (ok.own.ok).mono (by decide)
      · exact (Sh.int (n := 0) _).mono (by decide)
      · exact (elems_sh ok.e3).mono (by decide)
      · exact (elems_sh ok.e4).mono (by decide)
      · exact (elems_sh ok.e5).mono (by decide)
    · exact hs.mono (by decide)
  have ha := ok.age
  have hj : j = 2 ∨ j = 3 ∨ j = 4 := by omega
  rcases hj with rfl | rfl | rfl
  · cases hc
    refine ⟨own, age, c', c4, c5, rfl, ok.own.hi, ha.1, ha.2, sh, ?_⟩
    show (_ && (_ && (PyData.eqv (.tuple c3) (.tuple c') && _))) = false
    rw [hne, Bool.false_and, Bool.and_false, Bool.and_false]
  · cases hc
    refine ⟨own, age, c3, c', c5, rfl, ok.own.hi, ha.1, ha.2, sh, ?_⟩
    show (_ && (_ && (_ && (PyData.eqv (.tuple c4) (.tuple c') && _)))) = false
    rw [hne, Bool.false_and, Bool.and_false, Bool.and_false, Bool.and_false]
  · cases hc
    refine ⟨own, age, c3, c4, c', rfl, ok.own.hi, ha.1, ha.2, sh, ?_⟩
    show (_ && (_ && (_ && (_ && (PyData.eqv (.tuple c5) (.tuple c') && _))))) = false
    rw [hne, Bool.false_and, Bool.and_false, Bool.and_false, Bool.and_false, Bool.and_false]
end

theorem TpAll.set {H : Hp} : ∀ (n : Nat) {vs : List V} {ds : List PyData} {v : V} {d : PyData}, TpAll H vs ds → Tp H v d → TpAll H (vs.set n v) (ds.set n d)
  | _, _, _, _, _, .nil, _ => .nil
  | 0, _, _, _, _, .cons _ q, h => .cons h q
  | n + 1, _, _, _, _, .cons a q, h => .cons a (TpAll.set n q h)
abbrev nBent : List Str := ["_law_bag_here", "_law_parts", "_law_found", "_law_at", "_law_spot", "_law_one", "_law_rest", "_law_way", "_law_taken", "_law_fresh", "_law_some", "_law_things"]
abbrev pBent : List Str := ["_law_bag_here", "_law_parts"]
def spBent : Sp := fun vs H Q _ => ∃ (b p : Addr) (n : Nat) (v1 v2 v3 v4 v5 : V) (own : Str) (age : Int) (c3 c4 c5 : List PyData), vs = [.ref b, .ref p] ∧ Bag H b n ∧ n + 1000 ≤ most ∧ H p = some (.tup [v1, v2, v3, v4, v5]) ∧ TpAll H [v1, v2, v3, v4, v5] (dsOf own age c3 c4 c5) ∧ PartsOk own age c3 c4 c5 ∧
  ∀ (q : Addr) (ws : List V) (es : List PyData) (H' : Hp), H' q = some (.tup ws) → TpAll H' ws es → Bent own age c3 c4 c5 es → Kp b H H' → Bag H' b (n + 500) → Q (.ref q) H'
theorem part_at {H : Hp} {own : Str} {age : Int} {c3 c4 c5 : List PyData} {vs : List V} (tp : TpAll H vs (dsOf own age c3 c4 c5)) (ok : PartsOk own age c3 c4 c5) {i : Int} (h2 : 2 ≤ i) (h4 : i ≤ 4) :
    ∃ (a : Addr) (xs : List V) (c : List PyData), atI vs i = some (.ref a) ∧ H a = some (.tup xs) ∧ TpAll H xs c ∧ (dsOf own age c3 c4 c5)[i.toNat]? = some (.tuple c) ∧ c.length ≤ 6 ∧ (∀ d ∈ c, Elem d) ∧ (i = 2 → ∀ d ∈ c, Named d) := by
  obtain ⟨v1, r1, rfl, t1, tp⟩ := tp.icons
  obtain ⟨v2, r2, rfl, t2, tp⟩ := tp.icons
  obtain ⟨v3, r3, rfl, t3, tp⟩ := tp.icons
  obtain ⟨v4, r4, rfl, t4, tp⟩ := tp.icons
  obtain ⟨v5, r5, rfl, t5, tp⟩ := tp.icons
  obtain rfl := tp.inil
  have hi : i = 2 ∨ i = 3 ∨ i = 4 := by omega
  rcases hi with rfl | rfl | rfl
  · obtain ⟨a, xs, rfl, ha, q⟩ := t3.inv
    exact ⟨a, xs, c3, rfl, ha, q, rfl, ok.l3, ok.e3, fun _ => ok.n3⟩
  · obtain ⟨a, xs, rfl, ha, q⟩ := t4.inv
    exact ⟨a, xs, c4, rfl, ha, q, rfl, ok.l4, ok.e4, fun h => absurd h (by decide)⟩
  · obtain ⟨a, xs, rfl, ha, q⟩ := t5.inv
    exact ⟨a, xs, c5, rfl, ha, q, rfl, ok.l5, ok.e5, fun h => absurd h (by decide)⟩
theorem named_list : ∀ ds : List PyData, (∀ d ∈ ds, Named d) → ∃ zs : List Str, zs.length = ds.length ∧ ∀ (j : Nat) (d : PyData), ds[j]? = some d → ∃ (z : Str) (dl : List PyData), zs[j]? = some z ∧ d = .tuple [.str z, .tuple dl]
  | [], _ => ⟨[], rfl, fun j d h => by simp at h⟩
  | d :: ds, h => by
    obtain ⟨zs, l, q⟩ := named_list ds fun e he => h e (List.mem_cons_of_mem _ he)
    obtain ⟨z, dl, rfl, _⟩ := h d List.mem_cons_self
    refine ⟨z :: zs, by rw [List.length_cons, List.length_cons, l], fun j e he => ?_⟩
    cases j with
    | zero => simp at he; exact ⟨z, dl, rfl, he.symm⟩
    | succ j => simpa using q j e (by simpa using he)
theorem TpAll.split1 {H : Hp} {d : PyData} : ∀ {ds : List PyData} {vs : List V}, TpAll H vs (ds ++ [d]) → ∃ xs v, vs = xs ++ [v] ∧ TpAll H xs ds ∧ Tp H v d
  | [], _, h => by
    obtain ⟨v, r, rfl, t, q⟩ := TpAll.icons h
    obtain rfl := q.inil
    exact ⟨[], v, rfl, .nil, t⟩
  | e :: ds, _, h => by
    obtain ⟨v, r, rfl, t, q⟩ := TpAll.icons h
    obtain ⟨xs, u, rfl, q1, q2⟩ := TpAll.split1 (ds := ds) q
    exact ⟨v :: xs, u, rfl, .cons t q1, q2⟩
section
variable {P : Program} {w : World} {K : PySem.W.Frag} {mg : Str → Option Value} {base : Heap}
theorem scBent : FnScope nBent pBent (defScope sBent) := ⟨rfl, rfl, rfl, by decide +kernel, rfl, by decide +kernel, by decide +kernel⟩
theorem ok_bent {f : Addr} {fd : FuncData} (F : Fun K "_law_bent_once" "_law_bent_once" sBent f fd) (G : Glb mg) (DT : Has P w K mg base "_law_take" 1 pTake spTake) (DUN : Has P w K mg base "_law_unlike_names" 3 pUnlikeN spUnlikeN)
    (DNr : Has P w K mg base "_law_near" 2 ["_law_rows", "_law_spot", "_law_one"] spNear) : FnOk P w K mg base CX0 4 f fd pBent spBent := by
  refine F.ok scBent (fun vs H Q E h => ?_) (fun cdv A outer s H vs Q E hr h => ?_)
  · obtain ⟨b, p, n, v1, v2, v3, v4, v5, own, age, c3, c4, c5, rfl, _⟩ := h
    rfl
  · obtain ⟨b, p, n, v1, v2, v3, v4, v5, own, age, c3, c4, c5, rfl, hB, hn, hp, tp, ok, k⟩ := h
    have hn' : n + 1000 ≤ 1000000 := hn
    have hr1 : Room 1 _ := hr.mono (by decide)
    have hr2 : Room 2 _ := hr.mono (by decide)
    have hr3 : Room 3 _ := hr.mono (by decide)
    refine ⟨_, pss_cons (ps_par (i := 2) (j := 3) rfl scBent.nd rfl rfl (by decide) rfl rfl (pa_cons (pe_callTy call_list_of (by rfl) G.list (by decide +kernel) (pa_cons (pv 1) pa_nil)) (pa_cons (pe_has DT hr1 rfl (pa_cons (pv 0) (pa_cons pe_int pa_nil))) pa_nil)) (by rfl))
      (C8.pss_cut (ps_if (pt_cmpR op_eq (pv 3) pe_int (nomark _))
          (pss_one (ps_asg (pe_ix ix_list (pe_has DUN hr3 rfl (pa_cons (pv 0) (pa_cons pe_int (pa_cons (pe_lst (pa_cons (pe_ix ix_tup (pv 1) pe_int (fun _ _ => rfl)) pa_nil)) pa_nil)))) pe_int (fun _ _ => rfl)) (pg_sub (pv 2) pe_int set_list)))
          (pss_one (ps_if (pt_cmpR op_eq (pv 3) pe_int (nomark _))
            (pss_one (ps_asg (pe_op op_add (pe_op op_mod (pe_ix ix_tup (pv 1) pe_int (fun _ _ => rfl)) pe_int) pe_int) (pg_sub (pv 2) pe_int set_list)))
            (pss_one (ps_if (pt_cmpR (op_neD hr.units) (pe_ix ix_list (pv 2) (pv 3) (fun _ _ => rfl)) (pe_tup pa_nil) (nomark _))
              (pss_cons (ps_set (i := 4) scBent.nd rfl (Or.inl rfl) (pe_has DT hr1 rfl (pa_cons (pv 0) (pa_cons (pe_callB call_len_seq (by rfl) G.len PySem.boot_len (pa_cons (pe_ix ix_list (pv 2) (pv 3) (fun _ _ => rfl)) pa_nil)) pa_nil))))
              (pss_cons (ps_set (i := 5) scBent.nd rfl (Or.inl rfl) (pe_ix ix_tup (pe_ix ix_list (pv 2) (pv 3) (fun _ _ => rfl)) (pv 4) (fun _ _ => rfl)))
              (pss_cons (ps_set (i := 6) scBent.nd rfl (Or.inl rfl) (pe_mid (pe_op op_catA (pe_slice sl_tupA (pe_ix ix_list (pv 2) (pv 3) (fun _ _ => rfl)) po_none (po_some (pv 4))) (pe_slice sl_tupA (pe_ix ix_list (pv 2) (pv 3) (fun _ _ => rfl)) (po_some (pe_op op_add (pv 4) pe_int)) po_none))))
              (pss_cons (ps_set (i := 7) scBent.nd rfl (Or.inl rfl) (pe_op op_mul (pe_has DT hr1 rfl (pa_cons (pv 0) (pa_cons pe_int pa_nil))) (pe_callTy call_int1 (by rfl) G.int (by decide +kernel) (pa_cons (pe_mid (pe_or (pe_cmpR op_ne (pv 3) pe_int (nomark _)) (pe_one (pe_cmpR op_gt (pe_callB call_len_seq (by rfl) G.len PySem.boot_len (pa_cons (pe_ix ix_tup (pv 5) pe_int (fun _ _ => rfl)) pa_nil)) pe_int (nomark _))))) pa_nil))))
              (pss_one (ps_asg (pe_mid (pe_ix ix_list (pe_lst (pa_cons (pv 6) (pa_cons (pe_has DNr hr2 rfl (pa_cons (pe_ix ix_list (pv 2) (pv 3) (fun _ _ => rfl)) (pa_cons (pv 4) (pa_cons (pv 5) pa_nil)))) pa_nil))) (pv 7) (fun _ _ => rfl))) (pg_sub (pv 2) (pv 3) set_list)))))))
              (pss_cons (ps_setLc (i := 8) (own := [("_law_one", 5), ("_law_things", 11)]) (g := gTup K 2 (gCons (gName 5) (gCons (gName 11) gNil))) (tt := tYes) (te := tVar 5) rfl scBent.nd rfl rfl (sw_true rfl rfl rfl (by decide +kernel)) (pi_tup (pe_mid (pe_op op_catA (pe_ix ix_tup (pv 1) pe_int (fun _ _ => rfl)) (pe_ix ix_tup (pv 1) pe_int (fun _ _ => rfl))))) (blkOk_by (N := nBent) (sc := defScope sBent) (by decide +kernel))
                (fun _ _ _ _ _ => pg_tup rfl (pgs_cons (pg_name (i := 5) scBent.nd rfl (Or.inl rfl)) (pgs_cons (pg_name (i := 11) scBent.nd rfl (Or.inl rfl)) pgs_nil))) (fun _ _ _ _ _ => pts_nil) (fun _ _ _ _ _ => pv 5))
              (pss_cons (ps_set (i := 9) scBent.nd rfl (Or.inl rfl) (pe_ix ix_list (pe_has DUN hr3 rfl (pa_cons (pv 0) (pa_cons pe_int (pa_cons (pv 8) pa_nil)))) pe_int (fun _ _ => rfl)))
              (pss_cons (ps_set (i := 10) scBent.nd rfl (Or.inl rfl) (pe_lst (pa_cons (pe_mid (pe_tup (pa_cons (pe_tup (pa_cons (pv 9) (pa_cons (pe_tup (pa_cons (pe_tup (pa_cons pe_int (pa_cons pe_str pa_nil))) pa_nil)) pa_nil))) pa_nil)))
                (pa_cons (pe_mid (pe_tup (pa_cons (pe_tup (pa_cons (pv 9) (pa_cons (pe_tup pa_nil) pa_nil))) pa_nil)))
                (pa_cons (pe_mid (pe_tup (pa_cons (pe_tup (pa_cons pe_int (pa_cons pe_str (pa_cons pe_str (pa_cons pe_str (pa_cons (pe_tup pa_nil) pa_nil)))))) pa_nil))) pa_nil)))))
              (pss_one (ps_asg (pe_ix ix_list (pv 10) (pe_op op_sub (pv 3) pe_int) (fun _ _ => rfl)) (pg_sub (pv 2) (pv 3) set_list)))))))))))
      (pss_one (ps_ret (pe_callTy call_tuple_of (by rfl) G.tuple (by decide +kernel) (pa_cons (pv 2) pa_nil))))), ?_⟩
    refine ⟨_, rfl, p, _, rfl, .inr (SqT.of hp), fun Fo hFo => ?_⟩
    have nFb : Fo ≠ b := new_ne hFo hB
    refine ⟨_, rfl, b, 5, n, rfl, by decide, by decide, hB.new hFo, by show _ ≤ 1000000; omega, fun at_ H1 at0 at1 K1' B1 => ⟨_, _, rfl, ?_⟩⟩
    have hF1 := K1' Fo _ nFb upd_same
    have K1 : Kp b H H1 := (Kp.refl.new hFo).trans K1'
    have hpb : p ≠ b := fun e => by
      obtain ⟨x, y, z, e2, _⟩ := hB
      rw [← e, hp] at e2
      cases e2
    have hp1 := K1 p _ hpb hp
    have tp1 := TpAll.keep (K1.tk hB) _ _ tp
    obtain ⟨rfl, rfl⟩ : v1 = .str own ∧ v2 = .int age := by
      cases tp1 with
      | cons t1 q => cases q with
        | cons t2 q => exact ⟨t1.istr, t2.iint⟩
    refine ⟨fun σ H' => ∃ (a4 a5 a6 a7 a8 a9 a10 a11 : Option V) (ws : List V) (es : List PyData), σ = [some (.ref b), some (.ref p), some (.ref Fo), some (.int at_), a4, a5, a6, a7, a8, a9, a10, a11] ∧ H' Fo = some (.lst ws) ∧ TpAll H' ws es ∧ Bent own age c3 c4 c5 es ∧ Kp b H H' ∧ Bag H' b (n + 500), ?_, ?_⟩
    · refine ⟨_, rfl, rfl, _, rfl, ?_⟩
      refine ite2 (fun h0 => ?_) (fun h0 => ?_)
      · have e0 : at_ = 0 := by simpa [eqV] using h0
        subst e0
        refine ⟨_, rfl, _, rfl, p, _, _, _, rfl, rfl, SqT.of hp1, rfl, (by show 1 ≤ sizeLine; decide), fun t ht => ?_⟩
        refine ⟨b, t, 1, [own], n + 1, rfl, B1.new ht, by decide, by decide, upd_same, (by show 1 ≤ 12; decide), by show _ ≤ 1000000; omega, fun S zs H2 hS hS2 lz nd hz K2 B2 => ?_⟩
        have K02 : Kp b H1 H2 := (Kp.refl.new ht).trans K2
        match zs, lz, hS2, hz with
        | [z], _, hS2, hz =>
          refine ⟨S, _, _, _, rfl, rfl, SqL.of hS2, rfl, _, rfl, Fo, _, _, 0, rfl, rfl, K02 Fo _ nFb hF1, rfl, ?_⟩
          obtain ⟨hz1, hz2⟩ := hz z (by simp)
          have tkF : Tk H1 (upd H2 Fo (.lst ([V.str own, .int age, v3, v4, v5].set 0 (.str z)))) := (K02.tk B1).trans (Tk.wr (K02 Fo _ nFb hF1))
          exact ⟨_, _, _, _, _, _, _, _, _, _, rfl, upd_same, TpAll.set 0 (TpAll.keep tkF _ _ tp1) (.str z), bent_nm ok hz1 (fun e => hz2 (by rw [e]; simp)), (K1.trans K02).wr hFo, (B2.mono (by omega)).ne nFb⟩
      · have e0 : at_ ≠ 0 := fun e => h0 (by rw [e]; rfl)
        refine ⟨_, rfl, rfl, _, rfl, ?_⟩
        refine ite2 (fun h1 => ?_) (fun h1 => ?_)
        · have e1 : at_ = 1 := by simpa [eqV] using h1
          subst e1
          refine ⟨_, rfl, p, _, _, _, rfl, rfl, SqT.of hp1, rfl, _, _, rfl, rfl, (by show (0 : Int) < 99; decide), _, _, rfl, rfl, _, rfl, Fo, _, _, 1, rfl, rfl, hF1, rfl, ?_⟩
          exact ⟨_, _, _, _, _, _, _, _, _, _, rfl, upd_same, TpAll.set 1 (TpAll.keep (Tk.wr hF1) _ _ tp1) (.int _), bent_age ok, K1.wr hFo, (B1.mono (by omega)).ne nFb⟩
        · have e1 : at_ ≠ 1 := fun e => h1 (by rw [e]; rfl)
          obtain ⟨a, xs, c, hat, ha, tpc, hc, lc, ec, nc⟩ := part_at tp1 ok (i := at_) (by omega) (by omega)
          have lxs : xs.length = c.length := tpc.length
          refine ⟨_, rfl, _, rfl, Fo, _, _, _, rfl, rfl, SqL.of hF1, hat, Nat.zero_le _, fun t ht => ?_⟩
          have sm1 : Same H1 (upd H1 t (.tup [])) := Same.new ht
          refine ⟨.tuple c, .tuple [], .tup (SqT.of (sm1 _ _ ha)) (TpAll.dp _ _ (TpAll.keep (Same.tk sm1) _ _ tpc)), .tup (SqT.of upd_same) .nil, (elems_sh ec).shaped (by decide), rfl, _, rfl, ?_⟩
          rw [eqv_nilT]
          have K2 : Kp b H (upd H1 t (.tup [])) := K1.same sm1
          have B2 : Bag (upd H1 t (.tup [])) b (n + 1) := B1.same sm1
          have hF2 := sm1 _ _ hF1
          have ha2 := sm1 _ _ ha
          have hp2 := sm1 _ _ hp1
          have tp2 := TpAll.keep (Same.tk sm1) _ _ tp1
          have tpc2 := TpAll.keep (Same.tk sm1) _ _ tpc
          generalize upd H1 t (.tup []) = H2 at K2 B2 hF2 ha2 hp2 tp2 tpc2
          have hixn : ixN 5 at_ = some at_.toNat := by
            unfold ixN
            rw [if_pos at0, if_pos (show at_ < ((5 : Nat) : Int) from at1)]
          have fin : ∀ (H3 : Hp) (v : V) (c' : List PyData) (m : Nat) (a4 a5 a6 a7 a8 a9 a10 a11 : Option V), Kp b H2 H3 → Bag H3 b m → m ≤ n + 500 → Tp H3 v (.tuple c') → PyData.eqv (.tuple c) (.tuple c') = false → Sh 60 (.tuple c') →
              ∃ (a4' a5' a6' a7' a8' a9' a10' a11' : Option V) (ws : List V) (es : List PyData), [some (V.ref b), some (.ref p), some (.ref Fo), some (.int at_), a4, a5, a6, a7, a8, a9, a10, a11] = [some (.ref b), some (.ref p), some (.ref Fo), some (.int at_), a4', a5', a6', a7', a8', a9', a10', a11'] ∧
                (upd H3 Fo (.lst ([V.str own, .int age, v3, v4, v5].set at_.toNat v))) Fo = some (.lst ws) ∧ TpAll (upd H3 Fo (.lst ([V.str own, .int age, v3, v4, v5].set at_.toNat v))) ws es ∧ Bent own age c3 c4 c5 es ∧ Kp b H (upd H3 Fo (.lst ([V.str own, .int age, v3, v4, v5].set at_.toNat v))) ∧ Bag (upd H3 Fo (.lst ([V.str own, .int age, v3, v4, v5].set at_.toNat v))) b (n + 500) := by
            intro H3 v c' m a4 a5 a6 a7 a8 a9 a10 a11 K3 B3 hm tv hne hs
            have hF3 := K3 Fo _ nFb hF2
            exact ⟨_, _, _, _, _, _, _, _, _, _, rfl, upd_same, TpAll.set _ (TpAll.keep ((K3.tk B2).trans (Tk.wr hF3)) _ _ tp2) (Tp.keep (Tk.wr hF3) _ _ tv), bent_set ok (by omega) (by omega) hc hne hs, (K2.trans K3).wr hFo, (B3.mono hm).ne nFb⟩
          refine ite2 (fun hne => ?_) (fun hne => ?_)
          · have hcn : c ≠ [] := fun e => by rw [decide_eq_true e] at hne; cases hne
            have c0 : 0 < c.length := List.length_pos_iff.mpr hcn
            refine ⟨_, rfl, _, rfl, _, rfl, Fo, _, _, _, rfl, rfl, SqL.of hF2, hat, a, xs, rfl, .inr (SqT.of ha2), ?_⟩
            refine ⟨b, _, n + 1, rfl, by omega, by omega, B2, by show _ ≤ 1000000; omega, fun sp H3 s0 s1 K3 B3 => ?_⟩
            have hF3 := K3 Fo _ nFb hF2
            have ha3 := (K3.tk B2) a _ ha2
            have tpc3 := TpAll.keep (K3.tk B2) _ _ tpc2
            obtain ⟨x, ex, exj, _⟩ := atI_in s0 s1
            obtain ⟨d, hd, tx⟩ := tpc3.get' exj
            have hdc : d ∈ c := List.mem_of_getElem? hd
            obtain ⟨do_, dl, rfl, no, lo, ll, sho, shl⟩ := ec d hdc
            obtain ⟨po, xo', rfl, hpo, tpo'⟩ := tx.inv
            obtain ⟨xo, vl, rfl, tpo, tvl⟩ := TpAll.split1 tpo'
            obtain ⟨pl, xl, rfl, hpl, tpl⟩ := tvl.inv
            refine ⟨_, rfl, _, rfl, Fo, _, _, _, rfl, rfl, SqL.of hF3, hat, _, rfl, a, _, _, _, rfl, rfl, SqT.of ha3, ex, ?_⟩
            refine ⟨fun v H4 => ∃ R, v = .ref R ∧ H4 R = some (.tup (xs.take sp.toNat ++ xs.drop (sp.toNat + 1))) ∧ Same H3 H4, ?_, ?_⟩
            · obtain ⟨c1, c2⟩ := cut_to s0 s1
              obtain ⟨g1, g2⟩ := cut_from s0 s1
              refine ⟨_, rfl, _, rfl, Fo, _, _, _, rfl, rfl, SqL.of hF3, hat, _, rfl, _, rfl, a, _, rfl, SqT.of ha3, fun h => absurd h c1, fun _ p1 hp1 => ?_⟩
              rw [c2]
              have sm4 : Same H3 (upd H3 p1 (.tup (xs.take sp.toNat))) := Same.new hp1
              refine ⟨_, rfl, _, rfl, Fo, _, _, _, rfl, rfl, SqL.of (sm4 _ _ hF3), hat, _, rfl, _, _, rfl, rfl, _, rfl, a, _, rfl, SqT.of (sm4 _ _ ha3), fun h => absurd h g1, fun _ p2 hp2 => ?_⟩
              rw [g2]
              have sm5 : Same (upd H3 p1 (.tup (xs.take sp.toNat))) (upd (upd H3 p1 (.tup (xs.take sp.toNat))) p2 (.tup (xs.drop (sp.toNat + 1)))) := Same.new hp2
              exact catA_any (sm5 _ _ upd_same) upd_same (by rw [List.length_take, List.length_drop]; omega) fun R H' hR sm => ⟨R, rfl, hR, (sm4.trans sm5).trans sm⟩
            · rintro v H4 ⟨R, rfl, hR4, sm4⟩
              refine ⟨_, rfl, b, 2, n + 2, rfl, by decide, by decide, B3.same sm4, by show _ ≤ 1000000; omega, fun wd H5 w0 w1 K5' B5 => ?_⟩
              have K35 : Kp b H3 H5 := (Kp.refl.same sm4).trans K5'
              have tk35 := K35.tk B3
              have hF5 := K35 Fo _ nFb hF3
              have ha5 := tk35 a _ ha3
              have hpo5 := tk35 po _ hpo
              have hpl5 := tk35 pl _ hpl
              have tpc5 := TpAll.keep tk35 _ _ tpc3
              have tpo5 := TpAll.keep tk35 _ _ tpo
              have tpl5 := TpAll.keep tk35 _ _ tpl
              have hR5 : H5 R = some (.tup (xs.take sp.toNat ++ xs.drop (sp.toNat + 1))) := (K5'.tk (B3.same sm4)) R _ hR4
              refine ⟨fun v H' => ∃ y : Bool, v = .bl y ∧ H5 = H', ?_, ?_⟩
              · refine ⟨_, rfl, rfl, _, rfl, ?_⟩
                refine ite2 (fun _ => ⟨_, rfl, rfl⟩) (fun h2 => ?_)
                have e2 : at_ = 2 := Classical.byContradiction fun e => h2 (by
                  show (!decide (V.int at_ = V.int 2)) = true
                  rw [decide_eq_false (fun h => e (V.int.inj h))]
                  rfl)
                obtain ⟨z, dm, ed, _⟩ := nc e2 _ hdc
                have edl : do_ ++ [PyData.tuple dl] = [.str z] ++ [.tuple dm] := PyData.tuple.inj ed
                have ld : do_.length = 1 := by
                  have := congrArg List.length edl
                  rw [List.length_append, List.length_append] at this
                  exact Nat.succ.inj this
                have lxo : xo.length = 1 := by rw [tpo.length]; exact ld
                have eat : atI (xo ++ [V.ref pl]) 1 = some (.ref pl) := by
                  match xo, lxo with
                  | [_], _ => rfl
                refine ⟨_, rfl, po, _, _, _, rfl, rfl, SqT.of hpo5, eat, pl, _, rfl, .inr (SqT.of hpl5), _, _, rfl, rfl, ?_⟩
                exact ⟨_, rfl, rfl⟩
              · rintro v H' ⟨y, rfl, rfl⟩
                refine .inr ⟨y, rfl, _, _, rfl, rfl, b01, ?_⟩
                obtain ⟨way, hway, hw⟩ : ∃ i : Int, wd * (if y = true then 1 else 0) = i ∧ (i = 0 ∨ i = 1) := ⟨_, rfl, by cases y <;> simp <;> omega⟩
                show gName 7 (V.int (wd * if y = true then 1 else 0)) _ _ _
                rw [hway]
                refine ⟨fun v H7 => ∃ (c' : List PyData), Tp H7 v (.tuple c') ∧ PyData.eqv (.tuple c) (.tuple c') = false ∧ Sh 60 (.tuple c') ∧ Kp b H2 H7 ∧ Bag H7 b (n + 3), ?_, ?_⟩
                · refine ⟨_, rfl, _, rfl, _, rfl, Fo, _, _, _, rfl, rfl, SqL.of hF5, hat, _, rfl, _, rfl, ?_⟩
                  refine ⟨a, po, pl, sp, xs, xo, xl, c, do_, dl, rfl, ha5, tpc5, s0, s1, by omega, hpo5, ?_, by rw [tpo.length]; omega, hpl5, tpo5, tpl5, (Sh.tup shl).shaped (by decide), by rw [tpl.length]; omega, fun v dl' H6 sm6 tv hne' hall hle => ?_⟩
                  · intro e
                    have := tpo.length
                    rw [e] at this
                    exact no (List.length_eq_zero_iff.mp this.symm)
                  refine ⟨(by show 2 ≤ sizeLine; decide), fun L hL => ?_⟩
                  have K7 : Kp b H2 (upd H6 L (.lst [.ref R, v])) := (((K3.trans K35).same sm6)).new hL
                  have B7 : Bag (upd H6 L (.lst [.ref R, v])) b (n + 3) := (B5.same sm6).new hL
                  have tk57 : Tk H5 (upd H6 L (.lst [.ref R, v])) := (Same.tk sm6).trans (Tk.new hL)
                  rcases hw with rfl | rfl
                  · refine ⟨_, rfl, L, _, _, _, rfl, rfl, SqL.of upd_same, rfl, c.take sp.toNat ++ c.drop (sp.toNat + 1), .tup (tk57 R _ hR5) ((TpAll.take _ (TpAll.keep tk57 _ _ tpc5)).app (TpAll.drop _ (TpAll.keep tk57 _ _ tpc5))), ne_len ?_, ?_, K7, B7⟩
                    · rw [List.length_append, List.length_take, List.length_drop]
                      omega
                    · refine (elems_sh fun d hd => ?_).mono (by decide)
                      rcases List.mem_append.mp hd with h | h
                      · exact ec d (List.mem_of_mem_take h)
                      · exact ec d (List.mem_of_mem_drop h)
                  · refine ⟨_, rfl, L, _, _, _, rfl, rfl, SqL.of upd_same, rfl, _, Tp.keep (Tk.new hL) _ _ tv, near_ne hd hne', ?_, K7, B7⟩
                    refine (Sh.tup (n := 6) fun d' hd' => ?_).mono (by decide)
                    rcases List.mem_append.mp hd' with h | h
                    · exact elem_sh (ec d' (List.mem_of_mem_take h))
                    rcases List.mem_append.mp h with h | h
                    · rw [List.mem_singleton.mp h]
                      refine Sh.tup fun e he => ?_
                      rcases List.mem_append.mp he with h | h
                      · exact (sho e h).mono (by decide)
                      · rw [List.mem_singleton.mp h]
                        refine Sh.tup (n := 4) fun e he => ?_
                        rcases hall e he with h | h
                        · exact shl e h
                        · exact h.mono (by decide)
                    · exact elem_sh (ec d' (List.mem_of_mem_drop h))
                · rintro v H7 ⟨c', tv, hne', hs, K7, B7⟩
                  exact ⟨_, rfl, _, rfl, Fo, _, _, at_.toNat, rfl, rfl, K7 Fo _ nFb hF2, hixn, fin H7 v c' (n + 3) _ _ _ _ _ _ _ _ K7 B7 (by omega) tv hne' hs⟩
          · have hcn : c = [] := Classical.byContradiction fun e => hne (by rw [decide_eq_false e]; rfl)
            have t34 : Tp H2 v3 (.tuple c3) ∧ Tp H2 v4 (.tuple c4) := by
              cases tp2 with
              | cons _ q => cases q with
                | cons _ q => cases q with
                  | cons t3 q => cases q with
                    | cons t4 q => exact ⟨t3, t4⟩
            obtain ⟨a3, x3, rfl, h3, q3⟩ := t34.1.inv
            obtain ⟨a4, x4, rfl, h4, q4⟩ := t34.2.inv
            have l3 : x3.length = c3.length := q3.length
            have l4 : x4.length = c4.length := q4.length
            have ok3 := ok.l3
            have ok4 := ok.l4
            obtain ⟨zs, lzs, hzs⟩ := named_list (c3 ++ c4) (fun d hd => by
              rcases List.mem_append.mp hd with h | h
              · exact ok.n3 d h
              · exact ok.n4 d h)
            have lzs12 : zs.length ≤ 12 := by rw [lzs, List.length_append]; omega
            refine ⟨fun v H3 => ∃ T, v = .ref T ∧ H3 T = some (.tup (x3 ++ x4)) ∧ Same H2 H3, ?_, ?_⟩
            · refine ⟨_, rfl, p, _, _, _, rfl, rfl, SqT.of hp2, rfl, _, rfl, p, _, _, _, rfl, rfl, SqT.of hp2, rfl, ?_⟩
              exact catA_any h3 h4 (by omega) fun T H' hT sm => ⟨T, rfl, hT, sm⟩
            · rintro v H3 ⟨T, rfl, hT, sm3⟩
              have tp34 : TpAll H3 (x3 ++ x4) (c3 ++ c4) := TpAll.keep (Same.tk sm3) _ _ (q3.app q4)
              refine ⟨T, rfl, ⟨_, SqT.of hT⟩, fun D hD => ?_⟩
              have nDb : D ≠ b := new_ne hD (B2.same sm3)
              refine lc_it (walk_tup (K := K) (a := T) (xs := x3 ++ x4)) (fun j H4 => H4 = upd H3 D (.lst ((zs.map V.str).take j))) rfl ?_ ?_ ?_
              · rintro j H4 _ rfl
                exact SqT.of (by rw [upd_ne (ne_of_none hT hD)]; exact hT)
              · rintro j x H4 H5 hj rfl ⟨rfl, hx⟩
                obtain ⟨d, hd, tx⟩ := tp34.get' hx
                obtain ⟨z, dl, hz, rfl⟩ := hzs j d hd
                obtain ⟨e, ys, rfl, he, ty⟩ := tx.inv
                obtain ⟨y1, yr, rfl, ty1, ty⟩ := ty.icons
                obtain ⟨y2, yr2, rfl, ty2, ty⟩ := ty.icons
                obtain rfl := ty.inil
                obtain rfl := ty1.istr
                refine ⟨e, _, rfl, SqT.of (by rw [upd_ne (ne_of_none he hD)]; exact he), rfl, _, _, rfl, _, _, rfl, rfl, rfl, yes (iteT ?_)⟩
                refine ⟨_, rfl, _, upd_same, take_sz (n := 12) (by rw [List.length_map]; exact lzs12) (by decide), put_next ?_⟩
                rw [List.getElem?_map, hz]
                rfl
              · rintro H4 rfl
                rw [List.take_of_length_le (by rw [List.length_map, lzs, List.length_append, List.length_append]; omega)]
                have K4 : Kp b H2 (upd H3 D (.lst (zs.map V.str))) := (Kp.refl.same sm3).new hD
                have B4 : Bag (upd H3 D (.lst (zs.map V.str))) b (n + 1) := (B2.same sm3).new hD
                refine ⟨_, rfl, _, rfl, b, D, 1, zs, n + 1, rfl, B4, by decide, by decide, upd_same, lzs12, by show _ ≤ 1000000; omega, fun S ys H5 hS hS5 ly nd hy K5' B5 => ?_⟩
                have K5 : Kp b H2 H5 := K4.trans K5'
                match ys, ly, hS5, hy with
                | [z], _, hS5, hy =>
                  obtain ⟨hz1, _⟩ := hy z (by simp)
                  refine ⟨S, _, _, _, rfl, rfl, SqL.of hS5, rfl, ?_⟩
                  refine ⟨fun v H' => Tp H' v (.tuple [.tuple [.str z, .tuple [.tuple [.int 1, .str "a"]]]]) ∧ Same H5 H', ?_, ?_⟩
                  · refine ⟨_, rfl, (by show 2 ≤ sizeLine; decide), fun u1 hu1 => ⟨(by show 1 ≤ sizeLine; decide), fun u2 hu2 => ⟨(by show 2 ≤ sizeLine; decide), fun u3 hu3 => ⟨(by show 1 ≤ sizeLine; decide), fun u4 hu4 => ⟨?_, (((Same.new hu1).trans (Same.new hu2)).trans (Same.new hu3)).trans (Same.new hu4)⟩⟩⟩⟩⟩
                    exact .tup upd_same (TpAll.one (Tp.keep (Tk.new hu4) _ _ (.tup upd_same (.cons (.str z) (TpAll.one (Tp.keep (Tk.new hu3) _ _ (.tup upd_same (TpAll.one (Tp.keep (Tk.new hu2) _ _ (.tup upd_same (.cons (.int 1) (TpAll.one (.str "a"))))))))))))) 
                  rintro v1 H6 ⟨tv1, sm6⟩
                  refine ⟨fun v H' => Tp H' v (.tuple [.tuple [.str z, .tuple []]]) ∧ Same H6 H', ?_, ?_⟩
                  · refine ⟨_, rfl, Nat.zero_le _, fun u1 hu1 => ⟨(by show 2 ≤ sizeLine; decide), fun u2 hu2 => ⟨(by show 1 ≤ sizeLine; decide), fun u3 hu3 => ⟨?_, ((Same.new hu1).trans (Same.new hu2)).trans (Same.new hu3)⟩⟩⟩⟩
                    exact .tup upd_same (TpAll.one (Tp.keep (Tk.new hu3) _ _ (.tup upd_same (.cons (.str z) (TpAll.one (Tp.keep (Tk.new hu2) _ _ (.tup upd_same .nil)))))))
                  rintro v2 H7 ⟨tv2, sm7⟩
                  refine ⟨fun v H' => Tp H' v (.tuple [.tuple [.int 1, .str "a", .str "z", .str "z", .tuple []]]) ∧ Same H7 H', ?_, ?_⟩
                  · refine ⟨Nat.zero_le _, fun u1 hu1 => ⟨(by show 5 ≤ sizeLine; decide), fun u2 hu2 => ⟨(by show 1 ≤ sizeLine; decide), fun u3 hu3 => ⟨?_, ((Same.new hu1).trans (Same.new hu2)).trans (Same.new hu3)⟩⟩⟩⟩
                    exact .tup upd_same (TpAll.one (Tp.keep (Tk.new hu3) _ _ (.tup upd_same (.cons (.int 1) (.cons (.str "a") (.cons (.str "z") (.cons (.str "z") (TpAll.one (Tp.keep (Tk.new hu2) _ _ (.tup upd_same .nil))))))))))
                  rintro v3 H8 ⟨tv3, sm8⟩
                  refine ⟨(by show 3 ≤ sizeLine; decide), fun L hL => ?_⟩
                  have K8 : Kp b H2 (upd H8 L (.lst [v1, v2, v3])) := (K5.same ((sm6.trans sm7).trans sm8)).new hL
                  have B8 : Bag (upd H8 L (.lst [v1, v2, v3])) b (n + 121) := (B5.same ((sm6.trans sm7).trans sm8)).new hL
                  obtain ⟨v, c', hv, tv, lc', hs⟩ : ∃ (v : V) (c' : List PyData), atI [v1, v2, v3] (at_ - 2) = some v ∧ Tp (upd H8 L (.lst [v1, v2, v3])) v (.tuple c') ∧ c'.length = 1 ∧ Sh 60 (.tuple c') := by
                    have sa : Sh 0 (.str "a") := sh_str (by decide +kernel)
                    have sz : Sh 0 (.str "z") := sh_str (by decide +kernel)
                    have hi : at_ = 2 ∨ at_ = 3 ∨ at_ = 4 := by omega
                    rcases hi with rfl | rfl | rfl
                    · refine ⟨v1, _, rfl, Tp.keep (((Same.tk sm7).trans (Same.tk sm8)).trans (Tk.new hL)) _ _ tv1, rfl, ?_⟩
                      refine Sh.tup (n := 59) fun d hd => ?_
                      rw [List.mem_singleton.mp hd]
                      refine Sh.tup (n := 58) fun d hd => ?_
                      simp only [List.mem_cons, List.not_mem_nil, or_false] at hd
                      rcases hd with rfl | rfl
                      · exact hz1.ok.mono (by decide)
                      · refine Sh.tup (n := 57) fun d hd => ?_
                        rw [List.mem_singleton.mp hd]
                        refine Sh.tup (n := 56) fun d hd => ?_
                        simp only [List.mem_cons, List.not_mem_nil, or_false] at hd
                        rcases hd with rfl | rfl
                        · exact Sh.int 1
                        · exact sa.mono (by decide)
                    · refine ⟨v2, _, rfl, Tp.keep ((Same.tk sm8).trans (Tk.new hL)) _ _ tv2, rfl, ?_⟩
                      refine Sh.tup (n := 59) fun d hd => ?_
                      rw [List.mem_singleton.mp hd]
                      refine Sh.tup (n := 58) fun d hd => ?_
                      simp only [List.mem_cons, List.not_mem_nil, or_false] at hd
                      rcases hd with rfl | rfl
                      · exact hz1.ok.mono (by decide)
                      · exact Sh.tup (n := 57) fun d hd => by cases hd
                    · refine ⟨v3, _, rfl, Tp.keep (Tk.new hL) _ _ tv3, rfl, ?_⟩
                      refine Sh.tup (n := 59) fun d hd => ?_
                      rw [List.mem_singleton.mp hd]
                      refine Sh.tup (n := 58) fun d hd => ?_
                      simp only [List.mem_cons, List.not_mem_nil, or_false] at hd
                      rcases hd with rfl | rfl | rfl | rfl | rfl
                      · exact Sh.int 1
                      · exact sa.mono (by decide)
                      · exact sz.mono (by decide)
                      · exact sz.mono (by decide)
                      · exact Sh.tup (n := 57) fun d hd => by cases hd
                  refine ⟨_, rfl, _, rfl, _, _, rfl, rfl, L, _, _, _, rfl, rfl, SqL.of upd_same, hv, ?_⟩
                  exact ⟨_, rfl, _, rfl, Fo, _, _, at_.toNat, rfl, rfl, K8 Fo _ nFb hF2, hixn, fin _ v c' (n + 121) _ _ _ _ _ _ _ _ K8 B8 (by omega) tv (ne_len (by rw [hcn, lc']; decide)) hs⟩
    · rintro σ H2 ⟨a4, a5, a6, a7, a8, a9, a10, a11, ws, es, rfl, hF2, tp2, bent, K2, B2⟩
      refine ⟨_, rfl, Fo, _, rfl, .inl ⟨SqL.of hF2, fun R hR => ?_⟩⟩
      exact k R ws es _ upd_same (TpAll.keep (Tk.new hR) _ _ tp2) bent (K2.new hR) (B2.new hR)
end
end Fh
set_option maxHeartbeats 4000000
namespace Fh
open PySem L2 PyProof.Rows
abbrev sRight : Stmt := top 21
/-! ### what is drawn has parts as told -/
theorem kd0_sh {ms fs : List Str} {k : Kd0} (h : k.ok ms fs) (hm : ∀ z ∈ ms, Nm z) (hf : ∀ z ∈ fs, Nm z) : Sh 1 k.d := by
  cases k with
  | plain w =>
    rcases h with rfl | rfl | rfl
    all_goals exact (sh_str (by decide +kernel)).mono (by decide)
  | named w n =>
    refine Sh.tup (n := 0) fun d hd => ?_
    simp only [List.mem_cons, List.not_mem_nil, or_false] at hd
    rcases h with ⟨rfl, h⟩ | ⟨rfl, h⟩
    · rcases hd with rfl | rfl
      · exact sh_str (by decide +kernel)
      · rcases h with h | rfl
        · exact (hm n h).ok
        · exact sh_str (by decide +kernel)
    · rcases hd with rfl | rfl
      · exact sh_str (by decide +kernel)
      · rcases h with h | rfl
        · exact (hf n h).ok
        · exact sh_str (by decide +kernel)
theorem kd_sh {ms fs : List Str} {k : Kd} (h : k.ok ms fs) (hm : ∀ z ∈ ms, Nm z) (hf : ∀ z ∈ fs, Nm z) : Sh 2 k.d := by
  cases k with
  | one k => exact (kd0_sh (k := k) h hm hf).mono (by decide)
  | list k =>
    refine Sh.tup (n := 1) fun d hd => ?_
    simp only [List.mem_cons, List.not_mem_nil, or_false] at hd
    rcases hd with rfl | rfl
    · exact (sh_str (by decide +kernel)).mono (by decide)
    · exact kd0_sh (k := k) h hm hf
theorem parts_ok {f : Fc} (h : FcOk f) : PartsOk f.own f.age (f.chs.map Chc.d) (f.recs.map Rec.d) (f.acts.map Act.d) := by
  have nmC : ∀ z ∈ f.chs.map (·.nm), Nm z := fun z hz => h.nms z (List.mem_append_left _ hz)
  have nmR : ∀ z ∈ f.recs.map (·.nm), Nm z := fun z hz => h.nms z (List.mem_append_right _ hz)
  have c1 : ∀ c ∈ f.chs, Nm c.nm := fun c hc => nmC _ (List.mem_map.mpr ⟨c, hc, rfl⟩)
  have r1 : ∀ r ∈ f.recs, Nm r.nm := fun r hr => nmR _ (List.mem_map.mpr ⟨r, hr, rfl⟩)
  refine ⟨h.own, h.age, by rw [List.length_map]; have := h.chsN; omega, by rw [List.length_map]; exact h.recsN, by rw [List.length_map]; exact h.acts.len, ?_, ?_, ?_, ?_, ?_⟩
  · intro d hd
    obtain ⟨c, hc, rfl⟩ := List.mem_map.mp hd
    have ok := h.chs c hc
    refine ⟨[.str c.nm], c.os.map optD, rfl, by simp, by simp, by rw [List.length_map]; exact ok.hi, fun x hx => ?_, fun x hx => ?_⟩
    · rw [List.mem_singleton.mp hx]
      exact (c1 c hc).ok
    · obtain ⟨o, ho, rfl⟩ := List.mem_map.mp hx
      refine Sh.tup (n := 3) fun e he => ?_
      simp only [List.mem_cons, List.not_mem_nil, or_false] at he
      rcases he with rfl | rfl
      · exact Sh.int _
      · exact (ok.nm o ho).ok.mono (by decide)
  · intro d hd
    obtain ⟨r, hr, rfl⟩ := List.mem_map.mp hd
    have ok := h.recs r hr
    refine ⟨[.str r.nm], r.fs.map Fld.d, rfl, by simp, by simp, by rw [List.length_map]; have := ok.len; omega, fun x hx => ?_, fun x hx => ?_⟩
    · rw [List.mem_singleton.mp hx]
      exact (r1 r hr).ok
    · obtain ⟨o, ho, rfl⟩ := List.mem_map.mp hx
      obtain ⟨_, n1, k1, nd⟩ := ok.all o ho
      refine Sh.tup (n := 3) fun e he => ?_
      simp only [List.mem_cons, List.not_mem_nil, or_false] at he
      rcases he with rfl | rfl | rfl | rfl
      · exact Sh.int _
      · exact n1.ok.mono (by decide)
      · exact (kd_sh k1 nmC nmR).mono (by decide)
      · rcases nd with e | e
        all_goals
          rw [e]
          exact (sh_str (by decide +kernel)).mono (by decide)
  · intro d hd
    obtain ⟨a, ha, rfl⟩ := List.mem_map.mp hd
    obtain ⟨_, n1, n2, n3, ld, dk⟩ := h.acts.all a ha
    refine ⟨[.int a.num, .str a.nm, .str a.ask, .str a.back], a.deeds.map deedD, rfl, by simp, by simp, by rw [List.length_map]; exact ld, fun x hx => ?_, fun x hx => ?_⟩
    · simp only [List.mem_cons, List.not_mem_nil, or_false] at hx
      rcases hx with rfl | rfl | rfl | rfl
      · exact Sh.int _
      · exact n1.ok
      · exact n2.ok
      · exact n3.ok
    · obtain ⟨o, ho, rfl⟩ := List.mem_map.mp hx
      refine Sh.tup (n := 3) fun e he => ?_
      obtain ⟨z, hz, rfl⟩ := List.mem_map.mp he
      exact ((dk o ho).nm z hz).ok.mono (by decide)
  · intro d hd
    obtain ⟨c, hc, rfl⟩ := List.mem_map.mp hd
    exact ⟨c.nm, _, rfl, c1 c hc⟩
  · intro d hd
    obtain ⟨r, hr, rfl⟩ := List.mem_map.mp hd
    exact ⟨r.nm, _, rfl, r1 r hr⟩
theorem parts_sh {own : Str} {age : Int} {c3 c4 c5 : List PyData} (ok : PartsOk own age c3 c4 c5) : ShL (dsOf own age c3 c4 c5) := by
  intro d hd
  simp only [dsOf, List.mem_cons, List.not_mem_nil, or_false] at hd
  rcases hd with rfl | rfl | rfl | rfl | rfl
  · exact (ok.own.ok).mono (by decide)
  · exact (Sh.int (n := 0) _).mono (by decide)
  · exact (elems_sh ok.e3).mono (by decide)
  · exact (elems_sh ok.e4).mono (by decide)
  · exact (elems_sh ok.e5).mono (by decide)
/-! ### the fields of a face -/
def spRight (K : PySem.W.Frag) (C : Addr) : Sp := fun vs H Q _ => ∃ (a p : Addr) (ws : List V) (z : Str) (i : Int) (c3 c4 c5 : List PyData), vs = [.ref a, .ref p] ∧ FaceD K C H a (dsOf z i c3 c4 c5) ∧ H p = some (.tup ws) ∧ TpAll H ws (dsOf z i c3 c4 c5) ∧ ShL (dsOf z i c3 c4 c5) ∧
  ∀ H', Same H H' → Q (.bl true) H'
section
variable {P : Program} {w : World} {K : PySem.W.Frag} {mg : Str → Option Value} {base : Heap}
theorem scRight : FnScope ["_law_one", "_law_parts", "_law_told"] ["_law_one", "_law_parts"] (defScope sRight) := ⟨rfl, rfl, rfl, by decide +kernel, rfl, by decide +kernel, by decide +kernel⟩
theorem fv_tup {H : Hp} {v : V} {c : List PyData} (h : Fv K H v (.tuple c)) : TyX K H v (.type "tuple") := by
  rcases h with h | ⟨e, rfl, ⟨o, h1, h2, _⟩, _⟩
  · obtain ⟨a, xs, rfl, ha, _⟩ := h.inv
    exact .base (.tup ha)
  · exact .kTuple h1 h2
theorem fv_int {H : Hp} {v : V} {i : Int} (h : Fv K H v (.int i)) : v = .int i := by
  rcases h with h | ⟨e, _, _, h⟩
  · exact h.iint
  · cases h
theorem ok_right {f C : Addr} {fd : FuncData} (F : Fun K "_law_fields_right" "_law_fields_right" sRight f fd) (T : ClsF K mg C) (G : Glb mg) (gB : mg "bool" = none) : FnOk P w K mg base CX0 1 f fd ["_law_one", "_law_parts"] (spRight K C) := by
  refine F.ok scRight (fun vs H Q E h => ?_) (fun cdv A outer s H vs Q E hr h => ?_)
  · obtain ⟨a, p, ws, z, i, c3, c4, c5, rfl, _⟩ := h
    rfl
  · obtain ⟨a, p, ws, z, i, c3, c4, c5, rfl, ⟨dx, v1, v2, v3, v4, v5, ha, hd⟩, hp, tp, sh, k⟩ := h
    refine ⟨_, pss_cons (ps_set (i := 2) scRight.nd rfl (Or.inl rfl) (pe_tup (pa_cons (pe_fld (pv 0) rfl) (pa_cons (pe_fld (pv 0) rfl) (pa_cons (pe_fld (pv 0) rfl) (pa_cons (pe_fld (pv 0) rfl) (pa_cons (pe_fld (pv 0) rfl) pa_nil)))))))
      (pss_one (ps_ret (pe_and (pe_cmpR (op_eqD hr.units) (pv 2) (pv 1) (nomark _))
        (pe_and (pe_not (pe_callB call_isi (by rfl) T.isi (by decide +kernel) (pa_cons (pe_fld (pv 0) rfl) (pa_cons (pe_bltn (v := .ty "bool") rfl gB (by decide +kernel) rfl) pa_nil))))
        (pe_one (pe_callB call_isi (by rfl) T.isi (by decide +kernel) (pa_cons (pe_fld (pv 0) rfl) (pa_cons (pe_bltn (v := .ty "tuple") rfl G.tuple (by decide +kernel) rfl) pa_nil)))))))), ?_⟩
    refine ⟨_, rfl, a, C, dx, _, _, rfl, ha, T.cl, T.n1, ff_name, _, rfl, a, C, dx, _, _, rfl, ha, T.cl, T.n2, ff_edition, _, rfl, a, C, dx, _, _, rfl, ha, T.cl, T.n3, ff_choices, _, rfl, a, C, dx, _, _, rfl, ha, T.cl, T.n4, ff_records, _, rfl, a, C, dx, _, _, rfl, ha, T.cl, T.n5, ff_calls, (by show 5 ≤ sizeLine; decide), fun t ht => ?_⟩
    have sm : Same H (upd H t (.tup [v1, v2, v3, v4, v5])) := Same.new ht
    have hd2 := fv_keep (Same.tk sm) hd
    refine ⟨_, rfl, _, rfl, _, _, .tup (SqT.of upd_same) (fv_dp hd2), .tup (SqT.of (sm _ _ hp)) (TpAll.dp _ _ (TpAll.keep (Same.tk sm) _ _ tp)), sh.tup, sh.tup, _, rfl, ?_⟩
    rw [SeqAt.eqv_refl _ (Sh.tup sh).1]
    refine iteT ?_
    have ha2 := sm _ _ ha
    cases hd2 with
    | cons f1 q => cases q with
      | cons f2 q => cases q with
        | cons f3 q => cases q with
          | cons f4 q =>
            refine ⟨_, rfl, a, C, dx, _, _, rfl, ha2, T.cl, T.n2, ff_edition, _, _, .type "int", .type "bool", false, rfl, .ty _, ?_, rfl, false, rfl, true, rfl, iteT ?_⟩
            · rw [fv_int f2]
              exact .base (.int i)
            · exact ⟨_, rfl, a, C, dx, _, _, rfl, ha2, T.cl, T.n4, ff_records, _, _, .type "tuple", .type "tuple", true, rfl, .ty _, fv_tup f4, rfl, k _ sm⟩
end
end Fh
set_option maxHeartbeats 4000000
namespace Fh
open PySem L2 PyProof.Rows
abbrev sLaw : Stmt := top 22
abbrev nLaw : List Str := ["_law_script", "_law_k", "_law_bag_here", "_law_parts", "_law_bent", "_law_one", "_law_other", "_law_last", "_law_odd", "_law_told", "_law_face", "_law_due", "_law_words"]
def spLaw (K : PySem.W.Frag) : Sp := fun vs H Q _ => ∃ (a : Addr) (ns : List Int), vs = [.ref a] ∧ SqL K H a (ns.map V.int) ∧ ∀ H', Q (.bl true) H'
section
variable {P : Program} {w : World} {K : PySem.W.Frag} {mg : Str → Option Value} {base : Heap}
theorem scLaw : FnScope nLaw ["_law_script"] (defScope sLaw) := ⟨rfl, rfl, rfl, by decide +kernel, rfl, by decide +kernel, by decide +kernel⟩
end
/-! ### what stands once all is drawn -/
structure Six (K : PySem.W.Frag) (C : Addr) (H : Hp) (x1 x2 x3 p q : Addr) (od : V) (ds es : List PyData) : Prop where
  f1 : FaceD K C H x1 ds
  f2 : FaceD K C H x2 ds
  f3 : FaceD K C H x3 es
  od : Odd H od
  pp : ∃ ws, H p = some (.tup ws) ∧ TpAll H ws ds
  qq : ∃ ws, H q = some (.tup ws) ∧ TpAll H ws es
theorem Odd.same {H H' : Hp} {y : V} (o : Odd H y) (s : Same H H') : Odd H' y := by
  cases o with
  | non => exact .non
  | int i => exact .int i
  | str z => exact .str z
  | tup h => exact .tup (s _ _ h)
  | lst h => exact .lst (s _ _ h)
theorem Six.same {K : PySem.W.Frag} {C : Addr} {H H' : Hp} {x1 x2 x3 p q : Addr} {od : V} {ds es : List PyData} (h : Six K C H x1 x2 x3 p q od ds es) (s : Same H H') : Six K C H' x1 x2 x3 p q od ds es := by
  obtain ⟨wp, hp, tp⟩ := h.pp
  obtain ⟨wq, hq, tq⟩ := h.qq
  exact ⟨h.f1.same s, h.f2.same s, h.f3.same s, h.od.same s, ⟨wp, s _ _ hp, TpAll.keep (Same.tk s) _ _ tp⟩, ⟨wq, s _ _ hq, TpAll.keep (Same.tk s) _ _ tq⟩⟩
theorem ans_face {K : PySem.W.Frag} {C : Addr} {H : Hp} {a b : Addr} {ds es : List PyData} (f1 : FaceD K C H a ds) (f2 : FaceD K C H b es) (s1 : ShL ds) (s2 : ShL es) : Ans (spEqF K C) (.ref a) (.ref b) H (PyData.eqvAll ds es) :=
  ⟨a, _, _, rfl, .inl ⟨b, ds, es, rfl, f1, f2, s1.all, s2.all, rfl⟩, rfl, rfl⟩
theorem ans_odd {K : PySem.W.Frag} {C : Addr} {H : Hp} {a : Addr} {y : V} (o : Odd H y) : Ans (spEqF K C) (.ref a) y H false :=
  ⟨a, y, false, rfl, .inr ⟨o, rfl⟩, rfl, rfl⟩
theorem eqvAll_refl {ds : List PyData} (h : ShL ds) : PyData.eqvAll ds ds = true := SeqAt.eqv_refl (.tuple ds) (Sh.tup h).1
theorem eqvAll_swap (ds es : List PyData) : PyData.eqvAll ds es = PyData.eqvAll es ds := PySem.W.eqv_comm (.tuple ds) (.tuple es)
theorem face_len {z : Str} {i : Int} (hz : z.length ≤ 8) (i0 : 1 ≤ i) (i1 : i ≤ 99) : (faceText z i).length ≤ 18 := by
  have hT := txt99 i0 i1
  have l1 : ("Face(" : Str).length = 5 := by decide +kernel
  have l2 : (" " : Str).length = 1 := by decide +kernel
  have l3 : (")" : Str).length = 1 := by decide +kernel
  unfold faceText
  rw [app_len, app_len, app_len, app_len]
  omega
theorem ne_odd {K : PySem.W.Frag} {C : Addr} {H : Hp} {x : Addr} {y : V} {ds : List PyData} (f : FaceD K C H x ds) (o : Odd H y) : y ≠ .ref x := by
  obtain ⟨dx, v1, v2, v3, v4, v5, h, _⟩ := f
  rintro rfl
  cases o with
  | tup e => rw [h] at e; cases e
  | lst e => rw [h] at e; cases e
section
variable {P : Program} {w : World} {K : PySem.W.Frag} {mg : Str → Option Value} {base : Heap}
theorem iteN {A B : Prop} {c : Bool} (h : c = false) (b : B) : if c = true then A else B := by
  rw [h]
  exact iteF b
structure Glb2 (mg : Str → Option Value) : Prop where
  bool : mg "bool" = none
  str : mg "str" = none
  repr : mg "repr" = none
theorem ok_law {f C : Addr} {fd : FuncData} (F : Fun K "law" "law" sLaw f fd) (G : Glb mg) (G2 : Glb2 mg) (T : ClsF K mg C) (EQ : FEq P w K mg base C 1 (spEqF K C)) (ER : FRepr P w K mg base C 1 (spReprF K C)) (DB : Has P w K mg base "_law_bag" 1 ["_law_script", "_law_at"] (spBag K)) (DT : Has P w K mg base "_law_take" 1 pTake spTake)
    (DA : Has P w K mg base "_law_all_drawn" 6 ["_law_bag_here"] spAll) (DBe : Has P w K mg base "_law_bent_once" 4 pBent spBent) (DF : Has P w K mg base "_law_made_face" 3 ["_law_parts"] (spMk K C)) (DN : Has P w K mg base "_law_made_anew" 3 ["_law_parts"] (spAnew K C))
    (DR : Has P w K mg base "_law_fields_right" 1 ["_law_one", "_law_parts"] (spRight K C)) : FnOk P w K mg base CX0 7 f fd ["_law_script"] (spLaw K) := by
  refine F.ok scLaw (fun vs H Q E h => ?_) (fun cdv A outer s H vs Q E hr h => ?_)
  · obtain ⟨a, ns, rfl, _⟩ := h
    rfl
  · obtain ⟨a, ns, rfl, hS, k⟩ := h
    have hr1 : Room 1 _ := hr.mono (by decide)
    have hr2 : Room 2 _ := hr.mono (by decide)
    have hr3 : Room 3 _ := hr.mono (by decide)
    have hr4 : Room 4 _ := hr.mono (by decide)
    refine ⟨_, pss_cons (ps_for PassesOwn.never rfl (pi_range1 rfl G.range (pa_cons (pe_mid (pe_callB (call_max2 rfl) (by rfl) G.max (by decide +kernel) (pa_cons pe_int (pa_cons (pe_callB (call_min2 rfl) (by rfl) G.min (by decide +kernel) (pa_cons pe_int (pa_cons (pe_callB call_len_seq (by rfl) G.len PySem.boot_len (pa_cons (pv 0) pa_nil)) pa_nil))) pa_nil)))) pa_nil)) (pg_name (i := 1) scLaw.nd rfl (Or.inl rfl))
        (pss_cons (ps_set (i := 2) scLaw.nd rfl (Or.inl rfl) (pe_has DB hr1 rfl (pa_cons (pv 0) (pa_cons (pv 1) pa_nil))))
        (pss_cons (ps_set (i := 3) scLaw.nd rfl (Or.inl rfl) (pe_has DA hr rfl (pa_cons (pv 2) pa_nil)))
        (pss_cons (ps_set (i := 4) scLaw.nd rfl (Or.inl rfl) (pe_has DBe hr4 rfl (pa_cons (pv 2) (pa_cons (pv 3) pa_nil))))
        (pss_cons (ps_par (i := 5) (j := 6) rfl scLaw.nd rfl rfl (by decide) rfl rfl (pa_cons (pe_has DF hr3 rfl (pa_cons (pv 3) pa_nil)) (pa_cons (pe_has DN hr3 rfl (pa_cons (pv 3) pa_nil)) pa_nil)) (by rfl))
        (pss_cons (ps_set (i := 7) scLaw.nd rfl (Or.inl rfl) (pe_has DF hr3 rfl (pa_cons (pv 4) pa_nil)))
        (pss_cons (ps_set (i := 8) scLaw.nd rfl (Or.inl rfl) (pe_mid (pe_ix ix_list (pe_lst (pa_cons pe_non (pa_cons (pv 3) (pa_cons (pe_callTy call_list_of (by rfl) G.list (by decide +kernel) (pa_cons (pv 3) pa_nil)) (pa_cons pe_str (pa_cons (pe_ix ix_tup (pv 3) pe_int (fun _ _ => rfl)) (pa_cons pe_int (pa_cons (pe_tup pa_nil) pa_nil)))))))) (pe_has DT hr1 rfl (pa_cons (pv 2) (pa_cons pe_int pa_nil))) (fun _ _ => rfl))))
        (pss_cons (ps_set (i := 9) scLaw.nd rfl (Or.inl rfl) (pe_mid (pe_lst (pa_cons (pe_cmpR (op_eqF EQ hr1) (pv 5) (pv 6) (nomark _)) (pa_cons (pe_cmpR (op_eqF EQ hr1) (pv 6) (pv 5) (nomark _)) (pa_cons (pe_cmpR (op_inF EQ hr2) (pv 5) (pe_lst (pa_cons (pv 6) pa_nil)) rfl) pa_nil))))))
        (pss_cons (ps_set (i := 9) scLaw.nd rfl (Or.inl rfl) (pe_mid (pe_op op_cat (pv 9) (pe_lst (pa_cons (pe_cmpR (op_pairF EQ hr2) (pe_tup (pa_cons pe_int (pa_cons (pv 5) pa_nil))) (pe_tup (pa_cons pe_int (pa_cons (pv 6) pa_nil))) (nomark _)) (pa_cons (pe_not (pe_cmpR (op_neF EQ hr2) (pv 5) (pv 6) (nomark _))) pa_nil))))))
        (C8.pss_cut (ps_if (PW.pt (pw_or (pt_cmpR (op_neD hr.units) (pv 9) (pe_op op_rep (pe_lst (pa_cons pe_bl pa_nil)) pe_int) (nomark _)) (pw_or1 (pt_not (pt_val (pe_callB call_isi (by rfl) T.isi (by decide +kernel) (pa_cons (pe_ix ix_list (pv 9) pe_int (fun _ _ => rfl)) (pa_cons (pe_bltn (v := .ty "bool") rfl G2.bool (by decide +kernel) rfl) pa_nil)))))))) (pss_one (ps_ret pe_bl)) pss_nil)
        (pss_cons (ps_set (i := 9) scLaw.nd rfl (Or.inl rfl) (pe_mid (pe_lst (pa_cons (pe_cmpR (op_eqF EQ hr1) (pv 5) (pv 7) (nomark _)) (pa_cons (pe_cmpR (op_eqF EQ hr1) (pv 7) (pv 5) (nomark _)) (pa_cons (pe_cmpR (op_inF EQ hr2) (pv 5) (pe_lst (pa_cons (pv 7) pa_nil)) rfl) (pa_cons (pe_not (pe_cmpR (op_neF EQ hr2) (pv 7) (pv 6) (nomark _))) pa_nil)))))))
        (C8.pss_cut (ps_if (pt_cmpR (op_neD hr.units) (pv 9) (pe_op op_rep (pe_lst (pa_cons pe_bl pa_nil)) pe_int) (nomark _)) (pss_one (ps_ret pe_bl)) pss_nil)
        (C8.pss_cut (ps_if (PW.pt (pw_or (pt_cmpR (op_eqF EQ hr1) (pv 5) (pv 8) (nomark _)) (pw_or1 (pt_cmpR (op_eqF EQ hr1) (pv 8) (pv 5) (nomark _))))) (pss_one (ps_ret pe_bl)) pss_nil)
        (C8.pss_cut (ps_if (PW.pt (pw_or (pt_not (pt_cmpR (op_neF EQ hr2) (pv 5) (pv 8) (nomark _))) (pw_or1 (pt_cmpR (op_inF EQ hr2) (pv 5) (pe_lst (pa_cons (pv 8) pa_nil)) rfl)))) (pss_one (ps_ret pe_bl)) pss_nil)
        (pss_one (ps_for PassesOwn.never rfl (pi_list (pe_lst (pa_cons (pe_tup (pa_cons (pv 5) (pa_cons (pv 3) pa_nil))) (pa_cons (pe_tup (pa_cons (pv 6) (pa_cons (pv 3) pa_nil))) (pa_cons (pe_tup (pa_cons (pv 7) (pa_cons (pv 4) pa_nil))) pa_nil))))) (pg_tup rfl (pgs_cons (pg_name (i := 10) scLaw.nd rfl (.inl rfl)) (pgs_cons (pg_name (i := 11) scLaw.nd rfl (.inl rfl)) pgs_nil)))
          (pss_cons (ps_set (i := 12) scLaw.nd rfl (Or.inl rfl) (pe_op op_add_str (pe_op op_add_str (pe_op op_add_str (pe_op op_add_str pe_str (pe_ix ix_tup (pv 11) pe_int (fun _ _ => rfl))) pe_str) (pe_callTy call_str_int (by rfl) G2.str (by decide +kernel) (pa_cons (pe_ix ix_tup (pv 11) pe_int (fun _ _ => rfl)) pa_nil))) pe_str))
          (pss_cons (ps_if (PW.pt (pw_or (pt_not (pt_val (pe_has DR hr1 rfl (pa_cons (pv 10) (pa_cons (pv 11) pa_nil))))) (pw_or1 (pt_cmpR op_ne (pe_callB (call_reprF ER hr2) (by rfl) G2.repr (by decide +kernel) (pa_cons (pv 10) pa_nil)) (pv 12) (nomark _))))) (pss_one (ps_ret pe_bl)) pss_nil)
          (pss_one (ps_if (pt_cmpR op_ne (pe_joined1 (pe_fmtF ER hr1 (pv 10))) (pv 12) (nomark _)) (pss_one (ps_ret pe_bl)) pss_nil))))))))))))))))))))
      (pss_one (ps_ret pe_bl)), ?_⟩
    refine ⟨fun v H1 => ∃ m : Int, v = .int m ∧ 0 ≤ m ∧ m ≤ 8 ∧ H = H1, ?_, ?_⟩
    · refine ⟨_, rfl, a, _, rfl, .inl hS, _, _, rfl, _, _, rfl, ?_⟩
      refine ⟨_, rfl, ?_, ?_, rfl⟩
      · split <;> split <;> omega
      · split <;> split <;> omega
    rintro v H1 ⟨m, rfl, m0, m8, rfl⟩
    refine ⟨m, rfl, by omega, by omega, ?_⟩
    refine for_range (lo := 0) (n := m.toNat) (fun i σ H1 => (∃ a1 a2 a3 a4 a5 a6 a7 a8 a9 a10 a11 a12, σ = [some (.ref a), a1, a2, a3, a4, a5, a6, a7, a8, a9, a10, a11, a12]) ∧ Same H H1) ?_ ?_ ?_
    · exact ⟨⟨_, _, _, _, _, _, _, _, _, _, _, _, rfl⟩, Same.refl H⟩
    · rintro i σ H1 hi ⟨⟨a1, a2, a3, a4, a5, a6, a7, a8, a9, a10, a11, a12, rfl⟩, sm1⟩
      refine ⟨_, rfl, _, rfl, a, ns, _, rfl, SqL.ext hS sm1, by omega, by omega, fun b H2 sm2 hb B2 => ?_⟩
      have hb0 : H b = none := sm1.free hb
      have toS : ∀ {H' : Hp}, Kp b H2 H' → Same H H' := fun {H'} kp c o e => kp c o (fun q => by rw [q, hb0] at e; cases e) (sm2 _ _ (sm1 _ _ e))
      refine ⟨_, rfl, b, 0, rfl, B2, by decide, fun vp fc H3 tpv okf K3 B3 => ?_⟩
      have po := parts_ok okf
      generalize eo : fc.own = own at po
      generalize ea : fc.age = age at po
      generalize e3 : fc.chs.map Chc.d = c3 at po
      generalize e4 : fc.recs.map Rec.d = c4 at po
      generalize e5 : fc.acts.map Act.d = c5 at po
      have tpv' : Tp H3 vp (.tuple (dsOf own age c3 c4 c5)) := by
        rw [← eo, ← ea, ← e3, ← e4, ← e5]
        exact tpv
      obtain ⟨p, xs, rfl, hp3, tp3⟩ := tpv'.inv
      obtain ⟨v1, v2, v3, v4, v5, rfl⟩ : ∃ v1 v2 v3 v4 v5, xs = [v1, v2, v3, v4, v5] := by
        cases tp3 with
        | cons _ q => cases q with
          | cons _ q => cases q with
            | cons _ q => cases q with
              | cons _ q => cases q with
                | cons _ q => cases q; exact ⟨_, _, _, _, _, rfl⟩
      have shd := parts_sh po
      refine ⟨_, rfl, _, rfl, b, p, 0 + 5000, v1, v2, v3, v4, v5, own, age, c3, c4, c5, rfl, B3, by decide, hp3, tp3, po, fun q ws es H4 hq4 tq4 bent K4 B4 => ?_⟩
      obtain ⟨z, ie, g3, g4, g5, rfl, hz, i0, i1, she, hne⟩ := bent
      have hp4 := (K4.tk B3) p _ hp3
      have tp4 := TpAll.keep (K4.tk B3) _ _ tp3
      refine ⟨_, rfl, p, v1, v2, v3, v4, v5, _, rfl, hp4, tp4, shd.all, fun x1 H5 sm5 hx1 f1 => ?_⟩
      refine ⟨_, rfl, p, v1, v2, v3, v4, v5, _, _, c3, c4, c5, rfl, sm5 _ _ hp4, TpAll.keep (Same.tk sm5) _ _ tp4, shd.all, fun x2 H6 sm6 hx2 f2 => ⟨_, _, rfl, ?_⟩⟩
      obtain ⟨w1, w2, w3, w4, w5, rfl⟩ : ∃ v1 v2 v3 v4 v5, ws = [v1, v2, v3, v4, v5] := by
        cases tq4 with
        | cons _ q => cases q with
          | cons _ q => cases q with
            | cons _ q => cases q with
              | cons _ q => cases q with
                | cons _ q => cases q; exact ⟨_, _, _, _, _, rfl⟩
      have tq6 := TpAll.keep ((Same.tk sm5).trans (Same.tk sm6)) _ _ tq4
      have hq6 := sm6 _ _ (sm5 _ _ hq4)
      refine ⟨_, rfl, q, w1, w2, w3, w4, w5, _, rfl, hq6, tq6, she.all, fun x3 H7 sm7 hx3 f3 => ?_⟩
      have sm47 : Same H4 H7 := (sm5.trans sm6).trans sm7
      have n12 : x1 ≠ x2 := fun e => by
        obtain ⟨_, _, _, _, _, _, h, _⟩ := f1
        rw [e, hx2] at h
        cases h
      have n13 : x1 ≠ x3 := fun e => by
        obtain ⟨_, _, _, _, _, _, h, _⟩ := f1.same sm6
        rw [e, hx3] at h
        cases h
      have K7 : Kp b H2 H7 := ((K3.trans K4).same sm47)
      have B7 := B4.same sm47
      have hp7 := sm47 _ _ hp4
      have tp7 := TpAll.keep (Same.tk sm47) _ _ tp4
      obtain rfl : v1 = .str own := by cases tp7 with | cons t _ => exact t.istr
      refine ⟨fun v H8 => Odd H8 v ∧ Kp b H7 H8, ?_, ?_⟩
      · refine ⟨_, rfl, _, rfl, p, _, rfl, .inr (SqT.of hp7), fun l hl => ?_⟩
        have hp8 : (upd H7 l (.lst [V.str own, v2, v3, v4, v5])) p = some (.tup [V.str own, v2, v3, v4, v5]) := Same.new hl _ _ hp7
        refine ⟨_, rfl, p, _, _, _, rfl, rfl, SqT.of hp8, rfl, Nat.zero_le _, fun e he => ⟨(by show 7 ≤ sizeLine; decide), fun L hL => ?_⟩⟩
        have sm8 := ((Same.new (o := .lst [V.str own, v2, v3, v4, v5]) hl).trans (Same.new (o := .tup []) he)).trans (Same.new (o := .lst [.non, .ref p, .ref l, .str "Face", .str own, .int 1, .ref e]) hL)
        have hl8 := ((Same.new (o := .tup []) he).trans (Same.new (o := .lst [.non, .ref p, .ref l, .str "Face", .str own, .int 1, .ref e]) hL)) l _ upd_same
        have he8 := (Same.new (o := .lst [.non, .ref p, .ref l, .str "Face", .str own, .int 1, .ref e]) hL) e _ upd_same
        have hL8 : (upd (upd (upd H7 l (.lst [V.str own, v2, v3, v4, v5])) e (.tup [])) L (.lst [.non, .ref p, .ref l, .str "Face", .str own, .int 1, .ref e])) L = some (.lst [.non, .ref p, .ref l, .str "Face", .str own, .int 1, .ref e]) := upd_same
        have nLb : L ≠ b := new_ne hL ((B7.new hl).new he)
        have nlb : l ≠ b := new_ne hl B7
        generalize (upd (upd (upd H7 l (.lst [V.str own, v2, v3, v4, v5])) e (.tup [])) L (.lst [.non, .ref p, .ref l, .str "Face", .str own, .int 1, .ref e])) = H8 at sm8 hl8 he8 hL8
        refine ⟨_, rfl, b, 7, 0 + 5000 + 500, rfl, by decide, by decide, B7.same sm8, by decide, fun d H9 d0 d1 K9 B9 => ?_⟩
        have hL9 := K9 L _ nLb hL8
        obtain ⟨v, ev, _, hv⟩ := atI_in (xs := [V.non, .ref p, .ref l, .str "Face", .str own, .int 1, .ref e]) d0 d1
        refine ⟨L, _, _, v, rfl, rfl, SqL.of hL9, ev, ?_, (Kp.refl.same sm8).trans K9⟩
        have tk9 := K9.tk (B7.same sm8)
        simp only [List.mem_cons, List.not_mem_nil, or_false] at hv
        rcases hv with rfl | rfl | rfl | rfl | rfl | rfl | rfl
        · exact .non
        · exact .tup (tk9 _ _ (sm8 _ _ hp7))
        · exact .lst (K9 _ _ nlb hl8)
        · exact .str _
        · exact .str _
        · exact .int _
        · exact .tup (tk9 _ _ he8)
      rintro od H8 ⟨hod, K8⟩
      have S8 : Six K C H8 x1 x2 x3 p q od (dsOf own age c3 c4 c5) (dsOf z ie g3 g4 g5) := by
        refine ⟨((f1.same sm6).same sm7).kp K8 B7, (f2.same sm7).kp K8 B7, f3.kp K8 B7, hod, ⟨_, (K8.tk B7) _ _ hp7, TpAll.keep (K8.tk B7) _ _ tp7⟩, ⟨_, (K8.tk B7) _ _ (sm7 _ _ hq6), TpAll.keep ((Same.tk sm7).trans (K8.tk B7)) _ _ tq6⟩⟩
      have sm8 : Same H H8 := toS (K7.trans K8)
      generalize hds : dsOf own age c3 c4 c5 = ds at S8 shd hne
      generalize hes : dsOf z ie g3 g4 g5 = es at S8 she hne
      have refl1 : PyData.eqvAll ds ds = true := eqvAll_refl shd
      have ne2 : PyData.eqvAll es ds = false := by rw [eqvAll_swap]; exact hne
      clear tp7 hp7 B7 K7 hq6 tq6 f1 f2 f3 hx1 hx2 hx3 sm5 sm6 sm7 sm47
      have isF : ∀ {H' : Hp} {x : Addr} {d : List PyData}, FaceD K C H' x d → IsF C H' (.ref x) := fun h => h.isF
      -- equal faces
      refine ⟨fun v H9 => ∃ L, v = .ref L ∧ H9 L = some (.lst [.bl true, .bl true, .bl true]) ∧ Same H8 H9, ?_, ?_⟩
      · have a12 := ans_face S8.f1 S8.f2 shd shd
        have a21 := ans_face S8.f2 S8.f1 shd shd
        rw [refl1] at a12 a21
        refine ⟨_, rfl, _, rfl, true, .inl ⟨isF S8.f1, .inr (isF S8.f2), a12⟩, _, rfl, _, rfl, true, .inl ⟨isF S8.f2, .inr (isF S8.f1), a21⟩, _, rfl, _, rfl, (by show 1 ≤ sizeLine; decide), fun l hl => ?_⟩
        have T8 := S8.same (Same.new (o := .lst [.ref x2]) hl)
        have b21 := ans_face T8.f2 T8.f1 shd shd
        rw [refl1] at b21
        refine ⟨l, _, true, rfl, upd_same, isF T8.f1, fun e => n12 (by injection e with e; exact e.symm), .inl ⟨isF T8.f2, b21⟩, (by show 3 ≤ sizeLine; decide), fun L hL => ⟨L, rfl, upd_same, (Same.new hl).trans (Same.new hL)⟩⟩
      rintro v H9 ⟨L, rfl, hL9, sm9⟩
      have S9 := S8.same sm9
      refine ⟨fun v H10 => ∃ M, v = .ref M ∧ H10 M = some (.lst [.bl true, .bl true, .bl true, .bl true, .bl true]) ∧ Same H9 H10, ?_, ?_⟩
      · refine ⟨_, rfl, _, rfl, (by show 2 ≤ sizeLine; decide), fun t1 ht1 => ⟨_, rfl, (by show 2 ≤ sizeLine; decide), fun t2 ht2 => ?_⟩⟩
        have s1 : Same H9 (upd H9 t1 (.tup [.int 0, .ref x1])) := Same.new ht1
        have s2 : Same (upd H9 t1 (.tup [.int 0, .ref x1])) (upd (upd H9 t1 (.tup [.int 0, .ref x1])) t2 (.tup [.int 0, .ref x2])) := Same.new ht2
        have T9 := S9.same (s1.trans s2)
        have b12 := ans_face T9.f1 T9.f2 shd shd
        rw [refl1] at b12
        refine ⟨t1, t2, .ref x1, .ref x2, rfl, rfl, s2 _ _ upd_same, upd_same, fun e => n12 (by injection e), isF T9.f1, isF T9.f2, b12, _, rfl, _, rfl, true, isF T9.f1, .inr (isF T9.f2), b12, _, rfl, (by show 2 ≤ sizeLine; decide), fun L2 hL2 => ?_⟩
        refine ⟨L, L2, _, _, rfl, rfl, ((s1.trans s2).trans (Same.new hL2)) _ _ hL9, upd_same, (by show 3 + 2 ≤ sizeLine; decide), fun M hM => ⟨M, rfl, upd_same, ((s1.trans s2).trans (Same.new hL2)).trans (Same.new hM)⟩⟩
      rintro v H10 ⟨M, rfl, hM10, sm10⟩
      have S10 := S9.same sm10
      refine ⟨fun σ H11 => σ = [some (.ref a), some (.int (0 + i)), some (.ref b), some (.ref p), some (.ref q), some (.ref x1), some (.ref x2), some (.ref x3), some od, some (.ref M), a10, a11, a12] ∧ Same H10 H11, ?_, ?_⟩
      · refine ⟨_, rfl, (by show 1 ≤ sizeLine; decide), fun l hl => ⟨l, 5, _, rfl, rfl, upd_same, by decide, by decide, (by show 1 * 5 ≤ sizeLine; decide), fun l2 hl2 => ?_⟩⟩
        have s1 : Same H10 (upd H10 l (.lst [.bl true])) := Same.new hl
        have s2 : Same (upd H10 l (.lst [.bl true])) (upd (upd H10 l (.lst [.bl true])) l2 (.lst (List.replicate (5 : Int).toNat [V.bl true]).flatten)) := Same.new hl2
        refine ⟨.list [.bool true, .bool true, .bool true, .bool true, .bool true], .list [.bool true, .bool true, .bool true, .bool true, .bool true], .lst (SqL.of ((s1.trans s2) _ _ hM10)) (.cons (.bl _) (.cons (.bl _) (.cons (.bl _) (.cons (.bl _) (.cons (.bl _) .nil))))), .lst (SqL.of upd_same) (.cons (.bl _) (.cons (.bl _) (.cons (.bl _) (.cons (.bl _) (.cons (.bl _) .nil))))), rfl, rfl, _, rfl, iteF ?_⟩
        refine ⟨_, rfl, M, _, _, _, rfl, rfl, SqL.of ((s1.trans s2) _ _ hM10), rfl, _, _, .type "bool", .type "bool", true, rfl, .ty _, .base (.bl true), rfl, _, rfl, iteF ?_⟩
        exact ⟨rfl, s1.trans s2⟩
      rintro σ H11 ⟨rfl, sm11⟩
      have S11 := S10.same sm11
      -- unlike faces
      refine ⟨fun v H12 => ∃ L, v = .ref L ∧ H12 L = some (.lst [.bl false, .bl false, .bl false, .bl false]) ∧ Same H11 H12, ?_, ?_⟩
      · have a13 := ans_face S11.f1 S11.f3 shd she
        have a31 := ans_face S11.f3 S11.f1 she shd
        rw [hne] at a13
        rw [ne2] at a31
        refine ⟨_, rfl, _, rfl, false, .inl ⟨isF S11.f1, .inr (isF S11.f3), a13⟩, _, rfl, _, rfl, false, .inl ⟨isF S11.f3, .inr (isF S11.f1), a31⟩, _, rfl, _, rfl, (by show 1 ≤ sizeLine; decide), fun l hl => ?_⟩
        have T8 := S11.same (Same.new (o := .lst [.ref x3]) hl)
        have b31 := ans_face T8.f3 T8.f1 she shd
        have b32 := ans_face T8.f3 T8.f2 she shd
        rw [ne2] at b31 b32
        refine ⟨l, _, false, rfl, upd_same, isF T8.f1, fun e => n13 (by injection e with e; exact e.symm), .inl ⟨isF T8.f3, b31⟩, _, rfl, _, rfl, false, isF T8.f3, .inr (isF T8.f2), b32, _, rfl, (by show 4 ≤ sizeLine; decide), fun L hL => ⟨L, rfl, upd_same, (Same.new hl).trans (Same.new hL)⟩⟩
      rintro v H12 ⟨N, rfl, hN12, sm12⟩
      have S12 := S11.same sm12
      refine ⟨fun σ H13 => σ = [some (.ref a), some (.int (0 + i)), some (.ref b), some (.ref p), some (.ref q), some (.ref x1), some (.ref x2), some (.ref x3), some od, some (.ref N), a10, a11, a12] ∧ Same H12 H13, ?_, ?_⟩
      · refine ⟨_, rfl, (by show 1 ≤ sizeLine; decide), fun l hl => ⟨l, 4, _, rfl, rfl, upd_same, by decide, by decide, (by show 1 * 4 ≤ sizeLine; decide), fun l2 hl2 => ?_⟩⟩
        have s1 : Same H12 (upd H12 l (.lst [.bl false])) := Same.new hl
        have s2 : Same (upd H12 l (.lst [.bl false])) (upd (upd H12 l (.lst [.bl false])) l2 (.lst (List.replicate (4 : Int).toNat [V.bl false]).flatten)) := Same.new hl2
        refine ⟨.list [.bool false, .bool false, .bool false, .bool false], .list [.bool false, .bool false, .bool false, .bool false], .lst (SqL.of ((s1.trans s2) _ _ hN12)) (.cons (.bl _) (.cons (.bl _) (.cons (.bl _) (.cons (.bl _) .nil)))), .lst (SqL.of upd_same) (.cons (.bl _) (.cons (.bl _) (.cons (.bl _) (.cons (.bl _) .nil)))), rfl, rfl, _, rfl, iteF ?_⟩
        exact ⟨rfl, s1.trans s2⟩
      rintro σ H13 ⟨rfl, sm13⟩
      have S13 := S12.same sm13
      -- what is no face
      refine ⟨fun σ H14 => σ = [some (.ref a), some (.int (0 + i)), some (.ref b), some (.ref p), some (.ref q), some (.ref x1), some (.ref x2), some (.ref x3), some od, some (.ref N), a10, a11, a12] ∧ Same H13 H14, ?_, ?_⟩
      · refine ⟨_, rfl, _, rfl, false, .inl ⟨isF S13.f1, .inl S13.od, ans_odd S13.od⟩, _, rfl, iteF ?_⟩
        refine ⟨_, rfl, _, rfl, false, .inr ⟨S13.od, isF S13.f1, ans_odd S13.od⟩, _, rfl, iteF ?_⟩
        exact ⟨rfl, Same.refl _⟩
      rintro σ H14 ⟨rfl, sm14⟩
      have S14 := S13.same sm14
      refine ⟨fun σ H15 => σ = [some (.ref a), some (.int (0 + i)), some (.ref b), some (.ref p), some (.ref q), some (.ref x1), some (.ref x2), some (.ref x3), some od, some (.ref N), a10, a11, a12] ∧ Same H14 H15, ?_, ?_⟩
      · refine ⟨_, rfl, _, rfl, false, isF S14.f1, .inl S14.od, ans_odd S14.od, _, rfl, iteF ?_⟩
        refine ⟨_, rfl, _, rfl, (by show 1 ≤ sizeLine; decide), fun l hl => ?_⟩
        have T14 := S14.same (Same.new (o := .lst [od]) hl)
        refine ⟨l, _, false, rfl, upd_same, isF T14.f1, ne_odd T14.f1 T14.od, .inr ⟨T14.od, ans_odd T14.od⟩, _, rfl, iteF ?_⟩
        exact ⟨rfl, Same.new hl⟩
      rintro σ H15 ⟨rfl, sm15⟩
      have S15 := S14.same sm15
      -- each face's fields and text
      refine ⟨_, rfl, _, rfl, (by show 2 ≤ sizeLine; decide), fun t1 ht1 => ⟨_, rfl, _, rfl, (by show 2 ≤ sizeLine; decide), fun t2 ht2 => ⟨_, rfl, _, rfl, (by show 2 ≤ sizeLine; decide), fun t3 ht3 => ⟨(by show 3 ≤ sizeLine; decide), fun W hW => ⟨W, rfl, ⟨_, SqL.of upd_same⟩, ?_⟩⟩⟩⟩⟩
      have s1 : Same H15 (upd H15 t1 (.tup [.ref x1, .ref p])) := Same.new ht1
      have s2 : Same (upd H15 t1 (.tup [.ref x1, .ref p])) (upd (upd H15 t1 (.tup [.ref x1, .ref p])) t2 (.tup [.ref x2, .ref p])) := Same.new ht2
      have s3 : Same (upd (upd H15 t1 (.tup [.ref x1, .ref p])) t2 (.tup [.ref x2, .ref p])) (upd (upd (upd H15 t1 (.tup [.ref x1, .ref p])) t2 (.tup [.ref x2, .ref p])) t3 (.tup [.ref x3, .ref q])) := Same.new ht3
      have s4 : Same (upd (upd (upd H15 t1 (.tup [.ref x1, .ref p])) t2 (.tup [.ref x2, .ref p])) t3 (.tup [.ref x3, .ref q])) (upd (upd (upd (upd H15 t1 (.tup [.ref x1, .ref p])) t2 (.tup [.ref x2, .ref p])) t3 (.tup [.ref x3, .ref q])) W (.lst [.ref t1, .ref t2, .ref t3])) := Same.new hW
      have h1 := (s2.trans (s3.trans s4)) t1 _ upd_same
      have h2 := (s3.trans s4) t2 _ upd_same
      have h3 := s4 t3 _ upd_same
      have hW16 : (upd (upd (upd (upd H15 t1 (.tup [.ref x1, .ref p])) t2 (.tup [.ref x2, .ref p])) t3 (.tup [.ref x3, .ref q])) W (.lst [.ref t1, .ref t2, .ref t3])) W = some (.lst [.ref t1, .ref t2, .ref t3]) := upd_same
      have S16 := S15.same (s1.trans (s2.trans (s3.trans s4)))
      have sm16 : Same H (upd (upd (upd (upd H15 t1 (.tup [.ref x1, .ref p])) t2 (.tup [.ref x2, .ref p])) t3 (.tup [.ref x3, .ref q])) W (.lst [.ref t1, .ref t2, .ref t3])) := (((((((sm8.trans sm9).trans sm10).trans sm11).trans sm12).trans sm13).trans sm14).trans sm15).trans (s1.trans (s2.trans (s3.trans s4)))
      generalize (upd (upd (upd (upd H15 t1 (.tup [.ref x1, .ref p])) t2 (.tup [.ref x2, .ref p])) t3 (.tup [.ref x3, .ref q])) W (.lst [.ref t1, .ref t2, .ref t3])) = H16 at h1 h2 h3 hW16 S16 sm16
      refine for_list (K := K) (a := W) (xs := [.ref t1, .ref t2, .ref t3]) (fun j σ H17 => (∃ a10 a11 a12, σ = [some (.ref a), some (.int (0 + i)), some (.ref b), some (.ref p), some (.ref q), some (.ref x1), some (.ref x2), some (.ref x3), some od, some (.ref N), a10, a11, a12]) ∧ Same H16 H17) ?_ ?_ ?_ ?_
      · exact ⟨⟨_, _, _, rfl⟩, Same.refl _⟩
      · rintro j σ H17 _ ⟨_, sm17⟩
        exact SqL.of (sm17 _ _ hW16)
      · rintro j x σ H17 hx ⟨⟨b10, b11, b12, rfl⟩, sm17⟩
        have S17 := S16.same sm17
        obtain ⟨t, xf, pf, zf, nf, k3, k4, k5, wf, rfl, ht, fF, hpf, tpf, shf, hzf, nf0, nf1⟩ : ∃ (t xf pf : Addr) (zf : Str) (nf : Int) (k3 k4 k5 : List PyData) (wf : List V), x = .ref t ∧ H17 t = some (.tup [.ref xf, .ref pf]) ∧ FaceD K C H17 xf (dsOf zf nf k3 k4 k5) ∧ H17 pf = some (.tup wf) ∧ TpAll H17 wf (dsOf zf nf k3 k4 k5) ∧ ShL (dsOf zf nf k3 k4 k5) ∧ zf.length ≤ 8 ∧ 1 ≤ nf ∧ nf ≤ 99 := by
          obtain ⟨wp, hwp, twp⟩ := S17.pp
          obtain ⟨wq, hwq, twq⟩ := S17.qq
          have f1' := S17.f1
          have f2' := S17.f2
          have f3' := S17.f3
          rw [← hds] at f1' f2' twp
          rw [← hes] at f3' twq
          have shd' : ShL (dsOf own age c3 c4 c5) := by rw [hds]; exact shd
          have she' : ShL (dsOf z ie g3 g4 g5) := by rw [hes]; exact she
          match j, hx with
          | 0, hx =>
            cases hx
            exact ⟨t1, x1, p, own, age, c3, c4, c5, wp, rfl, sm17 _ _ h1, f1', hwp, twp, shd', po.own.hi, po.age.1, po.age.2⟩
          | 1, hx =>
            cases hx
            exact ⟨t2, x2, p, own, age, c3, c4, c5, wp, rfl, sm17 _ _ h2, f2', hwp, twp, shd', po.own.hi, po.age.1, po.age.2⟩
          | 2, hx =>
            cases hx
            exact ⟨t3, x3, q, z, ie, g3, g4, g5, wq, rfl, sm17 _ _ h3, f3', hwq, twq, she', hz, i0, i1⟩
        obtain ⟨u3, u4, u5, rfl⟩ : ∃ u3 u4 u5, wf = [.str zf, .int nf, u3, u4, u5] := by
          cases tpf with
          | cons t q => cases q with
            | cons t' q => cases q with
              | cons _ q => cases q with
                | cons _ q => cases q with
                  | cons _ q =>
                    cases q
                    rw [t.istr, t'.iint]
                    exact ⟨_, _, _, rfl⟩
        refine ⟨t, _, rfl, SqT.of ht, rfl, _, _, rfl, _, _, rfl, rfl, ?_⟩
        have hT := txt99 nf0 nf1
        have hlog : nf.natAbs.log2 < 1920 := by
          have h1 : nf.natAbs < 2 ^ 7 := by omega
          have h2 : nf.natAbs.log2 < 7 := (Nat.log2_lt (by omega)).mpr h1
          omega
        have big : ∀ {n : Nat}, n ≤ 30 → n ≤ sizeLine := fun h => Nat.le_trans h (by decide)
        have l1 : ("Face(" : Str).length = 5 := by decide +kernel
        have l2 : (" " : Str).length = 1 := by decide +kernel
        have l3 : (")" : Str).length = 1 := by decide +kernel
        refine ⟨_, rfl, pf, _, _, _, rfl, rfl, SqT.of hpf, rfl, _, _, rfl, rfl, big (by omega), _, _, rfl, rfl, big (by rw [app_len]; omega), _, rfl, pf, _, _, _, rfl, rfl, SqT.of hpf, rfl, _, rfl, hlog, _, _, rfl, rfl, big (by rw [app_len, app_len]; omega), _, _, rfl, rfl, big (by rw [app_len, app_len, app_len]; omega), ?_⟩
        refine ⟨_, rfl, _, rfl, xf, pf, _, zf, nf, k3, k4, k5, rfl, fF, hpf, tpf, shf, fun H18 sm18 => ?_⟩
        have fF18 := fF.same sm18
        have ans : ∀ {H' : Hp}, FaceD K C H' xf (dsOf zf nf k3 k4 k5) → spReprF K C [.ref xf] H' (fun v H'' => v = .str (faceText zf nf) ∧ H'' = H') E0 := fun fd => ⟨xf, zf, nf, _, rfl, fd, hzf, nf0, nf1, rfl, rfl⟩
        refine ⟨_, rfl, iteF ?_⟩
        refine ⟨_, rfl, _, faceText zf nf, rfl, fF18.isF, big (by have := face_len hzf nf0 nf1; omega), ans fF18, _, rfl, rfl, _, rfl, ?_⟩
        have same : (!decide (V.str (faceText zf nf) = V.str (faceText zf nf))) = false := by rw [decide_eq_true rfl]; rfl
        refine iteN same ?_
        refine ⟨_, rfl, _, faceText zf nf, rfl, fF18.isF, big (by have := face_len hzf nf0 nf1; omega), ans fF18, _, rfl, rfl, _, rfl, ?_⟩
        refine iteN same ?_
        exact ⟨⟨_, _, _, rfl⟩, sm17.trans sm18⟩
      · rintro σ H17 ⟨⟨b10, b11, b12, rfl⟩, sm17⟩
        exact ⟨⟨_, _, _, _, _, _, _, _, _, _, _, _, rfl⟩, sm16.trans sm17⟩
    · rintro σ H1 ⟨_, _⟩
      exact k H1
end
end Fh
set_option maxHeartbeats 0
namespace Fh
open PySem PySem.Spec PyProof.Rows L2
/-- where a keyword-only default of Face's making stands -/
def kwAt (x : Str) (K : PySem.W.Frag) : Addr := match K.lookup (He.fAd K ("Face", some "__init__")) with
  | some ⟨_, _, .func fd, _⟩ => (match fd.kwdefaults with
    | .ref D => (match PySem.W.nsIn K D x with
      | some (some (.ref a)) => a
      | _ => 0)
    | _ => 0)
  | _ => 0
def nilB (K : PySem.W.Frag) (a : Addr) : Bool := match K.lookup a with
  | some ⟨.type c, _, .seq its _, _⟩ => decide (c = "tuple") && decide (its.size = 0)
  | _ => false
theorem nilB_ok {K : PySem.W.Frag} {a : Addr} (h : nilB K a = true) : WrT K a := by
  unfold nilB at h
  cases q : K.lookup a with
  | none => rw [q] at h; cases h
  | some o =>
    obtain ⟨oc, od, dt, osl⟩ := o
    rw [q] at h
    cases oc with
    | type c =>
      cases dt with
      | seq its n =>
        obtain ⟨h1, h2⟩ := He.ba (show (decide (c = "tuple") && decide (its.size = 0)) = true from h)
        have e1 : c = "tuple" := of_decide_eq_true h1
        have e2 : its.size = 0 := of_decide_eq_true h2
        subst e1
        refine ⟨_, q, rfl, fun H => .inr ⟨_, its, n, q, rfl, rfl, by rw [e2]; exact Nat.zero_le _, ?_⟩⟩
        rw [Array.eq_empty_of_size_eq_zero e2]
        exact .nil
      | _ => cases h
    | _ => cases dt <;> cases h
def fdef (x : Str) (s : Stmt) : He.DefD := ⟨(x, none), x, x, defArgs s, defBody s, defScope s, [], []⟩
def dInit : He.DefD := ⟨("Face", some "__init__"), "__init__", "Face.__init__", defArgs sInit, defBody sInit, defScope sInit, [], [("choices", .adr (kwAt "choices")), ("records", .adr (kwAt "records")), ("calls", .adr (kwAt "calls"))]⟩
def dEq : He.DefD := ⟨("Face", some "__eq__"), "__eq__", "Face.__eq__", defArgs sEq, defBody sEq, defScope sEq, [], []⟩
def dRepr : He.DefD := ⟨("Face", some "__repr__"), "__repr__", "Face.__repr__", defArgs sRepr, defBody sRepr, defScope sRepr, [], []⟩
def fn : List He.DefD := [dInit, dEq, dRepr, fdef "_law_bag" sBag, fdef "_law_take" sTake, fdef "_law_drawn_name" sName, fdef "_law_unlike_names" sUnlikeN, fdef "_law_rising" sRising, fdef "_law_pick" sPick, fdef "_law_kind_drawn" sKind, fdef "_law_form_drawn" sForm, fdef "_law_unlike" sUnlike,
  fdef "_law_deed_drawn" sDeed, fdef "_law_acts_drawn" sActs, fdef "_law_all_drawn" sAll, fdef "_law_made_face" sFace, fdef "_law_made_anew" sAnew, fdef "_law_bent_once" sBent, fdef "_law_near" sNear, fdef "_law_one_more" sMore, fdef "_law_fields_right" sRight, fdef "law" sLaw]
def fa : List He.Fa := [.glo "Face", .glo "_law_bag", .glo "_law_take", .glo "_law_drawn_name", .glo "_law_unlike_names", .glo "_law_rising", .glo "_law_pick", .glo "_law_kind_drawn", .glo "_law_form_drawn", .glo "_law_unlike", .glo "_law_deed_drawn", .glo "_law_acts_drawn", .glo "_law_all_drawn", .glo "_law_made_face", .glo "_law_made_anew", .glo "_law_bent_once",
  .glo "_law_near", .glo "_law_one_more", .glo "_law_fields_right", .glo "law", .free "len", .free "abs", .free "int", .free "range", .free "list", .free "min", .free "max", .free "tuple", .free "zip", .free "sorted", .free "dict", .free "isinstance", .free "bool", .free "str", .free "repr",
  .cls "Face", .noat "Face" "name", .noat "Face" "edition", .noat "Face" "choices", .noat "Face" "records", .noat "Face" "calls", .mkr "Face", .meth "Face" "__eq__", .meth "Face" "__repr__", .meth "Face" "__init__"]
abbrev fC (K : PySem.W.Frag) : Addr := He.ga K "Face"
def tys : List String := ["NoneType", "tuple", "list", "str", "int"]
def ex (K : PySem.W.Frag) : Bool := nilB K (kwAt "choices" K) && (nilB K (kwAt "records" K) && (nilB K (kwAt "calls" K) &&
  (decide (PySem.W.findIn K (.ref (fC K)) "__class__" = some (some (.builtin "object.__class__"))) && (decide (PySem.W.specialIn K (.builtin "object.__class__") "__get__" = some (some (.builtin "getset_descriptor.__get__"))) && (decide (PySem.W.takesIn K (.builtin "object.__class__") = some true) &&
  (decide (PySem.W.mroIn K (fC K) (.type "object") = some true) && (decide (PySem.W.kitOne K (.ref (fC K)) (.ref (fC K)) = some true) && (decide (PySem.W.findIn K (.ref (fC K)) "__ne__" = some (some (.builtin "object.__ne__"))) &&
  ((tys.all fun T => decide (PySem.W.kitOne K (.type T) (.ref (fC K)) = some false)) && ((tys.all fun T => decide (PySem.W.subIn K (.ref (fC K)) (.type T) = some false)) && (tys.all fun T => decide (PySem.W.subIn K (.type T) (.ref (fC K)) = some false))))))))))))
abbrev R : PySem.W.OpenRow := PySem.W.OpenLaw.row PySem.Challenge.rw_facehouse_k01_faces_made_and_equal
abbrev hk : PySem.W.Hook := He.hookX 6 fa fn [] [] ex
def ob (s : PySem.W.SharedT) : He.AlX := He.obsX 6 fa fn [] [] ex (HandSHeadRun.getT s)
theorem ob_eq (s : PySem.W.SharedT) : ob s = hk.obs s.abs := He.obsX_eq (HandSHeadRun.getT_eq s)
def loose : List Str := ["_wall", "__name__", "Face", "_law_bag", "_law_take", "_law_drawn_name", "_law_unlike_names", "_law_rising", "_law_pick", "_law_kind_drawn", "_law_form_drawn", "_law_unlike", "_law_deed_drawn", "_law_acts_drawn", "_law_all_drawn", "_law_made_face", "_law_made_anew", "_law_bent_once", "_law_near", "_law_one_more", "_law_fields_right"]
theorem run (w : World) : HandSHeadRun.RunEq R (PySem.W.view R.prog [22]) hk ob 6000 loose w := by
  intro os
  kernel_rfl
end Fh
set_option maxHeartbeats 0
namespace Fh
open PySem PySem.Spec PyProof.Rows L2
theorem toFun {K : PySem.W.Frag} {x q : Str} {st : Stmt} {f : Addr} {fd : FuncData} (F : FunD K x q (defArgs st) (defBody st) (defScope st) [] [] f fd) : Fun K x q st f fd := by
  obtain ⟨oc, od, dV, kV, doc, pm, an, cdv, ct, osl, e, lk, hcd, hD, _⟩ := F.ex
  rcases hD with ⟨_, rfl⟩ | ⟨e, _⟩
  · exact ⟨⟨oc, od, kV, doc, pm, an, cdv, ct, osl, e, lk, hcd⟩, F.kp⟩
  · exact absurd rfl e
theorem facts {P : Program} {w : World} {K : PySem.W.Frag} {h : Heap} {mg : Str → Option Value} {f : Addr} (X : K.In h) (G : h.Ns mainGlobals mg) (hfa : mg ("law" : Str) = some (.ref f)) (c : He.SaysX fa fn [] [] ex w h K) :
    ∃ fd : FuncData, (∀ (s : Shared) (v : Value), BindsTo s fd ⟨[v], []⟩ [("_law_script", v)]) ∧ ∀ base : Heap, K.In base → base.Ns mainGlobals mg → FnOk P w K mg base CX0 7 f fd ["_law_script"] (spLaw K) := by
  have d := c.t.d
  obtain ⟨w1, e⟩ := He.ba c.more
  obtain ⟨w2, e⟩ := He.ba e
  obtain ⟨w3, e⟩ := He.ba e
  obtain ⟨x1, e⟩ := He.ba e
  obtain ⟨x2, e⟩ := He.ba e
  obtain ⟨x3, e⟩ := He.ba e
  obtain ⟨x4, e⟩ := He.ba e
  obtain ⟨x5, e⟩ := He.ba e
  obtain ⟨x6, e⟩ := He.ba e
  obtain ⟨x7, e⟩ := He.ba e
  obtain ⟨x8, x9⟩ := He.ba e
  have gl : ∀ (i : Nat) {x : Str}, fa[i]? = some (.glo x) → mg x = some (.ref (He.ga K x)) := fun i x hi => He.glo_ok X G (d.fact i hi)
  have fr : ∀ (i : Nat) {x : Str}, fa[i]? = some (.free x) → mg x = none := fun i x hi => He.free_ok X G (d.fact i hi)
  have na : ∀ (i : Nat) {x y : Str}, fa[i]? = some (.noat x y) → NoAttr K (He.ga K x) y := fun i x y hi => He.noat_ok (d.fact i hi)
  have GG : Glb mg := ⟨fr 20 rfl, fr 21 rfl, fr 22 rfl, fr 23 rfl, fr 24 rfl, fr 25 rfl, fr 26 rfl, fr 27 rfl, fr 28 rfl, fr 29 rfl, fr 30 rfl⟩
  have G2 : Glb2 mg := ⟨fr 32 rfl, fr 33 rfl, fr 34 rfl⟩
  have cl : Cls K (fC K) := He.cls_ok (d.fact 35 (f := .cls "Face") rfl)
  have mk : Mk K (fC K) (He.ma K (fC K) "__init__") := He.mkr_ok (d.fact 41 (f := .mkr "Face") rfl)
  have mE : Meth K (fC K) "__eq__" (He.ma K (fC K) "__eq__") := He.meth_ok (d.fact 42 (f := .meth "Face" "__eq__") rfl)
  have mR : Meth K (fC K) "__repr__" (He.ma K (fC K) "__repr__") := He.meth_ok (d.fact 43 (f := .meth "Face" "__repr__") rfl)
  have ins : C8.InsC K (fC K) := ⟨cl, of_decide_eq_true x1, of_decide_eq_true x2, of_decide_eq_true x3, of_decide_eq_true x4, of_decide_eq_true x5⟩
  have T : ClsF K mg (fC K) := ⟨cl, na 36 rfl, na 37 rfl, na 38 rfl, na 39 rfl, na 40 rfl, gl 0 rfl, fr 31 rfl, of_decide_eq_true x5, ins, fun t ht => of_decide_eq_true (List.all_eq_true.mp x7 t ht)⟩
  have own : OwnC K (fC K) (He.ma K (fC K) "__eq__") := ⟨mE.at_, mE.fn, of_decide_eq_true x6, of_decide_eq_true x4, fun t ht => ⟨of_decide_eq_true (List.all_eq_true.mp x8 t ht), of_decide_eq_true (List.all_eq_true.mp x9 t ht)⟩⟩
  obtain ⟨fd0, D0⟩ := d.def_ 0 (d := dInit) rfl
  obtain ⟨fd1, D1⟩ := d.def_ 1 (d := dEq) rfl
  obtain ⟨fd2, D2⟩ := d.def_ 2 (d := dRepr) rfl
  obtain ⟨fd3, D3⟩ := d.def_ 3 (d := fdef "_law_bag" sBag) rfl
  obtain ⟨fd4, D4⟩ := d.def_ 4 (d := fdef "_law_take" sTake) rfl
  obtain ⟨fd5, D5⟩ := d.def_ 5 (d := fdef "_law_drawn_name" sName) rfl
  obtain ⟨fd6, D6⟩ := d.def_ 6 (d := fdef "_law_unlike_names" sUnlikeN) rfl
  obtain ⟨fd7, D7⟩ := d.def_ 7 (d := fdef "_law_rising" sRising) rfl
  obtain ⟨fd8, D8⟩ := d.def_ 8 (d := fdef "_law_pick" sPick) rfl
  obtain ⟨fd9, D9⟩ := d.def_ 9 (d := fdef "_law_kind_drawn" sKind) rfl
  obtain ⟨fd10, D10⟩ := d.def_ 10 (d := fdef "_law_form_drawn" sForm) rfl
  obtain ⟨fd11, D11⟩ := d.def_ 11 (d := fdef "_law_unlike" sUnlike) rfl
  obtain ⟨fd12, D12⟩ := d.def_ 12 (d := fdef "_law_deed_drawn" sDeed) rfl
  obtain ⟨fd13, D13⟩ := d.def_ 13 (d := fdef "_law_acts_drawn" sActs) rfl
  obtain ⟨fd14, D14⟩ := d.def_ 14 (d := fdef "_law_all_drawn" sAll) rfl
  obtain ⟨fd15, D15⟩ := d.def_ 15 (d := fdef "_law_made_face" sFace) rfl
  obtain ⟨fd16, D16⟩ := d.def_ 16 (d := fdef "_law_made_anew" sAnew) rfl
  obtain ⟨fd17, D17⟩ := d.def_ 17 (d := fdef "_law_bent_once" sBent) rfl
  obtain ⟨fd18, D18⟩ := d.def_ 18 (d := fdef "_law_near" sNear) rfl
  obtain ⟨fd19, D19⟩ := d.def_ 19 (d := fdef "_law_one_more" sMore) rfl
  obtain ⟨fd20, D20⟩ := d.def_ 20 (d := fdef "_law_fields_right" sRight) rfl
  obtain ⟨fd21, D21⟩ := d.def_ 21 (d := fdef "law" sLaw) rfl
  have e2 := hfa.symm.trans (gl 19 (x := "law") rfl)
  cases e2
  have b21 := FunD.bindsA (ps := ["_law_script"]) D21 fun _ _ _ _ _ _ us hl => match us, hl with | [_], _ => rfl
  refine ⟨fd21, fun s v => b21 s [v] rfl, fun base _ _ => ?_⟩
  have DI : DInit K (kwAt "choices" K) (kwAt "records" K) (kwAt "calls" K) (He.ma K (fC K) "__init__") fd0 := D0
  have M : MkF P w K mg base (fC K) := ⟨⟨_, fd0, _, _, _, mk, ok_init DI T, nilB_ok w1, nilB_ok w2, nilB_ok w3, DI⟩, gl 0 rfl⟩
  have EQ : FEq P w K mg base (fC K) 1 (spEqF K (fC K)) := ⟨⟨_, fd1, ["self", "other"], ok_eq (toFun (x := "__eq__") (q := "Face.__eq__") (st := sEq) D1) T, FunD.bindsN (ps := ["self", "other"]) D1 (fun _ _ _ _ _ _ us hl => match us, hl with | [_, _], _ => rfl), own⟩, ins⟩
  have ER : FRepr P w K mg base (fC K) 1 (spReprF K (fC K)) := ⟨⟨_, fd2, ["self"], ok_repr (toFun (x := "__repr__") (q := "Face.__repr__") (st := sRepr) D2) T, FunD.bindsN (ps := ["self"]) D2 (fun _ _ _ _ _ _ us hl => match us, hl with | [_], _ => rfl), mR.at_, mR.fn⟩⟩
  have HB : Has P w K mg base "_law_bag" 1 ["_law_script", "_law_at"] (spBag K) := ⟨⟨_, fd3, gl 1 rfl, D3.kp, FunD.bindsN D3 (fun _ _ _ _ _ _ us hl => match us, hl with | [_, _], _ => rfl), ok_bag (toFun (x := "_law_bag") (q := "_law_bag") (st := sBag) D3) GG⟩⟩
  have HT : Has P w K mg base "_law_take" 1 pTake spTake := ⟨⟨_, fd4, gl 2 rfl, D4.kp, FunD.bindsN D4 (fun _ _ _ _ _ _ us hl => match us, hl with | [_, _], _ => rfl), ok_take (toFun (x := "_law_take") (q := "_law_take") (st := sTake) D4)⟩⟩
  have HN : Has P w K mg base "_law_drawn_name" 2 ["_law_bag_here"] spName := ⟨⟨_, fd5, gl 3 rfl, D5.kp, FunD.bindsN D5 (fun _ _ _ _ _ _ us hl => match us, hl with | [_], _ => rfl), ok_name (toFun (x := "_law_drawn_name") (q := "_law_drawn_name") (st := sName) D5) GG HT⟩⟩
  have HUN : Has P w K mg base "_law_unlike_names" 3 pUnlikeN spUnlikeN := ⟨⟨_, fd6, gl 4 rfl, D6.kp, FunD.bindsN D6 (fun _ _ _ _ _ _ us hl => match us, hl with | [_, _, _], _ => rfl), ok_unlikeN (toFun (x := "_law_unlike_names") (q := "_law_unlike_names") (st := sUnlikeN) D6) GG HN⟩⟩
  have HR : Has P w K mg base "_law_rising" 2 pRising spRising := ⟨⟨_, fd7, gl 5 rfl, D7.kp, FunD.bindsN D7 (fun _ _ _ _ _ _ us hl => match us, hl with | [_, _, _], _ => rfl), ok_rising (toFun (x := "_law_rising") (q := "_law_rising") (st := sRising) D7) GG HT⟩⟩
  have HP : Has P w K mg base "_law_pick" 2 pPick spPick := ⟨⟨_, fd8, gl 6 rfl, D8.kp, FunD.bindsN D8 (fun _ _ _ _ _ _ us hl => match us, hl with | [_, _, _], _ => rfl), ok_pick (toFun (x := "_law_pick") (q := "_law_pick") (st := sPick) D8) GG HT⟩⟩
  have HK : Has P w K mg base "_law_kind_drawn" 3 pForm spKind := ⟨⟨_, fd9, gl 7 rfl, D9.kp, FunD.bindsN D9 (fun _ _ _ _ _ _ us hl => match us, hl with | [_, _, _], _ => rfl), ok_kind (toFun (x := "_law_kind_drawn") (q := "_law_kind_drawn") (st := sKind) D9) GG HT HP⟩⟩
  have HU : Has P w K mg base "_law_unlike" 4 pTake spUnlike := ⟨⟨_, fd11, gl 9 rfl, D11.kp, FunD.bindsN D11 (fun _ _ _ _ _ _ us hl => match us, hl with | [_, _], _ => rfl), ok_unlike (toFun (x := "_law_unlike") (q := "_law_unlike") (st := sUnlike) D11) GG HT HUN⟩⟩
  have HF : Has P w K mg base "_law_form_drawn" 5 pForm spForm := ⟨⟨_, fd10, gl 8 rfl, D10.kp, FunD.bindsN D10 (fun _ _ _ _ _ _ us hl => match us, hl with | [_, _, _], _ => rfl), ok_form (toFun (x := "_law_form_drawn") (q := "_law_form_drawn") (st := sForm) D10) GG HT HR HU HK⟩⟩
  have HD : Has P w K mg base "_law_deed_drawn" 3 pDeed spDeed := ⟨⟨_, fd12, gl 10 rfl, D12.kp, FunD.bindsN D12 (fun _ _ _ _ _ _ us hl => match us, hl with | [_, _, _, _], _ => rfl), ok_deed (toFun (x := "_law_deed_drawn") (q := "_law_deed_drawn") (st := sDeed) D12) GG HT HP HN⟩⟩
  have HA : Has P w K mg base "_law_acts_drawn" 5 pActs spActs := ⟨⟨_, fd13, gl 11 rfl, D13.kp, FunD.bindsN D13 (fun _ _ _ _ _ _ us hl => match us, hl with | [_, _, _], _ => rfl), ok_acts (toFun (x := "_law_acts_drawn") (q := "_law_acts_drawn") (st := sActs) D13) GG HT HP HR HU HD⟩⟩
  have HAll : Has P w K mg base "_law_all_drawn" 6 ["_law_bag_here"] spAll := ⟨⟨_, fd14, gl 12 rfl, D14.kp, FunD.bindsN D14 (fun _ _ _ _ _ _ us hl => match us, hl with | [_], _ => rfl), ok_all (toFun (x := "_law_all_drawn") (q := "_law_all_drawn") (st := sAll) D14) GG HT HN HUN HR HU HF HA⟩⟩
  have HFc : Has P w K mg base "_law_made_face" 3 ["_law_parts"] (spMk K (fC K)) := ⟨⟨_, fd15, gl 13 rfl, D15.kp, FunD.bindsN D15 (fun _ _ _ _ _ _ us hl => match us, hl with | [_], _ => rfl), ok_face (toFun (x := "_law_made_face") (q := "_law_made_face") (st := sFace) D15) M⟩⟩
  have HAn : Has P w K mg base "_law_made_anew" 3 ["_law_parts"] (spAnew K (fC K)) := ⟨⟨_, fd16, gl 14 rfl, D16.kp, FunD.bindsN D16 (fun _ _ _ _ _ _ us hl => match us, hl with | [_], _ => rfl), ok_anew (toFun (x := "_law_made_anew") (q := "_law_made_anew") (st := sAnew) D16) M⟩⟩
  have HM : Has P w K mg base "_law_one_more" 1 ["_law_one"] spMore := ⟨⟨_, fd19, gl 17 rfl, D19.kp, FunD.bindsN D19 (fun _ _ _ _ _ _ us hl => match us, hl with | [_], _ => rfl), ok_more (toFun (x := "_law_one_more") (q := "_law_one_more") (st := sMore) D19) GG⟩⟩
  have HNr : Has P w K mg base "_law_near" 2 ["_law_rows", "_law_spot", "_law_one"] spNear := ⟨⟨_, fd18, gl 16 rfl, D18.kp, FunD.bindsN D18 (fun _ _ _ _ _ _ us hl => match us, hl with | [_, _, _], _ => rfl), ok_near (toFun (x := "_law_near") (q := "_law_near") (st := sNear) D18) GG HM⟩⟩
  have HBe : Has P w K mg base "_law_bent_once" 4 pBent spBent := ⟨⟨_, fd17, gl 15 rfl, D17.kp, FunD.bindsN D17 (fun _ _ _ _ _ _ us hl => match us, hl with | [_, _], _ => rfl), ok_bent (toFun (x := "_law_bent_once") (q := "_law_bent_once") (st := sBent) D17) GG HT HUN HNr⟩⟩
  have HRt : Has P w K mg base "_law_fields_right" 1 ["_law_one", "_law_parts"] (spRight K (fC K)) := ⟨⟨_, fd20, gl 18 rfl, D20.kp, FunD.bindsN D20 (fun _ _ _ _ _ _ us hl => match us, hl with | [_, _], _ => rfl), ok_right (toFun (x := "_law_fields_right") (q := "_law_fields_right") (st := sRight) D20) T GG G2.bool⟩⟩
  exact ok_law (toFun (x := "law") (q := "law") (st := sLaw) D21) GG G2 T EQ ER HB HT HAll HBe HFc HAn HRt
end Fh
open PySem PySem.W PySem.Calls PyProof.Rows
theorem PySem.Challenge.cw_facehouse_k01_faces_made_and_equal_holds : PySem.Challenge.rw_facehouse_k01_faces_made_and_equal.Holds := by
  w_on; o_law
  refine HandSHeadRun.head_any (r := Fh.R) (q := view Fh.R.prog [22]) (H := Fh.hk) (ob := Fh.ob) (M := 6000) (loose := Fh.loose) (d := HandSHeadRun.topDef Fh.R.prog 22) (kwd := []) Fh.ob_eq
    (by kernel_rfl) (fun s => by kernel_rfl) Fh.run (by kernel_rfl) (by kernel_rfl) (by kernel_rfl) (by rfl) (by first | assumption | decide +kernel) (by decide +kernel) ⟨rfl, rfl, rfl, rfl, rfl, by decide +kernel⟩ ?hw ?hc
  case hw => w_witness2
  case hc =>
    refine L2.walk_ofE (l := PySem.Challenge.rw_facehouse_k01_faces_made_and_equal) (n := 63) (k := 7) (x := "_law_script") (CX := L2.CX0) rfl (by decide) (by kernel_rfl) ⟨rfl, by decide, by decide⟩ ?F (fun _ _ _ _ z => z)
    intro w mg fa h Y G hmg0
    obtain ⟨K, KX, c⟩ := Y
    have hmg : mg ("law" : PySem.Str) = some (.ref fa) := by
      have e : (HandSHeadRun.topDef Fh.R.prog 22).name = ("law" : PySem.Str) := by kernel_rfl
      rw [← e]
      exact hmg0
    obtain ⟨fd, hb, hF⟩ := Fh.facts (P := (PySem.Challenge.rw_facehouse_k01_faces_made_and_equal).prog) (w := w) KX G hmg c
    exact ⟨K, fd, Fh.spLaw K, KX, hb, fun H a ns hl _ hS => ⟨a, ns, rfl, hS, fun _ => rfl⟩, hF⟩
