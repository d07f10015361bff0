import PyProof.Rows.All
import Wide.All
import OpenK.AllK
import Wide.FinOn
import HandS.ForMost
import HandS.TupAny
import HandS.Zip
import HandS.Flow
import HandS.Wide
import HandS.IsInst
import HandS.FStr
import HandS.OwnEq
import HandS.MakeKwOnly
import HandS.Codes
import HandS.Walk
import HandS.DictComp
import HandS.Style
import HandS.More
import PySem.Challenge.RW_facehouse_k42_faults
import KE.GoesMore
import HandS.DeepEq
import HandS.HeadHook1
import HandS.HeadHook2
import HandS.HeadHook3
import HandS.HeadHook4
import HandS.Head0
import HandS.Head1
import HandS.Head2
import HandS.HeadEnd
set_option Elab.async false
set_option linter.all false
set_option maxRecDepth 100000
set_option maxHeartbeats 4000000
namespace Fh
open PySem L2 PyProof.Rows

/-! ### rules of our own -/
theorem bits_le {i : Int} {n : Nat} (h : i.natAbs < 2 ^ n) : Builtin.Int.intBits i ≤ n := by
  unfold Builtin.Int.intBits
  split
  · exact Nat.zero_le _
  · rename_i hz
    have h0 : i.natAbs ≠ 0 := fun e => hz (by simp [Int.natAbs_eq_zero.mp e])
    exact (Nat.log2_lt h0).mpr h
def CPowW (i j : Int) : Prop := 0 ≤ j ∧ j ≤ 1000 ∧ i.natAbs < 2 ^ 100
theorem CPowW.ok {i j : Int} (h : CPowW i j) : (Builtin.Int.intBits i : Int) * j ≤ 2 ^ 27 := by
  obtain ⟨h0, h1, h2⟩ := h
  have hb : (Builtin.Int.intBits i : Int) ≤ 100 := by exact_mod_cast bits_le h2
  calc (Builtin.Int.intBits i : Int) * j ≤ 100 * 1000 := Int.mul_le_mul hb h1 h0 (by decide)
    _ ≤ 2 ^ 27 := by decide
theorem op_powW {X : Cx} : OpR X (binaryOp .Pow) (rI CPowW fun i j => .int (i ^ j.toNat)) := opI fun _ _ _ _ _ _ _ hc q => pow_int hc.1 hc.ok q

/-- what an expression gives, by a word between it and what follows -/
def tMid (t : TE) : TE := fun σ H Q => ∃ Mid : V → Hp → Prop, t σ H Mid ∧ ∀ v H', Mid v H' → Q v H'
theorem pe_mid {X : Cx} {e : Expr} {t : TE} (h : PE X e t) : PE X e (tMid t) := by
  refine ⟨fun pins s σ H Q I hq => ?_⟩
  obtain ⟨Mid, hm, hu⟩ := hq
  exact thn (h.run pins s σ H Mid I hm) fun v s1 ⟨x, H1, I1, r1, q1⟩ => ⟨x, H1, I1, r1, hu x H1 q1⟩
theorem atI_in {α : Type} {xs : List α} {i : Int} (h0 : 0 ≤ i) (h1 : i < (xs.length : Int)) : ∃ v, atI xs i = some v ∧ xs[i.toNat]? = some v ∧ v ∈ xs := by
  have hj : i.toNat < xs.length := by omega
  have e : ixN xs.length i = some i.toNat := by
    unfold ixN
    rw [if_pos h0, if_pos h1]
  refine ⟨xs[i.toNat], ?_, List.getElem?_eq_getElem hj, List.getElem_mem hj⟩
  unfold atI
  rw [e]
  exact List.getElem?_eq_getElem hj

/-! ### the bag -/
/-- a bag at b, drawn from at most n times -/
def Bag (H : Hp) (b : Addr) (n : Nat) : Prop := ∃ x y z : Int, H b = some (.lst [.int x, .int y, .int z]) ∧ 0 ≤ y ∧ y < 2 ^ 61 ∧ 0 ≤ z ∧ z ≤ (n : Int)
theorem Bag.mono {H : Hp} {b : Addr} {n m : Nat} (h : Bag H b n) (hm : n ≤ m) : Bag H b m := by
  obtain ⟨x, y, z, e, a1, a2, a3, a4⟩ := h
  exact ⟨x, y, z, e, a1, a2, a3, by omega⟩
/-- all but what stands at b is kept -/
def Kp (b : Addr) (H H' : Hp) : Prop := ∀ a o, a ≠ b → H a = some o → H' a = some o
theorem Kp.refl {b : Addr} {H : Hp} : Kp b H H := fun _ _ _ h => h
theorem Kp.trans {b : Addr} {H H1 H2 : Hp} (x : Kp b H H1) (y : Kp b H1 H2) : Kp b H H2 := fun a o n h => y a o n (x a o n h)
theorem Kp.same {b : Addr} {H H1 H2 : Hp} (x : Kp b H H1) (y : Same H1 H2) : Kp b H H2 := fun a o n h => y a o (x a o n h)
theorem Kp.upd {b : Addr} {H : Hp} {o : HO} : Kp b H (upd H b o) := fun a u n h => by rw [upd_ne n]; exact h
theorem Kp.new {b p : Addr} {H H1 : Hp} {o : HO} (x : Kp b H H1) (h : H1 p = none) : Kp b H (L2.upd H1 p o) := fun a u n e => by
  rw [upd_ne (ne_of_none (x a u n e) h)]
  exact x a u n e
theorem Kp.wr {b p : Addr} {H H1 : Hp} {o : HO} (x : Kp b H H1) (h : H p = none) : Kp b H (L2.upd H1 p o) := fun a u n e => by
  rw [upd_ne (ne_of_none e h)]
  exact x a u n e
theorem Bag.same {H H' : Hp} {b : Addr} {n : Nat} (h : Bag H b n) (s : Same H H') : Bag H' b n := by
  obtain ⟨x, y, z, e, a⟩ := h
  exact ⟨x, y, z, s _ _ e, a⟩
theorem Bag.new {H : Hp} {b p : Addr} {n : Nat} {o : HO} (h : Bag H b n) (hp : H p = none) : Bag (L2.upd H p o) b n := by
  obtain ⟨x, y, z, e, a⟩ := h
  exact ⟨x, y, z, by rw [upd_ne (ne_of_none e hp)]; exact e, a⟩
theorem Bag.ne {H : Hp} {b p : Addr} {n : Nat} {o : HO} (h : Bag H b n) (hp : p ≠ b) : Bag (L2.upd H p o) b n := by
  obtain ⟨x, y, z, e, a⟩ := h
  exact ⟨x, y, z, by rw [upd_ne (Ne.symm hp)]; exact e, a⟩
theorem Kp.free {b p : Addr} {H H' : Hp} (x : Kp b H H') (hb : ∃ o, H' b = some o) (h : H' p = none) : H p = none := by
  cases q : H p with
  | none => rfl
  | some o =>
    by_cases e : p = b
    · subst e
      obtain ⟨u, hu⟩ := hb
      rw [h] at hu
      cases hu
    · rw [x p o e q] at h
      cases h
theorem Bag.at {H : Hp} {b : Addr} {n : Nat} (h : Bag H b n) : ∃ o, H b = some o := let ⟨_, _, _, e, _⟩ := h; ⟨_, e⟩

/-! ### promises: the bag and a draw -/
def most : Nat := 1000000
def spTake : Sp := fun vs H Q _ => ∃ (b : Addr) (size : Int) (n : Nat), vs = [.ref b, .int size] ∧ 0 < size ∧ size < 1073741824 ∧ Bag H b n ∧ n ≤ most ∧
  ∀ (d : Int) (H' : Hp), 0 ≤ d → d < size → Kp b H H' → Bag H' b (n + 1) → Q (.int d) H'
def spBag (K : PySem.W.Frag) : Sp := fun vs H Q _ => ∃ (a : Addr) (ns : List Int) (i : Int), vs = [.ref a, .int i] ∧ SqL K H a (ns.map V.int) ∧ 0 ≤ i ∧ i ≤ 100 ∧
  ∀ (p : Addr) (H' : Hp), Same H H' → H p = none → Bag H' p 0 → Q (.ref p) H'
theorem basis_le {y z : Int} (hy : 0 ≤ y) (hy2 : y < 2 ^ 61) (hz : 0 ≤ z) (hz2 : z ≤ 1000001) : (y * (2 * z + 1) + 6007 * z * z + 31).natAbs < 2 ^ 100 := by
  have h1 : y * (2 * z + 1) ≤ 2 ^ 61 * 2000003 := Int.mul_le_mul (by omega) (by omega) (by omega) (by decide)
  have h2 : (6007 * z) * z ≤ (6007 * 1000001) * 1000001 := Int.mul_le_mul (by omega) hz2 hz (by decide)
  have h3 : 0 ≤ y * (2 * z + 1) := Int.mul_nonneg hy (by omega)
  have h4 : 0 ≤ (6007 * z) * z := Int.mul_nonneg (by omega) hz
  omega
end Fh

set_option Elab.async false
set_option linter.all false
set_option maxRecDepth 100000
set_option maxHeartbeats 4000000
namespace Fh
open PySem L2 PyProof.Rows
def top (i : Nat) : Stmt := PySem.Challenge.pw_facehouse_k42_faults.main.body.getD i (.Pass ⟨0, 0, 0, 0⟩)
abbrev sBag : Stmt := top 24
abbrev sTake : Stmt := top 25
/-- built-in names that no module's name hides -/
structure Glb (mg : Str → Option Value) : Prop where
  len : mg "len" = none
  abs : mg "abs" = none
  int : mg "int" = none
  range : mg "range" = none
  list : mg "list" = none
  min : mg "min" = none
  max : mg "max" = none
  tuple : mg "tuple" = none
  dict : mg "dict" = none
  enumerate : mg "enumerate" = none
  isi : mg "isinstance" = none
  bool : mg "bool" = none
section
variable {P : Program} {w : World} {K : PySem.W.Frag} {mg : Str → Option Value} {base : Heap}
theorem scBag : FnScope ["_law_script", "_law_at", "_law_cell", "_law_far"] ["_law_script", "_law_at"] (defScope sBag) := ⟨rfl, rfl, rfl, by decide +kernel, rfl, by decide +kernel, by decide +kernel⟩
theorem scTake : FnScope ["_law_bag_here", "_law_size", "_law_digit", "_law_primes", "_law_stage", "_law_basis", "_law_found"] ["_law_bag_here", "_law_size"] (defScope sTake) := ⟨rfl, rfl, rfl, by decide +kernel, rfl, by decide +kernel, by decide +kernel⟩
theorem ok_take {f : Addr} {fd : FuncData} (F : Fun K "_law_take" "_law_take" sTake f fd) : FnOk P w K mg base CX0 1 f fd ["_law_bag_here", "_law_size"] spTake := by
  refine F.ok scTake (fun vs H Q E h => ?_) (fun cdv A outer s H vs Q E hr h => ?_)
  · obtain ⟨b, size, n, rfl, _⟩ := h
    rfl
  · obtain ⟨b, size, n, rfl, hs0, hs1, ⟨x, y, z, hb, y0, y1, z0, z1⟩, hn, k⟩ := h
    have hn' : n ≤ 1000000 := hn
    refine ⟨_, pss_cons (ps_if (pt_cmpR op_gt (pe_ix ix_list (pv 0) pe_int (fun _ _ => rfl)) pe_int (nomark _))
        (pss_cons (ps_set (i := 2) scTake.nd rfl (Or.inl rfl) (pe_op op_mod (pe_ix ix_list (pv 0) pe_int (fun _ _ => rfl)) (pv 1)))
        (pss_cons (ps_asg (pe_op op_fdiv (pe_ix ix_list (pv 0) pe_int (fun _ _ => rfl)) (pv 1)) (pg_sub (pv 0) pe_int set_list))
        (pss_one (ps_ret (pv 2))))) pss_nil)
      (pss_cons (ps_set (i := 3) scTake.nd rfl (Or.inl rfl) (pe_tup (pa_cons pe_int (pa_cons pe_int (pa_cons pe_int (pa_cons pe_int (pa_cons pe_int (pa_cons pe_int (pa_cons pe_int (pa_cons pe_int pa_nil))))))))))
      (pss_cons (ps_asg (pe_op op_add (pe_ix ix_list (pv 0) pe_int (fun _ _ => rfl)) pe_int) (pg_sub (pv 0) pe_int set_list))
      (pss_cons (ps_set (i := 4) scTake.nd rfl (Or.inl rfl) (pe_ix ix_list (pv 0) pe_int (fun _ _ => rfl)))
      (pss_cons (ps_set (i := 5) scTake.nd rfl (Or.inl rfl) (pe_op op_add (pe_op op_add (pe_op op_mul (pe_ix ix_list (pv 0) pe_int (fun _ _ => rfl)) (pe_op op_add (pe_op op_mul pe_int (pv 4)) pe_int)) (pe_op op_mul (pe_op op_mul pe_int (pv 4)) (pv 4))) pe_int))
      (pss_cons (ps_set (i := 6) scTake.nd rfl (Or.inl rfl) (pe_op op_mod (pe_op op_powW (pv 5) pe_int) (pe_ix ix_tup (pv 3) (pe_op op_mod (pv 4) pe_int) (fun _ _ => rfl))))
      (pss_one (ps_ret (pe_op op_mod (pe_op op_fdiv (pe_op op_mod (pe_op op_mul (pv 6) (pe_op op_add (pe_op op_fdiv (pv 6) pe_int) pe_int)) (pe_ix ix_tup (pv 3) (pe_op op_mod (pe_op op_add (pv 4) pe_int) pe_int) (fun _ _ => rfl))) pe_int) (pv 1))))))))), ?_⟩
    refine ⟨_, rfl, b, _, _, _, rfl, rfl, SqL.of hb, rfl, _, _, rfl, rfl, _, rfl, ?_⟩
    refine ite2 (fun _ => ?_) (fun _ => ?_)
    · refine ⟨_, rfl, b, _, _, _, rfl, rfl, SqL.of hb, rfl, _, rfl, _, _, rfl, rfl, hs0, ?_⟩
      refine ⟨_, rfl, b, _, _, _, rfl, rfl, SqL.of hb, rfl, _, rfl, _, _, rfl, rfl, ⟨hs0, hs1⟩, ?_⟩
      refine ⟨_, rfl, b, _, _, 0, rfl, rfl, hb, rfl, _, rfl, ?_⟩
      exact k _ _ (Int.emod_nonneg _ (by omega)) (Int.emod_lt_of_pos _ hs0) Kp.upd ⟨_, y, z, upd_same, y0, y1, z0, by omega⟩
    · refine ⟨by decide, fun t ht => ?_⟩
      have nbt : b ≠ t := ne_of_none hb ht
      have hb1 : (upd H t (.tup [.int 2147483647, .int 2147483629, .int 2147483587, .int 2147483579, .int 2147483563, .int 2147483549, .int 2147483543, .int 2147483497])) b = some (.lst [.int x, .int y, .int z]) := by rw [upd_ne nbt]; exact hb
      refine ⟨_, rfl, b, _, _, _, rfl, rfl, SqL.of hb1, rfl, _, _, rfl, rfl, ?_⟩
      refine ⟨_, rfl, b, _, _, 2, rfl, rfl, hb1, rfl, ?_⟩
      refine ⟨_, rfl, b, _, _, _, rfl, rfl, SqL.of upd_same, rfl, ?_⟩
      have c1 : CMul y (2 * (z + 1) + 1) := .inl ⟨by omega, by omega⟩
      refine ⟨_, rfl, b, _, _, _, rfl, rfl, SqL.of upd_same, rfl, _, rfl, _, _, rfl, rfl, .inl ⟨by decide, by decide⟩, _, _, rfl, rfl, _, _, rfl, rfl, c1, _, rfl, _, _, rfl, rfl, .inl ⟨by decide, by decide⟩, _, rfl, _, _, rfl, rfl, .inr ⟨by omega, by omega⟩, _, _, rfl, rfl, _, _, rfl, rfl, ?_⟩
      have ht1 : (upd (upd H t (.tup [.int 2147483647, .int 2147483629, .int 2147483587, .int 2147483579, .int 2147483563, .int 2147483549, .int 2147483543, .int 2147483497])) b (.lst [.int x, .int y, .int (z + 1)])) t = some (.tup [.int 2147483647, .int 2147483629, .int 2147483587, .int 2147483579, .int 2147483563, .int 2147483549, .int 2147483543, .int 2147483497]) := by rw [upd_ne nbt.symm, upd_same]
      have prim : ∀ i : Int, ∃ p, atI [V.int 2147483647, .int 2147483629, .int 2147483587, .int 2147483579, .int 2147483563, .int 2147483549, .int 2147483543, .int 2147483497] (i % 8) = some (.int p) ∧ 0 < p ∧ p ≤ 2147483647 := fun i => by
        obtain ⟨v, e, _, hm⟩ := atI_in (xs := [V.int 2147483647, .int 2147483629, .int 2147483587, .int 2147483579, .int 2147483563, .int 2147483549, .int 2147483543, .int 2147483497]) (i := i % 8) (by omega) (by show i % 8 < 8; omega)
        simp only [List.mem_cons, List.not_mem_nil, or_false] at hm
        rcases hm with rfl | rfl | rfl | rfl | rfl | rfl | rfl | rfl <;> exact ⟨_, e, by decide, by decide⟩
      obtain ⟨p1, e1, l1, u1⟩ := prim (z + 1)
      obtain ⟨p2, e2, l2, u2⟩ := prim (z + 1 + 5)
      have hB : CPowW (y * (2 * (z + 1) + 1) + 6007 * (z + 1) * (z + 1) + 31) 3 := ⟨by decide, by decide, basis_le y0 y1 (by omega) (by omega)⟩
      refine ⟨_, rfl, _, _, rfl, rfl, hB, _, rfl, _, rfl, _, _, rfl, rfl, (by show (0 : Int) < 8; decide), t, _, _, _, rfl, rfl, SqT.of ht1, e1, _, _, rfl, rfl, l1, ?_⟩
      generalize hfd : (y * (2 * (z + 1) + 1) + 6007 * (z + 1) * (z + 1) + 31) ^ (3 : Int).toNat % p1 = fd
      have f0 : 0 ≤ fd := by rw [← hfd]; exact Int.emod_nonneg _ (by omega)
      have f1 : fd < p1 := by rw [← hfd]; exact Int.emod_lt_of_pos _ l1
      refine ⟨_, rfl, _, rfl, _, _, rfl, rfl, ⟨by decide, by decide⟩, _, _, rfl, rfl, _, _, rfl, rfl, .inl ⟨by omega, by omega⟩, _, rfl, _, rfl, _, _, rfl, rfl, _, _, rfl, rfl, (by show (0 : Int) < 8; decide), t, _, _, _, rfl, rfl, SqT.of ht1, e2, _, _, rfl, rfl, l2, _, _, rfl, rfl, ⟨by decide, by decide⟩, _, rfl, _, _, rfl, rfl, hs0, ?_⟩
      refine k _ _ (Int.emod_nonneg _ (by omega)) (Int.emod_lt_of_pos _ hs0) ?_ ⟨_, y, z + 1, upd_same, y0, y1, by omega, by omega⟩
      exact (Kp.refl.new ht).trans Kp.upd
end
end Fh

set_option Elab.async false
set_option linter.all false
set_option maxRecDepth 100000
set_option maxHeartbeats 4000000
namespace Fh
open PySem L2 PyProof.Rows
/-! ### a def that is called by its name -/
structure Has (P : Program) (w : World) (K : PySem.W.Frag) (mg : Str → Option Value) (base : Heap) (x : Str) (k : Nat) (ps : List Str) (sp : Sp) : Prop where
  ex : ∃ (f : Addr) (fd : FuncData), mg x = some (.ref f) ∧ PySem.W.keepIn K (.ref f) = true ∧ Binds K fd ps [] ∧ FnOk P w K mg base CX0 k f fd ps sp
theorem pe_has {X : Cx} {k : Nat} {x : Str} {ps : List Str} {sp : Sp} {e : Expr} {es : List Expr} {t : TA} {p pos : Pos} (D : Has X.prog X.w X.K X.mg X.base x k ps sp) (hr : Room k X.A) (hg : Gl X x)
    (ha : PA X (e :: es) t) (hdb : (x == ("__debug__" : Str)) = false := by decide) (he : starEach (e :: es) X.env = (false, eval e X.env) :: starEach es X.env := by rfl) (hpl : (backTo pos (starEach es X.env)).any (·.1) = false := by rfl) :
    PE X (.Call (.Name x p) (e :: es) [] pos) (tCall sp [] E0 t) := by
  obtain ⟨f, fd, hm, hk, hb, F⟩ := D.ex
  exact pe_call F hr hg hm hk hb .nil pass0 ha hdb he hpl
theorem iteT_elim {A B : Prop} (h : if true = true then A else B) : A := by rw [if_pos rfl] at h; exact h
theorem iteF_elim {A B : Prop} (h : if false = true then A else B) : B := by rw [if_neg Bool.false_ne_true] at h; exact h
theorem yes {σ : L2.St} {H : Hp} {Q : Bool → Hp → Prop} (h : Q true H) : tYes σ H Q := h
theorem b01 {i : Int} {k : Bool} : CMul i (if k = true then 1 else 0) := by cases k <;> exact .inr ⟨by decide, by decide⟩
/-! ### names -/
def Lt (c : Nat) : Prop := 97 ≤ c ∧ c ≤ 122
structure Nm (z : Str) : Prop where
  lo : 1 ≤ z.length
  hi : z.length ≤ 8
  sg : ∀ c ∈ z.cps.toList, Lt c
def one (c : Nat) : Str := ⟨#[c]⟩
theorem tl_ones : ∀ cs : List Nat, ∀ a : Str, a.cps.toList = [] → (Str.join a (cs.map one)).cps.toList = cs
  | [], _, _ => rfl
  | [c], _, _ => rfl
  | c :: d :: r, a, ha => by
    show (one c ++ a ++ Str.join a ((d :: r).map one)).cps.toList = _
    have e := tl_ones (d :: r) a ha
    show ((one c).cps ++ a.cps ++ (Str.join a ((d :: r).map one)).cps).toList = _
    rw [Array.toList_append, Array.toList_append, e, ha]
    rfl
theorem join_nm {cs : List Nat} (h1 : 1 ≤ cs.length) (h2 : cs.length ≤ 8) (h3 : ∀ c ∈ cs, Lt c) : Nm (Txt.join "" (cs.map one)) := by
  have e : (Txt.join "" (cs.map one)).cps.toList = cs := by
    show (Builtin.Str.glued "" (cs.map one)).cps.toList = cs
    rw [StrLaws.glued_eq_join]
    exact tl_ones cs _ rfl
  have l : (Txt.join "" (cs.map one)).length = cs.length := by
    show (Txt.join "" (cs.map one)).cps.size = _
    rw [← Array.length_toList, e]
  exact ⟨by rw [l]; exact h1, by rw [l]; exact h2, by rw [e]; exact h3⟩
theorem len_ones : ∀ cs : List Nat, ((cs.map one).map (·.length)).sum = cs.length
  | [] => rfl
  | c :: r => by
    show (one c).length + ((r.map one).map (·.length)).sum = r.length + 1
    rw [len_ones r]
    show 1 + _ = _
    omega
abbrev abc : Str := "abcdefghijklmnopqrstuvwxyz"
theorem abc_codes : abc.cps.toList = [97, 98, 99, 100, 101, 102, 103, 104, 105, 106, 107, 108, 109, 110, 111, 112, 113, 114, 115, 116, 117, 118, 119, 120, 121, 122] := by decide +kernel
theorem abc_at {i : Int} (h0 : 0 ≤ i) (h1 : i < 26) : ∃ c, atI abc.cps.toList i = some c ∧ Lt c := by
  have hl : abc.cps.toList.length = 26 := by rw [abc_codes]; rfl
  obtain ⟨v, e, _, hm⟩ := atI_in (xs := abc.cps.toList) h0 (by rw [hl]; exact h1)
  refine ⟨v, e, ?_⟩
  rw [abc_codes] at hm
  revert hm
  unfold Lt
  simp only [List.mem_cons, List.not_mem_nil, or_false]
  omega
def spName : Sp := fun vs H Q _ => ∃ (b : Addr) (n : Nat), vs = [.ref b] ∧ Bag H b n ∧ n + 10 ≤ most ∧
  ∀ (z : Str) (H' : Hp), Nm z → Kp b H H' → Bag H' b (n + 10) → Q (.str z) H'
abbrev sName : Stmt := top 26
section
variable {P : Program} {w : World} {K : PySem.W.Frag} {mg : Str → Option Value} {base : Heap}
theorem ok_bag {f : Addr} {fd : FuncData} (F : Fun K "_law_bag" "_law_bag" sBag f fd) (G : Glb mg) : FnOk P w K mg base CX0 1 f fd ["_law_script", "_law_at"] (spBag K) := by
  refine F.ok scBag (fun vs H Q E h => ?_) (fun cdv A outer s H vs Q E hr h => ?_)
  · obtain ⟨a, ns, i, rfl, _⟩ := h
    rfl
  · obtain ⟨a, ns, i, rfl, hS, i0, i1, k⟩ := h
    refine ⟨_, pss_cons (ps_set (i := 2) scBag.nd rfl (Or.inl rfl) (pe_op op_add (pe_op op_add (pe_op op_mul (pe_op op_mul pe_int (pv 1)) (pv 1)) (pe_op op_mul pe_int (pv 1))) pe_int))
      (C8.pss_cut (ps_if (pt_cmpR op_lt (pv 1) (pe_callB call_len_seq (by rfl) G.len PySem.boot_len (pa_cons (pv 0) pa_nil)) (nomark _)) (pss_one (ps_set (i := 2) scBag.nd rfl (Or.inl rfl) (pe_ix ix_list (pv 0) (pv 1) (fun _ _ => rfl)))) pss_nil)
      (pss_cons (ps_set (i := 3) scBag.nd rfl (Or.inl rfl) (pe_callB call_abs (by rfl) G.abs (by decide +kernel) (pa_cons (pv 2) pa_nil)))
      (pss_one (ps_ret (pe_lst (pa_cons (pe_op op_mul (pv 3) (pe_callTy call_int1 (by rfl) G.int (by decide +kernel) (pa_cons (pe_cmpR op_ge (pv 3) (pe_op op_pow pe_int pe_int) (nomark _)) pa_nil)))
        (pa_cons (pe_op op_add (pe_op op_mod (pv 2) (pe_op op_add (pe_op op_pow pe_int pe_int) pe_int)) (pe_op op_mul pe_int (pv 1))) (pa_cons pe_int pa_nil)))))))), ?_⟩
    refine ⟨_, rfl, _, _, rfl, rfl, .inl ⟨by decide, by decide⟩, _, rfl, _, _, rfl, rfl, .inr ⟨by omega, by omega⟩, _, rfl, _, _, rfl, rfl, .inl ⟨by decide, by decide⟩, _, _, rfl, rfl, _, _, rfl, rfl, ?_⟩
    refine ⟨fun σ H' => H' = H ∧ ∃ c : Int, σ = [some (.ref a), some (.int i), some (.int c), none], ?_, ?_⟩
    · refine ⟨_, rfl, _, rfl, a, _, rfl, .inl hS, _, _, rfl, rfl, _, rfl, ?_⟩
      refine ite2 (fun h => ?_) (fun _ => ?_)
      · have hlt : i < ((ns.map V.int).length : Int) := of_decide_eq_true h
        obtain ⟨v, e1, _, hm⟩ := atI_in (xs := ns.map V.int) i0 hlt
        obtain ⟨c, _, rfl⟩ := List.mem_map.mp hm
        exact ⟨_, rfl, _, rfl, a, _, _, _, rfl, rfl, hS, e1, rfl, c, rfl⟩
      · exact ⟨rfl, _, rfl⟩
    · rintro σ H' ⟨rfl, c, rfl⟩
      refine ⟨_, rfl, _, rfl, ?_⟩
      have e18 : (10 : Int) ^ (18 : Int).toNat = 1000000000000000000 := by decide
      have p18 : CPow 10 18 := ⟨by decide, by decide, by decide⟩
      refine ⟨_, rfl, _, rfl, _, _, rfl, rfl, p18, _, _, rfl, rfl, .inr ⟨_, rfl, _, _, rfl, rfl, b01, ?_⟩⟩
      refine ⟨_, rfl, _, _, rfl, rfl, p18, _, _, rfl, rfl, _, _, rfl, rfl, (by show (0 : Int) < 10 ^ (18 : Int).toNat + 9; rw [e18]; decide), _, rfl, _, _, rfl, rfl, .inl ⟨by decide, by decide⟩, _, _, rfl, rfl, ?_⟩
      refine ⟨(by show 3 ≤ sizeLine; decide), fun p hp => ?_⟩
      have m0 : 0 ≤ c % (10 ^ (18 : Int).toNat + 9) := Int.emod_nonneg _ (by rw [e18]; decide)
      have m1 : c % (10 ^ (18 : Int).toNat + 9) < 10 ^ (18 : Int).toNat + 9 := Int.emod_lt_of_pos _ (by rw [e18]; decide)
      rw [e18] at m0 m1
      refine k p _ (fun b o eb => by rw [upd_ne (ne_of_none eb hp)]; exact eb) hp ⟨_, _, 0, upd_same, ?_, ?_, by omega, by omega⟩
      · rw [e18]; omega
      · rw [e18]; omega
theorem scName : FnScope ["_law_bag_here", "_law_letters", "_law_size", "_law_spot"] ["_law_bag_here"] (defScope sName) := ⟨rfl, rfl, rfl, by decide +kernel, rfl, by decide +kernel, by decide +kernel⟩
theorem ok_name {f : Addr} {fd : FuncData} (F : Fun K "_law_name" "_law_name" sName f fd) (G : Glb mg) (DT : Has P w K mg base "_law_take" 1 ["_law_bag_here", "_law_size"] spTake) : FnOk P w K mg base CX0 2 f fd ["_law_bag_here"] spName := by
  refine F.ok scName (fun vs H Q E h => ?_) (fun cdv A outer s H vs Q E hr h => ?_)
  · obtain ⟨b, n, rfl, _⟩ := h
    rfl
  · obtain ⟨b, n, rfl, hB, hn, k⟩ := h
    have hn' : n + 10 ≤ 1000000 := hn
    refine ⟨_, pss_cons (ps_set (i := 1) scName.nd rfl (Or.inr rfl) pe_str)
      (pss_cons (ps_set (i := 2) scName.nd rfl (Or.inl rfl) (pe_op op_add pe_int (pe_has DT hr rfl (pa_cons (pv 0) (pa_cons (pe_mid (pe_ix ix_list (pe_lst (pa_cons pe_int (pa_cons pe_int pa_nil)))
          (pe_callTy call_int1 (by rfl) G.int (by decide +kernel) (pa_cons (pe_cmpR op_eq (pe_has DT hr rfl (pa_cons (pv 0) (pa_cons pe_int pa_nil))) pe_int (nomark _)) pa_nil)) (fun _ _ => rfl))) pa_nil)))))
      (pss_one (ps_ret (pe_join pe_str (pe_lc (own := [("_law_spot", 3)]) (g := gName 3) (tt := tYes) rfl scName.nd (pi_range1 rfl G.range (pa_cons (pv 2) pa_nil)) (blkOk_by (N := ["_law_bag_here", "_law_letters", "_law_size", "_law_spot"]) (sc := defScope sName) (by decide +kernel))
        (fun _ _ _ _ _ => pg_name (i := 3) scName.nd rfl (Or.inl rfl)) (fun _ _ _ _ _ => pts_nil)
        (fun _ _ _ _ _ => pe_ix ix_str (pv 1) (pe_has DT hr rfl (pa_cons (pv 0) (pa_cons pe_int pa_nil))) (fun _ _ => rfl))))))), ?_⟩
    refine ⟨_, rfl, fun v H1 => ∃ m : Int, v = .int m ∧ (m = 2 ∨ m = 8) ∧ Kp b H H1 ∧ Bag H1 b (n + 1), ?_, ?_⟩
    · refine ⟨by decide, fun p hp => ?_⟩
      refine ⟨_, rfl, b, 4, n, rfl, by decide, by decide, hB.new hp, by show n ≤ 1000000; omega, fun d H1 d0 d1 K1 B1 => ?_⟩
      have npb : p ≠ b := fun e => by
        obtain ⟨o, ho⟩ := hB.at
        rw [e, ho] at hp
        cases hp
      have hp1 : H1 p = some (.lst [.int 2, .int 8]) := K1 p _ npb upd_same
      refine ⟨rfl, .inr ⟨_, rfl, ?_⟩⟩
      have kp0 : Kp b H H1 := (Kp.refl.new hp).trans K1
      cases decide (V.int d = V.int 0) with
      | true => exact ⟨p, _, _, _, rfl, rfl, SqL.of hp1, rfl, 8, rfl, .inr rfl, kp0, B1⟩
      | false => exact ⟨p, _, _, _, rfl, rfl, SqL.of hp1, rfl, 2, rfl, .inl rfl, kp0, B1⟩
    · rintro v H1 ⟨m, rfl, hm, K1, B1⟩
      refine ⟨b, m, n + 1, rfl, by omega, by omega, B1, by show n + 1 ≤ 1000000; omega, fun d H2 d0 d1 K2 B2 => ?_⟩
      refine ⟨_, _, rfl, rfl, ?_⟩
      have hd9 : 1 + d ≤ 8 := by omega
      have hd0 : (1 + d).toNat = (1 + d) := by omega
      refine ⟨⟨_, rfl⟩, _, rfl, 1 + d, rfl, by omega, by omega, fun D hD => ?_⟩
      refine lc_range (lo := 0) (n := (1 + d).toNat) (fun i H3 => Kp b H H3 ∧ Bag H3 b (n + 2 + i) ∧ D ≠ b ∧ ∃ cs : List Nat, H3 D = some (.lst ((cs.map one).map V.str)) ∧ cs.length = i ∧ ∀ c ∈ cs, Lt c) ?_ ?_ ?_
      · have nDb : D ≠ b := fun e => by
          obtain ⟨o, ho⟩ := B2.at
          rw [e, ho] at hD
          cases hD
        exact ⟨(K1.trans K2).new hD, B2.new hD, nDb, [], upd_same, rfl, fun c h => nomatch h⟩
      · rintro i H3 hi ⟨K3, B3, nDb, cs, hD3, hl, hc⟩
        refine ⟨rfl, ?_⟩
        refine yes (iteT ?_)
        refine ⟨_, rfl, _, rfl, b, 26, n + 2 + i, rfl, by decide, by decide, B3, by show n + 2 + i ≤ 1000000; omega, fun e H4 e0 e1 K4 B4 => ?_⟩
        obtain ⟨c, hce, hcl⟩ := abc_at e0 e1
        refine ⟨_, _, c, rfl, rfl, by decide +kernel, hce, ?_⟩
        have hD4 := K4 D _ nDb hD3
        have h8 : (1 + d).toNat ≤ 8 := by omega
        have hsz : ((cs.map one).map V.str).length < sizeLine := by
          rw [List.length_map, List.length_map, hl]
          exact Nat.lt_of_lt_of_le hi (Nat.le_trans h8 (by decide))
        refine ⟨_, hD4, hsz, ?_⟩
        refine ⟨(K3.trans K4).wr ?_, B4.ne nDb, nDb, cs ++ [c], ?_, by rw [List.length_append, hl]; rfl, ?_⟩
        · exact (K1.trans K2).free B2.at hD
        · rw [upd_same, List.map_append, List.map_append]; rfl
        · intro c' hc'
          rcases List.mem_append.mp hc' with h | h
          · exact hc c' h
          · rw [List.mem_singleton.mp h]; exact hcl
      · rintro H3 ⟨K3, B3, nDb, cs, hD3, hl, hc⟩
        refine ⟨_, _, _, rfl, rfl, .inl (SqL.of hD3), ?_, ?_⟩
        · rw [len_ones, List.length_map, hl]
          have : (1 + d).toNat ≤ 8 := by omega
          show _ + _ * 0 ≤ _
          omega
        · exact k _ _ (join_nm (by omega) (by omega) hc) K3 (B3.mono (by omega))
end
end Fh

set_option Elab.async false
set_option linter.all false
set_option maxRecDepth 100000
set_option maxHeartbeats 4000000
namespace Fh
open PySem L2 PyProof.Rows
/-! ### lists of texts -/
theorem flat_strs (zs : List Str) : (zs.map V.str).all flatV = true := by
  rw [List.all_eq_true]
  intro x hx
  obtain ⟨z, _, rfl⟩ := List.mem_map.mp hx
  rfl
theorem in_strs (z : Str) (zs : List Str) : inV (.str z) (zs.map V.str) = decide (z ∈ zs) := by
  unfold inV
  induction zs with
  | nil => rfl
  | cons a r ih =>
    rw [List.map_cons, List.any_cons, ih]
    show ((a == z) || decide (z ∈ r)) = decide (z ∈ a :: r)
    by_cases h : a = z
    · subst h; simp
    · have h' : ¬ z = a := fun e => h e.symm
      simp [h, h']
theorem strs_ne_bag {H : Hp} {l b : Addr} {n : Nat} {zs : List Str} (hl : H l = some (.lst (zs.map V.str))) (hb : Bag H b n) : l ≠ b := by
  rintro rfl
  obtain ⟨x, y, z, e, _⟩ := hb
  rw [hl] at e
  cases zs with
  | nil => cases e
  | cons a r => cases e
theorem new_ne {H : Hp} {p b : Addr} {n : Nat} (hp : H p = none) (hb : Bag H b n) : p ≠ b := by
  rintro rfl
  obtain ⟨x, y, z, e, _⟩ := hb
  rw [hp] at e
  cases e
theorem sub_len {α : Type} [DecidableEq α] : ∀ (l u : List α), l.Nodup → (∀ x ∈ l, x ∈ u) → l.length ≤ u.length
  | [], _, _, _ => Nat.zero_le _
  | x :: r, u, hn, hs => by
    have hx : x ∈ u := hs x List.mem_cons_self
    obtain ⟨h1, h2⟩ := List.nodup_cons.mp hn
    have q := sub_len r (u.erase x) h2 fun y hy => (List.mem_erase_of_ne (fun (e : y = x) => h1 (e ▸ hy))).mpr (hs y (List.mem_cons_of_mem _ hy))
    rw [List.length_erase_of_mem hx] at q
    have := List.length_pos_of_mem hx
    simp only [List.length_cons]
    omega
theorem one_app_inj {c d : Nat} {t : Str} (h : one c ++ t = one d ++ t) : c = d := by
  have e : (one c ++ t).cps = (one d ++ t).cps := by rw [h]
  have e2 : ((one c).cps ++ t.cps).toList = ((one d).cps ++ t.cps).toList := by
    show (one c ++ t).cps.toList = _
    rw [e]
    rfl
  rw [Array.toList_append, Array.toList_append] at e2
  exact (List.cons.inj e2).1
def abcL : List Nat := [97, 98, 99, 100, 101, 102, 103, 104, 105, 106, 107, 108, 109, 110, 111, 112, 113, 114, 115, 116, 117, 118, 119, 120, 121, 122]
theorem abc_sz : abc.cps.size = 26 := by decide +kernel
theorem abcL_nodup : abcL.Nodup := by decide
theorem abcL_lt : ∀ c ∈ abcL, Lt c := by unfold Lt; decide
theorem fresh_tail (t : Str) (u : List Str) (hu : u.length < 26) : ∃ z ∈ abcL.map (fun c => one c ++ t), z ∉ u := by
  apply Classical.byContradiction
  intro h
  have hs : ∀ z ∈ abcL.map (fun c => one c ++ t), z ∈ u := fun z hz => Classical.byContradiction fun hn => h ⟨z, hz, hn⟩
  have hn : (abcL.map (fun c => one c ++ t)).Nodup := by
    refine List.Pairwise.map _ (fun c d hcd e => ?_) abcL_nodup
    exact hcd (one_app_inj e)
  have q := sub_len _ u hn hs
  rw [List.length_map] at q
  have : abcL.length = 26 := rfl
  omega
def tail7 (z : Str) : Str := cutS z (some 1) (some 7)
theorem tail7_nm {z : Str} (h : Nm z) : (tail7 z).length ≤ 6 ∧ ∀ c ∈ (tail7 z).cps.toList, Lt c := by
  have e : (tail7 z).cps.toList = (z.cps.toList.drop (HT.sIx z.length 0 (some 1))).take (HT.sIx z.length z.length (some 7) - HT.sIx z.length 0 (some 1)) := rfl
  have e1 : HT.sIx z.length 0 (some 1) = 1 := by
    have := HT.sIx_nat z.length 0 1
    rw [show ((1 : Nat) : Int) = 1 from rfl] at this
    rw [this]
    have := h.lo
    omega
  have e7 : HT.sIx z.length z.length (some 7) ≤ 7 := by
    have := HT.sIx_nat z.length z.length 7
    rw [show ((7 : Nat) : Int) = 7 from rfl] at this
    rw [this]
    omega
  refine ⟨?_, fun c hc => ?_⟩
  · show (tail7 z).cps.size ≤ 6
    rw [← Array.length_toList, e, List.length_take, e1]
    omega
  · rw [e] at hc
    exact h.sg c (List.mem_of_mem_drop (List.mem_of_mem_take hc))
theorem app_codes (a b : Str) : (a ++ b).cps.toList = a.cps.toList ++ b.cps.toList := by
  show (a.cps ++ b.cps).toList = _
  rw [Array.toList_append]
theorem app_len (a b : Str) : (a ++ b).length = a.length + b.length := by
  show (a.cps ++ b.cps).size = _
  rw [Array.size_append]
  rfl
theorem tails_nm {z t : Str} (h : Nm z) (ht : t ∈ abcL.map (fun c => one c ++ tail7 z) ++ abcL.map (fun c => (one c ++ "x") ++ tail7 z)) : Nm t := by
  obtain ⟨hl, hs⟩ := tail7_nm h
  have hone : ∀ c, (one c).length = 1 := fun _ => rfl
  have hx : ("x" : Str).length = 1 := by decide +kernel
  have hxc : ("x" : Str).cps.toList = [120] := by decide +kernel
  rcases List.mem_append.mp ht with h' | h'
  · obtain ⟨c, hc, rfl⟩ := List.mem_map.mp h'
    refine ⟨by rw [app_len, hone]; omega, by rw [app_len, hone]; omega, fun d hd => ?_⟩
    rw [app_codes] at hd
    rcases List.mem_append.mp hd with hd | hd
    · rw [List.mem_singleton.mp hd]; exact abcL_lt c hc
    · exact hs d hd
  · obtain ⟨c, hc, rfl⟩ := List.mem_map.mp h'
    refine ⟨by rw [app_len, app_len, hone]; omega, by rw [app_len, app_len, hone, hx]; omega, fun d hd => ?_⟩
    rw [app_codes, app_codes, hxc] at hd
    rcases List.mem_append.mp hd with hd | hd
    · rcases List.mem_append.mp hd with hd | hd
      · rw [List.mem_singleton.mp hd]; exact abcL_lt c hc
      · rw [List.mem_singleton.mp hd]; exact ⟨by decide, by decide⟩
    · exact hs d hd
/-! ### comprehensions that only read -/
theorem put_next {H1 : Hp} {D : Addr} {ys : List V} {i : Nat} {y : V} (h : ys[i]? = some y) : upd (upd H1 D (.lst (ys.take i))) D (.lst (ys.take i ++ [y])) = upd H1 D (.lst (ys.take (i + 1))) := by
  rw [upd_upd, List.take_succ, h]
  rfl
theorem take_sz {ys : List V} {i n : Nat} (hn : ys.length ≤ n) (hl : n < sizeLine) : (ys.take i).length < sizeLine := by
  rw [List.length_take]
  omega
theorem abcL_at {i : Nat} {c : Nat} (h : abc.cps[i]? = some c) : abcL[i]? = some c := by
  have e : abc.cps = abcL.toArray := by decide +kernel
  rw [e] at h
  simpa using h
def spUnlikeN : Sp := fun vs H Q _ => ∃ (b t : Addr) (size : Int) (tk : List Str) (n : Nat), vs = [.ref b, .int size, .ref t] ∧ Bag H b n ∧ 0 ≤ size ∧ size ≤ 12 ∧ H t = some (.lst (tk.map V.str)) ∧ tk.length ≤ 12 ∧ n + 200 ≤ most ∧
  ∀ (p : Addr) (zs : List Str) (H' : Hp), H p = none → H' p = some (.lst (zs.map V.str)) → (zs.length : Int) = size → zs.Nodup → (∀ z ∈ zs, Nm z ∧ z ∉ tk) → Kp b H H' → Bag H' b (n + 120) → Q (.ref p) H'
abbrev sUnlikeN : Stmt := top 27
abbrev nUnlikeN : List Str := ["_law_bag_here", "_law_size", "_law_taken", "_law_found", "_law_spot", "_law_word", "_law_used", "_law_tails", "_law_one"]
section
variable {P : Program} {w : World} {K : PySem.W.Frag} {mg : Str → Option Value} {base : Heap}
theorem scUnlikeN : FnScope nUnlikeN ["_law_bag_here", "_law_size", "_law_taken"] (defScope sUnlikeN) := ⟨rfl, rfl, rfl, by decide +kernel, rfl, by decide +kernel, by decide +kernel⟩
theorem ok_unlikeN {f : Addr} {fd : FuncData} (F : Fun K "_law_names" "_law_names" sUnlikeN f fd) (G : Glb mg) (DN : Has P w K mg base "_law_name" 2 ["_law_bag_here"] spName) : FnOk P w K mg base CX0 3 f fd ["_law_bag_here", "_law_size", "_law_taken"] spUnlikeN := by
  refine F.ok scUnlikeN (fun vs H Q E h => ?_) (fun cdv A outer s H vs Q E hr h => ?_)
  · obtain ⟨b, t, size, tk, n, rfl, _⟩ := h
    rfl
  · obtain ⟨b, t, size, tk, n, rfl, hB, s0, s1, ht, htl, hn, k⟩ := h
    have hn' : n + 200 ≤ 1000000 := hn
    have ntb : t ≠ b := strs_ne_bag ht hB
    refine ⟨_, pss_cons (ps_set (i := 3) scUnlikeN.nd rfl (Or.inl rfl) (pe_lst pa_nil))
      (pss_cons (ps_for PassesOwn.never rfl (pi_range1 rfl G.range (pa_cons (pv 1) pa_nil)) (pg_name (i := 4) scUnlikeN.nd rfl (Or.inl rfl))
        (pss_cons (ps_set (i := 5) scUnlikeN.nd rfl (Or.inr rfl) (pe_has DN hr rfl (pa_cons (pv 0) pa_nil)))
        (pss_cons (ps_set (i := 6) scUnlikeN.nd rfl (Or.inr rfl) (pe_op op_cat (pv 3) (pe_callTy call_list_of (by rfl) G.list (by decide +kernel) (pa_cons (pv 2) pa_nil))))
        (C8.pss_cut (ps_if (pt_cmpR op_in_seq (pv 5) (pv 6) rfl)
          (pss_cons (ps_setLc (i := 7) (own := [("_law_one", 8)]) (g := gName 8) (tt := tYes) rfl scUnlikeN.nd rfl rfl (sw_true rfl rfl rfl (by decide +kernel)) (pi_str pe_str) (blkOk_by (N := nUnlikeN) (sc := defScope sUnlikeN) (by decide +kernel))
            (fun _ _ _ _ _ => pg_name (i := 8) scUnlikeN.nd rfl (Or.inl rfl)) (fun _ _ _ _ _ => pts_nil)
            (fun _ _ _ _ _ => pe_op op_add_str (pv 8) (pe_slice sl_str (pv 5) (po_some pe_int) (po_some pe_int))))
          (pss_cons (ps_set (i := 7) scUnlikeN.nd rfl (Or.inl rfl) (pe_op op_cat (pv 7) (pe_lc (own := [("_law_one", 8)]) (g := gName 8) (tt := tYes) rfl scUnlikeN.nd (pi_str pe_str) (blkOk_by (N := nUnlikeN) (sc := defScope sUnlikeN) (by decide +kernel))
            (fun _ _ _ _ _ => pg_name (i := 8) scUnlikeN.nd rfl (Or.inl rfl)) (fun _ _ _ _ _ => pts_nil)
            (fun _ _ _ _ _ => pe_op op_add_str (pe_op op_add_str (pv 8) pe_str) (pe_slice sl_str (pv 5) (po_some pe_int) (po_some pe_int))))))
          (pss_one (ps_set (i := 5) scUnlikeN.nd rfl (Or.inr rfl) (pe_ix ix_list (pe_lc (own := [("_law_one", 8)]) (g := gName 8) (tt := tTest (tOp (rIn K true) (tVar 8) (tVar 6))) rfl scUnlikeN.nd (pi_list (pv 7)) (blkOk_by (N := nUnlikeN) (sc := defScope sUnlikeN) (by decide +kernel))
            (fun _ _ _ _ _ => pg_name (i := 8) scUnlikeN.nd rfl (Or.inl rfl)) (fun _ _ _ _ _ => pts_one (pt_cmpR op_notIn_seq (pv 8) (pv 6) rfl))
            (fun _ _ _ _ _ => pv 8)) pe_int (fun _ _ => rfl))))))
          pss_nil)
        (pss_one (ps_expr (pe_bm PySem.F.plainAttrs_list PySem.F.slot_list_append PySem.F.type_list_append mt_append (pv 3) (pa_cons (pv 5) pa_nil))))))))
      (pss_one (ps_ret (pv 3)))), ?_⟩
    refine ⟨by decide, fun p hp => ?_⟩
    have npb : p ≠ b := new_ne hp hB
    refine ⟨_, rfl, size, rfl, by omega, by omega, ?_⟩
    refine for_range (lo := 0) (n := size.toNat) (fun i σ H3 => (∃ a4 a5 a6 a7 a8, σ = [some (.ref b), some (.int size), some (.ref t), some (.ref p), a4, a5, a6, a7, a8]) ∧ Kp b H H3 ∧ Bag H3 b (n + 10 * i) ∧ ∃ zs : List Str, H3 p = some (.lst (zs.map V.str)) ∧ zs.length = i ∧ zs.Nodup ∧ ∀ z ∈ zs, Nm z ∧ z ∉ tk) ?_ ?_ ?_
    · exact ⟨⟨_, _, _, _, _, rfl⟩, Kp.refl.new hp, hB.new hp, [], upd_same, rfl, List.nodup_nil, fun z h => nomatch h⟩
    · rintro i σ H3 hi ⟨⟨a4, a5, a6, a7, a8, rfl⟩, K3, B3, zs, hp3, hl, hnd, hz⟩
      have hB3 : n + 10 * i + 10 ≤ 1000000 := by omega
      have hi12 : i < 12 := by omega
      refine ⟨_, rfl, b, n + 10 * i, rfl, B3, hB3, fun z H4 z4 K4 B4 => ?_⟩
      have K4' : Kp b H H4 := K3.trans K4
      have ht4 : H4 t = some (.lst (tk.map V.str)) := K4' t _ ntb ht
      have hp4 : H4 p = some (.lst (zs.map V.str)) := K4 p _ npb hp3
      refine ⟨_, rfl, _, rfl, t, _, rfl, .inl (SqL.of ht4), fun l hl4 => ?_⟩
      have npl : p ≠ l := ne_of_none hp4 hl4
      refine ⟨p, l, _, _, rfl, rfl, (by rw [upd_ne npl]; exact hp4), upd_same, ?_, fun u hu => ?_⟩
      · rw [List.length_map, List.length_map]
        exact Nat.le_trans (show zs.length + tk.length ≤ 24 by omega) (by decide)
      rw [← List.map_append]
      have K6 : Kp b H (upd (upd H4 l (.lst (tk.map V.str))) u (.lst ((zs ++ tk).map V.str))) := (K4'.new hl4).new hu
      have B6 : Bag (upd (upd H4 l (.lst (tk.map V.str))) u (.lst ((zs ++ tk).map V.str))) b (n + 10 * (i + 1)) := ((B4.new hl4).new hu).mono (by omega)
      have hu6 : (upd (upd H4 l (.lst (tk.map V.str))) u (.lst ((zs ++ tk).map V.str))) u = some (.lst ((zs ++ tk).map V.str)) := upd_same
      have hp6 : (upd (upd H4 l (.lst (tk.map V.str))) u (.lst ((zs ++ tk).map V.str))) p = some (.lst (zs.map V.str)) := by
        have hpl : (upd H4 l (.lst (tk.map V.str))) p = some (.lst (zs.map V.str)) := by rw [upd_ne npl]; exact hp4
        rw [upd_ne (ne_of_none hpl hu)]
        exact hpl
      generalize (upd (upd H4 l (.lst (tk.map V.str))) u (.lst ((zs ++ tk).map V.str))) = H6 at K6 B6 hu6 hp6
      refine ⟨fun σ H' => (∃ v a7 a8, σ = [some (.ref b), some (.int size), some (.ref t), some (.ref p), some (.int (0 + i)), some (.str v), some (.ref u), a7, a8] ∧ Nm v ∧ v ∉ zs ++ tk) ∧ Kp b H H' ∧ Bag H' b (n + 10 * (i + 1)) ∧ H' p = some (.lst (zs.map V.str)), ?_, ?_⟩
      · refine ⟨_, rfl, _, rfl, u, _, rfl, .inl (SqL.of hu6), rfl, flat_strs _, _, rfl, ?_⟩
        rw [in_strs]
        refine ite2 (fun _ => ?_) (fun hno => ?_)
        · refine ⟨_, rfl, fun D hD => ?_⟩
          have l1 : ∀ c, (one c).length + (tail7 z).length ≤ sizeLine := fun c => Nat.le_trans (show (one c).length + (tail7 z).length ≤ 8 by have := (tail7_nm z4).1; show 1 + _ ≤ 8; omega) (by decide)
          have l2 : ∀ c, (one c ++ "x").length + (tail7 z).length ≤ sizeLine := fun c => Nat.le_trans (show (one c ++ "x").length + (tail7 z).length ≤ 8 by have := (tail7_nm z4).1; rw [app_len]; show (1 + 1) + _ ≤ 8; omega) (by decide)
          have zL : z.length ≤ sizeLine := Nat.le_trans z4.hi (by decide)
          refine lc_it walk_str (fun j H7 => H7 = upd H6 D (.lst (((abcL.map fun c => one c ++ tail7 z).map V.str).take j))) rfl (fun _ _ _ _ => trivial) ?_ ?_
          · rintro j x H7 H8 hj rfl ⟨rfl, c, hc, rfl⟩
            have hj' := abcL_at hc
            refine ⟨rfl, yes (iteT ?_)⟩
            refine ⟨_, rfl, _, rfl, 1, rfl, 7, rfl, z, rfl, zL, _, _, rfl, rfl, l1 c, _, upd_same, take_sz (n := 26) (by simp [abcL]) (by decide), put_next ?_⟩
            rw [List.getElem?_map, List.getElem?_map, hj']
            rfl
          · rintro H7 rfl
            rw [abc_sz, List.take_of_length_le (show ((abcL.map fun c => one c ++ tail7 z).map V.str).length ≤ 26 by simp [abcL])]
            have hD7 : (upd H6 D (.lst ((abcL.map fun c => one c ++ tail7 z).map V.str))) D = some (.lst ((abcL.map fun c => one c ++ tail7 z).map V.str)) := upd_same
            have K7 : Kp b H (upd H6 D (.lst ((abcL.map fun c => one c ++ tail7 z).map V.str))) := K6.new hD
            have B7 := B6.new (o := (.lst ((abcL.map fun c => one c ++ tail7 z).map V.str))) hD
            have hu7 : (upd H6 D (.lst ((abcL.map fun c => one c ++ tail7 z).map V.str))) u = some (.lst ((zs ++ tk).map V.str)) := by rw [upd_ne (ne_of_none hu6 hD)]; exact hu6
            have hp7 : (upd H6 D (.lst ((abcL.map fun c => one c ++ tail7 z).map V.str))) p = some (.lst (zs.map V.str)) := by rw [upd_ne (ne_of_none hp6 hD)]; exact hp6
            generalize (upd H6 D (.lst ((abcL.map fun c => one c ++ tail7 z).map V.str))) = H7 at hD7 K7 B7 hu7 hp7
            refine ⟨_, rfl, _, rfl, fun D2 hD2 => ?_⟩
            refine lc_it walk_str (fun j H8 => H8 = upd H7 D2 (.lst (((abcL.map fun c => (one c ++ "x") ++ tail7 z).map V.str).take j))) rfl (fun _ _ _ _ => trivial) ?_ ?_
            · rintro j x H8 H9 hj rfl ⟨rfl, c, hc, rfl⟩
              have hj' := abcL_at hc
              refine ⟨rfl, yes (iteT ?_)⟩
              refine ⟨_, rfl, _, _, rfl, rfl, (by show 1 + 1 ≤ sizeLine; decide), _, rfl, 1, rfl, 7, rfl, z, rfl, zL, _, _, rfl, rfl, l2 c, _, upd_same, take_sz (n := 26) (by simp [abcL]) (by decide), put_next ?_⟩
              rw [List.getElem?_map, List.getElem?_map, hj']
              rfl
            · rintro H8 rfl
              rw [abc_sz, List.take_of_length_le (show ((abcL.map fun c => (one c ++ "x") ++ tail7 z).map V.str).length ≤ 26 by simp [abcL])]
              refine ⟨D, D2, _, _, rfl, rfl, (by rw [upd_ne (ne_of_none hD7 hD2)]; exact hD7), upd_same, (by simp [abcL]; decide), fun T hT => ?_⟩
              rw [← List.map_append]
              have nuT : u ≠ T := fun e => by
                rw [← e, upd_ne (ne_of_none hu7 hD2), hu7] at hT
                cases hT
              have npT : p ≠ T := fun e => by
                rw [← e, upd_ne (ne_of_none hp7 hD2), hp7] at hT
                cases hT
              generalize hts : (abcL.map fun c => one c ++ tail7 z) ++ (abcL.map fun c => (one c ++ "x") ++ tail7 z) = ts
              have hT9 : (upd (upd H7 D2 (.lst ((abcL.map fun c => (one c ++ "x") ++ tail7 z).map V.str))) T (.lst (ts.map V.str))) T = some (.lst (ts.map V.str)) := upd_same
              have K9 : Kp b H (upd (upd H7 D2 (.lst ((abcL.map fun c => (one c ++ "x") ++ tail7 z).map V.str))) T (.lst (ts.map V.str))) := (K7.new hD2).new hT
              have B9 : Bag (upd (upd H7 D2 (.lst ((abcL.map fun c => (one c ++ "x") ++ tail7 z).map V.str))) T (.lst (ts.map V.str))) b (n + 10 * (i + 1)) := (B7.new hD2).new hT
              have hu9 : (upd (upd H7 D2 (.lst ((abcL.map fun c => (one c ++ "x") ++ tail7 z).map V.str))) T (.lst (ts.map V.str))) u = some (.lst ((zs ++ tk).map V.str)) := by rw [upd_ne nuT, upd_ne (ne_of_none hu7 hD2)]; exact hu7
              have hp9 : (upd (upd H7 D2 (.lst ((abcL.map fun c => (one c ++ "x") ++ tail7 z).map V.str))) T (.lst (ts.map V.str))) p = some (.lst (zs.map V.str)) := by rw [upd_ne npT, upd_ne (ne_of_none hp7 hD2)]; exact hp7
              generalize (upd (upd H7 D2 (.lst ((abcL.map fun c => (one c ++ "x") ++ tail7 z).map V.str))) T (.lst (ts.map V.str))) = H9 at hT9 K9 B9 hu9 hp9
              have lts : ts.length = 52 := by rw [← hts]; simp [abcL]
              refine ⟨_, rfl, T, rfl, ⟨_, SqL.of hT9⟩, fun D3 hD3 => ?_⟩
              refine lc_it (walk_list (K := K) (a := T) (xs := ts.map V.str)) (fun j H10 => H10 = upd H9 D3 (.lst (((ts.take j).filter fun t => decide (t ∉ zs ++ tk)).map V.str))) rfl ?_ ?_ ?_
              · rintro j H10 _ rfl
                exact SqL.of (by rw [upd_ne (ne_of_none hT9 hD3)]; exact hT9)
              · rintro j x H10 H11 hj rfl ⟨rfl, hx⟩
                obtain ⟨y, hy, rfl⟩ : ∃ y, ts[j]? = some y ∧ x = V.str y := by
                  rw [List.getElem?_map] at hx
                  cases e : ts[j]? with
                  | none => rw [e] at hx; cases hx
                  | some y => rw [e] at hx; exact ⟨y, rfl, (Option.some.inj hx).symm⟩
                refine ⟨rfl, _, rfl, _, rfl, u, _, rfl, .inl (SqL.of (by rw [upd_ne (ne_of_none hu9 hD3)]; exact hu9)), rfl, flat_strs _, _, rfl, ?_⟩
                rw [in_strs]
                have tk1 : ts.take (j + 1) = ts.take j ++ [y] := by rw [List.take_succ, hy]; rfl
                refine ite2 (fun hin => ?_) (fun hin => ?_)
                · refine ⟨_, rfl, _, upd_same, ?_, ?_⟩
                  · refine Nat.lt_of_le_of_lt (show _ ≤ 52 from ?_) (by decide)
                    rw [List.length_map]
                    exact Nat.le_trans (List.length_filter_le _ _) (by rw [List.length_take]; omega)
                  · have hny : y ∉ zs ++ tk := fun e => by
                      rw [decide_eq_true e] at hin
                      cases hin
                    rw [upd_upd, tk1, List.filter_append, List.map_append]
                    have : ([y].filter fun t => decide (t ∉ zs ++ tk)) = [y] := List.filter_cons_of_pos (decide_eq_true hny)
                    rw [this]
                    rfl
                · have hyy : y ∈ zs ++ tk := Classical.byContradiction fun e => hin (by rw [decide_eq_false e]; rfl)
                  rw [tk1, List.filter_append]
                  have : ([y].filter fun t => decide (t ∉ zs ++ tk)) = [] := by
                    rw [List.filter_eq_nil_iff]
                    intro a ha
                    rw [List.mem_singleton.mp ha, decide_eq_true_eq]
                    exact fun h => h hyy
                  rw [this, List.append_nil]
              · rintro H10 rfl
                rw [show (ts.map V.str).length = ts.length from List.length_map _, List.take_length]
                obtain ⟨z', hz', hn'⟩ := fresh_tail (tail7 z) (zs ++ tk) (by rw [List.length_append]; omega)
                have hmem : z' ∈ ts.filter fun t => decide (t ∉ zs ++ tk) := List.mem_filter.mpr ⟨by rw [← hts]; exact List.mem_append_left _ hz', decide_eq_true hn'⟩
                cases hq : (ts.filter fun t => decide (t ∉ zs ++ tk)) with
                | nil => rw [hq] at hmem; cases hmem
                | cons v r =>
                  have hv : v ∈ ts.filter fun t => decide (t ∉ zs ++ tk) := by rw [hq]; exact List.mem_cons_self
                  obtain ⟨hv1, hv2⟩ := List.mem_filter.mp hv
                  refine ⟨D3, _, _, .str v, rfl, rfl, SqL.of upd_same, atI_nat (j := 0) rfl, ?_⟩
                  refine ⟨⟨v, _, _, rfl, tails_nm z4 (by rw [hts]; exact hv1), of_decide_eq_true hv2⟩, K9.new hD3, B9.new hD3, ?_⟩
                  rw [upd_ne (ne_of_none hp9 hD3)]
                  exact hp9
        · have hno' : z ∉ zs ++ tk := fun e => hno (decide_eq_true e)
          exact ⟨⟨z, _, _, rfl, z4, hno'⟩, K6, B6, hp6⟩
      · rintro σ H7 ⟨⟨v, a7, a8, rfl, nv, hv⟩, K7, B7, hp7⟩
        have hvz : v ∉ zs := fun e => hv (List.mem_append_left _ e)
        have hvt : v ∉ tk := fun e => hv (List.mem_append_right _ e)
        refine ⟨_, rfl, .inl ⟨rfl, _, SqL.of hp7⟩, _, rfl, p, _, _, rfl, rfl, hp7, ?_, ?_⟩
        · rw [List.length_map, hl]
          exact Nat.lt_trans hi12 (by decide)
        · refine ⟨⟨_, _, _, _, _, rfl⟩, K7.wr hp, B7.ne npb, zs ++ [v], ?_, by rw [List.length_append, hl]; rfl, ?_, ?_⟩
          · rw [upd_same, List.map_append]; rfl
          · rw [List.nodup_append]
            refine ⟨hnd, List.nodup_cons.mpr ⟨fun h => (nomatch h), List.nodup_nil⟩, fun a ha c hc e => ?_⟩
            rw [List.mem_singleton.mp hc] at e
            exact hvz (e ▸ ha)
          · intro z' hz'
            rcases List.mem_append.mp hz' with h | h
            · exact hz z' h
            · rw [List.mem_singleton.mp h]
              exact ⟨nv, hvt⟩
    · rintro σ H3 ⟨⟨a4, a5, a6, a7, a8, rfl⟩, K3, B3, zs, hp3, hl, hnd, hz⟩
      exact ⟨_, rfl, k p zs H3 hp hp3 (by omega) hnd hz K3 (B3.mono (by omega))⟩
end
end Fh

set_option Elab.async false
set_option linter.all false
set_option maxRecDepth 100000
set_option maxHeartbeats 4000000
namespace Fh
open PySem L2 PyProof.Rows
/-! ### data in tuples -/
mutual
inductive Tp (H : Hp) : V → PyData → Prop
  | int (i : Int) : Tp H (.int i) (.int i)
  | str (x : Str) : Tp H (.str x) (.str x)
  | tup {a : Addr} {xs : List V} {ds : List PyData} : H a = some (.tup xs) → TpAll H xs ds → Tp H (.ref a) (.tuple ds)
inductive TpAll (H : Hp) : List V → List PyData → Prop
  | nil : TpAll H [] []
  | cons {v : V} {vs : List V} {d : PyData} {ds : List PyData} : Tp H v d → TpAll H vs ds → TpAll H (v :: vs) (d :: ds)
end
/-- tuples stay -/
def Tk (H H' : Hp) : Prop := ∀ a xs, H a = some (.tup xs) → H' a = some (.tup xs)
mutual
theorem Tp.keep {H H' : Hp} (t : Tk H H') : ∀ (d : PyData) (v : V), Tp H v d → Tp H' v d
  | .none, _, h => by cases h
  | .bool _, _, h => by cases h
  | .int i, _, h => by cases h; exact .int i
  | .str x, _, h => by cases h; exact .str x
  | .list _, _, h => by cases h
  | .dict _, _, h => by cases h
  | .tuple ds, _, h => by
    cases h with
    | tup e q => exact .tup (t _ _ e) (TpAll.keep t ds _ q)
theorem TpAll.keep {H H' : Hp} (t : Tk H H') : ∀ (ds : List PyData) (vs : List V), TpAll H vs ds → TpAll H' vs ds
  | [], _, h => by cases h; exact .nil
  | d :: ds, _, h => by
    cases h with
    | cons a q => exact .cons (Tp.keep t d _ a) (TpAll.keep t ds _ q)
end
mutual
theorem Tp.dp {K : PySem.W.Frag} {H : Hp} : ∀ (d : PyData) (v : V), Tp H v d → Dp K H v d
  | .none, _, h => by cases h
  | .bool _, _, h => by cases h
  | .int i, _, h => by cases h; exact .int i
  | .str x, _, h => by cases h; exact .str x
  | .list _, _, h => by cases h
  | .dict _, _, h => by cases h
  | .tuple ds, _, h => by
    cases h with
    | tup e q => exact .tup (SqT.of e) (TpAll.dp ds _ q)
theorem TpAll.dp {K : PySem.W.Frag} {H : Hp} : ∀ (ds : List PyData) (vs : List V), TpAll H vs ds → DpAll K H vs ds
  | [], _, h => by cases h; exact .nil
  | d :: ds, _, h => by
    cases h with
    | cons a q => exact .cons (Tp.dp d _ a) (TpAll.dp ds _ q)
end
theorem Kp.tk {b : Addr} {H H' : Hp} {n : Nat} (k : Kp b H H') (hb : Bag H b n) : Tk H H' := fun a xs h => k a _ (fun e => by
  obtain ⟨x, y, z, e2, _⟩ := hb
  rw [← e, h] at e2
  cases e2) h
theorem Tk.refl {H : Hp} : Tk H H := fun _ _ h => h
theorem Tk.trans {H H1 H2 : Hp} (a : Tk H H1) (b : Tk H1 H2) : Tk H H2 := fun c xs h => b c xs (a c xs h)
theorem Same.tk {H H' : Hp} (s : Same H H') : Tk H H' := fun a xs h => s a _ h
theorem Tk.new {H : Hp} {p : Addr} {o : HO} (h : H p = none) : Tk H (upd H p o) := fun a xs e => by rw [upd_ne (ne_of_none e h)]; exact e
theorem Tk.wr {H : Hp} {p : Addr} {ys : List V} {o : HO} (h : H p = some (.lst ys)) : Tk H (upd H p o) := fun a xs e => by
  rw [upd_ne (fun q => by rw [q, h] at e; cases e)]
  exact e
theorem TpAll.length {H : Hp} : ∀ {vs : List V} {ds : List PyData}, TpAll H vs ds → vs.length = ds.length
  | _, _, .nil => rfl
  | _, _, .cons _ q => by simp [TpAll.length q]
theorem TpAll.get {H : Hp} : ∀ {vs : List V} {ds : List PyData} {i : Nat} {d : PyData}, TpAll H vs ds → ds[i]? = some d → ∃ v, vs[i]? = some v ∧ Tp H v d
  | _, _, _, _, .nil, e => by simp at e
  | _, _, 0, _, .cons a _, e => by simp at e; subst e; exact ⟨_, rfl, a⟩
  | _, _, i + 1, d, .cons _ q, e => by
    obtain ⟨v, h1, h2⟩ := TpAll.get (i := i) (d := d) q (by simpa using e)
    exact ⟨v, by simpa using h1, h2⟩
theorem TpAll.get' {H : Hp} : ∀ {vs : List V} {ds : List PyData} {i : Nat} {v : V}, TpAll H vs ds → vs[i]? = some v → ∃ d, ds[i]? = some d ∧ Tp H v d
  | _, _, _, _, .nil, e => by simp at e
  | _, _, 0, _, .cons a _, e => by simp at e; subst e; exact ⟨_, rfl, a⟩
  | _, _, i + 1, v, .cons _ q, e => by
    obtain ⟨d, h1, h2⟩ := TpAll.get' (i := i) (v := v) q (by simpa using e)
    exact ⟨d, by simpa using h1, h2⟩
theorem TpAll.app {H : Hp} : ∀ {vs ws : List V} {ds es : List PyData}, TpAll H vs ds → TpAll H ws es → TpAll H (vs ++ ws) (ds ++ es)
  | _, _, _, _, .nil, s => s
  | _, _, _, _, .cons a q, s => .cons a (TpAll.app q s)
theorem TpAll.one {H : Hp} {v : V} {d : PyData} (h : Tp H v d) : TpAll H [v] [d] := .cons h .nil
theorem TpAll.strs {H : Hp} : ∀ zs : List Str, TpAll H (zs.map V.str) (zs.map PyData.str)
  | [] => .nil
  | z :: r => .cons (.str z) (TpAll.strs r)
theorem Tp.inv {H : Hp} {v : V} {ds : List PyData} (h : Tp H v (.tuple ds)) : ∃ a xs, v = .ref a ∧ H a = some (.tup xs) ∧ TpAll H xs ds := by
  cases h with
  | tup e q => exact ⟨_, _, rfl, e, q⟩
theorem Tp.istr {H : Hp} {v : V} {z : Str} (h : Tp H v (.str z)) : v = .str z := by cases h; rfl
theorem Tp.iint {H : Hp} {v : V} {i : Int} (h : Tp H v (.int i)) : v = .int i := by cases h; rfl
theorem TpAll.icons {H : Hp} {vs : List V} {d : PyData} {ds : List PyData} (h : TpAll H vs (d :: ds)) : ∃ v r, vs = v :: r ∧ Tp H v d ∧ TpAll H r ds := by
  cases h with
  | cons a q => exact ⟨_, _, rfl, a, q⟩
theorem TpAll.inil {H : Hp} {vs : List V} (h : TpAll H vs []) : vs = [] := by cases h; rfl
/-! ### shaped data -/
def Sh (n : Nat) (d : PyData) : Prop := d.canLay0 = true ∧ d.depth ≤ n
theorem strOk_of {z : Str} (h : ∀ c ∈ z.cps.toList, c < 0x110000) : PyData.canLay0 (.str z) = true := by
  show PyData.strOk z = true
  unfold PyData.strOk
  rw [Array.all_eq_true_iff_forall_mem]
  intro c hc
  exact decide_eq_true (h c (by simpa using hc))
theorem Sh.int {n : Nat} (i : Int) : Sh n (.int i) := ⟨rfl, Nat.zero_le _⟩
theorem Sh.mono {n m : Nat} {d : PyData} (h : Sh n d) (hm : n ≤ m) : Sh m d := ⟨h.1, Nat.le_trans h.2 hm⟩
theorem lay_all : ∀ ds : List PyData, (∀ d ∈ ds, d.canLay0 = true) → PyData.canLayAll0 ds = true
  | [], _ => rfl
  | d :: r, h => by
    show (PyData.canLay0 d && PyData.canLayAll0 r) = true
    rw [h d List.mem_cons_self, lay_all r fun e he => h e (List.mem_cons_of_mem _ he)]
    rfl
theorem depth_all {n : Nat} : ∀ ds : List PyData, (∀ d ∈ ds, d.depth ≤ n) → PyData.depthAll ds ≤ n
  | [], _ => Nat.zero_le _
  | d :: r, h => by
    show max (PyData.depth d) (PyData.depthAll r) ≤ n
    exact Nat.max_le.mpr ⟨h d List.mem_cons_self, depth_all r fun e he => h e (List.mem_cons_of_mem _ he)⟩
theorem Sh.tup {n : Nat} {ds : List PyData} (h : ∀ d ∈ ds, Sh n d) : Sh (n + 1) (.tuple ds) :=
  ⟨lay_all ds fun d hd => (h d hd).1, Nat.succ_le_succ (depth_all ds fun d hd => (h d hd).2)⟩
theorem Sh.lst {n : Nat} {ds : List PyData} (h : ∀ d ∈ ds, Sh n d) : Sh (n + 1) (.list ds) :=
  ⟨lay_all ds fun d hd => (h d hd).1, Nat.succ_le_succ (depth_all ds fun d hd => (h d hd).2)⟩
theorem Sh.shaped {n : Nat} {d : PyData} (h : Sh n d) (hn : n ≤ 64) : SeqAt.shaped d = true := by
  unfold SeqAt.shaped
  rw [h.1, decide_eq_true (Nat.le_trans h.2 hn)]
  rfl
/-! ### lists of data as python sees them -/
theorem Dp.strs {K : PySem.W.Frag} {H : Hp} : ∀ zs : List Str, DpAll K H (zs.map V.str) (zs.map PyData.str)
  | [] => .nil
  | z :: r => .cons (.str z) (Dp.strs r)
theorem putF_len (f : Str) (v : V) : ∀ fs : List (Str × V), (putF f v fs).length ≤ fs.length + 1
  | [] => Nat.le_refl _
  | (g, x) :: r => by
    show (if g = f then (g, v) :: r else (g, x) :: putF f v r).length ≤ _
    split
    · exact Nat.le_succ _
    · exact Nat.succ_le_succ (putF_len f v r)
end Fh

set_option Elab.async false
set_option linter.all false
set_option maxRecDepth 100000
set_option maxHeartbeats 4000000
namespace Fh
open PySem PySem.Spec PyProof.Rows L2
/-! ### enumerate(what begins an iterator), from 0 on -/
theorem enum_new {v : Value} {o : Obj} {S : Heap → Prop} (B : PySem.Begins v o S) : Meets (Builtin.«enumerate.__new__» ⟨[.type "enumerate", v], []⟩) (fun _ R s => S s.heap ∧
    R (.ok (.ret (.ref (s.heap.push o).objs.size))) { s with heap := (s.heap.push o).push { cls := .type "enumerate", data := .fields #[.none, .bool false, .ref s.heap.objs.size, rawInt 0, .none, .none] } }) :=
  .of_wp fun prog w A R ⟨hp, g, d, tk, os⟩ ⟨hS, h⟩ => by
    have q0 := sub_enumerate
    have it : ∀ {A1 : Around} {E : Value → Shared → Prop} {Q : Value → Shared → Prop}, Q (.ref hp.objs.size) ⟨hp.push o, g, d, tk, os⟩ → wpAny (model prog w) A1 (pyIter v) Q E ⟨hp, g, d, tk, os⟩ := fun q => B.iter prog w _ _ ⟨hp, g, d, tk, os⟩ _ hS q
    wp_walk using it
    refine wpAny_stack_any fun st => wpAny_pure ?_
    split
    · rename_i c _ _ _ _ _
      cases (c == Value.type "enumerate") <;> (wp_walk using it; exact ⟨_, rfl, h⟩)
    · wp_walk using it
      exact ⟨_, rfl, h⟩
section
variable {prog : Program} {w : World} {A : Around} {E : Value → Shared → Prop} {s : Shared}
theorem call_enum {v : Value} {o : Obj} {S : Heap → Prop} {Q : Value → Shared → Prop} (B : PySem.Begins v o S) (hS : S s.heap)
    (h : ∀ h', IsEnum h' (s.heap.objs.size + 1) s.heap.objs.size 0 .none → h'.get? s.heap.objs.size = some o → (∀ b u, s.heap.get? b = some u → h'.get? b = some u) → Q (.ref (s.heap.objs.size + 1)) { s with heap := h' }) :
    wpAny (model prog w) A (call (.type "enumerate") [v]) Q E s := by
  refine callType_new F.called_enumerate (by decide) (F.typeCall_enumerate_1 _) (F.newCall_enumerate_1 _) (fun obj => F.args_object_init_2 obj _) F.entry_enumerate_new (enum_new B) ⟨hS, ?_⟩
  have z : (s.heap.push o).objs.size = s.heap.objs.size + 1 := Heap.size_push _ _
  have e1 := Heap.get?_push_size (s.heap.push o) (o := { cls := .type "enumerate", data := .fields #[.none, .bool false, .ref s.heap.objs.size, rawInt 0, .none, .none] }) rfl
  rw [z] at e1
  show _ ∧ _
  rw [z]
  exact ⟨⟨_, e1, rfl⟩, h _ e1 (Heap.get?_push_of_some _ (Heap.get?_push_size _ B.free)) fun b u q => Heap.get?_push_of_some _ (Heap.get?_push_of_some _ q)⟩
end
/-! ### for i, x in enumerate(tuple) -/
/-- the tuple xs at a, each item in a new pair -/
def IteT (K : PySem.W.Frag) (a : Addr) (xs : List V) : It :=
  ⟨fun i H => SqT K H a xs ∧ i < xs.length, fun i H v H' => ∃ T x, v = .ref T ∧ H T = none ∧ H' = upd H T (.tup [.int (i : Nat), x]) ∧ xs[i]? = some x, fun i H => SqT K H a xs ∧ xs.length = i⟩
theorem turn_enumT {P : Program} {w : World} {K : PySem.W.Frag} {elts : List Expr} {kk : Nat} {tpos : Pos} (a e it : Addr) (xs : List V) :
    Turn P w K (.Tuple elts kk tpos) (IteT K a xs) [e, it] e (fun i h => (∃ old, IsEnum h e it ((i : Nat) : Int) old) ∧ h.IsTupleIter it a i ∧ e ≠ it) where
  mem := List.mem_cons_self
  obj := fun i h ⟨⟨old, he⟩, ⟨o, ho, hc, hd⟩, _⟩ b hb => by
    rcases List.mem_cons.mp hb with rfl | hb
    · exact ⟨_, he, fun v q => nomatch q⟩
    · rw [List.mem_singleton.mp hb]
      exact ⟨o, ho, fun v q => by rw [hd] at q; cases q⟩
  keep := fun i h h' ⟨⟨old, he⟩, hi, ne⟩ k => ⟨⟨old, k e List.mem_cons_self _ he⟩, hi.at fun o q => k it (List.mem_cons_of_mem _ List.mem_cons_self) o q, ne⟩
  item := by
    intro X hP hw hK hc i pins s σ H E I hf st hg
    subst hP hw hK
    obtain ⟨⟨old, he⟩, hit, ne⟩ := st
    obtain ⟨hq, hlt⟩ := hg
    obtain ⟨its, rv, p, _⟩ := I.tuple hq
    have hlen : its.toArray.size = xs.length := by rw [List.size_toArray]; exact rv.length.symm
    have lte : e < s.heap.objs.size := Heap.lt_size he
    have lti : it < s.heap.objs.size := by obtain ⟨_, q, _⟩ := hit; exact Heap.lt_size q
    have nea : e ≠ a := fun q => by
      obtain ⟨o, ho, hcl, _⟩ := p
      rw [← q, he] at ho
      cases ho
      exact absurd (show Value.type "enumerate" = Value.type "tuple" from hcl) (by decide)
    have nia : a ≠ it := fun q => by
      obtain ⟨o, ho, hcl, _⟩ := p
      obtain ⟨o2, ho2, hcl2, _⟩ := hit
      rw [q, ho2] at ho
      cases ho
      rw [hcl] at hcl2
      exact absurd hcl2 (by decide)
    have D := PySem.Draws.tuple (prog := X.prog) (w := X.w) (A := X.A.in1) (by simpa using I.ok.hd hc) it a nia its.toArray
    refine wpAny_pyNext_enum_itemD D he ⟨hit, p⟩ (by rw [hlen]; exact hlt) ne (by simp [ne, nea]) fun u h' tk hu ho hst hT hsz hk => ?_
    refine ⟨_, rfl, wpAny_letOwnedTupleGo_enum (s := { s with heap := h', toks := tk + 1 }) ho fun h2 he2 sb => ?_⟩
    obtain ⟨x, hx, ru⟩ : ∃ x, xs[i]? = some x ∧ RelV x u := by
      obtain ⟨u2, hu2, r2⟩ := rv.get (List.getElem?_eq_getElem hlt)
      have hu' : its.toArray[i]? = some u := hu
      rw [List.getElem?_toArray, hu2] at hu'
      cases hu'
      exact ⟨_, List.getElem?_eq_getElem hlt, r2⟩
    have nT : s.heap.objs.size ≠ e := Nat.ne_of_gt lte
    have at2 : h2.get? s.heap.objs.size = some { cls := .type "tuple", data := .seq #[.int i tk, u] } := (sb.2 _ nT).trans hT
    have fresh := I.hok.fresh (Nat.le_refl s.heap.objs.size)
    have I1 : Inv X pins σ (upd H s.heap.objs.size (.tup [.int (i : Nat), x])) { s with heap := h2, toks := tk + 1 } :=
      I.turnedNew (ch := [e, it]) (fun b o hb q => by
        have b1 : b ≠ e := fun z => hb (by simp [z])
        have b2 : b ≠ it := fun z => hb (by simp [z])
        exact (sb.2 b b1).trans (hk b o b1 b2 q)) hf (Nat.le_refl _) ⟨by show 2 ≤ sizeLine; decide, [.int i tk, u], .cons ⟨_, rfl⟩ (.cons ru .nil), ⟨_, at2, rfl, _, rfl⟩⟩
    refine ⟨.ref s.heap.objs.size, _, I1, rfl, ⟨_, x, rfl, fresh, rfl, hx⟩, ⟨⟨u, ?_⟩, hst.1.at fun o q => (sb.2 it (Ne.symm ne)).trans q, ne⟩, fun b hb => ?_⟩
    · have e1 : ((i + 1 : Nat) : Int) = (i : Int) + 1 := by omega
      rw [e1]
      exact he2
    · have lb : b < s.heap.objs.size := by
        rcases List.mem_cons.mp hb with rfl | hb
        · exact lte
        · rw [List.mem_singleton.mp hb]; exact lti
      rw [upd_ne (Nat.ne_of_lt lb)]
      exact (hf b hb).1
  done := by
    intro X hP hw hK hc i pins s σ H E I hf st hg
    subst hP hw hK
    obtain ⟨⟨old, he⟩, hit, ne⟩ := st
    obtain ⟨hq, hn⟩ := hg
    obtain ⟨its, rv, p, _⟩ := I.tuple hq
    have hlen : its.toArray.size = i := by rw [List.size_toArray, ← hn]; exact rv.length.symm
    have nia : a ≠ it := fun q => by
      obtain ⟨o, ho, hcl, _⟩ := p
      obtain ⟨o2, ho2, hcl2, _⟩ := hit
      rw [q, ho2] at ho
      cases ho
      rw [hcl] at hcl2
      exact absurd hcl2 (by decide)
    have D := PySem.Draws.tuple (prog := X.prog) (w := X.w) (A := X.A.in1) (by simpa using I.ok.hd hc) it a nia its.toArray
    obtain ⟨f0, f1, f2, f3, f4, f5⟩ := hf it (by simp)
    rw [hlen] at D
    exact wpAny_pyNext_enum_endD D he ⟨hit, p⟩ fun h' eb => ⟨rfl, I.turned (t' := s.toks) (fun b o hb q => eb b o hb q) f0 f1 f3 f4 f5⟩
  self := fun A i s Q E ⟨⟨_, he⟩, _⟩ h => wpAny_pyIter_enum he h
def iEnumT (K : PySem.W.Frag) (ta : TA) : TI := fun σ H R => ta σ H fun vs H1 => ∃ a xs, vs = [.ref a] ∧ SqT K H1 a xs ∧ R (IteT K a xs) H1
theorem pi_enumT {X : Cx} {e : Expr} {ta : TA} {p pos tpos : Pos} {elts : List Expr} {kk : Nat} (hg : Gl X "enumerate") (hm : X.mg "enumerate" = none) (ha : PA X [e] ta) (hs : starEach [e] X.env = [(false, eval e X.env)] := by rfl) : PI X (.Tuple elts kk tpos) (.Call (.Name "enumerate" p) [e] [] pos) (iEnumT X.K ta) := by
  refine ⟨fun pins s σ H R I h => Call_ (ld_blt I hg hm boot_enumerate (PyProof.Rows.callWith_type1 (thn (ha.run pos pins s σ H _ I h) fun us s1 ⟨vs, H1, I1, r1, q1⟩ => ?_) hs rfl))⟩
  obtain ⟨a, xs, rfl, hq, q⟩ := q1
  obtain ⟨u, rfl, ru⟩ := vals1 r1
  cases ru
  obtain ⟨its, rv, pt, _⟩ := I1.tuple hq
  refine call_enum (PySem.begins_tuple a its.toArray) pt fun h' he hit hk => wpAny_pyIter_enum he ?_
  have I2 : Inv X pins σ H1 { s1 with heap := h' } := I1.kept (t' := s1.toks) hk
  refine ⟨s1.heap.objs.size + 1, [s1.heap.objs.size + 1, s1.heap.objs.size], _, _, H1, rfl, I2, turn_enumT a (s1.heap.objs.size + 1) s1.heap.objs.size xs, ⟨⟨.none, he⟩, ⟨_, hit, rfl, rfl⟩, Nat.succ_ne_self _⟩, fun b hb => ?_, q⟩
  have le : s1.heap.objs.size ≤ b := by
    rcases List.mem_cons.mp hb with rfl | hb
    · exact Nat.le_succ _
    · rw [List.mem_singleton.mp hb]; exact Nat.le_refl _
  exact I1.fpOk le (I1.hok.fresh le)
theorem walk_enumT {K : PySem.W.Frag} {a : Addr} {xs : List V} : Walk (IteT K a xs) xs.length (fun H => SqT K H a xs) (YPair (fun i => some (.int (i : Nat))) (fun i => xs[i]?)) :=
  ⟨fun i H hi q => ⟨q, hi⟩, fun H q => ⟨q, rfl⟩, fun i H x H' hi q ⟨T, y, e, hT, eH, hy⟩ => ⟨T, _, y, e, hT, eH, rfl, hy⟩⟩
end Fh

set_option Elab.async false
set_option linter.all false
set_option maxRecDepth 100000
set_option maxHeartbeats 4000000
namespace Fh
open PySem PySem.Spec PyProof.Rows L2
open AutoSeq1 (wpAny_loadPart')
section
variable {prog : Program} {w : World} {A : Around} {E : Value → Shared → Prop} {s : Shared}
/-- tuples of one length, their items equal where all stands as it does -/
theorem tup_ne {l b : Addr} {xs ys : Array Value} {Q : Value → Shared → Prop} (hl : s.heap.IsTuple l xs) (hb : s.heap.IsTuple b ys) (hsz : xs.size = ys.size) (hu : A.units < cLine)
    (eq : ∀ p ∈ xs.toList.zip ys.toList, SeqAt.EqP prog w A.in1 s p.1 p.2 true) (h : Q (.bool false) s) : wpAny (model prog w) A (richCompare .NotEq (.ref l) (.ref b)) Q E s := by
  obtain ⟨⟨c1, dd, d1, sl⟩, ho, hc, n, hd⟩ := hl
  obtain ⟨⟨c2, dd2, d2, sl2⟩, ho2, hc2, n2, hd2⟩ := hb
  dsimp only at hc hd hc2 hd2
  subst hc hd hc2 hd2
  refine wpAny_richCompare_same_room (op := .NotEq) ⟨_, ho, rfl⟩ ⟨_, ho2, rfl⟩ F.slot_tuple_ne (GQ.call_here F.slot_tuple_ne ⟨_, ho, rfl⟩ F.entry_tuple_ne (F.args_tuple_ne_2 _ _) ?_) hu
  have q0 := AutoSeq1.sub_tuple_tuple
  obtain ⟨hp, g, d, tk, os⟩ := s
  have fin : wants (fun v s' => v ≠ .notImplemented ∧ Q v s') E (.ok (.ret (.bool false))) ⟨hp, g, d, tk, os⟩ := ⟨(fun x => nomatch x), h⟩
  wp_walk using wpAny_loadPart' ho, wpAny_loadPart' ho2, wpAny_forIn_list _ (fun rest r s' => r.1 = none ∧ s' = ⟨hp, g, d, tk, os⟩ ∧ ∀ p ∈ rest, SeqAt.EqP prog w A.in1 ⟨hp, g, d, tk, os⟩ p.1 p.2 true) _
  case turn =>
    rintro ⟨y, x⟩ rest r s' ⟨hr, rfl, all⟩
    refine wpAny_bind (all (y, x) List.mem_cons_self _ _ ?_)
    wp_walk
    exact ⟨rfl, rfl, fun p hp' => all p (List.mem_cons_of_mem _ hp')⟩
  case fin =>
    rintro ⟨r1, r2⟩ s' ⟨hr, rfl, _⟩
    dsimp only at hr
    subst hr
    wp_walk
    simpa [Builtin.Tuple.tupleCompareSizes, hsz] using fin
  case h => exact ⟨rfl, rfl, eq⟩
end
/-- a text and itself; two dicts of the same -/
inductive EqI (H : Hp) : V → V → Prop
  | str (z : Str) : EqI H (.str z) (.str z)
  | dict {a b : Addr} {ks ls : List (Key × V)} : a ≠ b → H a = some (.dK ks) → H b = some (.dK ls) → ks.length = ls.length → (∀ p ∈ ks, valV ls p.1 = some p.2 ∧ flatB p.2 = true) → EqI H (.ref a) (.ref b)
theorem EqI.run {X : Cx} {pins : List (Addr × Obj)} {σ : L2.St} {H : Hp} {s : Shared} {A : Around} (I : Inv X pins σ H s) (hu : A.units < cLine) {x y : V} {u v : Value} (h : EqI H x y) (ru : RelV x u) (rv : RelV y v) : SeqAt.EqP X.prog X.w A s u v true := by
  cases h with
  | str z =>
    obtain ⟨t, rfl⟩ := ru
    obtain ⟨t', rfl⟩ := rv
    intro E Q q
    exact wpAny_eqBool_str (by simpa using q)
  | @dict a b ks ls ne ea eb hlen hp =>
    cases ru
    cases rv
    refine SeqAt.eqP_refs ne fun E Q q => ?_
    obtain ⟨_, ya, va, ra, da⟩ := (show ObjOk X.prog X.w H s.heap a (.dK ks) from I.hok a _ ea)
    obtain ⟨_, yb, vb, rb, db⟩ := (show ObjOk X.prog X.w H s.heap b (.dK ls) from I.hok b _ eb)
    have hl : va.length = vb.length := by rw [← ra.length, ← rb.length]; exact hlen
    exact PySem.W.keq_eq (knd := mixKind X.prog X.w) (r := true) ya yb da db hu (fun _ => hits_all rb ra hp) (by simpa [hl] using q)
def rNeT : R2 := fun x y H Q => ∃ p q xs ys, x = .ref p ∧ y = .ref q ∧ H p = some (.tup xs) ∧ H q = some (.tup ys) ∧ Paired (EqI H) xs ys ∧ Q (.bl false) H
theorem zip_eq {X : Cx} {pins : List (Addr × Obj)} {σ : L2.St} {H : Hp} {s : Shared} {A : Around} (I : Inv X pins σ H s) (hu : A.units < cLine) : ∀ {xs ys : List V} {us vs : List Value}, Paired (EqI H) xs ys → Vals xs us → Vals ys vs → ∀ p ∈ us.zip vs, SeqAt.EqP X.prog X.w A s p.1 p.2 true
  | _, _, _, _, .nil, .nil, .nil, p, h => by simp at h
  | _, _, _, _, .cons e r, .cons a q, .cons b t, p, h => by
    rw [List.zip_cons_cons] at h
    rcases List.mem_cons.mp h with rfl | h
    · exact e.run I hu a b
    · exact zip_eq I hu r q t p h
theorem op_neT {X : Cx} (hu : X.A.units + 64 < cLine) : OpR X (compareOp .NotEq) rNeT := by
  intro pins s σ H x y v u Q I rx ry h
  obtain ⟨p, q, xs, ys, rfl, rfl, hp, hq, e, k⟩ := h
  cases rx
  cases ry
  obtain ⟨_, us, r1, p1⟩ := (show ObjOk X.prog X.w H s.heap p (.tup xs) from I.hok p _ hp)
  obtain ⟨_, vs, r2, p2⟩ := (show ObjOk X.prog X.w H s.heap q (.tup ys) from I.hok q _ hq)
  have hl : us.toArray.size = vs.toArray.size := by rw [List.size_toArray, List.size_toArray, ← r1.length, ← r2.length]; exact e.length
  show wpAny (model X.prog X.w) X.A (richCompare .NotEq (.ref p) (.ref q)) (EP X pins σ Q) X.xe s
  exact tup_ne p1 p2 hl (by omega) (by simpa using zip_eq I (by simp; omega) e r1 r2) ⟨.bl false, H, I, rfl, k⟩
end Fh

set_option Elab.async false
set_option linter.all false
set_option maxRecDepth 100000
set_option maxHeartbeats 4000000
namespace Fh
open PySem L2 PyProof.Rows
/-! ### stores -/
abbrev Sto := List (Key × V)
abbrev sk (z : Str) : Key := Sum.inr z
def IntK (k : Sto) : Prop := ∀ p ∈ k, ∃ i : Int, p.2 = V.int i
def Uq (k : Sto) : Prop := ∀ p ∈ k, valV k p.1 = some p.2
def got (k : Sto) (z : Str) : Int := match valV k (sk z) with
  | some (.int i) => i
  | _ => 0
theorem valV_in {k : Sto} {x : Key} {v : V} (h : valV k x = some v) : (x, v) ∈ k := by
  unfold valV at h
  cases q : k.find? fun kv => decide (kv.1 = x) with
  | none => rw [q] at h; cases h
  | some p =>
    rw [q] at h
    cases h
    have h1 := List.find?_some q
    have h2 := List.mem_of_find?_eq_some q
    have e : p.1 = x := of_decide_eq_true h1
    rw [← e]
    exact h2
theorem got_val {k : Sto} (h : IntK k) (z : Str) : (valV k (sk z)).getD (.int 0) = .int (got k z) := by
  unfold got
  cases q : valV k (sk z) with
  | none => rfl
  | some v =>
    obtain ⟨i, e⟩ := h _ (valV_in q)
    have e : v = .int i := e
    rw [e]
    rfl
theorem mem_put {k : Sto} {x : Key} {v : V} {p : Key × V} (h : p ∈ putK k x v) : p = (x, v) ∨ (p ∈ k ∧ p.1 ≠ x) := by
  unfold putK at h
  split at h
  · obtain ⟨q, hq, e⟩ := List.mem_map.mp h
    by_cases c : q.1 = x
    · rw [if_pos c] at e
      exact .inl (by rw [← e, c])
    · rw [if_neg c] at e
      exact .inr ⟨e ▸ hq, e ▸ c⟩
  · rename_i c
    rcases List.mem_append.mp h with h | h
    · refine .inr ⟨h, fun e => c ?_⟩
      exact List.any_eq_true.mpr ⟨p, h, decide_eq_true e⟩
    · exact .inl (List.mem_singleton.mp h)
theorem IntK.put {k : Sto} (h : IntK k) (x : Key) (i : Int) : IntK (putK k x (.int i)) := fun p hp => by
  rcases mem_put hp with rfl | ⟨hp, _⟩
  · exact ⟨i, rfl⟩
  · exact h p hp
theorem Uq.put {k : Sto} (h : Uq k) (x : Key) (v : V) : Uq (putK k x v) := fun p hp => by
  rw [valV_put]
  rcases mem_put hp with rfl | ⟨hp, ne⟩
  · rw [if_pos rfl]
  · rw [if_neg ne]
    exact h p hp
/-! ### what is asked with -/
structure Vl where
  wb : Str
  a : Int
  b : Int
  c : Int
def Vl.k (v : Vl) : Sto := [(sk "wa", .str "a"), (sk "wb", .str v.wb), (sk "sa", .int v.a), (sk "sb", .int v.b), (sk "sc", .int v.c)]
def IsW (z : Str) : Prop := z = "wa" ∨ z = "wb"
def IsS (z : Str) : Prop := z = "sa" ∨ z = "sb" ∨ z = "sc"
def Vl.w (v : Vl) (z : Str) : Str := if z = "wa" then "a" else v.wb
def Vl.n (v : Vl) (z : Str) : Int := if z = "sa" then v.a else if z = "sb" then v.b else v.c
theorem kn {z y : Str} (h : z ≠ y) : ¬ sk z = sk y := fun e => h (by injection e)
theorem Vl.atW (v : Vl) {z : Str} (h : IsW z) : valV v.k (sk z) = some (.str (v.w z)) := by
  unfold Vl.k
  rcases h with rfl | rfl
  · exact valV_pos rfl
  · rw [valV_neg (kn (by decide +kernel)), valV_pos rfl]
    unfold Vl.w
    rw [if_neg (by decide +kernel)]
theorem Vl.atS (v : Vl) {z : Str} (h : IsS z) : valV v.k (sk z) = some (.int (v.n z)) := by
  unfold Vl.k
  rcases h with rfl | rfl | rfl
  · rw [valV_neg (kn (by decide +kernel)), valV_neg (kn (by decide +kernel)), valV_pos rfl]
    unfold Vl.n
    rw [if_pos rfl]
  · rw [valV_neg (kn (by decide +kernel)), valV_neg (kn (by decide +kernel)), valV_neg (kn (by decide +kernel)), valV_pos rfl]
    unfold Vl.n
    rw [if_neg (by decide +kernel), if_pos rfl]
  · rw [valV_neg (kn (by decide +kernel)), valV_neg (kn (by decide +kernel)), valV_neg (kn (by decide +kernel)), valV_neg (kn (by decide +kernel)), valV_pos rfl]
    unfold Vl.n
    rw [if_neg (by decide +kernel), if_neg (by decide +kernel)]
/-! ### deeds -/
inductive Dd where
  | tell (f w : Str)
  | take (w s u : Str)
  | add (w s : Str)
def Dd.ps : Dd → List Str
  | .tell f w => ["tell", f, w]
  | .take w s u => ["take", w, s, u]
  | .add w s => ["add", w, s]
def Dd.d (d : Dd) : PyData := .tuple (d.ps.map PyData.str)
def Dd.ok : Dd → Prop
  | .tell _ w => IsW w
  | .take w s _ => IsW w ∧ IsS s
  | .add w s => IsW w ∧ IsS s
theorem TpAll.istrs {H : Hp} : ∀ {zs : List Str} {vs : List V}, TpAll H vs (zs.map PyData.str) → vs = zs.map V.str
  | [], _, h => h.inil
  | z :: zs, _, h => by
    obtain ⟨v, r, rfl, t, q⟩ := TpAll.icons h
    rw [t.istr, TpAll.istrs q]
    rfl
theorem Dd.inv {H : Hp} {v : V} {d : Dd} (h : Tp H v d.d) : ∃ t, v = .ref t ∧ H t = some (.tup (d.ps.map V.str)) := by
  obtain ⟨a, xs, rfl, ha, q⟩ := h.inv
  rw [TpAll.istrs q] at ha
  exact ⟨a, rfl, ha⟩
def great : Str := "great"
def mv (v : Vl) (d : Dd) (h : Sto) : Sum Str Sto := match d with
  | .take w s u => if got h (v.w w) < v.n s then .inl u else .inr (putK h (sk (v.w w)) (.int (got h (v.w w) - v.n s)))
  | .add w s => if 1000000000 < got h (v.w w) + v.n s then .inl great else .inr (putK h (sk (v.w w)) (.int (got h (v.w w) + v.n s)))
  | .tell _ _ => .inr h
def an (v : Vl) (d : Dd) (h a : Sto) : Sto := match d with
  | .tell f w => putK a (sk f) (.int (got h (v.w w)))
  | _ => a
def runD (v : Vl) : List Dd → Sto → Sto → Sum Str (Sto × Sto)
  | [], h, a => .inr (h, a)
  | d :: ds, h, a => match mv v d h with
    | .inl u => .inl u
    | .inr h' => runD v ds h' (an v d h a)
/-- a store as it may be -/
structure StOk (k : Sto) (n : Nat) : Prop where
  i : IntK k
  u : Uq k
  l : k.length ≤ n
theorem StOk.put {k : Sto} {n : Nat} (h : StOk k n) (x : Key) (i : Int) : StOk (putK k x (.int i)) (n + 1) := ⟨h.i.put x i, h.u.put x _, Nat.le_trans (length_putK _ _ _) (Nat.succ_le_succ h.l)⟩
theorem StOk.mono {k : Sto} {n m : Nat} (h : StOk k n) (hm : n ≤ m) : StOk k m := ⟨h.i, h.u, Nat.le_trans h.l hm⟩
theorem mv_ok {v : Vl} {d : Dd} {h h' : Sto} {n : Nat} (s : StOk h n) (e : mv v d h = .inr h') : StOk h' (n + 1) := by
  unfold mv at e
  cases d with
  | tell f w =>
    cases e
    exact s.mono (Nat.le_succ _)
  | take w s' u =>
    dsimp only at e
    split at e
    · cases e
    · cases e
      exact s.put _ _
  | add w s' =>
    dsimp only at e
    split at e
    · cases e
    · cases e
      exact s.put _ _
theorem an_ok {v : Vl} {d : Dd} {h a : Sto} {n : Nat} (s : StOk a n) : StOk (an v d h a) (n + 1) := by
  unfold an
  cases d with
  | tell f w => exact s.put _ _
  | take w s' u => exact s.mono (Nat.le_succ _)
  | add w s' => exact s.mono (Nat.le_succ _)
/-! ### moved -/
abbrev sMoved : Stmt := top 17
def spMoved : Sp := fun vs H Q _ => ∃ (t vd hd : Addr) (d : Dd) (v : Vl) (h : Sto), vs = [.ref t, .ref vd, .ref hd] ∧ H t = some (.tup (d.ps.map V.str)) ∧ d.ok ∧ (∀ f w, d ≠ .tell f w) ∧ H vd = some (.dK v.k) ∧ H hd = some (.dK h) ∧ StOk h 1000 ∧
  (∀ u, mv v d h = .inl u → Q (.str u) H) ∧ ∀ h', mv v d h = .inr h' → Q .non (upd H hd (.dK h'))
abbrev pMoved : List Str := ["deed", "value", "held"]
abbrev nMoved : List Str := ["deed", "value", "held", "text", "many", "there"]
section
variable {P : Program} {w : World} {K : PySem.W.Frag} {mg : Str → Option Value} {base : Heap}
theorem scMoved : FnScope nMoved pMoved (defScope sMoved) := ⟨rfl, rfl, rfl, by decide +kernel, rfl, by decide +kernel, by decide +kernel⟩
theorem iteY {A B : Prop} {c : Bool} (h : c = true) (a : A) : if c = true then A else B := by
  rw [h]
  exact iteT a
theorem iteN {A B : Prop} {c : Bool} (h : c = false) (b : B) : if c = true then A else B := by
  rw [h]
  exact iteF b
theorem sne {a b : Str} (h : a ≠ b) : decide (V.str a = V.str b) = false := decide_eq_false fun e => h (by injection e)
theorem seq (a : Str) : decide (V.str a = V.str a) = true := decide_eq_true rfl
theorem isD {H : Hp} {a : Addr} {k : Sto} (h : H a = some (.dK k)) : IsD H a := .inl ⟨_, .inl h⟩
theorem ok_moved {f : Addr} {fd : FuncData} (F : Fun K "moved" "moved" sMoved f fd) {tG tB : Tok} (mG : mg "GREATEST_WHOLE" = some (.int 1000000000 tG)) (mB : mg "TOO_GREAT" = some (.str great tB)) : FnOk P w K mg base CX0 1 f fd pMoved spMoved := by
  refine F.ok scMoved (fun vs H Q E h => ?_) (fun cdv A outer s H vs Q E hr h => ?_)
  · obtain ⟨t, vd, hd, d, v, h, rfl, _⟩ := h
    rfl
  · obtain ⟨t, vd, hd, d, v, h, rfl, ht, ok, nt, hv, hh, so, q1, q2⟩ := h
    have hu := hu_of hr
    refine ⟨_, pss_cons (ps_set (i := 3) scMoved.nd rfl (Or.inl rfl) (pe_dget hu (pv 1) (pe_ix ix_tup (pv 0) pe_int (fun _ _ => rfl)) (fun _ _ => rfl)))
      (pss_cons (ps_set (i := 4) scMoved.nd rfl (Or.inl rfl) (pe_dget hu (pv 1) (pe_ix ix_tup (pv 0) pe_int (fun _ _ => rfl)) (fun _ _ => rfl)))
      (pss_cons (ps_set (i := 5) scMoved.nd rfl (Or.inl rfl) (pe_dget2 hu (pv 2) (pv 3) pe_int ⟨rfl, rfl, rfl, rfl⟩))
      (pss_cons (ps_if (pt_cmpR op_eq (pe_ix ix_tup (pv 0) pe_int (fun _ _ => rfl)) pe_str (nomark _))
        (pss_cons (ps_if (pt_cmpR op_gt (pv 4) (pv 5) (nomark _)) (pss_one (ps_ret (pe_ix ix_tup (pv 0) pe_int (fun _ _ => rfl)))) pss_nil)
        (pss_one (ps_dput hu (pv 2) (pv 3) (pe_op op_sub (pv 5) (pv 4)) rfl)))
        (pss_cons (ps_if (pt_cmpR op_gt (pe_op op_add (pv 5) (pv 4)) (pe_glob (v := .int 1000000000) rfl mG ⟨_, rfl⟩) (nomark _)) (pss_one (ps_ret (pe_glob (v := .str great) rfl mB ⟨_, rfl⟩))) pss_nil)
        (pss_one (ps_dput hu (pv 2) (pv 3) (pe_op op_add (pv 5) (pv 4)) rfl))))
      (pss_one (ps_ret pe_non))))), ?_⟩
    have hl : h.length < sizeLine := small1000 so.l
    cases d with
    | tell f w => exact absurd rfl (nt f w)
    | take w s u =>
      obtain ⟨okw, oks⟩ := ok
      refine ⟨_, rfl, _, rfl, t, _, _, _, rfl, rfl, SqT.of ht, rfl, vd, _, rfl, .inl ⟨_, sk w, .inl hv, rfl, (v.atW okw).symm⟩, ?_⟩
      refine ⟨_, rfl, _, rfl, t, _, _, _, rfl, rfl, SqT.of ht, rfl, vd, _, rfl, .inl ⟨_, sk s, .inl hv, rfl, (v.atS oks).symm⟩, ?_⟩
      refine ⟨_, rfl, hd, rfl, isD hh, _, rfl, _, DGet.k (k := sk (v.w w)) hh, ?_⟩
      rw [got_val so.i]
      refine ⟨_, rfl, t, _, _, _, rfl, rfl, SqT.of ht, rfl, rfl, _, rfl, iteY (seq _) ?_⟩
      refine ⟨_, rfl, _, rfl, _, _, rfl, rfl, _, rfl, ite2 (fun c => ?_) (fun c => ?_)⟩
      · have c' : got h (v.w w) < v.n s := of_decide_eq_true c
        exact ⟨_, rfl, t, _, _, _, rfl, rfl, SqT.of ht, rfl, q1 u (if_pos c')⟩
      · have c' : ¬ got h (v.w w) < v.n s := fun e => c (decide_eq_true e)
        exact ⟨_, rfl, _, rfl, _, _, rfl, rfl, _, rfl, _, rfl, hd, _, rfl, DPut.k (k := sk (v.w w)) hh hl, q2 _ (if_neg c')⟩
    | add w s =>
      obtain ⟨okw, oks⟩ := ok
      refine ⟨_, rfl, _, rfl, t, _, _, _, rfl, rfl, SqT.of ht, rfl, vd, _, rfl, .inl ⟨_, sk w, .inl hv, rfl, (v.atW okw).symm⟩, ?_⟩
      refine ⟨_, rfl, _, rfl, t, _, _, _, rfl, rfl, SqT.of ht, rfl, vd, _, rfl, .inl ⟨_, sk s, .inl hv, rfl, (v.atS oks).symm⟩, ?_⟩
      refine ⟨_, rfl, hd, rfl, isD hh, _, rfl, _, DGet.k (k := sk (v.w w)) hh, ?_⟩
      rw [got_val so.i]
      refine ⟨_, rfl, t, _, _, _, rfl, rfl, SqT.of ht, rfl, rfl, _, rfl, iteN (sne (by decide +kernel)) ?_⟩
      refine ⟨_, rfl, _, rfl, _, _, rfl, rfl, _, _, rfl, rfl, _, rfl, ite2 (fun c => ?_) (fun c => ?_)⟩
      · have c' : 1000000000 < got h (v.w w) + v.n s := of_decide_eq_true c
        exact q1 great (if_pos c')
      · have c' : ¬ 1000000000 < got h (v.w w) + v.n s := fun e => c (decide_eq_true e)
        exact ⟨_, rfl, _, rfl, _, _, rfl, rfl, _, rfl, _, rfl, hd, _, rfl, DPut.k (k := sk (v.w w)) hh hl, q2 _ (if_neg c')⟩
/-! ### do_at_home -/
abbrev sHome : Stmt := top 16
abbrev pHome : List Str := ["deed", "value", "held", "answer"]
def spHome : Sp := fun vs H Q _ => ∃ (t vd hd ad : Addr) (d : Dd) (v : Vl) (h a : Sto), vs = [.ref t, .ref vd, .ref hd, .ref ad] ∧ H t = some (.tup (d.ps.map V.str)) ∧ d.ok ∧ H vd = some (.dK v.k) ∧ H hd = some (.dK h) ∧ StOk h 1000 ∧ H ad = some (.dK a) ∧ StOk a 1000 ∧ hd ≠ ad ∧
  (∀ u H', mv v d h = .inl u → Same H H' → Q (.str u) H') ∧ ∀ h' H', mv v d h = .inr h' → (∀ b o, b ≠ hd → b ≠ ad → H b = some o → H' b = some o) → H' hd = some (.dK h') → H' ad = some (.dK (an v d h a)) → Q .non H'
theorem Same.new {H : Hp} {p : Addr} {o : HO} (h : H p = none) : Same H (upd H p o) := fun a u e => by
  rw [upd_ne (ne_of_none e h)]
  exact e
theorem Same.wr {H H1 : Hp} {p : Addr} {o : HO} (s : Same H H1) (h : H p = none) : Same H (upd H1 p o) := fun a u e => by
  rw [upd_ne (ne_of_none e h)]
  exact s a u e
theorem scHome : FnScope pHome pHome (defScope sHome) := ⟨rfl, rfl, rfl, by decide +kernel, rfl, by decide +kernel, by decide +kernel⟩
theorem ok_home {f : Addr} {fd : FuncData} (F : Fun K "do_at_home" "do_at_home" sHome f fd) (DM : Has P w K mg base "moved" 1 pMoved spMoved) : FnOk P w K mg base CX0 2 f fd pHome spHome := by
  refine F.ok scHome (fun vs H Q E h => ?_) (fun cdv A outer s H vs Q E hr h => ?_)
  · obtain ⟨t, vd, hd, ad, d, v, h, a, rfl, _⟩ := h
    rfl
  · obtain ⟨t, vd, hd, ad, d, v, h, a, rfl, ht, ok, hv, hh, so, ha, sa, ne, q1, q2⟩ := h
    have hu := hu_of hr
    refine ⟨_, pss_cons (ps_if (pt_cmpR op_in_seq (pe_ix ix_tup (pv 0) pe_int (fun _ _ => rfl)) (pe_tup (pa_cons pe_str (pa_cons pe_str pa_nil))) rfl) (pss_one (ps_ret (pe_has DM hr rfl (pa_cons (pv 0) (pa_cons (pv 1) (pa_cons (pv 2) pa_nil)))))) pss_nil)
      (pss_cons (ps_if (pt_cmpR op_eq (pe_ix ix_tup (pv 0) pe_int (fun _ _ => rfl)) pe_str (nomark _))
        (pss_one (ps_dput hu (pv 3) (pe_ix ix_tup (pv 0) pe_int (fun _ _ => rfl)) (pe_dget2 hu (pv 2) (pe_dget hu (pv 1) (pe_ix ix_tup (pv 0) pe_int (fun _ _ => rfl)) (fun _ _ => rfl)) pe_int ⟨rfl, rfl, rfl, rfl⟩) rfl))
        (pss_one ps_never))
      (pss_one (ps_ret pe_non))), ?_⟩
    cases d with
    | tell f w =>
      refine ⟨_, rfl, t, _, _, _, rfl, rfl, SqT.of ht, rfl, (by show 2 ≤ sizeLine; decide), fun t2 ht2 => ?_⟩
      have S : Same H (upd H t2 (.tup [.str "take", .str "add"])) := Same.new ht2
      refine ⟨t2, _, rfl, .inr (SqT.of upd_same), rfl, rfl, _, rfl, iteN (by rfl) ?_⟩
      refine ⟨_, rfl, t, _, _, _, rfl, rfl, SqT.of (S _ _ ht), rfl, rfl, _, rfl, iteY (seq _) ?_⟩
      refine ⟨_, rfl, hd, rfl, isD (S _ _ hh), _, rfl, _, rfl, t, _, _, _, rfl, rfl, SqT.of (S _ _ ht), rfl, vd, _, rfl, .inl ⟨_, sk w, .inl (S _ _ hv), rfl, (v.atW ok).symm⟩, _, DGet.k (k := sk (v.w w)) (S _ _ hh), ?_⟩
      rw [got_val so.i]
      refine ⟨_, rfl, _, rfl, t, _, _, _, rfl, rfl, SqT.of (S _ _ ht), rfl, ad, _, rfl, DPut.k (k := sk f) (S _ _ ha) (small1000 sa.l), q2 h _ rfl (fun b o _ n2 e => ?_) ?_ upd_same⟩
      · rw [upd_ne n2]
        exact S _ _ e
      · rw [upd_ne ne]
        exact S _ _ hh
    | take w s u =>
      refine ⟨_, rfl, t, _, _, _, rfl, rfl, SqT.of ht, rfl, (by show 2 ≤ sizeLine; decide), fun t2 ht2 => ?_⟩
      have S : Same H (upd H t2 (.tup [.str "take", .str "add"])) := Same.new ht2
      refine ⟨t2, _, rfl, .inr (SqT.of upd_same), rfl, rfl, _, rfl, iteY (by rfl) ?_⟩
      refine ⟨_, rfl, _, rfl, _, rfl, t, vd, hd, .take w s u, v, h, rfl, S _ _ ht, ok, (fun _ _ e => by cases e), S _ _ hv, S _ _ hh, so, fun u' e => q1 u' _ e S, fun h' e => q2 h' _ e (fun b o n1 _ e => ?_) upd_same ?_⟩
      · rw [upd_ne n1]
        exact S _ _ e
      · rw [upd_ne (Ne.symm ne)]
        exact S _ _ ha
    | add w s =>
      refine ⟨_, rfl, t, _, _, _, rfl, rfl, SqT.of ht, rfl, (by show 2 ≤ sizeLine; decide), fun t2 ht2 => ?_⟩
      have S : Same H (upd H t2 (.tup [.str "take", .str "add"])) := Same.new ht2
      refine ⟨t2, _, rfl, .inr (SqT.of upd_same), rfl, rfl, _, rfl, iteY (by rfl) ?_⟩
      refine ⟨_, rfl, _, rfl, _, rfl, t, vd, hd, .add w s, v, h, rfl, S _ _ ht, ok, (fun _ _ e => by cases e), S _ _ hv, S _ _ hh, so, fun u' e => q1 u' _ e S, fun h' e => q2 h' _ e (fun b o n1 _ e => ?_) upd_same ?_⟩
      · rw [upd_ne n1]
        exact S _ _ e
      · rw [upd_ne (Ne.symm ne)]
        exact S _ _ ha
end
end Fh

set_option Elab.async false
set_option linter.all false
set_option maxRecDepth 100000
set_option maxHeartbeats 4000000
namespace Fh
open PySem L2 PyProof.Rows
/-! ### a face's attributes -/
def ff (nm ed ch rc cl : V) : List (Str × V) := putF "calls" cl (putF "records" rc (putF "choices" ch (putF "edition" ed (putF "name" nm []))))
section
variable {nm ed ch rc cl : V}
theorem ff_name : (ff nm ed ch rc cl).lookup ("name" : Str) = some nm := by
  unfold ff
  rw [lookup_putF, if_neg (by decide +kernel), lookup_putF, if_neg (by decide +kernel), lookup_putF, if_neg (by decide +kernel), lookup_putF, if_neg (by decide +kernel), lookup_putF, if_pos rfl]
theorem ff_edition : (ff nm ed ch rc cl).lookup ("edition" : Str) = some ed := by
  unfold ff
  rw [lookup_putF, if_neg (by decide +kernel), lookup_putF, if_neg (by decide +kernel), lookup_putF, if_neg (by decide +kernel), lookup_putF, if_pos rfl]
theorem ff_choices : (ff nm ed ch rc cl).lookup ("choices" : Str) = some ch := by
  unfold ff
  rw [lookup_putF, if_neg (by decide +kernel), lookup_putF, if_neg (by decide +kernel), lookup_putF, if_pos rfl]
theorem ff_records : (ff nm ed ch rc cl).lookup ("records" : Str) = some rc := by
  unfold ff
  rw [lookup_putF, if_neg (by decide +kernel), lookup_putF, if_pos rfl]
theorem ff_calls : (ff nm ed ch rc cl).lookup ("calls" : Str) = some cl := by
  unfold ff
  rw [lookup_putF, if_pos rfl]
end

/-! ### dict comprehensions over anything that is walked -/
theorem dc_walk {J : It} {n : Nat} {G : Hp → Prop} {Y : Nat → Hp → V → Hp → Prop} (wk : Walk J n G Y) {g : TG} {tt : TT} {tk tv : TE} {vs : List Nat} {σ : L2.St} {H1 : Hp} {D : Addr} {Qd : Hp → Prop} (Pv : Nat → Hp → Prop) (h0 : Pv 0 (upd H1 D (.dK []))) (hG : ∀ i H, i ≤ n → Pv i H → G H)
    (hs : ∀ i x H H', i < n → Pv i H → Y i H x H' → g x (wipe σ vs) H' fun σ2 H2 => wipe σ2 vs = wipe σ vs ∧ tt σ2 H2 fun b H3 =>
      if b = true then tk σ2 H3 fun y H4 => tv σ2 H4 fun z H5 => ∃ kvs k, y = kV k ∧ H5 D = some (.dK kvs) ∧ kvs.length < sizeLine ∧ Pv (i + 1) (upd H5 D (.dK (putK kvs k z))) else Pv (i + 1) H3) (hd : ∀ H, Pv n H → Qd H) :
    ∃ W : Nat → Nat → Hp → Prop, (∃ m, W 0 m (upd H1 D (.dK []))) ∧ ∀ i m H, W i m H →
      (J.stop i H ∧ Qd H) ∨ (J.go i H ∧ ∃ Nx : Hp → Prop, (∀ H', Nx H' → ∃ m', m' < m ∧ W (i + 1) m' H') ∧ ∀ x H', J.yld i H x H' → g x (wipe σ vs) H' fun σ2 H2 => wipe σ2 vs = wipe σ vs ∧ tt σ2 H2 fun b H3 =>
        if b = true then tk σ2 H3 fun y H4 => tv σ2 H4 fun z H5 => ∃ kvs k, y = kV k ∧ H5 D = some (.dK kvs) ∧ kvs.length < sizeLine ∧ Nx (upd H5 D (.dK (putK kvs k z))) else Nx H3) := by
  refine ⟨fun i m H => m + i = n ∧ Pv i H, ⟨n, Nat.add_zero _, h0⟩, fun i m H ⟨hm, p⟩ => ?_⟩
  have q := hG i H (by omega) p
  cases m with
  | zero =>
    have e : i = n := by omega
    rw [e] at p
    rw [e]
    exact .inl ⟨wk.stops H q, hd H p⟩
  | succ m => exact .inr ⟨wk.goes i H (by omega) q, Pv (i + 1), fun H' p' => ⟨m, Nat.lt_succ_self _, by omega, p'⟩, fun x H' y => hs i x H H' (by omega) p (wk.yields i H x H' (by omega) q y)⟩
/-! ### is_whole, call_of -/
abbrev sWhole : Stmt := top 5
abbrev sCallOf : Stmt := inClass (top 22) 5
def spWhole : Sp := fun vs H Q _ => ∃ i : Int, vs = [.int i] ∧ Q (.bl true) H
def spCallOf (C : Addr) : Sp := fun vs H Q _ => ∃ (a dx cl c1 : Addr) (v1 v2 v3 v4 : V) (n : Int) (xs : List V), vs = [.ref a, .int n] ∧ H a = some (.ins C dx (ff v1 v2 v3 v4 (.ref cl))) ∧ H cl = some (.tup [.ref c1]) ∧ H c1 = some (.tup (.int n :: xs)) ∧ Q (.ref c1) H
/-- an own method called -/
structure HasM (P : Program) (w : World) (K : PySem.W.Frag) (mg : Str → Option Value) (base : Heap) (C : Addr) (m : Str) (k : Nat) (ps : List Str) (sp : Sp) : Prop where
  cl : Cls K C
  ex : ∃ (f : Addr) (fd : FuncData), Meth K C m f ∧ Binds K fd ps [] ∧ FnOk P w K mg base CX0 k f fd ps sp
theorem pe_hasM {X : Cx} {C : Addr} {k : Nat} {m : Str} {ps : List Str} {sp : Sp} {o e : Expr} {es : List Expr} {ta : TE} {t : TA} {apos pos : Pos} {pl : Sem Bool} (D : HasM X.prog X.w X.K X.mg X.base C m k ps sp) (hr : Room k X.A) (ho : PE X o ta) (ha : PA X (e :: es) t)
    (hst : starEach (e :: es) X.env = (false, eval e X.env) :: starEach es X.env := by rfl) (hpl : (backTo pos (starEach es X.env)).any (·.1) = false := by rfl)
    (ht : eval (.Call (.Attribute o m apos) (e :: es) [] pos) X.env = (do
      let ov ← eval o X.env
      standAt apos.atName
      let (f, first) ← holding [ov] (getMethod ov m pl)
      callWith pos f first (backTo pos (starEach (e :: es) X.env)) (backToKw pos (keywordEach [] X.env))) := by rfl) :
    PE X (.Call (.Attribute o m apos) (e :: es) [] pos) (tMeth C m sp [] E0 ta t) := by
  obtain ⟨f, fd, hm, hb, F⟩ := D.ex
  exact pe_meth (pl := pl) ho D.cl hm F hr hb .nil pass0 ha hst hpl ht
section
variable {P : Program} {w : World} {K : PySem.W.Frag} {mg : Str → Option Value} {base : Heap}
theorem scWhole : FnScope ["thing"] ["thing"] (defScope sWhole) := ⟨rfl, rfl, rfl, by decide +kernel, rfl, by decide +kernel, by decide +kernel⟩
theorem scCallOf : FnScope ["self", "number", "call"] ["self", "number"] (defScope sCallOf) := ⟨rfl, rfl, rfl, by decide +kernel, rfl, by decide +kernel, by decide +kernel⟩
theorem ok_whole {f : Addr} {fd : FuncData} (F : Fun K "is_whole" "is_whole" sWhole f fd) (G : Glb mg) : FnOk P w K mg base CX0 1 f fd ["thing"] spWhole := by
  refine F.ok scWhole (fun vs H Q E h => ?_) (fun cdv A outer s H vs Q E hr h => ?_)
  · obtain ⟨i, rfl, _⟩ := h
    rfl
  · obtain ⟨i, rfl, q⟩ := h
    refine ⟨_, pss_one (ps_ret (pe_and (pe_callB call_isi (by rfl) G.isi (by decide +kernel) (pa_cons (pv 0) (pa_cons (pe_bltn (v := .ty "int") rfl G.int (by decide +kernel) rfl) pa_nil))) (pe_one (pe_not (pe_callB call_isi (by rfl) G.isi (by decide +kernel) (pa_cons (pv 0) (pa_cons (pe_bltn (v := .ty "bool") rfl G.bool (by decide +kernel) rfl) pa_nil))))))), ?_⟩
    exact ⟨_, rfl, _, _, .type "int", .type "int", true, rfl, .ty _, .base (.int i), rfl, true, rfl, iteT ⟨_, rfl, _, _, .type "int", .type "bool", false, rfl, .ty _, .base (.int i), rfl, false, rfl, q⟩⟩
theorem ok_callOf {C f : Addr} {fd : FuncData} (F : Fun K "call_of" "Face.call_of" sCallOf f fd) (cl : Cls K C) (n5 : NoAttr K C "calls") (DW : Has P w K mg base "is_whole" 1 ["thing"] spWhole) : FnOk P w K mg base CX0 2 f fd ["self", "number"] (spCallOf C) := by
  refine F.ok scCallOf (fun vs H Q E h => ?_) (fun cdv A outer s H vs Q E hr h => ?_)
  · obtain ⟨a, dx, cla, c1, v1, v2, v3, v4, n, xs, rfl, _⟩ := h
    rfl
  · obtain ⟨a, dx, cla, c1, v1, v2, v3, v4, n, xs, rfl, ha, hc, h1, q⟩ := h
    refine ⟨_, pss_cons (ps_if (pt_val (pe_has DW hr rfl (pa_cons (pv 1) pa_nil))) (pss_one (ps_for PassesOwn.never rfl (pi_tup (pe_fld (pv 0) rfl)) (pg_name (i := 2) scCallOf.nd rfl (.inl rfl))
        (pss_one (ps_if (pt_cmpR op_eq (pe_ix ix_tup (pv 2) pe_int (fun _ _ => rfl)) (pv 1) (nomark _)) (pss_one (ps_ret (pv 2))) pss_nil)))) pss_nil) (pss_one ps_never), ?_⟩
    refine ⟨_, rfl, n, rfl, true, rfl, iteT ?_⟩
    refine ⟨_, rfl, a, C, dx, _, _, rfl, ha, cl, n5, ff_calls, cla, rfl, ⟨_, SqT.of hc⟩, ?_⟩
    refine for_tup (xs := [.ref c1]) (fun i σ H3 => H3 = H ∧ (∃ a2, σ = [some (.ref a), some (.int n), a2]) ∧ i = 0) ?_ ?_ ?_ ?_
    · exact ⟨rfl, ⟨_, rfl⟩, rfl⟩
    · rintro i σ H3 _ ⟨rfl, _⟩
      exact SqT.of hc
    · rintro i x σ H3 hx ⟨rfl, ⟨a2, rfl⟩, rfl⟩
      cases hx
      exact ⟨_, rfl, c1, _, _, _, rfl, rfl, SqT.of h1, atI_nat (j := 0) rfl, _, rfl, rfl, _, rfl, iteY (decide_eq_true rfl) ⟨_, rfl, q⟩⟩
    · rintro σ H3 ⟨rfl, _, e⟩
      cases e
end
end Fh

set_option Elab.async false
set_option linter.all false
set_option maxRecDepth 100000
set_option maxHeartbeats 4000000
namespace Fh
open PySem L2 PyProof.Rows
abbrev sOut : Stmt := top 15
def nz (p : Key × V) : Bool := !decide (p.2 = V.int 0)
def left (h : Sto) : Sto := mergeK [] (h.filter nz)
/-- what a call comes to, new since H0 -/
def Res (H0 H : Hp) (r : V) : Sum Str (Sto × Sto) → Prop
  | .inl u => ∃ t, r = .ref t ∧ H t = some (.tup [.str "fault", .str u])
  | .inr (h, a) => ∃ t A S, r = .ref t ∧ H t = some (.tup [.str "done", .ref A, .ref S]) ∧ H A = some (.dK a) ∧ H S = some (.dK (left h)) ∧ H0 A = none ∧ H0 S = none ∧ StOk h 1000 ∧ StOk a 1000
structure Face7 (C : Addr) (H : Hp) (fa : Addr) (ds : List Dd) : Prop where
  ex : ∃ (dx cl c1 dt : Addr) (v1 v2 v3 v4 x2 x3 x4 : V), H fa = some (.ins C dx (ff v1 v2 v3 v4 (.ref cl))) ∧ H cl = some (.tup [.ref c1]) ∧ H c1 = some (.tup [.int 7, x2, x3, x4, .ref dt]) ∧ Tp H (.ref dt) (.tuple (ds.map Dd.d))
def spOut (C : Addr) : Sp := fun vs H Q _ => ∃ (fa vd sd : Addr) (s1 a1 : V) (ds : List Dd) (v : Vl) (h0 : Sto), vs = [.ref fa, s1, .int 7, .ref vd, .ref sd, a1] ∧ Face7 C H fa ds ∧ H vd = some (.dK v.k) ∧ H sd = some (.dK h0) ∧ StOk h0 3 ∧ ds.length ≤ 6 ∧ (∀ d ∈ ds, d.ok) ∧
  ∀ r H', Same H H' → Res H H' r (runD v ds h0 []) → Q r H'
abbrev pOut : List Str := ["face", "spoken", "number", "value", "store", "answers"]
abbrev nOut : List Str := ["face", "spoken", "number", "value", "store", "answers", "deeds", "held", "answer", "taken", "place", "deed", "goal", "fault", "text"]
theorem left_step {h : Sto} {i : Nat} {p : Key × V} (e : h[i]? = some p) : (h.take (i + 1)).filter nz = (h.take i).filter nz ++ (if nz p = true then [p] else []) := by
  rw [List.take_succ, e, List.filter_append]
  show _ ++ [p].filter nz = _
  cases q : nz p with
  | true => rw [List.filter_cons_of_pos q]; rfl
  | false => rw [List.filter_cons_of_neg (by rw [q]; exact Bool.false_ne_true)]; rfl
theorem merge_snoc (l : Sto) (p : Key × V) : mergeK [] (l ++ [p]) = putK (mergeK [] l) p.1 p.2 := by
  unfold mergeK
  rw [List.foldl_append]
  rfl
theorem merge_len (l : Sto) : (mergeK [] l).length ≤ l.length := by
  have := length_mergeK l []
  simpa using this
section
variable {P : Program} {w : World} {K : PySem.W.Frag} {mg : Str → Option Value} {base : Heap}
theorem scOut : FnScope nOut pOut (defScope sOut) := ⟨rfl, rfl, rfl, by decide +kernel, rfl, by decide +kernel, by decide +kernel⟩
theorem ok_out {C f : Addr} {fd : FuncData} {kws : List (Str × V)} (F : FunD K "outcome" "outcome" (defArgs sOut) (defBody sOut) (defScope sOut) [] kws f fd) (G : Glb mg) (DC : HasM P w K mg base C "call_of" 2 ["self", "number"] (spCallOf C)) (DH : Has P w K mg base "do_at_home" 2 pHome spHome) : FnOk P w K mg base CX0 3 f fd pOut (spOut C) := by
  refine F.ok scOut (fun vs H Q E h => ?_) (fun cdv A outer s H vs Q E hr h => ?_)
  · obtain ⟨fa, vd, sd, s1, a1, ds, v, h0, rfl, _⟩ := h
    rfl
  · obtain ⟨fa, vd, sd, s1, a1, ds, v, h0, rfl, ⟨dx, cl, c1, dt, v1, v2, v3, v4, x2, x3, x4, hfa, hcl, hc1, tdt⟩, hv, hs, so, ld, okd, k⟩ := h
    have hu := hu_of hr
    refine ⟨_, PSs.nox (pss_cons (ps_set (i := 6) scOut.nd rfl (Or.inl rfl) (pe_ix ix_tup (pe_hasM DC hr (pv 0) (pa_cons (pv 2) pa_nil)) pe_int (fun _ _ => rfl)))
      (pss_cons (ps_set (i := 7) scOut.nd rfl (Or.inr rfl) (pe_callTy call_dictD (by rfl) G.dict (by decide +kernel) (pa_cons (pv 4) pa_nil)))
      (pss_cons (ps_set (i := 8) scOut.nd rfl (Or.inl rfl) pe_dnewK)
      (pss_cons (ps_set (i := 9) scOut.nd rfl (Or.inl rfl) pe_int)
      (pss_cons (ps_for PassesOwn.never rfl (pi_enumT rfl G.enumerate (pa_cons (pv 6) pa_nil)) (pg_tup rfl (pgs_cons (pg_name (i := 10) scOut.nd rfl (.inl rfl)) (pgs_cons (pg_name (i := 11) scOut.nd rfl (.inl rfl)) pgs_nil)))
        (pss_cons (ps_if (pt_cmpR op_eq (pe_ix ix_tup (pv 11) pe_int (fun _ _ => rfl)) pe_str (nomark _)) (pss_cons ps_never (pss_cons ps_never (pss_one ps_never)))
          (pss_one (ps_if (pt_cmpR op_eq (pe_ix ix_tup (pv 11) pe_int (fun _ _ => rfl)) pe_str (nomark _)) (pss_cons ps_never (pss_one ps_never)) (pss_one (ps_set (i := 13) scOut.nd rfl (Or.inl rfl) (pe_has DH hr rfl (pa_cons (pv 11) (pa_cons (pv 3) (pa_cons (pv 7) (pa_cons (pv 8) pa_nil))))))))))
        (pss_one (ps_if (pt_cmpR op_notN (pv 13) pe_non (nomark _)) (pss_one (ps_ret (pe_tup (pa_cons pe_str (pa_cons (pv 13) pa_nil))))) pss_nil))))
      (pss_one (ps_ret (pe_tup (pa_cons pe_str (pa_cons (pv 8) (pa_cons (pe_lock (pe_dc (own := [("text", 14)]) (g := gName 14) (tt := tTest (tOp rNe (tDGet (tVar 7) (tVar 14)) (tC (.int 0)))) (tk := tVar 14) (tv := tDGet (tVar 7) (tVar 14)) rfl scOut.nd (pi_keys (pv 7)) (blkOk_by (N := nOut) (sc := defScope sOut) (by decide +kernel))
        (fun _ _ _ _ _ => pg_name (i := 14) scOut.nd rfl (Or.inl rfl)) (fun _ _ _ _ _ => pts_one (pt_cmpR op_ne (pe_dget hu (pv 7) (pv 14) (fun _ _ => rfl)) pe_int (nomark _))) (fun _ _ _ _ _ => pv 14) (fun _ _ _ _ _ => pe_dget hu (pv 7) (pv 14) (fun _ _ => rfl)))) pa_nil))))))))))), ?_⟩
    obtain ⟨dt', xs, e1, hdt, tds⟩ := tdt.inv
    cases e1
    refine ⟨_, rfl, fa, dx, _, rfl, hfa, ?_, _, rfl, fa, dx, cl, c1, v1, v2, v3, v4, 7, [x2, x3, x4, .ref dt], rfl, hfa, hcl, hc1, c1, _, _, _, rfl, rfl, SqT.of hc1, rfl, ?_⟩
    · unfold ff
      rw [lookup_putF, if_neg (by decide +kernel), lookup_putF, if_neg (by decide +kernel), lookup_putF, if_neg (by decide +kernel), lookup_putF, if_neg (by decide +kernel), lookup_putF, if_neg (by decide +kernel)]
      rfl
    refine ⟨_, rfl, sd, h0, rfl, .inl hs, fun hd hhd => fun ad had => ?_⟩
    have n1 : hd ≠ ad := fun e => by rw [← e, upd_same] at had; cases had
    have S1 : Same H (upd H hd (.dK h0)) := Same.new hhd
    have S2 : Same H (upd (upd H hd (.dK h0)) ad (.dK [])) := S1.trans (Same.new had)
    have hadH : H ad = none := S1.free had
    have hhd2 : (upd (upd H hd (.dK h0)) ad (.dK [])) hd = some (.dK h0) := by rw [upd_ne n1, upd_same]
    refine ⟨_, rfl, dt, xs, rfl, SqT.of (S2 _ _ hdt), ?_⟩
    refine for_it walk_enumT (fun j σ H3 => ∃ (h a : Sto), (∃ a10 a11 a12 a13, σ = [some (.ref fa), some s1, some (.int 7), some (.ref vd), some (.ref sd), some a1, some (.ref dt), some (.ref hd), some (.ref ad), some (.int 0), a10, a11, a12, a13, none]) ∧ Same H H3 ∧ H3 hd = some (.dK h) ∧ H3 ad = some (.dK a) ∧ StOk h (3 + j) ∧ StOk a j ∧ runD v (ds.drop j) h a = runD v ds h0 []) ?_ ?_ ?_ ?_
    · exact ⟨h0, [], ⟨_, _, _, _, rfl⟩, S2, hhd2, upd_same, so, ⟨(fun p hp => by cases hp), (fun p hp => by cases hp), Nat.zero_le _⟩, rfl⟩
    · rintro j σ H3 _ ⟨h, a, _, S3, _⟩
      exact SqT.of (S3 _ _ hdt)
    · rintro j x σ H3 H4 hj ⟨h, a, ⟨a10, a11, a12, a13, rfl⟩, S3, hh, ha, sh, sa, er⟩ ⟨T, y1, y2, rfl, hT, rfl, e1, e2⟩
      cases e1
      obtain ⟨d, hd1, td⟩ := tds.get' e2
      obtain ⟨dd, hdd, rfl⟩ : ∃ dd, ds[j]? = some dd ∧ d = dd.d := by
        rw [List.getElem?_map] at hd1
        cases q : ds[j]? with
        | none => rw [q] at hd1; cases hd1
        | some dd => rw [q] at hd1; exact ⟨dd, rfl, (Option.some.inj hd1).symm⟩
      obtain ⟨t, rfl, ht⟩ := Dd.inv td
      have okdd := okd dd (List.mem_of_getElem? hdd)
      have hj6 : j < 6 := by
        have := (List.getElem?_eq_some_iff.mp hdd).1
        omega
      have S4 : Same H3 (upd H3 T (.tup [.int (j : Nat), .ref t])) := Same.new hT
      have drp : ds.drop j = dd :: ds.drop (j + 1) := by
        obtain ⟨hlt, e⟩ := List.getElem?_eq_some_iff.mp hdd
        rw [List.drop_eq_getElem_cons hlt, e]
      rw [drp] at er
      have nask : ∃ z : Str, (dd.ps.map V.str)[0]? = some (.str z) ∧ z ≠ "ask" ∧ z ≠ "get" := by
        cases dd with
        | tell f w => exact ⟨_, rfl, by decide +kernel, by decide +kernel⟩
        | take w s u => exact ⟨_, rfl, by decide +kernel, by decide +kernel⟩
        | add w s => exact ⟨_, rfl, by decide +kernel, by decide +kernel⟩
      obtain ⟨z, hz, z1, z2⟩ := nask
      have ht4 := S4 _ _ (S3 _ _ ht)
      refine ⟨T, _, rfl, SqT.of upd_same, rfl, _, _, rfl, _, _, rfl, rfl, ?_⟩
      refine ⟨_, rfl, t, _, _, _, rfl, rfl, SqT.of ht4, atI_nat (j := 0) hz, rfl, _, rfl, iteN (sne z1) ?_⟩
      refine ⟨_, rfl, t, _, _, _, rfl, rfl, SqT.of ht4, atI_nat (j := 0) hz, rfl, _, rfl, iteN (sne z2) ?_⟩
      refine ⟨_, rfl, _, rfl, _, rfl, _, rfl, t, vd, hd, ad, dd, v, h, a, rfl, ht4, okdd, S4 _ _ (S3 _ _ hv), S4 _ _ hh, sh.mono (by omega), S4 _ _ ha, sa.mono (by omega), n1, fun u H5 em S5 => ?_, fun h' H5 em keep hh5 ha5 => ?_⟩
      · refine ⟨_, rfl, rfl, _, rfl, iteY (by rfl) ?_⟩
        refine ⟨_, rfl, (by show 2 ≤ sizeLine; decide), fun t6 ht6 => k _ _ ((S3.trans (S4.trans S5)).trans (Same.new ht6)) ?_⟩
        have er' : runD v ds h0 [] = .inl u := by
          rw [← er]
          unfold runD
          rw [em]
        rw [er']
        exact ⟨t6, rfl, upd_same⟩
      · refine ⟨_, rfl, rfl, _, rfl, iteN (by rfl) ?_⟩
        refine ⟨h', an v dd h a, ⟨_, _, _, _, rfl⟩, fun b o e => ?_, hh5, ha5, mv_ok sh em, an_ok sa, ?_⟩
        · refine keep b o (fun q => ?_) (fun q => ?_) (S4 _ _ (S3 _ _ e))
          · rw [q, hhd] at e; cases e
          · rw [q, hadH] at e; cases e
        · rw [← er]
          show _ = (match mv v dd h with | .inl u => _ | .inr h' => _)
          rw [em]
    · rintro σ H3 ⟨h, a, ⟨a10, a11, a12, a13, rfl⟩, S3, hh, ha, sh, sa, er⟩
      have lx : xs.length = ds.length := by rw [tds.length, List.length_map]
      rw [lx, List.drop_length] at er
      have er' : runD v ds h0 [] = .inr (h, a) := er.symm
      rw [er'] at k
      refine ⟨_, rfl, hd, .dK h, hh, True.intro, fun od => ?_⟩
      have hl : h.length < sizeLine := small1000 (Nat.le_trans sh.l (by omega))
      refine ⟨_, rfl, hd, od, rfl, .inl ⟨h, upd_same, fun D hD => ?_⟩⟩
      have nD : D ≠ hd := fun e => by rw [e, upd_same] at hD; cases hD
      have hD3 : H3 D = none := by rw [upd_ne nD] at hD; exact hD
      refine dc_walk walk_keys (fun j H4 => Same (upd H3 hd (.frz od (.dK h))) H4 ∧ H4 D = some (.dK (mergeK [] ((h.take j).filter nz)))) ?_ ?_ ?_ ?_
      · exact ⟨Same.new hD, upd_same⟩
      · rintro j H4 _ ⟨S4, _⟩
        exact S4 _ _ upd_same
      · rintro j x H4 H5 hj ⟨S4, hD4⟩ ⟨rfl, kk, vv, hkv, rfl⟩
        obtain ⟨ii, e⟩ := sh.i _ (List.mem_of_getElem? hkv)
        have e : vv = .int ii := e
        subst e
        have hg : DGet H5 hd (kV kk) (some (.int ii)) := .inl ⟨h, kk, .inr ⟨od, S4 _ _ upd_same⟩, rfl, (sh.u _ (List.mem_of_getElem? hkv)).symm⟩
        refine ⟨rfl, _, rfl, _, rfl, hd, _, rfl, hg, rfl, _, rfl, ?_⟩
        have st := left_step hkv
        refine ite2 (fun c => ?_) (fun c => ?_)
        · have c' : nz (kk, .int ii) = true := c
          rw [if_pos c'] at st
          refine ⟨_, rfl, _, rfl, _, rfl, hd, _, rfl, hg, _, kk, rfl, hD4, ?_, Same.wr S4 hD, ?_⟩
          · refine Nat.lt_of_le_of_lt (Nat.le_trans (merge_len _) (List.length_filter_le _ _)) ?_
            rw [List.length_take]
            omega
          · rw [upd_same, st, merge_snoc]
        · have c' : nz (kk, .int ii) = false := by
            cases q : nz (kk, .int ii) with
            | false => rfl
            | true => exact absurd q c
          rw [if_neg (by rw [c']; exact Bool.false_ne_true), List.append_nil] at st
          rw [st]
          exact ⟨S4, hD4⟩
      · rintro H4 ⟨S4, hD4⟩
        rw [List.take_length] at hD4
        refine ⟨S4 _ _ upd_same, (by show 3 ≤ sizeLine; decide), fun t6 ht6 => ?_⟩
        have S34 : Same H3 (upd H4 hd (.dK h)) := fun b o e => by
          by_cases q : b = hd
          · rw [q] at e ⊢
            rw [upd_same, ← e, hh]
          · rw [upd_ne q]
            exact S4 _ _ (by rw [upd_ne q]; exact e)
        have S6 := S34.trans (Same.new (o := .tup [.str "done", .ref ad, .ref D]) ht6)
        refine k _ _ (S3.trans S6) ⟨t6, ad, D, rfl, upd_same, S6 _ _ ha, ?_, hadH, S3.free hD3, sh.mono (by omega), sa.mono (by omega)⟩
        exact Same.new ht6 _ _ (by rw [upd_ne nD]; exact hD4)
end
end Fh

set_option Elab.async false
set_option linter.all false
set_option maxRecDepth 100000
set_option maxHeartbeats 4000000
namespace Fh
open PySem L2 PyProof.Rows
abbrev sDue : Stmt := top 30
abbrev pDue : List Str := ["_law_deeds", "_law_value", "_law_held"]
abbrev nDue : List Str := ["_law_deeds", "_law_value", "_law_held", "_law_left", "_law_found", "_law_deed", "_law_word"]
def spDue : Sp := fun vs H Q _ => ∃ (dt vd sd : Addr) (ds : List Dd) (v : Vl) (h0 : Sto), vs = [.ref dt, .ref vd, .ref sd] ∧ Tp H (.ref dt) (.tuple (ds.map Dd.d)) ∧ H vd = some (.dK v.k) ∧ H sd = some (.dK h0) ∧ StOk h0 3 ∧ ds.length ≤ 6 ∧ (∀ d ∈ ds, d.ok) ∧
  ∀ r H', Same H H' → Res H H' r (runD v ds h0 []) → Q r H'
theorem prd_app {α β : Type} {F : α → β → Prop} : ∀ {a c : List α} {b d : List β}, Paired F a b → Paired F c d → Paired F (a ++ c) (b ++ d)
  | _, _, _, _, .nil, s => s
  | _, _, _, _, .cons h r, s => .cons h (prd_app r s)
section
variable {P : Program} {w : World} {K : PySem.W.Frag} {mg : Str → Option Value} {base : Heap}
theorem scDue : FnScope nDue pDue (defScope sDue) := ⟨rfl, rfl, rfl, by decide +kernel, rfl, by decide +kernel, by decide +kernel⟩
theorem ok_due {f : Addr} {fd : FuncData} (F : Fun K "_law_due" "_law_due" sDue f fd) (G : Glb mg) : FnOk P w K mg base CX0 1 f fd pDue spDue := by
  refine F.ok scDue (fun vs H Q E h => ?_) (fun cdv A outer s H vs Q E hr h => ?_)
  · obtain ⟨dt, vd, sd, ds, v, h0, rfl, _⟩ := h
    rfl
  · obtain ⟨dt, vd, sd, ds, v, h0, rfl, tdt, hv, hs, so, ld, okd, k⟩ := h
    have hu := hu_of hr
    refine ⟨_, pss_cons (ps_asg (pe_tup (pa_cons (pe_callTy call_dictD (by rfl) G.dict (by decide +kernel) (pa_cons (pv 2) pa_nil)) (pa_cons pe_dnewK pa_nil))) (pg_tup rfl (pgs_cons (pg_name (i := 3) scDue.nd rfl (.inr rfl)) (pgs_cons (pg_name (i := 4) scDue.nd rfl (.inl rfl)) pgs_nil))))
      (pss_cons (ps_for PassesOwn.never rfl (pi_tup (pv 0)) (pg_name (i := 5) scDue.nd rfl (.inl rfl))
        (pss_one (ps_if (pt_cmpR op_eq (pe_ix ix_tup (pv 5) pe_int (fun _ _ => rfl)) pe_str (nomark _))
          (pss_one (ps_dput hu (pv 4) (pe_ix ix_tup (pv 5) pe_int (fun _ _ => rfl)) (pe_dget2 hu (pv 3) (pe_dget hu (pv 1) (pe_ix ix_tup (pv 5) pe_int (fun _ _ => rfl)) (fun _ _ => rfl)) pe_int ⟨rfl, rfl, rfl, rfl⟩) rfl))
          (pss_one (ps_if (pt_cmpR op_eq (pe_ix ix_tup (pv 5) pe_int (fun _ _ => rfl)) pe_str (nomark _))
            (pss_cons (ps_if (pt_cmpR op_lt (pe_dget2 hu (pv 3) (pe_dget hu (pv 1) (pe_ix ix_tup (pv 5) pe_int (fun _ _ => rfl)) (fun _ _ => rfl)) pe_int ⟨rfl, rfl, rfl, rfl⟩) (pe_dget hu (pv 1) (pe_ix ix_tup (pv 5) pe_int (fun _ _ => rfl)) (fun _ _ => rfl)) (nomark _)) (pss_one (ps_ret (pe_tup (pa_cons pe_str (pa_cons (pe_ix ix_tup (pv 5) pe_int (fun _ _ => rfl)) pa_nil))))) pss_nil)
            (pss_one (ps_dput hu (pv 3) (pe_dget hu (pv 1) (pe_ix ix_tup (pv 5) pe_int (fun _ _ => rfl)) (fun _ _ => rfl)) (pe_op op_sub (pe_dget2 hu (pv 3) (pe_dget hu (pv 1) (pe_ix ix_tup (pv 5) pe_int (fun _ _ => rfl)) (fun _ _ => rfl)) pe_int ⟨rfl, rfl, rfl, rfl⟩) (pe_dget hu (pv 1) (pe_ix ix_tup (pv 5) pe_int (fun _ _ => rfl)) (fun _ _ => rfl))) rfl)))
            (pss_cons (ps_if (pt_cmpR op_gt (pe_dget2 hu (pv 3) (pe_dget hu (pv 1) (pe_ix ix_tup (pv 5) pe_int (fun _ _ => rfl)) (fun _ _ => rfl)) pe_int ⟨rfl, rfl, rfl, rfl⟩) (pe_op op_sub (pe_op op_pow pe_int pe_int) (pe_dget hu (pv 1) (pe_ix ix_tup (pv 5) pe_int (fun _ _ => rfl)) (fun _ _ => rfl))) (nomark _)) (pss_one (ps_ret (pe_tup (pa_cons pe_str (pa_cons pe_str pa_nil))))) pss_nil)
            (pss_one (ps_dput hu (pv 3) (pe_dget hu (pv 1) (pe_ix ix_tup (pv 5) pe_int (fun _ _ => rfl)) (fun _ _ => rfl)) (pe_op op_add (pe_dget2 hu (pv 3) (pe_dget hu (pv 1) (pe_ix ix_tup (pv 5) pe_int (fun _ _ => rfl)) (fun _ _ => rfl)) pe_int ⟨rfl, rfl, rfl, rfl⟩) (pe_dget hu (pv 1) (pe_ix ix_tup (pv 5) pe_int (fun _ _ => rfl)) (fun _ _ => rfl))) rfl))))))))
      (pss_one (ps_ret (pe_tup (pa_cons pe_str (pa_cons (pv 4) (pa_cons (pe_callTy (call_dictP rfl) (by rfl) G.dict (by decide +kernel) (pa_cons (pe_lock (pe_lc (own := [("_law_word", 6)]) (g := gName 6) (tt := tTest (tOp rNe (tDGet (tVar 3) (tVar 6)) (tC (.int 0)))) (te := tTup (tCons (tVar 6) (tCons (tDGet (tVar 3) (tVar 6)) tNil))) rfl scDue.nd (pi_keys (pv 3)) (blkOk_by (N := nDue) (sc := defScope sDue) (by decide +kernel))
        (fun _ _ _ _ _ => pg_name (i := 6) scDue.nd rfl (Or.inl rfl)) (fun _ _ _ _ _ => pts_one (pt_cmpR op_ne (pe_dget hu (pv 3) (pv 6) (fun _ _ => rfl)) pe_int (nomark _))) (fun _ _ _ _ _ => pe_tup (pa_cons (pv 6) (pa_cons (pe_dget hu (pv 3) (pv 6) (fun _ _ => rfl)) pa_nil))))) pa_nil)) pa_nil))))))), ?_⟩
    obtain ⟨dt', xs, e1, hdt, tds⟩ := tdt.inv
    cases e1
    refine ⟨_, rfl, sd, h0, rfl, .inl hs, fun ld hld => fun ad had => ⟨(by show 2 ≤ sizeLine; decide), fun T0 hT0 => ⟨T0, _, rfl, SqT.of upd_same, rfl, _, _, rfl, _, _, rfl, rfl, ?_⟩⟩⟩
    have n1 : ld ≠ ad := fun e => by rw [← e, upd_same] at had; cases had
    have S1 : Same H (upd H ld (.dK h0)) := Same.new hld
    have S2 : Same H (upd (upd H ld (.dK h0)) ad (.dK [])) := S1.trans (Same.new had)
    have hadH : H ad = none := S1.free had
    have hld2 : (upd (upd H ld (.dK h0)) ad (.dK [])) ld = some (.dK h0) := by rw [upd_ne n1, upd_same]
    have S0 := Same.new (o := .tup [.ref ld, .ref ad]) hT0
    refine ⟨_, rfl, dt, rfl, ⟨_, SqT.of (S0 _ _ (S2 _ _ hdt))⟩, ?_⟩
    refine for_tup (xs := xs) (fun j σ H3 => ∃ (h a : Sto), (∃ a5 a6, σ = [some (.ref dt), some (.ref vd), some (.ref sd), some (.ref ld), some (.ref ad), a5, a6]) ∧ Same H H3 ∧ H3 ld = some (.dK h) ∧ H3 ad = some (.dK a) ∧ StOk h (3 + j) ∧ StOk a j ∧ runD v (ds.drop j) h a = runD v ds h0 []) ?_ ?_ ?_ ?_
    · exact ⟨h0, [], ⟨_, _, rfl⟩, S2.trans S0, S0 _ _ hld2, S0 _ _ upd_same, so, ⟨(fun p hp => by cases hp), (fun p hp => by cases hp), Nat.zero_le _⟩, rfl⟩
    · rintro j σ H3 _ ⟨h, a, _, S3, _⟩
      exact SqT.of (S3 _ _ hdt)
    · rintro j x σ H3 e2 ⟨h, a, ⟨a5, a6, rfl⟩, S3, hh, ha, sh, sa, er⟩
      obtain ⟨d, hd1, td⟩ := tds.get' e2
      obtain ⟨dd, hdd, rfl⟩ : ∃ dd, ds[j]? = some dd ∧ d = dd.d := by
        rw [List.getElem?_map] at hd1
        cases q : ds[j]? with
        | none => rw [q] at hd1; cases hd1
        | some dd => rw [q] at hd1; exact ⟨dd, rfl, (Option.some.inj hd1).symm⟩
      obtain ⟨t, rfl, ht⟩ := Dd.inv td
      have okdd := okd dd (List.mem_of_getElem? hdd)
      have hj6 : j < 6 := by
        have := (List.getElem?_eq_some_iff.mp hdd).1
        omega
      have drp : ds.drop j = dd :: ds.drop (j + 1) := by
        obtain ⟨hlt, e⟩ := List.getElem?_eq_some_iff.mp hdd
        rw [List.drop_eq_getElem_cons hlt, e]
      rw [drp] at er
      have ht3 := S3 _ _ ht
      have hv3 := S3 _ _ hv
      have lh : h.length < sizeLine := small1000 (Nat.le_trans sh.l (by omega))
      have la : a.length < sizeLine := small1000 (Nat.le_trans sa.l (by omega))
      have stayL : ∀ {h' : Sto} {b : Addr} {o : HO}, H b = some o → (upd H3 ld (.dK h')) b = some o := fun {h' b o} e => by
        rw [upd_ne (fun q => by rw [q, hld] at e; cases e)]
        exact S3 _ _ e
      have bad : ∀ u, mv v dd h = .inl u → ∀ T6, H3 T6 = none → Q (.ref T6) (upd H3 T6 (.tup [.str "fault", .str u])) := fun u em T6 hT6 => by
        refine k _ _ (S3.trans (Same.new hT6)) ?_
        have er' : runD v ds h0 [] = .inl u := by
          rw [← er]
          unfold runD
          rw [em]
        rw [er']
        exact ⟨T6, rfl, upd_same⟩
      have good : ∀ h', mv v dd h = .inr h' → runD v (ds.drop (j + 1)) h' (an v dd h a) = runD v ds h0 [] := fun h' em => by
        rw [← er]
        show _ = (match mv v dd h with | .inl u => _ | .inr h' => _)
        rw [em]
      cases dd with
      | tell f w =>
        have okw : IsW w := okdd
        refine ⟨_, rfl, t, _, _, _, rfl, rfl, SqT.of ht3, rfl, rfl, _, rfl, iteY (seq _) ?_⟩
        refine ⟨_, rfl, ld, rfl, isD hh, _, rfl, _, rfl, t, _, _, _, rfl, rfl, SqT.of ht3, rfl, vd, _, rfl, .inl ⟨_, sk w, .inl hv3, rfl, (v.atW okw).symm⟩, _, DGet.k (k := sk (v.w w)) hh, ?_⟩
        rw [got_val sh.i]
        refine ⟨_, rfl, _, rfl, t, _, _, _, rfl, rfl, SqT.of ht3, rfl, ad, _, rfl, DPut.k (k := sk f) ha la, ?_⟩
        refine ⟨h, _, ⟨_, _, rfl⟩, fun b o e => ?_, ?_, upd_same, sh.mono (by omega), sa.put _ _, good h rfl⟩
        · rw [upd_ne (fun q => by rw [q, hadH] at e; cases e)]
          exact S3 _ _ e
        · rw [upd_ne n1]
          exact hh
      | take w s u =>
        obtain ⟨okw, oks⟩ := (show IsW w ∧ IsS s from okdd)
        refine ⟨_, rfl, t, _, _, _, rfl, rfl, SqT.of ht3, rfl, rfl, _, rfl, iteN (sne (by decide +kernel)) ?_⟩
        refine ⟨_, rfl, t, _, _, _, rfl, rfl, SqT.of ht3, rfl, rfl, _, rfl, iteY (seq _) ?_⟩
        refine ⟨_, rfl, ld, rfl, isD hh, _, rfl, _, rfl, t, _, _, _, rfl, rfl, SqT.of ht3, rfl, vd, _, rfl, .inl ⟨_, sk w, .inl hv3, rfl, (v.atW okw).symm⟩, _, DGet.k (k := sk (v.w w)) hh, ?_⟩
        rw [got_val sh.i]
        refine ⟨_, rfl, _, rfl, t, _, _, _, rfl, rfl, SqT.of ht3, rfl, vd, _, rfl, .inl ⟨_, sk s, .inl hv3, rfl, (v.atS oks).symm⟩, _, _, rfl, rfl, _, rfl, ite2 (fun c => ?_) (fun c => ?_)⟩
        · have c' : got h (v.w w) < v.n s := of_decide_eq_true c
          exact ⟨_, rfl, t, _, _, _, rfl, rfl, SqT.of ht3, rfl, (by show 2 ≤ sizeLine; decide), fun T6 hT6 => bad u (if_pos c') T6 hT6⟩
        · have c' : ¬ got h (v.w w) < v.n s := fun e => c (decide_eq_true e)
          refine ⟨_, rfl, ld, rfl, isD hh, _, rfl, _, rfl, t, _, _, _, rfl, rfl, SqT.of ht3, rfl, vd, _, rfl, .inl ⟨_, sk w, .inl hv3, rfl, (v.atW okw).symm⟩, _, DGet.k (k := sk (v.w w)) hh, ?_⟩
          rw [got_val sh.i]
          refine ⟨_, rfl, _, rfl, t, _, _, _, rfl, rfl, SqT.of ht3, rfl, vd, _, rfl, .inl ⟨_, sk s, .inl hv3, rfl, (v.atS oks).symm⟩, _, _, rfl, rfl, _, rfl, _, rfl, _, rfl, t, _, _, _, rfl, rfl, SqT.of ht3, rfl, vd, _, rfl, .inl ⟨_, sk w, .inl hv3, rfl, (v.atW okw).symm⟩, ld, _, rfl, DPut.k (k := sk (v.w w)) hh lh, ?_⟩
          exact ⟨_, a, ⟨_, _, rfl⟩, (fun b o e => stayL e), upd_same, (by rw [upd_ne (Ne.symm n1)]; exact ha), sh.put _ _, sa.mono (by omega), good _ (if_neg c')⟩
      | add w s =>
        obtain ⟨okw, oks⟩ := (show IsW w ∧ IsS s from okdd)
        refine ⟨_, rfl, t, _, _, _, rfl, rfl, SqT.of ht3, rfl, rfl, _, rfl, iteN (sne (by decide +kernel)) ?_⟩
        refine ⟨_, rfl, t, _, _, _, rfl, rfl, SqT.of ht3, rfl, rfl, _, rfl, iteN (sne (by decide +kernel)) ?_⟩
        refine ⟨_, rfl, ld, rfl, isD hh, _, rfl, _, rfl, t, _, _, _, rfl, rfl, SqT.of ht3, rfl, vd, _, rfl, .inl ⟨_, sk w, .inl hv3, rfl, (v.atW okw).symm⟩, _, DGet.k (k := sk (v.w w)) hh, ?_⟩
        rw [got_val sh.i]
        refine ⟨_, _, rfl, rfl, ⟨by decide, by decide, by decide⟩, _, rfl, _, rfl, t, _, _, _, rfl, rfl, SqT.of ht3, rfl, vd, _, rfl, .inl ⟨_, sk s, .inl hv3, rfl, (v.atS oks).symm⟩, _, _, rfl, rfl, _, _, rfl, rfl, _, rfl, ite2 (fun c => ?_) (fun c => ?_)⟩
        · have c0 : (10 : Int) ^ (9 : Int).toNat - v.n s < got h (v.w w) := of_decide_eq_true c
          have c' : 1000000000 < got h (v.w w) + v.n s := by
            rw [show (10 : Int) ^ (9 : Int).toNat = 1000000000 by decide] at c0
            omega
          exact ⟨(by show 2 ≤ sizeLine; decide), fun T6 hT6 => bad great (if_pos c') T6 hT6⟩
        · have c' : ¬ 1000000000 < got h (v.w w) + v.n s := fun e => c (decide_eq_true (by
            rw [show (10 : Int) ^ (9 : Int).toNat = 1000000000 by decide]
            omega))
          refine ⟨_, rfl, ld, rfl, isD hh, _, rfl, _, rfl, t, _, _, _, rfl, rfl, SqT.of ht3, rfl, vd, _, rfl, .inl ⟨_, sk w, .inl hv3, rfl, (v.atW okw).symm⟩, _, DGet.k (k := sk (v.w w)) hh, ?_⟩
          rw [got_val sh.i]
          refine ⟨_, rfl, _, rfl, t, _, _, _, rfl, rfl, SqT.of ht3, rfl, vd, _, rfl, .inl ⟨_, sk s, .inl hv3, rfl, (v.atS oks).symm⟩, _, _, rfl, rfl, _, rfl, _, rfl, _, rfl, t, _, _, _, rfl, rfl, SqT.of ht3, rfl, vd, _, rfl, .inl ⟨_, sk w, .inl hv3, rfl, (v.atW okw).symm⟩, ld, _, rfl, DPut.k (k := sk (v.w w)) hh lh, ?_⟩
          exact ⟨_, a, ⟨_, _, rfl⟩, (fun b o e => stayL e), upd_same, (by rw [upd_ne (Ne.symm n1)]; exact ha), sh.put _ _, sa.mono (by omega), good _ (if_neg c')⟩
    · rintro σ H3 ⟨h, a, ⟨a5, a6, rfl⟩, S3, hh, ha, sh, sa, er⟩
      have lx : xs.length = ds.length := by rw [tds.length, List.length_map]
      rw [lx, List.drop_length] at er
      have er' : runD v ds h0 [] = .inr (h, a) := er.symm
      rw [er'] at k
      refine ⟨_, rfl, ld, .dK h, hh, True.intro, fun od => ?_⟩
      have hl : h.length < sizeLine := small1000 (Nat.le_trans sh.l (by omega))
      refine ⟨_, rfl, ld, od, rfl, .inl ⟨h, upd_same, fun D hD => ?_⟩⟩
      have nD : D ≠ ld := fun e => by rw [e, upd_same] at hD; cases hD
      have hD3 : H3 D = none := by rw [upd_ne nD] at hD; exact hD
      refine lc_it walk_keys (fun j H4 => Same (upd H3 ld (.frz od (.dK h))) H4 ∧ ∃ ps : List Addr, H4 D = some (.lst (ps.map V.ref)) ∧ Paired (fun p (kv : Key × V) => H4 p = some (.tup [kV kv.1, kv.2])) ps ((h.take j).filter nz)) ?_ ?_ ?_ ?_
      · exact ⟨Same.new hD, [], upd_same, .nil⟩
      · rintro j H4 _ ⟨S4, _⟩
        exact S4 _ _ upd_same
      · rintro j x H4 H5 hj ⟨S4, ps, hD4, pp⟩ ⟨rfl, kk, vv, hkv, rfl⟩
        obtain ⟨ii, e⟩ := sh.i _ (List.mem_of_getElem? hkv)
        have e : vv = .int ii := e
        subst e
        have hg : DGet H5 ld (kV kk) (some (.int ii)) := .inl ⟨h, kk, .inr ⟨od, S4 _ _ upd_same⟩, rfl, (sh.u _ (List.mem_of_getElem? hkv)).symm⟩
        refine ⟨rfl, _, rfl, _, rfl, ld, _, rfl, hg, rfl, _, rfl, ?_⟩
        have st := left_step hkv
        refine ite2 (fun c => ?_) (fun c => ?_)
        · have c' : nz (kk, .int ii) = true := c
          rw [if_pos c'] at st
          refine ⟨_, rfl, _, rfl, _, rfl, ld, _, rfl, hg, (by show 2 ≤ sizeLine; decide), fun T6 hT6 => ?_⟩
          have n6 : D ≠ T6 := ne_of_none hD4 hT6
          have lps : ps.length ≤ h.length := by
            rw [pp.length]
            refine Nat.le_trans (List.length_filter_le _ _) ?_
            rw [List.length_take]
            omega
          refine ⟨_, (by rw [upd_ne n6]; exact hD4), ?_, ?_, ps ++ [T6], ?_, ?_⟩
          · rw [List.length_map]
            omega
          · exact Same.wr (S4.trans (Same.new hT6)) hD
          · rw [upd_same, List.map_append]
            rfl
          · rw [st]
            refine prd_app (L2.Paired.mapP pp fun p kv e => ?_) (.cons ?_ .nil)
            · rw [upd_ne (fun q => by rw [q, hD4] at e; cases e), upd_ne (ne_of_none e hT6)]
              exact e
            · rw [upd_ne n6.symm, upd_same]
        · have c' : nz (kk, .int ii) = false := by
            cases q : nz (kk, .int ii) with
            | false => rfl
            | true => exact absurd q c
          rw [if_neg (by rw [c']; exact Bool.false_ne_true), List.append_nil] at st
          rw [st]
          exact ⟨S4, ps, hD4, pp⟩
      · rintro H4 ⟨S4, ps, hD4, pp⟩
        rw [List.take_length] at pp
        have S34 : Same H3 (upd H4 ld (.dK h)) := fun b o e => by
          by_cases q : b = ld
          · rw [q] at e ⊢
            rw [upd_same, ← e, hh]
          · rw [upd_ne q]
            exact S4 _ _ (by rw [upd_ne q]; exact e)
        refine ⟨S4 _ _ upd_same, D, ps, h.filter nz, rfl, SqL.of (by rw [upd_ne nD]; exact hD4), L2.Paired.mapP pp (fun p kv e => SqT.of ?_), fun S hS => ⟨(by show 3 ≤ sizeLine; decide), fun T6 hT6 => ?_⟩⟩
        · rw [upd_ne (fun q => by rw [q, S4 _ _ upd_same] at e; cases e)]
          exact e
        have S5 := S34.trans (Same.new (o := .dK (left h)) hS)
        have S6 := S5.trans (Same.new (o := .tup [.str "done", .ref ad, .ref S]) hT6)
        exact k _ _ (S3.trans S6) ⟨T6, ad, S, rfl, upd_same, S6 _ _ ha, Same.new hT6 _ _ upd_same, hadH, (S3.trans S34).free hS, sh.mono (by omega), sa.mono (by omega)⟩
end
end Fh

set_option Elab.async false
set_option linter.all false
set_option maxRecDepth 100000
set_option maxHeartbeats 4000000
namespace Fh
open PySem L2 PyProof.Rows
abbrev sNear : Stmt := top 31
abbrev sMade : Stmt := top 29
abbrev pTake : List Str := ["_law_bag_here", "_law_size"]
abbrev pNames : List Str := ["_law_bag_here", "_law_size", "_law_taken"]
abbrev nNear : List Str := ["_law_bag_here", "_law_value", "_law_deeds", "_law_deed", "_law_many"]
abbrev pNear : List Str := ["_law_bag_here", "_law_value", "_law_deeds"]
def spNear : Sp := fun vs H Q _ => ∃ (b vd dt : Addr) (n : Nat) (ds : List Dd) (v : Vl), vs = [.ref b, .ref vd, .ref dt] ∧ Bag H b n ∧ n + 10 ≤ most ∧ H vd = some (.dK v.k) ∧ Tp H (.ref dt) (.tuple (ds.map Dd.d)) ∧ (∀ d ∈ ds, d.ok) ∧
  ∀ (p : Addr) (h : Sto) (H' : Hp), H p = none → H' p = some (.dK h) → StOk h 3 → Kp b H H' → Bag H' b (n + 1) → Q (.ref p) H'
theorem one_ok (z : Str) (i : Int) : StOk [(sk z, .int i)] 3 := ⟨(fun p hp => by rw [List.mem_singleton.mp hp]; exact ⟨i, rfl⟩), (fun p hp => by rw [List.mem_singleton.mp hp]; exact valV_pos rfl), by show 1 ≤ 3; decide⟩
section
variable {P : Program} {w : World} {K : PySem.W.Frag} {mg : Str → Option Value} {base : Heap}
theorem scNear : FnScope nNear pNear (defScope sNear) := ⟨rfl, rfl, rfl, by decide +kernel, rfl, by decide +kernel, by decide +kernel⟩
theorem ok_near {f : Addr} {fd : FuncData} (F : Fun K "_law_near" "_law_near" sNear f fd) (G : Glb mg) (DT : Has P w K mg base "_law_take" 1 pTake spTake) : FnOk P w K mg base CX0 2 f fd pNear spNear := by
  refine F.ok scNear (fun vs H Q E h => ?_) (fun cdv A outer s H vs Q E hr h => ?_)
  · obtain ⟨b, vd, dt, n, ds, v, rfl, _⟩ := h
    rfl
  · obtain ⟨b, vd, dt, n, ds, v, rfl, hB, hn, hv, tdt, okd, k⟩ := h
    have hn' : n + 10 ≤ 1000000 := hn
    have hu := hu_of hr
    refine ⟨_, pss_cons (ps_for PassesOwn.never rfl (pi_tup (pv 2)) (pg_name (i := 3) scNear.nd rfl (.inl rfl))
        (pss_one (ps_if (pt_cmpR op_ne (pe_ix ix_tup (pv 3) pe_int (fun _ _ => rfl)) pe_str (nomark _))
          (pss_cons (ps_set (i := 4) scNear.nd rfl (Or.inl rfl) (pe_mid (pe_ifExp (pt_cmpR op_eq (pe_ix ix_tup (pv 3) pe_int (fun _ _ => rfl)) pe_str (nomark _)) (pe_dget hu (pv 1) (pe_ix ix_tup (pv 3) pe_int (fun _ _ => rfl)) (fun _ _ => rfl)) (pe_op op_sub (pe_op op_pow pe_int pe_int) (pe_dget hu (pv 1) (pe_ix ix_tup (pv 3) pe_int (fun _ _ => rfl)) (fun _ _ => rfl))))))
          (pss_one (ps_ret (pe_disp (pps_cons (pe_dget hu (pv 1) (pe_ix ix_tup (pv 3) pe_int (fun _ _ => rfl)) (fun _ _ => rfl)) (pe_callB (call_min2 rfl) (by rfl) G.min (by decide +kernel) (pa_cons (pe_op op_pow pe_int pe_int) (pa_cons (pe_callB (call_max2 rfl) (by rfl) G.max (by decide +kernel) (pa_cons pe_int (pa_cons (pe_op op_sub (pe_op op_add (pv 4) (pe_has DT hr rfl (pa_cons (pv 0) (pa_cons pe_int pa_nil)))) pe_int) pa_nil))) pa_nil))) pps_nil) rfl rfl (by simp) (by simp)))))
          pss_nil)))
      (pss_one (ps_ret pe_dnewK)), ?_⟩
    obtain ⟨dt', xs, e1, hdt, tds⟩ := tdt.inv
    cases e1
    refine ⟨_, rfl, dt, rfl, ⟨_, SqT.of hdt⟩, ?_⟩
    refine for_tup (xs := xs) (fun j σ H3 => H3 = H ∧ ∃ a3 a4, σ = [some (.ref b), some (.ref vd), some (.ref dt), a3, a4]) ?_ ?_ ?_ ?_
    · exact ⟨rfl, _, _, rfl⟩
    · rintro j σ H3 _ ⟨rfl, _⟩
      exact SqT.of hdt
    · rintro j x σ H3 e2 ⟨rfl, a3, a4, rfl⟩
      obtain ⟨d, hd1, td⟩ := tds.get' e2
      obtain ⟨dd, hdd, rfl⟩ : ∃ dd, ds[j]? = some dd ∧ d = dd.d := by
        rw [List.getElem?_map] at hd1
        cases q : ds[j]? with
        | none => rw [q] at hd1; cases hd1
        | some dd => rw [q] at hd1; exact ⟨dd, rfl, (Option.some.inj hd1).symm⟩
      obtain ⟨t, rfl, ht⟩ := Dd.inv td
      have okdd := okd dd (List.mem_of_getElem? hdd)
      cases dd with
      | tell f w => exact ⟨_, rfl, t, _, _, _, rfl, rfl, SqT.of ht, rfl, rfl, _, rfl, iteN (by rfl) ⟨rfl, _, _, rfl⟩⟩
      | take w s u =>
        obtain ⟨okw, oks⟩ := (show IsW w ∧ IsS s from okdd)
        refine ⟨_, rfl, t, _, _, _, rfl, rfl, SqT.of ht, rfl, rfl, _, rfl, iteY (by rw [sne (by decide +kernel)]; rfl) ?_⟩
        refine ⟨fun x H4 => H4 = H3 ∧ ∃ m : Int, x = .int m, ?_, ?_⟩
        · exact ⟨_, rfl, t, _, _, _, rfl, rfl, SqT.of ht, rfl, rfl, _, rfl, iteY (seq _) ⟨_, rfl, _, rfl, t, _, _, _, rfl, rfl, SqT.of ht, rfl, vd, _, rfl, .inl ⟨_, sk s, .inl hv, rfl, (v.atS oks).symm⟩, rfl, _, rfl⟩⟩
        rintro x H4 ⟨rfl, m, rfl⟩
        refine fun p hp => ?_
        have hp0 : (upd H4 p (.dK [])) t = some (.tup ((Dd.take w s u).ps.map V.str)) := Same.new hp _ _ ht
        refine ⟨_, rfl, _, rfl, t, _, _, _, rfl, rfl, SqT.of hp0, rfl, vd, _, rfl, .inl ⟨_, sk w, .inl (Same.new hp _ _ hv), rfl, (v.atW okw).symm⟩, ?_⟩
        refine ⟨_, _, rfl, rfl, ⟨by decide, by decide, by decide⟩, _, rfl, _, rfl, b, 3, n, rfl, by decide, by decide, hB.new hp, by show n ≤ 1000000; omega, fun g H5 g0 g1 K5 B5 => ?_⟩
        refine ⟨_, _, rfl, rfl, _, _, rfl, rfl, _, _, rfl, _, _, rfl, K5 p _ (new_ne hp hB) upd_same, [(sk (v.w w), _)], rfl, (by show 1 ≤ 15; decide), ?_⟩
        exact k p _ _ hp upd_same (one_ok _ _) (((Kp.refl.new hp).trans K5).wr hp) (B5.ne (new_ne hp hB))
      | add w s =>
        obtain ⟨okw, oks⟩ := (show IsW w ∧ IsS s from okdd)
        refine ⟨_, rfl, t, _, _, _, rfl, rfl, SqT.of ht, rfl, rfl, _, rfl, iteY (by rw [sne (by decide +kernel)]; rfl) ?_⟩
        refine ⟨fun x H4 => H4 = H3 ∧ ∃ m : Int, x = .int m, ?_, ?_⟩
        · exact ⟨_, rfl, t, _, _, _, rfl, rfl, SqT.of ht, rfl, rfl, _, rfl, iteN (sne (by decide +kernel)) ⟨_, _, rfl, rfl, ⟨by decide, by decide, by decide⟩, _, rfl, _, rfl, t, _, _, _, rfl, rfl, SqT.of ht, rfl, vd, _, rfl, .inl ⟨_, sk s, .inl hv, rfl, (v.atS oks).symm⟩, _, _, rfl, rfl, rfl, _, rfl⟩⟩
        rintro x H4 ⟨rfl, m, rfl⟩
        refine fun p hp => ?_
        have hp0 : (upd H4 p (.dK [])) t = some (.tup ((Dd.add w s).ps.map V.str)) := Same.new hp _ _ ht
        refine ⟨_, rfl, _, rfl, t, _, _, _, rfl, rfl, SqT.of hp0, rfl, vd, _, rfl, .inl ⟨_, sk w, .inl (Same.new hp _ _ hv), rfl, (v.atW okw).symm⟩, ?_⟩
        refine ⟨_, _, rfl, rfl, ⟨by decide, by decide, by decide⟩, _, rfl, _, rfl, b, 3, n, rfl, by decide, by decide, hB.new hp, by show n ≤ 1000000; omega, fun g H5 g0 g1 K5 B5 => ?_⟩
        refine ⟨_, _, rfl, rfl, _, _, rfl, rfl, _, _, rfl, _, _, rfl, K5 p _ (new_ne hp hB) upd_same, [(sk (v.w w), _)], rfl, (by show 1 ≤ 15; decide), ?_⟩
        exact k p _ _ hp upd_same (one_ok _ _) (((Kp.refl.new hp).trans K5).wr hp) (B5.ne (new_ne hp hB))
    · rintro σ H3 ⟨rfl, _⟩
      exact fun p hp => k p [] _ hp upd_same ⟨(fun p hp => by cases hp), (fun p hp => by cases hp), Nat.zero_le _⟩ (Kp.refl.new hp) ((hB.new hp).mono (Nat.le_succ _))
end
end Fh

set_option Elab.async false
set_option linter.all false
set_option maxRecDepth 100000
set_option maxHeartbeats 4000000
namespace Fh
open PySem L2 PyProof.Rows
abbrev nMade : List Str := ["_law_bag_here", "_law_words", "_law_deeds", "_law_tells", "_law_turn", "_law_one", "_law_many", "_law_way", "_law_fields", "_law_told", "_law_rows", "_law_deed", "_law_part", "_law_k", "_law_word"]
/-- the parts of a bank's face -/
structure Bank (H : Hp) (p : Addr) (ds : List Dd) : Prop where
  ex : ∃ (cl c1 dt : Addr) (v1 v2 v3 v4 x2 x3 x4 : V), H p = some (.tup [v1, v2, v3, v4, .ref cl]) ∧ H cl = some (.tup [.ref c1]) ∧ H c1 = some (.tup [.int 7, x2, x3, x4, .ref dt]) ∧ Tp H (.ref dt) (.tuple (ds.map Dd.d))
  len : ds.length ≤ 6
  ok : ∀ d ∈ ds, d.ok
def spMade : Sp := fun vs H Q _ => ∃ (b : Addr) (n : Nat), vs = [.ref b] ∧ Bag H b n ∧ n + 1000 ≤ most ∧ ∀ (p : Addr) (ds : List Dd) (H' : Hp), Bank H' p ds → Kp b H H' → Bag H' b (n + 300) → Q (.ref p) H'
/-! ### deeds as they are drawn -/
def fx (z : Str) : Str := if z ≠ "wc" then z else "wb"
def Dd.fix : Dd → Dd
  | .tell f w => .tell (fx f) (fx w)
  | .take w s u => .take (fx w) (fx s) (fx u)
  | .add w s => .add (fx w) (fx s)
theorem fix_ps (d : Dd) : d.fix.ps = d.ps.map fx := by
  have h1 : fx "tell" = "tell" := if_pos (by decide +kernel)
  have h2 : fx "take" = "take" := if_pos (by decide +kernel)
  have h3 : fx "add" = "add" := if_pos (by decide +kernel)
  cases d with
  | tell f w => show [_, _, _] = [_, _, _]; rw [h1]
  | take w s u => show [_, _, _, _] = [_, _, _, _]; rw [h2]
  | add w s => show [_, _, _] = [_, _, _]; rw [h3]
def IsR (z : Str) : Prop := z = "wa" ∨ z = "wb" ∨ z = "wc"
def Dd.raw : Dd → Prop
  | .tell _ w => IsR w
  | .take w s _ => IsR w ∧ IsS s
  | .add w s => IsR w ∧ IsS s
theorem fxW {z : Str} (h : IsR z) : IsW (fx z) := by
  rcases h with rfl | rfl | rfl
  · exact .inl (if_pos (by decide +kernel))
  · exact .inr (if_pos (by decide +kernel))
  · exact .inr (if_neg (by simp))
theorem fxS {z : Str} (h : IsS z) : IsS (fx z) := by
  have e : fx z = z := if_pos (by rcases h with rfl | rfl | rfl <;> decide +kernel)
  rw [e]
  exact h
theorem Dd.fix_ok {d : Dd} (h : d.raw) : d.fix.ok := by
  cases d with
  | tell f w => exact fxW h
  | take w s u => exact ⟨fxW h.1, fxS h.2⟩
  | add w s => exact ⟨fxW h.1, fxS h.2⟩
/-- deeds stand at these places -/
def DsAt (H : Hp) (ts : List Addr) (ds : List Dd) : Prop := Paired (fun t (d : Dd) => H t = some (.tup (d.ps.map V.str))) ts ds
theorem DsAt.tk {H H' : Hp} {ts : List Addr} {ds : List Dd} (h : DsAt H ts ds) (t : Tk H H') : DsAt H' ts ds := L2.Paired.mapP h fun _ _ e => t _ _ e
theorem DsAt.tp {H : Hp} : ∀ {ts : List Addr} {ds : List Dd}, DsAt H ts ds → TpAll H (ts.map V.ref) (ds.map Dd.d)
  | _, _, .nil => .nil
  | _, _, .cons e r => .cons (.tup e (TpAll.strs _)) (DsAt.tp r)
theorem DsAt.get : ∀ {H : Hp} {ts : List Addr} {ds : List Dd} {j : Nat} {x : V}, DsAt H ts ds → (ts.map V.ref)[j]? = some x → ∃ t d, x = .ref t ∧ ds[j]? = some d ∧ H t = some (.tup (d.ps.map V.str))
  | _, _, _, _, _, .nil, h => by simp at h
  | _, t :: ts, d :: ds, 0, x, .cons e r, h => by simp at h; exact ⟨t, d, h.symm, rfl, e⟩
  | _, t :: ts, d :: ds, j + 1, x, .cons e r, h => by
    obtain ⟨t', d', h1, h2, h3⟩ := DsAt.get (j := j) r (by simpa using h)
    exact ⟨t', d', h1, by simpa using h2, h3⟩
theorem lastV (xs : List V) (x : V) : atI (xs ++ [x]) (-1) = some x := by
  have e : ixN (xs ++ [x]).length (-1) = some xs.length := by
    rw [List.length_append]
    unfold ixN
    rw [if_neg (by decide), if_pos (by simp; omega)]
    congr 1
    simp
    omega
  unfold atI
  rw [e]
  show (xs ++ [x])[xs.length]? = _
  rw [List.getElem?_append_right (Nat.le_refl _), Nat.sub_self]
  rfl
abbrev rTupO (K : PySem.W.Frag) : List V → Hp → VK → Prop := fun xs H Q => ∃ p ys, xs = [.ref p] ∧ ((SqL K H p ys ∧ ∀ l, H l = none → Q (.ref l) (upd H l (.tup ys))) ∨ (SqT K H p ys ∧ Q (.ref p) H))
abbrev tFix (K : PySem.W.Frag) : TE := tCB (rTupO K) (tCons (tLc (iTup K (tVar 11)) (gName 12) tYes (tIf (tTest (tOp rNe (tVar 12) (tC (.str "wc")))) (tVar 12) (tC (.str "wb"))) [12]) tNil)
abbrev cs2 : Scope := { kind := .function, names := [(".0", .local), ("_law_deed", .local), ("tuple", .globalImplicit)], isGenerator := false, isCoroutine := false, more := [] }
section
variable {P : Program} {w : World} {K : PySem.W.Frag} {mg : Str → Option Value} {base : Heap}
theorem scMade : FnScope nMade ["_law_bag_here"] (defScope sMade) := ⟨rfl, rfl, rfl, by decide +kernel, rfl, by decide +kernel, by decide +kernel⟩
theorem ok_made {f : Addr} {fd : FuncData} (F : Fun K "_law_made" "_law_made" sMade f fd) (G : Glb mg) (DT : Has P w K mg base "_law_take" 1 pTake spTake) (DNs : Has P w K mg base "_law_names" 3 pNames spUnlikeN) : FnOk P w K mg base CX0 4 f fd ["_law_bag_here"] spMade := by
  refine F.ok scMade (fun vs H Q E h => ?_) (fun cdv A outer s H vs Q E hr h => ?_)
  · obtain ⟨b, n, rfl, _⟩ := h
    rfl
  · obtain ⟨b, n, rfl, hB, hn, k⟩ := h
    have hn' : n + 1000 ≤ 1000000 := hn
    have hr1 : Room 1 _ := hr.mono (by decide)
    refine ⟨_, pss_cons (ps_set (i := 1) scMade.nd rfl (Or.inl rfl) (pe_has DNs hr rfl (pa_cons (pv 0) (pa_cons pe_int (pa_cons (pe_lst pa_nil) pa_nil)))))
      (pss_cons (ps_par (i := 2) (j := 3) rfl scMade.nd rfl rfl (by decide) rfl rfl (pa_cons (pe_lst pa_nil) (pa_cons (pe_lst pa_nil) pa_nil)) (by rfl))
      (pss_cons (ps_for PassesOwn.never rfl (pi_range1 rfl G.range (pa_cons (pe_has DT hr1 rfl (pa_cons (pv 0) (pa_cons pe_int pa_nil))) pa_nil)) (pg_name (i := 4) scMade.nd rfl (Or.inl rfl))
        (pss_cons (ps_par (i := 5) (j := 6) rfl scMade.nd rfl rfl (by decide) rfl rfl (pa_cons (pe_mid (pe_ix ix_list (pe_lst (pa_cons pe_str (pa_cons pe_str (pa_cons pe_str pa_nil)))) (pe_has DT hr1 rfl (pa_cons (pv 0) (pa_cons pe_int pa_nil))) (fun _ _ => rfl))) (pa_cons (pe_mid (pe_ix ix_list (pe_lst (pa_cons pe_str (pa_cons pe_str (pa_cons pe_str pa_nil)))) (pe_has DT hr1 rfl (pa_cons (pv 0) (pa_cons pe_int pa_nil))) (fun _ _ => rfl))) pa_nil)) (by rfl))
        (pss_cons (ps_set (i := 7) scMade.nd rfl (Or.inl rfl) (pe_has DT hr1 rfl (pa_cons (pv 0) (pa_cons pe_int pa_nil))))
        (pss_one (ps_if (PW.pt (pw_and (pt_cmpR op_eq (pv 7) pe_int (nomark _)) (pw_and1 (pt_cmpR op_lt (pe_callB call_len_seq (by rfl) G.len PySem.boot_len (pa_cons (pv 3) pa_nil)) pe_int (nomark _)))))
          (pss_cons (ps_expr (pe_bm PySem.F.plainAttrs_list PySem.F.slot_list_append PySem.F.type_list_append mt_append (pv 3) (pa_cons (pe_op op_add_str pe_str (pe_ix ix_str pe_str (pe_callB call_len_seq (by rfl) G.len PySem.boot_len (pa_cons (pv 3) pa_nil)) (fun _ _ => rfl))) pa_nil)))
          (pss_one (ps_expr (pe_bm PySem.F.plainAttrs_list PySem.F.slot_list_append PySem.F.type_list_append mt_append (pv 2) (pa_cons (pe_tup (pa_cons pe_str (pa_cons (pe_ix ix_list (pv 3) (pe_un un_neg pe_int) (fun _ _ => rfl)) (pa_cons (pv 5) pa_nil)))) pa_nil)))))
          (pss_one (ps_if (pt_cmpR op_lt (pv 7) pe_int (nomark _))
            (pss_one (ps_expr (pe_bm PySem.F.plainAttrs_list PySem.F.slot_list_append PySem.F.type_list_append mt_append (pv 2) (pa_cons (pe_tup (pa_cons pe_str (pa_cons (pv 5) (pa_cons (pv 6) (pa_cons (pe_ix ix_list (pv 1) (pe_has DT hr1 rfl (pa_cons (pv 0) (pa_cons pe_int pa_nil))) (fun _ _ => rfl)) pa_nil))))) pa_nil))))
            (pss_one (ps_expr (pe_bm PySem.F.plainAttrs_list PySem.F.slot_list_append PySem.F.type_list_append mt_append (pv 2) (pa_cons (pe_tup (pa_cons pe_str (pa_cons (pv 5) (pa_cons (pv 6) pa_nil)))) pa_nil)))))))))))
      (pss_cons (ps_set (i := 8) scMade.nd rfl (Or.inl rfl) (pe_mid (pe_lst (pa_cons (pe_tup (pa_cons pe_int (pa_cons pe_str (pa_cons pe_str (pa_cons pe_str pa_nil))))) (pa_cons (pe_tup (pa_cons pe_int (pa_cons pe_str (pa_cons pe_str (pa_cons pe_str pa_nil))))) (pa_cons (pe_tup (pa_cons pe_int (pa_cons pe_str (pa_cons pe_str (pa_cons pe_str pa_nil))))) pa_nil))))))
      (pss_cons (ps_set (i := 8) scMade.nd rfl (Or.inl rfl) (pe_mid (pe_op op_cat (pv 8) (pe_lst (pa_cons (pe_tup (pa_cons pe_int (pa_cons pe_str (pa_cons pe_str (pa_cons pe_str pa_nil))))) (pa_cons (pe_tup (pa_cons pe_int (pa_cons pe_str (pa_cons pe_str (pa_cons pe_str pa_nil))))) pa_nil))))))
      (pss_cons (ps_setLc (i := 2) (own := [("_law_deed", 11)]) (g := gName 11) (tt := tYes) (te := tMid (tFix K)) rfl scMade.nd rfl rfl (sw_true rfl rfl rfl (by decide +kernel)) (pi_list (pv 2)) (blkOk_by (N := nMade) (sc := defScope sMade) (by decide +kernel))
          (fun _ _ _ _ _ => pg_name (i := 11) scMade.nd rfl (Or.inl rfl)) (fun _ _ _ _ _ => pts_nil)
          (fun _ _ _ _ _ => pe_mid (pe_callTy call_tuple_of (by rfl) G.tuple (by decide +kernel) (pa_cons (pe_lc (own := [("_law_part", 12)]) (g := gName 12) (tt := tYes) (te := tIf (tTest (tOp rNe (tVar 12) (tC (.str "wc")))) (tVar 12) (tC (.str "wb"))) rfl scMade.nd (pi_tup (pv 11)) (blkOk_by (N := nMade) (sc := cs2) (by decide +kernel))
            (fun _ _ _ _ _ => pg_name (i := 12) scMade.nd rfl (Or.inl rfl)) (fun _ _ _ _ _ => pts_nil) (fun _ _ _ _ _ => pe_ifExp (pt_cmpR op_ne (pv 12) pe_str (nomark _)) (pv 12) pe_str)) pa_nil))))
      (pss_cons (ps_setLc (i := 9) (own := [("_law_k", 13), ("_law_word", 14)]) (g := gTup K 2 (gCons (gName 13) (gCons (gName 14) gNil))) (tt := tYes) (te := tTup (tCons (tOp (rI0 fun i j => .int (i + j)) (tVar 13) (tC (.int 1))) (tCons (tVar 14) (tCons (tC (.str "whole")) (tCons (tC (.str "must")) tNil))))) rfl scMade.nd rfl rfl (sw_true rfl rfl rfl (by decide +kernel)) (pi_enum rfl G.enumerate (pa_cons (pv 3) pa_nil)) (blkOk_by (N := nMade) (sc := defScope sMade) (by decide +kernel))
          (fun _ _ _ _ _ => pg_tup rfl (pgs_cons (pg_name (i := 13) scMade.nd rfl (.inl rfl)) (pgs_cons (pg_name (i := 14) scMade.nd rfl (.inl rfl)) pgs_nil))) (fun _ _ _ _ _ => pts_nil) (fun _ _ _ _ _ => pe_tup (pa_cons (pe_op op_add (pv 13) pe_int) (pa_cons (pv 14) (pa_cons pe_str (pa_cons pe_str pa_nil))))))
      (pss_cons (ps_set (i := 10) scMade.nd rfl (Or.inl rfl) (pe_mid (pe_tup (pa_cons (pe_tup (pa_cons pe_str (pa_cons (pe_callTy call_tuple_of (by rfl) G.tuple (by decide +kernel) (pa_cons (pv 8) pa_nil)) pa_nil))) (pa_cons (pe_tup (pa_cons pe_str (pa_cons (pe_callTy call_tuple_of (by rfl) G.tuple (by decide +kernel) (pa_cons (pv 9) pa_nil)) pa_nil))) pa_nil)))))
      (pss_one (ps_ret (pe_tup (pa_cons pe_str (pa_cons pe_int (pa_cons (pe_tup pa_nil) (pa_cons (pv 10) (pa_cons (pe_tup (pa_cons (pe_tup (pa_cons pe_int (pa_cons pe_str (pa_cons pe_str (pa_cons pe_str (pa_cons (pe_callTy call_tuple_of (by rfl) G.tuple (by decide +kernel) (pa_cons (pv 2) pa_nil)) pa_nil)))))) pa_nil)) pa_nil))))))))))))))), ?_⟩
    refine ⟨_, rfl, Nat.zero_le _, fun t0 ht0 => ?_⟩
    refine ⟨b, t0, 4, [], n, rfl, hB.new ht0, by decide, by decide, upd_same, by decide, by show n + 200 ≤ 1000000; omega, fun Wd zs H1 hW0 hW1 lzs ndz nmz K1 B1 => ?_⟩
    have K01 : Kp b H H1 := (Kp.refl.new ht0).trans K1
    have nWb : Wd ≠ b := strs_ne_bag hW1 B1
    refine ⟨Nat.zero_le _, fun D hD => ⟨Nat.zero_le _, fun L hL => ⟨_, _, rfl, ?_⟩⟩⟩
    have nDL : D ≠ L := fun e => by rw [← e, upd_same] at hL; cases hL
    have nDb : D ≠ b := new_ne hD B1
    have nLb : L ≠ b := new_ne hL (B1.new hD)
    have nDW : D ≠ Wd := (ne_of_none hW1 hD).symm
    have hW2 : (upd (upd H1 D (.lst [])) L (.lst [])) Wd = some (.lst (zs.map V.str)) := Same.new hL _ _ (Same.new hD _ _ hW1)
    have nLW : L ≠ Wd := fun e => by
      have h1 : (upd H1 D (.lst [])) Wd = some (.lst (zs.map V.str)) := Same.new hD _ _ hW1
      rw [← e, hL] at h1
      cases h1
    have hDH : H D = none := K01.free B1.at hD
    have hLH : H L = none := (K01.new (o := .lst []) hD).free (B1.new hD).at hL
    have hD2 : (upd (upd H1 D (.lst [])) L (.lst [])) D = some (.lst []) := by rw [upd_ne nDL, upd_same]
    refine ⟨_, rfl, b, 7, n + 120, rfl, by decide, by decide, (B1.new hD).new hL, by show _ ≤ 1000000; omega, fun x H3 x0 x1 K3 B3 => ?_⟩
    refine ⟨x, rfl, by omega, by omega, ?_⟩
    refine for_range (lo := 0) (n := x.toNat) (fun i σ H3 => ∃ (ts : List Addr) (ds0 : List Dd) (ys : List Str), (∃ a4 a5 a6 a7, σ = [some (.ref b), some (.ref Wd), some (.ref D), some (.ref L), a4, a5, a6, a7, none, none, none, none, none, none, none]) ∧ Kp b H H3 ∧ Bag H3 b (n + 121 + 4 * i) ∧ H3 D = some (.lst (ts.map V.ref)) ∧ DsAt H3 ts ds0 ∧ ds0.length = i ∧ (∀ d ∈ ds0, d.raw) ∧ H3 L = some (.lst (ys.map V.str)) ∧ ys.length ≤ 5 ∧ H3 Wd = some (.lst (zs.map V.str))) ?_ ?_ ?_
    · exact ⟨[], [], [], ⟨_, _, _, _, rfl⟩, ((K01.new hD).new hL).trans K3, B3, K3 _ _ nDb hD2, .nil, rfl, (fun d h => by cases h), K3 _ _ nLb upd_same, by decide, K3 _ _ nWb hW2⟩
    · rintro i σ H3 hi ⟨ts, ds0, ys, ⟨a4, a5, a6, a7, rfl⟩, K3, B3, hD3, da3, l0, raw, hL3, ly, hW3⟩
      have hi7 : i < 7 := by omega
      refine ⟨fun v H4 => ∃ z, v = .str z ∧ IsR z ∧ Kp b H3 H4 ∧ Bag H4 b (n + 121 + 4 * i + 1), ?_, ?_⟩
      · refine ⟨(by show 3 ≤ sizeLine; decide), fun q hq => ?_⟩
        refine ⟨_, rfl, b, 3, n + 121 + 4 * i, rfl, by decide, by decide, B3.new hq, by show _ ≤ 1000000; omega, fun d H4 d0 d1 K4 B4 => ?_⟩
        have hq4 := K4 q _ (new_ne hq B3) upd_same
        have kp : Kp b H3 H4 := (Kp.refl.new hq).trans K4
        have hd : d = 0 ∨ d = 1 ∨ d = 2 := by omega
        rcases hd with rfl | rfl | rfl
        · exact ⟨q, _, _, _, rfl, rfl, SqL.of hq4, rfl, _, rfl, .inl rfl, kp, B4⟩
        · exact ⟨q, _, _, _, rfl, rfl, SqL.of hq4, rfl, _, rfl, .inr (.inl rfl), kp, B4⟩
        · exact ⟨q, _, _, _, rfl, rfl, SqL.of hq4, rfl, _, rfl, .inr (.inr rfl), kp, B4⟩
      rintro v1 H4 ⟨z1, rfl, r1, K4, B4⟩
      refine ⟨fun v H5 => ∃ z, v = .str z ∧ IsS z ∧ Kp b H4 H5 ∧ Bag H5 b (n + 121 + 4 * i + 2), ?_, ?_⟩
      · refine ⟨(by show 3 ≤ sizeLine; decide), fun q hq => ?_⟩
        refine ⟨_, rfl, b, 3, n + 121 + 4 * i + 1, rfl, by decide, by decide, B4.new hq, by show _ ≤ 1000000; omega, fun d H5 d0 d1 K5 B5 => ?_⟩
        have hq5 := K5 q _ (new_ne hq B4) upd_same
        have kp : Kp b H4 H5 := (Kp.refl.new hq).trans K5
        have hd : d = 0 ∨ d = 1 ∨ d = 2 := by omega
        rcases hd with rfl | rfl | rfl
        · exact ⟨q, _, _, _, rfl, rfl, SqL.of hq5, rfl, _, rfl, .inl rfl, kp, B5⟩
        · exact ⟨q, _, _, _, rfl, rfl, SqL.of hq5, rfl, _, rfl, .inr (.inl rfl), kp, B5⟩
        · exact ⟨q, _, _, _, rfl, rfl, SqL.of hq5, rfl, _, rfl, .inr (.inr rfl), kp, B5⟩
      rintro v2 H5 ⟨z2, rfl, s2, K5, B5⟩
      refine ⟨_, _, rfl, _, rfl, b, 4, n + 121 + 4 * i + 2, rfl, by decide, by decide, B5, by show _ ≤ 1000000; omega, fun y H6 y0 y1 K6 B6 => ?_⟩
      have K36 : Kp b H3 H6 := (K4.trans K5).trans K6
      have hD6 := K36 _ _ nDb hD3
      have hL6 := K36 _ _ nLb hL3
      have hW6 := K36 _ _ nWb hW3
      have da6 : DsAt H6 ts ds0 := da3.tk (((K4.tk B3).trans (K5.tk B4)).trans (K6.tk B5))
      have lts : (ts.map V.ref).length < sizeLine := by
        rw [List.length_map, da3.length, l0]
        exact Nat.lt_trans hi7 (by decide)
      have put1 : ∀ (H7 : Hp) (T : Addr) (d : Dd), H7 T = none → Kp b H3 H7 → Bag H7 b (n + 121 + 4 * (i + 1)) → H7 D = some (.lst (ts.map V.ref)) → DsAt H7 ts ds0 → d.raw → H7 L = some (.lst (ys.map V.str)) → H7 Wd = some (.lst (zs.map V.str)) → (fun HX : Hp => (∃ (ts : List Addr) (ds0 : List Dd) (ys : List Str), (∃ a4 a5 a6 a7, [some (.ref b), some (.ref Wd), some (.ref D), some (.ref L), some (.int (0 + i)), some (.str z1), some (.str z2), some (.int y), none, none, none, none, none, none, none] = [some (V.ref b), some (.ref Wd), some (.ref D), some (.ref L), a4, a5, a6, a7, none, none, none, none, none, none, none]) ∧ Kp b H HX ∧ Bag HX b (n + 121 + 4 * (i + 1)) ∧ HX D = some (.lst (ts.map V.ref)) ∧ DsAt HX ts ds0 ∧ ds0.length = i + 1 ∧ (∀ d ∈ ds0, d.raw) ∧ HX L = some (.lst (ys.map V.str)) ∧ ys.length ≤ 5 ∧ HX Wd = some (.lst (zs.map V.str)))) (upd (upd H7 T (.tup (d.ps.map V.str))) D (.lst (ts.map V.ref ++ [.ref T]))) := fun H7 T d hT K7 B7 hD7 da7 rd hL7 hW7 => by
        have hDT : (upd H7 T (.tup (d.ps.map V.str))) D = some (.lst (ts.map V.ref)) := Same.new hT _ _ hD7
        have tk : Tk H7 (upd (upd H7 T (.tup (d.ps.map V.str))) D (.lst (ts.map V.ref ++ [.ref T]))) := (Tk.new hT).trans (Tk.wr hDT)
        refine ⟨ts ++ [T], ds0 ++ [d], ys, ⟨_, _, _, _, rfl⟩, ((K3.trans K7).new hT).wr hDH, (B7.new hT).ne nDb, ?_, prd_app (da7.tk tk) (.cons ?_ .nil), by rw [List.length_append, l0]; rfl, ?_, ?_, ly, ?_⟩
        · rw [upd_same, List.map_append]
          rfl
        · rw [upd_ne (ne_of_none hD7 hT).symm, upd_same]
        · intro e he
          rcases List.mem_append.mp he with he | he
          · exact raw e he
          · rw [List.mem_singleton.mp he]; exact rd
        · rw [upd_ne nDL.symm]
          exact Same.new hT _ _ hL7
        · rw [upd_ne nDW.symm]
          exact Same.new hT _ _ hW7
      refine ⟨_, rfl, rfl, _, rfl, ite2 (fun c1 => ?_) (fun c1 => iteF ?_)⟩
      · refine ⟨_, rfl, L, _, rfl, .inl (SqL.of hL6), _, _, rfl, rfl, _, rfl, ite2 (fun c2 => ?_) (fun c2 => ?_)⟩
        · have l5 : ys.length < 5 := by
            have := of_decide_eq_true c2
            rw [List.length_map] at this
            omega
          obtain ⟨cc, hcc⟩ : ∃ cc, atI ("abcde" : Str).cps.toList ((ys.map V.str).length : Int) = some cc := by
            have e5 : ("abcde" : Str).cps.toList = [97, 98, 99, 100, 101] := by decide +kernel
            obtain ⟨cc, e, _⟩ := atI_in (xs := ("abcde" : Str).cps.toList) (i := ((ys.map V.str).length : Int)) (by omega) (by rw [e5, List.length_map]; show (ys.length : Int) < 5; omega)
            exact ⟨cc, e⟩
          refine ⟨_, rfl, .inl ⟨rfl, _, SqL.of hL6⟩, _, rfl, L, _, rfl, .inl (SqL.of hL6), _, _, cc, rfl, rfl, by decide +kernel, hcc, _, _, rfl, rfl, (by show 1 + 1 ≤ sizeLine; decide), L, _, _, rfl, rfl, hL6, ?_, ?_⟩
          · rw [List.length_map]
            exact Nat.lt_trans l5 (by decide)
          have hL7 : (upd H6 L (.lst (ys.map V.str ++ [.str ("t" ++ one cc)]))) L = some (.lst (ys.map V.str ++ [.str ("t" ++ one cc)])) := upd_same
          have hD7 : (upd H6 L (.lst (ys.map V.str ++ [.str ("t" ++ one cc)]))) D = some (.lst (ts.map V.ref)) := by rw [upd_ne nDL]; exact hD6
          refine ⟨_, rfl, .inl ⟨rfl, _, SqL.of hD7⟩, _, rfl, _, rfl, L, _, _, _, rfl, rfl, SqL.of hL7, lastV _ _, _, rfl, (by show 3 ≤ sizeLine; decide), fun T hT => ?_⟩
          refine ⟨D, _, _, rfl, rfl, Same.new hT _ _ hD7, lts, ?_⟩
          have nTL : L ≠ T := ne_of_none hL7 hT
          have nTD : D ≠ T := ne_of_none hD7 hT
          have nTb : T ≠ b := new_ne hT (B6.ne nLb)
          have tk : Tk H6 (upd (upd (upd H6 L (.lst (ys.map V.str ++ [.str ("t" ++ one cc)]))) T (.tup ((Dd.tell ("t" ++ one cc) z1).ps.map V.str))) D (.lst (ts.map V.ref ++ [.ref T]))) := ((Tk.wr hL6).trans (Tk.new hT)).trans (Tk.wr (Same.new hT _ _ hD7))
          refine ⟨ts ++ [T], ds0 ++ [.tell ("t" ++ one cc) z1], ys ++ ["t" ++ one cc], ⟨_, _, _, _, rfl⟩, (((K3.trans K36).wr hLH).new hT).wr hDH, (((B6.ne nLb).new hT).ne nDb).mono (by omega), ?_, prd_app (da6.tk tk) (.cons ?_ .nil), by rw [List.length_append, l0]; rfl, ?_, ?_, by rw [List.length_append]; show ys.length + 1 ≤ 5; omega, ?_⟩
          · rw [upd_same, List.map_append]
            rfl
          · rw [upd_ne nTD.symm, upd_same]
            rfl
          · intro e he
            rcases List.mem_append.mp he with he | he
            · exact raw e he
            · rw [List.mem_singleton.mp he]; exact r1
          · rw [upd_ne nDL.symm, upd_ne nTL, upd_same, List.map_append]
            rfl
          · rw [upd_ne nDW.symm]
            refine Same.new hT _ _ ?_
            rw [upd_ne nLW.symm]
            exact hW6
        · refine ⟨_, rfl, _, _, rfl, rfl, _, rfl, ite2 (fun c3 => ?_) (fun c3 => ?_)⟩
          · refine ⟨_, rfl, .inl ⟨rfl, _, SqL.of hD6⟩, _, rfl, _, rfl, _, rfl, _, rfl, b, 4, n + 121 + 4 * i + 3, rfl, by decide, by decide, B6, by show _ ≤ 1000000; omega, fun g H7 g0 g1 K7 B7 => ?_⟩
            obtain ⟨u, hu1, _, hum⟩ := atI_in (xs := zs.map V.str) g0 (by rw [List.length_map]; omega)
            obtain ⟨z, _, rfl⟩ := List.mem_map.mp hum
            refine ⟨Wd, _, _, _, rfl, rfl, SqL.of (K7 _ _ nWb hW6), hu1, (by show 4 ≤ sizeLine; decide), fun T hT => ?_⟩
            exact ⟨D, _, _, rfl, rfl, Same.new hT _ _ (K7 _ _ nDb hD6), lts, put1 H7 T (.take z1 z2 z) hT (K36.trans K7) (B7.mono (by omega)) (K7 _ _ nDb hD6) (da6.tk (K7.tk B6)) ⟨r1, s2⟩ (K7 _ _ nLb hL6) (K7 _ _ nWb hW6)⟩
          · refine ⟨_, rfl, .inl ⟨rfl, _, SqL.of hD6⟩, _, rfl, _, rfl, (by show 3 ≤ sizeLine; decide), fun T hT => ?_⟩
            exact ⟨D, _, _, rfl, rfl, Same.new hT _ _ hD6, lts, put1 H6 T (.add z1 z2) hT K36 (B6.mono (by omega)) hD6 da6 ⟨r1, s2⟩ hL6 hW6⟩
      · refine ⟨_, rfl, _, _, rfl, rfl, _, rfl, ite2 (fun c3 => ?_) (fun c3 => ?_)⟩
        · refine ⟨_, rfl, .inl ⟨rfl, _, SqL.of hD6⟩, _, rfl, _, rfl, _, rfl, _, rfl, b, 4, n + 121 + 4 * i + 3, rfl, by decide, by decide, B6, by show _ ≤ 1000000; omega, fun g H7 g0 g1 K7 B7 => ?_⟩
          obtain ⟨u, hu1, _, hum⟩ := atI_in (xs := zs.map V.str) g0 (by rw [List.length_map]; omega)
          obtain ⟨z, _, rfl⟩ := List.mem_map.mp hum
          refine ⟨Wd, _, _, _, rfl, rfl, SqL.of (K7 _ _ nWb hW6), hu1, (by show 4 ≤ sizeLine; decide), fun T hT => ?_⟩
          exact ⟨D, _, _, rfl, rfl, Same.new hT _ _ (K7 _ _ nDb hD6), lts, put1 H7 T (.take z1 z2 z) hT (K36.trans K7) (B7.mono (by omega)) (K7 _ _ nDb hD6) (da6.tk (K7.tk B6)) ⟨r1, s2⟩ (K7 _ _ nLb hL6) (K7 _ _ nWb hW6)⟩
        · refine ⟨_, rfl, .inl ⟨rfl, _, SqL.of hD6⟩, _, rfl, _, rfl, (by show 3 ≤ sizeLine; decide), fun T hT => ?_⟩
          exact ⟨D, _, _, rfl, rfl, Same.new hT _ _ hD6, lts, put1 H6 T (.add z1 z2) hT K36 (B6.mono (by omega)) hD6 da6 ⟨r1, s2⟩ hL6 hW6⟩
    rintro σ H3 ⟨ts, ds0, ys, ⟨a4, a5, a6, a7, rfl⟩, K3, B3, hD3, da3, l0, raw, hL3, ly, hW3⟩
    have ts6 : ts.length ≤ 6 := by
      have := da3.length
      omega
    -- fields
    refine ⟨fun v H4 => ∃ F xs, v = .ref F ∧ H4 F = some (.lst xs) ∧ xs.length ≤ 3 ∧ Same H3 H4, ?_, ?_⟩
    · refine ⟨(by show 4 ≤ sizeLine; decide), fun t1 h1 => ⟨(by show 4 ≤ sizeLine; decide), fun t2 h2 => ⟨(by show 4 ≤ sizeLine; decide), fun t3 h3 => ⟨(by show 3 ≤ sizeLine; decide), fun F hF => ?_⟩⟩⟩⟩
      exact ⟨F, _, rfl, upd_same, (by show 3 ≤ 3; decide), (((Same.new h1).trans (Same.new h2)).trans (Same.new h3)).trans (Same.new hF)⟩
    rintro v4 H4 ⟨F, xs4, rfl, hF4, lx4, S4⟩
    refine ⟨fun v H5 => ∃ F xs, v = .ref F ∧ H5 F = some (.lst xs) ∧ xs.length ≤ 5 ∧ Same H4 H5, ?_, ?_⟩
    · refine ⟨_, rfl, (by show 4 ≤ sizeLine; decide), fun t1 h1 => ⟨(by show 4 ≤ sizeLine; decide), fun t2 h2 => ⟨(by show 2 ≤ sizeLine; decide), fun F2 hF2 => ?_⟩⟩⟩
      have S := ((Same.new h1).trans (Same.new h2)).trans (Same.new (o := .lst [.ref t1, .ref t2]) hF2)
      refine ⟨F, F2, _, _, rfl, rfl, S _ _ hF4, upd_same, ?_, fun F3 hF3 => ⟨F3, _, rfl, upd_same, ?_, S.trans (Same.new hF3)⟩⟩
      · exact Nat.le_trans (Nat.add_le_add_right lx4 2) (by decide)
      · rw [List.length_append]
        exact Nat.add_le_add_right lx4 2
    rintro v5 H5 ⟨F5, xs5, rfl, hF5, lx5, S5⟩
    have S35 := S4.trans S5
    have hD5 := S35 _ _ hD3
    have da5 := da3.tk (Same.tk S35)
    -- deeds mended
    refine ⟨_, rfl, D, rfl, ⟨_, SqL.of hD5⟩, fun D2 hD2 => ?_⟩
    refine lc_it (walk_list (K := K) (a := D) (xs := ts.map V.ref)) (fun j H6 => Same H5 H6 ∧ ∃ ts2, H6 D2 = some (.lst (ts2.map V.ref)) ∧ DsAt H6 ts2 ((ds0.take j).map Dd.fix)) ?_ ?_ ?_ ?_
    · exact ⟨Same.new hD2, [], upd_same, .nil⟩
    · rintro j H6 _ ⟨S6, _⟩
      exact SqL.of (S6 _ _ hD5)
    · rintro j x H6 H6' hj ⟨S6, ts2, hD6, da6⟩ ⟨rfl, hx⟩
      obtain ⟨t, d, rfl, hdj, ht⟩ := da5.get hx
      have ht6 := S6 _ _ ht
      have lt2 : ts2.length ≤ 6 := by
        rw [da6.length, List.length_map, List.length_take]
        have := da3.length
        omega
      refine ⟨rfl, yes (iteT ?_)⟩
      refine ⟨fun v H7 => ∃ T, v = .ref T ∧ H7 T = some (.tup (d.fix.ps.map V.str)) ∧ Same H6' H7, ?_, ?_⟩
      · refine ⟨_, rfl, t, rfl, ⟨_, SqT.of ht6⟩, fun D3 hD3' => ?_⟩
        have lps : (d.ps.map fx).length ≤ 4 := by cases d <;> simp [Dd.ps]
        refine lc_it (walk_tup (K := K) (a := t) (xs := d.ps.map V.str)) (fun m H7 => H7 = upd H6' D3 (.lst (((d.ps.map fx).map V.str).take m))) rfl ?_ ?_ ?_
        · rintro m H7 _ rfl
          exact SqT.of (Same.new hD3' _ _ ht6)
        · rintro m x H7 H8 hm rfl ⟨rfl, hx⟩
          obtain ⟨z, hz, rfl⟩ : ∃ z, d.ps[m]? = some z ∧ x = .str z := by
            rw [List.getElem?_map] at hx
            cases q : d.ps[m]? with
            | none => rw [q] at hx; cases hx
            | some z => rw [q] at hx; exact ⟨z, rfl, (Option.some.inj hx).symm⟩
          have hfx : ((d.ps.map fx).map V.str)[m]? = some (.str (fx z)) := by
            rw [List.getElem?_map, List.getElem?_map, hz]
            rfl
          have sz : (((d.ps.map fx).map V.str).take m).length < sizeLine := by
            rw [List.length_take, List.length_map]
            exact Nat.lt_of_le_of_lt (Nat.le_trans (Nat.min_le_right _ _) lps) (by decide)
          refine ⟨rfl, yes (iteT ?_)⟩
          refine ⟨_, rfl, rfl, _, rfl, ite2 (fun c => ?_) (fun c => ?_)⟩
          · have e : fx z = z := if_pos fun e => by
              rw [e] at c
              simp at c
            rw [e] at hfx
            exact ⟨_, rfl, _, upd_same, sz, put_next hfx⟩
          · have e0 : z = "wc" := by
              by_cases e : z = "wc"
              · exact e
              · exact absurd (by rw [sne e]; rfl) c
            have e : fx z = "wb" := if_neg fun h => h e0
            rw [e] at hfx
            exact ⟨_, upd_same, sz, put_next hfx⟩
        · rintro H7 rfl
          have ef : ((d.ps.map fx).map V.str).take (d.ps.map V.str).length = d.fix.ps.map V.str := by
            rw [fix_ps, List.take_of_length_le (by rw [List.length_map, List.length_map, List.length_map]; exact Nat.le_refl _)]
          rw [ef]
          exact ⟨D3, _, rfl, .inl ⟨SqL.of upd_same, fun T hT => ⟨T, rfl, upd_same, (Same.new hD3').trans (Same.new hT)⟩⟩⟩
      rintro v7 H7 ⟨T, rfl, hT7, S7⟩
      have hD7 := S7 _ _ hD6
      have tk : Tk H7 (upd H7 D2 (.lst (ts2.map V.ref ++ [.ref T]))) := Tk.wr hD7
      refine ⟨_, hD7, by rw [List.length_map]; exact Nat.lt_of_le_of_lt lt2 (by decide), Same.wr (S6.trans S7) hD2, ts2 ++ [T], ?_, ?_⟩
      · rw [upd_same, List.map_append]
        rfl
      · rw [List.take_succ, hdj, List.map_append]
        exact prd_app ((da6.tk (Same.tk S7)).tk tk) (.cons (tk _ _ hT7) .nil)
    rintro H6 ⟨S6, ts2, hD6, da6⟩
    have etk : (ds0.take (ts.map V.ref).length).map Dd.fix = ds0.map Dd.fix := by
      rw [List.length_map, da3.length, List.take_length]
    rw [etk] at da6
    have hL6 := S6 _ _ (S35 _ _ hL3)
    -- what is told
    refine ⟨_, rfl, L, _, rfl, SqL.of hL6, fun D4 hD4 => ?_⟩
    refine lc_it (walk_enum (K := K) (a := L) (xs := ys.map V.str)) (fun j H7 => Same H6 H7 ∧ ∃ xs, H7 D4 = some (.lst xs) ∧ xs.length = j) ?_ ?_ ?_ ?_
    · exact ⟨Same.new hD4, [], upd_same, rfl⟩
    · rintro j H7 _ ⟨S7, _⟩
      exact SqL.of (S7 _ _ hL6)
    · rintro j x H7 H7' hj ⟨S7, xs, hD7, lx⟩ ⟨T, y1, y2, rfl, hT, rfl, e1, e2⟩
      cases e1
      have hj5 : j < 5 := by
        rw [List.length_map] at hj
        omega
      refine ⟨T, _, rfl, SqT.of upd_same, rfl, _, _, rfl, _, _, rfl, rfl, rfl, yes (iteT ?_)⟩
      refine ⟨_, rfl, _, _, rfl, rfl, _, rfl, (by show 4 ≤ sizeLine; decide), fun T2 hT2 => ?_⟩
      have SS := (Same.new (o := .tup [.int (j : Nat), y2]) hT).trans (Same.new (o := .tup [.int (((j : Nat) : Int) + 1), y2, .str "whole", .str "must"]) hT2)
      refine ⟨xs, SS _ _ hD7, by rw [lx]; exact Nat.lt_trans hj5 (by decide), Same.wr (S7.trans SS) hD4, _, upd_same, by rw [List.length_append, lx]; rfl⟩
    rintro H7 ⟨S7, xs7, hD7, lx7⟩
    have S57 := S6.trans S7
    -- rows
    refine ⟨fun v H8 => ∃ R, v = .ref R ∧ Same H7 H8, ?_, ?_⟩
    · refine ⟨_, rfl, F5, _, rfl, .inl ⟨SqL.of (S57 _ _ hF5), fun t1 h1 => ⟨(by show 2 ≤ sizeLine; decide), fun t2 h2 => ?_⟩⟩⟩
      have S8 := (Same.new (o := .tup xs5) h1).trans (Same.new (o := .tup [.str "asks", .ref t1]) h2)
      refine ⟨_, rfl, D4, _, rfl, .inl ⟨SqL.of (S8 _ _ hD7), fun t3 h3 => ⟨(by show 2 ≤ sizeLine; decide), fun t4 h4 => ⟨(by show 2 ≤ sizeLine; decide), fun R hR => ⟨R, rfl, ?_⟩⟩⟩⟩⟩
      exact ((S8.trans (Same.new h3)).trans (Same.new h4)).trans (Same.new hR)
    rintro v8 H8 ⟨R, rfl, S8⟩
    have S68 := S7.trans S8
    refine ⟨Nat.zero_le _, fun e0 he0 => ?_⟩
    have S9 := Same.new (o := .tup []) he0
    have hD9 := S9 _ _ (S68 _ _ hD6)
    refine ⟨_, rfl, _, rfl, D2, _, rfl, .inl ⟨SqL.of hD9, fun dt hdt => ⟨(by show 5 ≤ sizeLine; decide), fun c1 hc1 => ⟨(by show 1 ≤ sizeLine; decide), fun cl hcl => ⟨(by show 5 ≤ sizeLine; decide), fun p hp => ?_⟩⟩⟩⟩⟩
    have Sd := Same.new (o := .tup (ts2.map V.ref)) hdt
    have Sc := Same.new (o := .tup [.int 7, .str "pay", .str "asks", .str "tells", .ref dt]) hc1
    have Sl := Same.new (o := .tup [.ref c1]) hcl
    have Sp := Same.new (o := .tup [.str "bank", .int 1, .ref e0, .ref R, .ref cl]) hp
    have Sall := (((S9.trans Sd).trans Sc).trans Sl).trans Sp
    refine k p (ds0.map Dd.fix) _ ⟨⟨cl, c1, dt, _, _, _, _, _, _, _, upd_same, Sp _ _ upd_same, Sp _ _ (Sl _ _ upd_same), .tup (Sp _ _ (Sl _ _ (Sc _ _ upd_same))) ((da6.tk (Same.tk (S68.trans Sall))).tp)⟩, ?_, ?_⟩ ?_ ?_
    · rw [List.length_map]
      have := da3.length
      omega
    · intro d hd
      obtain ⟨d0, h0, rfl⟩ := List.mem_map.mp hd
      exact Dd.fix_ok (raw d0 h0)
    · exact K3.same ((((S35.trans S6).trans S68)).trans Sall)
    · exact (B3.same (((S35.trans S6).trans S68).trans Sall)).mono (by omega)
end
end Fh

set_option Elab.async false
set_option linter.all false
set_option maxRecDepth 100000
set_option maxHeartbeats 4000000
namespace Fh
open PySem L2 PyProof.Rows
abbrev sInit : Stmt := inClass (top 22) 0
abbrev sFace : Stmt := top 28
structure ClsF (K : PySem.W.Frag) (mg : Str → Option Value) (C : Addr) : Prop where
  cl : Cls K C
  n1 : NoAttr K C "name"
  n2 : NoAttr K C "edition"
  n3 : NoAttr K C "choices"
  n4 : NoAttr K C "records"
  n5 : NoAttr K C "calls"
  mgC : mg "Face" = some (.ref C)
def spInitF (C : Addr) : Sp := fun vs H Q _ => ∃ (x dx : Addr) (v1 v2 v3 v4 v5 : V), vs = [.ref x, v1, v2, v3, v4, v5] ∧ H x = some (.ins C dx []) ∧ Q .non (upd H x (.ins C dx (ff v1 v2 v3 v4 v5)))
section
variable {P : Program} {w : World} {K : PySem.W.Frag} {mg : Str → Option Value} {base : Heap}
abbrev pInit : List Str := ["self", "name", "edition", "choices", "records", "calls"]
theorem scInit : FnScope pInit pInit (defScope sInit) := ⟨rfl, rfl, rfl, by decide +kernel, rfl, by decide +kernel, by decide +kernel⟩
theorem ok_init {f C : Addr} {fd : FuncData} {kws : List (Str × V)} (F : FunD K "__init__" "Face.__init__" (defArgs sInit) (defBody sInit) (defScope sInit) [] kws f fd) (T : ClsF K mg C) : FnOk P w K mg base CX0 1 f fd pInit (spInitF C) := by
  refine F.ok scInit (fun vs H Q E h => ?_) (fun cdv A outer s H vs Q E hr h => ?_)
  · obtain ⟨x, dx, v1, v2, v3, v4, v5, rfl, _⟩ := h
    rfl
  · obtain ⟨x, dx, v1, v2, v3, v4, v5, rfl, hx, k⟩ := h
    refine ⟨_, PSs.nox (pss_cons (ps_fld (pv 0) (pv 1) rfl) (pss_cons (ps_fld (pv 0) (pv 2) rfl) (pss_cons (ps_fld (pv 0) (pv 3) rfl) (pss_cons (ps_fld (pv 0) (pv 4) rfl) (pss_one (ps_fld (pv 0) (pv 5) rfl)))))), ?_⟩
    refine ⟨_, rfl, _, rfl, x, C, dx, _, rfl, hx, T.cl, T.n1, (by show 0 < 1000; decide), ?_⟩
    refine ⟨_, rfl, _, rfl, x, C, dx, _, rfl, upd_same, T.cl, T.n2, ?_, ?_⟩
    · exact Nat.lt_of_le_of_lt (putF_len _ _ _) (by show 0 + 1 < 1000; decide)
    refine ⟨_, rfl, _, rfl, x, C, dx, _, rfl, upd_same, T.cl, T.n3, ?_, ?_⟩
    · exact Nat.lt_of_le_of_lt (Nat.le_trans (putF_len _ _ _) (Nat.succ_le_succ (putF_len _ _ _))) (by show 0 + 1 + 1 < 1000; decide)
    refine ⟨_, rfl, _, rfl, x, C, dx, _, rfl, upd_same, T.cl, T.n4, ?_, ?_⟩
    · exact Nat.lt_of_le_of_lt (Nat.le_trans (putF_len _ _ _) (Nat.succ_le_succ (Nat.le_trans (putF_len _ _ _) (Nat.succ_le_succ (putF_len _ _ _))))) (by show 0 + 1 + 1 + 1 < 1000; decide)
    refine ⟨_, rfl, _, rfl, x, C, dx, _, rfl, upd_same, T.cl, T.n5, ?_, ?_⟩
    · exact Nat.lt_of_le_of_lt (Nat.le_trans (putF_len _ _ _) (Nat.succ_le_succ (Nat.le_trans (putF_len _ _ _) (Nat.succ_le_succ (Nat.le_trans (putF_len _ _ _) (Nat.succ_le_succ (putF_len _ _ _))))))) (by show 0 + 1 + 1 + 1 + 1 < 1000; decide)
    have e : upd (upd (upd (upd (upd H x (.ins C dx (putF "name" v1 []))) x (.ins C dx (putF "edition" v2 (putF "name" v1 [])))) x (.ins C dx (putF "choices" v3 (putF "edition" v2 (putF "name" v1 []))))) x (.ins C dx (putF "records" v4 (putF "choices" v3 (putF "edition" v2 (putF "name" v1 [])))))) x (.ins C dx (ff v1 v2 v3 v4 v5)) = upd H x (.ins C dx (ff v1 v2 v3 v4 v5)) := by
      rw [upd_upd, upd_upd, upd_upd, upd_upd]
    rw [← e] at k
    exact k
end
structure MkF (P : Program) (w : World) (K : PySem.W.Frag) (mg : Str → Option Value) (base : Heap) (C : Addr) : Prop where
  ex : ∃ (f : Addr) (fd : FuncData) (e1 e2 e3 : Addr), Mk K C f ∧ FnOk P w K mg base CX0 1 f fd pInit (spInitF C) ∧ FunD K "__init__" "Face.__init__" (defArgs sInit) (defBody sInit) (defScope sInit) [] [("choices", .ref e1), ("records", .ref e2), ("calls", .ref e3)] f fd
  mgC : mg "Face" = some (.ref C)
def g0 {α : Type} (us mv ws : List α) : List α := us ++ ws
section
variable {K : PySem.W.Frag} {f : Addr} {fd : FuncData} {e1 e2 e3 : Addr}
abbrev DInit (K : PySem.W.Frag) (e1 e2 e3 f : Addr) (fd : FuncData) : Prop := FunD K "__init__" "Face.__init__" (defArgs sInit) (defBody sInit) (defScope sInit) [] [("choices", .ref e1), ("records", .ref e2), ("calls", .ref e3)] f fd
theorem kb0 (F : DInit K e1 e2 e3 f fd) : ∃ mv : List Value, KBn K fd pInit 3 ["choices", "records", "calls"] (fun us ws => g0 us mv ws) (fun vs zs => g0 vs [] zs) :=
  FunD.kbinds0 F 3 ["choices", "records", "calls"] [] (fun {α} us mv ws => g0 us mv ws) (by simp) (fun q h => by cases h) (fun r1 _ r3 => r1.append r3) fun D doc pm an cdv ct us mv ws h1 h2 h3 => by
    match us, h1, ws, h3, mv, h2 with
    | [_, _, _], _, [_, _, _], _, [], _ => exact rfl
end
def spFace (C : Addr) : Sp := fun vs H Q _ => ∃ (p : Addr) (v1 v2 v3 v4 v5 : V), vs = [.ref p] ∧ H p = some (.tup [v1, v2, v3, v4, v5]) ∧
  ∀ (x dx : Addr) (H' : Hp), Same H H' → H x = none → H' x = some (.ins C dx (ff v1 v2 v3 v4 v5)) → Q (.ref x) H'
section
variable {P : Program} {w : World} {K : PySem.W.Frag} {mg : Str → Option Value} {base : Heap}
theorem scFace : FnScope ["_law_parts"] ["_law_parts"] (defScope sFace) := ⟨rfl, rfl, rfl, by decide +kernel, rfl, by decide +kernel, by decide +kernel⟩
theorem ok_face {f C : Addr} {fd : FuncData} (F : Fun K "_law_face" "_law_face" sFace f fd) (M : MkF P w K mg base C) : FnOk P w K mg base CX0 3 f fd ["_law_parts"] (spFace C) := by
  obtain ⟨fi, fdi, e1, e2, e3, mk, FI, DI⟩ := M.ex
  obtain ⟨mv, hb⟩ := kb0 DI
  refine F.ok scFace (fun vs H Q E h => ?_) (fun cdv A outer s H vs Q E hr h => ?_)
  · obtain ⟨p, v1, v2, v3, v4, v5, rfl, _⟩ := h
    rfl
  · obtain ⟨p, v1, v2, v3, v4, v5, rfl, hp, k⟩ := h
    refine ⟨_, pss_one (ps_ret (pe_makeK mk FI hr rfl M.mgC hb pass0 (pa_cons (pe_ix ix_tup (pv 0) pe_int (fun _ _ => rfl)) (pa_cons (pe_ix ix_tup (pv 0) pe_int (fun _ _ => rfl)) pa_nil))
      (pk_cons (pe_ix ix_tup (pv 0) pe_int (fun _ _ => rfl)) (pk_cons (pe_ix ix_tup (pv 0) pe_int (fun _ _ => rfl)) (pk_cons (pe_ix ix_tup (pv 0) pe_int (fun _ _ => rfl)) pk_nil))))), ?_⟩
    refine ⟨_, rfl, p, _, _, _, rfl, rfl, SqT.of hp, rfl, _, rfl, p, _, _, _, rfl, rfl, SqT.of hp, rfl, _, rfl, p, _, _, _, rfl, rfl, SqT.of hp, rfl, _, rfl, p, _, _, _, rfl, rfl, SqT.of hp, rfl, _, rfl, p, _, _, _, rfl, rfl, SqT.of hp, rfl, rfl, rfl, fun x dx hx hdx hne => ?_⟩
    refine ⟨x, dx, v1, v2, v3, v4, v5, rfl, upd_same, rfl, k x dx _ ?_ hx upd_same⟩
    refine Same.wr (Same.wr (Same.new hdx) hx) hx
end

/-! ### outcome, called with its store by name -/
section
variable {K : PySem.W.Frag} {f : Addr} {fd : FuncData} {e : Addr}
abbrev DOut (K : PySem.W.Frag) (e f : Addr) (fd : FuncData) : Prop := FunD K "outcome" "outcome" (defArgs sOut) (defBody sOut) (defScope sOut) [] [("answers", .ref e)] f fd
theorem kbO (F : DOut K e f fd) : ∃ mv : List Value, KBn K fd pOut 4 ["store"] (fun us ws => us ++ (ws ++ mv)) (fun vs zs => vs ++ (zs ++ [.ref e])) :=
  FunD.kbinds0 F 4 ["store"] [("answers", .ref e)] (fun {α} us mv ws => us ++ (ws ++ mv)) (by simp) (fun q h => h) (fun r1 r2 r3 => r1.append (r3.append r2)) fun D doc pm an cdv ct us mv ws h1 h2 h3 => by
    match us, h1, ws, h3, mv, h2 with
    | [_, _, _, _], _, [_], _, [_], _ => exact ⟨_, _, _, _, _, _, rfl, rfl, rfl⟩
end
structure HasO (P : Program) (w : World) (K : PySem.W.Frag) (mg : Str → Option Value) (base : Heap) (C : Addr) : Prop where
  ex : ∃ (f e : Addr) (fd : FuncData), mg "outcome" = some (.ref f) ∧ PySem.W.keepIn K (.ref f) = true ∧ DOut K e f fd ∧ FnOk P w K mg base CX0 3 f fd pOut (spOut C)
theorem merge_ok : ∀ (l acc : Sto), IntK l → IntK acc → Uq acc → IntK (mergeK acc l) ∧ Uq (mergeK acc l)
  | [], acc, _, i, u => ⟨i, u⟩
  | p :: l, acc, hl, i, u => by
    obtain ⟨x, e⟩ := hl p List.mem_cons_self
    show IntK (mergeK (putK acc p.1 p.2) l) ∧ Uq (mergeK (putK acc p.1 p.2) l)
    rw [e]
    exact merge_ok l _ (fun q hq => hl q (List.mem_cons_of_mem _ hq)) (i.put _ _) (u.put _ _)
theorem eqd {H : Hp} {a b : Addr} {k : Sto} (ne : a ≠ b) (ha : H a = some (.dK k)) (hb : H b = some (.dK k)) (i : IntK k) (u : Uq k) : EqI H (.ref a) (.ref b) :=
  .dict ne ha hb rfl fun p hp => ⟨u p hp, by obtain ⟨x, e⟩ := i p hp; rw [e]; rfl⟩
theorem res_eq {H0 H1 H2 : Hp} {r1 r2 : V} {R : Sum Str (Sto × Sto)} (a : Res H0 H1 r1 R) (s : Same H1 H2) (c : Res H1 H2 r2 R) : ∃ p q xs ys, r1 = .ref p ∧ r2 = .ref q ∧ H2 p = some (.tup xs) ∧ H2 q = some (.tup ys) ∧ Paired (EqI H2) xs ys := by
  cases R with
  | inl u =>
    obtain ⟨t1, e1, h1⟩ := a
    obtain ⟨t2, e2, h2⟩ := c
    exact ⟨t1, t2, _, _, e1, e2, s _ _ h1, h2, .cons (.str _) (.cons (.str _) .nil)⟩
  | inr ha =>
    obtain ⟨h, an⟩ := ha
    obtain ⟨t1, A1, S1, e1, h1, hA1, hS1, _, _, sh, sa⟩ := a
    obtain ⟨t2, A2, S2, e2, h2, hA2, hS2, nA, nS, _, _⟩ := c
    obtain ⟨il, ul⟩ := merge_ok (h.filter nz) [] (fun p hp => sh.i p (List.mem_filter.mp hp).1) (fun p hp => by cases hp) (fun p hp => by cases hp)
    exact ⟨t1, t2, _, _, e1, e2, s _ _ h1, h2, .cons (.str _) (.cons (eqd (ne_of_none hA1 nA) (s _ _ hA1) hA2 sa.i sa.u) (.cons (eqd (ne_of_none hS1 nS) (s _ _ hS1) hS2 il ul) .nil))⟩
theorem Bank.tk {H H' : Hp} {p : Addr} {ds : List Dd} (h : Bank H p ds) (t : Tk H H') : Bank H' p ds := by
  obtain ⟨⟨cl, c1, dt, v1, v2, v3, v4, x2, x3, x4, h1, h2, h3, h4⟩, l, o⟩ := h
  exact ⟨⟨cl, c1, dt, v1, v2, v3, v4, x2, x3, x4, t _ _ h1, t _ _ h2, t _ _ h3, Tp.keep t _ _ h4⟩, l, o⟩
abbrev sLaw : Stmt := top 32
abbrev nLaw : List Str := ["_law_script", "_law_k", "_law_bag_here", "_law_parts", "_law_deeds", "_law_turn", "_law_value", "_law_word", "_law_held", "_law_kept", "_law_told"]
def spLaw (K : PySem.W.Frag) : Sp := fun vs H Q _ => ∃ (a : Addr) (ns : List Int), vs = [.ref a] ∧ SqL K H a (ns.map V.int) ∧ ∀ H', Q (.bl true) H'
def vk (wb : Str) (ns : List Int) : Sto := [(sk "wa", .str "a"), (sk "wb", .str wb)] ++ ((["sa", "sb", "sc"] : List Str).zip ns).map fun p => (sk p.1, V.int p.2)
theorem vk_put {wb z : Str} {ns : List Int} {i : Int} (h : (["sa", "sb", "sc"] : List Str)[ns.length]? = some z) : putK (vk wb ns) (sk z) (.int i) = vk wb (ns ++ [i]) := by
  have k1 : ∀ {y z : Str} {x : V} {l : Sto}, y ≠ z → valV l (sk z) = none → valV ((sk y, x) :: l) (sk z) = none := fun ne e => by rw [valV_neg (kn ne)]; exact e
  match ns, h with
  | [], h =>
    cases h
    rw [putK_new]
    · rfl
    · exact k1 (by decide +kernel) (k1 (by decide +kernel) rfl)
  | [a], h =>
    cases h
    rw [putK_new]
    · rfl
    · exact k1 (by decide +kernel) (k1 (by decide +kernel) (k1 (by show ("sa" : Str) ≠ "sb"; decide +kernel) rfl))
  | [a, b], h =>
    cases h
    rw [putK_new]
    · rfl
    · exact k1 (by decide +kernel) (k1 (by decide +kernel) (k1 (by show ("sa" : Str) ≠ "sc"; decide +kernel) (k1 (by show ("sb" : Str) ≠ "sc"; decide +kernel) rfl)))
  | a :: b :: c :: ns, h => simp at h
theorem three_ok (i j : Int) : StOk [(sk "a", .int i), (sk "b", .int j), (sk "", .int 0)] 3 := by
  refine ⟨fun p hp => ?_, fun p hp => ?_, by show 3 ≤ 3; decide⟩
  · simp only [List.mem_cons, List.not_mem_nil, or_false] at hp
    rcases hp with rfl | rfl | rfl <;> exact ⟨_, rfl⟩
  · simp only [List.mem_cons, List.not_mem_nil, or_false] at hp
    rcases hp with rfl | rfl | rfl
    · exact valV_pos rfl
    · rw [valV_neg (kn (by decide +kernel))]
      exact valV_pos rfl
    · rw [valV_neg (kn (by decide +kernel)), valV_neg (kn (by decide +kernel))]
      exact valV_pos rfl
section
variable {P : Program} {w : World} {K : PySem.W.Frag} {mg : Str → Option Value} {base : Heap}
theorem scLaw : FnScope nLaw ["_law_script"] (defScope sLaw) := ⟨rfl, rfl, rfl, by decide +kernel, rfl, by decide +kernel, by decide +kernel⟩
theorem ok_law {f C : Addr} {fd : FuncData} (F : Fun K "law" "law" sLaw f fd) (G : Glb mg) (DB : Has P w K mg base "_law_bag" 1 ["_law_script", "_law_at"] (spBag K)) (DT : Has P w K mg base "_law_take" 1 pTake spTake) (DM : Has P w K mg base "_law_made" 4 ["_law_bag_here"] spMade)
    (DN : Has P w K mg base "_law_near" 2 pNear spNear) (DD : Has P w K mg base "_law_due" 1 pDue spDue) (DF : Has P w K mg base "_law_face" 3 ["_law_parts"] (spFace C)) (DO : HasO P w K mg base C) : FnOk P w K mg base CX0 5 f fd ["_law_script"] (spLaw K) := by
  obtain ⟨fo, eo, fdo, mO, kO, uO, FO⟩ := DO.ex
  obtain ⟨mv, bO⟩ := kbO uO
  refine F.ok scLaw (fun vs H Q E h => ?_) (fun cdv A outer s H vs Q E hr h => ?_)
  · obtain ⟨a, ns, rfl, _⟩ := h
    rfl
  · obtain ⟨a, ns, rfl, hS, k⟩ := h
    have hr1 : Room 1 _ := hr.mono (by decide)
    have hr2 : Room 2 _ := hr.mono (by decide)
    have hr3 : Room 3 _ := hr.mono (by decide)
    have hu := hu_of hr
    refine ⟨_, pss_cons (ps_for PassesOwn.never rfl (pi_range1 rfl G.range (pa_cons (pe_mid (pe_callB (call_max2 rfl) (by rfl) G.max (by decide +kernel) (pa_cons pe_int (pa_cons (pe_callB (call_min2 rfl) (by rfl) G.min (by decide +kernel) (pa_cons pe_int (pa_cons (pe_callB call_len_seq (by rfl) G.len PySem.boot_len (pa_cons (pv 0) pa_nil)) pa_nil))) pa_nil)))) pa_nil)) (pg_name (i := 1) scLaw.nd rfl (Or.inl rfl))
        (pss_cons (ps_set (i := 2) scLaw.nd rfl (Or.inl rfl) (pe_has DB hr1 rfl (pa_cons (pv 0) (pa_cons (pv 1) pa_nil))))
        (pss_cons (ps_set (i := 3) scLaw.nd rfl (Or.inl rfl) (pe_has DM hr rfl (pa_cons (pv 2) pa_nil)))
        (pss_cons (ps_set (i := 4) scLaw.nd rfl (Or.inl rfl) (pe_ix ix_tup (pe_ix ix_tup (pe_ix ix_tup (pv 3) pe_int (fun _ _ => rfl)) pe_int (fun _ _ => rfl)) pe_int (fun _ _ => rfl)))
        (pss_one (ps_for PassesOwn.never rfl (pi_range1 rfl G.range (pa_cons (pe_op op_add pe_int (pe_has DT hr1 rfl (pa_cons (pv 2) (pa_cons pe_int pa_nil)))) pa_nil)) (pg_name (i := 5) scLaw.nd rfl (Or.inl rfl))
          (pss_cons (ps_set (i := 6) scLaw.nd rfl (Or.inl rfl) (pe_mid (pe_disp (pps_cons pe_str pe_str (pps_cons pe_str (pe_ix ix_list (pe_lst (pa_cons pe_str (pa_cons pe_str (pa_cons pe_str pa_nil)))) (pe_has DT hr1 rfl (pa_cons (pv 2) (pa_cons pe_int pa_nil))) (fun _ _ => rfl)) pps_nil)) rfl rfl (by simp) (by simp))))
          (pss_cons (ps_for PassesOwn.never rfl (pi_list (pe_lst (pa_cons pe_str (pa_cons pe_str (pa_cons pe_str pa_nil))))) (pg_name (i := 7) scLaw.nd rfl (Or.inl rfl))
            (pss_one (ps_dput hu (pv 6) (pv 7) (pe_mid (pe_ix ix_list (pe_lst (pa_cons pe_int (pa_cons pe_int (pa_cons pe_int (pa_cons (pe_op op_mul pe_int (pe_op op_pow pe_int pe_int)) (pa_cons (pe_op op_pow pe_int pe_int) (pa_cons (pe_has DT hr1 rfl (pa_cons (pv 2) (pa_cons pe_int pa_nil))) pa_nil))))))) (pe_has DT hr1 rfl (pa_cons (pv 2) (pa_cons pe_int pa_nil))) (fun _ _ => rfl))) rfl)))
          (pss_cons (ps_set (i := 8) scLaw.nd rfl (Or.inl rfl) (pe_has DN hr2 rfl (pa_cons (pv 2) (pa_cons (pv 6) (pa_cons (pv 4) pa_nil)))))
          (C8.pss_cut (ps_if (pt_cmpR op_eq (pe_has DT hr1 rfl (pa_cons (pv 2) (pa_cons pe_int pa_nil))) pe_int (nomark _)) (pss_one (ps_set (i := 8) scLaw.nd rfl (Or.inl rfl) (pe_disp (pps_cons pe_str (pe_has DT hr1 rfl (pa_cons (pv 2) (pa_cons pe_int pa_nil))) (pps_cons pe_str (pe_op op_sub (pe_op op_pow pe_int pe_int) (pe_has DT hr1 rfl (pa_cons (pv 2) (pa_cons pe_int pa_nil)))) (pps_cons pe_str pe_int pps_nil))) rfl rfl (by simp) (by simp)))) pss_nil)
          (pss_cons (ps_set (i := 9) scLaw.nd rfl (Or.inl rfl) (pe_callTy call_dictD (by rfl) G.dict (by decide +kernel) (pa_cons (pv 8) pa_nil)))
          (pss_cons (ps_set (i := 10) scLaw.nd rfl (Or.inl rfl) (pe_callN FO hr3 rfl mO kO bO pass0 (pa_cons (pe_has DF hr3 rfl (pa_cons (pv 3) pa_nil)) (pa_cons (pe_tup pa_nil) (pa_cons pe_int (pa_cons (pv 6) pa_nil)))) (pk_cons (pv 8) pk_nil)))
          (pss_one (ps_if (PW.pt (pw_or (pt_cmpR (op_neT hr.units) (pv 10) (pe_has DD hr1 rfl (pa_cons (pv 4) (pa_cons (pv 6) (pa_cons (pv 9) pa_nil)))) (nomark _)) (pw_or1 (pt_cmpR (op_ne_dictA (Nat.lt_of_le_of_lt (Nat.le_add_right _ 64) hr.units)) (pv 8) (pv 9) (nomark _))))) (pss_one (ps_ret pe_bl)) pss_nil))))))))))))))
      (pss_one (ps_ret pe_bl)), ?_⟩
    refine ⟨fun v H1 => ∃ m : Int, v = .int m ∧ 0 ≤ m ∧ m ≤ 8 ∧ H = H1, ?_, ?_⟩
    · refine ⟨_, rfl, a, _, rfl, .inl hS, _, _, rfl, _, _, rfl, ?_⟩
      refine ⟨_, rfl, ?_, ?_, rfl⟩
      · split <;> split <;> omega
      · split <;> split <;> omega
    rintro v H1 ⟨m, rfl, m0, m8, rfl⟩
    refine ⟨m, rfl, by omega, by omega, ?_⟩
    refine for_range (lo := 0) (n := m.toNat) (fun i σ H1 => (∃ a1 a2 a3 a4 a5 a6 a7 a8 a9 a10, σ = [some (.ref a), a1, a2, a3, a4, a5, a6, a7, a8, a9, a10]) ∧ Same H H1) ?_ ?_ ?_
    · exact ⟨⟨_, _, _, _, _, _, _, _, _, _, rfl⟩, Same.refl H⟩
    · rintro i σ H1 hi ⟨⟨a1, a2, a3, a4, a5, a6, a7, a8, a9, a10, rfl⟩, sm1⟩
      refine ⟨_, rfl, _, rfl, a, ns, _, rfl, SqL.ext hS sm1, by omega, by omega, fun b H2 sm2 hb B2 => ?_⟩
      have hb0 : H b = none := sm1.free hb
      have toS : ∀ {H' : Hp}, Kp b H2 H' → Same H H' := fun {H'} kp c o e => kp c o (fun q => by rw [q, hb0] at e; cases e) (sm2 _ _ (sm1 _ _ e))
      refine ⟨_, rfl, b, 0, rfl, B2, by decide, fun p ds H3 bk K3 B3 => ?_⟩
      obtain ⟨⟨cl, c1, dt, v1, v2, v3, v4, x2, x3, x4, hp3, hcl3, hc13, tdt3⟩, ld, okd⟩ := id bk
      refine ⟨_, rfl, p, _, _, _, rfl, rfl, SqT.of hp3, rfl, cl, _, _, _, rfl, rfl, SqT.of hcl3, rfl, c1, _, _, _, rfl, rfl, SqT.of hc13, rfl, ?_⟩
      refine ⟨_, rfl, b, 6, 0 + 300, rfl, by decide, by decide, B3, by decide, fun x H4 x0 x1 K4 B4 => ?_⟩
      refine ⟨_, _, rfl, rfl, _, rfl, by omega, by omega, ?_⟩
      refine for_range (lo := 0) (n := (1 + x).toNat) (fun j σ H5 => (∃ a5 a6 a7 a8 a9 a10, σ = [some (.ref a), some (.int (0 + i)), some (.ref b), some (.ref p), some (.ref dt), a5, a6, a7, a8, a9, a10]) ∧ Kp b H3 H5 ∧ Bag H5 b (301 + 20 * j)) ?_ ?_ ?_
      · exact ⟨⟨_, _, _, _, _, _, rfl⟩, K4, B4⟩
      · rintro j σ H5 hj ⟨⟨a5, a6, a7, a8, a9, a10, rfl⟩, K5, B5⟩
        have hj6 : j < 7 := by omega
        -- the value
        refine ⟨fun v H6 => ∃ vd wb, v = .ref vd ∧ H5 vd = none ∧ H6 vd = some (.dK (vk wb [])) ∧ Kp b H5 H6 ∧ Bag H6 b (301 + 20 * j + 1), ?_, ?_⟩
        · refine fun vd hvd => ⟨(by show 3 ≤ sizeLine; decide), fun q hq => ?_⟩
          refine ⟨_, rfl, b, 3, 301 + 20 * j, rfl, by decide, by decide, (B5.new hvd).new hq, by show _ ≤ 1000000; omega, fun d H6 d0 d1 K6 B6 => ?_⟩
          have hq6 := K6 q _ (new_ne hq (B5.new hvd)) upd_same
          have hvd6 := K6 vd _ (new_ne hvd B5) (Same.new hq _ _ upd_same)
          have kp : Kp b H5 H6 := ((Kp.refl.new hvd).new hq).trans K6
          have fin : ∀ wb : Str, ∃ vd' wb', V.ref vd = .ref vd' ∧ H5 vd' = none ∧ (upd H6 vd (.dK (mergeK [] [(sk "wa", .str "a"), (sk "wb", .str wb)]))) vd' = some (.dK (vk wb' [])) ∧ Kp b H5 (upd H6 vd (.dK (mergeK [] [(sk "wa", .str "a"), (sk "wb", .str wb)]))) ∧ Bag (upd H6 vd (.dK (mergeK [] [(sk "wa", .str "a"), (sk "wb", .str wb)]))) b (301 + 20 * j + 1) := fun wb => by
            refine ⟨vd, wb, rfl, hvd, ?_, kp.wr hvd, B6.ne (new_ne hvd B5)⟩
            rw [upd_same]
            show some (HO.dK (putK (putK [] (sk "wa") (.str "a")) (sk "wb") (.str wb))) = _
            rw [putK_new (kvs := []) _ rfl, putK_new _ (by rw [List.nil_append, valV_neg (kn (by decide +kernel))]; rfl)]
            rfl
          have hd : d = 0 ∨ d = 1 ∨ d = 2 := by omega
          rcases hd with rfl | rfl | rfl
          · exact ⟨q, _, _, _, rfl, rfl, SqL.of hq6, rfl, hvd6, [(sk "wa", .str "a"), (sk "wb", .str "a")], rfl, (by show 2 ≤ 15; decide), fin _⟩
          · exact ⟨q, _, _, _, rfl, rfl, SqL.of hq6, rfl, hvd6, [(sk "wa", .str "a"), (sk "wb", .str "b")], rfl, (by show 2 ≤ 15; decide), fin _⟩
          · exact ⟨q, _, _, _, rfl, rfl, SqL.of hq6, rfl, hvd6, [(sk "wa", .str "a"), (sk "wb", .str "")], rfl, (by show 2 ≤ 15; decide), fin _⟩
        rintro v6 H6 ⟨vd, wb, rfl, hvd5, hvd6, K6, B6⟩
        have nvb : vd ≠ b := fun e => by
          obtain ⟨x', y', z', e2, _⟩ := B6
          rw [← e, hvd6] at e2
          cases e2
        refine ⟨(by show 3 ≤ sizeLine; decide), fun W hW => ⟨W, rfl, ⟨_, SqL.of upd_same⟩, ?_⟩⟩
        have nWb : W ≠ b := new_ne hW B6
        have nWv : W ≠ vd := (ne_of_none hvd6 hW).symm
        refine for_list (K := K) (a := W) (xs := [.str "sa", .str "sb", .str "sc"]) (fun t σ H7 => ∃ ns : List Int, (∃ a5 a7 a8 a9 a10, σ = [some (.ref a), some (.int (0 + i)), some (.ref b), some (.ref p), some (.ref dt), a5, some (.ref vd), a7, a8, a9, a10]) ∧ ns.length = t ∧ H7 vd = some (.dK (vk wb ns)) ∧ Kp b H5 H7 ∧ Bag H7 b (301 + 20 * j + 1 + 2 * t) ∧ H7 W = some (.lst [.str "sa", .str "sb", .str "sc"])) ?_ ?_ ?_ ?_
        · exact ⟨[], ⟨_, _, _, _, _, rfl⟩, rfl, Same.new hW _ _ hvd6, K6.new hW, B6.new hW, upd_same⟩
        · rintro t σ H7 _ ⟨ns, _, _, _, _, _, hW7⟩
          exact SqL.of hW7
        · rintro t x σ H7 hx ⟨ns, ⟨b5, b7, b8, b9, b10, rfl⟩, ln, hv7, K7, B7, hW7⟩
          obtain ⟨z, hz, rfl⟩ : ∃ z, (["sa", "sb", "sc"] : List Str)[t]? = some z ∧ x = V.str z := by
            have hx' : ((["sa", "sb", "sc"] : List Str).map V.str)[t]? = some x := hx
            rw [List.getElem?_map] at hx'
            cases q : (["sa", "sb", "sc"] : List Str)[t]? with
            | none => rw [q] at hx'; cases hx'
            | some z => rw [q] at hx'; exact ⟨z, rfl, (Option.some.inj hx').symm⟩
          have t3 : t < 3 := by
            have := (List.getElem?_eq_some_iff.mp hz).1
            exact this
          refine ⟨fun v H8 => ∃ mm : Int, v = .int mm ∧ Kp b H7 H8 ∧ Bag H8 b (301 + 20 * j + 1 + 2 * (t + 1)), ?_, ?_⟩
          · refine ⟨_, _, rfl, rfl, ⟨by decide, by decide, by decide⟩, _, _, rfl, rfl, .inl ⟨by decide, by decide⟩, _, _, rfl, rfl, ⟨by decide, by decide, by decide⟩, _, rfl, b, 9, _, rfl, by decide, by decide, B7, by show _ ≤ 1000000; omega, fun d H8 d0 d1 K8 B8 => ?_⟩
            refine ⟨(by show 6 ≤ sizeLine; decide), fun q hq => ?_⟩
            refine ⟨_, rfl, b, 6, _, rfl, by decide, by decide, B8.new hq, by show _ ≤ 1000000; omega, fun e H9 e0 e1 K9 B9 => ?_⟩
            have hq9 := K9 q _ (new_ne hq B8) upd_same
            have kp : Kp b H7 H9 := (K8.new hq).trans K9
            have he : e = 0 ∨ e = 1 ∨ e = 2 ∨ e = 3 ∨ e = 4 ∨ e = 5 := by omega
            rcases he with rfl | rfl | rfl | rfl | rfl | rfl <;> exact ⟨q, _, _, _, rfl, rfl, SqL.of hq9, rfl, _, rfl, kp, B9.mono (by omega)⟩
          rintro v8 H8 ⟨mm, rfl, K8, B8⟩
          have hv8 := K8 _ _ nvb hv7
          refine ⟨_, rfl, _, rfl, vd, _, rfl, DPut.k (k := sk z) hv8 ?_, ?_⟩
          · have : (vk wb ns).length ≤ 10 := by
              unfold vk
              rw [List.length_append, List.length_map, List.length_zip]
              show 2 + min 3 ns.length ≤ 10
              omega
            exact Nat.lt_of_le_of_lt this (by decide)
          · rw [vk_put (by rw [ln]; exact hz)]
            exact ⟨ns ++ [mm], ⟨_, _, _, _, _, rfl⟩, by rw [List.length_append, ln]; rfl, upd_same, (K7.trans K8).wr hvd5, B8.ne nvb, by rw [upd_ne nWv]; exact K8 _ _ nWb hW7⟩
        rintro σ H7 ⟨ns3, ⟨b5, b7, b8, b9, b10, rfl⟩, ln, hv7, K7, B7, _⟩
        obtain ⟨n1, n2, n3, rfl⟩ : ∃ n1 n2 n3, ns3 = [n1, n2, n3] := by
          match ns3, ln with
          | [n1, n2, n3], _ => exact ⟨n1, n2, n3, rfl⟩
        have hv7 : H7 vd = some (.dK (Vl.k ⟨wb, n1, n2, n3⟩)) := hv7
        have B7 : Bag H7 b (301 + 20 * j + 7) := B7
        have tk7 : Tk H3 H7 := (K5.trans K7).tk B3
        -- the store
        refine ⟨_, rfl, _, rfl, _, rfl, b, vd, dt, 301 + 20 * j + 7, ds, ⟨wb, n1, n2, n3⟩, rfl, B7, by show _ ≤ 1000000; omega, hv7, Tp.keep tk7 _ _ tdt3, okd, fun hd h H8 hhd hh8 sh8 K8 B8 => ?_⟩
        refine ⟨fun σ H9 => ∃ (hd : Addr) (h : Sto), (∃ a5 a7 a9 a10, σ = [some (.ref a), some (.int (0 + i)), some (.ref b), some (.ref p), some (.ref dt), a5, some (.ref vd), a7, some (.ref hd), a9, a10]) ∧ H9 hd = some (.dK h) ∧ StOk h 3 ∧ Kp b H7 H9 ∧ Bag H9 b (301 + 20 * j + 12), ?_, ?_⟩
        · refine ⟨_, rfl, b, 3, 301 + 20 * j + 7 + 1, rfl, by decide, by decide, B8, by show _ ≤ 1000000; omega, fun d H9 d0 d1 K9 B9 => ?_⟩
          refine ⟨rfl, _, rfl, ite2 (fun c => ?_) (fun c => ?_)⟩
          · refine fun h2 hh2 => ⟨_, rfl, b, 10, 301 + 20 * j + 9, rfl, by decide, by decide, B9.new hh2, by show _ ≤ 1000000; omega, fun d2 HA e0 e1 KA BA => ?_⟩
            refine ⟨_, _, rfl, rfl, ⟨by decide, by decide, by decide⟩, _, rfl, b, 3, 301 + 20 * j + 10, rfl, by decide, by decide, BA, by show _ ≤ 1000000; omega, fun d3 HB f0 f1 KB BB => ?_⟩
            have nh : h2 ≠ b := new_ne hh2 B9
            have hh2B := KB h2 _ nh (KA h2 _ nh upd_same)
            have hH7 : H7 h2 = none := (K8.trans K9).free B9.at hh2
            have em : ∀ u v : Int, mergeK [] [(sk "a", V.int u), (sk "b", V.int v), (sk "", V.int 0)] = [(sk "a", V.int u), (sk "b", V.int v), (sk "", V.int 0)] := fun u v => by
              have e1 : putK ([] : Sto) (sk "a") (.int u) = [(sk "a", .int u)] := putK_new _ rfl
              have e2 : putK [(sk "a", V.int u)] (sk "b") (.int v) = [(sk "a", .int u), (sk "b", .int v)] := putK_new _ (by rw [valV_neg (kn (by decide +kernel))]; rfl)
              have e3 : putK [(sk "a", V.int u), (sk "b", V.int v)] (sk "") (.int 0) = [(sk "a", .int u), (sk "b", .int v), (sk "", .int 0)] := putK_new _ (by rw [valV_neg (kn (by decide +kernel)), valV_neg (kn (by decide +kernel))]; rfl)
              show putK (putK (putK [] (sk "a") (.int u)) (sk "b") (.int v)) (sk "") (.int 0) = _
              rw [e1, e2, e3]
            refine ⟨_, _, rfl, rfl, hh2B, [(sk "a", .int d2), (sk "b", .int (10 ^ (9 : Int).toNat - d3)), (sk "", .int 0)], rfl, (by show 3 ≤ 15; decide), ?_⟩
            rw [em]
            exact ⟨h2, _, ⟨_, _, _, _, rfl⟩, upd_same, three_ok _ _, ((((K8.trans K9).new hh2).trans KA).trans KB).wr hH7, (BB.ne nh).mono (by omega)⟩
          · have nh : hd ≠ b := fun e => by
              obtain ⟨x', y', z', e2, _⟩ := B8
              rw [← e, hh8] at e2
              cases e2
            exact ⟨hd, h, ⟨_, _, _, _, rfl⟩, K9 _ _ nh hh8, sh8, K8.trans K9, B9.mono (by omega)⟩
        rintro σ H9 ⟨hd9, h9, ⟨c5, c7, c9, c10, rfl⟩, hh9, sh9, K9, B9⟩
        have hv9 := K9 _ _ nvb hv7
        have K39 : Kp b H3 H9 := (K5.trans K7).trans K9
        have tk9 : Tk H3 H9 := K39.tk B3
        -- kept
        refine ⟨_, rfl, hd9, h9, rfl, .inl hh9, fun kd hkd => ?_⟩
        have SA := Same.new (o := .dK h9) hkd
        -- outcome
        refine ⟨_, rfl, p, v1, v2, v3, v4, .ref cl, rfl, SA _ _ (tk9 _ _ hp3), fun fa dx HB SB hfa hfaB => ?_⟩
        refine ⟨Nat.zero_le _, fun e0 he0 => ?_⟩
        have SC := SB.trans (Same.new (o := .tup []) he0)
        have SAC := SA.trans SC
        have f7 : Face7 C (upd HB e0 (.tup [])) fa ds := ⟨dx, cl, c1, dt, v1, v2, v3, v4, x2, x3, x4, Same.new he0 _ _ hfaB, SAC _ _ (tk9 _ _ hcl3), SAC _ _ (tk9 _ _ hc13), Tp.keep (tk9.trans (Same.tk SAC)) _ _ tdt3⟩
        refine ⟨_, rfl, _, rfl, rfl, rfl, fa, vd, hd9, .ref e0, .ref eo, ds, ⟨wb, n1, n2, n3⟩, h9, rfl, f7, SAC _ _ hv9, SAC _ _ hh9, sh9, ld, okd, fun r1 HD SD res1 => ?_⟩
        have SAD := SAC.trans SD
        -- held against what is due
        refine ⟨_, rfl, _, rfl, _, rfl, _, rfl, dt, vd, kd, ds, ⟨wb, n1, n2, n3⟩, h9, rfl, Tp.keep (tk9.trans (Same.tk SAD)) _ _ tdt3, SAD _ _ hv9, (SC.trans SD) _ _ upd_same, sh9, ld, okd, fun r2 HE SE res2 => ?_⟩
        obtain ⟨q1, q2, ys1, ys2, e1, e2, hq1, hq2, pr⟩ := res_eq res1 SE res2
        refine ⟨q1, q2, ys1, ys2, e1, e2, hq1, hq2, pr, _, rfl, iteF ?_⟩
        have SAE := SAD.trans SE
        refine ⟨_, rfl, _, rfl, hd9, kd, h9, h9, rfl, rfl, SAE _ _ hh9, ((SC.trans SD).trans SE) _ _ upd_same, rfl, (fun p hp => ⟨sh9.u p hp, by obtain ⟨x', e'⟩ := sh9.i p hp; rw [e']; rfl⟩), _, rfl, iteF ?_⟩
        exact ⟨⟨_, _, _, _, _, _, rfl⟩, K39.same SAE, (B9.same SAE).mono (by omega)⟩
      · rintro σ H5 ⟨⟨a5, a6, a7, a8, a9, a10, rfl⟩, K5, B5⟩
        exact ⟨⟨_, _, _, _, _, _, _, _, _, _, rfl⟩, toS (K3.trans K5)⟩
    · rintro σ H1 ⟨_, sm⟩
      exact k H1
end
end Fh

set_option Elab.async false
set_option linter.all false
set_option maxRecDepth 100000
set_option maxHeartbeats 0
namespace Fh
open PySem PySem.Spec PyProof.Rows L2
/-- where a keyword-only default stands -/
def kwOf (p : Str × Option Str) (x : Str) (K : PySem.W.Frag) : Addr := match K.lookup (He.fAd K p) with
  | some ⟨_, _, .func fd, _⟩ => (match fd.kwdefaults with
    | .ref D => (match PySem.W.nsIn K D x with
      | some (some (.ref a)) => a
      | _ => 0)
    | _ => 0)
  | _ => 0
def fdef (x : Str) (s : Stmt) : He.DefD := ⟨(x, none), x, x, defArgs s, defBody s, defScope s, [], []⟩
def mdef (m q : Str) (s : Stmt) : He.DefD := ⟨("Face", some m), m, q, defArgs s, defBody s, defScope s, [], []⟩
def dInit : He.DefD := ⟨("Face", some "__init__"), "__init__", "Face.__init__", defArgs sInit, defBody sInit, defScope sInit, [], [("choices", .adr (kwOf ("Face", some "__init__") "choices")), ("records", .adr (kwOf ("Face", some "__init__") "records")), ("calls", .adr (kwOf ("Face", some "__init__") "calls"))]⟩
def dOut : He.DefD := ⟨("outcome", none), "outcome", "outcome", defArgs sOut, defBody sOut, defScope sOut, [], [("answers", .adr (kwOf ("outcome", none) "answers"))]⟩
def fn : List He.DefD := [dInit, dOut, mdef "call_of" "Face.call_of" sCallOf, fdef "is_whole" sWhole, fdef "do_at_home" sHome, fdef "moved" sMoved, fdef "_law_bag" sBag, fdef "_law_take" sTake, fdef "_law_name" sName, fdef "_law_names" sUnlikeN, fdef "_law_face" sFace, fdef "_law_made" sMade, fdef "_law_due" sDue, fdef "_law_near" sNear, fdef "law" sLaw]
def fa : List He.Fa := [.glo "Face", .glo "outcome", .glo "is_whole", .glo "do_at_home", .glo "moved", .glo "_law_bag", .glo "_law_take", .glo "_law_name", .glo "_law_names", .glo "_law_face", .glo "_law_made", .glo "_law_due", .glo "_law_near", .glo "law", .free "len", .free "abs", .free "int", .free "range", .free "list", .free "min", .free "max", .free "tuple", .free "dict", .free "enumerate", .free "isinstance", .free "bool", .cls "Face", .noat "Face" "name", .noat "Face" "edition", .noat "Face" "choices", .noat "Face" "records", .noat "Face" "calls", .mkr "Face", .meth "Face" "call_of", .meth "Face" "__init__", .int "GREATEST_WHOLE" 1000000000, .str "TOO_GREAT" "great"]
abbrev fC (K : PySem.W.Frag) : Addr := He.ga K "Face"
def ex (K : PySem.W.Frag) : Bool := true
abbrev R : PySem.W.OpenRow := PySem.W.OpenLaw.row PySem.Challenge.rw_facehouse_k42_faults
abbrev hk : PySem.W.Hook := He.hookX 6 fa fn [] [] ex
def ob (s : PySem.W.SharedT) : He.AlX := He.obsX 6 fa fn [] [] ex (HandSHeadRun.getT s)
theorem ob_eq (s : PySem.W.SharedT) : ob s = hk.obs s.abs := He.obsX_eq (HandSHeadRun.getT_eq s)
def loose : List Str := ["_wall", "__name__", "PLAIN_KINDS", "is_plain", "is_whole", "GREATEST_WHOLE", "copied", "fields_by_name", "TOO_GREAT", "face_asked", "asked", "outcome", "do_at_home", "moved", "NoName", "NoCall", "Face", "_law_bag", "_law_take", "_law_name", "_law_names", "_law_face", "_law_made", "_law_due", "_law_near"]
theorem run (w : World) : HandSHeadRun.RunEq R (PySem.W.view R.prog [32]) hk ob 20000 loose w := by
  intro os
  kernel_rfl
end Fh

set_option Elab.async false
set_option linter.all false
set_option maxRecDepth 100000
set_option maxHeartbeats 0
namespace Fh
open PySem PySem.Spec PyProof.Rows L2
theorem toFun {K : PySem.W.Frag} {x q : Str} {st : Stmt} {f : Addr} {fd : FuncData} (F : FunD K x q (defArgs st) (defBody st) (defScope st) [] [] f fd) : Fun K x q st f fd := by
  obtain ⟨oc, od, dV, kV, doc, pm, an, cdv, ct, osl, e, lk, hcd, hD, _⟩ := F.ex
  rcases hD with ⟨_, rfl⟩ | ⟨e, _⟩
  · exact ⟨⟨oc, od, kV, doc, pm, an, cdv, ct, osl, e, lk, hcd⟩, F.kp⟩
  · exact absurd rfl e
theorem facts {P : Program} {w : World} {K : PySem.W.Frag} {h : Heap} {mg : Str → Option Value} {f : Addr} (X : K.In h) (G : h.Ns mainGlobals mg) (hfa : mg ("law" : Str) = some (.ref f)) (c : He.SaysX fa fn [] [] ex w h K) :
    ∃ fd : FuncData, (∀ (s : Shared) (v : Value), BindsTo s fd ⟨[v], []⟩ [("_law_script", v)]) ∧ ∀ base : Heap, K.In base → base.Ns mainGlobals mg → FnOk P w K mg base CX0 5 f fd ["_law_script"] (spLaw K) := by
  have d := c.t.d
  have gl : ∀ (i : Nat) {x : Str}, fa[i]? = some (.glo x) → mg x = some (.ref (He.ga K x)) := fun i x hi => He.glo_ok X G (d.fact i hi)
  have fr : ∀ (i : Nat) {x : Str}, fa[i]? = some (.free x) → mg x = none := fun i x hi => He.free_ok X G (d.fact i hi)
  have na : ∀ (i : Nat) {x y : Str}, fa[i]? = some (.noat x y) → NoAttr K (He.ga K x) y := fun i x y hi => He.noat_ok (d.fact i hi)
  have GG : Glb mg := ⟨fr 14 rfl, fr 15 rfl, fr 16 rfl, fr 17 rfl, fr 18 rfl, fr 19 rfl, fr 20 rfl, fr 21 rfl, fr 22 rfl, fr 23 rfl, fr 24 rfl, fr 25 rfl⟩
  obtain ⟨tG, mG⟩ := He.int_ok X G (d.fact 35 (f := .int "GREATEST_WHOLE" 1000000000) rfl)
  obtain ⟨tB, mB⟩ := He.str_ok X G (d.fact 36 (f := .str "TOO_GREAT" "great") rfl)
  have cl : Cls K (fC K) := He.cls_ok (d.fact 26 (f := .cls "Face") rfl)
  have mk : Mk K (fC K) (He.ma K (fC K) "__init__") := He.mkr_ok (d.fact 32 (f := .mkr "Face") rfl)
  have mC : Meth K (fC K) "call_of" (He.ma K (fC K) "call_of") := He.meth_ok (d.fact 33 (f := .meth "Face" "call_of") rfl)
  have T : ClsF K mg (fC K) := ⟨cl, na 27 rfl, na 28 rfl, na 29 rfl, na 30 rfl, na 31 rfl, gl 0 rfl⟩
  obtain ⟨fdI, DI⟩ := d.def_ 0 (d := dInit) rfl
  obtain ⟨fdO, DO⟩ := d.def_ 1 (d := dOut) rfl
  obtain ⟨fdC, DC⟩ := d.def_ 2 (d := mdef "call_of" "Face.call_of" sCallOf) rfl
  obtain ⟨fd0, D0⟩ := d.def_ 3 (d := fdef "is_whole" sWhole) rfl
  obtain ⟨fd1, D1⟩ := d.def_ 4 (d := fdef "do_at_home" sHome) rfl
  obtain ⟨fd2, D2⟩ := d.def_ 5 (d := fdef "moved" sMoved) rfl
  obtain ⟨fd3, D3⟩ := d.def_ 6 (d := fdef "_law_bag" sBag) rfl
  obtain ⟨fd4, D4⟩ := d.def_ 7 (d := fdef "_law_take" sTake) rfl
  obtain ⟨fd5, D5⟩ := d.def_ 8 (d := fdef "_law_name" sName) rfl
  obtain ⟨fd6, D6⟩ := d.def_ 9 (d := fdef "_law_names" sUnlikeN) rfl
  obtain ⟨fd7, D7⟩ := d.def_ 10 (d := fdef "_law_face" sFace) rfl
  obtain ⟨fd8, D8⟩ := d.def_ 11 (d := fdef "_law_made" sMade) rfl
  obtain ⟨fd9, D9⟩ := d.def_ 12 (d := fdef "_law_due" sDue) rfl
  obtain ⟨fd10, D10⟩ := d.def_ 13 (d := fdef "_law_near" sNear) rfl
  obtain ⟨fd11, D11⟩ := d.def_ 14 (d := fdef "law" sLaw) rfl
  have e2 := hfa.symm.trans (gl 13 (x := "law") rfl)
  cases e2
  have bL := FunD.bindsA (ps := ["_law_script"]) D11 fun _ _ _ _ _ _ us hl => match us, hl with | [_], _ => rfl
  refine ⟨fd11, fun s v => bL s [v] rfl, fun base _ _ => ?_⟩
  have FI : DInit K (kwOf ("Face", some "__init__") "choices" K) (kwOf ("Face", some "__init__") "records" K) (kwOf ("Face", some "__init__") "calls" K) (He.ma K (fC K) "__init__") fdI := DI
  have M : MkF P w K mg base (fC K) := ⟨⟨_, fdI, _, _, _, mk, ok_init FI T, FI⟩, gl 0 rfl⟩
  have FO : DOut K (kwOf ("outcome", none) "answers" K) (He.ga K "outcome") fdO := DO
  have HW : Has P w K mg base "is_whole" 1 ["thing"] spWhole := ⟨⟨_, fd0, gl 2 rfl, D0.kp, FunD.bindsN D0 (fun _ _ _ _ _ _ us hl => match us, hl with | [_], _ => rfl), ok_whole (toFun (x := "is_whole") (q := "is_whole") (st := sWhole) D0) GG⟩⟩
  have HMv : Has P w K mg base "moved" 1 pMoved spMoved := ⟨⟨_, fd2, gl 4 rfl, D2.kp, FunD.bindsN D2 (fun _ _ _ _ _ _ us hl => match us, hl with | [_, _, _], _ => rfl), ok_moved (toFun (x := "moved") (q := "moved") (st := sMoved) D2) mG mB⟩⟩
  have HH : Has P w K mg base "do_at_home" 2 pHome spHome := ⟨⟨_, fd1, gl 3 rfl, D1.kp, FunD.bindsN D1 (fun _ _ _ _ _ _ us hl => match us, hl with | [_, _, _, _], _ => rfl), ok_home (toFun (x := "do_at_home") (q := "do_at_home") (st := sHome) D1) HMv⟩⟩
  have HC : HasM P w K mg base (fC K) "call_of" 2 ["self", "number"] (spCallOf (fC K)) := ⟨cl, _, fdC, mC, FunD.bindsN (ps := ["self", "number"]) DC (fun _ _ _ _ _ _ us hl => match us, hl with | [_, _], _ => rfl), ok_callOf (toFun (x := "call_of") (q := "Face.call_of") (st := sCallOf) DC) cl T.n5 HW⟩
  have HO : HasO P w K mg base (fC K) := ⟨_, _, fdO, gl 1 rfl, DO.kp, FO, ok_out FO GG HC HH⟩
  have HB : Has P w K mg base "_law_bag" 1 ["_law_script", "_law_at"] (spBag K) := ⟨⟨_, fd3, gl 5 rfl, D3.kp, FunD.bindsN D3 (fun _ _ _ _ _ _ us hl => match us, hl with | [_, _], _ => rfl), ok_bag (toFun (x := "_law_bag") (q := "_law_bag") (st := sBag) D3) GG⟩⟩
  have HT : Has P w K mg base "_law_take" 1 pTake spTake := ⟨⟨_, fd4, gl 6 rfl, D4.kp, FunD.bindsN D4 (fun _ _ _ _ _ _ us hl => match us, hl with | [_, _], _ => rfl), ok_take (toFun (x := "_law_take") (q := "_law_take") (st := sTake) D4)⟩⟩
  have HN : Has P w K mg base "_law_name" 2 ["_law_bag_here"] spName := ⟨⟨_, fd5, gl 7 rfl, D5.kp, FunD.bindsN D5 (fun _ _ _ _ _ _ us hl => match us, hl with | [_], _ => rfl), ok_name (toFun (x := "_law_name") (q := "_law_name") (st := sName) D5) GG HT⟩⟩
  have HNs : Has P w K mg base "_law_names" 3 pNames spUnlikeN := ⟨⟨_, fd6, gl 8 rfl, D6.kp, FunD.bindsN D6 (fun _ _ _ _ _ _ us hl => match us, hl with | [_, _, _], _ => rfl), ok_unlikeN (toFun (x := "_law_names") (q := "_law_names") (st := sUnlikeN) D6) GG HN⟩⟩
  have HF : Has P w K mg base "_law_face" 3 ["_law_parts"] (spFace (fC K)) := ⟨⟨_, fd7, gl 9 rfl, D7.kp, FunD.bindsN D7 (fun _ _ _ _ _ _ us hl => match us, hl with | [_], _ => rfl), ok_face (toFun (x := "_law_face") (q := "_law_face") (st := sFace) D7) M⟩⟩
  have HM : Has P w K mg base "_law_made" 4 ["_law_bag_here"] spMade := ⟨⟨_, fd8, gl 10 rfl, D8.kp, FunD.bindsN D8 (fun _ _ _ _ _ _ us hl => match us, hl with | [_], _ => rfl), ok_made (toFun (x := "_law_made") (q := "_law_made") (st := sMade) D8) GG HT HNs⟩⟩
  have HD : Has P w K mg base "_law_due" 1 pDue spDue := ⟨⟨_, fd9, gl 11 rfl, D9.kp, FunD.bindsN D9 (fun _ _ _ _ _ _ us hl => match us, hl with | [_, _, _], _ => rfl), ok_due (toFun (x := "_law_due") (q := "_law_due") (st := sDue) D9) GG⟩⟩
  have HNr : Has P w K mg base "_law_near" 2 pNear spNear := ⟨⟨_, fd10, gl 12 rfl, D10.kp, FunD.bindsN D10 (fun _ _ _ _ _ _ us hl => match us, hl with | [_, _, _], _ => rfl), ok_near (toFun (x := "_law_near") (q := "_law_near") (st := sNear) D10) GG HT⟩⟩
  exact ok_law (toFun (x := "law") (q := "law") (st := sLaw) D11) GG HB HT HM HNr HD HF HO
end Fh
open PySem PySem.W PySem.Calls PyProof.Rows
theorem PySem.Challenge.cw_facehouse_k42_faults_holds : PySem.Challenge.rw_facehouse_k42_faults.Holds := by
  w_on; o_law
  refine HandSHeadRun.head_any (r := Fh.R) (q := view Fh.R.prog [32]) (H := Fh.hk) (ob := Fh.ob) (M := 20000) (loose := Fh.loose) (d := HandSHeadRun.topDef Fh.R.prog 32) (kwd := []) Fh.ob_eq
    (by kernel_rfl) (fun s => by kernel_rfl) Fh.run (by kernel_rfl) (by kernel_rfl) (by kernel_rfl) (by rfl) (by first | assumption | decide +kernel) (by decide +kernel) ⟨rfl, rfl, rfl, rfl, rfl, by decide +kernel⟩ ?hw ?hc
  case hw => w_witness2
  case hc =>
    refine L2.walk_ofE (l := PySem.Challenge.rw_facehouse_k42_faults) (n := 63) (k := 5) (x := "_law_script") (CX := L2.CX0) rfl (by decide) (by kernel_rfl) ⟨rfl, by decide, by decide⟩ ?F (fun _ _ _ _ z => z)
    intro w mg fa h Y G hmg0
    obtain ⟨K, KX, c⟩ := Y
    have hmg : mg ("law" : PySem.Str) = some (.ref fa) := by
      have e : (HandSHeadRun.topDef Fh.R.prog 32).name = ("law" : PySem.Str) := by kernel_rfl
      rw [← e]
      exact hmg0
    obtain ⟨fd, hb, hF⟩ := Fh.facts (P := (PySem.Challenge.rw_facehouse_k42_faults).prog) (w := w) KX G hmg c
    exact ⟨K, fd, Fh.spLaw K, KX, hb, fun H a ns hl _ hS => ⟨a, ns, rfl, hS, fun _ => rfl⟩, hF⟩
