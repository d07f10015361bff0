import PyProof.Rows.All
import Wide.All
import OpenK.AllK
import Wide.FinOn
import HandS.ForMost
import HandS.TupAny
import HandS.Zip
import HandS.Flow
import HandS.Wide
import HandS.IsInst
import HandS.FStr
import HandS.OwnEq
import HandS.MakeKwOnly
import HandS.Codes
import HandS.Walk
import HandS.DictComp
import HandS.Style
import HandS.More
import PySem.Challenge.RW_facehouse_k43_letters_and_keys
import KE.KFmtOwn
import KE.DataCmp
import PyProof.Rows.SetFrom
import PyProof.DictKinds
import PyProof.Walks
import KE.KIntText
import PyProof.StrLawsLast
import PyProof.StrLawsIn
import PyProof.MeetsStr3
import PyProof.Rows.StrIntSpec
import HandS.HeadHook1
import HandS.HeadHook2
import HandS.HeadHook3
import HandS.HeadHook4
import HandS.Head0
import HandS.Head1
import HandS.Head2
import HandS.HeadEnd
set_option Elab.async false
set_option linter.all false
set_option maxRecDepth 100000
set_option maxHeartbeats 4000000
namespace Fh
open PySem L2 PyProof.Rows

/-! ### rules of our own -/
theorem bits_le {i : Int} {n : Nat} (h : i.natAbs < 2 ^ n) : Builtin.Int.intBits i ≤ n := by
  unfold Builtin.Int.intBits
  split
  · exact Nat.zero_le _
  · rename_i hz
    have h0 : i.natAbs ≠ 0 := fun e => hz (by simp [Int.natAbs_eq_zero.mp e])
    exact (Nat.log2_lt h0).mpr h
def CPowW (i j : Int) : Prop := 0 ≤ j ∧ j ≤ 1000 ∧ i.natAbs < 2 ^ 100
theorem CPowW.ok {i j : Int} (h : CPowW i j) : (Builtin.Int.intBits i : Int) * j ≤ 2 ^ 27 := by
  obtain ⟨h0, h1, h2⟩ := h
  have hb : (Builtin.Int.intBits i : Int) ≤ 100 := by exact_mod_cast bits_le h2
  calc (Builtin.Int.intBits i : Int) * j ≤ 100 * 1000 := Int.mul_le_mul hb h1 h0 (by decide)
    _ ≤ 2 ^ 27 := by decide
theorem op_powW {X : Cx} : OpR X (binaryOp .Pow) (rI CPowW fun i j => .int (i ^ j.toNat)) := opI fun _ _ _ _ _ _ _ hc q => pow_int hc.1 hc.ok q

/-- what an expression gives, by a word between it and what follows -/
def tMid (t : TE) : TE := fun σ H Q => ∃ Mid : V → Hp → Prop, t σ H Mid ∧ ∀ v H', Mid v H' → Q v H'
theorem pe_mid {X : Cx} {e : Expr} {t : TE} (h : PE X e t) : PE X e (tMid t) := by
  refine ⟨fun pins s σ H Q I hq => ?_⟩
  obtain ⟨Mid, hm, hu⟩ := hq
  exact thn (h.run pins s σ H Mid I hm) fun v s1 ⟨x, H1, I1, r1, q1⟩ => ⟨x, H1, I1, r1, hu x H1 q1⟩
theorem atI_in {α : Type} {xs : List α} {i : Int} (h0 : 0 ≤ i) (h1 : i < (xs.length : Int)) : ∃ v, atI xs i = some v ∧ xs[i.toNat]? = some v ∧ v ∈ xs := by
  have hj : i.toNat < xs.length := by omega
  have e : ixN xs.length i = some i.toNat := by
    unfold ixN
    rw [if_pos h0, if_pos h1]
  refine ⟨xs[i.toNat], ?_, List.getElem?_eq_getElem hj, List.getElem_mem hj⟩
  unfold atI
  rw [e]
  exact List.getElem?_eq_getElem hj

/-! ### the bag -/
/-- a bag at b, drawn from at most n times -/
def Bag (H : Hp) (b : Addr) (n : Nat) : Prop := ∃ x y z : Int, H b = some (.lst [.int x, .int y, .int z]) ∧ 0 ≤ y ∧ y < 2 ^ 61 ∧ 0 ≤ z ∧ z ≤ (n : Int)
theorem Bag.mono {H : Hp} {b : Addr} {n m : Nat} (h : Bag H b n) (hm : n ≤ m) : Bag H b m := by
  obtain ⟨x, y, z, e, a1, a2, a3, a4⟩ := h
  exact ⟨x, y, z, e, a1, a2, a3, by omega⟩
/-- all but what stands at b is kept -/
def Kp (b : Addr) (H H' : Hp) : Prop := ∀ a o, a ≠ b → H a = some o → H' a = some o
theorem Kp.refl {b : Addr} {H : Hp} : Kp b H H := fun _ _ _ h => h
theorem Kp.trans {b : Addr} {H H1 H2 : Hp} (x : Kp b H H1) (y : Kp b H1 H2) : Kp b H H2 := fun a o n h => y a o n (x a o n h)
theorem Kp.same {b : Addr} {H H1 H2 : Hp} (x : Kp b H H1) (y : Same H1 H2) : Kp b H H2 := fun a o n h => y a o (x a o n h)
theorem Kp.upd {b : Addr} {H : Hp} {o : HO} : Kp b H (upd H b o) := fun a u n h => by rw [upd_ne n]; exact h
theorem Kp.new {b p : Addr} {H H1 : Hp} {o : HO} (x : Kp b H H1) (h : H1 p = none) : Kp b H (L2.upd H1 p o) := fun a u n e => by
  rw [upd_ne (ne_of_none (x a u n e) h)]
  exact x a u n e
theorem Kp.wr {b p : Addr} {H H1 : Hp} {o : HO} (x : Kp b H H1) (h : H p = none) : Kp b H (L2.upd H1 p o) := fun a u n e => by
  rw [upd_ne (ne_of_none e h)]
  exact x a u n e
theorem Bag.same {H H' : Hp} {b : Addr} {n : Nat} (h : Bag H b n) (s : Same H H') : Bag H' b n := by
  obtain ⟨x, y, z, e, a⟩ := h
  exact ⟨x, y, z, s _ _ e, a⟩
theorem Bag.new {H : Hp} {b p : Addr} {n : Nat} {o : HO} (h : Bag H b n) (hp : H p = none) : Bag (L2.upd H p o) b n := by
  obtain ⟨x, y, z, e, a⟩ := h
  exact ⟨x, y, z, by rw [upd_ne (ne_of_none e hp)]; exact e, a⟩
theorem Bag.ne {H : Hp} {b p : Addr} {n : Nat} {o : HO} (h : Bag H b n) (hp : p ≠ b) : Bag (L2.upd H p o) b n := by
  obtain ⟨x, y, z, e, a⟩ := h
  exact ⟨x, y, z, by rw [upd_ne (Ne.symm hp)]; exact e, a⟩
theorem Kp.free {b p : Addr} {H H' : Hp} (x : Kp b H H') (hb : ∃ o, H' b = some o) (h : H' p = none) : H p = none := by
  cases q : H p with
  | none => rfl
  | some o =>
    by_cases e : p = b
    · subst e
      obtain ⟨u, hu⟩ := hb
      rw [h] at hu
      cases hu
    · rw [x p o e q] at h
      cases h
theorem Bag.at {H : Hp} {b : Addr} {n : Nat} (h : Bag H b n) : ∃ o, H b = some o := let ⟨_, _, _, e, _⟩ := h; ⟨_, e⟩

/-! ### promises: the bag and a draw -/
def most : Nat := 1000000
def spTake : Sp := fun vs H Q _ => ∃ (b : Addr) (size : Int) (n : Nat), vs = [.ref b, .int size] ∧ 0 < size ∧ size < 1073741824 ∧ Bag H b n ∧ n ≤ most ∧
  ∀ (d : Int) (H' : Hp), 0 ≤ d → d < size → Kp b H H' → Bag H' b (n + 1) → Q (.int d) H'
def spBag (K : PySem.W.Frag) : Sp := fun vs H Q _ => ∃ (a : Addr) (ns : List Int) (i : Int), vs = [.ref a, .int i] ∧ SqL K H a (ns.map V.int) ∧ 0 ≤ i ∧ i ≤ 100 ∧
  ∀ (p : Addr) (H' : Hp), Same H H' → H p = none → Bag H' p 0 → Q (.ref p) H'
theorem basis_le {y z : Int} (hy : 0 ≤ y) (hy2 : y < 2 ^ 61) (hz : 0 ≤ z) (hz2 : z ≤ 1000001) : (y * (2 * z + 1) + 6007 * z * z + 31).natAbs < 2 ^ 100 := by
  have h1 : y * (2 * z + 1) ≤ 2 ^ 61 * 2000003 := Int.mul_le_mul (by omega) (by omega) (by omega) (by decide)
  have h2 : (6007 * z) * z ≤ (6007 * 1000001) * 1000001 := Int.mul_le_mul (by omega) hz2 hz (by decide)
  have h3 : 0 ≤ y * (2 * z + 1) := Int.mul_nonneg hy (by omega)
  have h4 : 0 ≤ (6007 * z) * z := Int.mul_nonneg (by omega) hz
  omega
end Fh

set_option Elab.async false
set_option linter.all false
set_option maxRecDepth 100000
set_option maxHeartbeats 4000000
namespace Fh
open PySem L2 PyProof.Rows
def top (i : Nat) : Stmt := PySem.Challenge.pw_facehouse_k43_letters_and_keys.main.body.getD i (.Pass ⟨0, 0, 0, 0⟩)
abbrev sBag : Stmt := top 5
abbrev sTake : Stmt := top 6
/-- built-in names that no module's name hides -/
structure Glb (mg : Str → Option Value) : Prop where
  len : mg "len" = none
  abs : mg "abs" = none
  int : mg "int" = none
  range : mg "range" = none
  list : mg "list" = none
  min : mg "min" = none
  max : mg "max" = none
  tuple : mg "tuple" = none
  set : mg "set" = none
  str : mg "str" = none
  ord : mg "ord" = none
  isi : mg "isinstance" = none
  repr : mg "repr" = none
section
variable {P : Program} {w : World} {K : PySem.W.Frag} {mg : Str → Option Value} {base : Heap}
theorem scBag : FnScope ["_law_script", "_law_at", "_law_cell", "_law_far"] ["_law_script", "_law_at"] (defScope sBag) := ⟨rfl, rfl, rfl, by decide +kernel, rfl, by decide +kernel, by decide +kernel⟩
theorem scTake : FnScope ["_law_bag_here", "_law_size", "_law_digit", "_law_primes", "_law_stage", "_law_basis", "_law_found"] ["_law_bag_here", "_law_size"] (defScope sTake) := ⟨rfl, rfl, rfl, by decide +kernel, rfl, by decide +kernel, by decide +kernel⟩
theorem ok_take {f : Addr} {fd : FuncData} (F : Fun K "_law_take" "_law_take" sTake f fd) : FnOk P w K mg base CX0 1 f fd ["_law_bag_here", "_law_size"] spTake := by
  refine F.ok scTake (fun vs H Q E h => ?_) (fun cdv A outer s H vs Q E hr h => ?_)
  · obtain ⟨b, size, n, rfl, _⟩ := h
    rfl
  · obtain ⟨b, size, n, rfl, hs0, hs1, ⟨x, y, z, hb, y0, y1, z0, z1⟩, hn, k⟩ := h
    have hn' : n ≤ 1000000 := hn
    refine ⟨_, pss_cons (ps_if (pt_cmpR op_gt (pe_ix ix_list (pv 0) pe_int (fun _ _ => rfl)) pe_int (nomark _))
        (pss_cons (ps_set (i := 2) scTake.nd rfl (Or.inl rfl) (pe_op op_mod (pe_ix ix_list (pv 0) pe_int (fun _ _ => rfl)) (pv 1)))
        (pss_cons (ps_asg (pe_op op_fdiv (pe_ix ix_list (pv 0) pe_int (fun _ _ => rfl)) (pv 1)) (pg_sub (pv 0) pe_int set_list))
        (pss_one (ps_ret (pv 2))))) pss_nil)
      (pss_cons (ps_set (i := 3) scTake.nd rfl (Or.inl rfl) (pe_tup (pa_cons pe_int (pa_cons pe_int (pa_cons pe_int (pa_cons pe_int (pa_cons pe_int (pa_cons pe_int (pa_cons pe_int (pa_cons pe_int pa_nil))))))))))
      (pss_cons (ps_asg (pe_op op_add (pe_ix ix_list (pv 0) pe_int (fun _ _ => rfl)) pe_int) (pg_sub (pv 0) pe_int set_list))
      (pss_cons (ps_set (i := 4) scTake.nd rfl (Or.inl rfl) (pe_ix ix_list (pv 0) pe_int (fun _ _ => rfl)))
      (pss_cons (ps_set (i := 5) scTake.nd rfl (Or.inl rfl) (pe_op op_add (pe_op op_add (pe_op op_mul (pe_ix ix_list (pv 0) pe_int (fun _ _ => rfl)) (pe_op op_add (pe_op op_mul pe_int (pv 4)) pe_int)) (pe_op op_mul (pe_op op_mul pe_int (pv 4)) (pv 4))) pe_int))
      (pss_cons (ps_set (i := 6) scTake.nd rfl (Or.inl rfl) (pe_op op_mod (pe_op op_powW (pv 5) pe_int) (pe_ix ix_tup (pv 3) (pe_op op_mod (pv 4) pe_int) (fun _ _ => rfl))))
      (pss_one (ps_ret (pe_op op_mod (pe_op op_fdiv (pe_op op_mod (pe_op op_mul (pv 6) (pe_op op_add (pe_op op_fdiv (pv 6) pe_int) pe_int)) (pe_ix ix_tup (pv 3) (pe_op op_mod (pe_op op_add (pv 4) pe_int) pe_int) (fun _ _ => rfl))) pe_int) (pv 1))))))))), ?_⟩
    refine ⟨_, rfl, b, _, _, _, rfl, rfl, SqL.of hb, rfl, _, _, rfl, rfl, _, rfl, ?_⟩
    refine ite2 (fun _ => ?_) (fun _ => ?_)
    · refine ⟨_, rfl, b, _, _, _, rfl, rfl, SqL.of hb, rfl, _, rfl, _, _, rfl, rfl, hs0, ?_⟩
      refine ⟨_, rfl, b, _, _, _, rfl, rfl, SqL.of hb, rfl, _, rfl, _, _, rfl, rfl, ⟨hs0, hs1⟩, ?_⟩
      refine ⟨_, rfl, b, _, _, 0, rfl, rfl, hb, rfl, _, rfl, ?_⟩
      exact k _ _ (Int.emod_nonneg _ (by omega)) (Int.emod_lt_of_pos _ hs0) Kp.upd ⟨_, y, z, upd_same, y0, y1, z0, by omega⟩
    · refine ⟨by decide, fun t ht => ?_⟩
      have nbt : b ≠ t := ne_of_none hb ht
      have hb1 : (upd H t (.tup [.int 2147483647, .int 2147483629, .int 2147483587, .int 2147483579, .int 2147483563, .int 2147483549, .int 2147483543, .int 2147483497])) b = some (.lst [.int x, .int y, .int z]) := by rw [upd_ne nbt]; exact hb
      refine ⟨_, rfl, b, _, _, _, rfl, rfl, SqL.of hb1, rfl, _, _, rfl, rfl, ?_⟩
      refine ⟨_, rfl, b, _, _, 2, rfl, rfl, hb1, rfl, ?_⟩
      refine ⟨_, rfl, b, _, _, _, rfl, rfl, SqL.of upd_same, rfl, ?_⟩
      have c1 : CMul y (2 * (z + 1) + 1) := .inl ⟨by omega, by omega⟩
      refine ⟨_, rfl, b, _, _, _, rfl, rfl, SqL.of upd_same, rfl, _, rfl, _, _, rfl, rfl, .inl ⟨by decide, by decide⟩, _, _, rfl, rfl, _, _, rfl, rfl, c1, _, rfl, _, _, rfl, rfl, .inl ⟨by decide, by decide⟩, _, rfl, _, _, rfl, rfl, .inr ⟨by omega, by omega⟩, _, _, rfl, rfl, _, _, rfl, rfl, ?_⟩
      have ht1 : (upd (upd H t (.tup [.int 2147483647, .int 2147483629, .int 2147483587, .int 2147483579, .int 2147483563, .int 2147483549, .int 2147483543, .int 2147483497])) b (.lst [.int x, .int y, .int (z + 1)])) t = some (.tup [.int 2147483647, .int 2147483629, .int 2147483587, .int 2147483579, .int 2147483563, .int 2147483549, .int 2147483543, .int 2147483497]) := by rw [upd_ne nbt.symm, upd_same]
      have prim : ∀ i : Int, ∃ p, atI [V.int 2147483647, .int 2147483629, .int 2147483587, .int 2147483579, .int 2147483563, .int 2147483549, .int 2147483543, .int 2147483497] (i % 8) = some (.int p) ∧ 0 < p ∧ p ≤ 2147483647 := fun i => by
        obtain ⟨v, e, _, hm⟩ := atI_in (xs := [V.int 2147483647, .int 2147483629, .int 2147483587, .int 2147483579, .int 2147483563, .int 2147483549, .int 2147483543, .int 2147483497]) (i := i % 8) (by omega) (by show i % 8 < 8; omega)
        simp only [List.mem_cons, List.not_mem_nil, or_false] at hm
        rcases hm with rfl | rfl | rfl | rfl | rfl | rfl | rfl | rfl <;> exact ⟨_, e, by decide, by decide⟩
      obtain ⟨p1, e1, l1, u1⟩ := prim (z + 1)
      obtain ⟨p2, e2, l2, u2⟩ := prim (z + 1 + 5)
      have hB : CPowW (y * (2 * (z + 1) + 1) + 6007 * (z + 1) * (z + 1) + 31) 3 := ⟨by decide, by decide, basis_le y0 y1 (by omega) (by omega)⟩
      refine ⟨_, rfl, _, _, rfl, rfl, hB, _, rfl, _, rfl, _, _, rfl, rfl, (by show (0 : Int) < 8; decide), t, _, _, _, rfl, rfl, SqT.of ht1, e1, _, _, rfl, rfl, l1, ?_⟩
      generalize hfd : (y * (2 * (z + 1) + 1) + 6007 * (z + 1) * (z + 1) + 31) ^ (3 : Int).toNat % p1 = fd
      have f0 : 0 ≤ fd := by rw [← hfd]; exact Int.emod_nonneg _ (by omega)
      have f1 : fd < p1 := by rw [← hfd]; exact Int.emod_lt_of_pos _ l1
      refine ⟨_, rfl, _, rfl, _, _, rfl, rfl, ⟨by decide, by decide⟩, _, _, rfl, rfl, _, _, rfl, rfl, .inl ⟨by omega, by omega⟩, _, rfl, _, rfl, _, _, rfl, rfl, _, _, rfl, rfl, (by show (0 : Int) < 8; decide), t, _, _, _, rfl, rfl, SqT.of ht1, e2, _, _, rfl, rfl, l2, _, _, rfl, rfl, ⟨by decide, by decide⟩, _, rfl, _, _, rfl, rfl, hs0, ?_⟩
      refine k _ _ (Int.emod_nonneg _ (by omega)) (Int.emod_lt_of_pos _ hs0) ?_ ⟨_, y, z + 1, upd_same, y0, y1, by omega, by omega⟩
      exact (Kp.refl.new ht).trans Kp.upd
end
end Fh

set_option Elab.async false
set_option linter.all false
set_option maxRecDepth 100000
set_option maxHeartbeats 4000000
namespace Fh
open PySem L2 PyProof.Rows
/-! ### a def that is called by its name -/
structure Has (P : Program) (w : World) (K : PySem.W.Frag) (mg : Str → Option Value) (base : Heap) (x : Str) (k : Nat) (ps : List Str) (sp : Sp) : Prop where
  ex : ∃ (f : Addr) (fd : FuncData), mg x = some (.ref f) ∧ PySem.W.keepIn K (.ref f) = true ∧ Binds K fd ps [] ∧ FnOk P w K mg base CX0 k f fd ps sp
theorem pe_has {X : Cx} {k : Nat} {x : Str} {ps : List Str} {sp : Sp} {e : Expr} {es : List Expr} {t : TA} {p pos : Pos} (D : Has X.prog X.w X.K X.mg X.base x k ps sp) (hr : Room k X.A) (hg : Gl X x)
    (ha : PA X (e :: es) t) (hdb : (x == ("__debug__" : Str)) = false := by decide) (he : starEach (e :: es) X.env = (false, eval e X.env) :: starEach es X.env := by rfl) (hpl : (backTo pos (starEach es X.env)).any (·.1) = false := by rfl) :
    PE X (.Call (.Name x p) (e :: es) [] pos) (tCall sp [] E0 t) := by
  obtain ⟨f, fd, hm, hk, hb, F⟩ := D.ex
  exact pe_call F hr hg hm hk hb .nil pass0 ha hdb he hpl
theorem iteT_elim {A B : Prop} (h : if true = true then A else B) : A := by rw [if_pos rfl] at h; exact h
theorem iteF_elim {A B : Prop} (h : if false = true then A else B) : B := by rw [if_neg Bool.false_ne_true] at h; exact h
theorem yes {σ : L2.St} {H : Hp} {Q : Bool → Hp → Prop} (h : Q true H) : tYes σ H Q := h
theorem b01 {i : Int} {k : Bool} : CMul i (if k = true then 1 else 0) := by cases k <;> exact .inr ⟨by decide, by decide⟩
/-! ### names -/
def Lt (c : Nat) : Prop := 97 ≤ c ∧ c ≤ 122
structure Nm (z : Str) : Prop where
  lo : 1 ≤ z.length
  hi : z.length ≤ 8
  sg : ∀ c ∈ z.cps.toList, Lt c
def one (c : Nat) : Str := ⟨#[c]⟩
theorem tl_ones : ∀ cs : List Nat, ∀ a : Str, a.cps.toList = [] → (Str.join a (cs.map one)).cps.toList = cs
  | [], _, _ => rfl
  | [c], _, _ => rfl
  | c :: d :: r, a, ha => by
    show (one c ++ a ++ Str.join a ((d :: r).map one)).cps.toList = _
    have e := tl_ones (d :: r) a ha
    show ((one c).cps ++ a.cps ++ (Str.join a ((d :: r).map one)).cps).toList = _
    rw [Array.toList_append, Array.toList_append, e, ha]
    rfl
theorem join_nm {cs : List Nat} (h1 : 1 ≤ cs.length) (h2 : cs.length ≤ 8) (h3 : ∀ c ∈ cs, Lt c) : Nm (Txt.join "" (cs.map one)) := by
  have e : (Txt.join "" (cs.map one)).cps.toList = cs := by
    show (Builtin.Str.glued "" (cs.map one)).cps.toList = cs
    rw [StrLaws.glued_eq_join]
    exact tl_ones cs _ rfl
  have l : (Txt.join "" (cs.map one)).length = cs.length := by
    show (Txt.join "" (cs.map one)).cps.size = _
    rw [← Array.length_toList, e]
  exact ⟨by rw [l]; exact h1, by rw [l]; exact h2, by rw [e]; exact h3⟩
theorem len_ones : ∀ cs : List Nat, ((cs.map one).map (·.length)).sum = cs.length
  | [] => rfl
  | c :: r => by
    show (one c).length + ((r.map one).map (·.length)).sum = r.length + 1
    rw [len_ones r]
    show 1 + _ = _
    omega
abbrev abc : Str := "abcdefghijklmnopqrstuvwxyz"
theorem abc_codes : abc.cps.toList = [97, 98, 99, 100, 101, 102, 103, 104, 105, 106, 107, 108, 109, 110, 111, 112, 113, 114, 115, 116, 117, 118, 119, 120, 121, 122] := by decide +kernel
theorem abc_at {i : Int} (h0 : 0 ≤ i) (h1 : i < 26) : ∃ c, atI abc.cps.toList i = some c ∧ Lt c := by
  have hl : abc.cps.toList.length = 26 := by rw [abc_codes]; rfl
  obtain ⟨v, e, _, hm⟩ := atI_in (xs := abc.cps.toList) h0 (by rw [hl]; exact h1)
  refine ⟨v, e, ?_⟩
  rw [abc_codes] at hm
  revert hm
  unfold Lt
  simp only [List.mem_cons, List.not_mem_nil, or_false]
  omega
def spName : Sp := fun vs H Q _ => ∃ (b : Addr) (n : Nat), vs = [.ref b] ∧ Bag H b n ∧ n + 10 ≤ most ∧
  ∀ (z : Str) (H' : Hp), Nm z → Kp b H H' → Bag H' b (n + 10) → Q (.str z) H'
abbrev sName : Stmt := top 7
section
variable {P : Program} {w : World} {K : PySem.W.Frag} {mg : Str → Option Value} {base : Heap}
theorem ok_bag {f : Addr} {fd : FuncData} (F : Fun K "_law_bag" "_law_bag" sBag f fd) (G : Glb mg) : FnOk P w K mg base CX0 1 f fd ["_law_script", "_law_at"] (spBag K) := by
  refine F.ok scBag (fun vs H Q E h => ?_) (fun cdv A outer s H vs Q E hr h => ?_)
  · obtain ⟨a, ns, i, rfl, _⟩ := h
    rfl
  · obtain ⟨a, ns, i, rfl, hS, i0, i1, k⟩ := h
    refine ⟨_, pss_cons (ps_set (i := 2) scBag.nd rfl (Or.inl rfl) (pe_op op_add (pe_op op_add (pe_op op_mul (pe_op op_mul pe_int (pv 1)) (pv 1)) (pe_op op_mul pe_int (pv 1))) pe_int))
      (C8.pss_cut (ps_if (pt_cmpR op_lt (pv 1) (pe_callB call_len_seq (by rfl) G.len PySem.boot_len (pa_cons (pv 0) pa_nil)) (nomark _)) (pss_one (ps_set (i := 2) scBag.nd rfl (Or.inl rfl) (pe_ix ix_list (pv 0) (pv 1) (fun _ _ => rfl)))) pss_nil)
      (pss_cons (ps_set (i := 3) scBag.nd rfl (Or.inl rfl) (pe_callB call_abs (by rfl) G.abs (by decide +kernel) (pa_cons (pv 2) pa_nil)))
      (pss_one (ps_ret (pe_lst (pa_cons (pe_op op_mul (pv 3) (pe_callTy call_int1 (by rfl) G.int (by decide +kernel) (pa_cons (pe_cmpR op_ge (pv 3) (pe_op op_pow pe_int pe_int) (nomark _)) pa_nil)))
        (pa_cons (pe_op op_add (pe_op op_mod (pv 2) (pe_op op_add (pe_op op_pow pe_int pe_int) pe_int)) (pe_op op_mul pe_int (pv 1))) (pa_cons pe_int pa_nil)))))))), ?_⟩
    refine ⟨_, rfl, _, _, rfl, rfl, .inl ⟨by decide, by decide⟩, _, rfl, _, _, rfl, rfl, .inr ⟨by omega, by omega⟩, _, rfl, _, _, rfl, rfl, .inl ⟨by decide, by decide⟩, _, _, rfl, rfl, _, _, rfl, rfl, ?_⟩
    refine ⟨fun σ H' => H' = H ∧ ∃ c : Int, σ = [some (.ref a), some (.int i), some (.int c), none], ?_, ?_⟩
    · refine ⟨_, rfl, _, rfl, a, _, rfl, .inl hS, _, _, rfl, rfl, _, rfl, ?_⟩
      refine ite2 (fun h => ?_) (fun _ => ?_)
      · have hlt : i < ((ns.map V.int).length : Int) := of_decide_eq_true h
        obtain ⟨v, e1, _, hm⟩ := atI_in (xs := ns.map V.int) i0 hlt
        obtain ⟨c, _, rfl⟩ := List.mem_map.mp hm
        exact ⟨_, rfl, _, rfl, a, _, _, _, rfl, rfl, hS, e1, rfl, c, rfl⟩
      · exact ⟨rfl, _, rfl⟩
    · rintro σ H' ⟨rfl, c, rfl⟩
      refine ⟨_, rfl, _, rfl, ?_⟩
      have e18 : (10 : Int) ^ (18 : Int).toNat = 1000000000000000000 := by decide
      have p18 : CPow 10 18 := ⟨by decide, by decide, by decide⟩
      refine ⟨_, rfl, _, rfl, _, _, rfl, rfl, p18, _, _, rfl, rfl, .inr ⟨_, rfl, _, _, rfl, rfl, b01, ?_⟩⟩
      refine ⟨_, rfl, _, _, rfl, rfl, p18, _, _, rfl, rfl, _, _, rfl, rfl, (by show (0 : Int) < 10 ^ (18 : Int).toNat + 9; rw [e18]; decide), _, rfl, _, _, rfl, rfl, .inl ⟨by decide, by decide⟩, _, _, rfl, rfl, ?_⟩
      refine ⟨(by show 3 ≤ sizeLine; decide), fun p hp => ?_⟩
      have m0 : 0 ≤ c % (10 ^ (18 : Int).toNat + 9) := Int.emod_nonneg _ (by rw [e18]; decide)
      have m1 : c % (10 ^ (18 : Int).toNat + 9) < 10 ^ (18 : Int).toNat + 9 := Int.emod_lt_of_pos _ (by rw [e18]; decide)
      rw [e18] at m0 m1
      refine k p _ (fun b o eb => by rw [upd_ne (ne_of_none eb hp)]; exact eb) hp ⟨_, _, 0, upd_same, ?_, ?_, by omega, by omega⟩
      · rw [e18]; omega
      · rw [e18]; omega
theorem scName : FnScope ["_law_bag_here", "_law_letters", "_law_size", "_law_spot"] ["_law_bag_here"] (defScope sName) := ⟨rfl, rfl, rfl, by decide +kernel, rfl, by decide +kernel, by decide +kernel⟩
theorem ok_name {f : Addr} {fd : FuncData} (F : Fun K "_law_name" "_law_name" sName f fd) (G : Glb mg) (DT : Has P w K mg base "_law_take" 1 ["_law_bag_here", "_law_size"] spTake) : FnOk P w K mg base CX0 2 f fd ["_law_bag_here"] spName := by
  refine F.ok scName (fun vs H Q E h => ?_) (fun cdv A outer s H vs Q E hr h => ?_)
  · obtain ⟨b, n, rfl, _⟩ := h
    rfl
  · obtain ⟨b, n, rfl, hB, hn, k⟩ := h
    have hn' : n + 10 ≤ 1000000 := hn
    refine ⟨_, pss_cons (ps_set (i := 1) scName.nd rfl (Or.inr rfl) pe_str)
      (pss_cons (ps_set (i := 2) scName.nd rfl (Or.inl rfl) (pe_op op_add pe_int (pe_has DT hr rfl (pa_cons (pv 0) (pa_cons (pe_mid (pe_ix ix_list (pe_lst (pa_cons pe_int (pa_cons pe_int pa_nil)))
          (pe_callTy call_int1 (by rfl) G.int (by decide +kernel) (pa_cons (pe_cmpR op_eq (pe_has DT hr rfl (pa_cons (pv 0) (pa_cons pe_int pa_nil))) pe_int (nomark _)) pa_nil)) (fun _ _ => rfl))) pa_nil)))))
      (pss_one (ps_ret (pe_join pe_str (pe_lc (own := [("_law_spot", 3)]) (g := gName 3) (tt := tYes) rfl scName.nd (pi_range1 rfl G.range (pa_cons (pv 2) pa_nil)) (blkOk_by (N := ["_law_bag_here", "_law_letters", "_law_size", "_law_spot"]) (sc := defScope sName) (by decide +kernel))
        (fun _ _ _ _ _ => pg_name (i := 3) scName.nd rfl (Or.inl rfl)) (fun _ _ _ _ _ => pts_nil)
        (fun _ _ _ _ _ => pe_ix ix_str (pv 1) (pe_has DT hr rfl (pa_cons (pv 0) (pa_cons pe_int pa_nil))) (fun _ _ => rfl))))))), ?_⟩
    refine ⟨_, rfl, fun v H1 => ∃ m : Int, v = .int m ∧ (m = 2 ∨ m = 8) ∧ Kp b H H1 ∧ Bag H1 b (n + 1), ?_, ?_⟩
    · refine ⟨by decide, fun p hp => ?_⟩
      refine ⟨_, rfl, b, 4, n, rfl, by decide, by decide, hB.new hp, by show n ≤ 1000000; omega, fun d H1 d0 d1 K1 B1 => ?_⟩
      have npb : p ≠ b := fun e => by
        obtain ⟨o, ho⟩ := hB.at
        rw [e, ho] at hp
        cases hp
      have hp1 : H1 p = some (.lst [.int 2, .int 8]) := K1 p _ npb upd_same
      refine ⟨rfl, .inr ⟨_, rfl, ?_⟩⟩
      have kp0 : Kp b H H1 := (Kp.refl.new hp).trans K1
      cases decide (V.int d = V.int 0) with
      | true => exact ⟨p, _, _, _, rfl, rfl, SqL.of hp1, rfl, 8, rfl, .inr rfl, kp0, B1⟩
      | false => exact ⟨p, _, _, _, rfl, rfl, SqL.of hp1, rfl, 2, rfl, .inl rfl, kp0, B1⟩
    · rintro v H1 ⟨m, rfl, hm, K1, B1⟩
      refine ⟨b, m, n + 1, rfl, by omega, by omega, B1, by show n + 1 ≤ 1000000; omega, fun d H2 d0 d1 K2 B2 => ?_⟩
      refine ⟨_, _, rfl, rfl, ?_⟩
      have hd9 : 1 + d ≤ 8 := by omega
      have hd0 : (1 + d).toNat = (1 + d) := by omega
      refine ⟨⟨_, rfl⟩, _, rfl, 1 + d, rfl, by omega, by omega, fun D hD => ?_⟩
      refine lc_range (lo := 0) (n := (1 + d).toNat) (fun i H3 => Kp b H H3 ∧ Bag H3 b (n + 2 + i) ∧ D ≠ b ∧ ∃ cs : List Nat, H3 D = some (.lst ((cs.map one).map V.str)) ∧ cs.length = i ∧ ∀ c ∈ cs, Lt c) ?_ ?_ ?_
      · have nDb : D ≠ b := fun e => by
          obtain ⟨o, ho⟩ := B2.at
          rw [e, ho] at hD
          cases hD
        exact ⟨(K1.trans K2).new hD, B2.new hD, nDb, [], upd_same, rfl, fun c h => nomatch h⟩
      · rintro i H3 hi ⟨K3, B3, nDb, cs, hD3, hl, hc⟩
        refine ⟨rfl, ?_⟩
        refine yes (iteT ?_)
        refine ⟨_, rfl, _, rfl, b, 26, n + 2 + i, rfl, by decide, by decide, B3, by show n + 2 + i ≤ 1000000; omega, fun e H4 e0 e1 K4 B4 => ?_⟩
        obtain ⟨c, hce, hcl⟩ := abc_at e0 e1
        refine ⟨_, _, c, rfl, rfl, by decide +kernel, hce, ?_⟩
        have hD4 := K4 D _ nDb hD3
        have h8 : (1 + d).toNat ≤ 8 := by omega
        have hsz : ((cs.map one).map V.str).length < sizeLine := by
          rw [List.length_map, List.length_map, hl]
          exact Nat.lt_of_lt_of_le hi (Nat.le_trans h8 (by decide))
        refine ⟨_, hD4, hsz, ?_⟩
        refine ⟨(K3.trans K4).wr ?_, B4.ne nDb, nDb, cs ++ [c], ?_, by rw [List.length_append, hl]; rfl, ?_⟩
        · exact (K1.trans K2).free B2.at hD
        · rw [upd_same, List.map_append, List.map_append]; rfl
        · intro c' hc'
          rcases List.mem_append.mp hc' with h | h
          · exact hc c' h
          · rw [List.mem_singleton.mp h]; exact hcl
      · rintro H3 ⟨K3, B3, nDb, cs, hD3, hl, hc⟩
        refine ⟨_, _, _, rfl, rfl, .inl (SqL.of hD3), ?_, ?_⟩
        · rw [len_ones, List.length_map, hl]
          have : (1 + d).toNat ≤ 8 := by omega
          show _ + _ * 0 ≤ _
          omega
        · exact k _ _ (join_nm (by omega) (by omega) hc) K3 (B3.mono (by omega))
end
end Fh

set_option Elab.async false
set_option linter.all false
set_option maxRecDepth 100000
set_option maxHeartbeats 4000000
namespace Fh
open PySem L2 PyProof.Rows
/-! ### lists of texts -/
theorem flat_strs (zs : List Str) : (zs.map V.str).all flatV = true := by
  rw [List.all_eq_true]
  intro x hx
  obtain ⟨z, _, rfl⟩ := List.mem_map.mp hx
  rfl
theorem in_strs (z : Str) (zs : List Str) : inV (.str z) (zs.map V.str) = decide (z ∈ zs) := by
  unfold inV
  induction zs with
  | nil => rfl
  | cons a r ih =>
    rw [List.map_cons, List.any_cons, ih]
    show ((a == z) || decide (z ∈ r)) = decide (z ∈ a :: r)
    by_cases h : a = z
    · subst h; simp
    · have h' : ¬ z = a := fun e => h e.symm
      simp [h, h']
theorem strs_ne_bag {H : Hp} {l b : Addr} {n : Nat} {zs : List Str} (hl : H l = some (.lst (zs.map V.str))) (hb : Bag H b n) : l ≠ b := by
  rintro rfl
  obtain ⟨x, y, z, e, _⟩ := hb
  rw [hl] at e
  cases zs with
  | nil => cases e
  | cons a r => cases e
theorem new_ne {H : Hp} {p b : Addr} {n : Nat} (hp : H p = none) (hb : Bag H b n) : p ≠ b := by
  rintro rfl
  obtain ⟨x, y, z, e, _⟩ := hb
  rw [hp] at e
  cases e
theorem sub_len {α : Type} [DecidableEq α] : ∀ (l u : List α), l.Nodup → (∀ x ∈ l, x ∈ u) → l.length ≤ u.length
  | [], _, _, _ => Nat.zero_le _
  | x :: r, u, hn, hs => by
    have hx : x ∈ u := hs x List.mem_cons_self
    obtain ⟨h1, h2⟩ := List.nodup_cons.mp hn
    have q := sub_len r (u.erase x) h2 fun y hy => (List.mem_erase_of_ne (fun (e : y = x) => h1 (e ▸ hy))).mpr (hs y (List.mem_cons_of_mem _ hy))
    rw [List.length_erase_of_mem hx] at q
    have := List.length_pos_of_mem hx
    simp only [List.length_cons]
    omega
theorem one_app_inj {c d : Nat} {t : Str} (h : one c ++ t = one d ++ t) : c = d := by
  have e : (one c ++ t).cps = (one d ++ t).cps := by rw [h]
  have e2 : ((one c).cps ++ t.cps).toList = ((one d).cps ++ t.cps).toList := by
    show (one c ++ t).cps.toList = _
    rw [e]
    rfl
  rw [Array.toList_append, Array.toList_append] at e2
  exact (List.cons.inj e2).1
def abcL : List Nat := [97, 98, 99, 100, 101, 102, 103, 104, 105, 106, 107, 108, 109, 110, 111, 112, 113, 114, 115, 116, 117, 118, 119, 120, 121, 122]
theorem abc_sz : abc.cps.size = 26 := by decide +kernel
theorem abcL_nodup : abcL.Nodup := by decide
theorem abcL_lt : ∀ c ∈ abcL, Lt c := by unfold Lt; decide
theorem fresh_tail (t : Str) (u : List Str) (hu : u.length < 26) : ∃ z ∈ abcL.map (fun c => one c ++ t), z ∉ u := by
  apply Classical.byContradiction
  intro h
  have hs : ∀ z ∈ abcL.map (fun c => one c ++ t), z ∈ u := fun z hz => Classical.byContradiction fun hn => h ⟨z, hz, hn⟩
  have hn : (abcL.map (fun c => one c ++ t)).Nodup := by
    refine List.Pairwise.map _ (fun c d hcd e => ?_) abcL_nodup
    exact hcd (one_app_inj e)
  have q := sub_len _ u hn hs
  rw [List.length_map] at q
  have : abcL.length = 26 := rfl
  omega
def tail7 (z : Str) : Str := cutS z (some 1) (some 7)
theorem tail7_nm {z : Str} (h : Nm z) : (tail7 z).length ≤ 6 ∧ ∀ c ∈ (tail7 z).cps.toList, Lt c := by
  have e : (tail7 z).cps.toList = (z.cps.toList.drop (HT.sIx z.length 0 (some 1))).take (HT.sIx z.length z.length (some 7) - HT.sIx z.length 0 (some 1)) := rfl
  have e1 : HT.sIx z.length 0 (some 1) = 1 := by
    have := HT.sIx_nat z.length 0 1
    rw [show ((1 : Nat) : Int) = 1 from rfl] at this
    rw [this]
    have := h.lo
    omega
  have e7 : HT.sIx z.length z.length (some 7) ≤ 7 := by
    have := HT.sIx_nat z.length z.length 7
    rw [show ((7 : Nat) : Int) = 7 from rfl] at this
    rw [this]
    omega
  refine ⟨?_, fun c hc => ?_⟩
  · show (tail7 z).cps.size ≤ 6
    rw [← Array.length_toList, e, List.length_take, e1]
    omega
  · rw [e] at hc
    exact h.sg c (List.mem_of_mem_drop (List.mem_of_mem_take hc))
theorem app_codes (a b : Str) : (a ++ b).cps.toList = a.cps.toList ++ b.cps.toList := by
  show (a.cps ++ b.cps).toList = _
  rw [Array.toList_append]
theorem app_len (a b : Str) : (a ++ b).length = a.length + b.length := by
  show (a.cps ++ b.cps).size = _
  rw [Array.size_append]
  rfl
theorem tails_nm {z t : Str} (h : Nm z) (ht : t ∈ abcL.map (fun c => one c ++ tail7 z) ++ abcL.map (fun c => (one c ++ "x") ++ tail7 z)) : Nm t := by
  obtain ⟨hl, hs⟩ := tail7_nm h
  have hone : ∀ c, (one c).length = 1 := fun _ => rfl
  have hx : ("x" : Str).length = 1 := by decide +kernel
  have hxc : ("x" : Str).cps.toList = [120] := by decide +kernel
  rcases List.mem_append.mp ht with h' | h'
  · obtain ⟨c, hc, rfl⟩ := List.mem_map.mp h'
    refine ⟨by rw [app_len, hone]; omega, by rw [app_len, hone]; omega, fun d hd => ?_⟩
    rw [app_codes] at hd
    rcases List.mem_append.mp hd with hd | hd
    · rw [List.mem_singleton.mp hd]; exact abcL_lt c hc
    · exact hs d hd
  · obtain ⟨c, hc, rfl⟩ := List.mem_map.mp h'
    refine ⟨by rw [app_len, app_len, hone]; omega, by rw [app_len, app_len, hone, hx]; omega, fun d hd => ?_⟩
    rw [app_codes, app_codes, hxc] at hd
    rcases List.mem_append.mp hd with hd | hd
    · rcases List.mem_append.mp hd with hd | hd
      · rw [List.mem_singleton.mp hd]; exact abcL_lt c hc
      · rw [List.mem_singleton.mp hd]; exact ⟨by decide, by decide⟩
    · exact hs d hd
/-! ### comprehensions that only read -/
theorem put_next {H1 : Hp} {D : Addr} {ys : List V} {i : Nat} {y : V} (h : ys[i]? = some y) : upd (upd H1 D (.lst (ys.take i))) D (.lst (ys.take i ++ [y])) = upd H1 D (.lst (ys.take (i + 1))) := by
  rw [upd_upd, List.take_succ, h]
  rfl
theorem take_sz {ys : List V} {i n : Nat} (hn : ys.length ≤ n) (hl : n < sizeLine) : (ys.take i).length < sizeLine := by
  rw [List.length_take]
  omega
theorem abcL_at {i : Nat} {c : Nat} (h : abc.cps[i]? = some c) : abcL[i]? = some c := by
  have e : abc.cps = abcL.toArray := by decide +kernel
  rw [e] at h
  simpa using h
def spUnlikeN : Sp := fun vs H Q _ => ∃ (b t : Addr) (size : Int) (tk : List Str) (n : Nat), vs = [.ref b, .int size, .ref t] ∧ Bag H b n ∧ 0 ≤ size ∧ size ≤ 12 ∧ H t = some (.lst (tk.map V.str)) ∧ tk.length ≤ 12 ∧ n + 200 ≤ most ∧
  ∀ (p : Addr) (zs : List Str) (H' : Hp), H p = none → H' p = some (.lst (zs.map V.str)) → (zs.length : Int) = size → zs.Nodup → (∀ z ∈ zs, Nm z ∧ z ∉ tk) → Kp b H H' → Bag H' b (n + 120) → Q (.ref p) H'
abbrev sUnlikeN : Stmt := top 8
abbrev nUnlikeN : List Str := ["_law_bag_here", "_law_size", "_law_taken", "_law_found", "_law_spot", "_law_word", "_law_used", "_law_tails", "_law_one"]
section
variable {P : Program} {w : World} {K : PySem.W.Frag} {mg : Str → Option Value} {base : Heap}
theorem scUnlikeN : FnScope nUnlikeN ["_law_bag_here", "_law_size", "_law_taken"] (defScope sUnlikeN) := ⟨rfl, rfl, rfl, by decide +kernel, rfl, by decide +kernel, by decide +kernel⟩
theorem ok_unlikeN {f : Addr} {fd : FuncData} (F : Fun K "_law_names" "_law_names" sUnlikeN f fd) (G : Glb mg) (DN : Has P w K mg base "_law_name" 2 ["_law_bag_here"] spName) : FnOk P w K mg base CX0 3 f fd ["_law_bag_here", "_law_size", "_law_taken"] spUnlikeN := by
  refine F.ok scUnlikeN (fun vs H Q E h => ?_) (fun cdv A outer s H vs Q E hr h => ?_)
  · obtain ⟨b, t, size, tk, n, rfl, _⟩ := h
    rfl
  · obtain ⟨b, t, size, tk, n, rfl, hB, s0, s1, ht, htl, hn, k⟩ := h
    have hn' : n + 200 ≤ 1000000 := hn
    have ntb : t ≠ b := strs_ne_bag ht hB
    refine ⟨_, pss_cons (ps_set (i := 3) scUnlikeN.nd rfl (Or.inl rfl) (pe_lst pa_nil))
      (pss_cons (ps_for PassesOwn.never rfl (pi_range1 rfl G.range (pa_cons (pv 1) pa_nil)) (pg_name (i := 4) scUnlikeN.nd rfl (Or.inl rfl))
        (pss_cons (ps_set (i := 5) scUnlikeN.nd rfl (Or.inr rfl) (pe_has DN hr rfl (pa_cons (pv 0) pa_nil)))
        (pss_cons (ps_set (i := 6) scUnlikeN.nd rfl (Or.inr rfl) (pe_op op_cat (pv 3) (pe_callTy call_list_of (by rfl) G.list (by decide +kernel) (pa_cons (pv 2) pa_nil))))
        (C8.pss_cut (ps_if (pt_cmpR op_in_seq (pv 5) (pv 6) rfl)
          (pss_cons (ps_setLc (i := 7) (own := [("_law_one", 8)]) (g := gName 8) (tt := tYes) rfl scUnlikeN.nd rfl rfl (sw_true rfl rfl rfl (by decide +kernel)) (pi_str pe_str) (blkOk_by (N := nUnlikeN) (sc := defScope sUnlikeN) (by decide +kernel))
            (fun _ _ _ _ _ => pg_name (i := 8) scUnlikeN.nd rfl (Or.inl rfl)) (fun _ _ _ _ _ => pts_nil)
            (fun _ _ _ _ _ => pe_op op_add_str (pv 8) (pe_slice sl_str (pv 5) (po_some pe_int) (po_some pe_int))))
          (pss_cons (ps_set (i := 7) scUnlikeN.nd rfl (Or.inl rfl) (pe_op op_cat (pv 7) (pe_lc (own := [("_law_one", 8)]) (g := gName 8) (tt := tYes) rfl scUnlikeN.nd (pi_str pe_str) (blkOk_by (N := nUnlikeN) (sc := defScope sUnlikeN) (by decide +kernel))
            (fun _ _ _ _ _ => pg_name (i := 8) scUnlikeN.nd rfl (Or.inl rfl)) (fun _ _ _ _ _ => pts_nil)
            (fun _ _ _ _ _ => pe_op op_add_str (pe_op op_add_str (pv 8) pe_str) (pe_slice sl_str (pv 5) (po_some pe_int) (po_some pe_int))))))
          (pss_one (ps_set (i := 5) scUnlikeN.nd rfl (Or.inr rfl) (pe_ix ix_list (pe_lc (own := [("_law_one", 8)]) (g := gName 8) (tt := tTest (tOp (rIn K true) (tVar 8) (tVar 6))) rfl scUnlikeN.nd (pi_list (pv 7)) (blkOk_by (N := nUnlikeN) (sc := defScope sUnlikeN) (by decide +kernel))
            (fun _ _ _ _ _ => pg_name (i := 8) scUnlikeN.nd rfl (Or.inl rfl)) (fun _ _ _ _ _ => pts_one (pt_cmpR op_notIn_seq (pv 8) (pv 6) rfl))
            (fun _ _ _ _ _ => pv 8)) pe_int (fun _ _ => rfl))))))
          pss_nil)
        (pss_one (ps_expr (pe_bm PySem.F.plainAttrs_list PySem.F.slot_list_append PySem.F.type_list_append mt_append (pv 3) (pa_cons (pv 5) pa_nil))))))))
      (pss_one (ps_ret (pv 3)))), ?_⟩
    refine ⟨by decide, fun p hp => ?_⟩
    have npb : p ≠ b := new_ne hp hB
    refine ⟨_, rfl, size, rfl, by omega, by omega, ?_⟩
    refine for_range (lo := 0) (n := size.toNat) (fun i σ H3 => (∃ a4 a5 a6 a7 a8, σ = [some (.ref b), some (.int size), some (.ref t), some (.ref p), a4, a5, a6, a7, a8]) ∧ Kp b H H3 ∧ Bag H3 b (n + 10 * i) ∧ ∃ zs : List Str, H3 p = some (.lst (zs.map V.str)) ∧ zs.length = i ∧ zs.Nodup ∧ ∀ z ∈ zs, Nm z ∧ z ∉ tk) ?_ ?_ ?_
    · exact ⟨⟨_, _, _, _, _, rfl⟩, Kp.refl.new hp, hB.new hp, [], upd_same, rfl, List.nodup_nil, fun z h => nomatch h⟩
    · rintro i σ H3 hi ⟨⟨a4, a5, a6, a7, a8, rfl⟩, K3, B3, zs, hp3, hl, hnd, hz⟩
      have hB3 : n + 10 * i + 10 ≤ 1000000 := by omega
      have hi12 : i < 12 := by omega
      refine ⟨_, rfl, b, n + 10 * i, rfl, B3, hB3, fun z H4 z4 K4 B4 => ?_⟩
      have K4' : Kp b H H4 := K3.trans K4
      have ht4 : H4 t = some (.lst (tk.map V.str)) := K4' t _ ntb ht
      have hp4 : H4 p = some (.lst (zs.map V.str)) := K4 p _ npb hp3
      refine ⟨_, rfl, _, rfl, t, _, rfl, .inl (SqL.of ht4), fun l hl4 => ?_⟩
      have npl : p ≠ l := ne_of_none hp4 hl4
      refine ⟨p, l, _, _, rfl, rfl, (by rw [upd_ne npl]; exact hp4), upd_same, ?_, fun u hu => ?_⟩
      · rw [List.length_map, List.length_map]
        exact Nat.le_trans (show zs.length + tk.length ≤ 24 by omega) (by decide)
      rw [← List.map_append]
      have K6 : Kp b H (upd (upd H4 l (.lst (tk.map V.str))) u (.lst ((zs ++ tk).map V.str))) := (K4'.new hl4).new hu
      have B6 : Bag (upd (upd H4 l (.lst (tk.map V.str))) u (.lst ((zs ++ tk).map V.str))) b (n + 10 * (i + 1)) := ((B4.new hl4).new hu).mono (by omega)
      have hu6 : (upd (upd H4 l (.lst (tk.map V.str))) u (.lst ((zs ++ tk).map V.str))) u = some (.lst ((zs ++ tk).map V.str)) := upd_same
      have hp6 : (upd (upd H4 l (.lst (tk.map V.str))) u (.lst ((zs ++ tk).map V.str))) p = some (.lst (zs.map V.str)) := by
        have hpl : (upd H4 l (.lst (tk.map V.str))) p = some (.lst (zs.map V.str)) := by rw [upd_ne npl]; exact hp4
        rw [upd_ne (ne_of_none hpl hu)]
        exact hpl
      generalize (upd (upd H4 l (.lst (tk.map V.str))) u (.lst ((zs ++ tk).map V.str))) = H6 at K6 B6 hu6 hp6
      refine ⟨fun σ H' => (∃ v a7 a8, σ = [some (.ref b), some (.int size), some (.ref t), some (.ref p), some (.int (0 + i)), some (.str v), some (.ref u), a7, a8] ∧ Nm v ∧ v ∉ zs ++ tk) ∧ Kp b H H' ∧ Bag H' b (n + 10 * (i + 1)) ∧ H' p = some (.lst (zs.map V.str)), ?_, ?_⟩
      · refine ⟨_, rfl, _, rfl, u, _, rfl, .inl (SqL.of hu6), rfl, flat_strs _, _, rfl, ?_⟩
        rw [in_strs]
        refine ite2 (fun _ => ?_) (fun hno => ?_)
        · refine ⟨_, rfl, fun D hD => ?_⟩
          have l1 : ∀ c, (one c).length + (tail7 z).length ≤ sizeLine := fun c => Nat.le_trans (show (one c).length + (tail7 z).length ≤ 8 by have := (tail7_nm z4).1; show 1 + _ ≤ 8; omega) (by decide)
          have l2 : ∀ c, (one c ++ "x").length + (tail7 z).length ≤ sizeLine := fun c => Nat.le_trans (show (one c ++ "x").length + (tail7 z).length ≤ 8 by have := (tail7_nm z4).1; rw [app_len]; show (1 + 1) + _ ≤ 8; omega) (by decide)
          have zL : z.length ≤ sizeLine := Nat.le_trans z4.hi (by decide)
          refine lc_it walk_str (fun j H7 => H7 = upd H6 D (.lst (((abcL.map fun c => one c ++ tail7 z).map V.str).take j))) rfl (fun _ _ _ _ => trivial) ?_ ?_
          · rintro j x H7 H8 hj rfl ⟨rfl, c, hc, rfl⟩
            have hj' := abcL_at hc
            refine ⟨rfl, yes (iteT ?_)⟩
            refine ⟨_, rfl, _, rfl, 1, rfl, 7, rfl, z, rfl, zL, _, _, rfl, rfl, l1 c, _, upd_same, take_sz (n := 26) (by simp [abcL]) (by decide), put_next ?_⟩
            rw [List.getElem?_map, List.getElem?_map, hj']
            rfl
          · rintro H7 rfl
            rw [abc_sz, List.take_of_length_le (show ((abcL.map fun c => one c ++ tail7 z).map V.str).length ≤ 26 by simp [abcL])]
            have hD7 : (upd H6 D (.lst ((abcL.map fun c => one c ++ tail7 z).map V.str))) D = some (.lst ((abcL.map fun c => one c ++ tail7 z).map V.str)) := upd_same
            have K7 : Kp b H (upd H6 D (.lst ((abcL.map fun c => one c ++ tail7 z).map V.str))) := K6.new hD
            have B7 := B6.new (o := (.lst ((abcL.map fun c => one c ++ tail7 z).map V.str))) hD
            have hu7 : (upd H6 D (.lst ((abcL.map fun c => one c ++ tail7 z).map V.str))) u = some (.lst ((zs ++ tk).map V.str)) := by rw [upd_ne (ne_of_none hu6 hD)]; exact hu6
            have hp7 : (upd H6 D (.lst ((abcL.map fun c => one c ++ tail7 z).map V.str))) p = some (.lst (zs.map V.str)) := by rw [upd_ne (ne_of_none hp6 hD)]; exact hp6
            generalize (upd H6 D (.lst ((abcL.map fun c => one c ++ tail7 z).map V.str))) = H7 at hD7 K7 B7 hu7 hp7
            refine ⟨_, rfl, _, rfl, fun D2 hD2 => ?_⟩
            refine lc_it walk_str (fun j H8 => H8 = upd H7 D2 (.lst (((abcL.map fun c => (one c ++ "x") ++ tail7 z).map V.str).take j))) rfl (fun _ _ _ _ => trivial) ?_ ?_
            · rintro j x H8 H9 hj rfl ⟨rfl, c, hc, rfl⟩
              have hj' := abcL_at hc
              refine ⟨rfl, yes (iteT ?_)⟩
              refine ⟨_, rfl, _, _, rfl, rfl, (by show 1 + 1 ≤ sizeLine; decide), _, rfl, 1, rfl, 7, rfl, z, rfl, zL, _, _, rfl, rfl, l2 c, _, upd_same, take_sz (n := 26) (by simp [abcL]) (by decide), put_next ?_⟩
              rw [List.getElem?_map, List.getElem?_map, hj']
              rfl
            · rintro H8 rfl
              rw [abc_sz, List.take_of_length_le (show ((abcL.map fun c => (one c ++ "x") ++ tail7 z).map V.str).length ≤ 26 by simp [abcL])]
              refine ⟨D, D2, _, _, rfl, rfl, (by rw [upd_ne (ne_of_none hD7 hD2)]; exact hD7), upd_same, (by simp [abcL]; decide), fun T hT => ?_⟩
              rw [← List.map_append]
              have nuT : u ≠ T := fun e => by
                rw [← e, upd_ne (ne_of_none hu7 hD2), hu7] at hT
                cases hT
              have npT : p ≠ T := fun e => by
                rw [← e, upd_ne (ne_of_none hp7 hD2), hp7] at hT
                cases hT
              generalize hts : (abcL.map fun c => one c ++ tail7 z) ++ (abcL.map fun c => (one c ++ "x") ++ tail7 z) = ts
              have hT9 : (upd (upd H7 D2 (.lst ((abcL.map fun c => (one c ++ "x") ++ tail7 z).map V.str))) T (.lst (ts.map V.str))) T = some (.lst (ts.map V.str)) := upd_same
              have K9 : Kp b H (upd (upd H7 D2 (.lst ((abcL.map fun c => (one c ++ "x") ++ tail7 z).map V.str))) T (.lst (ts.map V.str))) := (K7.new hD2).new hT
              have B9 : Bag (upd (upd H7 D2 (.lst ((abcL.map fun c => (one c ++ "x") ++ tail7 z).map V.str))) T (.lst (ts.map V.str))) b (n + 10 * (i + 1)) := (B7.new hD2).new hT
              have hu9 : (upd (upd H7 D2 (.lst ((abcL.map fun c => (one c ++ "x") ++ tail7 z).map V.str))) T (.lst (ts.map V.str))) u = some (.lst ((zs ++ tk).map V.str)) := by rw [upd_ne nuT, upd_ne (ne_of_none hu7 hD2)]; exact hu7
              have hp9 : (upd (upd H7 D2 (.lst ((abcL.map fun c => (one c ++ "x") ++ tail7 z).map V.str))) T (.lst (ts.map V.str))) p = some (.lst (zs.map V.str)) := by rw [upd_ne npT, upd_ne (ne_of_none hp7 hD2)]; exact hp7
              generalize (upd (upd H7 D2 (.lst ((abcL.map fun c => (one c ++ "x") ++ tail7 z).map V.str))) T (.lst (ts.map V.str))) = H9 at hT9 K9 B9 hu9 hp9
              have lts : ts.length = 52 := by rw [← hts]; simp [abcL]
              refine ⟨_, rfl, T, rfl, ⟨_, SqL.of hT9⟩, fun D3 hD3 => ?_⟩
              refine lc_it (walk_list (K := K) (a := T) (xs := ts.map V.str)) (fun j H10 => H10 = upd H9 D3 (.lst (((ts.take j).filter fun t => decide (t ∉ zs ++ tk)).map V.str))) rfl ?_ ?_ ?_
              · rintro j H10 _ rfl
                exact SqL.of (by rw [upd_ne (ne_of_none hT9 hD3)]; exact hT9)
              · rintro j x H10 H11 hj rfl ⟨rfl, hx⟩
                obtain ⟨y, hy, rfl⟩ : ∃ y, ts[j]? = some y ∧ x = V.str y := by
                  rw [List.getElem?_map] at hx
                  cases e : ts[j]? with
                  | none => rw [e] at hx; cases hx
                  | some y => rw [e] at hx; exact ⟨y, rfl, (Option.some.inj hx).symm⟩
                refine ⟨rfl, _, rfl, _, rfl, u, _, rfl, .inl (SqL.of (by rw [upd_ne (ne_of_none hu9 hD3)]; exact hu9)), rfl, flat_strs _, _, rfl, ?_⟩
                rw [in_strs]
                have tk1 : ts.take (j + 1) = ts.take j ++ [y] := by rw [List.take_succ, hy]; rfl
                refine ite2 (fun hin => ?_) (fun hin => ?_)
                · refine ⟨_, rfl, _, upd_same, ?_, ?_⟩
                  · refine Nat.lt_of_le_of_lt (show _ ≤ 52 from ?_) (by decide)
                    rw [List.length_map]
                    exact Nat.le_trans (List.length_filter_le _ _) (by rw [List.length_take]; omega)
                  · have hny : y ∉ zs ++ tk := fun e => by
                      rw [decide_eq_true e] at hin
                      cases hin
                    rw [upd_upd, tk1, List.filter_append, List.map_append]
                    have : ([y].filter fun t => decide (t ∉ zs ++ tk)) = [y] := List.filter_cons_of_pos (decide_eq_true hny)
                    rw [this]
                    rfl
                · have hyy : y ∈ zs ++ tk := Classical.byContradiction fun e => hin (by rw [decide_eq_false e]; rfl)
                  rw [tk1, List.filter_append]
                  have : ([y].filter fun t => decide (t ∉ zs ++ tk)) = [] := by
                    rw [List.filter_eq_nil_iff]
                    intro a ha
                    rw [List.mem_singleton.mp ha, decide_eq_true_eq]
                    exact fun h => h hyy
                  rw [this, List.append_nil]
              · rintro H10 rfl
                rw [show (ts.map V.str).length = ts.length from List.length_map _, List.take_length]
                obtain ⟨z', hz', hn'⟩ := fresh_tail (tail7 z) (zs ++ tk) (by rw [List.length_append]; omega)
                have hmem : z' ∈ ts.filter fun t => decide (t ∉ zs ++ tk) := List.mem_filter.mpr ⟨by rw [← hts]; exact List.mem_append_left _ hz', decide_eq_true hn'⟩
                cases hq : (ts.filter fun t => decide (t ∉ zs ++ tk)) with
                | nil => rw [hq] at hmem; cases hmem
                | cons v r =>
                  have hv : v ∈ ts.filter fun t => decide (t ∉ zs ++ tk) := by rw [hq]; exact List.mem_cons_self
                  obtain ⟨hv1, hv2⟩ := List.mem_filter.mp hv
                  refine ⟨D3, _, _, .str v, rfl, rfl, SqL.of upd_same, atI_nat (j := 0) rfl, ?_⟩
                  refine ⟨⟨v, _, _, rfl, tails_nm z4 (by rw [hts]; exact hv1), of_decide_eq_true hv2⟩, K9.new hD3, B9.new hD3, ?_⟩
                  rw [upd_ne (ne_of_none hp9 hD3)]
                  exact hp9
        · have hno' : z ∉ zs ++ tk := fun e => hno (decide_eq_true e)
          exact ⟨⟨z, _, _, rfl, z4, hno'⟩, K6, B6, hp6⟩
      · rintro σ H7 ⟨⟨v, a7, a8, rfl, nv, hv⟩, K7, B7, hp7⟩
        have hvz : v ∉ zs := fun e => hv (List.mem_append_left _ e)
        have hvt : v ∉ tk := fun e => hv (List.mem_append_right _ e)
        refine ⟨_, rfl, .inl ⟨rfl, _, SqL.of hp7⟩, _, rfl, p, _, _, rfl, rfl, hp7, ?_, ?_⟩
        · rw [List.length_map, hl]
          exact Nat.lt_trans hi12 (by decide)
        · refine ⟨⟨_, _, _, _, _, rfl⟩, K7.wr hp, B7.ne npb, zs ++ [v], ?_, by rw [List.length_append, hl]; rfl, ?_, ?_⟩
          · rw [upd_same, List.map_append]; rfl
          · rw [List.nodup_append]
            refine ⟨hnd, List.nodup_cons.mpr ⟨fun h => (nomatch h), List.nodup_nil⟩, fun a ha c hc e => ?_⟩
            rw [List.mem_singleton.mp hc] at e
            exact hvz (e ▸ ha)
          · intro z' hz'
            rcases List.mem_append.mp hz' with h | h
            · exact hz z' h
            · rw [List.mem_singleton.mp h]
              exact ⟨nv, hvt⟩
    · rintro σ H3 ⟨⟨a4, a5, a6, a7, a8, rfl⟩, K3, B3, zs, hp3, hl, hnd, hz⟩
      exact ⟨_, rfl, k p zs H3 hp hp3 (by omega) hnd hz K3 (B3.mono (by omega))⟩
end
end Fh

set_option Elab.async false
set_option linter.all false
set_option maxRecDepth 100000
set_option maxHeartbeats 4000000
namespace Fh
open PySem L2 PyProof.Rows
/-! ### data in tuples -/
mutual
inductive Tp (H : Hp) : V → PyData → Prop
  | int (i : Int) : Tp H (.int i) (.int i)
  | str (x : Str) : Tp H (.str x) (.str x)
  | tup {a : Addr} {xs : List V} {ds : List PyData} : H a = some (.tup xs) → TpAll H xs ds → Tp H (.ref a) (.tuple ds)
inductive TpAll (H : Hp) : List V → List PyData → Prop
  | nil : TpAll H [] []
  | cons {v : V} {vs : List V} {d : PyData} {ds : List PyData} : Tp H v d → TpAll H vs ds → TpAll H (v :: vs) (d :: ds)
end
/-- tuples stay -/
def Tk (H H' : Hp) : Prop := ∀ a xs, H a = some (.tup xs) → H' a = some (.tup xs)
mutual
theorem Tp.keep {H H' : Hp} (t : Tk H H') : ∀ (d : PyData) (v : V), Tp H v d → Tp H' v d
  | .none, _, h => by cases h
  | .bool _, _, h => by cases h
  | .int i, _, h => by cases h; exact .int i
  | .str x, _, h => by cases h; exact .str x
  | .list _, _, h => by cases h
  | .dict _, _, h => by cases h
  | .tuple ds, _, h => by
    cases h with
    | tup e q => exact .tup (t _ _ e) (TpAll.keep t ds _ q)
theorem TpAll.keep {H H' : Hp} (t : Tk H H') : ∀ (ds : List PyData) (vs : List V), TpAll H vs ds → TpAll H' vs ds
  | [], _, h => by cases h; exact .nil
  | d :: ds, _, h => by
    cases h with
    | cons a q => exact .cons (Tp.keep t d _ a) (TpAll.keep t ds _ q)
end
mutual
theorem Tp.dp {K : PySem.W.Frag} {H : Hp} : ∀ (d : PyData) (v : V), Tp H v d → Dp K H v d
  | .none, _, h => by cases h
  | .bool _, _, h => by cases h
  | .int i, _, h => by cases h; exact .int i
  | .str x, _, h => by cases h; exact .str x
  | .list _, _, h => by cases h
  | .dict _, _, h => by cases h
  | .tuple ds, _, h => by
    cases h with
    | tup e q => exact .tup (SqT.of e) (TpAll.dp ds _ q)
theorem TpAll.dp {K : PySem.W.Frag} {H : Hp} : ∀ (ds : List PyData) (vs : List V), TpAll H vs ds → DpAll K H vs ds
  | [], _, h => by cases h; exact .nil
  | d :: ds, _, h => by
    cases h with
    | cons a q => exact .cons (Tp.dp d _ a) (TpAll.dp ds _ q)
end
theorem Kp.tk {b : Addr} {H H' : Hp} {n : Nat} (k : Kp b H H') (hb : Bag H b n) : Tk H H' := fun a xs h => k a _ (fun e => by
  obtain ⟨x, y, z, e2, _⟩ := hb
  rw [← e, h] at e2
  cases e2) h
theorem Tk.refl {H : Hp} : Tk H H := fun _ _ h => h
theorem Tk.trans {H H1 H2 : Hp} (a : Tk H H1) (b : Tk H1 H2) : Tk H H2 := fun c xs h => b c xs (a c xs h)
theorem Same.tk {H H' : Hp} (s : Same H H') : Tk H H' := fun a xs h => s a _ h
theorem Tk.new {H : Hp} {p : Addr} {o : HO} (h : H p = none) : Tk H (upd H p o) := fun a xs e => by rw [upd_ne (ne_of_none e h)]; exact e
theorem Tk.wr {H : Hp} {p : Addr} {ys : List V} {o : HO} (h : H p = some (.lst ys)) : Tk H (upd H p o) := fun a xs e => by
  rw [upd_ne (fun q => by rw [q, h] at e; cases e)]
  exact e
theorem TpAll.length {H : Hp} : ∀ {vs : List V} {ds : List PyData}, TpAll H vs ds → vs.length = ds.length
  | _, _, .nil => rfl
  | _, _, .cons _ q => by simp [TpAll.length q]
theorem TpAll.get {H : Hp} : ∀ {vs : List V} {ds : List PyData} {i : Nat} {d : PyData}, TpAll H vs ds → ds[i]? = some d → ∃ v, vs[i]? = some v ∧ Tp H v d
  | _, _, _, _, .nil, e => by simp at e
  | _, _, 0, _, .cons a _, e => by simp at e; subst e; exact ⟨_, rfl, a⟩
  | _, _, i + 1, d, .cons _ q, e => by
    obtain ⟨v, h1, h2⟩ := TpAll.get (i := i) (d := d) q (by simpa using e)
    exact ⟨v, by simpa using h1, h2⟩
theorem TpAll.get' {H : Hp} : ∀ {vs : List V} {ds : List PyData} {i : Nat} {v : V}, TpAll H vs ds → vs[i]? = some v → ∃ d, ds[i]? = some d ∧ Tp H v d
  | _, _, _, _, .nil, e => by simp at e
  | _, _, 0, _, .cons a _, e => by simp at e; subst e; exact ⟨_, rfl, a⟩
  | _, _, i + 1, v, .cons _ q, e => by
    obtain ⟨d, h1, h2⟩ := TpAll.get' (i := i) (v := v) q (by simpa using e)
    exact ⟨d, by simpa using h1, h2⟩
theorem TpAll.app {H : Hp} : ∀ {vs ws : List V} {ds es : List PyData}, TpAll H vs ds → TpAll H ws es → TpAll H (vs ++ ws) (ds ++ es)
  | _, _, _, _, .nil, s => s
  | _, _, _, _, .cons a q, s => .cons a (TpAll.app q s)
theorem TpAll.one {H : Hp} {v : V} {d : PyData} (h : Tp H v d) : TpAll H [v] [d] := .cons h .nil
theorem TpAll.strs {H : Hp} : ∀ zs : List Str, TpAll H (zs.map V.str) (zs.map PyData.str)
  | [] => .nil
  | z :: r => .cons (.str z) (TpAll.strs r)
theorem Tp.inv {H : Hp} {v : V} {ds : List PyData} (h : Tp H v (.tuple ds)) : ∃ a xs, v = .ref a ∧ H a = some (.tup xs) ∧ TpAll H xs ds := by
  cases h with
  | tup e q => exact ⟨_, _, rfl, e, q⟩
theorem Tp.istr {H : Hp} {v : V} {z : Str} (h : Tp H v (.str z)) : v = .str z := by cases h; rfl
theorem Tp.iint {H : Hp} {v : V} {i : Int} (h : Tp H v (.int i)) : v = .int i := by cases h; rfl
theorem TpAll.icons {H : Hp} {vs : List V} {d : PyData} {ds : List PyData} (h : TpAll H vs (d :: ds)) : ∃ v r, vs = v :: r ∧ Tp H v d ∧ TpAll H r ds := by
  cases h with
  | cons a q => exact ⟨_, _, rfl, a, q⟩
theorem TpAll.inil {H : Hp} {vs : List V} (h : TpAll H vs []) : vs = [] := by cases h; rfl
/-! ### shaped data -/
def Sh (n : Nat) (d : PyData) : Prop := d.canLay0 = true ∧ d.depth ≤ n
theorem strOk_of {z : Str} (h : ∀ c ∈ z.cps.toList, c < 0x110000) : PyData.canLay0 (.str z) = true := by
  show PyData.strOk z = true
  unfold PyData.strOk
  rw [Array.all_eq_true_iff_forall_mem]
  intro c hc
  exact decide_eq_true (h c (by simpa using hc))
theorem Sh.int {n : Nat} (i : Int) : Sh n (.int i) := ⟨rfl, Nat.zero_le _⟩
theorem Sh.mono {n m : Nat} {d : PyData} (h : Sh n d) (hm : n ≤ m) : Sh m d := ⟨h.1, Nat.le_trans h.2 hm⟩
theorem lay_all : ∀ ds : List PyData, (∀ d ∈ ds, d.canLay0 = true) → PyData.canLayAll0 ds = true
  | [], _ => rfl
  | d :: r, h => by
    show (PyData.canLay0 d && PyData.canLayAll0 r) = true
    rw [h d List.mem_cons_self, lay_all r fun e he => h e (List.mem_cons_of_mem _ he)]
    rfl
theorem depth_all {n : Nat} : ∀ ds : List PyData, (∀ d ∈ ds, d.depth ≤ n) → PyData.depthAll ds ≤ n
  | [], _ => Nat.zero_le _
  | d :: r, h => by
    show max (PyData.depth d) (PyData.depthAll r) ≤ n
    exact Nat.max_le.mpr ⟨h d List.mem_cons_self, depth_all r fun e he => h e (List.mem_cons_of_mem _ he)⟩
theorem Sh.tup {n : Nat} {ds : List PyData} (h : ∀ d ∈ ds, Sh n d) : Sh (n + 1) (.tuple ds) :=
  ⟨lay_all ds fun d hd => (h d hd).1, Nat.succ_le_succ (depth_all ds fun d hd => (h d hd).2)⟩
theorem Sh.lst {n : Nat} {ds : List PyData} (h : ∀ d ∈ ds, Sh n d) : Sh (n + 1) (.list ds) :=
  ⟨lay_all ds fun d hd => (h d hd).1, Nat.succ_le_succ (depth_all ds fun d hd => (h d hd).2)⟩
theorem Sh.shaped {n : Nat} {d : PyData} (h : Sh n d) (hn : n ≤ 64) : SeqAt.shaped d = true := by
  unfold SeqAt.shaped
  rw [h.1, decide_eq_true (Nat.le_trans h.2 hn)]
  rfl
/-! ### lists of data as python sees them -/
theorem Dp.strs {K : PySem.W.Frag} {H : Hp} : ∀ zs : List Str, DpAll K H (zs.map V.str) (zs.map PyData.str)
  | [] => .nil
  | z :: r => .cons (.str z) (Dp.strs r)
theorem putF_len (f : Str) (v : V) : ∀ fs : List (Str × V), (putF f v fs).length ≤ fs.length + 1
  | [] => Nat.le_refl _
  | (g, x) :: r => by
    show (if g = f then (g, v) :: r else (g, x) :: putF f v r).length ≤ _
    split
    · exact Nat.le_succ _
    · exact Nat.succ_le_succ (putF_len f v r)
end Fh

set_option Elab.async false
set_option linter.all false
set_option maxRecDepth 100000
set_option maxHeartbeats 4000000
/-! == and != by a face's own __eq__, whatever stands on the other side -/
namespace Fh
open PySem PySem.Spec PyProof.Rows L2
/-- what the text has of the class at C and its own == -/
structure OwnC (K : PySem.W.Frag) (C f : Addr) : Prop where
  eq : PySem.W.findIn K (.ref C) "__eq__" = some (some (.ref f))
  fn : PySem.W.isFn K (.ref f) = true
  ne : PySem.W.findIn K (.ref C) "__ne__" = some (some (.builtin "object.__ne__"))
  obj : PySem.W.mroIn K C (.type "object") = some true
  no : ∀ T ∈ ["NoneType", "tuple", "list", "str", "int", "bool"], PySem.W.subIn K (.ref C) (.type T) = some false ∧ PySem.W.subIn K (.type T) (.ref C) = some false
section
variable {X : Cx} {n : Nat} {C f : Addr} {fd : FuncData} {ps : List Str} {sp : Sp} {A : Around} {pins : List (Addr × Obj)} {σ : L2.St} {H : Hp} {s : Shared}
theorem own_call {vs : List V} {us : List Value} {Q : V → Hp → Prop} (F : FnOk X.prog X.w X.K X.mg X.base CX0 n f fd ps sp) (hb : Binds X.K fd ps []) (sb : Sub X n A) (I : Inv X pins σ H s) (rv : Vals vs us) (hsp : sp vs H Q E0) :
    wpAny (model X.prog X.w) A (call (.ref f) us) (EP X pins σ Q) X.xe s := by
  have e := I.env0
  have e0 : Env0 X.prog X.w X.K X.mg X.base A X.stack s H := ⟨by rw [sb.fr]; exact e.frames, e.mod, e.bs, e.bsz, e.funs, e.frf, e.hok, e.bare⟩
  have hl := F.len _ _ _ _ hsp
  refine wpAny_call (codeAny_mono (F.run A X.stack s H ⟨us, []⟩ us vs Q E0 sb.room e0 (by
    have := hb s us I.kIn (by rw [List.append_nil, ← rv.length]; exact hl)
    simpa using this) rv hsp) fun r s' hq => ?_)
  cases r with
  | error e => exact (hq : False).elim
  | ok fl =>
    cases fl with
    | ret w => exact I.after hq
    | next => exact False.elim hq
    | brk => exact False.elim hq
    | cont => exact False.elim hq
/-- the answer r, all else as it stood -/
abbrev Told (X : Cx) (pins : List (Addr × Obj)) (σ : L2.St) (H : Hp) (r : Bool) (u : Value) (s' : Shared) : Prop := u = .bool r ∧ Inv X pins σ H s'
theorem own_told {a : Addr} {y : V} {v : Value} {r : Bool} (F : FnOk X.prog X.w X.K X.mg X.base CX0 n f fd ps sp) (hb : Binds X.K fd ps []) (sb : Sub X n A) (I : Inv X pins σ H s) (rv : RelV y v) (hsp : sp [.ref a, y] H (fun z H' => z = .bl r ∧ H' = H) E0) :
    wpAny (model X.prog X.w) A (call (.ref f) [.ref a, v]) (Told X pins σ H r) X.xe s := by
  refine wpAny_mono (own_call (vs := [.ref a, y]) F hb sb I (.cons rfl (.cons rv .nil)) hsp) (fun u s' q => ?_) fun _ _ z => z
  obtain ⟨z, H', I', rz, ez, eH⟩ := q
  subst ez eH
  exact ⟨rz, I'⟩
/-- face == anything -/
theorem rc_eqL {a dx : Addr} {fs : List (Str × V)} {y : V} {v t : Value} {r : Bool} (F : FnOk X.prog X.w X.K X.mg X.base CX0 n f fd ps sp) (hb : Binds X.K fd ps []) (O : OwnC X.K C f) (sb : Sub X n A) (I : Inv X pins σ H s) (ha : H a = some (.ins C dx fs)) (rv : RelV y v)
    (ty : TyX X.K H y t) (hn : PySem.W.notFirst X.K C t = true) (hsp : sp [.ref a, y] H (fun z H' => z = .bl r ∧ H' = H) E0) : wpAny (model X.prog X.w) A (richCompare .Eq (.ref a) v) (Told X pins σ H r) X.xe s := by
  obtain ⟨mA, J, _⟩ := ins_get I.hok ha
  obtain ⟨od, J, _⟩ := J.look
  obtain ⟨m, hF⟩ := I.fr
  obtain ⟨P, Z, p, _⟩ := kit_of I rv ty
  refine PySem.W.cmp_K (op := .Eq) (tb := t) sb.room.units0 hF I.ok.mod.kin J (Z.ty _ _ I.kIn p) hn O.eq O.fn ?_
  refine wpAny_mono (own_told F hb sb I rv hsp) (fun u s' q => ?_) fun _ _ z => z
  obtain ⟨rfl, I'⟩ := q
  exact ⟨rfl, I'⟩
/-- the built-in special method of an own instance, by its class -/
theorem ifBound_B {M : Model} {E : Value → Shared → Prop} {K : PySem.W.Frag} {x : Addr} {ox : Obj} {od : Option Obj} {name : Str} {id : String} {args : List Value} {Q : Option Value → Shared → Prop} (XK : K.In s.heap) (I : PySem.W.InstAt s.heap x ox C od) (hs : PySem.W.findIn K (.ref C) name = some (some (.builtin id))) (S : Slot "object" name id)
    (h : wpAny M A (call (.builtin id) (.ref x :: args)) (fun v => Q (some v)) E s) : wpAny M A (callSpecialIfBound? (.ref x) name args) Q E s := by
  simp only [callSpecialIfBound?, bindSpecialIfBound?]
  refine wpAny_holding (wpAny_bind (wpAny_bind (wpAny_bind (I.type.here ((PySem.W.looks_findIn XK hs).here ?_)))))
  simp only [S.bind]
  refine wpAny_bind (wpAny_askSetting (wpAny_ite ?_))
  have fin : wpAny M A (call (.builtin id) ([.ref x] ++ args) >>= fun v => pure (some v)) Q E s := wpAny_bind (wpAny_mono h (fun v s' h' => wpAny_pure h') fun _ _ h' => h')
  split
  · exact wpAny_bind (wpAny_pure (wpAny_pure fin))
  · exact wpAny_tryCatch (wpAny_bind (wpAny_pure (wpAny_pure fin)))
/-- the answer of == turned about -/
theorem rc_neL {a dx : Addr} {fs : List (Str × V)} {y : V} {v t : Value} {r : Bool} (F : FnOk X.prog X.w X.K X.mg X.base CX0 n f fd ps sp) (hb : Binds X.K fd ps []) (O : OwnC X.K C f) (sb : Sub X (n + 1) A) (I : Inv X pins σ H s) (ha : H a = some (.ins C dx fs)) (rv : RelV y v)
    (ty : TyX X.K H y t) (hn : PySem.W.notFirst X.K C t = true) (hsp : sp [.ref a, y] H (fun z H' => z = .bl r ∧ H' = H) E0) : wpAny (model X.prog X.w) A (richCompare .NotEq (.ref a) v) (Told X pins σ H (!r)) X.xe s := by
  obtain ⟨mA, J, _⟩ := ins_get I.hok ha
  obtain ⟨od, J, _⟩ := J.look
  obtain ⟨P, Z, p, _⟩ := kit_of I rv ty
  have XK := I.kIn
  have hu : A.units < cLine := sb.room.units0
  have hu1 : A.in1.units < cLine := sb.in1.room.units0
  have one : wpAny (model X.prog X.w) A (tryCompare (.ref a) "__ne__" v) (fun w s' => w = some (.bool (!r)) ∧ Inv X pins σ H s') X.xe s := by
    unfold tryCompare
    refine wpAny_bind (ifBound_B XK J O.ne PySem.F.cmp_object.ne ?_)
    refine wpAny_call (codeAny_call_builtin PySem.F.cmp_object.ne.plain PySem.F.cmpEntry_ne (PySem.W.check_slot (i := "object.__ne__") (owner := "object") (n := "__ne__") PySem.F.cmpKind_ne PySem.F.cmpSplit_ne (J.type.andThen (PySem.W.looks_mroIn XK O.obj)) (PySem.F.cmpArgs_ne _ _) ?_))
    unfold Builtin.«object.__ne__»
    refine wpAny_bind (m := slotArgs "__ne__" 1 _) (wpAny_pure ?_)
    refine wpAny_bind (m := cRoomFor _ _) (wpAny_cRoomFor hu1 ?_)
    refine wpAny_bind (m := callSpecialIfBound? (.ref a) (Str.ofString "__eq__") _) (PySem.W.ifBound_K XK J O.eq O.fn (wpAny_mono (own_told F hb sb.in1 I rv hsp) (fun u s' q => ?_) fun _ _ z => z))
    obtain ⟨rfl, I'⟩ := q
    refine wpAny_bind (m := truthy (.bool r)) (wpAny_truthy_bool ?_)
    exact wpAny_pure (wpAny_pure ⟨rfl, I'⟩)
  (unfold richCompare; simp only [oneThing_ref]; refine wpAny_holding (wpAny_bind (wpAny_cRoomFor hu ?_)); refine wpAny_bind (J.type.here (wpAny_bind ((Z.ty _ _ XK p).here ?_))))
  have fin : ∀ {k : Option Value → Sem Value}, (∀ w, k (some w) = pure w) → wpAny (model X.prog X.w) A (tryCompare (.ref a) (cmpInfo .NotEq).2.1 v >>= k) (Told X pins σ H (!r)) X.xe s := fun {k} hk => by
    refine wpAny_bind (wpAny_mono one (fun w s' z => ?_) fun _ _ e => e)
    obtain ⟨rfl, I'⟩ := z
    rw [hk]
    exact wpAny_pure ⟨rfl, I'⟩
  split
  · rename_i q
    have e : PySem.W.subIn X.K t (.ref C) = some false := by
      rcases Bool.or_eq_true_iff.mp hn with e | e
      · rw [beq_iff_eq.mp e] at q; simp at q
      · exact beq_iff_eq.mp e
    refine wpAny_bind ((PySem.W.looks_subIn XK e).here ?_)
    simp only [Bool.false_eq_true, if_false]
    exact fin fun w => rfl
  · refine wpAny_bind (wpAny_pure ?_)
    simp only [Bool.false_eq_true, if_false]
    exact fin fun w => rfl
/-- what is no face, on the left: its own == declines, the face's is asked -/
theorem rc_eqR {T id : String} {a dx : Addr} {fs : List (Str × V)} {y : V} {v : Value} {r : Bool} (F : FnOk X.prog X.w X.K X.mg X.base CX0 n f fd ps sp) (hb : Binds X.K fd ps []) (O : OwnC X.K C f) (sb : Sub X n A) (I : Inv X pins σ H s) (ha : H a = some (.ins C dx fs)) (rv : RelV y v)
    (hT : s.TypeIs v T) (hm : T ∈ ["NoneType", "tuple", "list", "str", "int", "bool"]) (S : Slot T "__eq__" id) (dec : wpAny (model X.prog X.w) A (call (.builtin id) [v, .ref a]) (fun u s' => u = .notImplemented ∧ s' = s) X.xe s)
    (hsp : sp [.ref a, y] H (fun z H' => z = .bl r ∧ H' = H) E0) : wpAny (model X.prog X.w) A (richCompare .Eq v (.ref a)) (Told X pins σ H r) X.xe s := by
  obtain ⟨mA, J, _⟩ := ins_get I.hok ha
  obtain ⟨od, J, _⟩ := J.look
  have XK := I.kIn
  have hu : A.units < cLine := sb.room.units0
  have g1 : (Value.type T != Value.ref C) = true := rfl
  (rcases hi : cmpInfo CmpOp.Eq with ⟨sym, f0, r0⟩; have hi2 := hi; cases hi2; simp only [richCompare, hi, hT.oneThing_none]; refine wpAny_holding (wpAny_bind (wpAny_cRoomFor hu ?_)))
  refine wpAny_bind (wpAny_typeOf hT (wpAny_bind (J.type.here ?_)))
  simp only [g1, if_true]
  refine wpAny_bind ((PySem.W.looks_subIn XK (O.no T hm).1).here ?_)
  simp only [Bool.false_eq_true, if_false, Bool.not_false, if_true]
  refine wpAny_bind (m := tryCompare v _ (.ref a)) (wpAny_tryCompare_declines hT S (wpAny_mono dec (fun u s1 q => ⟨q.1, ?_⟩) fun _ _ z => z))
  obtain ⟨_, rfl⟩ := q
  refine wpAny_bind (m := tryCompare (.ref a) _ v) ?_
  unfold tryCompare
  refine wpAny_bind (PySem.W.ifBound_K XK J O.eq O.fn (wpAny_mono (own_told F hb sb I rv hsp) (fun u s' q => ?_) fun _ _ z => z))
  obtain ⟨rfl, I'⟩ := q
  exact wpAny_pure (wpAny_pure ⟨rfl, I'⟩)
/-! ### what declines -/
theorem inst_not {M : Model} {E : Value → Shared → Prop} {K : PySem.W.Frag} {x : Addr} {ox : Obj} {od : Option Obj} {T : String} {Q : Bool → Shared → Prop} (XK : K.In s.heap) (J : PySem.W.InstAt s.heap x ox C od) (e : PySem.W.subIn K (.ref C) (.type T) = some false) (q : Q false s) : wpAny M A (isInstance (.ref x) (.type T)) Q E s := by
  unfold isInstance
  exact wpAny_bind (J.type.here ((PySem.W.looks_subIn XK e).here q))
variable {prog : Program} {w : World} {E : Value → Shared → Prop} {x : Addr} {ox : Obj} {od : Option Obj} {K : PySem.W.Frag}
theorem dec_none : wpAny (model prog w) A (call (.builtin "NoneType.__eq__") [.none, .ref x]) (fun u s' => u = .notImplemented ∧ s' = s) E s := by
  refine GQ.call_here F.slot_NoneType_eq rfl F.entry_NoneType_eq (F.args_NoneType_eq_2 _ _) ?_
  unfold Builtin.«NoneType.__eq__»
  refine wpAny_bind (m := slotArgs "__eq__" 1 _) (wpAny_pure ?_)
  exact wpAny_pure ⟨rfl, rfl⟩
theorem dec_tuple {t : Addr} (ht : s.TypeIs (.ref t) "tuple") (XK : K.In s.heap) (J : PySem.W.InstAt s.heap x ox C od) (e : PySem.W.subIn K (.ref C) (.type "tuple") = some false) : wpAny (model prog w) A (call (.builtin "tuple.__eq__") [.ref t, .ref x]) (fun u s' => u = .notImplemented ∧ s' = s) E s := by
  refine GQ.call_here F.slot_tuple_eq ht F.entry_tuple_eq (F.args_tuple_eq_2 _ _) ?_
  show wpAny _ _ (slotArgs "__eq__" 1 _ >>= _) _ _ s
  refine wpAny_bind (m := slotArgs "__eq__" 1 _) (wpAny_pure ?_)
  refine wpAny_bind (inst_not XK J e ?_)
  exact wpAny_pure ⟨rfl, rfl⟩
theorem dec_list {t : Addr} (ht : s.TypeIs (.ref t) "list") (XK : K.In s.heap) (J : PySem.W.InstAt s.heap x ox C od) (e : PySem.W.subIn K (.ref C) (.type "list") = some false) : wpAny (model prog w) A (call (.builtin "list.__eq__") [.ref t, .ref x]) (fun u s' => u = .notImplemented ∧ s' = s) E s := by
  refine GQ.call_here F.slot_list_eq ht F.entry_list_eq (F.args_list_eq_2 _ _) ?_
  show wpAny _ _ (slotArgs "__eq__" 1 _ >>= _) _ _ s
  refine wpAny_bind (m := slotArgs "__eq__" 1 _) (wpAny_pure ?_)
  refine wpAny_bind (inst_not XK J e ?_)
  exact wpAny_pure ⟨rfl, rfl⟩
theorem dec_int {i : Int} {t : Tok} {dx : Addr} (hx : s.heap.get? x = some (PySem.W.instObj C dx)) : wpAny (model prog w) A (call (.builtin "int.__eq__") [.int i t, .ref x]) (fun u s' => u = .notImplemented ∧ s' = s) E s := by
  refine GQ.call_here F.slot_int_eq (typeIs_int s i t) F.entry_int_eq (F.args_int_eq_2 _ _) ?_
  show wpAny _ _ (slotArgs "__eq__" 1 _ >>= _) _ _ s
  refine wpAny_bind (m := slotArgs "__eq__" 1 _) (wpAny_pure ?_)
  refine wpAny_bind (m := Builtin.Int.intOfSelf _) (wpAny_pure ?_)
  refine wpAny_bind (m := asInt? (.ref x)) ?_
  show wpAny _ _ (load x >>= _) _ _ s
  refine wpAny_bind (wpAny_load hx ?_)
  refine wpAny_pure ?_
  refine wpAny_bind (wpAny_rule ?_)
  exact wpAny_pure ⟨rfl, rfl⟩
theorem dec_bool {b : Bool} {dx : Addr} (hx : s.heap.get? x = some (PySem.W.instObj C dx)) : wpAny (model prog w) A (call (.builtin "int.__eq__") [.bool b, .ref x]) (fun u s' => u = .notImplemented ∧ s' = s) E s := by
  refine GQ.call_here F.slot_bool_eq rfl F.entry_int_eq (F.args_int_eq_2 _ _) ?_
  show wpAny _ _ (slotArgs "__eq__" 1 _ >>= _) _ _ s
  refine wpAny_bind (m := slotArgs "__eq__" 1 _) (wpAny_pure ?_)
  refine wpAny_bind (m := Builtin.Int.intOfSelf _) (wpAny_pure ?_)
  refine wpAny_bind (m := asInt? (.ref x)) ?_
  show wpAny _ _ (load x >>= _) _ _ s
  refine wpAny_bind (wpAny_load hx ?_)
  refine wpAny_pure ?_
  refine wpAny_bind (wpAny_rule ?_)
  exact wpAny_pure ⟨rfl, rfl⟩
theorem dec_str {z : Str} {t : Tok} {dx : Addr} (hx : s.heap.get? x = some (PySem.W.instObj C dx)) : wpAny (model prog w) A (call (.builtin "str.__eq__") [.str z t, .ref x]) (fun u s' => u = .notImplemented ∧ s' = s) E s := by
  refine GQ.call_here F.slot_str_eq (typeIs_str s z t) F.entry_str_eq (F.args_str_eq_2 _ _) ?_
  show wpAny _ _ (Builtin.Str.strSlot "__eq__" 1 _ >>= _) _ _ s
  refine wpAny_bind (m := Builtin.Str.strSlot "__eq__" 1 _) (wpAny_of_eq (a := (Value.str z t, z, [Value.ref x])) rfl ?_)
  refine wpAny_bind (m := asStr? (.ref x)) ?_
  show wpAny _ _ (load x >>= _) _ _ s
  refine wpAny_bind (wpAny_load hx ?_)
  refine wpAny_pure ?_
  refine wpAny_bind (wpAny_rule ?_)
  exact wpAny_pure ⟨rfl, rfl⟩
end
end Fh

set_option Elab.async false
set_option linter.all false
set_option maxRecDepth 100000
set_option maxHeartbeats 4000000
namespace Fh
open PySem PySem.Spec PyProof.Rows L2
open AutoSeq1 (wpAny_loadPart')
open MeetsSeq SeqRoads2
section
variable {X : Cx} {A : Around} {pins : List (Addr × Obj)} {σ : L2.St} {H : Hp} {s : Shared}
/-- the loop of «in» behind its last item -/
theorem loop_end {R : Result → Shared → Prop} {l : Addr} {items : Array Value} {n : Nat} {v : Value} (hl : s.heap.get? l = some { cls := .type "list", data := .seq items n }) (hs : items.size = 1) (h : R (.ok (.ret (.bool false))) s) :
    wpAny (model X.prog X.w) A.in1 (Builtin.«list.__contains__.loop» ⟨[.ref l, v, rawInt 1], []⟩) (GQ.FinOf X.prog X.w A R) (fun e s' => R (.error e) s') s := by
  obtain ⟨hp, g, d, tk, os⟩ := s
  wp_walk using wpAny_loadPart' hl
  have hi : items[((1 : Nat) : Int).toNat]? = none := by simp; omega
  have hi' : items[(1 : Int).toNat]? = none := hi
  rw [hi']
  exact wpAny_pure h
theorem loop_one {R : Result → Shared → Prop} {l : Addr} {u v : Value} {n : Nat} {z : V} {r : Bool} {items : Array Value} (hi : items[(0 : Int).toNat]? = some u) (hl : s.heap.get? l = some { cls := .type "list", data := .seq items n }) (hH : H l = some (.lst [z]))
    (he : wpAny (model X.prog X.w) A.in1 (eqBool u v) (fun b s' => b = r ∧ Inv X pins σ H s') (fun e s' => R (.error e) s') s) (h : ∀ s', Inv X pins σ H s' → R (.ok (.ret (.bool r))) s') :
    wpAny (model X.prog X.w) A.in1 (Builtin.«list.__contains__.loop» ⟨[.ref l, v, rawInt 0], []⟩) (GQ.FinOf X.prog X.w A R) (fun e s' => R (.error e) s') s := by
  obtain ⟨hp, g, d, tk, os⟩ := s
  wp_walk using wpAny_loadPart' hl
  rw [hi]
  refine wpAny_bind (wpAny_mono he (fun b s' q => ?_) fun _ _ x => x)
  obtain ⟨rfl, I'⟩ := q
  cases b with
  | true => exact wpAny_pure (h s' I')
  | false =>
    obtain ⟨_, its, k, rv, e⟩ := I'.hok l _ hH
    have hsz : its.toArray.size = 1 := by rw [List.size_toArray, ← rv.length]; rfl
    exact wpAny_pure ⟨plainId_quiet plain_contains_loop _, codeAny_builtin entry_contains_loop (by
      rw [Around.under_plainId plain_contains_loop _]
      exact loop_end e hsz (h s' I'))⟩
theorem in_one {l : Addr} {v : Value} {z : V} {r : Bool} (I : Inv X pins σ H s) (hH : H l = some (.lst [z]))
    (he : ∀ u, RelV z u → wpAny (model X.prog X.w) A.in1 (eqBool u v) (fun b s' => b = r ∧ Inv X pins σ H s') X.xe s) : wpAny (model X.prog X.w) A (compareOp .In v (.ref l)) (Told X pins σ H r) X.xe s := by
  obtain ⟨_, its, k, rv, e⟩ := I.hok l _ hH
  cases rv with
  | cons ru rr =>
    cases rr
    rename_i u
    show wpAny _ A (do return Value.bool (← contains (.ref l) v)) _ X.xe s
    refine wpAny_bind (wpAny_contains_slot ⟨_, e, rfl⟩ F.slot_list_contains (wpAny_mono (GQ.call_here (Q := fun w s' => w = .bool r ∧ Inv X pins σ H s') F.slot_list_contains ⟨_, e, rfl⟩ F.entry_list_contains (F.args_list_contains_2 _ _) ?_) (fun w s' q => ?_) fun _ _ x => x))
    · unfold Builtin.«list.__contains__»
      refine wpAny_bind (m := slotArgs "__contains__" 1 _) (wpAny_pure ?_)
      refine wpAny_pure ⟨plainId_quiet plain_contains_loop _, codeAny_builtin entry_contains_loop (by
        rw [Around.under_plainId plain_contains_loop _]
        exact loop_one (r := r) (pins := pins) (σ := σ) (u := u) rfl e hH (he u ru) fun s' I' => ⟨rfl, I'⟩)⟩
    · obtain ⟨rfl, I'⟩ := q
      exact wpAny_truthy_bool (wpAny_pure ⟨rfl, I'⟩)
end
end Fh

set_option Elab.async false
set_option linter.all false
set_option maxRecDepth 100000
set_option maxHeartbeats 4000000
namespace Fh
open PySem PySem.Spec PyProof.Rows L2
/-- things that are no faces -/
inductive Odd (H : Hp) : V → Prop
  | non : Odd H .non
  | int (i : Int) : Odd H (.int i)
  | str (z : Str) : Odd H (.str z)
  | bl (b : Bool) : Odd H (.bl b)
  | tup {t : Addr} {xs : List V} : H t = some (.tup xs) → Odd H (.ref t)
  | lst {t : Addr} {xs : List V} : H t = some (.lst xs) → Odd H (.ref t)
theorem Odd.ty {K : PySem.W.Frag} {H : Hp} {y : V} (o : Odd H y) : ∃ T ∈ ["NoneType", "tuple", "list", "str", "int", "bool"], TyX K H y (.type T) := by
  cases o with
  | non => exact ⟨"NoneType", by decide, .base .non⟩
  | int i => exact ⟨"int", by decide, .base (.int i)⟩
  | str z => exact ⟨"str", by decide, .base (.str z)⟩
  | bl b => exact ⟨"bool", by decide, .base (.bl b)⟩
  | tup h => exact ⟨"tuple", by decide, .base (.tup h)⟩
  | lst h => exact ⟨"list", by decide, .base (.lst h)⟩
/-- the class with its own ==, its promise sp -/
structure FEq (P : Program) (w : World) (K : PySem.W.Frag) (mg : Str → Option Value) (base : Heap) (C : Addr) (n : Nat) (sp : Sp) : Prop where
  ex : ∃ (f : Addr) (fd : FuncData) (ps : List Str), FnOk P w K mg base CX0 n f fd ps sp ∧ Binds K fd ps [] ∧ OwnC K C f
  ins : C8.InsC K C
def IsF (C : Addr) (H : Hp) (y : V) : Prop := ∃ b dy gs, y = .ref b ∧ H b = some (.ins C dy gs)
def Fo (C : Addr) (H : Hp) (y : V) : Prop := Odd H y ∨ IsF C H y
/-- sp answers r and leaves all as it stood -/
def Ans (sp : Sp) (x y : V) (H : Hp) (r : Bool) : Prop := sp [x, y] H (fun z H' => z = .bl r ∧ H' = H) E0
section
variable {X : Cx} {C : Addr} {n : Nat} {sp : Sp} {A : Around} {pins : List (Addr × Obj)} {σ : L2.St} {H : Hp} {s : Shared}
theorem Fo.ty {f : Addr} (fo : Fo C H y) (O : OwnC X.K C f) (i : C8.InsC X.K C) : ∃ t, TyX X.K H y t ∧ PySem.W.notFirst X.K C t = true := by
  rcases fo with o | ⟨b, dy, gs, rfl, hb⟩
  · obtain ⟨T, hT, ty⟩ := o.ty (K := X.K)
    refine ⟨_, ty, ?_⟩
    unfold PySem.W.notFirst
    rw [(O.no T hT).2]
    simp
  · refine ⟨.ref C, .base (.ins hb i.cl i.ha i.hn i.htk i.hm), ?_⟩
    simp [PySem.W.notFirst]
theorem eqL {x y : V} {u v : Value} {r : Bool} (E : FEq X.prog X.w X.K X.mg X.base C n sp) (sb : Sub X n A) (I : Inv X pins σ H s) (hx : IsF C H x) (hy : Fo C H y) (ru : RelV x u) (rv : RelV y v) (hs : Ans sp x y H r) :
    wpAny (model X.prog X.w) A (richCompare .Eq u v) (Told X pins σ H r) X.xe s := by
  obtain ⟨f, fd, ps, F, hb, O⟩ := E.ex
  obtain ⟨a, dx, fs, rfl, ha⟩ := hx
  obtain ⟨t, ty, hn⟩ := hy.ty (X := X) O E.ins
  cases ru
  exact rc_eqL F hb O sb I ha rv ty hn hs
theorem neL {x y : V} {u v : Value} {r : Bool} (E : FEq X.prog X.w X.K X.mg X.base C n sp) (sb : Sub X (n + 1) A) (I : Inv X pins σ H s) (hx : IsF C H x) (hy : Fo C H y) (ru : RelV x u) (rv : RelV y v) (hs : Ans sp x y H r) :
    wpAny (model X.prog X.w) A (richCompare .NotEq u v) (Told X pins σ H (!r)) X.xe s := by
  obtain ⟨f, fd, ps, F, hb, O⟩ := E.ex
  obtain ⟨a, dx, fs, rfl, ha⟩ := hx
  obtain ⟨t, ty, hn⟩ := hy.ty (X := X) O E.ins
  cases ru
  exact rc_neL F hb O sb I ha rv ty hn hs
theorem eqR {x y : V} {u v : Value} {r : Bool} (E : FEq X.prog X.w X.K X.mg X.base C n sp) (sb : Sub X n A) (I : Inv X pins σ H s) (hx : IsF C H x) (hy : Odd H y) (ru : RelV x u) (rv : RelV y v) (hs : Ans sp x y H r) :
    wpAny (model X.prog X.w) A (richCompare .Eq v u) (Told X pins σ H r) X.xe s := by
  obtain ⟨f, fd, ps, F, hb, O⟩ := E.ex
  obtain ⟨a, dx, fs, rfl, ha⟩ := hx
  cases ru
  have XK := I.kIn
  obtain ⟨_, _, _, hx, _⟩ := (show ObjOk X.prog X.w H s.heap a (.ins C dx fs) from I.hok a _ ha)
  obtain ⟨mA, J, _⟩ := ins_get I.hok ha
  obtain ⟨od, J, _⟩ := J.look
  cases hy with
  | non =>
    cases (show v = Value.none from rv)
    exact rc_eqR F hb O sb I ha (y := .non) rfl rfl (by decide) PySem.F.slot_NoneType_eq dec_none hs
  | int i =>
    obtain ⟨t, rfl⟩ := (show ∃ t, v = Value.int i t from rv)
    exact rc_eqR F hb O sb I ha (y := .int i) ⟨t, rfl⟩ (typeIs_int s i t) (by decide) PySem.F.slot_int_eq (dec_int hx) hs
  | str z =>
    obtain ⟨t, rfl⟩ := (show ∃ t, v = Value.str z t from rv)
    exact rc_eqR F hb O sb I ha (y := .str z) ⟨t, rfl⟩ (typeIs_str s z t) (by decide) PySem.F.slot_str_eq (dec_str hx) hs
  | bl b =>
    cases (show v = Value.bool b from rv)
    exact rc_eqR F hb O sb I ha (y := .bl b) rfl rfl (by decide) PySem.F.slot_bool_eq (dec_bool hx) hs
  | @tup t xs h =>
    cases (show v = Value.ref t from rv)
    obtain ⟨_, its, _, o, e, c, _⟩ := (show ObjOk X.prog X.w H s.heap t (.tup xs) from I.hok t _ h)
    have ht : s.TypeIs (.ref t) "tuple" := ⟨o, e, c⟩
    exact rc_eqR F hb O sb I ha (y := .ref t) rfl ht (by decide) PySem.F.slot_tuple_eq (dec_tuple ht XK J (O.no "tuple" (by decide)).1) hs
  | @lst t xs h =>
    cases (show v = Value.ref t from rv)
    obtain ⟨_, its, k, _, e⟩ := (show ObjOk X.prog X.w H s.heap t (.lst xs) from I.hok t _ h)
    have ht : s.TypeIs (.ref t) "list" := ⟨_, e, rfl⟩
    exact rc_eqR F hb O sb I ha (y := .ref t) rfl ht (by decide) PySem.F.slot_list_eq (dec_list ht XK J (O.no "list" (by decide)).1) hs
/-- == inside a builtin, of two things that are not one -/
theorem eqB {u v : Value} {r : Bool} (hne : (u == v) = false) (hf : ∀ b t, u ≠ .float b t) (h : wpAny (model X.prog X.w) A (richCompare .Eq u v) (Told X pins σ H r) X.xe s) : wpAny (model X.prog X.w) A (eqBool u v) (fun b s' => b = r ∧ Inv X pins σ H s') X.xe s := by
  unfold eqBool
  refine wpAny_holding ?_
  rw [hne]
  simp only [Bool.false_eq_true, if_false]
  have fin : wpAny (model X.prog X.w) A (richCompare .Eq u v >>= fun w => truthOfDropped w) (fun b s' => b = r ∧ Inv X pins σ H s') X.xe s := by
    refine wpAny_bind (wpAny_mono h (fun w s' q => ?_) fun _ _ x => x)
    obtain ⟨rfl, I'⟩ := q
    exact wpAny_truthy_bool ⟨rfl, I'⟩
  cases u <;> first | exact fin | exact absurd rfl (hf _ _)
def rEqF (C : Addr) (sp : Sp) : R2 := fun x y H Q => ∃ r, ((IsF C H x ∧ Fo C H y ∧ Ans sp x y H r) ∨ (Odd H x ∧ IsF C H y ∧ Ans sp y x H r)) ∧ Q (.bl r) H
theorem op_eqF (E : FEq X.prog X.w X.K X.mg X.base C n sp) (hr : Room n X.A) : OpR X (compareOp .Eq) (rEqF C sp) := by
  intro pins s σ H x y v u Q I rx ry h
  obtain ⟨r, h, q⟩ := h
  show wpAny (model X.prog X.w) X.A (richCompare .Eq v u) (EP X pins σ Q) X.xe s
  have go : wpAny (model X.prog X.w) X.A (richCompare .Eq v u) (Told X pins σ H r) X.xe s := by
    rcases h with ⟨hx, hy, ha⟩ | ⟨hx, hy, ha⟩
    · exact eqL E ⟨hr, rfl⟩ I hx hy rx ry ha
    · exact eqR E ⟨hr, rfl⟩ I hy hx ry rx ha
  refine wpAny_mono go (fun w s' z => ?_) fun _ _ x => x
  obtain ⟨rfl, I'⟩ := z
  exact ⟨.bl r, H, I', rfl, q⟩
def rNeF (C : Addr) (sp : Sp) : R2 := fun x y H Q => ∃ r, IsF C H x ∧ Fo C H y ∧ Ans sp x y H r ∧ Q (.bl (!r)) H
theorem op_neF (E : FEq X.prog X.w X.K X.mg X.base C n sp) (hr : Room (n + 1) X.A) : OpR X (compareOp .NotEq) (rNeF C sp) := by
  intro pins s σ H x y v u Q I rx ry h
  obtain ⟨r, hx, hy, ha, q⟩ := h
  show wpAny (model X.prog X.w) X.A (richCompare .NotEq v u) (EP X pins σ Q) X.xe s
  refine wpAny_mono (neL E ⟨hr, rfl⟩ I hx hy rx ry ha) (fun w s' z => ?_) fun _ _ x => x
  obtain ⟨rfl, I'⟩ := z
  exact ⟨.bl (!r), H, I', rfl, q⟩
theorem odd_nofloat {y : V} {v : Value} (o : Odd H y) (rv : RelV y v) : (∀ b t, v ≠ .float b t) ∧ ∀ a, y ≠ .ref a → (v == .ref a) = false := by
  cases o with
  | non => cases (show v = Value.none from rv); exact ⟨(fun _ _ h => nomatch h), fun _ _ => rfl⟩
  | int i => obtain ⟨t, rfl⟩ := (show ∃ t, v = Value.int i t from rv); exact ⟨(fun _ _ h => nomatch h), fun _ _ => rfl⟩
  | str z => obtain ⟨t, rfl⟩ := (show ∃ t, v = Value.str z t from rv); exact ⟨(fun _ _ h => nomatch h), fun _ _ => rfl⟩
  | bl b => cases (show v = Value.bool b from rv); exact ⟨(fun _ _ h => nomatch h), fun _ _ => rfl⟩
  | @tup t xs h => cases (show v = Value.ref t from rv); exact ⟨(fun _ _ h => nomatch h), fun a hn => beq_eq_false_iff_ne.mpr fun e => hn (by injection e with e; rw [e])⟩
  | @lst t xs h => cases (show v = Value.ref t from rv); exact ⟨(fun _ _ h => nomatch h), fun a hn => beq_eq_false_iff_ne.mpr fun e => hn (by injection e with e; rw [e])⟩
def rInF (C : Addr) (sp : Sp) : R2 := fun x y H Q => ∃ (l : Addr) (z : V) (r : Bool), y = .ref l ∧ H l = some (.lst [z]) ∧ IsF C H x ∧ z ≠ x ∧ ((IsF C H z ∧ Ans sp z x H r) ∨ (Odd H z ∧ Ans sp x z H r)) ∧ Q (.bl r) H
theorem op_inF (E : FEq X.prog X.w X.K X.mg X.base C n sp) (hr : Room (n + 1) X.A) : OpR X (compareOp .In) (rInF C sp) := by
  intro pins s σ H x y v u Q I rx ry h
  obtain ⟨l, z, r, rfl, hl, hx, hne, h, q⟩ := h
  cases ry
  have sb : Sub X (n + 1) X.A := ⟨hr, rfl⟩
  refine wpAny_mono (in_one (r := r) I hl fun w rw' => ?_) (fun w s' z => ?_) fun _ _ x => x
  · rcases h with ⟨hz, ha⟩ | ⟨hz, ha⟩
    · refine eqB ?_ ?_ (eqL E sb.in1 I hz (.inr hx) rw' rx ha)
      · obtain ⟨b, _, _, rfl, _⟩ := id hz
        obtain ⟨a, _, _, rfl, _⟩ := id hx
        cases rw'
        cases rx
        exact beq_eq_false_iff_ne.mpr fun e => hne (by injection e with e; rw [e])
      · obtain ⟨b, _, _, rfl, _⟩ := id hz
        cases rw'
        exact fun _ _ h => nomatch h
    · obtain ⟨h1, h2⟩ := odd_nofloat hz rw'
      refine eqB ?_ h1 (eqR E sb.in1 I hx hz rx rw' ha)
      obtain ⟨a, _, _, rfl, _⟩ := id hx
      cases rx
      exact h2 a hne
  · obtain ⟨rfl, I'⟩ := z
    exact ⟨.bl r, H, I', rfl, q⟩
/-- (0, face) == (0, face), where the two are equal -/
def rPairF (C : Addr) (sp : Sp) : R2 := fun x y H Q => ∃ (p q : Addr) (a b : V), x = .ref p ∧ y = .ref q ∧ H p = some (.tup [.int 0, a]) ∧ H q = some (.tup [.int 0, b]) ∧ a ≠ b ∧ IsF C H a ∧ IsF C H b ∧ Ans sp a b H true ∧ Q (.bl true) H
theorem op_pairF (E : FEq X.prog X.w X.K X.mg X.base C n sp) (hr : Room (n + 1) X.A) : OpR X (compareOp .Eq) (rPairF C sp) := by
  intro pins s σ H x y v u Q I rx ry h
  obtain ⟨p, q, a, b, rfl, rfl, hp, hq, hne, ha, hb, hs, k⟩ := h
  cases rx
  cases ry
  have sb : Sub X (n + 1) X.A := ⟨hr, rfl⟩
  obtain ⟨_, its, rv, pl⟩ := (show ObjOk X.prog X.w H s.heap p (.tup [.int 0, a]) from I.hok p _ hp)
  obtain ⟨_, its2, rv2, pl2⟩ := (show ObjOk X.prog X.w H s.heap q (.tup [.int 0, b]) from I.hok q _ hq)
  cases rv with
  | cons r1 rr =>
    cases rr with
    | cons r2 rr =>
      cases rr
      cases rv2 with
      | cons r3 rr =>
        cases rr with
        | cons r4 rr =>
          cases rr
          obtain ⟨t1, rfl⟩ := r1
          obtain ⟨t2, rfl⟩ := r3
          rename_i u1 u2
          show wpAny (model X.prog X.w) X.A (richCompare .Eq (.ref p) (.ref q)) (EP X pins σ Q) X.xe s
          refine GQ.rc_tupG (items := #[.int 0 t1, u1]) (items2 := #[.int 0 t2, u2]) rfl sb.room.units0 (fun _ s' => Inv X pins σ H s') pl pl2 (fun i h1 h2 s' I' => ?_) (fun s' I' => ⟨.bl true, H, I', rfl, k⟩) I
          match i, h1 with
          | 0, _ => exact wpAny_eqBool_int ⟨rfl, I'⟩
          | 1, _ =>
            refine eqB ?_ ?_ (eqL E sb.in1 I' ha (.inr hb) r2 r4 hs)
            · obtain ⟨a', _, _, rfl, _⟩ := id ha
              obtain ⟨b', _, _, rfl, _⟩ := id hb
              cases r2
              cases r4
              exact beq_eq_false_iff_ne.mpr fun e => hne (by injection e with e; rw [e])
            · obtain ⟨a', _, _, rfl, _⟩ := id ha
              cases r2
              exact fun _ _ h => nomatch h
/-! ### repr by the class's own __repr__ -/
structure FRepr (P : Program) (w : World) (K : PySem.W.Frag) (mg : Str → Option Value) (base : Heap) (C : Addr) (n : Nat) (sp : Sp) : Prop where
  ex : ∃ (f : Addr) (fd : FuncData) (ps : List Str), FnOk P w K mg base CX0 n f fd ps sp ∧ Binds K fd ps [] ∧ PySem.W.findIn K (.ref C) "__repr__" = some (some (.ref f)) ∧ PySem.W.isFn K (.ref f) = true
def rRepr (C : Addr) (sp : Sp) : List V → Hp → VK → Prop := fun xs H Q => ∃ (x : V) (z : Str), xs = [x] ∧ IsF C H x ∧ z.length ≤ sizeLine ∧ sp [x] H (fun v H' => v = .str z ∧ H' = H) E0 ∧ Q (.str z) H
theorem call_reprF (E : FRepr X.prog X.w X.K X.mg X.base C n sp) (hr : Room (n + 1) X.A) : CallR X (.builtin "repr") (rRepr C sp) := by
  intro pins s σ H xs us Q I r h
  obtain ⟨x, z, rfl, ⟨a, dx, fs, rfl, ha⟩, hz, hs, q⟩ := h
  obtain ⟨u, rfl, rx⟩ := vals1 r
  cases rx
  obtain ⟨f, fd, ps, F, hb, he, hf⟩ := E.ex
  have sb : Sub X (n + 1) X.A := ⟨hr, rfl⟩
  obtain ⟨mA, J, _⟩ := ins_get I.hok ha
  obtain ⟨od, J, _⟩ := J.look
  obtain ⟨m, hF⟩ := I.fr
  refine PySem.W.repr_K sb.in1.room.units0 hF I.ok.mod.kin J he hf (wpAny_mono (own_call (vs := [.ref a]) F hb sb.in1 I (.cons rfl .nil) hs) (fun u s' w => ?_) fun _ _ x => x)
  obtain ⟨v, H', I', rv, rfl, rfl⟩ := w
  obtain ⟨t, rfl⟩ := rv
  exact ⟨.str z, H', I', ⟨t, rfl⟩, q⟩
def tFmtF (C : Addr) (sp : Sp) (te : TE) : TE := fun σ H Q => te σ H fun x H1 => rRepr C sp [x] H1 Q
theorem pe_fmtF {e : Expr} {te : TE} {pos : Pos} (E : FRepr X.prog X.w X.K X.mg X.base C n sp) (hr : Room n X.A) (he : PE X e te) : PE X (.FormattedValue e 114 none pos) (tFmtF C sp te) := by
  refine ⟨fun pins s σ H Q I h => ?_⟩
  refine wpAny_FormattedValue_repr (thn (he.run pins s σ H _ I h) fun v s1 hv => ?_)
  obtain ⟨x, H1, I1, r1, y, z, ey, ⟨a, dx, fs, ex, ha⟩, hz, hs, q⟩ := hv
  cases ey
  subst ex
  cases r1
  obtain ⟨f, fd, ps, F, hb, hfind, hf⟩ := E.ex
  have sb : Sub X n X.A := ⟨hr, rfl⟩
  obtain ⟨mA, J, _⟩ := ins_get I1.hok ha
  obtain ⟨od, J, _⟩ := J.look
  have XK := I1.kIn
  unfold pyReprObj
  refine wpAny_bind (wpAny_cRoomFor sb.room.units0 ?_)
  refine wpAny_bind (wpAny_bind (J.type.here ((PySem.W.looks_findIn XK hfind).here ?_)))
  (show wpAny _ _ (if (some (Value.ref f)).isNone = true then _ else _) _ _ _; rw [if_neg (by simp)])
  refine wpAny_bind (m := callSpecialIfBound? (.ref a) (Str.ofString "__repr__") []) (PySem.W.ifBound_K XK J hfind hf (wpAny_mono (own_call (vs := [.ref a]) F hb sb I1 (.cons rfl .nil) hs) (fun u s' w => ?_) fun _ _ x => x))
  obtain ⟨v, H', I', rv, rfl, rfl⟩ := w
  obtain ⟨t, rfl⟩ := rv
  refine wpAny_bind (wpAny_isInstance (T := "str") (b := true) (typeIs_str _ _ _) isSubtype_str_str ?_)
  exact wpAny_pure (wpAny_formatField_str ⟨.str z, H', I', ⟨_, rfl⟩, q⟩ ⟨.str z, H', I'.tok _, ⟨_, rfl⟩, q⟩ hz)
end
end Fh

set_option Elab.async false
set_option linter.all false
set_option maxRecDepth 100000
set_option maxHeartbeats 4000000
namespace Fh
open PySem L2 PyProof.Rows
abbrev sInit : Stmt := inClass (top 1) 0
abbrev sEq : Stmt := inClass (top 1) 1
abbrev sRepr : Stmt := inClass (top 1) 2
/-! ### a letter's attributes -/
def lf (v1 v2 v3 v4 v5 v6 v7 v8 v9 : V) : List (Str × V) := putF "body" v9 (putF "call" v8 (putF "edition" v7 (putF "face" v6 (putF "key" v5 (putF "goal" v4 (putF "sender" v3 (putF "way" v2 (putF "number" v1 []))))))))
section
variable {v1 v2 v3 v4 v5 v6 v7 v8 v9 : V}
theorem lf_number : (lf v1 v2 v3 v4 v5 v6 v7 v8 v9).lookup ("number" : Str) = some v1 := by
  unfold lf
  rw [lookup_putF, if_neg (by decide +kernel), lookup_putF, if_neg (by decide +kernel), lookup_putF, if_neg (by decide +kernel), lookup_putF, if_neg (by decide +kernel), lookup_putF, if_neg (by decide +kernel), lookup_putF, if_neg (by decide +kernel), lookup_putF, if_neg (by decide +kernel), lookup_putF, if_neg (by decide +kernel), lookup_putF, if_pos rfl]
theorem lf_way : (lf v1 v2 v3 v4 v5 v6 v7 v8 v9).lookup ("way" : Str) = some v2 := by
  unfold lf
  rw [lookup_putF, if_neg (by decide +kernel), lookup_putF, if_neg (by decide +kernel), lookup_putF, if_neg (by decide +kernel), lookup_putF, if_neg (by decide +kernel), lookup_putF, if_neg (by decide +kernel), lookup_putF, if_neg (by decide +kernel), lookup_putF, if_neg (by decide +kernel), lookup_putF, if_pos rfl]
theorem lf_sender : (lf v1 v2 v3 v4 v5 v6 v7 v8 v9).lookup ("sender" : Str) = some v3 := by
  unfold lf
  rw [lookup_putF, if_neg (by decide +kernel), lookup_putF, if_neg (by decide +kernel), lookup_putF, if_neg (by decide +kernel), lookup_putF, if_neg (by decide +kernel), lookup_putF, if_neg (by decide +kernel), lookup_putF, if_neg (by decide +kernel), lookup_putF, if_pos rfl]
theorem lf_goal : (lf v1 v2 v3 v4 v5 v6 v7 v8 v9).lookup ("goal" : Str) = some v4 := by
  unfold lf
  rw [lookup_putF, if_neg (by decide +kernel), lookup_putF, if_neg (by decide +kernel), lookup_putF, if_neg (by decide +kernel), lookup_putF, if_neg (by decide +kernel), lookup_putF, if_neg (by decide +kernel), lookup_putF, if_pos rfl]
theorem lf_key : (lf v1 v2 v3 v4 v5 v6 v7 v8 v9).lookup ("key" : Str) = some v5 := by
  unfold lf
  rw [lookup_putF, if_neg (by decide +kernel), lookup_putF, if_neg (by decide +kernel), lookup_putF, if_neg (by decide +kernel), lookup_putF, if_neg (by decide +kernel), lookup_putF, if_pos rfl]
theorem lf_face : (lf v1 v2 v3 v4 v5 v6 v7 v8 v9).lookup ("face" : Str) = some v6 := by
  unfold lf
  rw [lookup_putF, if_neg (by decide +kernel), lookup_putF, if_neg (by decide +kernel), lookup_putF, if_neg (by decide +kernel), lookup_putF, if_pos rfl]
theorem lf_edition : (lf v1 v2 v3 v4 v5 v6 v7 v8 v9).lookup ("edition" : Str) = some v7 := by
  unfold lf
  rw [lookup_putF, if_neg (by decide +kernel), lookup_putF, if_neg (by decide +kernel), lookup_putF, if_pos rfl]
theorem lf_call : (lf v1 v2 v3 v4 v5 v6 v7 v8 v9).lookup ("call" : Str) = some v8 := by
  unfold lf
  rw [lookup_putF, if_neg (by decide +kernel), lookup_putF, if_pos rfl]
theorem lf_body : (lf v1 v2 v3 v4 v5 v6 v7 v8 v9).lookup ("body" : Str) = some v9 := by
  unfold lf
  rw [lookup_putF, if_pos rfl]
end
/-- what the class is in the text -/
structure ClsL (K : PySem.W.Frag) (mg : Str → Option Value) (C : Addr) : Prop where
  cl : Cls K C
  n1 : NoAttr K C "number"
  n2 : NoAttr K C "way"
  n3 : NoAttr K C "sender"
  n4 : NoAttr K C "goal"
  n5 : NoAttr K C "key"
  n6 : NoAttr K C "face"
  n7 : NoAttr K C "edition"
  n8 : NoAttr K C "call"
  n9 : NoAttr K C "body"
  mgC : mg "Letter" = some (.ref C)
  isi : mg "isinstance" = none
  me : PySem.W.kitOne K (.ref C) (.ref C) = some true
  ins : C8.InsC K C
  no : ∀ T ∈ ["NoneType", "tuple", "list", "str", "int", "bool"], PySem.W.kitOne K (.type T) (.ref C) = some false
/-- a letter of these nine parts stands at a -/
def LetD (C : Addr) (H : Hp) (a : Addr) (ds : List PyData) : Prop := ∃ (dx : Addr) (v1 v2 v3 v4 v5 v6 v7 v8 v9 : V), H a = some (.ins C dx (lf v1 v2 v3 v4 v5 v6 v7 v8 v9)) ∧ TpAll H [v1, v2, v3, v4, v5, v6, v7, v8, v9] ds
theorem LetD.same {C : Addr} {H H' : Hp} {a : Addr} {ds : List PyData} (h : LetD C H a ds) (k : Same H H') : LetD C H' a ds := by
  obtain ⟨dx, v1, v2, v3, v4, v5, v6, v7, v8, v9, e, p⟩ := h
  exact ⟨dx, v1, v2, v3, v4, v5, v6, v7, v8, v9, k a _ e, TpAll.keep (Same.tk k) _ _ p⟩
theorem LetD.isF {C : Addr} {H : Hp} {a : Addr} {ds : List PyData} (h : LetD C H a ds) : IsF C H (.ref a) := let ⟨dx, v1, v2, v3, v4, v5, v6, v7, v8, v9, e, _⟩ := h; ⟨a, dx, _, rfl, e⟩
def ShAll (ds : List PyData) : Prop := ∀ d ∈ ds, SeqAt.shaped d = true
def spEqL (C : Addr) : Sp := fun vs H Q _ => ∃ (a : Addr) (y : V) (r : Bool), vs = [.ref a, y] ∧
  ((∃ (b : Addr) (ds es : List PyData), y = .ref b ∧ LetD C H a ds ∧ LetD C H b es ∧ ShAll ds ∧ ShAll es ∧ r = PyData.eqvAll ds es) ∨ (Odd H y ∧ r = false)) ∧ Q (.bl r) H
def letText (i : Int) : Str := ("Letter(" ++ toString i) ++ ")"
def spReprL (C : Addr) : Sp := fun vs H Q _ => ∃ (a : Addr) (i : Int) (ds : List PyData), vs = [.ref a] ∧ LetD C H a (.int i :: ds) ∧ 0 ≤ i ∧ i ≤ 1001 ∧ Q (.str (letText i)) H
def spInitL (C : Addr) : Sp := fun vs H Q _ => ∃ (x dx : Addr) (v1 v2 v3 v4 v5 v6 v7 v8 v9 : V), vs = [.ref x, v1, v2, v3, v4, v5, v6, v7, v8, v9] ∧ H x = some (.ins C dx []) ∧ Q .non (upd H x (.ins C dx (lf v1 v2 v3 v4 v5 v6 v7 v8 v9)))
section
variable {P : Program} {w : World} {K : PySem.W.Frag} {mg : Str → Option Value} {base : Heap}
theorem scEq : FnScope ["self", "other"] ["self", "other"] (defScope sEq) := ⟨rfl, rfl, rfl, by decide +kernel, rfl, by decide +kernel, by decide +kernel⟩
theorem scRepr : FnScope ["self"] ["self"] (defScope sRepr) := ⟨rfl, rfl, rfl, by decide +kernel, rfl, by decide +kernel, by decide +kernel⟩
abbrev pInit : List Str := ["self", "number", "way", "sender", "goal", "key", "face", "edition", "call", "body"]
theorem scInit : FnScope pInit pInit (defScope sInit) := ⟨rfl, rfl, rfl, by decide +kernel, rfl, by decide +kernel, by decide +kernel⟩
theorem len1 {f : Str} {v : V} {fs : List (Str × V)} {n : Nat} (h : fs.length ≤ n) : (putF f v fs).length ≤ n + 1 := Nat.le_trans (putF_len f v fs) (Nat.succ_le_succ h)
theorem ok_init {f C : Addr} {fd : FuncData} {kws : List (Str × V)} (F : FunD K "__init__" "Letter.__init__" (defArgs sInit) (defBody sInit) (defScope sInit) [] kws f fd) (T : ClsL K mg C) : FnOk P w K mg base CX0 1 f fd pInit (spInitL C) := by
  refine F.ok scInit (fun vs H Q E h => ?_) (fun cdv A outer s H vs Q E hr h => ?_)
  · obtain ⟨x, dx, v1, v2, v3, v4, v5, v6, v7, v8, v9, rfl, _⟩ := h
    rfl
  · obtain ⟨x, dx, v1, v2, v3, v4, v5, v6, v7, v8, v9, rfl, hx, k⟩ := h
    refine ⟨_, PSs.nox (pss_cons (ps_fld (pv 0) (pv 1) rfl) (pss_cons (ps_fld (pv 0) (pv 2) rfl) (pss_cons (ps_fld (pv 0) (pv 3) rfl) (pss_cons (ps_fld (pv 0) (pv 4) rfl) (pss_cons (ps_fld (pv 0) (pv 5) rfl) (pss_cons (ps_fld (pv 0) (pv 6) rfl) (pss_cons (ps_fld (pv 0) (pv 7) rfl) (pss_cons (ps_fld (pv 0) (pv 8) rfl) (pss_one (ps_fld (pv 0) (pv 9) rfl)))))))))), ?_⟩
    have l0 : ([] : List (Str × V)).length ≤ 0 := Nat.le_refl _
    refine ⟨_, rfl, _, rfl, x, C, dx, _, rfl, hx, T.cl, T.n1, (by show 0 < 1000; decide), ?_⟩
    refine ⟨_, rfl, _, rfl, x, C, dx, _, rfl, upd_same, T.cl, T.n2, Nat.lt_of_le_of_lt (len1 l0) (by decide), ?_⟩
    refine ⟨_, rfl, _, rfl, x, C, dx, _, rfl, upd_same, T.cl, T.n3, Nat.lt_of_le_of_lt (len1 (len1 l0)) (by decide), ?_⟩
    refine ⟨_, rfl, _, rfl, x, C, dx, _, rfl, upd_same, T.cl, T.n4, Nat.lt_of_le_of_lt (len1 (len1 (len1 l0))) (by decide), ?_⟩
    refine ⟨_, rfl, _, rfl, x, C, dx, _, rfl, upd_same, T.cl, T.n5, Nat.lt_of_le_of_lt (len1 (len1 (len1 (len1 l0)))) (by decide), ?_⟩
    refine ⟨_, rfl, _, rfl, x, C, dx, _, rfl, upd_same, T.cl, T.n6, Nat.lt_of_le_of_lt (len1 (len1 (len1 (len1 (len1 l0))))) (by decide), ?_⟩
    refine ⟨_, rfl, _, rfl, x, C, dx, _, rfl, upd_same, T.cl, T.n7, Nat.lt_of_le_of_lt (len1 (len1 (len1 (len1 (len1 (len1 l0)))))) (by decide), ?_⟩
    refine ⟨_, rfl, _, rfl, x, C, dx, _, rfl, upd_same, T.cl, T.n8, Nat.lt_of_le_of_lt (len1 (len1 (len1 (len1 (len1 (len1 (len1 l0))))))) (by decide), ?_⟩
    refine ⟨_, rfl, _, rfl, x, C, dx, _, rfl, upd_same, T.cl, T.n9, Nat.lt_of_le_of_lt (len1 (len1 (len1 (len1 (len1 (len1 (len1 (len1 l0)))))))) (by decide), ?_⟩
    have e : upd (upd (upd (upd (upd (upd (upd (upd (upd H x (.ins C dx (putF "number" v1 []))) x (.ins C dx (putF "way" v2 (putF "number" v1 [])))) x (.ins C dx (putF "sender" v3 (putF "way" v2 (putF "number" v1 []))))) x (.ins C dx (putF "goal" v4 (putF "sender" v3 (putF "way" v2 (putF "number" v1 [])))))) x (.ins C dx (putF "key" v5 (putF "goal" v4 (putF "sender" v3 (putF "way" v2 (putF "number" v1 []))))))) x (.ins C dx (putF "face" v6 (putF "key" v5 (putF "goal" v4 (putF "sender" v3 (putF "way" v2 (putF "number" v1 [])))))))) x (.ins C dx (putF "edition" v7 (putF "face" v6 (putF "key" v5 (putF "goal" v4 (putF "sender" v3 (putF "way" v2 (putF "number" v1 []))))))))) x (.ins C dx (putF "call" v8 (putF "edition" v7 (putF "face" v6 (putF "key" v5 (putF "goal" v4 (putF "sender" v3 (putF "way" v2 (putF "number" v1 [])))))))))) x (.ins C dx (lf v1 v2 v3 v4 v5 v6 v7 v8 v9)) = upd H x (.ins C dx (lf v1 v2 v3 v4 v5 v6 v7 v8 v9)) := by
      rw [upd_upd, upd_upd, upd_upd, upd_upd, upd_upd, upd_upd, upd_upd, upd_upd]
    rw [← e] at k
    exact k
theorem DpAll.nine {H : Hp} {v1 v2 v3 v4 v5 v6 v7 v8 v9 : V} {ds : List PyData} (h : DpAll K H [v1, v2, v3, v4, v5, v6, v7, v8, v9] ds) : ∃ d1 d2 d3 d4 d5 d6 d7 d8 d9, ds = [d1, d2, d3, d4, d5, d6, d7, d8, d9] ∧ Dp K H v1 d1 ∧ Dp K H v2 d2 ∧ Dp K H v3 d3 ∧ Dp K H v4 d4 ∧ Dp K H v5 d5 ∧ Dp K H v6 d6 ∧ Dp K H v7 d7 ∧ Dp K H v8 d8 ∧ Dp K H v9 d9 := by
  cases h with
  | cons h1 h =>
    cases h with
    | cons h2 h =>
      cases h with
      | cons h3 h =>
        cases h with
        | cons h4 h =>
          cases h with
          | cons h5 h =>
            cases h with
            | cons h6 h =>
              cases h with
              | cons h7 h =>
                cases h with
                | cons h8 h =>
                  cases h with
                  | cons h9 h =>
                    cases h
                    exact ⟨_, _, _, _, _, _, _, _, _, rfl, h1, h2, h3, h4, h5, h6, h7, h8, h9⟩
theorem ok_eq {f C : Addr} {fd : FuncData} (F : Fun K "__eq__" "Letter.__eq__" sEq f fd) (T : ClsL K mg C) : FnOk P w K mg base CX0 1 f fd ["self", "other"] (spEqL C) := by
  refine F.ok scEq (fun vs H Q E h => ?_) (fun cdv A outer s H vs Q E hr h => ?_)
  · obtain ⟨a, y, r, rfl, _⟩ := h
    rfl
  · obtain ⟨a, y, r, rfl, hh, q⟩ := h
    refine ⟨_, pss_one (ps_ret (pe_and (pe_callB call_isi (by rfl) T.isi (by decide +kernel) (pa_cons (pv 1) (pa_cons (pe_glob (v := .ref C) rfl T.mgC rfl) pa_nil))) (pe_and (pe_cmpR (op_eqD hr.units) (pe_fld (pv 0) rfl) (pe_fld (pv 1) rfl) (nomark _)) (pe_and (pe_cmpR (op_eqD hr.units) (pe_fld (pv 0) rfl) (pe_fld (pv 1) rfl) (nomark _)) (pe_and (pe_cmpR (op_eqD hr.units) (pe_fld (pv 0) rfl) (pe_fld (pv 1) rfl) (nomark _)) (pe_and (pe_cmpR (op_eqD hr.units) (pe_fld (pv 0) rfl) (pe_fld (pv 1) rfl) (nomark _)) (pe_and (pe_cmpR (op_eqD hr.units) (pe_fld (pv 0) rfl) (pe_fld (pv 1) rfl) (nomark _)) (pe_and (pe_cmpR (op_eqD hr.units) (pe_fld (pv 0) rfl) (pe_fld (pv 1) rfl) (nomark _)) (pe_and (pe_cmpR (op_eqD hr.units) (pe_fld (pv 0) rfl) (pe_fld (pv 1) rfl) (nomark _)) (pe_and (pe_cmpR (op_eqD hr.units) (pe_fld (pv 0) rfl) (pe_fld (pv 1) rfl) (nomark _)) (pe_one (pe_cmpR (op_eqD hr.units) (pe_fld (pv 0) rfl) (pe_fld (pv 1) rfl) (nomark _))))))))))))), ?_⟩
    rcases hh with ⟨b, ds, es, rfl, ⟨dx, v1, v2, v3, v4, v5, v6, v7, v8, v9, ha, hd⟩, ⟨dy, w1, w2, w3, w4, w5, w6, w7, w8, w9, hb, he⟩, sd, se, rfl⟩ | ⟨ho, rfl⟩
    · obtain ⟨d1, d2, d3, d4, d5, d6, d7, d8, d9, rfl, p1, p2, p3, p4, p5, p6, p7, p8, p9⟩ := DpAll.nine (TpAll.dp (K := K) _ _ hd)
      obtain ⟨e1, e2, e3, e4, e5, e6, e7, e8, e9, rfl, q1, q2, q3, q4, q5, q6, q7, q8, q9⟩ := DpAll.nine (TpAll.dp (K := K) _ _ he)
      refine ⟨_, rfl, _, _, .ref C, .ref C, true, rfl, .own C, .base (.ins hb T.cl T.ins.ha T.ins.hn T.ins.htk T.ins.hm), T.me, true, rfl, iteT ?_⟩
      have er : PyData.eqvAll [d1, d2, d3, d4, d5, d6, d7, d8, d9] [e1, e2, e3, e4, e5, e6, e7, e8, e9] = (PyData.eqv d1 e1 && (PyData.eqv d2 e2 && (PyData.eqv d3 e3 && (PyData.eqv d4 e4 && (PyData.eqv d5 e5 && (PyData.eqv d6 e6 && (PyData.eqv d7 e7 && (PyData.eqv d8 e8 && PyData.eqv d9 e9)))))))) := by
        show (PyData.eqv d1 e1 && (PyData.eqv d2 e2 && (PyData.eqv d3 e3 && (PyData.eqv d4 e4 && (PyData.eqv d5 e5 && (PyData.eqv d6 e6 && (PyData.eqv d7 e7 && (PyData.eqv d8 e8 && (PyData.eqv d9 e9 && true))))))))) = _
        rw [Bool.and_true]
      rw [er] at q
      refine ⟨_, rfl, a, C, dx, _, _, rfl, ha, T.cl, T.n1, lf_number, _, rfl, b, C, dy, _, _, rfl, hb, T.cl, T.n1, lf_number, d1, e1, p1, q1, sd _ (by simp), se _ (by simp), _, rfl, ?_⟩
      cases h1 : PyData.eqv d1 e1 with
      | false => rw [h1] at q; exact iteF q
      | true =>
      rw [h1] at q
      refine iteT ?_
      refine ⟨_, rfl, a, C, dx, _, _, rfl, ha, T.cl, T.n2, lf_way, _, rfl, b, C, dy, _, _, rfl, hb, T.cl, T.n2, lf_way, d2, e2, p2, q2, sd _ (by simp), se _ (by simp), _, rfl, ?_⟩
      cases h2 : PyData.eqv d2 e2 with
      | false => rw [h2] at q; exact iteF q
      | true =>
      rw [h2] at q
      refine iteT ?_
      refine ⟨_, rfl, a, C, dx, _, _, rfl, ha, T.cl, T.n3, lf_sender, _, rfl, b, C, dy, _, _, rfl, hb, T.cl, T.n3, lf_sender, d3, e3, p3, q3, sd _ (by simp), se _ (by simp), _, rfl, ?_⟩
      cases h3 : PyData.eqv d3 e3 with
      | false => rw [h3] at q; exact iteF q
      | true =>
      rw [h3] at q
      refine iteT ?_
      refine ⟨_, rfl, a, C, dx, _, _, rfl, ha, T.cl, T.n4, lf_goal, _, rfl, b, C, dy, _, _, rfl, hb, T.cl, T.n4, lf_goal, d4, e4, p4, q4, sd _ (by simp), se _ (by simp), _, rfl, ?_⟩
      cases h4 : PyData.eqv d4 e4 with
      | false => rw [h4] at q; exact iteF q
      | true =>
      rw [h4] at q
      refine iteT ?_
      refine ⟨_, rfl, a, C, dx, _, _, rfl, ha, T.cl, T.n5, lf_key, _, rfl, b, C, dy, _, _, rfl, hb, T.cl, T.n5, lf_key, d5, e5, p5, q5, sd _ (by simp), se _ (by simp), _, rfl, ?_⟩
      cases h5 : PyData.eqv d5 e5 with
      | false => rw [h5] at q; exact iteF q
      | true =>
      rw [h5] at q
      refine iteT ?_
      refine ⟨_, rfl, a, C, dx, _, _, rfl, ha, T.cl, T.n6, lf_face, _, rfl, b, C, dy, _, _, rfl, hb, T.cl, T.n6, lf_face, d6, e6, p6, q6, sd _ (by simp), se _ (by simp), _, rfl, ?_⟩
      cases h6 : PyData.eqv d6 e6 with
      | false => rw [h6] at q; exact iteF q
      | true =>
      rw [h6] at q
      refine iteT ?_
      refine ⟨_, rfl, a, C, dx, _, _, rfl, ha, T.cl, T.n7, lf_edition, _, rfl, b, C, dy, _, _, rfl, hb, T.cl, T.n7, lf_edition, d7, e7, p7, q7, sd _ (by simp), se _ (by simp), _, rfl, ?_⟩
      cases h7 : PyData.eqv d7 e7 with
      | false => rw [h7] at q; exact iteF q
      | true =>
      rw [h7] at q
      refine iteT ?_
      refine ⟨_, rfl, a, C, dx, _, _, rfl, ha, T.cl, T.n8, lf_call, _, rfl, b, C, dy, _, _, rfl, hb, T.cl, T.n8, lf_call, d8, e8, p8, q8, sd _ (by simp), se _ (by simp), _, rfl, ?_⟩
      cases h8 : PyData.eqv d8 e8 with
      | false => rw [h8] at q; exact iteF q
      | true =>
      rw [h8] at q
      refine iteT ?_
      exact ⟨_, rfl, a, C, dx, _, _, rfl, ha, T.cl, T.n9, lf_body, _, rfl, b, C, dy, _, _, rfl, hb, T.cl, T.n9, lf_body, d9, e9, p9, q9, sd _ (by simp), se _ (by simp), q⟩
    · obtain ⟨Ty, hT, ty⟩ := ho.ty (K := K)
      exact ⟨_, rfl, _, _, .type Ty, .ref C, false, rfl, .own C, ty, T.no Ty hT, false, rfl, iteF q⟩
theorem txtN : ∀ n : Nat, n < 1002 → ((toString (n : Int) : String) : Str).length ≤ 4 := by decide +kernel
theorem txt4 {i : Int} (h0 : 0 ≤ i) (h1 : i ≤ 1001) : ((toString i : String) : Str).length ≤ 4 := by
  have e : ((i.toNat : Nat) : Int) = i := by omega
  have := txtN i.toNat (by omega)
  rw [e] at this
  exact this
theorem empty_app (z : Str) : Str.empty ++ z = z := by
  show (⟨#[] ++ z.cps⟩ : Str) = z
  rw [Array.empty_append]
theorem log_lt {i : Int} (h0 : 0 ≤ i) (h1 : i < 2 ^ 40) : i.natAbs.log2 < 1920 := by
  by_cases hz : i.natAbs = 0
  · rw [hz]; decide
  · have h2 : i.natAbs < 2 ^ 40 := by omega
    have := (Nat.log2_lt hz).mpr h2
    omega
theorem ok_repr {f C : Addr} {fd : FuncData} (F : Fun K "__repr__" "Letter.__repr__" sRepr f fd) (T : ClsL K mg C) : FnOk P w K mg base CX0 1 f fd ["self"] (spReprL C) := by
  refine F.ok scRepr (fun vs H Q E h => ?_) (fun cdv A outer s H vs Q E hr h => ?_)
  · obtain ⟨a, i, ds, rfl, _⟩ := h
    rfl
  · obtain ⟨a, i, ds, rfl, ⟨dx, v1, v2, v3, v4, v5, v6, v7, v8, v9, ha, hd⟩, i0, i1, q⟩ := h
    obtain ⟨v, r, ev, tv, _⟩ := TpAll.icons hd
    cases ev
    cases tv
    refine ⟨_, pss_one (ps_ret (pe_joined (.cons pe_str (.cons (pe_fmt (pe_fld (pv 0) rfl)) (.cons pe_str .nil))))), ?_⟩
    have hT := txt4 i0 i1
    have big : ∀ {n : Nat}, n ≤ 30 → n ≤ sizeLine := fun h => Nat.le_trans h (by decide)
    have l1 : ("Letter(" : Str).length = 7 := by decide +kernel
    have l3 : (")" : Str).length = 1 := by decide +kernel
    have l0 : Str.empty.length = 0 := rfl
    refine ⟨_, rfl, big (by rw [app_len]; omega), _, rfl, a, C, dx, _, _, rfl, ha, T.cl, T.n1, lf_number, .inr ⟨_, rfl, log_lt i0 (by omega), _, rfl, big (by rw [app_len, app_len]; omega), _, rfl, big (by rw [app_len, app_len, app_len]; omega), ?_⟩⟩
    show Q (.str (((Str.empty ++ "Letter(") ++ toString i) ++ ")")) H
    rw [empty_app]
    exact q
end
end Fh

set_option Elab.async false
set_option linter.all false
set_option maxRecDepth 100000
set_option maxHeartbeats 4000000
namespace Fh
open PySem L2 PyProof.Rows
abbrev sMade : Stmt := top 10
abbrev sRight : Stmt := top 11
theorem Same.new {H : Hp} {p : Addr} {o : HO} (h : H p = none) : Same H (upd H p o) := fun a u e => by
  rw [upd_ne (ne_of_none e h)]
  exact e
theorem Same.wr {H H1 : Hp} {p : Addr} {o : HO} (s : Same H H1) (h : H p = none) : Same H (upd H1 p o) := fun a u e => by
  rw [upd_ne (ne_of_none e h)]
  exact s a u e
/-! ### a letter made by names, in two orders -/
theorem uncons {α : Type} {l : List α} {n : Nat} (h : l.length = n + 1) : ∃ a r, l = a :: r ∧ r.length = n := by
  cases l with
  | nil => cases h
  | cons a r => exact ⟨a, r, rfl, Nat.succ.inj h⟩
theorem unnil {α : Type} {l : List α} (h : l.length = 0) : l = [] := List.length_eq_zero_iff.mp h
theorem Vals.rev : ∀ {xs : List V} {us : List Value}, Vals xs us → Vals xs.reverse us.reverse
  | _, _, .nil => .nil
  | _, _, .cons a r => by
    rw [List.reverse_cons, List.reverse_cons]
    exact (Vals.rev r).append (.cons a .nil)
abbrev kA : List Str := ["way", "sender", "goal", "key", "face", "edition", "call", "body"]
abbrev kB : List Str := ["body", "call", "edition", "face", "key", "goal", "sender", "way", "number"]
section
variable {P : Program} {w : World} {K : PySem.W.Frag} {mg : Str → Option Value} {base : Heap}
abbrev DInit (K : PySem.W.Frag) (f : Addr) (fd : FuncData) : Prop := Fun K "__init__" "Letter.__init__" sInit f fd
theorem kbA {f : Addr} {fd : FuncData} (F : DInit K f fd) : KBn K fd pInit 2 kA (fun us ws => us ++ ws) (fun vs zs => vs ++ zs) := by
  obtain ⟨oc, od, kV, doc, pm, an, cdv, ct, osl, rfl, lk, hcd⟩ := F.ex
  refine ⟨fun s us ws X l1 l2 => ?_, fun r1 r2 => r1.append r2⟩
  obtain ⟨u0, usr0, rfl, usl0⟩ := uncons (n := 1) l1
  obtain ⟨u1, usr1, rfl, usl1⟩ := uncons (n := 0) usl0
  cases unnil usl1
  obtain ⟨w0, wsr0, rfl, wsl0⟩ := uncons (n := 7) l2
  obtain ⟨w1, wsr1, rfl, wsl1⟩ := uncons (n := 6) wsl0
  obtain ⟨w2, wsr2, rfl, wsl2⟩ := uncons (n := 5) wsl1
  obtain ⟨w3, wsr3, rfl, wsl3⟩ := uncons (n := 4) wsl2
  obtain ⟨w4, wsr4, rfl, wsl4⟩ := uncons (n := 3) wsl3
  obtain ⟨w5, wsr5, rfl, wsl5⟩ := uncons (n := 2) wsl4
  obtain ⟨w6, wsr6, rfl, wsl6⟩ := uncons (n := 1) wsl5
  obtain ⟨w7, wsr7, rfl, wsl7⟩ := uncons (n := 0) wsl6
  cases unnil wsl7
  refine BindsTo.of_eq ?_
  kernel_rfl
theorem kbB {f : Addr} {fd : FuncData} (F : DInit K f fd) : KBn K fd pInit 1 kB (fun us ws => us ++ ws.reverse) (fun vs zs => vs ++ zs.reverse) := by
  obtain ⟨oc, od, kV, doc, pm, an, cdv, ct, osl, rfl, lk, hcd⟩ := F.ex
  refine ⟨fun s us ws X l1 l2 => ?_, fun r1 r2 => r1.append (Vals.rev r2)⟩
  obtain ⟨u0, usr0, rfl, usl0⟩ := uncons (n := 0) l1
  cases unnil usl0
  obtain ⟨w0, wsr0, rfl, wsl0⟩ := uncons (n := 8) l2
  obtain ⟨w1, wsr1, rfl, wsl1⟩ := uncons (n := 7) wsl0
  obtain ⟨w2, wsr2, rfl, wsl2⟩ := uncons (n := 6) wsl1
  obtain ⟨w3, wsr3, rfl, wsl3⟩ := uncons (n := 5) wsl2
  obtain ⟨w4, wsr4, rfl, wsl4⟩ := uncons (n := 4) wsl3
  obtain ⟨w5, wsr5, rfl, wsl5⟩ := uncons (n := 3) wsl4
  obtain ⟨w6, wsr6, rfl, wsl6⟩ := uncons (n := 2) wsl5
  obtain ⟨w7, wsr7, rfl, wsl7⟩ := uncons (n := 1) wsl6
  obtain ⟨w8, wsr8, rfl, wsl8⟩ := uncons (n := 0) wsl7
  cases unnil wsl8
  refine BindsTo.of_eq ?_
  kernel_rfl
structure MkL (P : Program) (w : World) (K : PySem.W.Frag) (mg : Str → Option Value) (base : Heap) (C : Addr) : Prop where
  ex : ∃ (f : Addr) (fd : FuncData), Mk K C f ∧ FnOk P w K mg base CX0 1 f fd pInit (spInitL C) ∧ DInit K f fd
  mgC : mg "Letter" = some (.ref C)
end
def spMade (C : Addr) : Sp := fun vs H Q _ => ∃ (o : Int) (p : Addr) (v1 v2 v3 v4 v5 v6 v7 v8 v9 : V) (ds : List PyData), vs = [.int o, .ref p] ∧ H p = some (.lst [v1, v2, v3, v4, v5, v6, v7, v8, v9]) ∧ TpAll H [v1, v2, v3, v4, v5, v6, v7, v8, v9] ds ∧ ∀ (x : Addr) (H' : Hp), Same H H' → H x = none → LetD C H' x ds → Q (.ref x) H'
theorem made {C : Addr} {H : Hp} {x dx : Addr} {v1 v2 v3 v4 v5 v6 v7 v8 v9 : V} {ds : List PyData} (hx : H x = none) (hdx : H dx = none) (hp : TpAll H [v1, v2, v3, v4, v5, v6, v7, v8, v9] ds) : Same H (upd (upd (upd H dx (.own x)) x (.ins C dx [])) x (.ins C dx (lf v1 v2 v3 v4 v5 v6 v7 v8 v9))) ∧ LetD C (upd (upd (upd H dx (.own x)) x (.ins C dx [])) x (.ins C dx (lf v1 v2 v3 v4 v5 v6 v7 v8 v9))) x ds := by
  have sm : Same H (upd (upd (upd H dx (.own x)) x (.ins C dx [])) x (.ins C dx (lf v1 v2 v3 v4 v5 v6 v7 v8 v9))) := fun b o e => by
    rw [upd_ne (ne_of_none e hx), upd_ne (ne_of_none e hx), upd_ne (ne_of_none e hdx)]
    exact e
  exact ⟨sm, dx, v1, v2, v3, v4, v5, v6, v7, v8, v9, upd_same, TpAll.keep (Same.tk sm) _ _ hp⟩
section
variable {P : Program} {w : World} {K : PySem.W.Frag} {mg : Str → Option Value} {base : Heap}
abbrev pMade : List Str := ["_law_order", "_law_nine"]
theorem scMade : FnScope pMade pMade (defScope sMade) := ⟨rfl, rfl, rfl, by decide +kernel, rfl, by decide +kernel, by decide +kernel⟩
theorem ok_made {f C : Addr} {fd : FuncData} (F : Fun K "_law_made" "_law_made" sMade f fd) (M : MkL P w K mg base C) : FnOk P w K mg base CX0 3 f fd pMade (spMade C) := by
  obtain ⟨fi, fdi, mk, FI, DI⟩ := M.ex
  refine F.ok scMade (fun vs H Q E h => ?_) (fun cdv A outer s H vs Q E hr h => ?_)
  · obtain ⟨o, p, v1, v2, v3, v4, v5, v6, v7, v8, v9, ds, rfl, _⟩ := h
    rfl
  · obtain ⟨o, p, v1, v2, v3, v4, v5, v6, v7, v8, v9, ds, rfl, hp, tp, k⟩ := h
    refine ⟨_, pss_cons (ps_if (pt_cmpR op_eq (pv 0) pe_int (nomark _)) (pss_one (ps_ret (pe_makeK mk FI hr rfl M.mgC (kbA DI) pass0 (pa_cons (pe_ix ix_list (pv 1) pe_int (fun _ _ => rfl)) pa_nil) (pk_cons (pe_ix ix_list (pv 1) pe_int (fun _ _ => rfl)) (pk_cons (pe_ix ix_list (pv 1) pe_int (fun _ _ => rfl)) (pk_cons (pe_ix ix_list (pv 1) pe_int (fun _ _ => rfl)) (pk_cons (pe_ix ix_list (pv 1) pe_int (fun _ _ => rfl)) (pk_cons (pe_ix ix_list (pv 1) pe_int (fun _ _ => rfl)) (pk_cons (pe_ix ix_list (pv 1) pe_int (fun _ _ => rfl)) (pk_cons (pe_ix ix_list (pv 1) pe_int (fun _ _ => rfl)) (pk_cons (pe_ix ix_list (pv 1) pe_int (fun _ _ => rfl)) pk_nil))))))))))) pss_nil)
      (pss_one (ps_ret (pe_makeK0 mk FI hr rfl M.mgC (kbB DI) pass0 (pk_cons (pe_ix ix_list (pv 1) pe_int (fun _ _ => rfl)) (pk_cons (pe_ix ix_list (pv 1) pe_int (fun _ _ => rfl)) (pk_cons (pe_ix ix_list (pv 1) pe_int (fun _ _ => rfl)) (pk_cons (pe_ix ix_list (pv 1) pe_int (fun _ _ => rfl)) (pk_cons (pe_ix ix_list (pv 1) pe_int (fun _ _ => rfl)) (pk_cons (pe_ix ix_list (pv 1) pe_int (fun _ _ => rfl)) (pk_cons (pe_ix ix_list (pv 1) pe_int (fun _ _ => rfl)) (pk_cons (pe_ix ix_list (pv 1) pe_int (fun _ _ => rfl)) (pk_cons (pe_ix ix_list (pv 1) pe_int (fun _ _ => rfl)) pk_nil)))))))))))), ?_⟩
    refine ⟨_, rfl, rfl, _, rfl, ite2 (fun _ => ?_) (fun _ => ?_)⟩
    · refine ⟨_, rfl, p, _, _, _, rfl, rfl, SqL.of hp, rfl, _, rfl, p, _, _, _, rfl, rfl, SqL.of hp, rfl, _, rfl, p, _, _, _, rfl, rfl, SqL.of hp, rfl, _, rfl, p, _, _, _, rfl, rfl, SqL.of hp, rfl, _, rfl, p, _, _, _, rfl, rfl, SqL.of hp, rfl, _, rfl, p, _, _, _, rfl, rfl, SqL.of hp, rfl, _, rfl, p, _, _, _, rfl, rfl, SqL.of hp, rfl, _, rfl, p, _, _, _, rfl, rfl, SqL.of hp, rfl, _, rfl, p, _, _, _, rfl, rfl, SqL.of hp, rfl, rfl, rfl, fun x dx hx hdx hne => ?_⟩
      obtain ⟨sm, fc⟩ := made (C := C) hx hdx tp
      exact ⟨x, dx, v1, v2, v3, v4, v5, v6, v7, v8, v9, rfl, upd_same, rfl, k x _ sm hx fc⟩
    · refine ⟨_, rfl, p, _, _, _, rfl, rfl, SqL.of hp, rfl, _, rfl, p, _, _, _, rfl, rfl, SqL.of hp, rfl, _, rfl, p, _, _, _, rfl, rfl, SqL.of hp, rfl, _, rfl, p, _, _, _, rfl, rfl, SqL.of hp, rfl, _, rfl, p, _, _, _, rfl, rfl, SqL.of hp, rfl, _, rfl, p, _, _, _, rfl, rfl, SqL.of hp, rfl, _, rfl, p, _, _, _, rfl, rfl, SqL.of hp, rfl, _, rfl, p, _, _, _, rfl, rfl, SqL.of hp, rfl, _, rfl, p, _, _, _, rfl, rfl, SqL.of hp, rfl, rfl, rfl, fun x dx hx hdx hne => ?_⟩
      obtain ⟨sm, fc⟩ := made (C := C) hx hdx tp
      exact ⟨x, dx, v1, v2, v3, v4, v5, v6, v7, v8, v9, rfl, upd_same, rfl, k x _ sm hx fc⟩
def spRight (C : Addr) : Sp := fun vs H Q _ => ∃ (a p t : Addr) (xs : List V) (ws : List V) (ds : List PyData), vs = [.ref a, .ref p] ∧ LetD C H a ds ∧ H p = some (.lst ws) ∧ TpAll H ws ds ∧ (∀ d ∈ ds, Sh 1 d) ∧ (∃ c, ds[8]? = some (.tuple c)) ∧ ∀ H', Same H H' → Q (.bl true) H'
theorem scRight : FnScope ["_law_one", "_law_nine", "_law_told"] ["_law_one", "_law_nine"] (defScope sRight) := ⟨rfl, rfl, rfl, by decide +kernel, rfl, by decide +kernel, by decide +kernel⟩
theorem ok_right {f C : Addr} {fd : FuncData} (F : Fun K "_law_fields_right" "_law_fields_right" sRight f fd) (T : ClsL K mg C) (G : Glb mg) : FnOk P w K mg base CX0 1 f fd ["_law_one", "_law_nine"] (spRight C) := by
  refine F.ok scRight (fun vs H Q E h => ?_) (fun cdv A outer s H vs Q E hr h => ?_)
  · obtain ⟨a, p, t, xs, ws, ds, rfl, _⟩ := h
    rfl
  · obtain ⟨a, p, t, xs, ws, ds, rfl, ⟨dx, v1, v2, v3, v4, v5, v6, v7, v8, v9, ha, hd⟩, hp, tp, sh, ⟨c, hc⟩, k⟩ := h
    refine ⟨_, pss_cons (ps_set (i := 2) scRight.nd rfl (Or.inl rfl) (pe_lst (pa_cons (pe_fld (pv 0) rfl) (pa_cons (pe_fld (pv 0) rfl) (pa_cons (pe_fld (pv 0) rfl) (pa_cons (pe_fld (pv 0) rfl) (pa_cons (pe_fld (pv 0) rfl) (pa_cons (pe_fld (pv 0) rfl) (pa_cons (pe_fld (pv 0) rfl) (pa_cons (pe_fld (pv 0) rfl) (pa_cons (pe_fld (pv 0) rfl) pa_nil)))))))))))
      (pss_one (ps_ret (pe_and (pe_cmpR (op_eqD hr.units) (pv 2) (pv 1) (nomark _))
        (pe_one (pe_callB call_isi (by rfl) G.isi (by decide +kernel) (pa_cons (pe_fld (pv 0) rfl) (pa_cons (pe_bltn (v := .ty "tuple") rfl G.tuple (by decide +kernel) rfl) pa_nil))))))), ?_⟩
    refine ⟨_, rfl, a, C, dx, _, _, rfl, ha, T.cl, T.n1, lf_number, _, rfl, a, C, dx, _, _, rfl, ha, T.cl, T.n2, lf_way, _, rfl, a, C, dx, _, _, rfl, ha, T.cl, T.n3, lf_sender, _, rfl, a, C, dx, _, _, rfl, ha, T.cl, T.n4, lf_goal, _, rfl, a, C, dx, _, _, rfl, ha, T.cl, T.n5, lf_key, _, rfl, a, C, dx, _, _, rfl, ha, T.cl, T.n6, lf_face, _, rfl, a, C, dx, _, _, rfl, ha, T.cl, T.n7, lf_edition, _, rfl, a, C, dx, _, _, rfl, ha, T.cl, T.n8, lf_call, _, rfl, a, C, dx, _, _, rfl, ha, T.cl, T.n9, lf_body, (by show 9 ≤ sizeLine; decide), fun l hl => ?_⟩
    have sm : Same H (upd H l (.lst [v1, v2, v3, v4, v5, v6, v7, v8, v9])) := Same.new hl
    have hd2 := TpAll.keep (Same.tk sm) _ _ hd
    have shL : Sh 2 (.list ds) := Sh.lst sh
    refine ⟨_, rfl, _, rfl, .list ds, .list ds, .lst (SqL.of upd_same) (TpAll.dp _ _ hd2), .lst (SqL.of (sm _ _ hp)) (TpAll.dp _ _ (TpAll.keep (Same.tk sm) _ _ tp)), shL.shaped (by decide), shL.shaped (by decide), _, rfl, ?_⟩
    rw [SeqAt.eqv_refl _ shL.1]
    refine iteT ?_
    obtain ⟨u, hu, tu⟩ := TpAll.get hd2 hc
    cases hu
    obtain ⟨q, xs', rfl, hq, _⟩ := tu.inv
    exact ⟨_, rfl, a, C, dx, _, _, rfl, sm _ _ ha, T.cl, T.n9, lf_body, _, _, .type "tuple", .type "tuple", true, rfl, .ty _, .base (.tup hq), rfl, k _ sm⟩
end
end Fh

set_option Elab.async false
set_option linter.all false
set_option maxRecDepth 100000
set_option maxHeartbeats 4000000
namespace Fh
open PySem L2 PyProof.Rows
abbrev sDrawn : Stmt := top 9
/-! ### the nine parts of a letter -/
structure Nine where
  num : Int
  way : Str
  snd : Str
  gl : Str
  ky : Str
  fc : Str
  ed : Int
  cl : Int
  body : List Int
def Nine.ds (n : Nine) : List PyData := [.int n.num, .str n.way, .str n.snd, .str n.gl, .str n.ky, .str n.fc, .int n.ed, .int n.cl, .tuple (n.body.map PyData.int)]
def Nine.vs (n : Nine) (t : Addr) : List V := [.int n.num, .str n.way, .str n.snd, .str n.gl, .str n.ky, .str n.fc, .int n.ed, .int n.cl, .ref t]
def At9 (H : Hp) (p : Addr) (n : Nine) : Prop := ∃ t, H p = some (.lst (n.vs t)) ∧ H t = some (.tup (n.body.map V.int))
theorem TpAll.ints {H : Hp} : ∀ ns : List Int, TpAll H (ns.map V.int) (ns.map PyData.int)
  | [] => .nil
  | n :: r => .cons (.int n) (TpAll.ints r)
theorem Nine.tp {H : Hp} {n : Nine} {t : Addr} (h : H t = some (.tup (n.body.map V.int))) : TpAll H (n.vs t) n.ds :=
  .cons (.int _) (.cons (.str _) (.cons (.str _) (.cons (.str _) (.cons (.str _) (.cons (.str _) (.cons (.int _) (.cons (.int _) (.cons (.tup h (TpAll.ints _)) .nil))))))))
def SOk (z : Str) : Prop := ∀ c ∈ z.cps.toList, c < 0x110000
theorem Nm.sok {z : Str} (h : Nm z) : SOk z := fun c hc => by
  have := h.sg c hc
  unfold Lt at this
  omega
theorem SOk.app {a b : Str} (h1 : SOk a) (h2 : SOk b) : SOk (a ++ b) := fun c hc => by
  rw [app_codes] at hc
  rcases List.mem_append.mp hc with h | h
  · exact h1 c h
  · exact h2 c h
theorem SOk.sh {z : Str} (h : SOk z) : Sh 1 (.str z) := ⟨strOk_of h, Nat.zero_le _⟩
structure Loose (n : Nine) : Prop where
  n0 : 0 ≤ n.num
  n1 : n.num ≤ 1001
  s1 : SOk n.way
  s2 : SOk n.snd
  s3 : SOk n.gl
  s4 : SOk n.ky
  s5 : SOk n.fc
theorem Loose.sh {n : Nine} (h : Loose n) : ∀ d ∈ n.ds, Sh 1 d := by
  intro d hd
  simp only [Nine.ds, List.mem_cons, List.not_mem_nil, or_false] at hd
  rcases hd with rfl | rfl | rfl | rfl | rfl | rfl | rfl | rfl | rfl
  · exact Sh.int _
  · exact h.s1.sh
  · exact h.s2.sh
  · exact h.s3.sh
  · exact h.s4.sh
  · exact h.s5.sh
  · exact Sh.int _
  · exact Sh.int _
  · refine Sh.tup (n := 0) fun e he => ?_
    obtain ⟨i, _, rfl⟩ := List.mem_map.mp he
    exact Sh.int _
def IsWay (z : Str) : Prop := z = "ask" ∨ z = "answer" ∨ z = "fault"
structure Drawn (n : Nine) : Prop where
  n0 : 1 ≤ n.num
  n1 : n.num ≤ 1000
  way : IsWay n.way
  snd : Nm n.snd
  gl : Nm n.gl
  fc : Nm n.fc
  ky : SOk n.ky
  kyl : n.ky.length ≤ 30
  fault : n.way = "fault" → n.body ≠ []
  bl : n.body.length ≤ 40
theorem IsWay.sok {z : Str} (h : IsWay z) : SOk z := by
  rcases h with rfl | rfl | rfl
  all_goals
    unfold SOk
    decide +kernel
theorem Drawn.loose {n : Nine} (h : Drawn n) : Loose n := ⟨by have := h.n0; omega, by have := h.n1; omega, h.way.sok, h.snd.sok, h.gl.sok, h.ky, h.fc.sok⟩
theorem num99 : ∀ n : Nat, n < 100 → ∀ c ∈ (((toString (n : Int) : String) : Str)).cps.toList, c < 0x110000 := by decide +kernel
theorem sok99 {i : Int} (h0 : 0 ≤ i) (h1 : i ≤ 99) : SOk (toString i : String) := by
  have e : ((i.toNat : Nat) : Int) = i := by omega
  have := num99 i.toNat (by omega)
  rw [e] at this
  exact this
def spDrawn : Sp := fun vs H Q _ => ∃ (b : Addr) (n : Nat), vs = [.ref b] ∧ Bag H b n ∧ n + 1000 ≤ most ∧
  ∀ (p : Addr) (m : Nine) (H' : Hp), H p = none → At9 H' p m → Drawn m → Kp b H H' → Bag H' b (n + 500) → Q (.ref p) H'
abbrev nDrawn : List Str := ["_law_bag_here", "_law_ends", "_law_sort", "_law_stuff", "_law_mark", "_law_asked_key", "_law_head", "_law_sign"]
abbrev pTake : List Str := ["_law_bag_here", "_law_size"]
abbrev pNames : List Str := ["_law_bag_here", "_law_size", "_law_taken"]
section
variable {P : Program} {w : World} {K : PySem.W.Frag} {mg : Str → Option Value} {base : Heap}
theorem scDrawn : FnScope nDrawn ["_law_bag_here"] (defScope sDrawn) := ⟨rfl, rfl, rfl, by decide +kernel, rfl, by decide +kernel, by decide +kernel⟩
theorem ok_drawn {f : Addr} {fd : FuncData} (F : Fun K "_law_drawn" "_law_drawn" sDrawn f fd) (G : Glb mg) (DT : Has P w K mg base "_law_take" 1 pTake spTake) (DN : Has P w K mg base "_law_name" 2 ["_law_bag_here"] spName) (DNs : Has P w K mg base "_law_names" 3 pNames spUnlikeN) : FnOk P w K mg base CX0 4 f fd ["_law_bag_here"] spDrawn := by
  refine F.ok scDrawn (fun vs H Q E h => ?_) (fun cdv A outer s H vs Q E hr h => ?_)
  · obtain ⟨b, n, rfl, _⟩ := h
    rfl
  · obtain ⟨b, n, rfl, hB, hn, k⟩ := h
    have hn' : n + 1000 ≤ 1000000 := hn
    have hr1 : Room 1 _ := hr.mono (by decide)
    have hr2 : Room 2 _ := hr.mono (by decide)
    refine ⟨_, pss_cons (ps_set (i := 1) scDrawn.nd rfl (Or.inl rfl) (pe_has DNs hr rfl (pa_cons (pv 0) (pa_cons pe_int (pa_cons (pe_lst pa_nil) pa_nil)))))
      (pss_cons (ps_set (i := 2) scDrawn.nd rfl (Or.inl rfl) (pe_mid (pe_ix ix_list (pe_lst (pa_cons pe_str (pa_cons pe_str (pa_cons pe_str pa_nil)))) (pe_has DT hr1 rfl (pa_cons (pv 0) (pa_cons pe_int pa_nil))) (fun _ _ => rfl))))
      (pss_cons (ps_set (i := 3) scDrawn.nd rfl (Or.inl rfl) (pe_callTy call_tuple_of (by rfl) G.tuple (by decide +kernel) (pa_cons (pe_lc (own := [("_law_sign", 7)]) (g := gName 7) (tt := tYes) rfl scDrawn.nd (pi_str (pe_has DN hr2 rfl (pa_cons (pv 0) pa_nil))) (blkOk_by (N := nDrawn) (sc := defScope sDrawn) (by decide +kernel))
          (fun _ _ _ _ _ => pg_name (i := 7) scDrawn.nd rfl (Or.inl rfl)) (fun _ _ _ _ _ => pts_nil)
          (fun _ _ _ _ _ => pe_callB call_ord (by rfl) G.ord (by decide +kernel) (pa_cons (pv 7) pa_nil))) pa_nil)))
      (C8.pss_cut (ps_if (pt_cmpR op_ne (pv 2) pe_str (nomark _))
        (pss_cons (ps_set (i := 3) scDrawn.nd rfl (Or.inl rfl) (pe_tup pa_nil))
        (pss_one (ps_for PassesOwn.never rfl (pi_range2 rfl G.range (pa_cons pe_int (pa_cons (pe_op op_add pe_int (pe_has DT hr1 rfl (pa_cons (pv 0) (pa_cons pe_int pa_nil)))) pa_nil))) (pg_name (i := 4) scDrawn.nd rfl (Or.inl rfl))
          (pss_one (ps_set (i := 3) scDrawn.nd rfl (Or.inl rfl) (pe_op op_catA (pv 3) (pe_tup (pa_cons (pv 4) (pa_cons pe_int (pa_cons pe_int (pa_cons (pe_op op_add pe_int (pe_has DT hr1 rfl (pa_cons (pv 0) (pa_cons pe_int pa_nil)))) pa_nil)))))))))))
        pss_nil)
      (pss_cons (ps_set (i := 5) scDrawn.nd rfl (Or.inl rfl) (pe_op op_add_str (pe_ix ix_list (pv 1) pe_int (fun _ _ => rfl)) (pe_callTy call_str_int (by rfl) G.str (by decide +kernel) (pa_cons (pe_op op_add pe_int (pe_has DT hr1 rfl (pa_cons (pv 0) (pa_cons pe_int pa_nil)))) pa_nil))))
      (pss_cons (ps_set (i := 6) scDrawn.nd rfl (Or.inl rfl) (pe_lst (pa_cons (pe_op op_add pe_int (pe_has DT hr1 rfl (pa_cons (pv 0) (pa_cons pe_int pa_nil)))) (pa_cons (pv 2) (pa_cons (pe_ix ix_list (pv 1) pe_int (fun _ _ => rfl)) (pa_cons (pe_ix ix_list (pv 1) pe_int (fun _ _ => rfl)) (pa_cons (pv 5) pa_nil)))))))
      (pss_one (ps_ret (pe_op op_cat (pv 6) (pe_lst (pa_cons (pe_has DN hr2 rfl (pa_cons (pv 0) pa_nil)) (pa_cons (pe_op op_add pe_int (pe_has DT hr1 rfl (pa_cons (pv 0) (pa_cons pe_int pa_nil)))) (pa_cons (pe_op op_add pe_int (pe_has DT hr1 rfl (pa_cons (pv 0) (pa_cons pe_int pa_nil)))) (pa_cons (pv 3) pa_nil))))))))))))), ?_⟩
    refine ⟨_, rfl, Nat.zero_le _, fun t0 ht0 => ?_⟩
    refine ⟨b, t0, 2, [], n, rfl, hB.new ht0, by decide, by decide, upd_same, by decide, by show n + 200 ≤ 1000000; omega, fun e zs H1 he0 he1 lzs ndz nmz K1 B1 => ?_⟩
    obtain ⟨z1, z2, rfl⟩ : ∃ z1 z2, zs = [z1, z2] := by
      match zs, lzs with
      | [a, c], _ => exact ⟨a, c, rfl⟩
    have nm1 : Nm z1 := (nmz z1 (by simp)).1
    have nm2 : Nm z2 := (nmz z2 (by simp)).1
    have K01 : Kp b H H1 := (Kp.refl.new ht0).trans K1
    have neb : e ≠ b := strs_ne_bag he1 B1
    refine ⟨fun v H2 => ∃ z, v = .str z ∧ IsWay z ∧ Kp b H1 H2 ∧ Bag H2 b (n + 121), ?_, ?_⟩
    · refine ⟨(by show 3 ≤ sizeLine; decide), fun q hq => ?_⟩
      refine ⟨_, rfl, b, 3, n + 120, rfl, by decide, by decide, B1.new hq, by show _ ≤ 1000000; omega, fun d H2 d0 d1 K2 B2 => ?_⟩
      have hq2 := K2 q _ (new_ne hq B1) upd_same
      have kp : Kp b H1 H2 := (Kp.refl.new hq).trans K2
      have hd : d = 0 ∨ d = 1 ∨ d = 2 := by omega
      rcases hd with rfl | rfl | rfl
      · exact ⟨q, _, _, _, rfl, rfl, SqL.of hq2, rfl, _, rfl, .inl rfl, kp, B2⟩
      · exact ⟨q, _, _, _, rfl, rfl, SqL.of hq2, rfl, _, rfl, .inr (.inl rfl), kp, B2⟩
      · exact ⟨q, _, _, _, rfl, rfl, SqL.of hq2, rfl, _, rfl, .inr (.inr rfl), kp, B2⟩
    rintro v H2 ⟨z, rfl, hz, K2, B2⟩
    have he2 := K2 e _ neb he1
    refine ⟨_, rfl, b, n + 121, rfl, B2, by show _ ≤ 1000000; omega, fun y H3 ny K3 B3 => ⟨y, rfl, fun D hD => ?_⟩⟩
    have he3 := K3 e _ neb he2
    have nDb : D ≠ b := new_ne hD B3
    have neD : e ≠ D := ne_of_none he3 hD
    have K03 : Kp b H H3 := (K01.trans K2).trans K3
    refine lc_it walk_str (fun j H4 => ∃ ns : List Int, H4 = upd H3 D (.lst (ns.map V.int)) ∧ ns.length = j) ⟨[], rfl, rfl⟩ (fun _ _ _ _ => trivial) ?_ ?_
    · rintro j x H4 H5 hj ⟨ns, rfl, hl⟩ ⟨rfl, c, hc, rfl⟩
      have hy8 : y.cps.size ≤ 8 := ny.hi
      refine ⟨rfl, yes (iteT ?_)⟩
      refine ⟨_, rfl, _, rfl, rfl, _, upd_same, ?_, ns ++ [((c : Nat) : Int)], ?_, by rw [List.length_append, hl]; rfl⟩
      · rw [List.length_map, hl]
        exact Nat.lt_trans (show j < 8 by omega) (by decide)
      · rw [upd_upd, List.map_append]
        rfl
    rintro H4 ⟨ns, rfl, lns⟩
    refine ⟨D, _, rfl, .inl ⟨SqL.of upd_same, fun t ht => ?_⟩⟩
    have lns8 : 1 ≤ ns.length ∧ ns.length ≤ 8 := by
      rw [lns]
      exact ⟨ny.lo, ny.hi⟩
    have K5 : Kp b H (upd (upd H3 D (.lst (ns.map V.int))) t (.tup (ns.map V.int))) := (K03.new hD).new ht
    have B5 : Bag (upd (upd H3 D (.lst (ns.map V.int))) t (.tup (ns.map V.int))) b (n + 131) := (B3.new hD).new ht
    have he5 : (upd (upd H3 D (.lst (ns.map V.int))) t (.tup (ns.map V.int))) e = some (.lst [.str z1, .str z2]) := by
      have h1 : (upd H3 D (.lst (ns.map V.int))) e = some (.lst [.str z1, .str z2]) := by rw [upd_ne neD]; exact he3
      rw [upd_ne (ne_of_none h1 ht)]
      exact h1
    have ht5 : (upd (upd H3 D (.lst (ns.map V.int))) t (.tup (ns.map V.int))) t = some (.tup (ns.map V.int)) := upd_same
    generalize (upd (upd H3 D (.lst (ns.map V.int))) t (.tup (ns.map V.int))) = H5 at K5 B5 he5 ht5
    refine ⟨fun σ H6 => ∃ (t6 : Addr) (body : List Int), (∃ a4, σ = [some (.ref b), some (.ref e), some (.str z), some (.ref t6), a4, none, none, none]) ∧ H6 t6 = some (.tup (body.map V.int)) ∧ (z = "fault" → body ≠ []) ∧ body.length ≤ 40 ∧ Kp b H H6 ∧ Bag H6 b (n + 200) ∧ H6 e = some (.lst [.str z1, .str z2]), ?_, ?_⟩
    · refine ⟨_, rfl, rfl, _, rfl, ite2 (fun hne => ?_) (fun heq => ?_)⟩
      · have hzf : z ≠ "fault" := by
          intro e'
          rw [e'] at hne
          simp at hne
        refine ⟨by decide, fun t0' ht0' => ?_⟩
        have B6 := B5.new (o := .tup []) ht0'
        have he6 : (upd H5 t0' (.tup [])) e = some (.lst [.str z1, .str z2]) := by rw [upd_ne (ne_of_none he5 ht0')]; exact he5
        refine ⟨_, rfl, b, 9, n + 131, rfl, by decide, by decide, B6, by show _ ≤ 1000000; omega, fun d H7 d0 d1 K7 B7 => ?_⟩
        refine ⟨_, _, rfl, rfl, _, _, rfl, ⟨by decide, by decide, by omega, by omega⟩, ?_⟩
        have ht7 := K7 t0' _ (new_ne ht0' B5) upd_same
        have K07 : Kp b H H7 := (K5.new ht0').trans K7
        have he7 := K7 e _ neb he6
        refine for_range (lo := 1) (n := (1 + d - 1).toNat) (fun i σ H8 => ∃ (t8 : Addr) (body : List Int), (∃ a4, σ = [some (.ref b), some (.ref e), some (.str z), some (.ref t8), a4, none, none, none]) ∧ H8 t8 = some (.tup (body.map V.int)) ∧ body.length = 4 * i ∧ Kp b H H8 ∧ Bag H8 b (n + 132 + i) ∧ H8 e = some (.lst [.str z1, .str z2])) ?_ ?_ ?_
        · exact ⟨t0', [], ⟨_, rfl⟩, ht7, rfl, K07, B7, he7⟩
        · rintro i σ H8 hi ⟨t8, body, ⟨a4, rfl⟩, ht8, lb, K8, B8, he8⟩
          have hi9 : i < 9 := by omega
          refine ⟨_, rfl, _, rfl, _, rfl, b, 255, n + 132 + i, rfl, by decide, by decide, B8, by show _ ≤ 1000000; omega, fun d2 H9 g0 g1 K9 B9 => ?_⟩
          refine ⟨_, _, rfl, rfl, (by show 4 ≤ sizeLine; decide), fun t9 ht9 => ?_⟩
          have ht8' := (K9.tk B8) t8 _ ht8
          have hne8 : t8 ≠ t9 := ne_of_none ht8' ht9
          have hA : (upd H9 t9 (.tup [.int (1 + i), .int 1, .int 1, .int (1 + d2)])) t8 = some (.tup (body.map V.int)) := by rw [upd_ne hne8]; exact ht8'
          have KA : Kp b H (upd H9 t9 (.tup [.int (1 + i), .int 1, .int 1, .int (1 + d2)])) := (K8.trans K9).new ht9
          have BA : Bag (upd H9 t9 (.tup [.int (1 + i), .int 1, .int 1, .int (1 + d2)])) b (n + 132 + (i + 1)) := B9.new ht9
          have he9 := K9 e _ neb he8
          have heA : (upd H9 t9 (.tup [.int (1 + i), .int 1, .int 1, .int (1 + d2)])) e = some (.lst [.str z1, .str z2]) := by rw [upd_ne (ne_of_none he9 ht9)]; exact he9
          refine ⟨t8, t9, _, _, rfl, rfl, SqT.of hA, SqT.of upd_same, ?_, fun hb0 => ?_, fun _ h2 => absurd h2 (by simp), fun _ _ tN htN => ?_⟩
          · rw [List.length_map, lb]
            exact Nat.le_trans (show 4 * i + 4 ≤ 40 by omega) (by decide)
          · have hb00 : body = [] := List.map_eq_nil_iff.mp hb0
            refine ⟨t9, [1 + i, 1, 1, 1 + d2], ⟨_, rfl⟩, upd_same, ?_, KA, BA, heA⟩
            rw [hb00] at lb
            simp at lb ⊢
            omega
          · refine ⟨tN, body ++ [1 + (i : Int), 1, 1, 1 + d2], ⟨_, rfl⟩, ?_, ?_, KA.new htN, BA.new htN, ?_⟩
            · rw [upd_same, List.map_append]
              rfl
            · rw [List.length_append, lb]
              simp
              omega
            · rw [upd_ne (ne_of_none heA htN)]
              exact heA
        · rintro σ H8 ⟨t8, body, ⟨a4, rfl⟩, ht8, lb, K8, B8, he8⟩
          exact ⟨t8, body, ⟨_, rfl⟩, ht8, (fun h => absurd h hzf), by omega, K8, B8.mono (by omega), he8⟩
      · refine ⟨t, ns, ⟨_, rfl⟩, ht5, fun _ h => ?_, by omega, K5, B5.mono (by omega), he5⟩
        rw [h] at lns8
        simp at lns8
    rintro σ H6 ⟨t6, body, ⟨a4, rfl⟩, ht6, hflt, lbody, K6, B6, he6⟩
    refine ⟨_, rfl, e, _, _, _, rfl, rfl, SqL.of he6, rfl, ?_⟩
    refine ⟨_, rfl, b, 99, n + 200, rfl, by decide, by decide, B6, by show _ ≤ 1000000; omega, fun d7 H7 g0 g1 K7 B7 => ?_⟩
    have hT := txt4 (i := 1 + d7) (by omega) (by omega)
    refine ⟨_, _, rfl, rfl, _, rfl, log_lt (by omega) (by omega), _, _, rfl, rfl, ?_, ?_⟩
    · exact Nat.le_trans (show z1.length + _ ≤ 30 by have := nm1.hi; omega) (by decide)
    have he7 := K7 e _ neb he6
    refine ⟨_, rfl, b, 1000, n + 201, rfl, by decide, by decide, B7, by show _ ≤ 1000000; omega, fun d8 H8 i0 i1 K8 B8 => ?_⟩
    have he8 := K8 e _ neb he7
    refine ⟨_, _, rfl, rfl, _, rfl, _, rfl, e, _, _, _, rfl, rfl, SqL.of he8, rfl, _, rfl, e, _, _, _, rfl, rfl, SqL.of he8, rfl, _, rfl, (by show 5 ≤ sizeLine; decide), fun hd hhd => ?_⟩
    have nhb : hd ≠ b := new_ne hhd B8
    refine ⟨_, rfl, _, rfl, b, n + 202, rfl, B8.new hhd, by show _ ≤ 1000000; omega, fun yf H9 nyf K9 B9 => ?_⟩
    refine ⟨_, rfl, b, 99, n + 212, rfl, by decide, by decide, B9, by show _ ≤ 1000000; omega, fun d10 H10 j0 j1 K10 B10 => ?_⟩
    refine ⟨_, _, rfl, rfl, _, rfl, b, 30, n + 213, rfl, by decide, by decide, B10, by show _ ≤ 1000000; omega, fun d11 H11 l0 l1 K11 B11 => ?_⟩
    refine ⟨_, _, rfl, rfl, _, rfl, (by show 4 ≤ sizeLine; decide), fun tl htl => ?_⟩
    have hh9 := K9 hd _ nhb upd_same
    have hh11 := K11 hd _ nhb (K10 hd _ nhb hh9)
    have hhe : (upd H11 tl (.lst [.str yf, .int (1 + d10), .int (1 + d11), .ref t6])) hd = some (.lst [.int (1 + d8), .str z, .str z1, .str z2, .str (z1 ++ toString (1 + d7))]) := by
      rw [upd_ne (ne_of_none hh11 htl)]
      exact hh11
    refine ⟨hd, tl, _, _, rfl, rfl, hhe, upd_same, (by show 5 + 4 ≤ sizeLine; decide), fun p hp => ?_⟩
    have K611 : Kp b H6 H11 := ((((K7.trans K8).new hhd).trans K9).trans K10).trans K11
    have K0p : Kp b H (upd (upd H11 tl (.lst [.str yf, .int (1 + d10), .int (1 + d11), .ref t6])) p (.lst ([.int (1 + d8), .str z, .str z1, .str z2, .str (z1 ++ toString (1 + d7))] ++ [.str yf, .int (1 + d10), .int (1 + d11), .ref t6]))) := ((K6.trans K611).new htl).new hp
    have ht11 := (K611.tk B6) t6 _ ht6
    have htp : (upd (upd H11 tl (.lst [.str yf, .int (1 + d10), .int (1 + d11), .ref t6])) p (.lst ([.int (1 + d8), .str z, .str z1, .str z2, .str (z1 ++ toString (1 + d7))] ++ [.str yf, .int (1 + d10), .int (1 + d11), .ref t6]))) t6 = some (.tup (body.map V.int)) := ((Tk.new htl).trans (Tk.new hp)) t6 _ ht11
    refine k p ⟨1 + d8, z, z1, z2, z1 ++ toString (1 + d7), yf, 1 + d10, 1 + d11, body⟩ _ ?_ ⟨t6, upd_same, htp⟩ ?_ K0p (((B11.new htl).new hp).mono (by omega))
    · exact ((K6.trans K611).new (o := .lst [.str yf, .int (1 + d10), .int (1 + d11), .ref t6]) htl).free (B11.new htl).at hp
    · refine ⟨by show 1 ≤ 1 + d8; omega, by show 1 + d8 ≤ 1000; omega, hz, nm1, nm2, nyf, nm1.sok.app (sok99 (by omega) (by omega)), ?_, hflt, lbody⟩
      show (z1 ++ _).length ≤ 30
      rw [app_len]
      have := nm1.hi
      omega
end
end Fh

set_option Elab.async false
set_option linter.all false
set_option maxRecDepth 100000
set_option maxHeartbeats 4000000
namespace Fh
open PySem L2 PyProof.Rows
abbrev sBent : Stmt := top 12
/-! ### unlike data -/
theorem iteY {A B : Prop} {c : Bool} (h : c = true) (a : A) : if c = true then A else B := by
  rw [h]
  exact iteT a
theorem iteN {A B : Prop} {c : Bool} (h : c = false) (b : B) : if c = true then A else B := by
  rw [h]
  exact iteF b
theorem eqvAll_len : ∀ {xs ys : List PyData}, PyData.eqvAll xs ys = true → xs.length = ys.length
  | [], [], _ => rfl
  | [], _ :: _, h => by cases h
  | _ :: _, [], h => by cases h
  | x :: xs, y :: ys, h => by
    have h2 : (PyData.eqv x y && PyData.eqvAll xs ys) = true := h
    rw [List.length_cons, List.length_cons, eqvAll_len (Bool.and_eq_true_iff.mp h2).2]
theorem eqvAll_at : ∀ {xs ys : List PyData} (i : Nat) {x y : PyData}, xs[i]? = some x → ys[i]? = some y → PyData.eqv x y = false → PyData.eqvAll xs ys = false
  | [], _, _, _, _, h, _, _ => by simp at h
  | _ :: _, [], _, _, _, _, h, _ => by simp at h
  | a :: xs, c :: ys, 0, x, y, h1, h2, h => by
    simp at h1 h2
    subst h1 h2
    show (PyData.eqv a c && PyData.eqvAll xs ys) = false
    rw [h]
    rfl
  | a :: xs, c :: ys, i + 1, x, y, h1, h2, h => by
    show (PyData.eqv a c && PyData.eqvAll xs ys) = false
    rw [eqvAll_at i (by simpa using h1) (by simpa using h2) h, Bool.and_false]
theorem eqv_strs {a b : Str} (h : a ≠ b) : PyData.eqv (.str a) (.str b) = false := by
  show (a == b) = false
  exact beq_eq_false_iff_ne.mpr h
theorem eqv_ints {a b : Int} (h : a ≠ b) : PyData.eqv (.int a) (.int b) = false := by
  show (a == b) = false
  exact beq_eq_false_iff_ne.mpr h
theorem eqvAll_ints : ∀ {as bs : List Int}, PyData.eqvAll (as.map PyData.int) (bs.map PyData.int) = true → as = bs
  | [], [], _ => rfl
  | [], _ :: _, h => by cases h
  | _ :: _, [], h => by cases h
  | a :: as, c :: bs, h => by
    obtain ⟨h1, h2⟩ := Bool.and_eq_true_iff.mp (show ((a == c) && PyData.eqvAll (as.map PyData.int) (bs.map PyData.int)) = true from h)
    rw [eq_of_beq h1, eqvAll_ints h2]
theorem eqv_tups {as bs : List Int} (h : as ≠ bs) : PyData.eqv (.tuple (as.map PyData.int)) (.tuple (bs.map PyData.int)) = false := by
  cases q : PyData.eqv (.tuple (as.map PyData.int)) (.tuple (bs.map PyData.int)) with
  | false => rfl
  | true => exact absurd (eqvAll_ints q) h
/-! ### a name with its end otherwise -/
def seven (z : Str) : Str := cutS z none (some 7)
def lastS (z : Str) : Str := cutS z (some (-1)) none
theorem seven_codes (z : Str) : (seven z).cps.toList = z.cps.toList.take 7 := by
  have e : (seven z).cps.toList = (z.cps.toList.drop (HT.sIx z.length 0 none)).take (HT.sIx z.length z.length (some 7) - HT.sIx z.length 0 none) := rfl
  have e7 := HT.sIx_nat z.length z.length 7
  rw [show ((7 : Nat) : Int) = 7 from rfl] at e7
  rw [e, e7]
  show (z.cps.toList.drop 0).take (min 7 z.length - 0) = _
  rw [List.drop_zero, Nat.sub_zero]
  have hl : z.length = z.cps.toList.length := (Array.length_toList).symm
  rw [hl, ← List.take_eq_take_min]
theorem seven_len (z : Str) : (seven z).length ≤ 7 := by
  show (seven z).cps.size ≤ 7
  rw [← Array.length_toList, seven_codes, List.length_take]
  omega
theorem seven_sok {z : Str} (h : SOk z) : SOk (seven z) := fun c hc => by
  rw [seven_codes] at hc
  exact h c (List.mem_of_mem_take hc)
theorem short_ne {z t : Str} (h : z.length < 8) (ht : t.length = 1) : z ≠ seven z ++ t := fun e => by
  have e2 := congrArg Str.length e
  rw [app_len, ht] at e2
  have : (seven z).length = z.length := by
    show (seven z).cps.size = z.cps.size
    rw [← Array.length_toList, seven_codes, List.length_take, Array.length_toList]
    have : z.length = z.cps.size := rfl
    omega
  omega
theorem lastS_codes {z : Str} (h : 1 ≤ z.length) : (lastS z).cps.toList = z.cps.toList.drop (z.length - 1) := by
  have e : (lastS z).cps.toList = (z.cps.toList.drop (HT.sIx z.length 0 (some (-1)))).take (HT.sIx z.length z.length none - HT.sIx z.length 0 (some (-1))) := rfl
  have e1 : HT.sIx z.length 0 (some (-1)) = z.length - 1 := by
    show (if (-1 : Int) < 0 then ((-1 : Int) + (z.length : Int)).toNat else min (-1 : Int).toNat z.length) = _
    rw [if_pos (by decide)]
    omega
  rw [e, e1]
  show (z.cps.toList.drop (z.length - 1)).take (z.length - (z.length - 1)) = _
  refine List.take_of_length_le ?_
  rw [List.length_drop, Array.length_toList]
  exact Nat.le_refl _
/-- of eight signs, the last one otherwise -/
theorem long_ne {z t : Str} (h : z.length = 8) (ht : t.length = 1) (hl : lastS z ≠ t) : z ≠ seven z ++ t := fun e => by
  apply hl
  have e2 := congrArg (fun s : Str => s.cps.toList) e
  simp only [app_codes] at e2
  have e3 : (lastS z).cps.toList = t.cps.toList := by
    rw [lastS_codes (by omega), h, e2, seven_codes]
    have : (z.cps.toList.take 7).length = 7 := by
      rw [List.length_take, Array.length_toList]
      have : z.cps.size = 8 := h
      omega
    rw [List.drop_append_of_le_length (by omega), List.drop_of_length_le (by omega), List.nil_append]
  have e4 : (lastS z).cps = t.cps := Array.toList_inj.mp e3
  cases hz : lastS z with
  | mk a => cases t with
    | mk c => rw [hz] at e4; exact congrArg Str.mk e4
end Fh

set_option Elab.async false
set_option linter.all false
set_option maxRecDepth 100000
set_option maxHeartbeats 4000000
namespace Fh
open PySem L2 PyProof.Rows
def spBent : Sp := fun vs H Q _ => ∃ (b p : Addr) (m : Nine) (n : Nat), vs = [.ref b, .ref p] ∧ Bag H b n ∧ At9 H p m ∧ Drawn m ∧ n + 10 ≤ most ∧
  ∀ (q : Addr) (m' : Nine) (H' : Hp), H q = none → At9 H' q m' → Loose m' → PyData.eqvAll m.ds m'.ds = false → Kp b H H' → Bag H' b (n + 1) → Q (.ref q) H'
abbrev nBent : List Str := ["_law_bag_here", "_law_nine", "_law_found", "_law_at"]
theorem last_at (xs : List Int) (x : Int) : atI ((xs ++ [x]).map V.int) (-1) = some (V.int x) := by
  have e : ixN ((xs ++ [x]).map V.int).length (-1) = some xs.length := by
    rw [List.length_map, List.length_append]
    unfold ixN
    rw [if_neg (by decide), if_pos (by simp; omega)]
    congr 1
    simp
    omega
  unfold atI
  rw [e]
  show ((xs ++ [x]).map V.int)[xs.length]? = _
  rw [List.map_append, List.getElem?_append_right (by rw [List.length_map]; exact Nat.le_refl _), List.length_map, Nat.sub_self]
  rfl
section
variable {P : Program} {w : World} {K : PySem.W.Frag} {mg : Str → Option Value} {base : Heap}
theorem scBent : FnScope nBent ["_law_bag_here", "_law_nine"] (defScope sBent) := ⟨rfl, rfl, rfl, by decide +kernel, rfl, by decide +kernel, by decide +kernel⟩
theorem ok_bent {f : Addr} {fd : FuncData} (F : Fun K "_law_bent" "_law_bent" sBent f fd) (G : Glb mg) (DT : Has P w K mg base "_law_take" 1 pTake spTake) : FnOk P w K mg base CX0 2 f fd ["_law_bag_here", "_law_nine"] spBent := by
  refine F.ok scBent (fun vs H Q E h => ?_) (fun cdv A outer s H vs Q E hr h => ?_)
  · obtain ⟨b, p, m, n, rfl, _⟩ := h
    rfl
  · obtain ⟨b, p, m, n, rfl, hB, ⟨t, hp, ht⟩, dm, hn, k⟩ := h
    have hn' : n + 10 ≤ 1000000 := hn
    have hu := hu_of hr
    refine ⟨_, pss_cons (ps_set (i := 2) scBent.nd rfl (Or.inl rfl) (pe_callTy call_list_of (by rfl) G.list (by decide +kernel) (pa_cons (pv 1) pa_nil)))
      (pss_cons (ps_set (i := 3) scBent.nd rfl (Or.inl rfl) (pe_has DT hr rfl (pa_cons (pv 0) (pa_cons pe_int pa_nil))))
      (pss_cons (ps_set (i := 3) scBent.nd rfl (Or.inl rfl) (pe_mid (pe_ifExp (PW.pt (pw_and (pt_cmpR op_eq (pv 3) pe_int (nomark _)) (pw_and1 (pt_cmpR op_eq (pe_ix ix_list (pv 1) pe_int (fun _ _ => rfl)) pe_str (nomark _))))) pe_int (pv 3))))
      (pss_cons (ps_if (pt_cmpR op_in_seq (pv 3) (pe_tup (pa_cons pe_int (pa_cons pe_int (pa_cons pe_int pa_nil)))) rfl)
          (pss_one (ps_asg (pe_op op_add (pe_ix ix_list (pv 1) (pv 3) (fun _ _ => rfl)) (pe_ix ix_list (pe_lst (pa_cons pe_int (pa_cons (pe_un un_neg pe_int) pa_nil))) (pe_callTy call_int1 (by rfl) G.int (by decide +kernel) (pa_cons (pe_cmpR op_gt (pe_ix ix_list (pv 1) (pv 3) (fun _ _ => rfl)) pe_int (nomark _)) pa_nil)) (fun _ _ => rfl))) (pg_sub (pv 2) (pv 3) set_list)))
          (pss_one (ps_if (pt_cmpR op_eq (pv 3) pe_int (nomark _))
            (pss_one (ps_asg (pe_dget hu (pe_disp (pps_cons pe_str pe_str (pps_cons pe_str pe_str pps_nil)) rfl rfl (by simp) (by simp)) (pe_ix ix_list (pv 1) pe_int (fun _ _ => rfl)) (fun _ _ => rfl)) (pg_sub (pv 2) pe_int set_list)))
            (pss_one (ps_if (PW.pt (pw_and (pt_cmpR op_eq (pv 3) pe_int (nomark _)) (pw_and1 (pt_cmpR op_eq (pe_ix ix_list (pv 1) pe_int (fun _ _ => rfl)) pe_str (nomark _)))))
              (pss_one (ps_asg (pe_op op_catA (pe_slice sl_tupA (pe_ix ix_list (pv 1) pe_int (fun _ _ => rfl)) po_none (po_some (pe_un un_neg pe_int))) (pe_tup (pa_cons (pe_op op_add pe_int (pe_op op_mod (pe_op op_sub (pe_ix ix_tup (pe_ix ix_list (pv 1) pe_int (fun _ _ => rfl)) (pe_un un_neg pe_int) (fun _ _ => rfl)) pe_int) pe_int)) pa_nil))) (pg_sub (pv 2) pe_int set_list)))
              (pss_one (ps_if (pt_cmpR op_eq (pv 3) pe_int (nomark _))
                (pss_one (ps_asg (pe_op op_catA (pe_ix ix_list (pv 1) pe_int (fun _ _ => rfl)) (pe_tup (pa_cons pe_int (pa_cons pe_int (pa_cons pe_int pa_nil))))) (pg_sub (pv 2) pe_int set_list)))
                (pss_one (ps_if (pt_cmpR op_eq (pv 3) pe_int (nomark _))
                  (pss_one (ps_asg (pe_op op_add_str (pe_ix ix_list (pv 1) pe_int (fun _ _ => rfl)) pe_str) (pg_sub (pv 2) pe_int set_list)))
                  (pss_one (ps_asg (pe_ifExp (PW.pt (pw_or (pt_cmpR op_ne (pe_slice sl_str (pe_ix ix_list (pv 1) (pv 3) (fun _ _ => rfl)) (po_some (pe_un un_neg pe_int)) po_none) pe_str (nomark _)) (pw_or1 (pt_cmpR op_lt (pe_callB call_len_str (by rfl) G.len PySem.boot_len (pa_cons (pe_ix ix_list (pv 1) (pv 3) (fun _ _ => rfl)) pa_nil)) pe_int (nomark _)))))
                    (pe_op op_add_str (pe_slice sl_str (pe_ix ix_list (pv 1) (pv 3) (fun _ _ => rfl)) po_none (po_some pe_int)) pe_str)
                    (pe_op op_add_str (pe_slice sl_str (pe_ix ix_list (pv 1) (pv 3) (fun _ _ => rfl)) po_none (po_some pe_int)) pe_str)) (pg_sub (pv 2) (pv 3) set_list))))))))))))
      (pss_one (ps_ret (pv 2)))))), ?_⟩
    refine ⟨_, rfl, p, _, rfl, .inl (SqL.of hp), fun l hl => ?_⟩
    have nlb : l ≠ b := new_ne hl hB
    refine ⟨_, rfl, b, 9, n, rfl, by decide, by decide, hB.new hl, by show _ ≤ 1000000; omega, fun d H1 d0 d1 K1 B1 => ?_⟩
    have K01 : Kp b H H1 := (Kp.refl.new hl).trans K1
    have hl1 := K1 l _ nlb upd_same
    have npb : p ≠ b := fun e => by
      obtain ⟨x, y, z, e2, _⟩ := hB
      rw [← e, hp] at e2
      cases e2
    have hp1 : H1 p = some (.lst (m.vs t)) := K01 p _ npb hp
    have ht1 : H1 t = some (.tup (m.body.map V.int)) := (K01.tk hB) t _ ht
    refine ⟨fun v H2 => H2 = H1 ∧ ∃ j : Int, v = .int j ∧ 0 ≤ j ∧ j < 9 ∧ (j = 1 → m.way ≠ "fault"), ?_, ?_⟩
    · refine ⟨_, rfl, rfl, _, rfl, ite2 (fun h1 => ?_) (fun h1 => ?_)⟩
      · refine ⟨_, rfl, p, _, _, _, rfl, rfl, SqL.of hp1, rfl, rfl, _, rfl, ite2 (fun h2 => ?_) (fun h2 => ?_)⟩
        · exact ⟨rfl, 0, rfl, by decide, by decide, fun h => by cases h⟩
        · exact ⟨_, rfl, rfl, d, rfl, d0, d1, fun _ e => h2 (decide_eq_true (by rw [e]))⟩
      · exact iteF ⟨_, rfl, rfl, d, rfl, d0, d1, fun e => absurd (decide_eq_true (show V.int d = V.int 1 by rw [e])) h1⟩
    rintro v H2 ⟨rfl, j, rfl, j0, j9, j1⟩
    have npl : p ≠ l := ne_of_none hp hl
    have htl : t ≠ l := ne_of_none ht hl
    have sz : ∀ {k : Nat}, k ≤ 100 → k ≤ sizeLine := fun h => Nat.le_trans h (by decide)
    have lo := dm.loose
    have hl2 : H2 l = some (.lst (m.vs t)) := hl1
    have B2 : Bag H2 b (n + 1) := B1
    have fin : ∀ (H5 : Hp) (m' : Nine) (t' : Addr), Same H2 H5 → H5 t' = some (.tup (m'.body.map V.int)) → Loose m' → PyData.eqvAll m.ds m'.ds = false → Q (.ref l) (upd H5 l (.lst (m'.vs t'))) := fun H5 m' t' S5 h5 lo5 ne5 => by
      have n5 : t' ≠ l := fun e => by
        rw [e, S5 _ _ hl2] at h5
        cases h5
      refine k l m' _ hl ⟨t', upd_same, by rw [upd_ne n5]; exact h5⟩ lo5 ne5 ?_ ((B2.same S5).ne nlb)
      exact (K01.same S5).wr hl
    have hj : j = 0 ∨ j = 1 ∨ j = 2 ∨ j = 3 ∨ j = 4 ∨ j = 5 ∨ j = 6 ∨ j = 7 ∨ j = 8 := by omega
    have neq : ∀ {x y : Int}, x ≠ y → decide (V.int x = V.int y) = false := fun h => decide_eq_false fun e => h (by injection e)
    rcases hj with rfl | rfl | rfl | rfl | rfl | rfl | rfl | rfl | rfl
    · refine ⟨_, rfl, (by show 3 ≤ sizeLine; decide), fun t3 ht3 => ?_⟩
      have S3 : Same H2 (upd H2 t3 (.tup [.int 0, .int 6, .int 7])) := Same.new ht3
      refine ⟨t3, _, rfl, .inr (SqT.of upd_same), rfl, rfl, _, rfl, iteY (by rfl) ?_⟩
      refine ⟨_, rfl, _, rfl, p, _, _, _, rfl, rfl, SqL.of (S3 _ _ hp1), rfl, _, rfl, (by show 2 ≤ sizeLine; decide), fun q hq => ?_⟩
      have S4 : Same H2 (upd (upd H2 t3 (.tup [.int 0, .int 6, .int 7])) q (.lst [.int 1, .int (-1)])) := S3.trans (Same.new hq)
      refine ⟨_, rfl, _, rfl, p, _, _, _, rfl, rfl, SqL.of (S4 _ _ hp1), rfl, _, _, rfl, rfl, .inr ⟨_, rfl, ?_⟩⟩
      cases hg : decide (1 < m.num) with
      | true =>
        have g := of_decide_eq_true hg
        exact ⟨q, _, _, _, rfl, rfl, SqL.of upd_same, rfl, _, _, rfl, rfl, _, rfl, _, rfl, l, _, _, 0, rfl, rfl, S4 _ _ hl2, rfl, _, rfl, fin _ { m with num := m.num + -1 } t S4 (S4 _ _ ht1) ⟨by show 0 ≤ m.num + _; have := dm.n0; omega, by show m.num + _ ≤ 1001; have := dm.n1; omega, lo.s1, lo.s2, lo.s3, lo.s4, lo.s5⟩ (eqvAll_at 0 rfl rfl (eqv_ints (a := m.num) (b := m.num + -1) (by omega)))⟩
      | false =>
        have g := of_decide_eq_false hg
        exact ⟨q, _, _, _, rfl, rfl, SqL.of upd_same, rfl, _, _, rfl, rfl, _, rfl, _, rfl, l, _, _, 0, rfl, rfl, S4 _ _ hl2, rfl, _, rfl, fin _ { m with num := m.num + 1 } t S4 (S4 _ _ ht1) ⟨by show 0 ≤ m.num + _; have := dm.n0; omega, by show m.num + _ ≤ 1001; have := dm.n1; omega, lo.s1, lo.s2, lo.s3, lo.s4, lo.s5⟩ (eqvAll_at 0 rfl rfl (eqv_ints (a := m.num) (b := m.num + 1) (by omega)))⟩
    · refine ⟨_, rfl, (by show 3 ≤ sizeLine; decide), fun t3 ht3 => ?_⟩
      have S3 : Same H2 (upd H2 t3 (.tup [.int 0, .int 6, .int 7])) := Same.new ht3
      refine ⟨t3, _, rfl, .inr (SqT.of upd_same), rfl, rfl, _, rfl, iteN (by rfl) ?_⟩
      refine ⟨_, rfl, rfl, _, rfl, iteY (by rfl) ?_⟩
      have nf := j1 rfl
      refine fun dd hdd => ⟨upd_same, [(Sum.inr "ask", .str "answer"), (Sum.inr "answer", .str "ask")], rfl, by decide, ?_⟩
      have S4 : ∀ o, Same H2 (upd (upd (upd H2 t3 (.tup [.int 0, .int 6, .int 7])) dd (.dK [])) dd o) := fun o => Same.wr (S3.trans (Same.new hdd)) (S3.free hdd)
      have hp4 := S4 (.dK (mergeK [] [(Sum.inr "ask", .str "answer"), (Sum.inr "answer", .str "ask")])) _ _ hp1
      have hl4 := S4 (.dK (mergeK [] [(Sum.inr "ask", .str "answer"), (Sum.inr "answer", .str "ask")])) _ _ hl2
      have ht4 := S4 (.dK (mergeK [] [(Sum.inr "ask", .str "answer"), (Sum.inr "answer", .str "ask")])) _ _ ht1
      refine ⟨_, rfl, p, _, _, _, rfl, rfl, SqL.of (hp4), rfl, dd, ?_⟩
      rcases dm.way with hw | hw | hw
      · refine ⟨.str "answer", rfl, .inl ⟨_, Sum.inr m.way, .inl upd_same, rfl, by rw [hw]; rfl⟩, _, rfl, l, _, _, 1, rfl, rfl, hl4, rfl, _, rfl, fin _ { m with way := "answer" } t (S4 _) ht4 ⟨lo.n0, lo.n1, IsWay.sok (.inr (.inl rfl)), lo.s2, lo.s3, lo.s4, lo.s5⟩ (eqvAll_at 1 rfl rfl (eqv_strs (a := m.way) (b := "answer") (by rw [hw]; decide +kernel)))⟩
      · refine ⟨.str "ask", rfl, .inl ⟨_, Sum.inr m.way, .inl upd_same, rfl, by rw [hw]; rfl⟩, _, rfl, l, _, _, 1, rfl, rfl, hl4, rfl, _, rfl, fin _ { m with way := "ask" } t (S4 _) ht4 ⟨lo.n0, lo.n1, IsWay.sok (.inl rfl), lo.s2, lo.s3, lo.s4, lo.s5⟩ (eqvAll_at 1 rfl rfl (eqv_strs (a := m.way) (b := "ask") (by rw [hw]; decide +kernel)))⟩
      · exact absurd hw nf
    · refine ⟨_, rfl, (by show 3 ≤ sizeLine; decide), fun t3 ht3 => ?_⟩
      have S3 : Same H2 (upd H2 t3 (.tup [.int 0, .int 6, .int 7])) := Same.new ht3
      refine ⟨t3, _, rfl, .inr (SqT.of upd_same), rfl, rfl, _, rfl, iteN (by rfl) ?_⟩
      have hp4 := S3 _ _ hp1
      have zL : m.snd.length ≤ sizeLine := sz (Nat.le_trans dm.snd.hi (by decide))
      have sL : (seven m.snd).length + 1 ≤ sizeLine := sz (Nat.le_trans (Nat.succ_le_succ (seven_len _)) (by decide))
      have fz : ∀ u : Str, SOk u → m.snd ≠ seven m.snd ++ u → Q (.ref l) (upd (upd H2 t3 (.tup [.int 0, .int 6, .int 7])) l (.lst ((m.vs t).set 2 (.str (seven m.snd ++ u))))) := fun u su ne => fin _ { m with snd := seven m.snd ++ u } t S3 (S3 _ _ ht1) ⟨lo.n0, lo.n1, lo.s1, ((seven_sok lo.s2).app su), lo.s3, lo.s4, lo.s5⟩ (eqvAll_at 2 rfl rfl (eqv_strs (a := m.snd) (b := seven m.snd ++ u) ne))
      refine ⟨_, rfl, rfl, _, rfl, iteN (neq (by decide)) ⟨_, rfl, rfl, _, rfl, iteN (neq (by decide)) (iteF ⟨_, rfl, rfl, _, rfl, iteN (neq (by decide)) ⟨_, rfl, rfl, _, rfl, iteN (neq (by decide)) ?_⟩⟩)⟩⟩
      refine ⟨_, rfl, _, rfl, p, _, _, _, rfl, rfl, SqL.of (hp4), rfl, _, rfl, _, rfl, _, rfl, zL, rfl, _, rfl, ite2 (fun h1 => ?_) (fun h1 => ?_)⟩
      · have nq : lastS m.snd ≠ "q" := fun e => by
          have e2 : decide (V.str (lastS m.snd) = V.str "q") = true := decide_eq_true (by rw [e])
          have h2 : (!decide (V.str (lastS m.snd) = V.str "q")) = true := h1
          rw [e2] at h2
          cases h2
        refine iteT ⟨_, rfl, _, rfl, p, _, _, _, rfl, rfl, SqL.of (hp4), rfl, _, rfl, _, rfl, zL, _, _, rfl, rfl, sL, _, rfl, _, rfl, l, _, _, 2, rfl, rfl, S3 _ _ hl2, rfl, _, rfl, fz "q" (by unfold SOk; decide +kernel) ?_⟩
        by_cases h8 : m.snd.length < 8
        · exact short_ne h8 (by decide +kernel)
        · exact long_ne (by have := dm.snd.hi; omega) (by decide +kernel) nq
      · have isq : lastS m.snd = "q" := by
          have h2 : ¬ (!decide (V.str (lastS m.snd) = V.str "q")) = true := h1
          by_cases e : lastS m.snd = "q"
          · exact e
          · rw [decide_eq_false (show ¬ V.str (lastS m.snd) = V.str "q" from fun h => e (by injection h))] at h2
            exact absurd rfl h2
        refine ⟨_, rfl, _, rfl, p, _, _, _, rfl, rfl, SqL.of (hp4), rfl, _, rfl, zL, _, _, rfl, rfl, _, rfl, ite2 (fun h8 => ?_) (fun h8 => ?_)⟩
        · have h8' : m.snd.length < 8 := by have := of_decide_eq_true h8; omega
          exact ⟨_, rfl, _, rfl, p, _, _, _, rfl, rfl, SqL.of (hp4), rfl, _, rfl, _, rfl, zL, _, _, rfl, rfl, sL, _, rfl, _, rfl, l, _, _, 2, rfl, rfl, S3 _ _ hl2, rfl, _, rfl, fz "q" (by unfold SOk; decide +kernel) (short_ne h8' (by decide +kernel))⟩
        · have h8' : ¬ m.snd.length < 8 := fun e => h8 (decide_eq_true (by omega))
          exact ⟨_, rfl, _, rfl, p, _, _, _, rfl, rfl, SqL.of (hp4), rfl, _, rfl, _, rfl, zL, _, _, rfl, rfl, sL, _, rfl, _, rfl, l, _, _, 2, rfl, rfl, S3 _ _ hl2, rfl, _, rfl, fz "r" (by unfold SOk; decide +kernel) (long_ne (by have := dm.snd.hi; omega) (by decide +kernel) (by rw [isq]; decide +kernel))⟩
    · refine ⟨_, rfl, (by show 3 ≤ sizeLine; decide), fun t3 ht3 => ?_⟩
      have S3 : Same H2 (upd H2 t3 (.tup [.int 0, .int 6, .int 7])) := Same.new ht3
      refine ⟨t3, _, rfl, .inr (SqT.of upd_same), rfl, rfl, _, rfl, iteN (by rfl) ?_⟩
      have hp4 := S3 _ _ hp1
      have zL : m.gl.length ≤ sizeLine := sz (Nat.le_trans dm.gl.hi (by decide))
      have sL : (seven m.gl).length + 1 ≤ sizeLine := sz (Nat.le_trans (Nat.succ_le_succ (seven_len _)) (by decide))
      have fz : ∀ u : Str, SOk u → m.gl ≠ seven m.gl ++ u → Q (.ref l) (upd (upd H2 t3 (.tup [.int 0, .int 6, .int 7])) l (.lst ((m.vs t).set 3 (.str (seven m.gl ++ u))))) := fun u su ne => fin _ { m with gl := seven m.gl ++ u } t S3 (S3 _ _ ht1) ⟨lo.n0, lo.n1, lo.s1, lo.s2, ((seven_sok lo.s3).app su), lo.s4, lo.s5⟩ (eqvAll_at 3 rfl rfl (eqv_strs (a := m.gl) (b := seven m.gl ++ u) ne))
      refine ⟨_, rfl, rfl, _, rfl, iteN (neq (by decide)) ⟨_, rfl, rfl, _, rfl, iteN (neq (by decide)) (iteF ⟨_, rfl, rfl, _, rfl, iteN (neq (by decide)) ⟨_, rfl, rfl, _, rfl, iteN (neq (by decide)) ?_⟩⟩)⟩⟩
      refine ⟨_, rfl, _, rfl, p, _, _, _, rfl, rfl, SqL.of (hp4), rfl, _, rfl, _, rfl, _, rfl, zL, rfl, _, rfl, ite2 (fun h1 => ?_) (fun h1 => ?_)⟩
      · have nq : lastS m.gl ≠ "q" := fun e => by
          have e2 : decide (V.str (lastS m.gl) = V.str "q") = true := decide_eq_true (by rw [e])
          have h2 : (!decide (V.str (lastS m.gl) = V.str "q")) = true := h1
          rw [e2] at h2
          cases h2
        refine iteT ⟨_, rfl, _, rfl, p, _, _, _, rfl, rfl, SqL.of (hp4), rfl, _, rfl, _, rfl, zL, _, _, rfl, rfl, sL, _, rfl, _, rfl, l, _, _, 3, rfl, rfl, S3 _ _ hl2, rfl, _, rfl, fz "q" (by unfold SOk; decide +kernel) ?_⟩
        by_cases h8 : m.gl.length < 8
        · exact short_ne h8 (by decide +kernel)
        · exact long_ne (by have := dm.gl.hi; omega) (by decide +kernel) nq
      · have isq : lastS m.gl = "q" := by
          have h2 : ¬ (!decide (V.str (lastS m.gl) = V.str "q")) = true := h1
          by_cases e : lastS m.gl = "q"
          · exact e
          · rw [decide_eq_false (show ¬ V.str (lastS m.gl) = V.str "q" from fun h => e (by injection h))] at h2
            exact absurd rfl h2
        refine ⟨_, rfl, _, rfl, p, _, _, _, rfl, rfl, SqL.of (hp4), rfl, _, rfl, zL, _, _, rfl, rfl, _, rfl, ite2 (fun h8 => ?_) (fun h8 => ?_)⟩
        · have h8' : m.gl.length < 8 := by have := of_decide_eq_true h8; omega
          exact ⟨_, rfl, _, rfl, p, _, _, _, rfl, rfl, SqL.of (hp4), rfl, _, rfl, _, rfl, zL, _, _, rfl, rfl, sL, _, rfl, _, rfl, l, _, _, 3, rfl, rfl, S3 _ _ hl2, rfl, _, rfl, fz "q" (by unfold SOk; decide +kernel) (short_ne h8' (by decide +kernel))⟩
        · have h8' : ¬ m.gl.length < 8 := fun e => h8 (decide_eq_true (by omega))
          exact ⟨_, rfl, _, rfl, p, _, _, _, rfl, rfl, SqL.of (hp4), rfl, _, rfl, _, rfl, zL, _, _, rfl, rfl, sL, _, rfl, _, rfl, l, _, _, 3, rfl, rfl, S3 _ _ hl2, rfl, _, rfl, fz "r" (by unfold SOk; decide +kernel) (long_ne (by have := dm.gl.hi; omega) (by decide +kernel) (by rw [isq]; decide +kernel))⟩
    · refine ⟨_, rfl, (by show 3 ≤ sizeLine; decide), fun t3 ht3 => ?_⟩
      have S3 : Same H2 (upd H2 t3 (.tup [.int 0, .int 6, .int 7])) := Same.new ht3
      refine ⟨t3, _, rfl, .inr (SqT.of upd_same), rfl, rfl, _, rfl, iteN (by rfl) ?_⟩
      have hp4 := S3 _ _ hp1
      refine ⟨_, rfl, rfl, _, rfl, iteN (neq (by decide)) ⟨_, rfl, rfl, _, rfl, iteN (neq (by decide)) (iteF ⟨_, rfl, rfl, _, rfl, iteN (neq (by decide)) ⟨_, rfl, rfl, _, rfl, iteY (by rfl) ?_⟩⟩)⟩⟩
      have h1 : ("1" : Str).length = 1 := by decide +kernel
      refine ⟨_, rfl, p, _, _, _, rfl, rfl, SqL.of (hp4), rfl, _, _, rfl, rfl, sz (by have := dm.kyl; omega), _, rfl, l, _, _, 4, rfl, rfl, S3 _ _ hl2, rfl, _, rfl, fin _ { m with ky := m.ky ++ "1" } t S3 (S3 _ _ ht1) ⟨lo.n0, lo.n1, lo.s1, lo.s2, lo.s3, lo.s4.app (by unfold SOk; decide +kernel), lo.s5⟩ (eqvAll_at 4 rfl rfl (eqv_strs (a := m.ky) (b := m.ky ++ "1") fun e => ?_))⟩
      have := congrArg Str.length e
      rw [app_len] at this
      omega
    · refine ⟨_, rfl, (by show 3 ≤ sizeLine; decide), fun t3 ht3 => ?_⟩
      have S3 : Same H2 (upd H2 t3 (.tup [.int 0, .int 6, .int 7])) := Same.new ht3
      refine ⟨t3, _, rfl, .inr (SqT.of upd_same), rfl, rfl, _, rfl, iteN (by rfl) ?_⟩
      have hp4 := S3 _ _ hp1
      have zL : m.fc.length ≤ sizeLine := sz (Nat.le_trans dm.fc.hi (by decide))
      have sL : (seven m.fc).length + 1 ≤ sizeLine := sz (Nat.le_trans (Nat.succ_le_succ (seven_len _)) (by decide))
      have fz : ∀ u : Str, SOk u → m.fc ≠ seven m.fc ++ u → Q (.ref l) (upd (upd H2 t3 (.tup [.int 0, .int 6, .int 7])) l (.lst ((m.vs t).set 5 (.str (seven m.fc ++ u))))) := fun u su ne => fin _ { m with fc := seven m.fc ++ u } t S3 (S3 _ _ ht1) ⟨lo.n0, lo.n1, lo.s1, lo.s2, lo.s3, lo.s4, ((seven_sok lo.s5).app su)⟩ (eqvAll_at 5 rfl rfl (eqv_strs (a := m.fc) (b := seven m.fc ++ u) ne))
      refine ⟨_, rfl, rfl, _, rfl, iteN (neq (by decide)) ⟨_, rfl, rfl, _, rfl, iteN (neq (by decide)) (iteF ⟨_, rfl, rfl, _, rfl, iteN (neq (by decide)) ⟨_, rfl, rfl, _, rfl, iteN (neq (by decide)) ?_⟩⟩)⟩⟩
      refine ⟨_, rfl, _, rfl, p, _, _, _, rfl, rfl, SqL.of (hp4), rfl, _, rfl, _, rfl, _, rfl, zL, rfl, _, rfl, ite2 (fun h1 => ?_) (fun h1 => ?_)⟩
      · have nq : lastS m.fc ≠ "q" := fun e => by
          have e2 : decide (V.str (lastS m.fc) = V.str "q") = true := decide_eq_true (by rw [e])
          have h2 : (!decide (V.str (lastS m.fc) = V.str "q")) = true := h1
          rw [e2] at h2
          cases h2
        refine iteT ⟨_, rfl, _, rfl, p, _, _, _, rfl, rfl, SqL.of (hp4), rfl, _, rfl, _, rfl, zL, _, _, rfl, rfl, sL, _, rfl, _, rfl, l, _, _, 5, rfl, rfl, S3 _ _ hl2, rfl, _, rfl, fz "q" (by unfold SOk; decide +kernel) ?_⟩
        by_cases h8 : m.fc.length < 8
        · exact short_ne h8 (by decide +kernel)
        · exact long_ne (by have := dm.fc.hi; omega) (by decide +kernel) nq
      · have isq : lastS m.fc = "q" := by
          have h2 : ¬ (!decide (V.str (lastS m.fc) = V.str "q")) = true := h1
          by_cases e : lastS m.fc = "q"
          · exact e
          · rw [decide_eq_false (show ¬ V.str (lastS m.fc) = V.str "q" from fun h => e (by injection h))] at h2
            exact absurd rfl h2
        refine ⟨_, rfl, _, rfl, p, _, _, _, rfl, rfl, SqL.of (hp4), rfl, _, rfl, zL, _, _, rfl, rfl, _, rfl, ite2 (fun h8 => ?_) (fun h8 => ?_)⟩
        · have h8' : m.fc.length < 8 := by have := of_decide_eq_true h8; omega
          exact ⟨_, rfl, _, rfl, p, _, _, _, rfl, rfl, SqL.of (hp4), rfl, _, rfl, _, rfl, zL, _, _, rfl, rfl, sL, _, rfl, _, rfl, l, _, _, 5, rfl, rfl, S3 _ _ hl2, rfl, _, rfl, fz "q" (by unfold SOk; decide +kernel) (short_ne h8' (by decide +kernel))⟩
        · have h8' : ¬ m.fc.length < 8 := fun e => h8 (decide_eq_true (by omega))
          exact ⟨_, rfl, _, rfl, p, _, _, _, rfl, rfl, SqL.of (hp4), rfl, _, rfl, _, rfl, zL, _, _, rfl, rfl, sL, _, rfl, _, rfl, l, _, _, 5, rfl, rfl, S3 _ _ hl2, rfl, _, rfl, fz "r" (by unfold SOk; decide +kernel) (long_ne (by have := dm.fc.hi; omega) (by decide +kernel) (by rw [isq]; decide +kernel))⟩
    · refine ⟨_, rfl, (by show 3 ≤ sizeLine; decide), fun t3 ht3 => ?_⟩
      have S3 : Same H2 (upd H2 t3 (.tup [.int 0, .int 6, .int 7])) := Same.new ht3
      refine ⟨t3, _, rfl, .inr (SqT.of upd_same), rfl, rfl, _, rfl, iteY (by rfl) ?_⟩
      refine ⟨_, rfl, _, rfl, p, _, _, _, rfl, rfl, SqL.of (S3 _ _ hp1), rfl, _, rfl, (by show 2 ≤ sizeLine; decide), fun q hq => ?_⟩
      have S4 : Same H2 (upd (upd H2 t3 (.tup [.int 0, .int 6, .int 7])) q (.lst [.int 1, .int (-1)])) := S3.trans (Same.new hq)
      refine ⟨_, rfl, _, rfl, p, _, _, _, rfl, rfl, SqL.of (S4 _ _ hp1), rfl, _, _, rfl, rfl, .inr ⟨_, rfl, ?_⟩⟩
      cases hg : decide (1 < m.ed) with
      | true =>
        have g := of_decide_eq_true hg
        exact ⟨q, _, _, _, rfl, rfl, SqL.of upd_same, rfl, _, _, rfl, rfl, _, rfl, _, rfl, l, _, _, 6, rfl, rfl, S4 _ _ hl2, rfl, _, rfl, fin _ { m with ed := m.ed + -1 } t S4 (S4 _ _ ht1) ⟨lo.n0, lo.n1, lo.s1, lo.s2, lo.s3, lo.s4, lo.s5⟩ (eqvAll_at 6 rfl rfl (eqv_ints (a := m.ed) (b := m.ed + -1) (by omega)))⟩
      | false =>
        have g := of_decide_eq_false hg
        exact ⟨q, _, _, _, rfl, rfl, SqL.of upd_same, rfl, _, _, rfl, rfl, _, rfl, _, rfl, l, _, _, 6, rfl, rfl, S4 _ _ hl2, rfl, _, rfl, fin _ { m with ed := m.ed + 1 } t S4 (S4 _ _ ht1) ⟨lo.n0, lo.n1, lo.s1, lo.s2, lo.s3, lo.s4, lo.s5⟩ (eqvAll_at 6 rfl rfl (eqv_ints (a := m.ed) (b := m.ed + 1) (by omega)))⟩
    · refine ⟨_, rfl, (by show 3 ≤ sizeLine; decide), fun t3 ht3 => ?_⟩
      have S3 : Same H2 (upd H2 t3 (.tup [.int 0, .int 6, .int 7])) := Same.new ht3
      refine ⟨t3, _, rfl, .inr (SqT.of upd_same), rfl, rfl, _, rfl, iteY (by rfl) ?_⟩
      refine ⟨_, rfl, _, rfl, p, _, _, _, rfl, rfl, SqL.of (S3 _ _ hp1), rfl, _, rfl, (by show 2 ≤ sizeLine; decide), fun q hq => ?_⟩
      have S4 : Same H2 (upd (upd H2 t3 (.tup [.int 0, .int 6, .int 7])) q (.lst [.int 1, .int (-1)])) := S3.trans (Same.new hq)
      refine ⟨_, rfl, _, rfl, p, _, _, _, rfl, rfl, SqL.of (S4 _ _ hp1), rfl, _, _, rfl, rfl, .inr ⟨_, rfl, ?_⟩⟩
      cases hg : decide (1 < m.cl) with
      | true =>
        have g := of_decide_eq_true hg
        exact ⟨q, _, _, _, rfl, rfl, SqL.of upd_same, rfl, _, _, rfl, rfl, _, rfl, _, rfl, l, _, _, 7, rfl, rfl, S4 _ _ hl2, rfl, _, rfl, fin _ { m with cl := m.cl + -1 } t S4 (S4 _ _ ht1) ⟨lo.n0, lo.n1, lo.s1, lo.s2, lo.s3, lo.s4, lo.s5⟩ (eqvAll_at 7 rfl rfl (eqv_ints (a := m.cl) (b := m.cl + -1) (by omega)))⟩
      | false =>
        have g := of_decide_eq_false hg
        exact ⟨q, _, _, _, rfl, rfl, SqL.of upd_same, rfl, _, _, rfl, rfl, _, rfl, _, rfl, l, _, _, 7, rfl, rfl, S4 _ _ hl2, rfl, _, rfl, fin _ { m with cl := m.cl + 1 } t S4 (S4 _ _ ht1) ⟨lo.n0, lo.n1, lo.s1, lo.s2, lo.s3, lo.s4, lo.s5⟩ (eqvAll_at 7 rfl rfl (eqv_ints (a := m.cl) (b := m.cl + 1) (by omega)))⟩
    · refine ⟨_, rfl, (by show 3 ≤ sizeLine; decide), fun t3 ht3 => ?_⟩
      have S3 : Same H2 (upd H2 t3 (.tup [.int 0, .int 6, .int 7])) := Same.new ht3
      refine ⟨t3, _, rfl, .inr (SqT.of upd_same), rfl, rfl, _, rfl, iteN (by rfl) ?_⟩
      have hp4 := S3 _ _ hp1
      have ht4 := S3 _ _ ht1
      have hl4 := S3 _ _ hl2
      refine ⟨_, rfl, rfl, _, rfl, iteN (neq (by decide)) ⟨_, rfl, rfl, _, rfl, iteY (by rfl) ⟨_, rfl, p, _, _, _, rfl, rfl, SqL.of (hp4), rfl, rfl, _, rfl, ite2 (fun hf => ?_) (fun hf => ?_)⟩⟩⟩
      · have hw : m.way = "fault" := by
          have := of_decide_eq_true hf
          injection this
        have hb := dm.fault hw
        obtain ⟨xs, x, hxs⟩ : ∃ xs x, m.body = xs ++ [x] := ⟨m.body.dropLast, m.body.getLast hb, (List.dropLast_concat_getLast hb).symm⟩
        rw [hxs] at ht4
        have i1 : HT.sIx ((xs ++ [x]).map V.int).length ((xs ++ [x]).map V.int).length (some (-1)) = xs.length := by
          rw [List.length_map, List.length_append]
          show (if (-1 : Int) < 0 then ((-1 : Int) + ((xs.length + 1 : Nat) : Int)).toNat else min (-1 : Int).toNat (xs.length + 1)) = _
          rw [if_pos (by decide)]
          omega
        have cutE : cutV ((xs ++ [x]).map V.int) none (some (-1)) = xs.map V.int := by
          unfold cutV
          rw [i1]
          show (((xs ++ [x]).map V.int).drop 0).take (xs.length - 0) = _
          rw [List.drop_zero, Nat.sub_zero, List.map_append, List.take_append_of_le_length (by rw [List.length_map]; exact Nat.le_refl _), List.take_of_length_le (by rw [List.length_map]; exact Nat.le_refl _)]
        have lastE : atI ((xs ++ [x]).map V.int) (-1) = some (.int x) := last_at xs x
        have lx : xs.length + 1 ≤ 40 := by
          have := dm.bl
          rw [hxs, List.length_append] at this
          exact this
        refine ⟨_, rfl, p, _, _, _, rfl, rfl, SqL.of (hp4), rfl, _, rfl, _, rfl, t, _, rfl, SqT.of ht4, fun hwh => absurd (i1.symm.trans hwh.2) (by rw [List.length_map, List.length_append]; simp), fun _ c hc => ?_⟩
        rw [cutE]
        have S5 := S3.trans (Same.new (o := .tup (xs.map V.int)) hc)
        have ht5 := Same.new (o := .tup (xs.map V.int)) hc _ _ ht4
        refine ⟨_, rfl, p, _, _, _, rfl, rfl, SqL.of (Same.new (o := .tup (xs.map V.int)) hc _ _ hp4), rfl, _, rfl, t, _, _, _, rfl, rfl, SqT.of ht5, lastE, _, _, rfl, rfl, _, _, rfl, rfl, (by show (0 : Int) < 26; decide), _, _, rfl, rfl, (by show 1 ≤ sizeLine; decide), fun t9 ht9 => ?_⟩
        have S6 := S5.trans (Same.new (o := .tup [.int (97 + (x - 96) % 26)]) ht9)
        have hc6 := Same.new (o := .tup [.int (97 + (x - 96) % 26)]) ht9 _ _ (upd_same (H := upd H2 t3 (.tup [.int 0, .int 6, .int 7])) (a := c) (o := .tup (xs.map V.int)))
        have ne : m.body ≠ xs ++ [97 + (x - 96) % 26] := fun e => by
          rw [hxs] at e
          have e2 := List.append_cancel_left e
          injection e2 with e3
          omega
        have fin2 : ∀ (H5 : Hp) (t' : Addr), Same H2 H5 → H5 t' = some (.tup ((xs ++ [97 + (x - 96) % 26]).map V.int)) → Q (.ref l) (upd H5 l (.lst ((m.vs t).set 8 (.ref t')))) := fun H5 t' S5 h5 => fin H5 { m with body := xs ++ [97 + (x - 96) % 26] } t' S5 h5 ⟨lo.n0, lo.n1, lo.s1, lo.s2, lo.s3, lo.s4, lo.s5⟩ (eqvAll_at 8 rfl rfl (eqv_tups ne))
        refine ⟨c, t9, _, _, rfl, rfl, SqT.of hc6, SqT.of upd_same, sz (by rw [List.length_map]; show xs.length + 1 ≤ 100; omega), fun h0 => ?_, fun _ h2 => absurd h2 (by simp), fun _ _ tN htN => ?_⟩
        · refine ⟨_, rfl, l, _, _, 8, rfl, rfl, S6 _ _ hl2, rfl, _, rfl, fin2 _ t9 S6 ?_⟩
          have hx0 : xs = [] := List.map_eq_nil_iff.mp h0
          rw [hx0]
          exact upd_same
        · have S7 := S6.trans (Same.new (o := .tup (xs.map V.int ++ [.int (97 + (x - 96) % 26)])) htN)
          refine ⟨_, rfl, l, _, _, 8, rfl, rfl, S7 _ _ hl2, rfl, _, rfl, fin2 _ tN S7 ?_⟩
          rw [upd_same, List.map_append]
          rfl
      · refine ⟨_, rfl, rfl, _, rfl, iteY (by rfl) ?_⟩
        refine ⟨_, rfl, p, _, _, _, rfl, rfl, SqL.of (hp4), rfl, (by show 3 ≤ sizeLine; decide), fun t9 ht9 => ?_⟩
        have S6 := S3.trans (Same.new (o := .tup [.int 30, .int 1, .int 0]) ht9)
        have ne : m.body ≠ m.body ++ [30, 1, 0] := fun e => by
          have := congrArg List.length e
          rw [List.length_append] at this
          simp at this
        have fin2 : ∀ (H5 : Hp) (t' : Addr), Same H2 H5 → H5 t' = some (.tup ((m.body ++ [30, 1, 0]).map V.int)) → Q (.ref l) (upd H5 l (.lst ((m.vs t).set 8 (.ref t')))) := fun H5 t' S5 h5 => fin H5 { m with body := m.body ++ [30, 1, 0] } t' S5 h5 ⟨lo.n0, lo.n1, lo.s1, lo.s2, lo.s3, lo.s4, lo.s5⟩ (eqvAll_at 8 rfl rfl (eqv_tups ne))
        refine ⟨t, t9, _, _, rfl, rfl, SqT.of (S6 _ _ ht1), SqT.of upd_same, sz (by rw [List.length_map]; have := dm.bl; show m.body.length + 3 ≤ 100; omega), fun h0 => ?_, fun _ h2 => absurd h2 (by simp), fun _ _ tN htN => ?_⟩
        · refine ⟨_, rfl, l, _, _, 8, rfl, rfl, S6 _ _ hl2, rfl, _, rfl, fin2 _ t9 S6 ?_⟩
          have hx0 : m.body = [] := List.map_eq_nil_iff.mp h0
          rw [hx0]
          exact upd_same
        · have S7 := S6.trans (Same.new (o := .tup (m.body.map V.int ++ [.int 30, .int 1, .int 0])) htN)
          refine ⟨_, rfl, l, _, _, 8, rfl, rfl, S7 _ _ hl2, rfl, _, rfl, fin2 _ tN S7 ?_⟩
          rw [upd_same, List.map_append]
          rfl
end
end Fh

set_option Elab.async false
set_option linter.all false
set_option maxRecDepth 100000
set_option maxHeartbeats 4000000
namespace Fh
open PySem PySem.Spec PyProof.Rows
/-! ### set(a list of unlike keys of any one kind) -/
section
variable {prog : Program} {w : World} {A : Around} {κ : Type} [DecidableEq κ] {knd : PySem.KeyKind prog w κ} {ks : List κ}
/-- v is the i-th key -/
def KeyAt (knd : PySem.KeyKind prog w κ) (ks : List κ) (i : Nat) (v : Value) : Prop := ∃ k, ks[i]? = some k ∧ knd.is k v = true ∧ v.scannable = true
theorem not_met (nd : ks.Nodup) {i : Nat} {k : κ} (h : ks[i]? = some k) : decide (k ∈ ks.take i) = false := by
  refine decide_eq_false fun hm => ?_
  obtain ⟨j, hj, e⟩ := List.mem_take_iff_getElem.mp hm
  obtain ⟨hi, e2⟩ := List.getElem?_eq_some_iff.mp h
  exact List.pairwise_iff_getElem.mp nd j i (by omega) hi (by omega) (e.trans e2.symm)
theorem fill {R : Result → Shared → Prop} {I S : Addr} {fp wr : List Addr} {G : Array GenState → Array GenState → Prop} {P : Nat → Value → Prop} {St : Nat → Shared → Prop} {s0 : Shared}
    (W : WalksS prog w A.in1 I fp wr G ks.length P St) (hS : S ∉ fp) (nd : ks.Nodup) (hb : ks.length + 1 < scanBound) (hk : ∀ i v, P i v → KeyAt knd ks i v)
    (fin : ∀ s', Moved (S :: wr) G s0 s' → s'.heap.SetOf knd S (fun k => decide (k ∈ ks)) ks.length → R (.ok (.ret .none)) s') :
    ∀ (d i : Nat) (s : Shared), i + d = ks.length → St i s → Moved (S :: wr) G s0 s → s.heap.SetOf knd S (fun k => decide (k ∈ ks.take i)) i →
      codeAny (model prog w) A (.builtin "set.update.loop" ⟨[.ref S, .ref I], []⟩) R s := by
  have out : S ∉ wr := fun h => hS (W.sub _ h)
  have more : ∀ {s1 s2 : Shared}, Moved wr G s1 s2 → Moved (S :: wr) G s1 s2 := fun m => m.mono fun b hb => List.mem_cons_of_mem _ hb
  have stay : ∀ {s1 s2 : Shared} {T : κ → Bool} {n : Nat}, Moved wr G s1 s2 → s1.heap.SetOf knd S T n → s2.heap.SetOf knd S T n := fun m ⟨o, es, ep, t, ho, r⟩ => ⟨o, es, ep, t, m.heap S _ out ho, r⟩
  intro d
  induction d with
  | zero =>
    intro i s e st mv so
    have ei : i = ks.length := by omega
    rw [ei] at st so
    rw [List.take_length] at so
    refine codeAny_builtin PyProof.Rows.F.entry_set_update_loop ?_
    rw [Around.under_plainId PyProof.Rows.F.plain_set_update_loop _]
    exact wpAny_bind (m := pyNext (.ref I)) (W.done s _ _ st fun s1 m1 => wpAny_pure (fin s1 (Moved.trans W.gtrans mv (more m1)) (stay m1 so)))
  | succ d ih =>
    intro i s e st mv so
    refine codeAny_builtin PyProof.Rows.F.entry_set_update_loop ?_
    rw [Around.under_plainId PyProof.Rows.F.plain_set_update_loop _]
    refine wpAny_bind (m := pyNext (.ref I)) (W.item i s _ _ (by omega) st fun v s1 pv st1 m1 => ?_)
    obtain ⟨k, hki, his, hsc⟩ := hk i v pv
    have fresh := not_met nd hki
    have so1 := stay m1 so
    refine wpAny_bind (m := holding [v] (setAdd S v)) (wpAny_holding (wpAny_holding (wpAny_bind (knd.pyHash his (wpAny_setAddHashed_of (s := { s1 with toks := s1.toks + 1 }) his hsc so1 (by omega) fun h2 hsb so2 => ?_)))))
    rw [fresh] at so2
    have so3 : h2.SetOf knd S (fun k' => decide (k' ∈ ks.take (i + 1))) (i + 1) := by
      have e2 : (fun k' => decide (k' ∈ ks.take i) || decide (k' = k)) = fun k' => decide (k' ∈ ks.take (i + 1)) := by
        funext k'
        rw [List.take_succ, hki, ← Bool.decide_or]
        simp
      rw [← e2]
      exact so2
    have other : ∀ b o, b ≠ S → s1.heap.get? b = some o → h2.get? b = some o := fun b o n g => by rw [hsb.2 b n]; exact g
    refine wpAny_pure ⟨plainId_quiet PyProof.Rows.F.plain_set_update_loop _, ih (i + 1) _ (by omega) (W.frame _ s1 _ _ st1 (Nat.le_succ _) fun b hb o g => other b o (fun h => hS (h ▸ hb)) g) (Moved.trans W.gtrans mv ((more m1).then_heap (Nat.le_succ _) fun b o hb g => other b o (fun h => hb (h ▸ List.mem_cons_self)) g)) so3⟩
/-- set.__init__ of a new set, with a list -/
theorem init_list {R : Value → Shared → Prop} {E : Value → Shared → Prop} {s : Shared} {S l : Addr} {items : Array Value} {led : Bool} (hh : A.handled = none) (hl : s.heap.IsList l items) (hS : s.heap.get? S = some { cls := .type "set", dict := none, data := .set #[] 0 (.fresh 0 0 led) })
    (nd : ks.Nodup) (hn : items.size = ks.length) (hb : ks.length + 1 < scanBound) (hk : ∀ i v, items[i]? = some v → KeyAt knd ks i v)
    (fin : ∀ (h' : Heap) (tk : Nat), h'.SetOf knd S (fun k => decide (k ∈ ks)) ks.length → (∀ b o, b ≠ S → s.heap.get? b = some o → h'.get? b = some o) → R .none { s with heap := h', toks := tk }) :
    codeAny (model prog w) A (.call (.builtin "set.__init__") ⟨[.ref S, .ref l], []⟩) (wants R E) s := by
  refine codeAny_call_builtin F.called_set.init.plain F.entry_set_init (check_set_init_1 ⟨_, hS, rfl⟩ ?_)
  have hl0 := hl
  obtain ⟨⟨oc, od, odt, osl⟩, hol, hcl, nl, hdl⟩ := hl
  dsimp only at hcl hdl
  subst hcl
  subst hdl
  have q1 := F.sub_list_set
  have q2 := F.sub_list_frozenset
  have q3 : (Value.type "list" == Value.type "dict") = false := by decide
  have lS : l ≠ S := fun e => by
    rw [e, hS] at hol
    have c := congrArg Obj.cls (Option.some.inj hol)
    exact absurd (show Value.type "set" = Value.type "list" from c) (by decide)
  unfold Builtin.«set.__init__» noKeywords Builtin.Frozenset.updateFrom
  generalize hit : pyIter = it
  wp_walk
  subst hit
  refine wpAny_pyIter_list hl0 (wpAny_bind (wpAny_runValue ?_))
  have n1 : l ≠ s.heap.objs.size := Nat.ne_of_lt (Heap.lt_size hol)
  have n2 : S ≠ s.heap.objs.size := Nat.ne_of_lt (Heap.lt_size hS)
  have h3 : A.in1.in1.handled = none := by simp [hh]
  have keep : ∀ {b : Addr} {o : Obj}, s.heap.get? b = some o → (s.heap.push { cls := .type "list_iterator", data := .fields #[.ref l, .int 0 0] }).get? b = some o := fun e => Heap.get?_push_of_some _ e
  have W := (Walks.list (prog := prog) (w := w) h3 s.heap.objs.size l n1 items).toS
  rw [hn] at W
  refine fill (knd := knd) (s0 := { s with heap := s.heap.push { cls := .type "list_iterator", data := .fields #[.ref l, .int 0 0] } }) W (S := S) (by simp [n2, lS.symm]) nd hb hk (fun s' mv so => ?_) ks.length 0 _ (Nat.zero_add _) ⟨⟨_, Heap.get?_push_size _ rfl, rfl, rfl⟩, hl0.push _⟩ ⟨fun _ _ _ e => e, W.grefl _, rfl, rfl, Nat.le_refl _⟩ ?_
  · obtain ⟨h', g', d', tk', os'⟩ := s'
    have eg : g' = s.gens := mv.gens
    have ed : d' = s.drawn := mv.drawn
    have eo : os' = s.os := mv.os
    subst eg
    subst ed
    subst eo
    exact wpAny_pure (wpAny_pure (fin h' tk' so fun b o nb e => mv.heap b o (by simp only [List.mem_cons, List.not_mem_nil, or_false, not_or]; exact ⟨nb, Nat.ne_of_lt (Heap.lt_size e)⟩) (keep e)))
  · have z := (setObjOf_fresh (knd := knd) led).setOf (keep hS) (by unfold scanBound; omega)
    have e0 : (fun k => decide (k ∈ ks.take 0)) = fun _ : κ => false := by funext k; simp
    rw [e0]
    exact z
/-- set(a list) -/
theorem call_set_keys {E : Value → Shared → Prop} {s : Shared} {l : Addr} {items : Array Value} {Q : Value → Shared → Prop} (hh : A.handled = none) (hl : s.heap.IsList l items) (nd : ks.Nodup) (hn : items.size = ks.length) (hb : ks.length + 1 < scanBound) (hk : ∀ i v, items[i]? = some v → KeyAt knd ks i v)
    (h : ∀ (h' : Heap) (tk : Nat), h'.SetOf knd s.heap.objs.size (fun k => decide (k ∈ ks)) ks.length → (∀ b o, s.heap.get? b = some o → h'.get? b = some o) → Q (.ref s.heap.objs.size) { s with heap := h', toks := tk }) : wpAny (model prog w) A (call (.type "set") [.ref l]) Q E s := by
  obtain ⟨c, tl, m1⟩ := F.called_set.mro
  have m2 := F.called_set.made
  have m3 := F.called_set.sub
  have m4 := F.called_set.notType
  have m5 := F.called_set.canCreate
  have m6 := F.typeCall_set_1 (.ref l)
  refine wpAny_call (codeAny_of_tree (wpAny_pure ⟨Code.quiet_builtin _ (by decide +kernel), codeAny_builtin F.entry_type_call ?_⟩))
  rw [Around.under_plain (weight_type_call_type "set" [.ref l] []) rfl]
  repeat (any_goals (first | assumption | wp_step))
  refine codeAny_mono (code_set_new_1 (.ref l) (E := E) (Q₁ := fun v s1 => ∃ led : Bool, v = .ref s.heap.objs.size ∧ s1 = { s with heap := s.heap.push { cls := .type "set", dict := none, data := .set #[] 0 (.fresh 0 0 led) } }) fun led => ⟨led, rfl, rfl⟩) fun r s1 hr => ?_
  rcases r with e | fl
  · exact hr
  · cases fl with
    | ret obj =>
      obtain ⟨led, rfl, rfl⟩ := hr
      have at0 : (s.heap.push { cls := .type "set", dict := none, data := .set #[] 0 (.fresh 0 0 led) }).get? s.heap.objs.size = some { cls := .type "set", dict := none, data := .set #[] 0 (.fresh 0 0 led) } := Heap.get?_push_size _ rfl
      have ty0 : Shared.TypeIs { s with heap := s.heap.push { cls := .type "set", dict := none, data := .set #[] 0 (.fresh 0 0 led) } } (.ref s.heap.objs.size) "set" := ⟨_, at0, rfl⟩
      have i1 := F.called_set.init.lookup
      have i2 := F.called_set.init.bind (.ref s.heap.objs.size)
      repeat (any_goals (first | assumption | wp_step))
      refine codeAny_mono (init_list (knd := knd) (E := E) (R := fun v s2 => v = .none ∧ ∃ h' tk, s2 = { s with heap := h', toks := tk } ∧ h'.SetOf knd s.heap.objs.size (fun k => decide (k ∈ ks)) ks.length ∧ ∀ b o, s.heap.get? b = some o → h'.get? b = some o) (by simp [hh]) (hl.push _) at0 nd hn hb hk fun h' tk so keep => ⟨rfl, h', tk, rfl, so, fun b o e => keep b o (Nat.ne_of_lt (Heap.lt_size e)) (Heap.get?_push_of_some _ e)⟩) fun r2 s2 hr2 => ?_
      rcases r2 with e | fl2
      · exact hr2
      · cases fl2 with
        | ret v =>
          obtain ⟨rfl, h', tk, rfl, so, keep⟩ := hr2
          repeat (any_goals (first | assumption | wp_step))
          exact h h' tk so keep
        | _ => exact hr2.elim
    | _ => exact hr.elim
end
end Fh

set_option Elab.async false
set_option linter.all false
set_option maxRecDepth 100000
set_option maxHeartbeats 4000000
namespace Fh
open PySem L2 PyProof.Rows
/-! ### numbers as texts -/
abbrev nt (i : Int) : Str := Str.ofString (toString i)
theorem nt_codes {i : Int} (h : 0 ≤ i) : (nt i).cps.toList = (Nat.toDigits 10 i.toNat).map Char.toNat := by
  obtain ⟨m, rfl⟩ := Int.eq_ofNat_of_zero_le h
  exact PySem.W.KIN.signs_num m
theorem nt_len {i : Int} (h : 0 ≤ i) (h1 : i < 10 ^ 8) : (nt i).length ≤ 8 := by
  show (nt i).cps.size ≤ 8
  rw [← Array.length_toList, nt_codes h, List.length_map]
  exact digits10_le (by decide) (by omega)
theorem nt_digit {i : Int} (h : 0 ≤ i) {c : Nat} (hc : c ∈ (nt i).cps.toList) : 48 ≤ c ∧ c ≤ 57 := by
  rw [nt_codes h] at hc
  obtain ⟨ch, hm, rfl⟩ := List.mem_map.mp hc
  have hd := Nat.isDigit_of_mem_toDigits (by decide) (by decide) hm
  have h2 := Bool.and_eq_true_iff.mp (show (decide (ch.val ≥ 48) && decide (ch.val ≤ 57)) = true from hd)
  have a := of_decide_eq_true h2.1
  have b := of_decide_eq_true h2.2
  exact ⟨UInt32.le_iff_toNat_le.mp a, UInt32.le_iff_toNat_le.mp b⟩
theorem nt_inj {i j : Int} (h : 0 ≤ i) (h2 : 0 ≤ j) (e : nt i = nt j) : i = j := by
  have e2 : (Nat.toDigits 10 i.toNat).map Char.toNat = (Nat.toDigits 10 j.toNat).map Char.toNat := by rw [← nt_codes h, ← nt_codes h2, e]
  have e3 : i.toNat = j.toNat := by rw [← PySem.W.KIN.val_back i.toNat, e2, PySem.W.KIN.val_back]
  omega
theorem cut_inj {p : Nat → Prop} : ∀ {a c b d : List Nat}, (∀ x ∈ a, p x) → (∀ x ∈ c, p x) → (∀ x ∈ b, ¬ p x) → (∀ x ∈ d, ¬ p x) → a ++ b = c ++ d → a = c ∧ b = d
  | [], [], _, _, _, _, _, _, e => ⟨rfl, e⟩
  | [], y :: c, b, d, _, hc, hb, _, e => by
    rw [List.nil_append] at e
    exact absurd (hc y List.mem_cons_self) (hb y (by rw [e]; exact List.mem_cons_self))
  | x :: a, [], b, d, ha, _, _, hd, e => by
    rw [List.nil_append] at e
    exact absurd (ha x List.mem_cons_self) (hd x (by rw [← e]; exact List.mem_cons_self))
  | x :: a, y :: c, b, d, ha, hc, hb, hd, e => by
    rw [List.cons_append, List.cons_append] at e
    injection e with e1 e2
    obtain ⟨h1, h2⟩ := cut_inj (fun z hz => ha z (List.mem_cons_of_mem _ hz)) (fun z hz => hc z (List.mem_cons_of_mem _ hz)) hb hd e2
    exact ⟨by rw [e1, h1], h2⟩
theorem str_ext {a b : Str} (h : a.cps.toList = b.cps.toList) : a = b := by
  cases a with
  | mk x => cases b with
    | mk y => exact congrArg Str.mk (Array.toList_inj.mp h)
theorem key_inj {y z : Str} {i j : Int} (hy : Nm y) (hz : Nm z) (hi : 0 ≤ i) (hj : 0 ≤ j) (e : y ++ nt i = z ++ nt j) : y = z ∧ i = j := by
  have e2 : y.cps.toList ++ (nt i).cps.toList = z.cps.toList ++ (nt j).cps.toList := by rw [← app_codes, ← app_codes, e]
  obtain ⟨h1, h2⟩ := cut_inj (p := fun c => 97 ≤ c) (fun x hx => (hy.sg x hx).1) (fun x hx => (hz.sg x hx).1) (fun x hx => by have := (nt_digit hi hx).2; omega) (fun x hx => by have := (nt_digit hj hx).2; omega) e2
  exact ⟨str_ext h1, nt_inj hi hj (str_ext h2)⟩
theorem app_cancel {a s t : Str} (e : a ++ s = a ++ t) : s = t := by
  have e2 : a.cps.toList ++ s.cps.toList = a.cps.toList ++ t.cps.toList := by rw [← app_codes, ← app_codes, e]
  exact str_ext (List.append_cancel_left e2)
/-! ### the last dot -/
theorem dot_one : ("." : Str) = ⟨#[46]⟩ := by decide +kernel
theorem rpart {a r : Str} (h : 46 ∉ r.cps.toList) : (Txt.rpartition ((a ++ ".") ++ r) ".").1 = a := by
  rw [dot_one]
  have codes : ((a ++ (⟨#[46]⟩ : Str)) ++ r).cps.toList = a.cps.toList ++ 46 :: r.cps.toList := by
    rw [app_codes, app_codes]
    simp
  have al : a.cps.toList.length = a.length := Array.length_toList
  have isAt : ∀ i, StrLaws.At ((a ++ (⟨#[46]⟩ : Str)) ++ r) ⟨#[46]⟩ ((a ++ (⟨#[46]⟩ : Str)) ++ r).length i ↔ (a.cps.toList ++ 46 :: r.cps.toList)[i]? = some 46 := fun i => by
    rw [← codes]
    exact StrLaws.subAt_one _ 46 i
  have here : (a.cps.toList ++ 46 :: r.cps.toList)[a.length]? = some 46 := by
    rw [List.getElem?_append_right (by omega), al, Nat.sub_self]
    rfl
  unfold Txt.rpartition
  rcases StrLaws.last_spec ((a ++ (⟨#[46]⟩ : Str)) ++ r) ⟨#[46]⟩ with ⟨_, no⟩ | ⟨i, e, at_, no⟩
  · exact absurd ((isAt _).mpr here) (no _)
  · rw [e]
    have hi : i = a.length := by
      rcases Nat.lt_trichotomy i a.length with g | g | g
      · exact absurd ((isAt _).mpr here) (no _ g)
      · exact g
      · have q := (isAt i).mp at_
        rw [List.getElem?_append_right (by omega), al] at q
        have e2 : i - a.length = (i - a.length - 1) + 1 := by omega
        rw [e2, List.getElem?_cons_succ] at q
        exact absurd (List.mem_of_getElem? q) h
    rw [hi]
    refine str_ext ?_
    show (((a ++ (⟨#[46]⟩ : Str)) ++ r).cps.extract 0 a.length).toList = _
    rw [Array.toList_extract, codes]
    show ((a.cps.toList ++ 46 :: r.cps.toList).drop 0).take (a.length - 0) = _
    rw [List.drop_zero, Nat.sub_zero, ← al, List.take_left]
/-- x.rpartition(sep) -/
def rRpart : V → List V → Hp → VK → Prop := fun x xs H Q => ∃ a b, x = .str a ∧ xs = [.str b] ∧ (b.length == 0) = false ∧ a.length ≤ sizeLine ∧ ∀ p, H p = none → Q (.ref p) (upd H p (.tup [.str (Txt.rpartition a b).1, .str (Txt.rpartition a b).2.1, .str (Txt.rpartition a b).2.2]))
theorem mt_rpart {X : Cx} : MtR X "str.rpartition" rRpart := by
  intro pins s σ H x xs v us Q I rx rs h
  obtain ⟨a, b, rfl, rfl, hb, hz, h⟩ := h
  obtain ⟨t, rfl⟩ := rx
  obtain ⟨u', rfl, r1⟩ := vals1 rs
  obtain ⟨u, rfl⟩ := r1
  refine call_meets F.slot_str_rpartition (typeIs_str s a t) F.entry_str_rpartition (F.args_str_rpartition_2 _ _) (meets_str_rpartition a b t u hb hz) ?_
  unfold Txt.rpartition at h
  generalize Builtin.Str.lastOccurrence a b 0 a.length = o at h ⊢
  cases o with
  | none => exact laid_parts I h
  | some i => exact laid_parts I h
/-! ### len(set(unlike texts)) -/
def tLenSetS (K : PySem.W.Frag) (ta : TE) : TE := fun σ H Q => ta σ H fun x H1 => ∃ (l : Addr) (zs : List Str), x = .ref l ∧ SqL K H1 l (zs.map V.str) ∧ zs.Nodup ∧ zs.length ≤ 1000 ∧ Q (.int (zs.length : Nat)) H1
theorem strs_key {prog : Program} {w : World} : ∀ {zs : List Str} {us : List Value}, Vals (zs.map V.str) us → ∀ i v, us[i]? = some v → KeyAt (PySem.strKind prog w) zs i v
  | [], _, .nil, i, v, h => by simp at h
  | z :: zs, _, .cons r t, 0, v, h => by
    obtain ⟨k, rfl⟩ := r
    simp at h
    subst h
    exact ⟨z, rfl, strKind_is _ _ _ _, rfl⟩
  | z :: zs, _, .cons r t, i + 1, v, h => by
    obtain ⟨k, h1, h2⟩ := strs_key (prog := prog) (w := w) t i v (by simpa using h)
    exact ⟨k, by simpa using h1, h2⟩
theorem pe_lenSetS {X : Cx} {a : Expr} {ta : TE} {p p2 q pos : Pos} (hc : X.calm = true) (hg : Gl X "len") (hm : X.mg "len" = none) (hg2 : Gl X "set") (hm2 : X.mg "set" = none) (ha : PE X a ta)
    (na : starEach [a] X.env = (false, eval a X.env) :: starEach [] X.env := by rfl) : PE X (.Call (.Name "len" p) [.Call (.Name "set" p2) [a] [] q] [] pos) (tLenSetS X.K ta) := by
  refine ⟨fun pins s σ H Q I h => Call_ (ld_blt I hg hm boot_len (PyProof.Rows.callWith_builtin1 (PyProof.Rows.args_cons (Call_ (ld_blt I hg2 hm2 boot_set (PyProof.Rows.callWith_type1 (PyProof.Rows.args_cons (thn (ha.run pins s σ H _ I h) fun v s1 ⟨x, H1, I1, r1, q1⟩ => PyProof.Rows.args_nil ?_) na) na rfl))) rfl) rfl rfl))⟩
  obtain ⟨l, zs, rfl, hq, nd, hl, q1⟩ := q1
  cases r1
  obtain ⟨its, r, pl, hz⟩ := I1.list hq
  have hn : its.toArray.size = zs.length := by rw [List.size_toArray, ← r.length, List.length_map]
  refine call_set_keys (knd := PySem.strKind X.prog X.w) (ks := zs) (I1.ok.hd hc) pl.isList nd hn (by unfold scanBound; omega) (fun i v hv => strs_key r i v (by simpa using hv)) fun h' tk so keep => PyProof.Rows.args_nil ?_
  obtain ⟨o, es, ep, t, ho, hex, hd, _, _, _, hf, hsz⟩ := so
  have I2 : Inv X pins σ H1 { s1 with heap := h', toks := tk } := I1.kept fun b o e => keep b o e
  exact call_len_set ho hex hd hf (by rw [hsz]; omega) ⟨.int (zs.length : Nat), H1, I2.tok _, ⟨_, by rw [hsz]⟩, q1⟩
end Fh

set_option Elab.async false
set_option linter.all false
set_option maxRecDepth 100000
set_option maxHeartbeats 4000000
namespace Fh
open PySem L2 PyProof.Rows
/-! ### keys -/
abbrev sKeyOf : Stmt := top 2
abbrev sBelow : Stmt := top 3
def spKeyOf : Sp := fun vs H Q _ => ∃ (z : Str) (i : Int), vs = [.str z, .int i] ∧ z.length ≤ 100 ∧ 0 ≤ i ∧ i < 10 ^ 8 ∧ Q (.str (z ++ nt i)) H
def below (z y : Str) (i : Int) : Str := ((z ++ ".") ++ y) ++ nt i
def spBelow : Sp := fun vs H Q _ => ∃ (z y : Str) (i : Int), vs = [.str z, .str y, .int i] ∧ z.length ≤ 1000 ∧ y.length ≤ 100 ∧ 0 ≤ i ∧ i < 10 ^ 8 ∧ Q (.str (below z y i)) H
theorem pe_kwOnly {X : Cx} {CX : CXT} {k : Nat} {f : Addr} {fd : FuncData} {ps ks : List Str} {sp : Sp} {E : XK} {x : Str} {p pos : Pos} {kws : List Keyword} {tk : TA} {g : List Value → List Value → List Value} {gV : List V → List V → List V} (F : FnOk X.prog X.w X.K X.mg X.base CX k f fd ps sp) (hr : Room k X.A) (hg : Gl X x)
    (hm : X.mg x = some (.ref f)) (hk : PySem.W.keepIn X.K (.ref f) = true) (hb : KBn X.K fd ps 0 ks g gV) (hx : Passes CX X E) (hkw : PK X kws tk) (some_ : (backToKw pos (keywordEach kws X.env)).all (·.1.isSome) = true := by rfl) (names : (backToKw pos (keywordEach kws X.env)).filterMap (·.1) = ks := by rfl)
    (db : (x == ("__debug__" : Str)) = false := by decide) (plain : ((backTo pos (starEach [] X.env)).any (·.1) || (backToKw pos (keywordEach kws X.env)).any (·.1.isNone)) = false := by rfl) : PE X (.Call (.Name x p) [] kws pos) (tCallN 0 ks.length sp gV E tNil tk) := by
  subst names
  exact ⟨fun pins s σ H Q I h => wpAny_Call_Name_kw (ld_glob I hg hm (PySem.W.callWith_KW0 (h₀ := X.base) I.ok.mod.kin hk some_ (thn (hkw.run pos pins s σ H _ I h) fun ws s2 ⟨zs, H2, I2, rz, l1, l2, q2⟩ =>
    ⟨I2.kIn, run_fnN (us := []) (vs := []) F hr hb hx I2 .nil rz rfl l2 q2⟩) plain) db)⟩
def turn2 {α : Type} : List α → List α
  | [a, b] => [b, a]
  | _ => []
def turn3 {α : Type} : List α → List α
  | [n, k, f] => [k, f, n]
  | _ => []
abbrev pKeyOf : List Str := ["end", "n"]
abbrev pBelow : List Str := ["key", "face", "number"]
section
variable {P : Program} {w : World} {K : PySem.W.Frag} {mg : Str → Option Value} {base : Heap}
theorem scKeyOf : FnScope pKeyOf pKeyOf (defScope sKeyOf) := ⟨rfl, rfl, rfl, by decide +kernel, rfl, by decide +kernel, by decide +kernel⟩
theorem scBelow : FnScope pBelow pBelow (defScope sBelow) := ⟨rfl, rfl, rfl, by decide +kernel, rfl, by decide +kernel, by decide +kernel⟩
theorem kb_keyOf {f : Addr} {fd : FuncData} (F : Fun K "key_of" "key_of" sKeyOf f fd) : KBn K fd pKeyOf 0 ["n", "end"] (fun _ ws => turn2 ws) (fun _ zs => turn2 zs) := by
  obtain ⟨oc, od, kV, doc, pm, an, cdv, ct, osl, rfl, lk, hcd⟩ := F.ex
  refine ⟨fun s us ws X l1 l2 => ?_, fun {vs us zs ws} r1 r2 => ?_⟩
  · cases unnil l1
    obtain ⟨a, r1, rfl, e1⟩ := uncons (n := 1) l2
    obtain ⟨c, r2, rfl, e2⟩ := uncons (n := 0) e1
    cases unnil e2
    refine BindsTo.of_eq ?_
    kernel_rfl
  · cases r2 with
    | nil => exact .nil
    | cons a0 r => cases r with
      | nil => exact .nil
      | cons a1 r => cases r with
        | nil => exact .cons a1 (.cons a0 .nil)
        | cons _ _ => exact .nil
theorem kb_below {f : Addr} {fd : FuncData} (F : Fun K "key_below" "key_below" sBelow f fd) : KBn K fd pBelow 0 ["number", "key", "face"] (fun _ ws => turn3 ws) (fun _ zs => turn3 zs) := by
  obtain ⟨oc, od, kV, doc, pm, an, cdv, ct, osl, rfl, lk, hcd⟩ := F.ex
  refine ⟨fun s us ws X l1 l2 => ?_, fun {vs us zs ws} r1 r2 => ?_⟩
  · cases unnil l1
    obtain ⟨a, r1, rfl, e1⟩ := uncons (n := 2) l2
    obtain ⟨c, r2, rfl, e2⟩ := uncons (n := 1) e1
    obtain ⟨d, r3, rfl, e3⟩ := uncons (n := 0) e2
    cases unnil e3
    refine BindsTo.of_eq ?_
    kernel_rfl
  · cases r2 with
    | nil => exact .nil
    | cons a0 r => cases r with
      | nil => exact .nil
      | cons a1 r => cases r with
        | nil => exact .nil
        | cons a2 r => cases r with
          | nil => exact .cons a1 (.cons a2 (.cons a0 .nil))
          | cons _ _ => exact .nil
theorem ok_keyOf {f : Addr} {fd : FuncData} (F : Fun K "key_of" "key_of" sKeyOf f fd) : FnOk P w K mg base CX0 1 f fd pKeyOf spKeyOf := by
  refine F.ok scKeyOf (fun vs H Q E h => ?_) (fun cdv A outer s H vs Q E hr h => ?_)
  · obtain ⟨z, i, rfl, _⟩ := h
    rfl
  · obtain ⟨z, i, rfl, hz, i0, i1, q⟩ := h
    refine ⟨_, pss_one (ps_ret (pe_joined (.cons (pe_fmt (pv 0)) (.cons (pe_fmt (pv 1)) .nil)))), ?_⟩
    have hn : (Str.ofString (toString i)).length ≤ 8 := nt_len i0 i1
    have big : ∀ {n : Nat}, n ≤ 2000 → n ≤ sizeLine := fun h => Nat.le_trans h (by decide)
    have l0 : Str.empty.length = 0 := rfl
    refine ⟨_, rfl, .inl ⟨_, rfl, big (by omega), _, rfl, big (by rw [app_len]; omega), _, rfl, .inr ⟨_, rfl, log_lt i0 (by omega), _, rfl, big (by rw [app_len, app_len]; omega), ?_⟩⟩⟩
    show Q (.str ((Str.empty ++ z) ++ nt i)) H
    rw [empty_app]
    exact q
theorem ok_below {f : Addr} {fd : FuncData} (F : Fun K "key_below" "key_below" sBelow f fd) : FnOk P w K mg base CX0 1 f fd pBelow spBelow := by
  refine F.ok scBelow (fun vs H Q E h => ?_) (fun cdv A outer s H vs Q E hr h => ?_)
  · obtain ⟨z, y, i, rfl, _⟩ := h
    rfl
  · obtain ⟨z, y, i, rfl, hz, hy, i0, i1, q⟩ := h
    refine ⟨_, pss_one (ps_ret (pe_joined (.cons (pe_fmt (pv 0)) (.cons pe_str (.cons (pe_fmt (pv 1)) (.cons (pe_fmt (pv 2)) .nil)))))), ?_⟩
    have hn : (Str.ofString (toString i)).length ≤ 8 := nt_len i0 i1
    have big : ∀ {n : Nat}, n ≤ 2000 → n ≤ sizeLine := fun h => Nat.le_trans h (by decide)
    have l0 : Str.empty.length = 0 := rfl
    have l1 : ("." : Str).length = 1 := by decide +kernel
    refine ⟨_, rfl, .inl ⟨_, rfl, big (by omega), _, rfl, big (by rw [app_len]; omega), _, rfl, big (by rw [app_len, app_len]; omega), _, rfl, .inl ⟨_, rfl, big (by omega), _, rfl, big (by rw [app_len, app_len, app_len]; omega), _, rfl, .inr ⟨_, rfl, log_lt i0 (by omega), _, rfl, big (by rw [app_len, app_len, app_len, app_len]; omega), ?_⟩⟩⟩⟩
    show Q (.str ((((Str.empty ++ z) ++ ".") ++ y) ++ nt i)) H
    rw [empty_app]
    exact q
/-- the two, called by places and by names -/
structure HasK (P : Program) (w : World) (K : PySem.W.Frag) (mg : Str → Option Value) (base : Heap) : Prop where
  of : ∃ (f : Addr) (fd : FuncData), mg "key_of" = some (.ref f) ∧ PySem.W.keepIn K (.ref f) = true ∧ Fun K "key_of" "key_of" sKeyOf f fd ∧ FnOk P w K mg base CX0 1 f fd pKeyOf spKeyOf
  be : ∃ (f : Addr) (fd : FuncData), mg "key_below" = some (.ref f) ∧ PySem.W.keepIn K (.ref f) = true ∧ Fun K "key_below" "key_below" sBelow f fd ∧ FnOk P w K mg base CX0 1 f fd pBelow spBelow
  hOf : Has P w K mg base "key_of" 1 pKeyOf spKeyOf
  hBe : Has P w K mg base "key_below" 1 pBelow spBelow
end
end Fh

set_option Elab.async false
set_option linter.all false
set_option maxRecDepth 100000
set_option maxHeartbeats 4000000
namespace Fh
open PySem L2 PyProof.Rows
abbrev sKeys : Stmt := top 13
abbrev nKeys : List Str := ["_law_script", "_law_k", "_law_bag_here", "_law_pair", "_law_turn", "_law_counts", "_law_some", "_law_word", "_law_one", "_law_figure", "_law_told"]
def spKeys (K : PySem.W.Frag) : Sp := fun vs H Q _ => ∃ (a : Addr) (ns : List Int), vs = [.ref a] ∧ SqL K H a (ns.map V.int) ∧ ∀ H', Same H H' → Q (.bl true) H'
theorem neSelf (x : V) : (!decide (x = x)) = false := by
  rw [decide_eq_true rfl]
  rfl
theorem fig_ne : ∀ n : Nat, n < 31 → 1 ≤ n → nt ((n : Int) % 30 + 1) ≠ nt (n : Int) := by decide +kernel
def fourK (z1 z2 : Str) (c d : Int) : List Str := [z1 ++ nt c, z1 ++ nt (d + 1000000), z2 ++ nt c, z2 ++ nt (d + 1000000)]
theorem four_nd {z1 z2 : Str} {c d : Int} (h1 : Nm z1) (h2 : Nm z2) (hz : z1 ≠ z2) (c0 : 1 ≤ c) (c1 : c ≤ 1000000) (d0 : 1 ≤ d) : (fourK z1 z2 c d).Nodup := by
  have k1 : ∀ {y : Str}, Nm y → y ++ nt c ≠ y ++ nt (d + 1000000) := fun hy e => by
    have := (key_inj hy hy (by omega) (by omega) e).2
    omega
  have k2 : ∀ {i j : Int}, 0 ≤ i → 0 ≤ j → z1 ++ nt i ≠ z2 ++ nt j := fun hi hj e => hz (key_inj h1 h2 hi hj e).1
  unfold fourK
  simp only [List.nodup_cons, List.mem_cons, List.not_mem_nil, or_false, not_or, not_false_eq_true, List.nodup_nil, and_true]
  exact ⟨⟨k1 h1, k2 (by omega) (by omega), k2 (by omega) (by omega)⟩, ⟨k2 (by omega) (by omega), k2 (by omega) (by omega)⟩, k1 h2⟩
theorem four_len {z1 z2 : Str} {c d : Int} (h1 : Nm z1) (h2 : Nm z2) (c0 : 1 ≤ c) (c1 : c ≤ 1000000) (d0 : 1 ≤ d) (d1 : d ≤ 1000000) : ∀ z ∈ fourK z1 z2 c d, z.length ≤ 20 := by
  have l1 := nt_len (i := c) (by omega) (by omega)
  have l2 := nt_len (i := d + 1000000) (by omega) (by omega)
  have := h1.hi
  have := h2.hi
  intro z hz
  simp only [fourK, List.mem_cons, List.not_mem_nil, or_false] at hz
  rcases hz with rfl | rfl | rfl | rfl
  all_goals
    rw [app_len]
    omega
theorem below_dot {y : Str} {i : Int} (hy : Nm y) (hi : 0 ≤ i) : 46 ∉ (y ++ nt i).cps.toList := fun h => by
  rw [app_codes] at h
  rcases List.mem_append.mp h with h | h
  · have := (hy.sg 46 h).1
    omega
  · have := (nt_digit hi h).1
    omega
theorem app_assoc (a b c : Str) : (a ++ b) ++ c = a ++ (b ++ c) := str_ext (by rw [app_codes, app_codes, app_codes, app_codes, List.append_assoc])
section
variable {P : Program} {w : World} {K : PySem.W.Frag} {mg : Str → Option Value} {base : Heap}
theorem scKeys : FnScope nKeys ["_law_script"] (defScope sKeys) := ⟨rfl, rfl, rfl, by decide +kernel, rfl, by decide +kernel, by decide +kernel⟩
theorem ok_keys {f : Addr} {fd : FuncData} (F : Fun K "_law_keys_right" "_law_keys_right" sKeys f fd) (G : Glb mg) (DB : Has P w K mg base "_law_bag" 1 ["_law_script", "_law_at"] (spBag K)) (DT : Has P w K mg base "_law_take" 1 pTake spTake) (DN : Has P w K mg base "_law_name" 2 ["_law_bag_here"] spName) (DNs : Has P w K mg base "_law_names" 3 pNames spUnlikeN) (HK : HasK P w K mg base) : FnOk P w K mg base CX0 4 f fd ["_law_script"] (spKeys K) := by
  obtain ⟨fo, fdo, mO, kO, uO, FO⟩ := HK.of
  obtain ⟨fb, fdb, mB, kB', uB, FB⟩ := HK.be
  refine F.ok scKeys (fun vs H Q E h => ?_) (fun cdv A outer s H vs Q E hr h => ?_)
  · obtain ⟨a, ns, rfl, _⟩ := h
    rfl
  · obtain ⟨a, ns, rfl, hS, k⟩ := h
    have hr1 : Room 1 _ := hr.mono (by decide)
    have hr2 : Room 2 _ := hr.mono (by decide)
    refine ⟨_, pss_cons (ps_for PassesOwn.never rfl (pi_range1 rfl G.range (pa_cons (pe_mid (pe_callB (call_max2 rfl) (by rfl) G.max (by decide +kernel) (pa_cons pe_int (pa_cons (pe_callB (call_min2 rfl) (by rfl) G.min (by decide +kernel) (pa_cons pe_int (pa_cons (pe_callB call_len_seq (by rfl) G.len PySem.boot_len (pa_cons (pv 0) pa_nil)) pa_nil))) pa_nil)))) pa_nil)) (pg_name (i := 1) scKeys.nd rfl (Or.inl rfl))
        (pss_cons (ps_set (i := 2) scKeys.nd rfl (Or.inr rfl) (pe_has DB hr1 rfl (pa_cons (pv 0) (pa_cons (pv 1) pa_nil))))
        (pss_cons (ps_set (i := 3) scKeys.nd rfl (Or.inl rfl) (pe_has DNs hr rfl (pa_cons (pv 2) (pa_cons pe_int (pa_cons (pe_lst pa_nil) pa_nil)))))
        (pss_cons (ps_setLc (i := 5) (own := [("_law_turn", 4)]) (g := gName 4) (tt := tYes) (te := tOp (rI0 fun i j => .int (i + j)) (tC (.int 1)) (tCall spTake [] E0 (tCons (tVar 2) (tCons (tMid (tOp (rIxL K) (tLst (tCons (tC (.int 9)) (tCons (tOp (rI CPow fun i j => .int (i ^ j.toNat)) (tC (.int 10)) (tC (.int 6))) tNil))) (tCall spTake [] E0 (tCons (tVar 2) (tCons (tC (.int 2)) tNil))))) tNil)))) rfl scKeys.nd rfl rfl (sw_true rfl rfl rfl (by decide +kernel)) (pi_range1 rfl G.range (pa_cons pe_int pa_nil)) (blkOk_by (N := nKeys) (sc := defScope sKeys) (by decide +kernel))
          (fun _ _ _ _ _ => pg_name (i := 4) scKeys.nd rfl (Or.inl rfl)) (fun _ _ _ _ _ => pts_nil)
          (fun _ _ _ _ _ => pe_op op_add pe_int (pe_has DT hr1 rfl (pa_cons (pv 2) (pa_cons (pe_mid (pe_ix ix_list (pe_lst (pa_cons pe_int (pa_cons (pe_op op_pow pe_int pe_int) pa_nil))) (pe_has DT hr1 rfl (pa_cons (pv 2) (pa_cons pe_int pa_nil))) (fun _ _ => rfl))) pa_nil)))))
        (pss_cons (ps_set (i := 6) scKeys.nd rfl (Or.inl rfl) (pe_lst pa_nil))
        (pss_cons (ps_for PassesOwn.never rfl (pi_list (pv 3)) (pg_name (i := 7) scKeys.nd rfl (Or.inl rfl))
          (pss_one (ps_set (i := 6) scKeys.nd rfl (Or.inl rfl) (pe_op op_cat (pv 6) (pe_lst (pa_cons (pe_has HK.hOf hr1 rfl (pa_cons (pv 7) (pa_cons (pe_ix ix_list (pv 5) pe_int (fun _ _ => rfl)) pa_nil))) (pa_cons (pe_has HK.hOf hr1 rfl (pa_cons (pv 7) (pa_cons (pe_op op_add (pe_ix ix_list (pv 5) pe_int (fun _ _ => rfl)) (pe_op op_pow pe_int pe_int)) pa_nil))) pa_nil)))))))
        (pss_cons (ps_if (PW.pt (pw_or (pt_cmpR op_ne (pe_lenSetS rfl rfl G.len rfl G.set (pv 6)) pe_int (nomark _)) (pw_or (pt_cmpR op_ne (pe_ix ix_list (pv 6) pe_int (fun _ _ => rfl)) (pe_op op_add_str (pe_ix ix_list (pv 3) pe_int (fun _ _ => rfl)) (pe_callTy call_str_int (by rfl) G.str (by decide +kernel) (pa_cons (pe_ix ix_list (pv 5) pe_int (fun _ _ => rfl)) pa_nil))) (nomark _))
            (pw_or1 (pt_cmpR op_ne (pe_kwOnly FO hr1 rfl mO kO (kb_keyOf uO) pass0 (pk_cons (pe_ix ix_list (pv 5) pe_int (fun _ _ => rfl)) (pk_cons (pe_ix ix_list (pv 3) pe_int (fun _ _ => rfl)) pk_nil))) (pe_ix ix_list (pv 6) pe_int (fun _ _ => rfl)) (nomark _)))))) (pss_one (ps_ret pe_bl)) pss_nil)
        (pss_cons (ps_set (i := 8) scKeys.nd rfl (Or.inl rfl) (pe_mid (pe_ix ix_list (pv 6) (pe_has DT hr1 rfl (pa_cons (pv 2) (pa_cons pe_int pa_nil))) (fun _ _ => rfl))))
        (pss_one (ps_for PassesOwn.never rfl (pi_range1 rfl G.range (pa_cons (pe_op op_add pe_int (pe_has DT hr1 rfl (pa_cons (pv 2) (pa_cons pe_int pa_nil)))) pa_nil)) (pg_name (i := 4) scKeys.nd rfl (Or.inl rfl))
          (pss_cons (ps_par (i := 7) (j := 9) rfl scKeys.nd rfl rfl (by decide) rfl rfl (pa_cons (pe_has DN hr2 rfl (pa_cons (pv 2) pa_nil)) (pa_cons (pe_op op_add pe_int (pe_has DT hr1 rfl (pa_cons (pv 2) (pa_cons pe_int pa_nil)))) pa_nil)) (by rfl))
          (pss_cons (ps_set (i := 10) scKeys.nd rfl (Or.inl rfl) (pe_has HK.hBe hr1 rfl (pa_cons (pv 8) (pa_cons (pv 7) (pa_cons (pv 9) pa_nil)))))
          (pss_cons (ps_if (PW.pt (pw_or (pt_not (pt_val (pe_callB call_isi (by rfl) G.isi (by decide +kernel) (pa_cons (pv 10) (pa_cons (pe_bltn (v := .ty "str") rfl G.str (by decide +kernel) rfl) pa_nil))))) (pw_or (pt_cmpR op_ne (pv 10) (pe_op op_add_str (pe_op op_add_str (pe_op op_add_str (pv 8) pe_str) (pv 7)) (pe_callTy call_str_int (by rfl) G.str (by decide +kernel) (pa_cons (pv 9) pa_nil))) (nomark _))
            (pw_or1 (pt_cmpR op_ne (pe_ix ix_tup (pe_m1 PySem.F.slot_str_rpartition PySem.F.type_str_rpartition mt_rpart (pv 10) pe_str rfl rfl rfl) pe_int (fun _ _ => rfl)) (pv 8) (nomark _)))))) (pss_one (ps_ret pe_bl)) pss_nil)
          (pss_cons (ps_if (PW.pt (pw_or (pt_cmpR op_ne (pe_kwOnly FB hr1 rfl mB kB' (kb_below uB) pass0 (pk_cons (pv 9) (pk_cons (pv 8) (pk_cons (pv 7) pk_nil)))) (pv 10) (nomark _)) (pw_or1 (pt_cmpR op_eq (pe_has HK.hBe hr1 rfl (pa_cons (pv 8) (pa_cons (pv 7) (pa_cons (pe_op op_add (pe_op op_mod (pv 9) pe_int) pe_int) pa_nil)))) (pv 10) (nomark _))))) (pss_one (ps_ret pe_bl)) pss_nil)
          (pss_one (ps_set (i := 8) scKeys.nd rfl (Or.inl rfl) (pv 10)))))))))))))))))
      (pss_one (ps_ret pe_bl)), ?_⟩
    refine ⟨fun v H1 => ∃ m : Int, v = .int m ∧ 0 ≤ m ∧ m ≤ 10 ∧ H = H1, ?_, ?_⟩
    · refine ⟨_, rfl, a, _, rfl, .inl hS, _, _, rfl, _, _, rfl, ?_⟩
      refine ⟨_, rfl, ?_, ?_, rfl⟩
      · split <;> split <;> omega
      · split <;> split <;> omega
    rintro v H1 ⟨m, rfl, m0, m10, rfl⟩
    refine ⟨m, rfl, by omega, by omega, ?_⟩
    refine for_range (lo := 0) (n := m.toNat) (fun i σ H1 => (∃ a1 a2 a3 a4 a5 a6 a7 a8 a9 a10, σ = [some (.ref a), a1, a2, a3, a4, a5, a6, a7, a8, a9, a10]) ∧ Same H H1) ?_ ?_ ?_
    · exact ⟨⟨_, _, _, _, _, _, _, _, _, _, rfl⟩, Same.refl H⟩
    · rintro i σ H1 hi ⟨⟨a1, a2, a3, a4, a5, a6, a7, a8, a9, a10, rfl⟩, sm1⟩
      refine ⟨_, rfl, _, rfl, a, ns, _, rfl, SqL.ext hS sm1, by omega, by omega, fun b H2 sm2 hb B2 => ?_⟩
      have hb0 : H b = none := sm1.free hb
      have toS : ∀ {H' : Hp}, Kp b H2 H' → Same H H' := fun {H'} kp c o e => kp c o (fun q => by rw [q, hb0] at e; cases e) (sm2 _ _ (sm1 _ _ e))
      refine ⟨_, rfl, Nat.zero_le _, fun t0 ht0 => ?_⟩
      refine ⟨b, t0, 2, [], 0, rfl, B2.new ht0, by decide, by decide, upd_same, by decide, by decide, fun e zs H3 he0 he3 lzs ndz nmz K3 B3 => ?_⟩
      obtain ⟨z1, z2, rfl⟩ : ∃ z1 z2, zs = [z1, z2] := by
        obtain ⟨x, r1, rfl, e1⟩ := uncons (n := 1) (l := zs) (by omega)
        obtain ⟨y, r2, rfl, e2⟩ := uncons (n := 0) e1
        cases unnil e2
        exact ⟨x, y, rfl⟩
      have nm1 : Nm z1 := (nmz z1 (by simp)).1
      have nm2 : Nm z2 := (nmz z2 (by simp)).1
      have z12 : z1 ≠ z2 := fun e => by
        rw [e] at ndz
        simp at ndz
      have K23 : Kp b H2 H3 := (Kp.refl.new ht0).trans K3
      have neb : e ≠ b := strs_ne_bag he3 B3
      refine ⟨2, rfl, by decide, by decide, fun D hD => ?_⟩
      have nDb : D ≠ b := new_ne hD B3
      have hD2 : H2 D = none := K23.free B3.at hD
      refine lc_range (lo := 0) (n := 2) (fun j H4 => Kp b H2 H4 ∧ Bag H4 b (120 + 2 * j) ∧ H4 e = some (.lst [.str z1, .str z2]) ∧ ∃ cs : List Int, H4 D = some (.lst (cs.map V.int)) ∧ cs.length = j ∧ ∀ c ∈ cs, 1 ≤ c ∧ c ≤ 1000000) ?_ ?_ ?_
      · exact ⟨K23.new hD, B3.new hD, (by rw [upd_ne (ne_of_none he3 hD)]; exact he3), [], upd_same, rfl, fun c h => nomatch h⟩
      · rintro j H4 hj ⟨K4, B4, he4, cs, hD4, lc, hc⟩
        refine ⟨rfl, yes (iteT ?_)⟩
        refine ⟨_, rfl, fun v H5 => ∃ m : Int, v = .int m ∧ (m = 9 ∨ m = 1000000) ∧ Kp b H4 H5 ∧ Bag H5 b (120 + 2 * j + 1), ?_, ?_⟩
        · refine ⟨_, _, rfl, rfl, ⟨by decide, by decide, by decide⟩, (by show 2 ≤ sizeLine; decide), fun q hq => ?_⟩
          refine ⟨_, rfl, b, 2, 120 + 2 * j, rfl, by decide, by decide, B4.new hq, by show 120 + 2 * j ≤ 1000000; omega, fun d H5 d0 d1 K5 B5 => ?_⟩
          have hq5 := K5 q _ (new_ne hq B4) upd_same
          have kp5 : Kp b H4 H5 := (Kp.refl.new hq).trans K5
          have hd : d = 0 ∨ d = 1 := by omega
          rcases hd with rfl | rfl
          · exact ⟨q, _, _, _, rfl, rfl, SqL.of hq5, rfl, 9, rfl, .inl rfl, kp5, B5⟩
          · exact ⟨q, _, _, _, rfl, rfl, SqL.of hq5, rfl, 1000000, rfl, .inr rfl, kp5, B5⟩
        rintro v H5 ⟨m', rfl, hm, K5, B5⟩
        refine ⟨b, m', _, rfl, by omega, by omega, B5, by show 120 + 2 * j + 1 ≤ 1000000; omega, fun d H6 d0 d1 K6 B6 => ?_⟩
        refine ⟨_, _, rfl, rfl, ?_⟩
        have hD6 := K6 D _ nDb (K5 D _ nDb hD4)
        have he6 := K6 e _ neb (K5 e _ neb he4)
        have neD : e ≠ D := fun q => by rw [q, hD] at he3; cases he3
        refine ⟨_, hD6, ?_, ((K4.trans K5).trans K6).wr hD2, (B6.mono (by omega)).ne nDb, (by rw [upd_ne neD]; exact he6), cs ++ [1 + d], ?_, by rw [List.length_append, lc]; rfl, ?_⟩
        · rw [List.length_map, lc]
          exact Nat.lt_trans hj (by decide)
        · rw [upd_same, List.map_append]
          rfl
        · intro c hc'
          rcases List.mem_append.mp hc' with h | h
          · exact hc c h
          · rw [List.mem_singleton.mp h]
            omega
      rintro H4 ⟨K4, B4, he4, cs, hD4, lc, hc⟩
      obtain ⟨c, d, rfl⟩ : ∃ c d, cs = [c, d] := by
        obtain ⟨x, r1, rfl, e1⟩ := uncons (n := 1) (l := cs) (by omega)
        obtain ⟨y, r2, rfl, e2⟩ := uncons (n := 0) e1
        cases unnil e2
        exact ⟨x, y, rfl⟩
      obtain ⟨c0, c1⟩ := hc c (by simp)
      obtain ⟨d0, d1⟩ := hc d (by simp)
      refine ⟨Nat.zero_le _, fun S0 hS0 => ?_⟩
      have neD : e ≠ D := fun q => by rw [q, hD] at he3; cases he3
      refine ⟨_, rfl, e, rfl, ⟨_, SqL.of (by rw [upd_ne (ne_of_none he4 hS0)]; exact he4)⟩, ?_⟩
      refine for_list (K := K) (a := e) (xs := [.str z1, .str z2]) (fun j σ H5 => ∃ S5, (∃ a1 a4 a7 a8 a9 a10, σ = [some (.ref a), a1, some (.ref b), some (.ref e), a4, some (.ref D), some (.ref S5), a7, a8, a9, a10]) ∧ H5 S5 = some (.lst (((fourK z1 z2 c d).take (2 * j)).map V.str)) ∧ Kp b H2 H5 ∧ Bag H5 b 124 ∧ H5 e = some (.lst [.str z1, .str z2]) ∧ H5 D = some (.lst [.int c, .int d])) ?_ ?_ ?_ ?_
      · exact ⟨S0, ⟨_, _, _, _, _, _, rfl⟩, upd_same, K4.new hS0, B4.new hS0, (by rw [upd_ne (ne_of_none he4 hS0)]; exact he4), (by rw [upd_ne (ne_of_none hD4 hS0)]; exact hD4)⟩
      · rintro j σ H5 _ ⟨S5, _, _, _, _, he5, _⟩
        exact SqL.of he5
      · rintro j x σ H5 hx ⟨S5, ⟨b1, b4, b7, b8, b9, b10, rfl⟩, hS5, K5, B5, he5, hD5⟩
        obtain ⟨z, nz, rfl, et, hl4⟩ : ∃ z, Nm z ∧ x = .str z ∧ (fourK z1 z2 c d).take (2 * (j + 1)) = (fourK z1 z2 c d).take (2 * j) ++ [z ++ nt c, z ++ nt (d + 1000000)] ∧ ((fourK z1 z2 c d).take (2 * j)).length ≤ 4 := by
          match j, hx with
          | 0, h => cases h; exact ⟨z1, nm1, rfl, rfl, by simp⟩
          | 1, h => cases h; exact ⟨z2, nm2, rfl, rfl, by simp [fourK]⟩
          | j + 2, h => simp at h
        have l1 := nz.hi
        refine ⟨_, rfl, _, rfl, _, rfl, D, _, _, _, rfl, rfl, SqL.of hD5, rfl, z, c, rfl, by omega, by omega, by omega, ?_⟩
        refine ⟨_, rfl, _, rfl, D, _, _, _, rfl, rfl, SqL.of hD5, rfl, _, _, rfl, rfl, ⟨by decide, by decide, by decide⟩, _, _, rfl, rfl, z, d + 1000000, rfl, by omega, by omega, by omega, (by show 2 ≤ sizeLine; decide), fun q hq => ?_⟩
        refine ⟨S5, q, _, _, rfl, rfl, (by rw [upd_ne (ne_of_none hS5 hq)]; exact hS5), upd_same, ?_, fun S6 hS6 => ?_⟩
        · rw [List.length_map]
          exact Nat.le_trans (Nat.add_le_add_right hl4 2) (by decide)
        · refine ⟨S6, ⟨_, _, _, _, _, _, rfl⟩, ?_, (K5.new hq).new hS6, (B5.new hq).new hS6, ?_, ?_⟩
          · rw [upd_same, et, List.map_append]
            rfl
          · exact Same.new hS6 _ _ (Same.new hq _ _ he5)
          · exact Same.new hS6 _ _ (Same.new hq _ _ hD5)
      rintro σ H5 ⟨S5, ⟨b1, b4, b7, b8, b9, b10, rfl⟩, hS5, K5, B5, he5, hD5⟩
      have e4 : (fourK z1 z2 c d).take (2 * 2) = fourK z1 z2 c d := rfl
      have hS6 : H5 S5 = some (.lst ((fourK z1 z2 c d).map V.str)) := hS5
      have nd4 := four_nd nm1 nm2 z12 c0 c1 d0
      have ln4 := four_len nm1 nm2 c0 c1 d0 d1
      have l1 := nm1.hi
      have l2 := nm2.hi
      have lc8 := nt_len (i := c) (by omega) (by omega)
      refine ⟨_, rfl, S5, fourK z1 z2 c d, rfl, SqL.of hS6, nd4, (by show 4 ≤ 1000; decide), rfl, _, rfl, iteN (by rfl) ?_⟩
      refine ⟨_, rfl, S5, _, _, _, rfl, rfl, SqL.of hS6, rfl, _, rfl, e, _, _, _, rfl, rfl, SqL.of he5, rfl, _, rfl, D, _, _, _, rfl, rfl, SqL.of hD5, rfl, _, rfl, log_lt (by omega) (by omega), _, _, rfl, rfl, ?_, rfl, _, rfl, iteN (neSelf _) ?_⟩
      · exact Nat.le_trans (show z1.length + (nt c).length ≤ 100 by omega) (by decide)
      refine ⟨_, rfl, D, _, _, _, rfl, rfl, SqL.of hD5, rfl, _, rfl, e, _, _, _, rfl, rfl, SqL.of he5, rfl, rfl, rfl, z2, c, rfl, by omega, by omega, by omega, _, rfl, S5, _, _, _, rfl, rfl, SqL.of hS6, rfl, rfl, _, rfl, iteN (neSelf _) ?_⟩
      refine ⟨fun v H6 => ∃ o : Str, v = .str o ∧ o.length ≤ 20 ∧ Kp b H5 H6 ∧ Bag H6 b 125, ?_, ?_⟩
      · refine ⟨_, rfl, _, rfl, b, 4, 124, rfl, by decide, by decide, B5, by decide, fun x H6 x0 x1 K6 B6 => ?_⟩
        have hS7 := K6 S5 _ (strs_ne_bag hS6 B5) hS6
        obtain ⟨v, e1, _, hm⟩ := atI_in (xs := (fourK z1 z2 c d).map V.str) x0 (by rw [List.length_map]; exact x1)
        obtain ⟨o, ho, rfl⟩ := List.mem_map.mp hm
        exact ⟨S5, _, _, _, rfl, rfl, SqL.of hS7, e1, o, rfl, ln4 o ho, K6, B6⟩
      rintro v H6 ⟨o, rfl, lo, K6, B6⟩
      refine ⟨_, rfl, b, 5, 125, rfl, by decide, by decide, B6, by decide, fun x H7 x0 x1 K7 B7 => ?_⟩
      refine ⟨_, _, rfl, rfl, _, rfl, by omega, by omega, ?_⟩
      refine for_range (lo := 0) (n := (1 + x).toNat) (fun j σ H8 => ∃ o : Str, (∃ a1 a3 a4 a5 a6 a7 a9 a10, σ = [some (.ref a), a1, some (.ref b), a3, a4, a5, a6, a7, some (.str o), a9, a10]) ∧ o.length ≤ 20 + 20 * j ∧ Kp b H2 H8 ∧ Bag H8 b (126 + 11 * j)) ?_ ?_ ?_
      · exact ⟨o, ⟨_, _, _, _, _, _, _, _, rfl⟩, by omega, (K5.trans K6).trans K7, B7⟩
      · rintro j σ H8 hj ⟨o, ⟨b1, b3, b4, b5, b6, b7, b9, b10, rfl⟩, lo, K8, B8⟩
        have hj6 : j < 6 := by omega
        refine ⟨_, rfl, b, 126 + 11 * j, rfl, B8, by show 126 + 11 * j + 10 ≤ 1000000; omega, fun y H9 ny K9 B9 => ?_⟩
        refine ⟨_, rfl, b, 30, 126 + 11 * j + 10, rfl, by decide, by decide, B9, by show 126 + 11 * j + 10 ≤ 1000000; omega, fun g HA g0 g1 KA BA => ?_⟩
        have ly := ny.hi
        have lg := nt_len (i := 1 + g) (by omega) (by omega)
        have lb : (below o y (1 + g)).length ≤ 20 + 20 * (j + 1) := by
          have ld : ("." : Str).length = 1 := by decide +kernel
          unfold below
          rw [app_len, app_len, app_len]
          omega
        have big : ∀ {n : Nat}, n ≤ 500 → n ≤ sizeLine := fun h => Nat.le_trans h (by decide)
        have ld : ("." : Str).length = 1 := by decide +kernel
        refine ⟨_, _, rfl, rfl, _, _, rfl, _, rfl, _, rfl, _, rfl, o, y, 1 + g, rfl, by omega, by omega, by omega, by omega, ?_⟩
        refine ⟨_, rfl, _, _, .type "str", .type "str", true, rfl, .ty _, .base (.str _), rfl, true, rfl, iteF ?_⟩
        refine ⟨_, rfl, _, rfl, _, _, rfl, rfl, big (by omega), _, rfl, _, _, rfl, rfl, big (by rw [app_len]; omega), _, rfl, _, rfl, log_lt (by omega) (by omega), _, _, rfl, rfl, big (by rw [app_len, app_len]; show _ + (nt (1 + g)).length ≤ 500; omega), rfl, _, rfl, iteN (neSelf _) ?_⟩
        refine ⟨_, rfl, ⟨_, rfl⟩, _, _, rfl, rfl, by decide +kernel, big (by omega), fun r hr' => ?_⟩
        have rp : (Txt.rpartition (below o y (1 + g)) ".").1 = o := by
          unfold below
          rw [app_assoc]
          exact rpart (below_dot ny (by omega))
        refine ⟨r, _, _, _, rfl, rfl, SqT.of upd_same, rfl, _, rfl, rfl, _, rfl, ?_⟩
        rw [rp]
        refine iteN (neSelf _) ?_
        refine ⟨_, rfl, _, rfl, _, rfl, rfl, rfl, o, y, 1 + g, rfl, by omega, by omega, by omega, by omega, _, rfl, rfl, _, rfl, iteN (neSelf _) ?_⟩
        refine ⟨_, rfl, _, rfl, _, rfl, _, _, rfl, rfl, (by show (0 : Int) < 30; decide), _, _, rfl, rfl, o, y, (1 + g) % 30 + 1, rfl, by omega, by omega, by omega, by omega, _, rfl, rfl, _, rfl, iteN ?_ ?_⟩
        · refine decide_eq_false fun e => ?_
          injection e with e
          have e2 : nt ((1 + g) % 30 + 1) = nt (1 + g) := app_cancel (show ((o ++ ".") ++ y) ++ nt ((1 + g) % 30 + 1) = ((o ++ ".") ++ y) ++ nt (1 + g) from e)
          have := nt_inj (by omega) (by omega) e2
          omega
        · refine ⟨_, rfl, below o y (1 + g), ⟨_, _, _, _, _, _, _, _, rfl⟩, lb, ((K8.trans K9).trans KA).new hr', (BA.new hr').mono (by omega)⟩
      · rintro σ H8 ⟨o, ⟨b1, b3, b4, b5, b6, b7, b9, b10, rfl⟩, lo, K8, B8⟩
        exact ⟨⟨_, _, _, _, _, _, _, _, _, _, rfl⟩, toS K8⟩
    · rintro σ H1 ⟨_, sm⟩
      exact k H1 sm
end
end Fh

set_option Elab.async false
set_option linter.all false
set_option maxRecDepth 100000
set_option maxHeartbeats 4000000
namespace Fh
open PySem L2 PyProof.Rows
abbrev sLaw : Stmt := top 14
abbrev nLaw : List Str := ["_law_script", "_law_k", "_law_bag_here", "_law_nine", "_law_one", "_law_other", "_law_bent_here", "_law_told", "_law_odd"]
def spLaw (K : PySem.W.Frag) : Sp := fun vs H Q _ => ∃ (a : Addr) (ns : List Int), vs = [.ref a] ∧ SqL K H a (ns.map V.int) ∧ ∀ H', Q (.bl true) H'
theorem LetD.kp {C b : Addr} {H H' : Hp} {a : Addr} {n : Nat} {ds : List PyData} (h : LetD C H a ds) (k : Kp b H H') (hb : Bag H b n) : LetD C H' a ds := by
  obtain ⟨dx, v1, v2, v3, v4, v5, v6, v7, v8, v9, e, p⟩ := h
  refine ⟨dx, v1, v2, v3, v4, v5, v6, v7, v8, v9, k a _ (fun q => ?_) e, TpAll.keep (k.tk hb) _ _ p⟩
  obtain ⟨x, y, z, e2, _⟩ := hb
  rw [← q, e] at e2
  cases e2
theorem Loose.all {n : Nine} (h : Loose n) : ShAll n.ds := fun d hd => (h.sh d hd).shaped (by decide)
theorem ans_let {C : Addr} {H : Hp} {a b : Addr} {ds es : List PyData} (f1 : LetD C H a ds) (f2 : LetD C H b es) (s1 : ShAll ds) (s2 : ShAll es) : Ans (spEqL C) (.ref a) (.ref b) H (PyData.eqvAll ds es) :=
  ⟨a, _, _, rfl, .inl ⟨b, ds, es, rfl, f1, f2, s1, s2, rfl⟩, rfl, rfl⟩
theorem ans_odd {C : Addr} {H : Hp} {a : Addr} {y : V} (o : Odd H y) : Ans (spEqL C) (.ref a) y H false := ⟨a, y, false, rfl, .inr ⟨o, rfl⟩, rfl, rfl⟩
theorem eqvAll_swap (ds es : List PyData) : PyData.eqvAll ds es = PyData.eqvAll es ds := PySem.W.eqv_comm (.tuple ds) (.tuple es)
theorem ne_odd {C : Addr} {H : Hp} {x : Addr} {y : V} {ds : List PyData} (f : LetD C H x ds) (o : Odd H y) : y ≠ .ref x := by
  obtain ⟨dx, v1, v2, v3, v4, v5, v6, v7, v8, v9, h, _⟩ := f
  rintro rfl
  cases o with
  | tup e => rw [h] at e; cases e
  | lst e => rw [h] at e; cases e
theorem At9.same {H H' : Hp} {p : Addr} {m : Nine} (h : At9 H p m) (s : Same H H') : At9 H' p m := let ⟨t, h1, h2⟩ := h; ⟨t, s _ _ h1, s _ _ h2⟩
theorem let_at {C : Addr} {H : Hp} {x : Addr} {ds : List PyData} (f : LetD C H x ds) : ∃ o, H x = some o := let ⟨_, _, _, _, _, _, _, _, _, _, h, _⟩ := f; ⟨_, h⟩
structure Trio (C : Addr) (H : Hp) (x1 x2 x3 : Addr) (ds es : List PyData) : Prop where
  f1 : LetD C H x1 ds
  f2 : LetD C H x2 ds
  f3 : LetD C H x3 es
theorem Trio.same {C : Addr} {H H' : Hp} {x1 x2 x3 : Addr} {ds es : List PyData} (h : Trio C H x1 x2 x3 ds es) (s : Same H H') : Trio C H' x1 x2 x3 ds es := ⟨h.f1.same s, h.f2.same s, h.f3.same s⟩
section
variable {P : Program} {w : World} {K : PySem.W.Frag} {mg : Str → Option Value} {base : Heap}
theorem scLaw : FnScope nLaw ["_law_script"] (defScope sLaw) := ⟨rfl, rfl, rfl, by decide +kernel, rfl, by decide +kernel, by decide +kernel⟩
theorem ok_law {f C : Addr} {fd : FuncData} (F : Fun K "law" "law" sLaw f fd) (G : Glb mg) (T : ClsL K mg C) (EQ : FEq P w K mg base C 1 (spEqL C)) (ER : FRepr P w K mg base C 1 (spReprL C)) (DB : Has P w K mg base "_law_bag" 1 ["_law_script", "_law_at"] (spBag K)) (DT : Has P w K mg base "_law_take" 1 pTake spTake)
    (DK : Has P w K mg base "_law_keys_right" 4 ["_law_script"] (spKeys K)) (DD : Has P w K mg base "_law_drawn" 4 ["_law_bag_here"] spDrawn) (DBe : Has P w K mg base "_law_bent" 2 ["_law_bag_here", "_law_nine"] spBent) (DM : Has P w K mg base "_law_made" 3 pMade (spMade C))
    (DR : Has P w K mg base "_law_fields_right" 1 ["_law_one", "_law_nine"] (spRight C)) : FnOk P w K mg base CX0 5 f fd ["_law_script"] (spLaw K) := by
  refine F.ok scLaw (fun vs H Q E h => ?_) (fun cdv A outer s H vs Q E hr h => ?_)
  · obtain ⟨a, ns, rfl, _⟩ := h
    rfl
  · obtain ⟨a, ns, rfl, hS, k⟩ := h
    have hr1 : Room 1 _ := hr.mono (by decide)
    have hr2 : Room 2 _ := hr.mono (by decide)
    have hr3 : Room 3 _ := hr.mono (by decide)
    refine ⟨_, pss_cons (ps_if (pt_not (pt_val (pe_has DK hr rfl (pa_cons (pv 0) pa_nil)))) (pss_one (ps_ret pe_bl)) pss_nil)
      (pss_cons (ps_for PassesOwn.never rfl (pi_range1 rfl G.range (pa_cons (pe_mid (pe_callB (call_max2 rfl) (by rfl) G.max (by decide +kernel) (pa_cons pe_int (pa_cons (pe_callB (call_min2 rfl) (by rfl) G.min (by decide +kernel) (pa_cons pe_int (pa_cons (pe_callB call_len_seq (by rfl) G.len PySem.boot_len (pa_cons (pv 0) pa_nil)) pa_nil))) pa_nil)))) pa_nil)) (pg_name (i := 1) scLaw.nd rfl (Or.inl rfl))
        (pss_cons (ps_set (i := 2) scLaw.nd rfl (Or.inl rfl) (pe_has DB hr1 rfl (pa_cons (pv 0) (pa_cons (pv 1) pa_nil))))
        (pss_cons (ps_set (i := 3) scLaw.nd rfl (Or.inl rfl) (pe_has DD hr rfl (pa_cons (pv 2) pa_nil)))
        (pss_cons (ps_par3 (i := 4) (j := 5) (l := 6) rfl scLaw.nd rfl rfl rfl (by decide) (by decide) (by decide) rfl rfl rfl (pa_cons (pe_has DM hr3 rfl (pa_cons pe_int (pa_cons (pv 3) pa_nil))) (pa_cons (pe_has DM hr3 rfl (pa_cons pe_int (pa_cons (pv 3) pa_nil))) (pa_cons (pe_has DM hr3 rfl (pa_cons pe_int (pa_cons (pe_has DBe hr2 rfl (pa_cons (pv 2) (pa_cons (pv 3) pa_nil))) pa_nil))) pa_nil))) (by rfl))
        (pss_cons (ps_if (PW.pt (pw_or (pt_not (pt_val (pe_has DR hr1 rfl (pa_cons (pv 4) (pa_cons (pv 3) pa_nil))))) (pw_or1 (pt_not (pt_val (pe_has DR hr1 rfl (pa_cons (pv 5) (pa_cons (pv 3) pa_nil)))))))) (pss_one (ps_ret pe_bl)) pss_nil)
        (pss_cons (ps_set (i := 7) scLaw.nd rfl (Or.inl rfl) (pe_mid (pe_lst (pa_cons (pe_cmpR (op_eqF EQ hr1) (pv 4) (pv 5) (nomark _)) (pa_cons (pe_cmpR (op_eqF EQ hr1) (pv 5) (pv 4) (nomark _)) (pa_cons (pe_cmpR (op_inF EQ hr2) (pv 4) (pe_lst (pa_cons (pv 5) pa_nil)) rfl) (pa_cons (pe_cmpR (op_pairF EQ hr2) (pe_tup (pa_cons pe_int (pa_cons (pv 4) pa_nil))) (pe_tup (pa_cons pe_int (pa_cons (pv 5) pa_nil))) (nomark _)) pa_nil)))))))
        (pss_cons (ps_if (PW.pt (pw_or (pt_cmpR (op_neD hr.units) (pv 7) (pe_op op_rep (pe_lst (pa_cons pe_bl pa_nil)) pe_int) (nomark _)) (pw_or1 (pt_cmpR (op_neF EQ hr2) (pv 4) (pv 5) (nomark _))))) (pss_one (ps_ret pe_bl)) pss_nil)
        (pss_cons (ps_if (pt_cmpR (op_neD hr.units) (pe_mid (pe_lst (pa_cons (pe_cmpR (op_eqF EQ hr1) (pv 4) (pv 6) (nomark _)) (pa_cons (pe_cmpR (op_eqF EQ hr1) (pv 6) (pv 4) (nomark _)) (pa_cons (pe_cmpR (op_inF EQ hr2) (pv 4) (pe_lst (pa_cons (pv 6) pa_nil)) rfl) (pa_cons (pe_cmpR (op_neF EQ hr2) (pv 6) (pv 5) (nomark _)) pa_nil)))))) (pe_lst (pa_cons pe_bl (pa_cons pe_bl (pa_cons pe_bl (pa_cons pe_bl pa_nil))))) (nomark _)) (pss_one (ps_ret pe_bl)) pss_nil)
        (pss_cons (ps_set (i := 8) scLaw.nd rfl (Or.inl rfl) (pe_mid (pe_ix ix_list (pe_lst (pa_cons pe_non (pa_cons (pv 3) (pa_cons (pe_callTy call_tuple_of (by rfl) G.tuple (by decide +kernel) (pa_cons (pv 3) pa_nil)) (pa_cons (pe_ix ix_list (pv 3) pe_int (fun _ _ => rfl)) (pa_cons pe_str (pa_cons pe_bl pa_nil))))))) (pe_has DT hr1 rfl (pa_cons (pv 2) (pa_cons pe_int pa_nil))) (fun _ _ => rfl))))
        (pss_one (ps_if (PW.pt (pw_or (pt_cmpR (op_eqF EQ hr1) (pv 4) (pv 8) (nomark _)) (pw_or (pt_cmpR (op_eqF EQ hr1) (pv 8) (pv 4) (nomark _)) (pw_or (pt_not (pt_cmpR (op_neF EQ hr2) (pv 4) (pv 8) (nomark _))) (pw_or1 (pt_cmpR op_ne (pe_callB (call_reprF ER hr2) (by rfl) G.repr (by decide +kernel) (pa_cons (pv 4) pa_nil)) (pe_op op_add_str (pe_op op_add_str pe_str (pe_callTy call_str_int (by rfl) G.str (by decide +kernel) (pa_cons (pe_ix ix_list (pv 3) pe_int (fun _ _ => rfl)) pa_nil))) pe_str) (nomark _))))))) (pss_one (ps_ret pe_bl)) pss_nil)))))))))))
      (pss_one (ps_ret pe_bl))), ?_⟩
    refine ⟨_, rfl, a, ns, rfl, hS, fun H1 sm1 => ⟨true, rfl, iteF ?_⟩⟩
    refine ⟨fun v H2 => ∃ m : Int, v = .int m ∧ 0 ≤ m ∧ m ≤ 8 ∧ H1 = H2, ?_, ?_⟩
    · refine ⟨_, rfl, a, _, rfl, .inl (SqL.ext hS sm1), _, _, rfl, _, _, rfl, ?_⟩
      refine ⟨_, rfl, ?_, ?_, rfl⟩
      · split <;> split <;> omega
      · split <;> split <;> omega
    rintro v H2 ⟨m, rfl, m0, m8, rfl⟩
    refine ⟨m, rfl, by omega, by omega, ?_⟩
    refine for_range (lo := 0) (n := m.toNat) (fun i σ H1 => (∃ a1 a2 a3 a4 a5 a6 a7 a8, σ = [some (.ref a), a1, a2, a3, a4, a5, a6, a7, a8]) ∧ Same H H1) ?_ ?_ ?_
    · exact ⟨⟨_, _, _, _, _, _, _, _, rfl⟩, sm1⟩
    · rintro i σ H1 hi ⟨⟨a1, a2, a3, a4, a5, a6, a7, a8, rfl⟩, sm1⟩
      refine ⟨_, rfl, _, rfl, a, ns, _, rfl, SqL.ext hS sm1, by omega, by omega, fun b H2 sm2 hb B2 => ?_⟩
      have hb0 : H b = none := sm1.free hb
      have toS : ∀ {H' : Hp}, Kp b H2 H' → Same H H' := fun {H'} kp c o e => kp c o (fun q => by rw [q, hb0] at e; cases e) (sm2 _ _ (sm1 _ _ e))
      refine ⟨_, rfl, b, 0, rfl, B2, by decide, fun p mm H3 hp2 at3 dm K3 B3 => ?_⟩
      obtain ⟨t, hp3, ht3⟩ := id at3
      have lo := dm.loose
      refine ⟨_, rfl, 0, p, _, _, _, _, _, _, _, _, _, mm.ds, rfl, hp3, Nine.tp ht3, fun x1 H4 sm4 hx1 f1 => ?_⟩
      obtain ⟨t4, hp4, ht4⟩ := at3.same sm4
      refine ⟨_, rfl, 1, p, _, _, _, _, _, _, _, _, _, mm.ds, rfl, hp4, Nine.tp ht4, fun x2 H5 sm5 hx2 f2 => ?_⟩
      have sm35 : Same H3 H5 := sm4.trans sm5
      refine ⟨_, rfl, _, rfl, b, p, mm, 0 + 500, rfl, B3.same sm35, at3.same sm35, dm, by decide, fun q m' H6 hq at6 lo' ne K6 B6 => ?_⟩
      obtain ⟨t6, hq6, ht6⟩ := id at6
      refine ⟨1, q, _, _, _, _, _, _, _, _, _, m'.ds, rfl, hq6, Nine.tp ht6, fun x3 H7 sm7 hx3 f3 => ⟨_, _, _, rfl, ?_⟩⟩
      have B5 : Bag H5 b (0 + 500) := B3.same sm35
      have K27 : Kp b H2 H7 := ((K3.same sm35).trans K6).same sm7
      have B7 := B6.same sm7
      have T7 : Trio C H7 x1 x2 x3 mm.ds m'.ds := ⟨((f1.same sm5).kp K6 B5).same sm7, (f2.kp K6 B5).same sm7, f3⟩
      have n12 : x1 ≠ x2 := fun e => by
        obtain ⟨o, h⟩ := let_at f1
        rw [e, hx2] at h
        cases h
      have n13 : x1 ≠ x3 := fun e => by
        obtain ⟨o, h⟩ := let_at ((f1.same sm5).kp K6 B5)
        rw [e, hx3] at h
        cases h
      have npb : p ≠ b := fun e => by
        obtain ⟨x, y, z, e2, _⟩ := B3
        rw [← e, hp3] at e2
        cases e2
      have hp7 : H7 p = some (.lst (mm.vs t)) := sm7 _ _ (K6 _ _ npb (sm35 _ _ hp3))
      have ht7 : H7 t = some (.tup (mm.body.map V.int)) := sm7 _ _ ((K6.tk B5) _ _ (sm35 _ _ ht3))
      have sd := lo.all
      have se := lo'.all
      have refl1 : PyData.eqvAll mm.ds mm.ds = true := SeqAt.eqv_refl (.tuple mm.ds) (Sh.tup (n := 1) lo.sh).1
      have ne2 : PyData.eqvAll m'.ds mm.ds = false := by rw [eqvAll_swap]; exact ne
      have i0 : 0 ≤ mm.num := lo.n0
      have i1 : mm.num ≤ 1001 := lo.n1
      have c8 : ∃ c, mm.ds[8]? = some (.tuple c) := ⟨_, rfl⟩
      have tp7 : TpAll H7 (mm.vs t) mm.ds := Nine.tp ht7
      have tpS : ∀ {H' : Hp}, Same H7 H' → TpAll H' (mm.vs t) mm.ds := fun s => TpAll.keep (Same.tk s) _ _ tp7
      clear f1 f2 f3 at6 hq6 ht6
      -- fields
      refine ⟨_, rfl, _, rfl, x1, p, p, [], _, mm.ds, rfl, T7.f1, hp7, tp7, lo.sh, c8, fun H8 s8 => ⟨true, rfl, iteF ?_⟩⟩
      refine ⟨_, rfl, _, rfl, x2, p, p, [], _, mm.ds, rfl, T7.f2.same s8, s8 _ _ hp7, tpS s8, lo.sh, c8, fun H9 s9 => ⟨true, rfl, iteF ?_⟩⟩
      have T9 := (T7.same s8).same s9
      -- equal letters
      refine ⟨fun v H10 => ∃ L, v = .ref L ∧ H10 L = some (.lst [.bl true, .bl true, .bl true, .bl true]) ∧ Same H9 H10, ?_, ?_⟩
      · have a12 := ans_let T9.f1 T9.f2 sd sd
        have a21 := ans_let T9.f2 T9.f1 sd sd
        rw [refl1] at a12 a21
        refine ⟨_, rfl, _, rfl, true, .inl ⟨T9.f1.isF, .inr T9.f2.isF, a12⟩, _, rfl, _, rfl, true, .inl ⟨T9.f2.isF, .inr T9.f1.isF, a21⟩, _, rfl, _, rfl, (by show 1 ≤ sizeLine; decide), fun l hl => ?_⟩
        have S1 : Same H9 (upd H9 l (.lst [.ref x2])) := Same.new hl
        have TA := T9.same S1
        have b21 := ans_let TA.f2 TA.f1 sd sd
        rw [refl1] at b21
        refine ⟨l, _, true, rfl, upd_same, TA.f1.isF, fun e => n12 (by injection e with e; exact e.symm), .inl ⟨TA.f2.isF, b21⟩, _, rfl, (by show 2 ≤ sizeLine; decide), fun t1 ht1 => ⟨_, rfl, (by show 2 ≤ sizeLine; decide), fun t2 ht2 => ?_⟩⟩
        have s1 := Same.new (o := .tup [.int 0, .ref x1]) ht1
        have s2 := Same.new (o := .tup [.int 0, .ref x2]) ht2
        have TB := TA.same (s1.trans s2)
        have b12 := ans_let TB.f1 TB.f2 sd sd
        rw [refl1] at b12
        exact ⟨t1, t2, .ref x1, .ref x2, rfl, rfl, s2 _ _ upd_same, upd_same, (fun e => n12 (by injection e)), TB.f1.isF, TB.f2.isF, b12, (by show 4 ≤ sizeLine; decide), fun L hL => ⟨L, rfl, upd_same, S1.trans ((s1.trans s2).trans (Same.new hL))⟩⟩
      rintro v H10 ⟨L, rfl, hL, s10⟩
      have T10 := T9.same s10
      refine ⟨_, rfl, (by show 1 ≤ sizeLine; decide), fun l hl => ⟨l, 4, _, rfl, rfl, upd_same, by decide, by decide, (by show 1 * 4 ≤ sizeLine; decide), fun l2 hl2 => ?_⟩⟩
      have S1 : Same H10 (upd H10 l (.lst [.bl true])) := Same.new hl
      have S2 : Same (upd H10 l (.lst [.bl true])) (upd (upd H10 l (.lst [.bl true])) l2 (.lst (List.replicate (4 : Int).toNat [V.bl true]).flatten)) := Same.new hl2
      have four : ∀ {H' : Hp} {b1 b2 b3 b4 : Bool}, DpAll K H' [.bl b1, .bl b2, .bl b3, .bl b4] [.bool b1, .bool b2, .bool b3, .bool b4] := .cons (.bl _) (.cons (.bl _) (.cons (.bl _) (.cons (.bl _) .nil)))
      refine ⟨.list [.bool true, .bool true, .bool true, .bool true], .list [.bool true, .bool true, .bool true, .bool true], .lst (SqL.of ((S1.trans S2) _ _ hL)) four, .lst (SqL.of upd_same) four, rfl, rfl, _, rfl, iteF ?_⟩
      have T11 := T10.same (S1.trans S2)
      have a12 := ans_let T11.f1 T11.f2 sd sd
      rw [refl1] at a12
      refine ⟨_, rfl, _, rfl, true, T11.f1.isF, .inr T11.f2.isF, a12, _, rfl, iteF ?_⟩
      have s7b := ((s8.trans s9).trans s10).trans (S1.trans S2)
      generalize (upd (upd H10 l (.lst [.bl true])) l2 (.lst (List.replicate (4 : Int).toNat [V.bl true]).flatten)) = H11 at T11 a12 s7b
      -- unlike letters
      refine ⟨fun v H12 => ∃ L, v = .ref L ∧ H12 L = some (.lst [.bl false, .bl false, .bl false, .bl true]) ∧ Same H11 H12, ?_, ?_⟩
      · have a13 := ans_let T11.f1 T11.f3 sd se
        have a31 := ans_let T11.f3 T11.f1 se sd
        rw [ne] at a13
        rw [ne2] at a31
        refine ⟨_, rfl, _, rfl, false, .inl ⟨T11.f1.isF, .inr T11.f3.isF, a13⟩, _, rfl, _, rfl, false, .inl ⟨T11.f3.isF, .inr T11.f1.isF, a31⟩, _, rfl, _, rfl, (by show 1 ≤ sizeLine; decide), fun l hl => ?_⟩
        have TA := T11.same (Same.new (o := .lst [.ref x3]) hl)
        have b31 := ans_let TA.f3 TA.f1 se sd
        have b32 := ans_let TA.f3 TA.f2 se sd
        rw [ne2] at b31 b32
        exact ⟨l, _, false, rfl, upd_same, TA.f1.isF, (fun e => n13 (by injection e with e; exact e.symm)), .inl ⟨TA.f3.isF, b31⟩, _, rfl, _, rfl, false, TA.f3.isF, .inr TA.f2.isF, b32, (by show 4 ≤ sizeLine; decide), fun L hL => ⟨L, rfl, upd_same, (Same.new hl).trans (Same.new hL)⟩⟩
      rintro v H12 ⟨M, rfl, hM, s12⟩
      refine ⟨(by show 4 ≤ sizeLine; decide), fun l3 hl3 => ?_⟩
      have S3 := Same.new (o := .lst [.bl false, .bl false, .bl false, .bl true]) hl3
      refine ⟨.list [.bool false, .bool false, .bool false, .bool true], .list [.bool false, .bool false, .bool false, .bool true], .lst (SqL.of (S3 _ _ hM)) four, .lst (SqL.of upd_same) four, rfl, rfl, _, rfl, iteF ?_⟩
      have T13 := (T11.same s12).same S3
      have s713 := s7b.trans (s12.trans S3)
      generalize (upd H12 l3 (.lst [.bl false, .bl false, .bl false, .bl true])) = H13 at T13 s713
      have B13 := B7.same s713
      have hp13 := s713 _ _ hp7
      -- what is no letter
      refine ⟨fun v H14 => Odd H14 v ∧ Kp b H13 H14, ?_, ?_⟩
      · refine ⟨_, rfl, _, rfl, p, _, rfl, .inl ⟨SqL.of hp13, fun tt htt => ?_⟩⟩
        have s14 := Same.new (o := .tup (mm.vs t)) htt
        refine ⟨_, rfl, p, _, _, _, rfl, rfl, SqL.of (s14 _ _ hp13), rfl, (by show 6 ≤ sizeLine; decide), fun W hW => ?_⟩
        have s15 := s14.trans (Same.new (o := .lst [.non, .ref p, .ref tt, .int mm.num, .str "Letter", .bl true]) hW)
        have htt15 := (Same.new (o := .lst [.non, .ref p, .ref tt, .int mm.num, .str "Letter", .bl true]) hW) tt _ (upd_same (H := H13) (a := tt) (o := .tup (mm.vs t)))
        have hW15 : (upd (upd H13 tt (.tup (mm.vs t))) W (.lst [.non, .ref p, .ref tt, .int mm.num, .str "Letter", .bl true])) W = some (.lst [.non, .ref p, .ref tt, .int mm.num, .str "Letter", .bl true]) := upd_same
        have nWb : W ≠ b := new_ne hW (B13.new htt)
        generalize (upd (upd H13 tt (.tup (mm.vs t))) W (.lst [.non, .ref p, .ref tt, .int mm.num, .str "Letter", .bl true])) = H15 at s15 htt15 hW15
        refine ⟨_, rfl, b, 6, _, rfl, by decide, by decide, B13.same s15, by decide, fun d H16 d0 d1 K16 B16 => ?_⟩
        have hW16 := K16 W _ nWb hW15
        obtain ⟨v, ev, _, hv⟩ := atI_in (xs := [V.non, .ref p, .ref tt, .int mm.num, .str "Letter", .bl true]) d0 d1
        refine ⟨W, _, _, v, rfl, rfl, SqL.of hW16, ev, ?_, (Kp.refl.same s15).trans K16⟩
        have tk16 := K16.tk (B13.same s15)
        simp only [List.mem_cons, List.not_mem_nil, or_false] at hv
        rcases hv with rfl | rfl | rfl | rfl | rfl | rfl
        · exact .non
        · exact .lst (K16 _ _ npb (s15 _ _ hp13))
        · exact .tup (tk16 _ _ htt15)
        · exact .int _
        · exact .str _
        · exact .bl _
      rintro od H14 ⟨hod, K14⟩
      have T14 : Trio C H14 x1 x2 x3 mm.ds m'.ds := ⟨T13.f1.kp K14 B13, T13.f2.kp K14 B13, T13.f3.kp K14 B13⟩
      have hp14 : H14 p = some (.lst (mm.vs t)) := K14 _ _ npb hp13
      have big : ∀ {n : Nat}, n ≤ 30 → n ≤ sizeLine := fun h => Nat.le_trans h (by decide)
      have hT : (Str.ofString (toString mm.num)).length ≤ 4 := txt4 i0 i1
      have l1 : ("Letter(" : Str).length = 7 := by decide +kernel
      have l3 : (")" : Str).length = 1 := by decide +kernel
      have ll : (letText mm.num).length ≤ 12 := by
        unfold letText
        rw [app_len, app_len]
        omega
      refine ⟨_, rfl, _, rfl, false, .inl ⟨T14.f1.isF, .inl hod, ans_odd hod⟩, _, rfl, iteF ?_⟩
      refine ⟨_, rfl, _, rfl, false, .inr ⟨hod, T14.f1.isF, ans_odd hod⟩, _, rfl, iteF ?_⟩
      refine ⟨_, rfl, _, rfl, false, T14.f1.isF, .inl hod, ans_odd hod, _, rfl, iteF ?_⟩
      refine ⟨_, rfl, _, letText mm.num, rfl, T14.f1.isF, big (by omega), ⟨x1, mm.num, _, rfl, T14.f1, i0, i1, rfl, rfl⟩, ?_⟩
      refine ⟨_, rfl, p, _, _, _, rfl, rfl, SqL.of hp14, rfl, _, rfl, log_lt i0 (by omega), _, _, rfl, rfl, big (by omega), _, _, rfl, rfl, big (by rw [app_len]; omega), rfl, _, rfl, iteN (neSelf _) ?_⟩
      exact ⟨⟨_, _, _, _, _, _, _, _, rfl⟩, toS ((K27.same s713).trans K14)⟩
    · rintro σ H1 ⟨_, sm⟩
      exact k H1
end
end Fh

set_option Elab.async false
set_option linter.all false
set_option maxRecDepth 100000
set_option maxHeartbeats 0
namespace Fh
open PySem PySem.Spec PyProof.Rows L2
def fdef (x : Str) (s : Stmt) : He.DefD := ⟨(x, none), x, x, defArgs s, defBody s, defScope s, [], []⟩
def mdef (m q : Str) (s : Stmt) : He.DefD := ⟨("Letter", some m), m, q, defArgs s, defBody s, defScope s, [], []⟩
def fn : List He.DefD := [mdef "__init__" "Letter.__init__" sInit, mdef "__eq__" "Letter.__eq__" sEq, mdef "__repr__" "Letter.__repr__" sRepr, fdef "key_of" sKeyOf, fdef "key_below" sBelow, fdef "_law_bag" sBag, fdef "_law_take" sTake, fdef "_law_name" sName, fdef "_law_names" sUnlikeN, fdef "_law_drawn" sDrawn, fdef "_law_made" sMade, fdef "_law_fields_right" sRight, fdef "_law_bent" sBent, fdef "_law_keys_right" sKeys, fdef "law" sLaw]
def fa : List He.Fa := [.glo "Letter", .glo "key_of", .glo "key_below", .glo "_law_bag", .glo "_law_take", .glo "_law_name", .glo "_law_names", .glo "_law_drawn", .glo "_law_made", .glo "_law_fields_right", .glo "_law_bent", .glo "_law_keys_right", .glo "law", .free "len", .free "abs", .free "int", .free "range", .free "list", .free "min", .free "max", .free "tuple", .free "set", .free "str", .free "ord", .free "isinstance", .free "repr", .cls "Letter", .noat "Letter" "number", .noat "Letter" "way", .noat "Letter" "sender", .noat "Letter" "goal", .noat "Letter" "key", .noat "Letter" "face", .noat "Letter" "edition", .noat "Letter" "call", .noat "Letter" "body", .mkr "Letter", .meth "Letter" "__eq__", .meth "Letter" "__repr__", .meth "Letter" "__init__"]
abbrev fC (K : PySem.W.Frag) : Addr := He.ga K "Letter"
def tys : List String := ["NoneType", "tuple", "list", "str", "int", "bool"]
def ex (K : PySem.W.Frag) : Bool :=
  (decide (PySem.W.findIn K (.ref (fC K)) "__class__" = some (some (.builtin "object.__class__"))) && (decide (PySem.W.specialIn K (.builtin "object.__class__") "__get__" = some (some (.builtin "getset_descriptor.__get__"))) && (decide (PySem.W.takesIn K (.builtin "object.__class__") = some true) &&
  (decide (PySem.W.mroIn K (fC K) (.type "object") = some true) && (decide (PySem.W.kitOne K (.ref (fC K)) (.ref (fC K)) = some true) && (decide (PySem.W.findIn K (.ref (fC K)) "__ne__" = some (some (.builtin "object.__ne__"))) &&
  ((tys.all fun T => decide (PySem.W.kitOne K (.type T) (.ref (fC K)) = some false)) && ((tys.all fun T => decide (PySem.W.subIn K (.ref (fC K)) (.type T) = some false)) && (tys.all fun T => decide (PySem.W.subIn K (.type T) (.ref (fC K)) = some false))))))))))
abbrev R : PySem.W.OpenRow := PySem.W.OpenLaw.row PySem.Challenge.rw_facehouse_k43_letters_and_keys
abbrev hk : PySem.W.Hook := He.hookX 6 fa fn [] [] ex
def ob (s : PySem.W.SharedT) : He.AlX := He.obsX 6 fa fn [] [] ex (HandSHeadRun.getT s)
theorem ob_eq (s : PySem.W.SharedT) : ob s = hk.obs s.abs := He.obsX_eq (HandSHeadRun.getT_eq s)
def loose : List Str := ["_wall", "__name__", "Letter", "key_of", "key_below", "_law_bag", "_law_take", "_law_name", "_law_names", "_law_drawn", "_law_made", "_law_fields_right", "_law_bent", "_law_keys_right"]
theorem run (w : World) : HandSHeadRun.RunEq R (PySem.W.view R.prog [14]) hk ob 6000 loose w := by
  intro os
  kernel_rfl
end Fh

set_option Elab.async false
set_option linter.all false
set_option maxRecDepth 100000
set_option maxHeartbeats 0
namespace Fh
open PySem PySem.Spec PyProof.Rows L2
theorem toFun {K : PySem.W.Frag} {x q : Str} {st : Stmt} {f : Addr} {fd : FuncData} (F : FunD K x q (defArgs st) (defBody st) (defScope st) [] [] f fd) : Fun K x q st f fd := by
  obtain ⟨oc, od, dV, kV, doc, pm, an, cdv, ct, osl, e, lk, hcd, hD, _⟩ := F.ex
  rcases hD with ⟨_, rfl⟩ | ⟨e, _⟩
  · exact ⟨⟨oc, od, kV, doc, pm, an, cdv, ct, osl, e, lk, hcd⟩, F.kp⟩
  · exact absurd rfl e
theorem facts {P : Program} {w : World} {K : PySem.W.Frag} {h : Heap} {mg : Str → Option Value} {f : Addr} (X : K.In h) (G : h.Ns mainGlobals mg) (hfa : mg ("law" : Str) = some (.ref f)) (c : He.SaysX fa fn [] [] ex w h K) :
    ∃ fd : FuncData, (∀ (s : Shared) (v : Value), BindsTo s fd ⟨[v], []⟩ [("_law_script", v)]) ∧ ∀ base : Heap, K.In base → base.Ns mainGlobals mg → FnOk P w K mg base CX0 5 f fd ["_law_script"] (spLaw K) := by
  have d := c.t.d
  obtain ⟨x1, e⟩ := He.ba c.more
  obtain ⟨x2, e⟩ := He.ba e
  obtain ⟨x3, e⟩ := He.ba e
  obtain ⟨x4, e⟩ := He.ba e
  obtain ⟨x5, e⟩ := He.ba e
  obtain ⟨x6, e⟩ := He.ba e
  obtain ⟨x7, e⟩ := He.ba e
  obtain ⟨x8, x9⟩ := He.ba e
  have gl : ∀ (i : Nat) {x : Str}, fa[i]? = some (.glo x) → mg x = some (.ref (He.ga K x)) := fun i x hi => He.glo_ok X G (d.fact i hi)
  have fr : ∀ (i : Nat) {x : Str}, fa[i]? = some (.free x) → mg x = none := fun i x hi => He.free_ok X G (d.fact i hi)
  have na : ∀ (i : Nat) {x y : Str}, fa[i]? = some (.noat x y) → NoAttr K (He.ga K x) y := fun i x y hi => He.noat_ok (d.fact i hi)
  have GG : Glb mg := ⟨fr 13 rfl, fr 14 rfl, fr 15 rfl, fr 16 rfl, fr 17 rfl, fr 18 rfl, fr 19 rfl, fr 20 rfl, fr 21 rfl, fr 22 rfl, fr 23 rfl, fr 24 rfl, fr 25 rfl⟩
  have cl : Cls K (fC K) := He.cls_ok (d.fact 26 (f := .cls "Letter") rfl)
  have mk : Mk K (fC K) (He.ma K (fC K) "__init__") := He.mkr_ok (d.fact 36 (f := .mkr "Letter") rfl)
  have mE : Meth K (fC K) "__eq__" (He.ma K (fC K) "__eq__") := He.meth_ok (d.fact 37 (f := .meth "Letter" "__eq__") rfl)
  have mR : Meth K (fC K) "__repr__" (He.ma K (fC K) "__repr__") := He.meth_ok (d.fact 38 (f := .meth "Letter" "__repr__") rfl)
  have ins : C8.InsC K (fC K) := ⟨cl, of_decide_eq_true x1, of_decide_eq_true x2, of_decide_eq_true x3, of_decide_eq_true x4, of_decide_eq_true x5⟩
  have T : ClsL K mg (fC K) := ⟨cl, na 27 rfl, na 28 rfl, na 29 rfl, na 30 rfl, na 31 rfl, na 32 rfl, na 33 rfl, na 34 rfl, na 35 rfl, gl 0 rfl, fr 24 rfl, of_decide_eq_true x5, ins, fun t ht => of_decide_eq_true (List.all_eq_true.mp x7 t ht)⟩
  have own : OwnC K (fC K) (He.ma K (fC K) "__eq__") := ⟨mE.at_, mE.fn, of_decide_eq_true x6, of_decide_eq_true x4, fun t ht => ⟨of_decide_eq_true (List.all_eq_true.mp x8 t ht), of_decide_eq_true (List.all_eq_true.mp x9 t ht)⟩⟩
  obtain ⟨fdI, DI⟩ := d.def_ 0 (d := mdef "__init__" "Letter.__init__" sInit) rfl
  obtain ⟨fdE, DE⟩ := d.def_ 1 (d := mdef "__eq__" "Letter.__eq__" sEq) rfl
  obtain ⟨fdR, DRp⟩ := d.def_ 2 (d := mdef "__repr__" "Letter.__repr__" sRepr) rfl
  obtain ⟨fd0, D0⟩ := d.def_ 3 (d := fdef "key_of" sKeyOf) rfl
  obtain ⟨fd1, D1⟩ := d.def_ 4 (d := fdef "key_below" sBelow) rfl
  obtain ⟨fd2, D2⟩ := d.def_ 5 (d := fdef "_law_bag" sBag) rfl
  obtain ⟨fd3, D3⟩ := d.def_ 6 (d := fdef "_law_take" sTake) rfl
  obtain ⟨fd4, D4⟩ := d.def_ 7 (d := fdef "_law_name" sName) rfl
  obtain ⟨fd5, D5⟩ := d.def_ 8 (d := fdef "_law_names" sUnlikeN) rfl
  obtain ⟨fd6, D6⟩ := d.def_ 9 (d := fdef "_law_drawn" sDrawn) rfl
  obtain ⟨fd7, D7⟩ := d.def_ 10 (d := fdef "_law_made" sMade) rfl
  obtain ⟨fd8, D8⟩ := d.def_ 11 (d := fdef "_law_fields_right" sRight) rfl
  obtain ⟨fd9, D9⟩ := d.def_ 12 (d := fdef "_law_bent" sBent) rfl
  obtain ⟨fd10, D10⟩ := d.def_ 13 (d := fdef "_law_keys_right" sKeys) rfl
  obtain ⟨fd11, D11⟩ := d.def_ 14 (d := fdef "law" sLaw) rfl
  have e2 := hfa.symm.trans (gl 12 (x := "law") rfl)
  cases e2
  have bL := FunD.bindsA (ps := ["_law_script"]) D11 fun _ _ _ _ _ _ us hl => match us, hl with | [_], _ => rfl
  refine ⟨fd11, fun s v => bL s [v] rfl, fun base _ _ => ?_⟩
  have FI : FunD K "__init__" "Letter.__init__" (defArgs sInit) (defBody sInit) (defScope sInit) [] [] (He.ma K (fC K) "__init__") fdI := DI
  have M : MkL P w K mg base (fC K) := ⟨⟨_, fdI, mk, ok_init FI T, toFun (x := "__init__") (q := "Letter.__init__") (st := sInit) FI⟩, gl 0 rfl⟩
  have EQ : FEq P w K mg base (fC K) 1 (spEqL (fC K)) := ⟨⟨_, fdE, ["self", "other"], ok_eq (toFun (x := "__eq__") (q := "Letter.__eq__") (st := sEq) DE) T, FunD.bindsN (ps := ["self", "other"]) DE (fun _ _ _ _ _ _ us hl => match us, hl with | [_, _], _ => rfl), own⟩, ins⟩
  have ER : FRepr P w K mg base (fC K) 1 (spReprL (fC K)) := ⟨⟨_, fdR, ["self"], ok_repr (toFun (x := "__repr__") (q := "Letter.__repr__") (st := sRepr) DRp) T, FunD.bindsN (ps := ["self"]) DRp (fun _ _ _ _ _ _ us hl => match us, hl with | [_], _ => rfl), mR.at_, mR.fn⟩⟩
  have HO : Has P w K mg base "key_of" 1 pKeyOf spKeyOf := ⟨⟨_, fd0, gl 1 rfl, D0.kp, FunD.bindsN D0 (fun _ _ _ _ _ _ us hl => match us, hl with | [_, _], _ => rfl), ok_keyOf (toFun (x := "key_of") (q := "key_of") (st := sKeyOf) D0)⟩⟩
  have HBl : Has P w K mg base "key_below" 1 pBelow spBelow := ⟨⟨_, fd1, gl 2 rfl, D1.kp, FunD.bindsN D1 (fun _ _ _ _ _ _ us hl => match us, hl with | [_, _, _], _ => rfl), ok_below (toFun (x := "key_below") (q := "key_below") (st := sBelow) D1)⟩⟩
  have HB : Has P w K mg base "_law_bag" 1 ["_law_script", "_law_at"] (spBag K) := ⟨⟨_, fd2, gl 3 rfl, D2.kp, FunD.bindsN D2 (fun _ _ _ _ _ _ us hl => match us, hl with | [_, _], _ => rfl), ok_bag (toFun (x := "_law_bag") (q := "_law_bag") (st := sBag) D2) GG⟩⟩
  have HT : Has P w K mg base "_law_take" 1 pTake spTake := ⟨⟨_, fd3, gl 4 rfl, D3.kp, FunD.bindsN D3 (fun _ _ _ _ _ _ us hl => match us, hl with | [_, _], _ => rfl), ok_take (toFun (x := "_law_take") (q := "_law_take") (st := sTake) D3)⟩⟩
  have HN : Has P w K mg base "_law_name" 2 ["_law_bag_here"] spName := ⟨⟨_, fd4, gl 5 rfl, D4.kp, FunD.bindsN D4 (fun _ _ _ _ _ _ us hl => match us, hl with | [_], _ => rfl), ok_name (toFun (x := "_law_name") (q := "_law_name") (st := sName) D4) GG HT⟩⟩
  have HNs : Has P w K mg base "_law_names" 3 pNames spUnlikeN := ⟨⟨_, fd5, gl 6 rfl, D5.kp, FunD.bindsN D5 (fun _ _ _ _ _ _ us hl => match us, hl with | [_, _, _], _ => rfl), ok_unlikeN (toFun (x := "_law_names") (q := "_law_names") (st := sUnlikeN) D5) GG HN⟩⟩
  have HD : Has P w K mg base "_law_drawn" 4 ["_law_bag_here"] spDrawn := ⟨⟨_, fd6, gl 7 rfl, D6.kp, FunD.bindsN D6 (fun _ _ _ _ _ _ us hl => match us, hl with | [_], _ => rfl), ok_drawn (toFun (x := "_law_drawn") (q := "_law_drawn") (st := sDrawn) D6) GG HT HN HNs⟩⟩
  have HM : Has P w K mg base "_law_made" 3 pMade (spMade (fC K)) := ⟨⟨_, fd7, gl 8 rfl, D7.kp, FunD.bindsN D7 (fun _ _ _ _ _ _ us hl => match us, hl with | [_, _], _ => rfl), ok_made (toFun (x := "_law_made") (q := "_law_made") (st := sMade) D7) M⟩⟩
  have HRt : Has P w K mg base "_law_fields_right" 1 ["_law_one", "_law_nine"] (spRight (fC K)) := ⟨⟨_, fd8, gl 9 rfl, D8.kp, FunD.bindsN D8 (fun _ _ _ _ _ _ us hl => match us, hl with | [_, _], _ => rfl), ok_right (toFun (x := "_law_fields_right") (q := "_law_fields_right") (st := sRight) D8) T GG⟩⟩
  have HBe : Has P w K mg base "_law_bent" 2 ["_law_bag_here", "_law_nine"] spBent := ⟨⟨_, fd9, gl 10 rfl, D9.kp, FunD.bindsN D9 (fun _ _ _ _ _ _ us hl => match us, hl with | [_, _], _ => rfl), ok_bent (toFun (x := "_law_bent") (q := "_law_bent") (st := sBent) D9) GG HT⟩⟩
  have HKs : HasK P w K mg base := ⟨⟨_, fd0, gl 1 rfl, D0.kp, toFun (x := "key_of") (q := "key_of") (st := sKeyOf) D0, ok_keyOf (toFun (x := "key_of") (q := "key_of") (st := sKeyOf) D0)⟩, ⟨_, fd1, gl 2 rfl, D1.kp, toFun (x := "key_below") (q := "key_below") (st := sBelow) D1, ok_below (toFun (x := "key_below") (q := "key_below") (st := sBelow) D1)⟩, HO, HBl⟩
  have HKr : Has P w K mg base "_law_keys_right" 4 ["_law_script"] (spKeys K) := ⟨⟨_, fd10, gl 11 rfl, D10.kp, FunD.bindsN D10 (fun _ _ _ _ _ _ us hl => match us, hl with | [_], _ => rfl), ok_keys (toFun (x := "_law_keys_right") (q := "_law_keys_right") (st := sKeys) D10) GG HB HT HN HNs HKs⟩⟩
  exact ok_law (toFun (x := "law") (q := "law") (st := sLaw) D11) GG T EQ ER HB HT HKr HD HBe HM HRt
end Fh
open PySem PySem.W PySem.Calls PyProof.Rows
theorem PySem.Challenge.cw_facehouse_k43_letters_and_keys_holds : PySem.Challenge.rw_facehouse_k43_letters_and_keys.Holds := by
  w_on; o_law
  refine HandSHeadRun.head_any (r := Fh.R) (q := view Fh.R.prog [14]) (H := Fh.hk) (ob := Fh.ob) (M := 6000) (loose := Fh.loose) (d := HandSHeadRun.topDef Fh.R.prog 14) (kwd := []) Fh.ob_eq
    (by kernel_rfl) (fun s => by kernel_rfl) Fh.run (by kernel_rfl) (by kernel_rfl) (by kernel_rfl) (by rfl) (by first | assumption | decide +kernel) (by decide +kernel) ⟨rfl, rfl, rfl, rfl, rfl, by decide +kernel⟩ ?hw ?hc
  case hw => w_witness2
  case hc =>
    refine L2.walk_ofE (l := PySem.Challenge.rw_facehouse_k43_letters_and_keys) (n := 63) (k := 5) (x := "_law_script") (CX := L2.CX0) rfl (by decide) (by kernel_rfl) ⟨rfl, by decide, by decide⟩ ?F (fun _ _ _ _ z => z)
    intro w mg fa h Y G hmg0
    obtain ⟨K, KX, c⟩ := Y
    have hmg : mg ("law" : PySem.Str) = some (.ref fa) := by
      have e : (HandSHeadRun.topDef Fh.R.prog 14).name = ("law" : PySem.Str) := by kernel_rfl
      rw [← e]
      exact hmg0
    obtain ⟨fd, hb, hF⟩ := Fh.facts (P := (PySem.Challenge.rw_facehouse_k43_letters_and_keys).prog) (w := w) KX G hmg c
    exact ⟨K, fd, Fh.spLaw K, KX, hb, fun H a ns hl _ hS => ⟨a, ns, rfl, hS, fun _ => rfl⟩, hF⟩
