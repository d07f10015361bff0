import PyProof.Rows.All
import Wide.All
import OpenK.AllK
import Wide.FinOn
import HandS.ForMost
import HandS.TupAny
import HandS.Zip
import HandS.Flow
import HandS.Wide
import HandS.IsInst
import HandS.FStr
import HandS.OwnEq
import HandS.MakeKwOnly
import HandS.Codes
import HandS.Walk
import HandS.DictComp
import HandS.Style
import HandS.More
import HandS.HeadHook1
import HandS.HeadHook2
import HandS.HeadHook3
import HandS.HeadHook4
import HandS.Head0
import HandS.Head1
import HandS.Head2
import HandS.HeadEnd
import PySem.Challenge.RW_facehouse_k31_kinds_that_read
set_option Elab.async false
set_option linter.all false
set_option maxRecDepth 100000
set_option maxHeartbeats 4000000
namespace Fh
open PySem L2 PyProof.Rows
/-! ### rules of our own -/
theorem bits_le {i : Int} {n : Nat} (h : i.natAbs < 2 ^ n) : Builtin.Int.intBits i ≤ n := by
  unfold Builtin.Int.intBits
  split
  · exact Nat.zero_le _
  · rename_i hz
    have h0 : i.natAbs ≠ 0 := fun e => hz (by simp [Int.natAbs_eq_zero.mp e])
    exact (Nat.log2_lt h0).mpr h
def CPowW (i j : Int) : Prop := 0 ≤ j ∧ j ≤ 1000 ∧ i.natAbs < 2 ^ 100
theorem CPowW.ok {i j : Int} (h : CPowW i j) : (Builtin.Int.intBits i : Int) * j ≤ 2 ^ 27 := by
  obtain ⟨h0, h1, h2⟩ := h
  have hb : (Builtin.Int.intBits i : Int) ≤ 100 := by exact_mod_cast bits_le h2
  calc (Builtin.Int.intBits i : Int) * j ≤ 100 * 1000 := Int.mul_le_mul hb h1 h0 (by decide)
    _ ≤ 2 ^ 27 := by decide
theorem op_powW {X : Cx} : OpR X (binaryOp .Pow) (rI CPowW fun i j => .int (i ^ j.toNat)) := opI fun _ _ _ _ _ _ _ hc q => pow_int hc.1 hc.ok q
/-- what an expression gives, by a word between it and what follows -/
def tMid (t : TE) : TE := fun σ H Q => ∃ Mid : V → Hp → Prop, t σ H Mid ∧ ∀ v H', Mid v H' → Q v H'
theorem pe_mid {X : Cx} {e : Expr} {t : TE} (h : PE X e t) : PE X e (tMid t) := by
  refine ⟨fun pins s σ H Q I hq => ?_⟩
  obtain ⟨Mid, hm, hu⟩ := hq
  exact thn (h.run pins s σ H Mid I hm) fun v s1 ⟨x, H1, I1, r1, q1⟩ => ⟨x, H1, I1, r1, hu x H1 q1⟩
theorem atI_in {α : Type} {xs : List α} {i : Int} (h0 : 0 ≤ i) (h1 : i < (xs.length : Int)) : ∃ v, atI xs i = some v ∧ xs[i.toNat]? = some v ∧ v ∈ xs := by
  have hj : i.toNat < xs.length := by omega
  have e : ixN xs.length i = some i.toNat := by
    unfold ixN
    rw [if_pos h0, if_pos h1]
  refine ⟨xs[i.toNat], ?_, List.getElem?_eq_getElem hj, List.getElem_mem hj⟩
  unfold atI
  rw [e]
  exact List.getElem?_eq_getElem hj
/-! ### the bag -/
/-- a bag at b, drawn from at most n times -/
def Bag (H : Hp) (b : Addr) (n : Nat) : Prop := ∃ x y z : Int, H b = some (.lst [.int x, .int y, .int z]) ∧ 0 ≤ y ∧ y < 2 ^ 61 ∧ 0 ≤ z ∧ z ≤ (n : Int)
theorem Bag.mono {H : Hp} {b : Addr} {n m : Nat} (h : Bag H b n) (hm : n ≤ m) : Bag H b m := by
  obtain ⟨x, y, z, e, a1, a2, a3, a4⟩ := h
  exact ⟨x, y, z, e, a1, a2, a3, by omega⟩
/-- all but what stands at b is kept -/
def Kp (b : Addr) (H H' : Hp) : Prop := ∀ a o, a ≠ b → H a = some o → H' a = some o
theorem Kp.refl {b : Addr} {H : Hp} : Kp b H H := fun _ _ _ h => h
theorem Kp.trans {b : Addr} {H H1 H2 : Hp} (x : Kp b H H1) (y : Kp b H1 H2) : Kp b H H2 := fun a o n h => y a o n (x a o n h)
theorem Kp.same {b : Addr} {H H1 H2 : Hp} (x : Kp b H H1) (y : Same H1 H2) : Kp b H H2 := fun a o n h => y a o (x a o n h)
theorem Kp.upd {b : Addr} {H : Hp} {o : HO} : Kp b H (upd H b o) := fun a u n h => by rw [upd_ne n]; exact h
theorem Kp.new {b p : Addr} {H H1 : Hp} {o : HO} (x : Kp b H H1) (h : H1 p = none) : Kp b H (L2.upd H1 p o) := fun a u n e => by
  rw [upd_ne (ne_of_none (x a u n e) h)]
  exact x a u n e
theorem Kp.wr {b p : Addr} {H H1 : Hp} {o : HO} (x : Kp b H H1) (h : H p = none) : Kp b H (L2.upd H1 p o) := fun a u n e => by
  rw [upd_ne (ne_of_none e h)]
  exact x a u n e
theorem Bag.same {H H' : Hp} {b : Addr} {n : Nat} (h : Bag H b n) (s : Same H H') : Bag H' b n := by
  obtain ⟨x, y, z, e, a⟩ := h
  exact ⟨x, y, z, s _ _ e, a⟩
theorem Bag.new {H : Hp} {b p : Addr} {n : Nat} {o : HO} (h : Bag H b n) (hp : H p = none) : Bag (L2.upd H p o) b n := by
  obtain ⟨x, y, z, e, a⟩ := h
  exact ⟨x, y, z, by rw [upd_ne (ne_of_none e hp)]; exact e, a⟩
theorem Bag.ne {H : Hp} {b p : Addr} {n : Nat} {o : HO} (h : Bag H b n) (hp : p ≠ b) : Bag (L2.upd H p o) b n := by
  obtain ⟨x, y, z, e, a⟩ := h
  exact ⟨x, y, z, by rw [upd_ne (Ne.symm hp)]; exact e, a⟩
theorem Kp.free {b p : Addr} {H H' : Hp} (x : Kp b H H') (hb : ∃ o, H' b = some o) (h : H' p = none) : H p = none := by
  cases q : H p with
  | none => rfl
  | some o =>
    by_cases e : p = b
    · subst e
      obtain ⟨u, hu⟩ := hb
      rw [h] at hu
      cases hu
    · rw [x p o e q] at h
      cases h
theorem Bag.at {H : Hp} {b : Addr} {n : Nat} (h : Bag H b n) : ∃ o, H b = some o := let ⟨_, _, _, e, _⟩ := h; ⟨_, e⟩
/-! ### promises: the bag and a draw -/
def most : Nat := 1000000
def spTake : Sp := fun vs H Q _ => ∃ (b : Addr) (size : Int) (n : Nat), vs = [.ref b, .int size] ∧ 0 < size ∧ size < 1073741824 ∧ Bag H b n ∧ n ≤ most ∧
  ∀ (d : Int) (H' : Hp), 0 ≤ d → d < size → Kp b H H' → Bag H' b (n + 1) → Q (.int d) H'
def spBag (K : PySem.W.Frag) : Sp := fun vs H Q _ => ∃ (a : Addr) (ns : List Int) (i : Int), vs = [.ref a, .int i] ∧ SqL K H a (ns.map V.int) ∧ 0 ≤ i ∧ i ≤ 100 ∧
  ∀ (p : Addr) (H' : Hp), Same H H' → H p = none → Bag H' p 0 → Q (.ref p) H'
theorem basis_le {y z : Int} (hy : 0 ≤ y) (hy2 : y < 2 ^ 61) (hz : 0 ≤ z) (hz2 : z ≤ 1000001) : (y * (2 * z + 1) + 6007 * z * z + 31).natAbs < 2 ^ 100 := by
  have h1 : y * (2 * z + 1) ≤ 2 ^ 61 * 2000003 := Int.mul_le_mul (by omega) (by omega) (by omega) (by decide)
  have h2 : (6007 * z) * z ≤ (6007 * 1000001) * 1000001 := Int.mul_le_mul (by omega) hz2 hz (by decide)
  have h3 : 0 ≤ y * (2 * z + 1) := Int.mul_nonneg hy (by omega)
  have h4 : 0 ≤ (6007 * z) * z := Int.mul_nonneg (by omega) hz
  omega
end Fh
set_option Elab.async false
set_option linter.all false
set_option maxRecDepth 100000
set_option maxHeartbeats 4000000
namespace Fh
open PySem L2 PyProof.Rows
/-! ### a def that is called by its name -/
structure Has (P : Program) (w : World) (K : PySem.W.Frag) (mg : Str → Option Value) (base : Heap) (x : Str) (k : Nat) (ps : List Str) (sp : Sp) : Prop where
  ex : ∃ (f : Addr) (fd : FuncData), mg x = some (.ref f) ∧ PySem.W.keepIn K (.ref f) = true ∧ Binds K fd ps [] ∧ FnOk P w K mg base CX0 k f fd ps sp
theorem pe_has {X : Cx} {k : Nat} {x : Str} {ps : List Str} {sp : Sp} {e : Expr} {es : List Expr} {t : TA} {p pos : Pos} (D : Has X.prog X.w X.K X.mg X.base x k ps sp) (hr : Room k X.A) (hg : Gl X x)
    (ha : PA X (e :: es) t) (hdb : (x == ("__debug__" : Str)) = false := by decide) (he : starEach (e :: es) X.env = (false, eval e X.env) :: starEach es X.env := by rfl) (hpl : (backTo pos (starEach es X.env)).any (·.1) = false := by rfl) :
    PE X (.Call (.Name x p) (e :: es) [] pos) (tCall sp [] E0 t) := by
  obtain ⟨f, fd, hm, hk, hb, F⟩ := D.ex
  exact pe_call F hr hg hm hk hb .nil pass0 ha hdb he hpl
theorem iteT_elim {A B : Prop} (h : if true = true then A else B) : A := by rw [if_pos rfl] at h; exact h
theorem iteF_elim {A B : Prop} (h : if false = true then A else B) : B := by rw [if_neg Bool.false_ne_true] at h; exact h
theorem yes {σ : L2.St} {H : Hp} {Q : Bool → Hp → Prop} (h : Q true H) : tYes σ H Q := h
theorem b01 {i : Int} {k : Bool} : CMul i (if k = true then 1 else 0) := by cases k <;> exact .inr ⟨by decide, by decide⟩
def Lt (c : Nat) : Prop := 97 ≤ c ∧ c ≤ 122
def one (c : Nat) : Str := ⟨#[c]⟩
abbrev abc : Str := "abcdefghijklmnopqrstuvwxyz"
theorem abc_codes : abc.cps.toList = [97, 98, 99, 100, 101, 102, 103, 104, 105, 106, 107, 108, 109, 110, 111, 112, 113, 114, 115, 116, 117, 118, 119, 120, 121, 122] := by decide +kernel
theorem abc_at {i : Int} (h0 : 0 ≤ i) (h1 : i < 26) : ∃ c, atI abc.cps.toList i = some c ∧ Lt c := by
  have hl : abc.cps.toList.length = 26 := by rw [abc_codes]; rfl
  obtain ⟨v, e, _, hm⟩ := atI_in (xs := abc.cps.toList) h0 (by rw [hl]; exact h1)
  refine ⟨v, e, ?_⟩
  rw [abc_codes] at hm
  revert hm
  unfold Lt
  simp only [List.mem_cons, List.not_mem_nil, or_false]
  omega
theorem in_strs (z : Str) (zs : List Str) : inV (.str z) (zs.map V.str) = decide (z ∈ zs) := by
  unfold inV
  induction zs with
  | nil => rfl
  | cons a r ih =>
    rw [List.map_cons, List.any_cons, ih]
    show ((a == z) || decide (z ∈ r)) = decide (z ∈ a :: r)
    by_cases h : a = z
    · subst h; simp
    · have h' : ¬ z = a := fun e => h e.symm
      simp [h, h']
theorem strs_ne_bag {H : Hp} {l b : Addr} {n : Nat} {zs : List Str} (hl : H l = some (.lst (zs.map V.str))) (hb : Bag H b n) : l ≠ b := by
  rintro rfl
  obtain ⟨x, y, z, e, _⟩ := hb
  rw [hl] at e
  cases zs with
  | nil => cases e
  | cons a r => cases e
theorem new_ne {H : Hp} {p b : Addr} {n : Nat} (hp : H p = none) (hb : Bag H b n) : p ≠ b := by
  rintro rfl
  obtain ⟨x, y, z, e, _⟩ := hb
  rw [hp] at e
  cases e
/-! ### data in tuples -/
mutual
inductive Tp (H : Hp) : V → PyData → Prop
  | int (i : Int) : Tp H (.int i) (.int i)
  | str (x : Str) : Tp H (.str x) (.str x)
  | tup {a : Addr} {xs : List V} {ds : List PyData} : H a = some (.tup xs) → TpAll H xs ds → Tp H (.ref a) (.tuple ds)
inductive TpAll (H : Hp) : List V → List PyData → Prop
  | nil : TpAll H [] []
  | cons {v : V} {vs : List V} {d : PyData} {ds : List PyData} : Tp H v d → TpAll H vs ds → TpAll H (v :: vs) (d :: ds)
end
/-- tuples stay -/
def Tk (H H' : Hp) : Prop := ∀ a xs, H a = some (.tup xs) → H' a = some (.tup xs)
mutual
theorem Tp.keep {H H' : Hp} (t : Tk H H') : ∀ (d : PyData) (v : V), Tp H v d → Tp H' v d
  | .none, _, h => by cases h
  | .bool _, _, h => by cases h
  | .int i, _, h => by cases h; exact .int i
  | .str x, _, h => by cases h; exact .str x
  | .list _, _, h => by cases h
  | .dict _, _, h => by cases h
  | .tuple ds, _, h => by
    cases h with
    | tup e q => exact .tup (t _ _ e) (TpAll.keep t ds _ q)
theorem TpAll.keep {H H' : Hp} (t : Tk H H') : ∀ (ds : List PyData) (vs : List V), TpAll H vs ds → TpAll H' vs ds
  | [], _, h => by cases h; exact .nil
  | d :: ds, _, h => by
    cases h with
    | cons a q => exact .cons (Tp.keep t d _ a) (TpAll.keep t ds _ q)
end
mutual
theorem Tp.dp {K : PySem.W.Frag} {H : Hp} : ∀ (d : PyData) (v : V), Tp H v d → Dp K H v d
  | .none, _, h => by cases h
  | .bool _, _, h => by cases h
  | .int i, _, h => by cases h; exact .int i
  | .str x, _, h => by cases h; exact .str x
  | .list _, _, h => by cases h
  | .dict _, _, h => by cases h
  | .tuple ds, _, h => by
    cases h with
    | tup e q => exact .tup (SqT.of e) (TpAll.dp ds _ q)
theorem TpAll.dp {K : PySem.W.Frag} {H : Hp} : ∀ (ds : List PyData) (vs : List V), TpAll H vs ds → DpAll K H vs ds
  | [], _, h => by cases h; exact .nil
  | d :: ds, _, h => by
    cases h with
    | cons a q => exact .cons (Tp.dp d _ a) (TpAll.dp ds _ q)
end
theorem Kp.tk {b : Addr} {H H' : Hp} {n : Nat} (k : Kp b H H') (hb : Bag H b n) : Tk H H' := fun a xs h => k a _ (fun e => by
  obtain ⟨x, y, z, e2, _⟩ := hb
  rw [← e, h] at e2
  cases e2) h
theorem Tk.refl {H : Hp} : Tk H H := fun _ _ h => h
theorem Tk.trans {H H1 H2 : Hp} (a : Tk H H1) (b : Tk H1 H2) : Tk H H2 := fun c xs h => b c xs (a c xs h)
theorem Same.tk {H H' : Hp} (s : Same H H') : Tk H H' := fun a xs h => s a _ h
theorem Tk.new {H : Hp} {p : Addr} {o : HO} (h : H p = none) : Tk H (upd H p o) := fun a xs e => by rw [upd_ne (ne_of_none e h)]; exact e
theorem Tk.wr {H : Hp} {p : Addr} {ys : List V} {o : HO} (h : H p = some (.lst ys)) : Tk H (upd H p o) := fun a xs e => by
  rw [upd_ne (fun q => by rw [q, h] at e; cases e)]
  exact e
theorem TpAll.length {H : Hp} : ∀ {vs : List V} {ds : List PyData}, TpAll H vs ds → vs.length = ds.length
  | _, _, .nil => rfl
  | _, _, .cons _ q => by simp [TpAll.length q]
theorem TpAll.get {H : Hp} : ∀ {vs : List V} {ds : List PyData} {i : Nat} {d : PyData}, TpAll H vs ds → ds[i]? = some d → ∃ v, vs[i]? = some v ∧ Tp H v d
  | _, _, _, _, .nil, e => by simp at e
  | _, _, 0, _, .cons a _, e => by simp at e; subst e; exact ⟨_, rfl, a⟩
  | _, _, i + 1, d, .cons _ q, e => by
    obtain ⟨v, h1, h2⟩ := TpAll.get (i := i) (d := d) q (by simpa using e)
    exact ⟨v, by simpa using h1, h2⟩
theorem TpAll.get' {H : Hp} : ∀ {vs : List V} {ds : List PyData} {i : Nat} {v : V}, TpAll H vs ds → vs[i]? = some v → ∃ d, ds[i]? = some d ∧ Tp H v d
  | _, _, _, _, .nil, e => by simp at e
  | _, _, 0, _, .cons a _, e => by simp at e; subst e; exact ⟨_, rfl, a⟩
  | _, _, i + 1, v, .cons _ q, e => by
    obtain ⟨d, h1, h2⟩ := TpAll.get' (i := i) (v := v) q (by simpa using e)
    exact ⟨d, by simpa using h1, h2⟩
theorem TpAll.app {H : Hp} : ∀ {vs ws : List V} {ds es : List PyData}, TpAll H vs ds → TpAll H ws es → TpAll H (vs ++ ws) (ds ++ es)
  | _, _, _, _, .nil, s => s
  | _, _, _, _, .cons a q, s => .cons a (TpAll.app q s)
theorem TpAll.one {H : Hp} {v : V} {d : PyData} (h : Tp H v d) : TpAll H [v] [d] := .cons h .nil
theorem TpAll.strs {H : Hp} : ∀ zs : List Str, TpAll H (zs.map V.str) (zs.map PyData.str)
  | [] => .nil
  | z :: r => .cons (.str z) (TpAll.strs r)
theorem Tp.inv {H : Hp} {v : V} {ds : List PyData} (h : Tp H v (.tuple ds)) : ∃ a xs, v = .ref a ∧ H a = some (.tup xs) ∧ TpAll H xs ds := by
  cases h with
  | tup e q => exact ⟨_, _, rfl, e, q⟩
theorem Tp.istr {H : Hp} {v : V} {z : Str} (h : Tp H v (.str z)) : v = .str z := by cases h; rfl
theorem Tp.iint {H : Hp} {v : V} {i : Int} (h : Tp H v (.int i)) : v = .int i := by cases h; rfl
theorem TpAll.icons {H : Hp} {vs : List V} {d : PyData} {ds : List PyData} (h : TpAll H vs (d :: ds)) : ∃ v r, vs = v :: r ∧ Tp H v d ∧ TpAll H r ds := by
  cases h with
  | cons a q => exact ⟨_, _, rfl, a, q⟩
theorem TpAll.inil {H : Hp} {vs : List V} (h : TpAll H vs []) : vs = [] := by cases h; rfl
/-! ### shaped data -/
def Sh (n : Nat) (d : PyData) : Prop := d.canLay0 = true ∧ d.depth ≤ n
theorem strOk_of {z : Str} (h : ∀ c ∈ z.cps.toList, c < 0x110000) : PyData.canLay0 (.str z) = true := by
  show PyData.strOk z = true
  unfold PyData.strOk
  rw [Array.all_eq_true_iff_forall_mem]
  intro c hc
  exact decide_eq_true (h c (by simpa using hc))
theorem Sh.int {n : Nat} (i : Int) : Sh n (.int i) := ⟨rfl, Nat.zero_le _⟩
theorem Sh.mono {n m : Nat} {d : PyData} (h : Sh n d) (hm : n ≤ m) : Sh m d := ⟨h.1, Nat.le_trans h.2 hm⟩
theorem lay_all : ∀ ds : List PyData, (∀ d ∈ ds, d.canLay0 = true) → PyData.canLayAll0 ds = true
  | [], _ => rfl
  | d :: r, h => by
    show (PyData.canLay0 d && PyData.canLayAll0 r) = true
    rw [h d List.mem_cons_self, lay_all r fun e he => h e (List.mem_cons_of_mem _ he)]
    rfl
theorem depth_all {n : Nat} : ∀ ds : List PyData, (∀ d ∈ ds, d.depth ≤ n) → PyData.depthAll ds ≤ n
  | [], _ => Nat.zero_le _
  | d :: r, h => by
    show max (PyData.depth d) (PyData.depthAll r) ≤ n
    exact Nat.max_le.mpr ⟨h d List.mem_cons_self, depth_all r fun e he => h e (List.mem_cons_of_mem _ he)⟩
theorem Sh.tup {n : Nat} {ds : List PyData} (h : ∀ d ∈ ds, Sh n d) : Sh (n + 1) (.tuple ds) :=
  ⟨lay_all ds fun d hd => (h d hd).1, Nat.succ_le_succ (depth_all ds fun d hd => (h d hd).2)⟩
theorem Sh.lst {n : Nat} {ds : List PyData} (h : ∀ d ∈ ds, Sh n d) : Sh (n + 1) (.list ds) :=
  ⟨lay_all ds fun d hd => (h d hd).1, Nat.succ_le_succ (depth_all ds fun d hd => (h d hd).2)⟩
theorem Sh.shaped {n : Nat} {d : PyData} (h : Sh n d) (hn : n ≤ 64) : SeqAt.shaped d = true := by
  unfold SeqAt.shaped
  rw [h.1, decide_eq_true (Nat.le_trans h.2 hn)]
  rfl
/-! ### lists of data as python sees them -/
theorem Dp.strs {K : PySem.W.Frag} {H : Hp} : ∀ zs : List Str, DpAll K H (zs.map V.str) (zs.map PyData.str)
  | [] => .nil
  | z :: r => .cons (.str z) (Dp.strs r)
/-! ### a face's attributes -/
theorem putF_len (f : Str) (v : V) : ∀ fs : List (Str × V), (putF f v fs).length ≤ fs.length + 1
  | [] => Nat.le_refl _
  | (g, x) :: r => by
    show (if g = f then (g, v) :: r else (g, x) :: putF f v r).length ≤ _
    split
    · exact Nat.le_succ _
    · exact Nat.succ_le_succ (putF_len f v r)
def ff (nm ed ch rc cl : V) : List (Str × V) := putF "calls" cl (putF "records" rc (putF "choices" ch (putF "edition" ed (putF "name" nm []))))
section
variable {nm ed ch rc cl : V}
theorem ff_name : (ff nm ed ch rc cl).lookup ("name" : Str) = some nm := by
  unfold ff
  rw [lookup_putF, if_neg (by decide +kernel), lookup_putF, if_neg (by decide +kernel), lookup_putF, if_neg (by decide +kernel), lookup_putF, if_neg (by decide +kernel), lookup_putF, if_pos rfl]
theorem ff_edition : (ff nm ed ch rc cl).lookup ("edition" : Str) = some ed := by
  unfold ff
  rw [lookup_putF, if_neg (by decide +kernel), lookup_putF, if_neg (by decide +kernel), lookup_putF, if_neg (by decide +kernel), lookup_putF, if_pos rfl]
theorem ff_choices : (ff nm ed ch rc cl).lookup ("choices" : Str) = some ch := by
  unfold ff
  rw [lookup_putF, if_neg (by decide +kernel), lookup_putF, if_neg (by decide +kernel), lookup_putF, if_pos rfl]
theorem ff_records : (ff nm ed ch rc cl).lookup ("records" : Str) = some rc := by
  unfold ff
  rw [lookup_putF, if_neg (by decide +kernel), lookup_putF, if_pos rfl]
theorem ff_calls : (ff nm ed ch rc cl).lookup ("calls" : Str) = some cl := by
  unfold ff
  rw [lookup_putF, if_pos rfl]
end
end Fh
set_option Elab.async false
set_option linter.all false
set_option maxRecDepth 100000
set_option maxHeartbeats 4000000
namespace Fh
open PySem L2 PyProof.Rows
def top (i : Nat) : Stmt := PySem.Challenge.pw_facehouse_k31_kinds_that_read.main.body.getD i (.Pass ⟨0, 0, 0, 0⟩)
abbrev sBag : Stmt := top 38
abbrev sTake : Stmt := top 39
/-- built-in names that no module's name hides -/
structure Glb (mg : Str → Option Value) : Prop where
  len : mg "len" = none
  abs : mg "abs" = none
  int : mg "int" = none
  range : mg "range" = none
  min : mg "min" = none
  max : mg "max" = none
  tuple : mg "tuple" = none
  zip : mg "zip" = none
  enumerate : mg "enumerate" = none
  isi : mg "isinstance" = none
  str : mg "str" = none
  bool : mg "bool" = none
  sum : mg "sum" = none
  divmod : mg "divmod" = none
section
variable {P : Program} {w : World} {K : PySem.W.Frag} {mg : Str → Option Value} {base : Heap}
theorem scBag : FnScope ["_law_script", "_law_at", "_law_cell", "_law_far"] ["_law_script", "_law_at"] (defScope sBag) := ⟨rfl, rfl, rfl, by decide +kernel, rfl, by decide +kernel, by decide +kernel⟩
theorem scTake : FnScope ["_law_bag_here", "_law_size", "_law_digit", "_law_primes", "_law_stage", "_law_basis", "_law_found"] ["_law_bag_here", "_law_size"] (defScope sTake) := ⟨rfl, rfl, rfl, by decide +kernel, rfl, by decide +kernel, by decide +kernel⟩
theorem ok_take {f : Addr} {fd : FuncData} (F : Fun K "_law_take" "_law_take" sTake f fd) : FnOk P w K mg base CX0 1 f fd ["_law_bag_here", "_law_size"] spTake := by
  refine F.ok scTake (fun vs H Q E h => ?_) (fun cdv A outer s H vs Q E hr h => ?_)
  · obtain ⟨b, size, n, rfl, _⟩ := h
    rfl
  · obtain ⟨b, size, n, rfl, hs0, hs1, ⟨x, y, z, hb, y0, y1, z0, z1⟩, hn, k⟩ := h
    have hn' : n ≤ 1000000 := hn
    refine ⟨_, pss_cons (ps_if (pt_cmpR op_gt (pe_ix ix_list (pv 0) pe_int (fun _ _ => rfl)) pe_int (nomark _))
        (pss_cons (ps_set (i := 2) scTake.nd rfl (Or.inl rfl) (pe_op op_mod (pe_ix ix_list (pv 0) pe_int (fun _ _ => rfl)) (pv 1)))
        (pss_cons (ps_asg (pe_op op_fdiv (pe_ix ix_list (pv 0) pe_int (fun _ _ => rfl)) (pv 1)) (pg_sub (pv 0) pe_int set_list))
        (pss_one (ps_ret (pv 2))))) pss_nil)
      (pss_cons (ps_set (i := 3) scTake.nd rfl (Or.inl rfl) (pe_tup (pa_cons pe_int (pa_cons pe_int (pa_cons pe_int (pa_cons pe_int (pa_cons pe_int (pa_cons pe_int (pa_cons pe_int (pa_cons pe_int pa_nil))))))))))
      (pss_cons (ps_asg (pe_op op_add (pe_ix ix_list (pv 0) pe_int (fun _ _ => rfl)) pe_int) (pg_sub (pv 0) pe_int set_list))
      (pss_cons (ps_set (i := 4) scTake.nd rfl (Or.inl rfl) (pe_ix ix_list (pv 0) pe_int (fun _ _ => rfl)))
      (pss_cons (ps_set (i := 5) scTake.nd rfl (Or.inl rfl) (pe_op op_add (pe_op op_add (pe_op op_mul (pe_ix ix_list (pv 0) pe_int (fun _ _ => rfl)) (pe_op op_add (pe_op op_mul pe_int (pv 4)) pe_int)) (pe_op op_mul (pe_op op_mul pe_int (pv 4)) (pv 4))) pe_int))
      (pss_cons (ps_set (i := 6) scTake.nd rfl (Or.inl rfl) (pe_op op_mod (pe_op op_powW (pv 5) pe_int) (pe_ix ix_tup (pv 3) (pe_op op_mod (pv 4) pe_int) (fun _ _ => rfl))))
      (pss_one (ps_ret (pe_op op_mod (pe_op op_fdiv (pe_op op_mod (pe_op op_mul (pv 6) (pe_op op_add (pe_op op_fdiv (pv 6) pe_int) pe_int)) (pe_ix ix_tup (pv 3) (pe_op op_mod (pe_op op_add (pv 4) pe_int) pe_int) (fun _ _ => rfl))) pe_int) (pv 1))))))))), ?_⟩
    refine ⟨_, rfl, b, _, _, _, rfl, rfl, SqL.of hb, rfl, _, _, rfl, rfl, _, rfl, ?_⟩
    refine ite2 (fun _ => ?_) (fun _ => ?_)
    · refine ⟨_, rfl, b, _, _, _, rfl, rfl, SqL.of hb, rfl, _, rfl, _, _, rfl, rfl, hs0, ?_⟩
      refine ⟨_, rfl, b, _, _, _, rfl, rfl, SqL.of hb, rfl, _, rfl, _, _, rfl, rfl, ⟨hs0, hs1⟩, ?_⟩
      refine ⟨_, rfl, b, _, _, 0, rfl, rfl, hb, rfl, _, rfl, ?_⟩
      exact k _ _ (Int.emod_nonneg _ (by omega)) (Int.emod_lt_of_pos _ hs0) Kp.upd ⟨_, y, z, upd_same, y0, y1, z0, by omega⟩
    · refine ⟨by decide, fun t ht => ?_⟩
      have nbt : b ≠ t := ne_of_none hb ht
      have hb1 : (upd H t (.tup [.int 2147483647, .int 2147483629, .int 2147483587, .int 2147483579, .int 2147483563, .int 2147483549, .int 2147483543, .int 2147483497])) b = some (.lst [.int x, .int y, .int z]) := by rw [upd_ne nbt]; exact hb
      refine ⟨_, rfl, b, _, _, _, rfl, rfl, SqL.of hb1, rfl, _, _, rfl, rfl, ?_⟩
      refine ⟨_, rfl, b, _, _, 2, rfl, rfl, hb1, rfl, ?_⟩
      refine ⟨_, rfl, b, _, _, _, rfl, rfl, SqL.of upd_same, rfl, ?_⟩
      have c1 : CMul y (2 * (z + 1) + 1) := .inl ⟨by omega, by omega⟩
      refine ⟨_, rfl, b, _, _, _, rfl, rfl, SqL.of upd_same, rfl, _, rfl, _, _, rfl, rfl, .inl ⟨by decide, by decide⟩, _, _, rfl, rfl, _, _, rfl, rfl, c1, _, rfl, _, _, rfl, rfl, .inl ⟨by decide, by decide⟩, _, rfl, _, _, rfl, rfl, .inr ⟨by omega, by omega⟩, _, _, rfl, rfl, _, _, rfl, rfl, ?_⟩
      have ht1 : (upd (upd H t (.tup [.int 2147483647, .int 2147483629, .int 2147483587, .int 2147483579, .int 2147483563, .int 2147483549, .int 2147483543, .int 2147483497])) b (.lst [.int x, .int y, .int (z + 1)])) t = some (.tup [.int 2147483647, .int 2147483629, .int 2147483587, .int 2147483579, .int 2147483563, .int 2147483549, .int 2147483543, .int 2147483497]) := by rw [upd_ne nbt.symm, upd_same]
      have prim : ∀ i : Int, ∃ p, atI [V.int 2147483647, .int 2147483629, .int 2147483587, .int 2147483579, .int 2147483563, .int 2147483549, .int 2147483543, .int 2147483497] (i % 8) = some (.int p) ∧ 0 < p ∧ p ≤ 2147483647 := fun i => by
        obtain ⟨v, e, _, hm⟩ := atI_in (xs := [V.int 2147483647, .int 2147483629, .int 2147483587, .int 2147483579, .int 2147483563, .int 2147483549, .int 2147483543, .int 2147483497]) (i := i % 8) (by omega) (by show i % 8 < 8; omega)
        simp only [List.mem_cons, List.not_mem_nil, or_false] at hm
        rcases hm with rfl | rfl | rfl | rfl | rfl | rfl | rfl | rfl <;> exact ⟨_, e, by decide, by decide⟩
      obtain ⟨p1, e1, l1, u1⟩ := prim (z + 1)
      obtain ⟨p2, e2, l2, u2⟩ := prim (z + 1 + 5)
      have hB : CPowW (y * (2 * (z + 1) + 1) + 6007 * (z + 1) * (z + 1) + 31) 3 := ⟨by decide, by decide, basis_le y0 y1 (by omega) (by omega)⟩
      refine ⟨_, rfl, _, _, rfl, rfl, hB, _, rfl, _, rfl, _, _, rfl, rfl, (by show (0 : Int) < 8; decide), t, _, _, _, rfl, rfl, SqT.of ht1, e1, _, _, rfl, rfl, l1, ?_⟩
      generalize hfd : (y * (2 * (z + 1) + 1) + 6007 * (z + 1) * (z + 1) + 31) ^ (3 : Int).toNat % p1 = fd
      have f0 : 0 ≤ fd := by rw [← hfd]; exact Int.emod_nonneg _ (by omega)
      have f1 : fd < p1 := by rw [← hfd]; exact Int.emod_lt_of_pos _ l1
      refine ⟨_, rfl, _, rfl, _, _, rfl, rfl, ⟨by decide, by decide⟩, _, _, rfl, rfl, _, _, rfl, rfl, .inl ⟨by omega, by omega⟩, _, rfl, _, rfl, _, _, rfl, rfl, _, _, rfl, rfl, (by show (0 : Int) < 8; decide), t, _, _, _, rfl, rfl, SqT.of ht1, e2, _, _, rfl, rfl, l2, _, _, rfl, rfl, ⟨by decide, by decide⟩, _, rfl, _, _, rfl, rfl, hs0, ?_⟩
      refine k _ _ (Int.emod_nonneg _ (by omega)) (Int.emod_lt_of_pos _ hs0) ?_ ⟨_, y, z + 1, upd_same, y0, y1, by omega, by omega⟩
      exact (Kp.refl.new ht).trans Kp.upd
theorem ok_bag {f : Addr} {fd : FuncData} (F : Fun K "_law_bag" "_law_bag" sBag f fd) (G : Glb mg) : FnOk P w K mg base CX0 1 f fd ["_law_script", "_law_at"] (spBag K) := by
  refine F.ok scBag (fun vs H Q E h => ?_) (fun cdv A outer s H vs Q E hr h => ?_)
  · obtain ⟨a, ns, i, rfl, _⟩ := h
    rfl
  · obtain ⟨a, ns, i, rfl, hS, i0, i1, k⟩ := h
    refine ⟨_, pss_cons (ps_set (i := 2) scBag.nd rfl (Or.inl rfl) (pe_op op_add (pe_op op_add (pe_op op_mul (pe_op op_mul pe_int (pv 1)) (pv 1)) (pe_op op_mul pe_int (pv 1))) pe_int))
      (C8.pss_cut (ps_if (pt_cmpR op_lt (pv 1) (pe_callB call_len_seq (by rfl) G.len PySem.boot_len (pa_cons (pv 0) pa_nil)) (nomark _)) (pss_one (ps_set (i := 2) scBag.nd rfl (Or.inl rfl) (pe_ix ix_list (pv 0) (pv 1) (fun _ _ => rfl)))) pss_nil)
      (pss_cons (ps_set (i := 3) scBag.nd rfl (Or.inl rfl) (pe_callB call_abs (by rfl) G.abs (by decide +kernel) (pa_cons (pv 2) pa_nil)))
      (pss_one (ps_ret (pe_lst (pa_cons (pe_op op_mul (pv 3) (pe_callTy call_int1 (by rfl) G.int (by decide +kernel) (pa_cons (pe_cmpR op_ge (pv 3) (pe_op op_pow pe_int pe_int) (nomark _)) pa_nil)))
        (pa_cons (pe_op op_add (pe_op op_mod (pv 2) (pe_op op_add (pe_op op_pow pe_int pe_int) pe_int)) (pe_op op_mul pe_int (pv 1))) (pa_cons pe_int pa_nil)))))))), ?_⟩
    refine ⟨_, rfl, _, _, rfl, rfl, .inl ⟨by decide, by decide⟩, _, rfl, _, _, rfl, rfl, .inr ⟨by omega, by omega⟩, _, rfl, _, _, rfl, rfl, .inl ⟨by decide, by decide⟩, _, _, rfl, rfl, _, _, rfl, rfl, ?_⟩
    refine ⟨fun σ H' => H' = H ∧ ∃ c : Int, σ = [some (.ref a), some (.int i), some (.int c), none], ?_, ?_⟩
    · refine ⟨_, rfl, _, rfl, a, _, rfl, .inl hS, _, _, rfl, rfl, _, rfl, ?_⟩
      refine ite2 (fun h => ?_) (fun _ => ?_)
      · have hlt : i < ((ns.map V.int).length : Int) := of_decide_eq_true h
        obtain ⟨v, e1, _, hm⟩ := atI_in (xs := ns.map V.int) i0 hlt
        obtain ⟨c, _, rfl⟩ := List.mem_map.mp hm
        exact ⟨_, rfl, _, rfl, a, _, _, _, rfl, rfl, hS, e1, rfl, c, rfl⟩
      · exact ⟨rfl, _, rfl⟩
    · rintro σ H' ⟨rfl, c, rfl⟩
      refine ⟨_, rfl, _, rfl, ?_⟩
      have e18 : (10 : Int) ^ (18 : Int).toNat = 1000000000000000000 := by decide
      have p18 : CPow 10 18 := ⟨by decide, by decide, by decide⟩
      refine ⟨_, rfl, _, rfl, _, _, rfl, rfl, p18, _, _, rfl, rfl, .inr ⟨_, rfl, _, _, rfl, rfl, b01, ?_⟩⟩
      refine ⟨_, rfl, _, _, rfl, rfl, p18, _, _, rfl, rfl, _, _, rfl, rfl, (by show (0 : Int) < 10 ^ (18 : Int).toNat + 9; rw [e18]; decide), _, rfl, _, _, rfl, rfl, .inl ⟨by decide, by decide⟩, _, _, rfl, rfl, ?_⟩
      refine ⟨(by show 3 ≤ sizeLine; decide), fun p hp => ?_⟩
      have m0 : 0 ≤ c % (10 ^ (18 : Int).toNat + 9) := Int.emod_nonneg _ (by rw [e18]; decide)
      have m1 : c % (10 ^ (18 : Int).toNat + 9) < 10 ^ (18 : Int).toNat + 9 := Int.emod_lt_of_pos _ (by rw [e18]; decide)
      rw [e18] at m0 m1
      refine k p _ (fun b o eb => by rw [upd_ne (ne_of_none eb hp)]; exact eb) hp ⟨_, _, 0, upd_same, ?_, ?_, by omega, by omega⟩
      · rw [e18]; omega
      · rw [e18]; omega
abbrev pTake : List Str := ["_law_bag_here", "_law_size"]
end
end Fh
set_option Elab.async false
set_option linter.all false
set_option maxRecDepth 100000
set_option maxHeartbeats 4000000
namespace Fh
open PySem L2 PyProof.Rows
/-! ### a method called -/
structure HasM (P : Program) (w : World) (K : PySem.W.Frag) (mg : Str → Option Value) (base : Heap) (C : Addr) (m : Str) (k : Nat) (ps : List Str) (sp : Sp) : Prop where
  cl : Cls K C
  ex : ∃ (f : Addr) (fd : FuncData), Meth K C m f ∧ Binds K fd ps [] ∧ FnOk P w K mg base CX0 k f fd ps sp
theorem pe_hasM {X : Cx} {C : Addr} {k : Nat} {m : Str} {ps : List Str} {sp : Sp} {o e : Expr} {es : List Expr} {ta : TE} {t : TA} {apos pos : Pos} {pl : Sem Bool} (D : HasM X.prog X.w X.K X.mg X.base C m k ps sp) (hr : Room k X.A) (ho : PE X o ta) (ha : PA X (e :: es) t)
    (hst : starEach (e :: es) X.env = (false, eval e X.env) :: starEach es X.env := by rfl) (hpl : (backTo pos (starEach es X.env)).any (·.1) = false := by rfl)
    (ht : eval (.Call (.Attribute o m apos) (e :: es) [] pos) X.env = (do
      let ov ← eval o X.env
      standAt apos.atName
      let (f, first) ← holding [ov] (getMethod ov m pl)
      callWith pos f first (backTo pos (starEach (e :: es) X.env)) (backToKw pos (keywordEach [] X.env))) := by rfl) :
    PE X (.Call (.Attribute o m apos) (e :: es) [] pos) (tMeth C m sp [] E0 ta t) := by
  obtain ⟨f, fd, hm, hb, F⟩ := D.ex
  exact pe_meth (pl := pl) ho D.cl hm F hr hb .nil pass0 ha hst hpl ht
/-- a promise of nothing -/
def spNone : Sp := fun _ _ _ _ => False
/-! ### rows of a face -/
def rowsD (rows : List (Str × PyData)) : PyData := .tuple (rows.map fun r => .tuple [.str r.1, r.2])
def FaceR (C : Addr) (H : Hp) (a : Addr) (cs rs : List (Str × PyData)) : Prop := ∃ (dx : Addr) (v1 v2 v3 v4 v5 : V), H a = some (.ins C dx (ff v1 v2 v3 v4 v5)) ∧ Tp H v3 (rowsD cs) ∧ Tp H v4 (rowsD rs)
theorem FaceR.same {C : Addr} {H H' : Hp} {a : Addr} {cs rs : List (Str × PyData)} (h : FaceR C H a cs rs) (s : Same H H') : FaceR C H' a cs rs := by
  obtain ⟨dx, v1, v2, v3, v4, v5, e, t3, t4⟩ := h
  exact ⟨dx, v1, v2, v3, v4, v5, s _ _ e, Tp.keep (Same.tk s) _ _ t3, Tp.keep (Same.tk s) _ _ t4⟩
theorem Tp.pair {H : Hp} {v : V} {d e : PyData} (h : Tp H v (.tuple [d, e])) : ∃ a x y, v = .ref a ∧ H a = some (.tup [x, y]) ∧ Tp H x d ∧ Tp H y e := by
  obtain ⟨a, xs, rfl, ha, q⟩ := h.inv
  obtain ⟨x, r, rfl, hx, q⟩ := q.icons
  obtain ⟨y, r, rfl, hy, q⟩ := q.icons
  rw [q.inil] at ha
  exact ⟨a, x, y, rfl, ha, hx, hy⟩
theorem Tp.four {H : Hp} {v : V} {d1 d2 d3 d4 : PyData} (h : Tp H v (.tuple [d1, d2, d3, d4])) : ∃ a x1 x2 x3 x4, v = .ref a ∧ H a = some (.tup [x1, x2, x3, x4]) ∧ Tp H x1 d1 ∧ Tp H x2 d2 ∧ Tp H x3 d3 ∧ Tp H x4 d4 := by
  obtain ⟨a, xs, rfl, ha, q⟩ := h.inv
  obtain ⟨x1, r, rfl, h1, q⟩ := q.icons
  obtain ⟨x2, r, rfl, h2, q⟩ := q.icons
  obtain ⟨x3, r, rfl, h3, q⟩ := q.icons
  obtain ⟨x4, r, rfl, h4, q⟩ := q.icons
  rw [q.inil] at ha
  exact ⟨a, x1, x2, x3, x4, rfl, ha, h1, h2, h3, h4⟩
theorem rows_at {H : Hp} {xs : List V} {rows : List (Str × PyData)} {i : Nat} {x : V} (q : TpAll H xs (rows.map fun r => .tuple [.str r.1, r.2])) (e : xs[i]? = some x) :
    ∃ r t u, rows[i]? = some r ∧ x = .ref t ∧ H t = some (.tup [.str r.1, u]) ∧ Tp H u r.2 := by
  obtain ⟨d, e2, tx⟩ := q.get' e
  rw [List.getElem?_map] at e2
  cases hr : rows[i]? with
  | none => rw [hr] at e2; cases e2
  | some r =>
    rw [hr] at e2
    cases e2
    obtain ⟨t, y, u, rfl, ht, ty, tu⟩ := tx.pair
    rw [ty.istr] at ht
    exact ⟨r, t, u, rfl, rfl, ht, tu⟩
theorem look_at {rows : List (Str × PyData)} {z : Str} {d : PyData} (h : rows.lookup z = some d) : ∃ (i : Nat) (hi : i < rows.length), rows[i].1 = z := by
  induction rows with
  | nil => cases h
  | cons r rs ih =>
    by_cases e : r.1 = z
    · exact ⟨0, Nat.succ_pos _, e⟩
    · have h2 : (z == r.1) = false := by
        rw [beq_eq_false_iff_ne]
        exact fun q => e q.symm
      obtain ⟨k, y⟩ := r
      rw [List.lookup_cons, h2] at h
      obtain ⟨i, hi, e2⟩ := ih h
      exact ⟨i + 1, Nat.succ_lt_succ hi, e2⟩
theorem look_first {rows : List (Str × PyData)} {z : Str} {d : PyData} {i : Nat} {r : Str × PyData} (h : rows.lookup z = some d) (e : rows[i]? = some r) (hz : r.1 = z) (hb : ∀ (j : Nat) (q : Str × PyData), j < i → rows[j]? = some q → q.1 ≠ z) : r.2 = d := by
  induction rows generalizing i with
  | nil => cases h
  | cons s rs ih =>
    cases i with
    | zero =>
      cases e
      obtain ⟨k, y⟩ := r
      rw [List.lookup_cons] at h
      have h2 : (z == k) = true := by rw [beq_iff_eq]; exact hz.symm
      rw [h2] at h
      cases h
      rfl
    | succ i =>
      have h0 := hb 0 s (Nat.succ_pos _) rfl
      have h2 : (z == s.1) = false := by
        rw [beq_eq_false_iff_ne]
        exact fun q => h0 q.symm
      obtain ⟨k, y⟩ := s
      rw [List.lookup_cons, h2] at h
      exact ih h e fun j q hj hq => hb (j + 1) q (Nat.succ_lt_succ hj) hq
/-! ### kinds -/
inductive Kb where
  | whole
  | truth
  | text
  | rc (z : Str)
  | ch (z : Str)
inductive Kn where
  | one (b : Kb)
  | lst (b : Kb)
def Kb.d : Kb → PyData
  | .whole => .str "whole"
  | .truth => .str "truth"
  | .text => .str "text"
  | .rc z => .tuple [.str "record", .str z]
  | .ch z => .tuple [.str "choice", .str z]
def Kn.d : Kn → PyData
  | .one b => b.d
  | .lst b => .tuple [.str "list", b.d]
def Kb.word : Kb → Str
  | .whole => "whole"
  | .truth => "truth"
  | .text => "text"
  | .rc _ => "record"
  | .ch _ => "choice"
def Kn.word : Kn → Str
  | .one b => b.word
  | .lst _ => "list"
def Kb.mark : Kb → Int
  | .text => 2
  | .rc _ => 4
  | _ => 1
def Kn.mark : Kn → Int
  | .one b => b.mark
  | .lst _ => 3
/-- what stands in a kind that is a tuple -/
def Kn.inner : Kn → PyData
  | .one (.rc z) => .str z
  | .one (.ch z) => .str z
  | .lst b => b.d
  | _ => .none
theorem kn_inv {H : Hp} {v : V} {k : Kn} (h : Tp H v k.d) : (v = .str k.word ∧ (k = .one .whole ∨ k = .one .truth ∨ k = .one .text)) ∨ ∃ a u, v = .ref a ∧ H a = some (.tup [.str k.word, u]) ∧ Tp H u k.inner := by
  cases k with
  | lst b =>
    obtain ⟨a, x, y, rfl, ha, hx, hy⟩ := Tp.pair h
    rw [hx.istr] at ha
    exact .inr ⟨a, y, rfl, ha, hy⟩
  | one b =>
    cases b with
    | whole => exact .inl ⟨Tp.istr h, .inl rfl⟩
    | truth => exact .inl ⟨Tp.istr h, .inr (.inl rfl)⟩
    | text => exact .inl ⟨Tp.istr h, .inr (.inr rfl)⟩
    | rc z =>
      obtain ⟨a, x, y, rfl, ha, hx, hy⟩ := Tp.pair h
      rw [hx.istr] at ha
      exact .inr ⟨a, y, rfl, ha, hy⟩
    | ch z =>
      obtain ⟨a, x, y, rfl, ha, hx, hy⟩ := Tp.pair h
      rw [hx.istr] at ha
      exact .inr ⟨a, y, rfl, ha, hy⟩
theorem Same.new {H : Hp} {p : Addr} {o : HO} (h : H p = none) : Same H (upd H p o) := fun a u e => by
  rw [upd_ne (ne_of_none e h)]
  exact e
theorem Same.wr {H H1 : Hp} {p : Addr} {o : HO} (s : Same H H1) (h : H p = none) : Same H (upd H1 p o) := fun a u e => by
  rw [upd_ne (ne_of_none e h)]
  exact s a u e
/-- [x for x, y in rows] -/
theorem lc_names {K : PySem.W.Frag} {ti : TE} {x y : Nat} {σ : L2.St} {H : Hp} {rows : List (Str × PyData)} {v : V} {Q : V → Hp → Prop} (hi : ∀ R : V → Hp → Prop, R v H → ti σ H R) (t : Tp H v (rowsD rows)) (hl : rows.length ≤ 100)
    (hw : ∀ a b, wipe (((wipe σ [x, y]).set x (some a)).set y (some b)) [x, y] = wipe σ [x, y]) (hv : ∀ a b, (((wipe σ [x, y]).set x (some a)).set y (some b))[x]? = some (some a))
    (k : ∀ D H', Same H H' → H' D = some (.lst ((rows.map (·.1)).map V.str)) → Q (.ref D) H') : tLc (iTup K ti) (gTup K 2 (gCons (gName x) (gCons (gName y) gNil))) tYes (tVar x) [x, y] σ H Q := by
  obtain ⟨a, xs, rfl, ha, q⟩ := Tp.inv t
  refine hi _ ⟨a, rfl, ⟨_, SqT.of ha⟩, fun D hD => ?_⟩
  refine lc_tup (xs := xs) (fun i H3 => Same H H3 ∧ H3 D = some (.lst (((rows.take i).map (·.1)).map V.str))) ?_ ?_ ?_ ?_
  · exact ⟨Same.new hD, upd_same⟩
  · rintro i H3 _ ⟨S3, _⟩
    exact SqT.of (S3 _ _ ha)
  · rintro i z H3 hz ⟨S3, h3⟩
    obtain ⟨r, t, u, hr, rfl, ht, tu⟩ := rows_at q hz
    refine ⟨t, _, rfl, SqT.of (S3 _ _ ht), rfl, _, _, rfl, _, _, rfl, rfl, hw _ _, yes (iteT ?_)⟩
    refine ⟨_, hv _ _, _, h3, ?_, Same.wr S3 hD, ?_⟩
    · rw [List.length_map, List.length_map, List.length_take]
      exact Nat.lt_of_le_of_lt (Nat.min_le_right _ _) (Nat.lt_of_le_of_lt hl (by decide))
    · have hlt : i < rows.length := by
        rw [List.getElem?_eq_some_iff] at hr
        exact hr.1
      rw [upd_same, List.take_add_one, hr]
      simp
  · rintro H3 ⟨S3, h3⟩
    have e : xs.length = rows.length := by rw [q.length, List.length_map]
    rw [e, List.take_length] at h3
    exact k D H3 S3 h3
theorem sne {a b : Str} (h : a ≠ b) : ¬ V.str a = V.str b := fun e => h (by cases e; rfl)
/-! ### small defs -/
abbrev sWord : Stmt := top 3
abbrev sMark : Stmt := top 4
abbrev sNob : Stmt := top 5
def spWord : Sp := fun vs H Q _ => ∃ (v : V) (k : Kn), vs = [v] ∧ Tp H v k.d ∧ Q (.str k.word) H
def spMark : Sp := fun vs H Q _ => ∃ (v : V) (k : Kn), vs = [v] ∧ Tp H v k.d ∧ Q (.int k.mark) H
/-- the table of marks -/
structure Marks (K : PySem.W.Frag) (w : World) (mg : Str → Option Value) : Prop where
  ex : ∃ M : Addr, mg "MARKS" = some (.ref M) ∧ KDct K w M "whole" (.int 1) ∧ KDct K w M "truth" (.int 1) ∧ KDct K w M "choice" (.int 1) ∧ KDct K w M "text" (.int 2) ∧ KDct K w M "list" (.int 3) ∧ KDct K w M "record" (.int 4)
abbrev nNob : List Str := ["face", "kind", "word", "inner", "rows", "name", "parts"]
def nameIn (z : Str) (rows : List (Str × PyData)) : Bool := decide (z ∈ rows.map (·.1))
def nobB (cs rs : List (Str × PyData)) : Kb → Bool
  | .rc z => !nameIn z rs
  | .ch z => !nameIn z cs
  | _ => false
def nobK (cs rs : List (Str × PyData)) : Kn → Bool
  | .one b => nobB cs rs b
  | .lst b => nobB cs rs b
def spNob (C : Addr) (ok : Kn → Prop) : Sp := fun vs H Q _ => ∃ (a : Addr) (v : V) (k : Kn) (cs rs : List (Str × PyData)), vs = [.ref a, v] ∧ FaceR C H a cs rs ∧ cs.length ≤ 100 ∧ rs.length ≤ 100 ∧ Tp H v k.d ∧ ok k ∧ ∀ H', Same H H' → Q (.bl (nobK cs rs k)) H'
def isOne (k : Kn) : Prop := ∃ b, k = .one b
section
variable {P : Program} {w : World} {K : PySem.W.Frag} {mg : Str → Option Value} {base : Heap}
theorem scWord : FnScope ["kind"] ["kind"] (defScope sWord) := ⟨rfl, rfl, rfl, by decide +kernel, rfl, by decide +kernel, by decide +kernel⟩
theorem scMark : FnScope ["kind"] ["kind"] (defScope sMark) := ⟨rfl, rfl, rfl, by decide +kernel, rfl, by decide +kernel, by decide +kernel⟩
theorem scNob : FnScope nNob ["face", "kind"] (defScope sNob) := ⟨rfl, rfl, rfl, by decide +kernel, rfl, by decide +kernel, by decide +kernel⟩
theorem ok_word {f : Addr} {fd : FuncData} (F : Fun K "word_of" "word_of" sWord f fd) (G : Glb mg) : FnOk P w K mg base CX0 1 f fd ["kind"] spWord := by
  refine F.ok scWord (fun vs H Q E h => ?_) (fun cdv A outer s H vs Q E hr h => ?_)
  · obtain ⟨v, k, rfl, _⟩ := h
    rfl
  · obtain ⟨v, k, rfl, t, q⟩ := h
    refine ⟨_, pss_one (ps_ret (pe_ifExp (pt_val (pe_callB call_isi (by rfl) G.isi (by decide +kernel) (pa_cons (pv 0) (pa_cons (pe_bltn (v := .ty "str") rfl G.str (by decide +kernel) rfl) pa_nil)))) (pv 0) (pe_ix ix_tup (pv 0) pe_int (fun _ _ => rfl)))), ?_⟩
    rcases kn_inv t with ⟨rfl, _⟩ | ⟨a, u, rfl, ha, _⟩
    · exact ⟨_, rfl, _, _, .type "str", .type "str", true, rfl, .ty _, .base (.str _), rfl, true, rfl, iteT ⟨_, rfl, q⟩⟩
    · exact ⟨_, rfl, _, _, .type "tuple", .type "str", false, rfl, .ty _, .base (.tup ha), rfl, false, rfl, iteF ⟨_, rfl, a, _, _, _, rfl, rfl, SqT.of ha, rfl, q⟩⟩
theorem ok_mark {f : Addr} {fd : FuncData} (F : Fun K "mark_of" "mark_of" sMark f fd) (M : Marks K w mg) (DW : Has P w K mg base "word_of" 1 ["kind"] spWord) : FnOk P w K mg base CX0 2 f fd ["kind"] spMark := by
  obtain ⟨MA, mM, m1, m2, m3, m4, m5, m6⟩ := M.ex
  refine F.ok scMark (fun vs H Q E h => ?_) (fun cdv A outer s H vs Q E hr h => ?_)
  · obtain ⟨v, k, rfl, _⟩ := h
    rfl
  · obtain ⟨v, k, rfl, t, q⟩ := h
    refine ⟨_, pss_one (ps_ret (pe_ix ix_kdict (pe_glob (v := .ref MA) rfl mM rfl) (pe_has DW hr rfl (pa_cons (pv 0) pa_nil)) (fun _ _ => rfl))), ?_⟩
    refine ⟨_, rfl, v, k, rfl, t, MA, _, _, rfl, rfl, ?_, q⟩
    cases k with
    | lst b => exact m5
    | one b => cases b with
      | whole => exact m1
      | truth => exact m2
      | text => exact m4
      | rc z => exact m6
      | ch z => exact m3
theorem ok_nob {C f : Addr} {fd : FuncData} {n : Nat} {ok ok' : Kn → Prop} (F : Fun K "names_nobody" "names_nobody" sNob f fd) (G : Glb mg) (cl : Cls K C) (n3 : NoAttr K C "choices") (n4 : NoAttr K C "records") (DN : Has P w K mg base "names_nobody" n ["face", "kind"] (spNob C ok')) (hok : ∀ b, ok (.lst b) → ok' (.one b)) : FnOk P w K mg base CX0 (n + 1) f fd ["face", "kind"] (spNob C ok) := by
  refine F.ok scNob (fun vs H Q E h => ?_) (fun cdv A outer s H vs Q E hr h => ?_)
  · obtain ⟨a, v, k, cs, rs, rfl, _⟩ := h
    rfl
  · obtain ⟨a, v, k, cs, rs, rfl, hF, lc, lr, t, hk, q⟩ := h
    refine ⟨_, pss_cons (ps_if (pt_val (pe_callB call_isi (by rfl) G.isi (by decide +kernel) (pa_cons (pv 1) (pa_cons (pe_bltn (v := .ty "str") rfl G.str (by decide +kernel) rfl) pa_nil)))) (pss_one (ps_ret pe_bl)) pss_nil)
      (pss_cons (ps_asg (pv 1) (pg_tup rfl (pgs_cons (pg_name (i := 2) scNob.nd rfl (.inl rfl)) (pgs_cons (pg_name (i := 3) scNob.nd rfl (.inl rfl)) pgs_nil))))
      (pss_cons (ps_if (pt_cmpR op_eq (pv 2) pe_str (nomark _)) (pss_one (ps_ret (pe_has DN hr rfl (pa_cons (pv 0) (pa_cons (pv 3) pa_nil))))) pss_nil)
      (pss_cons (ps_set (i := 4) scNob.nd rfl (Or.inl rfl) (pe_ifExp (pt_cmpR op_eq (pv 2) pe_str (nomark _)) (pe_fld (pv 0) rfl) (pe_fld (pv 0) rfl)))
      (pss_one (ps_ret (pe_cmpR op_notIn_seq (pv 3) (pe_lc (own := [("name", 5), ("parts", 6)]) (g := gTup K 2 (gCons (gName 5) (gCons (gName 6) gNil))) (tt := tYes) (te := tVar 5) rfl scNob.nd (pi_tup (pv 4)) (blkOk_by (N := nNob) (sc := defScope sNob) (by decide +kernel))
        (fun _ _ _ _ _ => pg_tup rfl (pgs_cons (pg_name (i := 5) scNob.nd rfl (.inl rfl)) (pgs_cons (pg_name (i := 6) scNob.nd rfl (.inl rfl)) pgs_nil))) (fun _ _ _ _ _ => pts_nil) (fun _ _ _ _ _ => pv 5)) rfl)))))), ?_⟩
    obtain ⟨dx, v1, v2, v3, v4, v5, hA, t3, t4⟩ := id hF
    rcases kn_inv t with ⟨rfl, hp⟩ | ⟨b, u, rfl, hb, tu⟩
    · refine ⟨_, rfl, _, _, .type "str", .type "str", true, rfl, .ty _, .base (.str _), rfl, true, rfl, iteT ?_⟩
      have e : nobK cs rs k = false := by rcases hp with rfl | rfl | rfl <;> rfl
      rw [← e]
      exact q H (Same.refl H)
    · refine ⟨_, rfl, _, _, .type "tuple", .type "str", false, rfl, .ty _, .base (.tup hb), rfl, false, rfl, iteF ?_⟩
      refine ⟨_, rfl, b, _, rfl, SqT.of hb, rfl, _, _, rfl, _, _, rfl, rfl, ?_⟩
      refine ⟨_, rfl, rfl, _, rfl, ?_⟩
      cases k with
      | lst c =>
        refine ite2 (fun _ => ?_) (fun h => absurd (decide_eq_true rfl) h)
        exact ⟨_, rfl, _, rfl, a, u, .one c, cs, rs, rfl, hF, lc, lr, tu, hok c hk, q⟩
      | one c =>
        cases c with
        | whole => cases t
        | truth => cases t
        | text => cases t
        | rc z =>
          cases tu.istr
          refine ite2 (fun h => absurd (of_decide_eq_true h) (sne (by decide +kernel : ("record" : Str) ≠ "list"))) (fun _ => ?_)
          refine ⟨_, rfl, rfl, _, rfl, ?_⟩
          refine ite2 (fun h => absurd (of_decide_eq_true h) (sne (by decide +kernel : ("record" : Str) ≠ "choice"))) (fun _ => ?_)
          refine ⟨_, rfl, a, C, dx, _, _, rfl, hA, cl, n4, ff_records, ?_⟩
          refine ⟨_, rfl, lc_names (v := v4) (fun R hR => ⟨_, rfl, hR⟩) t4 lr (fun _ _ => rfl) (fun _ _ => rfl) fun D H' S' hD => ?_⟩
          refine ⟨D, _, rfl, .inl (SqL.of hD), rfl, by simp [flatV], ?_⟩
          rw [in_strs]
          exact q H' S'
        | ch z =>
          cases tu.istr
          refine ite2 (fun h => absurd (of_decide_eq_true h) (sne (by decide +kernel : ("choice" : Str) ≠ "list"))) (fun _ => ?_)
          refine ⟨_, rfl, rfl, _, rfl, ?_⟩
          refine ite2 (fun _ => ?_) (fun h => absurd (decide_eq_true rfl) h)
          refine ⟨_, rfl, a, C, dx, _, _, rfl, hA, cl, n3, ff_choices, ?_⟩
          refine ⟨_, rfl, lc_names (v := v3) (fun R hR => ⟨_, rfl, hR⟩) t3 lc (fun _ _ => rfl) (fun _ _ => rfl) fun D H' S' hD => ?_⟩
          refine ⟨D, _, rfl, .inl (SqL.of hD), rfl, by simp [flatV], ?_⟩
          rw [in_strs]
          exact q H' S'
end
end Fh
set_option Elab.async false
set_option linter.all false
set_option maxRecDepth 100000
set_option maxHeartbeats 4000000
namespace Fh
open PySem L2 PyProof.Rows
abbrev sFields : Stmt := inClass (top 36) 3
abbrev sOptions : Stmt := inClass (top 36) 4
abbrev sNum : Stmt := top 6
abbrev sDigits : Stmt := top 10
abbrev sTold : Stmt := top 11
abbrev sPart : Stmt := top 12
abbrev sFSize : Stmt := top 13
def spFields (C : Addr) : Sp := fun vs H Q _ => ∃ (a : Addr) (z : Str) (cs rs : List (Str × PyData)) (d : PyData), vs = [.ref a, .str z] ∧ FaceR C H a cs rs ∧ rs.lookup z = some d ∧ ∀ v, Tp H v d → Q v H
def spOptions (C : Addr) : Sp := fun vs H Q _ => ∃ (a : Addr) (z : Str) (cs rs : List (Str × PyData)) (d : PyData), vs = [.ref a, .str z] ∧ FaceR C H a cs rs ∧ cs.lookup z = some d ∧ ∀ v, Tp H v d → Q v H
def optsD (os : List (Int × Str)) : PyData := .tuple (os.map fun o => .tuple [.int o.1, .str o.2])
structure OptsOk (os : List (Int × Str)) : Prop where
  ne : os ≠ []
  len : os.length ≤ 100
  nd : (os.map (·.2)).Nodup
  rg : ∀ o ∈ os, 1 ≤ o.1 ∧ o.1 ≤ 200
def spNum (C : Addr) : Sp := fun vs H Q _ => ∃ (a : Addr) (v x : V) (k : Kn) (cs rs : List (Str × PyData)), vs = [.ref a, v, x] ∧ FaceR C H a cs rs ∧ Tp H v k.d ∧
  ((k = .one .whole ∧ ∃ i, x = .int i ∧ Q (.int i) H) ∨ (k = .one .truth ∧ ∃ b, x = .bl b ∧ Q (.int (if b = true then 1 else 0)) H) ∨
    ∃ z os n u, k = .one (.ch z) ∧ cs.lookup z = some (optsD os) ∧ OptsOk os ∧ (n, u) ∈ os ∧ x = .str u ∧ ∀ H', Same H H' → Q (.int n) H')
def spDigits : Sp := fun vs H Q _ => ∃ (n : Int) (j : Nat), vs = [.int n] ∧ 0 ≤ n ∧ n < 256 ^ j ∧ j ≤ 100 ∧ ∀ (p : Addr) (H' : Hp) (ds : List Int), Same H H' → H p = none → H' p = some (.lst (ds.map V.int)) → ds.length ≤ j → Q (.ref p) H'
def spTold : Sp := fun vs H Q _ => ∃ (n : Int), vs = [.int n] ∧ 0 ≤ n ∧ ∀ (p : Addr) (H' : Hp) (xs : List V), Same H H' → H p = none → H' p = some (.lst xs) → (xs.length = 1 ∨ xs.length = 2) → Q (.ref p) H'
def spPart : Sp := fun vs H Q _ => ∃ (n : Int), vs = [.int n] ∧ 0 ≤ n ∧ ∀ (m : Int) (H' : Hp), Same H H' → n ≤ m → m ≤ n + 2 → Q (.int m) H'
def spFSize : Sp := fun vs H Q _ => ∃ (n : Int), vs = [.int n] ∧ 0 ≤ n ∧ ∀ (m : Int) (H' : Hp), Same H H' → n ≤ m → m ≤ n + 4 → Q (.int m) H'
/-- the modules' numbers -/
structure Nums (mg : Str → Option Value) : Prop where
  base : ∃ t, mg "BASE" = some (.int 256 t)
  long : ∃ t, mg "FIRST_LONG_SIZE" = some (.int 200 t)
  great : ∃ t, mg "GREATEST_WHOLE" = some (.int 1000000000 t)
  body : ∃ t, mg "GREATEST_BODY" = some (.int 10000 t)
theorem opts_one {os : List (Int × Str)} {n : Int} {u : Str} (nd : (os.map (·.2)).Nodup) (h : (n, u) ∈ os) : os.filter (fun o => decide (o.2 = u)) = [(n, u)] := by
  induction os with
  | nil => cases h
  | cons o r ih =>
    rw [List.map_cons, List.nodup_cons] at nd
    rcases List.mem_cons.mp h with rfl | h2
    · have e : r.filter (fun o => decide (o.2 = u)) = [] := by
        rw [List.filter_eq_nil_iff]
        intro x hx
        rw [decide_eq_true_eq]
        exact fun q => nd.1 (List.mem_map.mpr ⟨x, hx, q⟩)
      rw [List.filter_cons, if_pos (decide_eq_true rfl), e]
    · have ne : ¬ o.2 = u := fun q => nd.1 (List.mem_map.mpr ⟨(n, u), h2, q.symm⟩)
      rw [List.filter_cons, if_neg (by rw [decide_eq_true_eq]; exact ne)]
      exact ih nd.2 h2
theorem opts_at {H : Hp} {xs : List V} {os : List (Int × Str)} {i : Nat} {x : V} (q : TpAll H xs (os.map fun o => .tuple [.int o.1, .str o.2])) (e : xs[i]? = some x) :
    ∃ o t, os[i]? = some o ∧ x = .ref t ∧ H t = some (.tup [.int o.1, .str o.2]) := by
  obtain ⟨d, e2, tx⟩ := q.get' e
  rw [List.getElem?_map] at e2
  cases hr : os[i]? with
  | none => rw [hr] at e2; cases e2
  | some o =>
    rw [hr] at e2
    cases e2
    obtain ⟨t, y, u, rfl, ht, ty, tu⟩ := tx.pair
    rw [ty.iint, tu.istr] at ht
    exact ⟨o, t, rfl, rfl, ht⟩
section
variable {P : Program} {w : World} {K : PySem.W.Frag} {mg : Str → Option Value} {base : Heap}
abbrev nFields : List Str := ["self", "record", "name", "fields"]
abbrev nOptions : List Str := ["self", "choice", "name", "options"]
theorem scFields : FnScope nFields ["self", "record"] (defScope sFields) := ⟨rfl, rfl, rfl, by decide +kernel, rfl, by decide +kernel, by decide +kernel⟩
theorem scOptions : FnScope nOptions ["self", "choice"] (defScope sOptions) := ⟨rfl, rfl, rfl, by decide +kernel, rfl, by decide +kernel, by decide +kernel⟩
theorem ok_fields {C f : Addr} {fd : FuncData} (F : Fun K "fields_of" "Face.fields_of" sFields f fd) (cl : Cls K C) (n4 : NoAttr K C "records") : FnOk P w K mg base CX0 1 f fd ["self", "record"] (spFields C) := by
  refine F.ok scFields (fun vs H Q E h => ?_) (fun cdv A outer s H vs Q E hr h => ?_)
  · obtain ⟨a, z, cs, rs, d, rfl, _⟩ := h
    rfl
  · obtain ⟨a, z, cs, rs, d, rfl, ⟨dx, v1, v2, v3, v4, v5, hA, t3, t4⟩, hl, k⟩ := h
    refine ⟨_, pss_cons (ps_for PassesOwn.never rfl (pi_tup (pe_fld (pv 0) rfl)) (pg_tup rfl (pgs_cons (pg_name (i := 2) scFields.nd rfl (.inl rfl)) (pgs_cons (pg_name (i := 3) scFields.nd rfl (.inl rfl)) pgs_nil)))
        (pss_one (ps_if (pt_cmpR op_eq (pv 2) (pv 1) (nomark _)) (pss_one (ps_ret (pv 3))) pss_nil))) (pss_one ps_never), ?_⟩
    obtain ⟨b, xs, rfl, hb, q⟩ := Tp.inv t4
    refine ⟨_, rfl, a, C, dx, _, _, rfl, hA, cl, n4, ff_records, b, rfl, ⟨_, SqT.of hb⟩, ?_⟩
    refine for_tup (xs := xs) (fun i σ H3 => H3 = H ∧ (∃ a2 a3, σ = [some (.ref a), some (.str z), a2, a3]) ∧ ∀ (j : Nat) (r : Str × PyData), j < i → rs[j]? = some r → r.1 ≠ z) ?_ ?_ ?_ ?_
    · exact ⟨rfl, ⟨_, _, rfl⟩, fun j r hj => absurd hj (Nat.not_lt_zero _)⟩
    · rintro i σ H3 _ ⟨rfl, _⟩
      exact SqT.of hb
    · rintro i x σ H3 hx ⟨rfl, ⟨a2, a3, rfl⟩, hB⟩
      obtain ⟨r, t, u, hr', rfl, ht, tu⟩ := rows_at q hx
      refine ⟨t, _, rfl, SqT.of ht, rfl, _, _, rfl, _, _, rfl, rfl, ?_⟩
      refine ⟨_, rfl, _, rfl, rfl, _, rfl, ?_⟩
      refine ite2 (fun h => ?_) (fun h => ?_)
      · have e : r.1 = z := by
          have := of_decide_eq_true h
          cases this
          rfl
        have e2 := look_first hl hr' e hB
        rw [e2] at tu
        exact ⟨_, rfl, k _ tu⟩
      · have e : r.1 ≠ z := fun q => h (decide_eq_true (by rw [q]))
        refine ⟨rfl, ⟨_, _, rfl⟩, fun j s hj hs => ?_⟩
        by_cases ej : j = i
        · rw [ej, hr'] at hs
          cases hs
          exact e
        · exact hB j s (by omega) hs
    · rintro σ H3 ⟨rfl, _, hB⟩
      obtain ⟨i, hi, e⟩ := look_at hl
      have el : xs.length = rs.length := by rw [q.length, List.length_map]
      exact hB i rs[i] (by omega) (List.getElem?_eq_getElem hi) e
theorem ok_options {C f : Addr} {fd : FuncData} (F : Fun K "options_of" "Face.options_of" sOptions f fd) (cl : Cls K C) (n3 : NoAttr K C "choices") : FnOk P w K mg base CX0 1 f fd ["self", "choice"] (spOptions C) := by
  refine F.ok scOptions (fun vs H Q E h => ?_) (fun cdv A outer s H vs Q E hr h => ?_)
  · obtain ⟨a, z, cs, rs, d, rfl, _⟩ := h
    rfl
  · obtain ⟨a, z, cs, rs, d, rfl, ⟨dx, v1, v2, v3, v4, v5, hA, t3, t4⟩, hl, k⟩ := h
    refine ⟨_, pss_cons (ps_for PassesOwn.never rfl (pi_tup (pe_fld (pv 0) rfl)) (pg_tup rfl (pgs_cons (pg_name (i := 2) scOptions.nd rfl (.inl rfl)) (pgs_cons (pg_name (i := 3) scOptions.nd rfl (.inl rfl)) pgs_nil)))
        (pss_one (ps_if (pt_cmpR op_eq (pv 2) (pv 1) (nomark _)) (pss_one (ps_ret (pv 3))) pss_nil))) (pss_one ps_never), ?_⟩
    obtain ⟨b, xs, rfl, hb, q⟩ := Tp.inv t3
    refine ⟨_, rfl, a, C, dx, _, _, rfl, hA, cl, n3, ff_choices, b, rfl, ⟨_, SqT.of hb⟩, ?_⟩
    refine for_tup (xs := xs) (fun i σ H3 => H3 = H ∧ (∃ a2 a3, σ = [some (.ref a), some (.str z), a2, a3]) ∧ ∀ (j : Nat) (r : Str × PyData), j < i → cs[j]? = some r → r.1 ≠ z) ?_ ?_ ?_ ?_
    · exact ⟨rfl, ⟨_, _, rfl⟩, fun j r hj => absurd hj (Nat.not_lt_zero _)⟩
    · rintro i σ H3 _ ⟨rfl, _⟩
      exact SqT.of hb
    · rintro i x σ H3 hx ⟨rfl, ⟨a2, a3, rfl⟩, hB⟩
      obtain ⟨r, t, u, hr', rfl, ht, tu⟩ := rows_at q hx
      refine ⟨t, _, rfl, SqT.of ht, rfl, _, _, rfl, _, _, rfl, rfl, ?_⟩
      refine ⟨_, rfl, _, rfl, rfl, _, rfl, ?_⟩
      refine ite2 (fun h => ?_) (fun h => ?_)
      · have e : r.1 = z := by
          have := of_decide_eq_true h
          cases this
          rfl
        have e2 := look_first hl hr' e hB
        rw [e2] at tu
        exact ⟨_, rfl, k _ tu⟩
      · have e : r.1 ≠ z := fun q => h (decide_eq_true (by rw [q]))
        refine ⟨rfl, ⟨_, _, rfl⟩, fun j s hj hs => ?_⟩
        by_cases ej : j = i
        · rw [ej, hr'] at hs
          cases hs
          exact e
        · exact hB j s (by omega) hs
    · rintro σ H3 ⟨rfl, _, hB⟩
      obtain ⟨i, hi, e⟩ := look_at hl
      have el : xs.length = cs.length := by rw [q.length, List.length_map]
      exact hB i cs[i] (by omega) (List.getElem?_eq_getElem hi) e
abbrev nNum : List Str := ["face", "kind", "value", "word", "number", "option"]
theorem scNum : FnScope nNum ["face", "kind", "value"] (defScope sNum) := ⟨rfl, rfl, rfl, by decide +kernel, rfl, by decide +kernel, by decide +kernel⟩
theorem ok_num {C f : Addr} {fd : FuncData} (F : Fun K "number_of" "number_of" sNum f fd) (DW : Has P w K mg base "word_of" 1 ["kind"] spWord) (DO : HasM P w K mg base C "options_of" 1 ["self", "choice"] (spOptions C)) : FnOk P w K mg base CX0 2 f fd ["face", "kind", "value"] (spNum C) := by
  refine F.ok scNum (fun vs H Q E h => ?_) (fun cdv A outer s H vs Q E hr h => ?_)
  · obtain ⟨a, v, x, k, cs, rs, rfl, _⟩ := h
    rfl
  · obtain ⟨a, v, x, k, cs, rs, rfl, hF, t, hh⟩ := h
    refine ⟨_, pss_cons (ps_set (i := 3) scNum.nd rfl (Or.inl rfl) (pe_has DW hr rfl (pa_cons (pv 1) pa_nil)))
      (pss_cons (ps_if (pt_cmpR op_eq (pv 3) pe_str (nomark _)) (pss_one (ps_ret (pe_ix ix_list (pe_lc (own := [("number", 4), ("option", 5)]) (g := gTup K 2 (gCons (gName 4) (gCons (gName 5) gNil))) (te := tVar 4) rfl scNum.nd (pi_tup (pe_hasM DO hr (pv 0) (pa_cons (pe_ix ix_tup (pv 1) pe_int (fun _ _ => rfl)) pa_nil))) (blkOk_by (N := nNum) (sc := defScope sNum) (by decide +kernel))
        (fun _ _ _ _ _ => pg_tup rfl (pgs_cons (pg_name (i := 4) scNum.nd rfl (.inl rfl)) (pgs_cons (pg_name (i := 5) scNum.nd rfl (.inl rfl)) pgs_nil))) (fun _ _ _ _ _ => pts_one (pt_cmpR op_eq (pv 5) (pv 2) (nomark _))) (fun _ _ _ _ _ => pv 4)) pe_int (fun _ _ => rfl)))) pss_nil)
      (pss_cons (ps_if (pt_cmpR op_eq (pv 3) pe_str (nomark _)) (pss_one (ps_ret (pe_ifExp (pt_val (pv 2)) pe_int pe_int))) pss_nil)
      (pss_one (ps_ret (pv 2))))), ?_⟩
    refine ⟨_, rfl, v, k, rfl, t, ?_⟩
    refine ⟨_, rfl, rfl, _, rfl, ?_⟩
    rcases hh with ⟨rfl, i, rfl, q⟩ | ⟨rfl, b, rfl, q⟩ | ⟨z, os, n, u, rfl, hl, ok, hm, rfl, q⟩
    · refine ite2 (fun h => absurd (of_decide_eq_true h) (sne (by decide +kernel : ("whole" : Str) ≠ "choice"))) (fun _ => ?_)
      refine ⟨_, rfl, rfl, _, rfl, ?_⟩
      refine ite2 (fun h => absurd (of_decide_eq_true h) (sne (by decide +kernel : ("whole" : Str) ≠ "truth"))) (fun _ => ?_)
      exact ⟨_, rfl, q⟩
    · refine ite2 (fun h => absurd (of_decide_eq_true h) (sne (by decide +kernel : ("truth" : Str) ≠ "choice"))) (fun _ => ?_)
      refine ⟨_, rfl, rfl, _, rfl, ?_⟩
      refine ite2 (fun _ => ?_) (fun h => absurd (decide_eq_true rfl) h)
      refine ⟨_, rfl, b, rfl, ?_⟩
      cases b with
      | true => exact iteT q
      | false => exact iteF q
    · refine ite2 (fun _ => ?_) (fun h => absurd (decide_eq_true rfl) h)
      rcases kn_inv t with ⟨_, h | h | h⟩ | ⟨b, y, rfl, hb, ty⟩
      · cases h
      · cases h
      · cases h
      cases ty.istr
      obtain ⟨dx, v1, v2, v3, v4, v5, hA, t3, t4⟩ := id hF
      refine ⟨_, rfl, a, dx, _, rfl, hA, ?_, _, rfl, b, _, _, _, rfl, rfl, SqT.of hb, rfl, a, z, cs, rs, _, rfl, hF, hl, fun ov tv => ?_⟩
      · unfold ff
        rw [lookup_putF, if_neg (by decide +kernel), lookup_putF, if_neg (by decide +kernel), lookup_putF, if_neg (by decide +kernel), lookup_putF, if_neg (by decide +kernel), lookup_putF, if_neg (by decide +kernel)]
        rfl
      obtain ⟨c, xs, rfl, hc, tq⟩ := Tp.inv tv
      refine ⟨c, rfl, ⟨_, SqT.of hc⟩, fun D hD => ?_⟩
      refine lc_tup (xs := xs) (fun i H3 => Same H H3 ∧ H3 D = some (.lst (((os.take i).filter (fun o => decide (o.2 = u))).map fun o => V.int o.1))) ?_ ?_ ?_ ?_
      · exact ⟨Same.new hD, upd_same⟩
      · rintro i H3 _ ⟨S3, _⟩
        exact SqT.of (S3 _ _ hc)
      · rintro i x H3 hx ⟨S3, h3⟩
        obtain ⟨o, t, ho, rfl, ht⟩ := opts_at tq hx
        refine ⟨t, _, rfl, SqT.of (S3 _ _ ht), rfl, _, _, rfl, _, _, rfl, rfl, rfl, ?_⟩
        refine ⟨_, rfl, _, rfl, rfl, _, rfl, ?_⟩
        refine ite2 (fun h => ?_) (fun h => ?_)
        · have e : o.2 = u := by
            have := of_decide_eq_true h
            cases this
            rfl
          refine ⟨_, rfl, _, h3, ?_, Same.wr S3 hD, ?_⟩
          · rw [List.length_map]
            refine Nat.lt_of_le_of_lt (List.length_filter_le _ _) ?_
            rw [List.length_take]
            exact Nat.lt_of_le_of_lt (Nat.min_le_right _ _) (Nat.lt_of_le_of_lt ok.len (by decide))
          · rw [upd_same, List.take_add_one, ho]
            simp [e]
        · have e : ¬ o.2 = u := fun q => h (decide_eq_true (by rw [q]))
          refine ⟨S3, ?_⟩
          rw [h3, List.take_add_one, ho]
          simp [e]
      · rintro H3 ⟨S3, h3⟩
        have el : xs.length = os.length := by rw [tq.length, List.length_map]
        rw [el, List.take_length, opts_one ok.nd hm] at h3
        exact ⟨D, _, _, _, rfl, rfl, SqL.of h3, rfl, q H3 S3⟩
end
end Fh
set_option Elab.async false
set_option linter.all false
set_option maxRecDepth 100000
set_option maxHeartbeats 4000000
namespace Fh
open PySem L2 PyProof.Rows
section
variable {P : Program} {w : World} {K : PySem.W.Frag} {mg : Str → Option Value} {base : Heap}
abbrev nDigits : List Str := ["number", "digits", "digit"]
theorem scDigits : FnScope nDigits ["number"] (defScope sDigits) := ⟨rfl, rfl, rfl, by decide +kernel, rfl, by decide +kernel, by decide +kernel⟩
theorem scTold : FnScope ["size"] ["size"] (defScope sTold) := ⟨rfl, rfl, rfl, by decide +kernel, rfl, by decide +kernel, by decide +kernel⟩
theorem scPart : FnScope ["size"] ["size"] (defScope sPart) := ⟨rfl, rfl, rfl, by decide +kernel, rfl, by decide +kernel, by decide +kernel⟩
theorem scFSize : FnScope ["size"] ["size"] (defScope sFSize) := ⟨rfl, rfl, rfl, by decide +kernel, rfl, by decide +kernel, by decide +kernel⟩
theorem ok_digits {f : Addr} {fd : FuncData} (F : Fun K "digits_of" "digits_of" sDigits f fd) (G : Glb mg) (N : Nums mg) : FnOk P w K mg base CX0 1 f fd ["number"] spDigits := by
  obtain ⟨tB, hB⟩ := N.base
  refine F.ok scDigits (fun vs H Q E h => ?_) (fun cdv A outer s H vs Q E hr h => ?_)
  · obtain ⟨n, j, rfl, _⟩ := h
    rfl
  · obtain ⟨n, j, rfl, n0, n1, hj, k⟩ := h
    refine ⟨_, pss_cons (ps_set (i := 1) scDigits.nd rfl (Or.inl rfl) (pe_lst pa_nil))
      (pss_cons (ps_while PassesOwn.never (pt_cmpR op_gt (pv 0) pe_int (nomark _))
        (pss_cons (ps_asg (pe_callB call_divmod (by rfl) G.divmod (by decide +kernel) (pa_cons (pv 0) (pa_cons (pe_glob (v := .int 256) rfl hB ⟨_, rfl⟩) pa_nil))) (pg_tup rfl (pgs_cons (pg_name (i := 0) scDigits.nd rfl (.inl rfl)) (pgs_cons (pg_name (i := 2) scDigits.nd rfl (.inl rfl)) pgs_nil))))
        (pss_one (ps_expr (pe_bm PySem.F.plainAttrs_list PySem.F.slot_list_append PySem.F.type_list_append mt_append (pv 1) (pa_cons (pv 2) pa_nil))))))
      (pss_one (ps_ret (pe_revL (pv 1))))), ?_⟩
    refine ⟨Nat.zero_le _, fun p hp => ?_⟩
    refine while_by (fun σ H3 => ∃ (m : Int) (ds : List Int) (a2 : Option V), σ = [some (.int m), some (.ref p), a2] ∧ Same H H3 ∧ H3 p = some (.lst (ds.map V.int)) ∧ 0 ≤ m ∧ ds.length ≤ j ∧ m < 256 ^ (j - ds.length)) (fun σ _ => match σ with | some (.int m) :: _ => m.toNat | _ => 0) ?_ ?_ ?_
    · exact ⟨n, [], none, rfl, Same.new hp, upd_same, n0, Nat.zero_le _, n1⟩
    · rintro σ H3 ⟨m, ds, a2, rfl, S3, hp3, m0, hl, hm⟩
      refine ⟨_, rfl, _, _, rfl, rfl, _, rfl, ?_⟩
      refine ite2 (fun h => ?_) (fun h => ?_)
      · have hm0 : m > 0 := of_decide_eq_true h
        refine ⟨_, rfl, m, 256, rfl, ⟨by decide, by decide⟩, fun t ht => ?_⟩
        refine ⟨t, _, rfl, SqT.of upd_same, rfl, _, _, rfl, _, _, rfl, rfl, ?_⟩
        have S4 : Same H (upd H3 t (.tup [.int (m / 256), .int (m % 256)])) := fun a o e => Same.new ht a o (S3 a o e)
        have hp4 : (upd H3 t (.tup [.int (m / 256), .int (m % 256)])) p = some (.lst (ds.map V.int)) := Same.new ht p _ hp3
        have hlt : ds.length < j := by
          rcases Nat.lt_or_ge ds.length j with h | h
          · exact h
          · exfalso
            rw [Nat.sub_eq_zero_of_le h] at hm
            omega
        refine ⟨_, rfl, .inl ⟨rfl, _, SqL.of hp4⟩, _, rfl, p, _, _, rfl, rfl, hp4, ?_, ?_⟩
        · rw [List.length_map]
          exact Nat.lt_of_lt_of_le hlt (Nat.le_trans hj (by decide))
        · refine ⟨⟨m / 256, ds ++ [m % 256], _, rfl, Same.wr S4 hp, ?_, by omega, by rw [List.length_append]; exact hlt, ?_⟩, ?_⟩
          · rw [upd_same, List.map_append]; rfl
          · rw [List.length_append]
            have e : j - ds.length = (j - (ds.length + 1)) + 1 := by omega
            rw [e, Int.pow_succ] at hm
            show m / 256 < 256 ^ (j - (ds.length + 1))
            exact Int.ediv_lt_of_lt_mul (by decide) hm
          · show (m / 256).toNat < m.toNat
            omega
      · exact ⟨_, rfl, p, _, rfl, SqL.of hp3, fun r hr' => k r _ ds.reverse (fun a o e => Same.new hr' a o (S3 a o e)) (Same.free S3 hr') (by rw [upd_same, List.map_reverse]) (by rw [List.length_reverse]; exact hl)⟩
    · rintro σ H Q Q' m ⟨v, e1, i, j, ea, eb, c, ec, q⟩
      exact ⟨v, e1, i, j, ea, eb, c, ec, m _ _ q⟩
theorem ok_told {f : Addr} {fd : FuncData} (F : Fun K "told_size" "told_size" sTold f fd) (N : Nums mg) : FnOk P w K mg base CX0 1 f fd ["size"] spTold := by
  obtain ⟨tB, hB⟩ := N.base
  obtain ⟨tL, hL⟩ := N.long
  refine F.ok scTold (fun vs H Q E h => ?_) (fun cdv A outer s H vs Q E hr h => ?_)
  · obtain ⟨n, rfl, _⟩ := h
    rfl
  · obtain ⟨n, rfl, n0, k⟩ := h
    refine ⟨_, pss_cons (ps_if (pt_cmpR op_lt (pv 0) (pe_glob (v := .int 200) rfl hL ⟨_, rfl⟩) (nomark _)) (pss_one (ps_ret (pe_lst (pa_cons (pv 0) pa_nil)))) pss_nil)
      (pss_one (ps_ret (pe_lst (pa_cons (pe_op op_add (pe_glob (v := .int 200) rfl hL ⟨_, rfl⟩) (pe_op op_fdiv (pv 0) (pe_glob (v := .int 256) rfl hB ⟨_, rfl⟩))) (pa_cons (pe_op op_mod (pv 0) (pe_glob (v := .int 256) rfl hB ⟨_, rfl⟩)) pa_nil))))), ?_⟩
    refine ⟨_, rfl, _, _, rfl, rfl, _, rfl, ?_⟩
    refine ite2 (fun _ => ?_) (fun _ => ?_)
    · exact ⟨_, rfl, (by show 1 ≤ sizeLine; decide), fun p hp => k p _ _ (Same.new hp) hp upd_same (.inl rfl)⟩
    · exact ⟨_, rfl, _, _, rfl, rfl, ⟨by decide, by decide⟩, _, _, rfl, rfl, _, rfl, _, _, rfl, rfl, (by show (0 : Int) < 256; decide), (by show 2 ≤ sizeLine; decide), fun p hp => k p _ _ (Same.new hp) hp upd_same (.inr rfl)⟩
theorem ok_part {f : Addr} {fd : FuncData} (F : Fun K "part_size" "part_size" sPart f fd) (G : Glb mg) (DT : Has P w K mg base "told_size" 1 ["size"] spTold) : FnOk P w K mg base CX0 2 f fd ["size"] spPart := by
  refine F.ok scPart (fun vs H Q E h => ?_) (fun cdv A outer s H vs Q E hr h => ?_)
  · obtain ⟨n, rfl, _⟩ := h
    rfl
  · obtain ⟨n, rfl, n0, k⟩ := h
    refine ⟨_, pss_one (ps_ret (pe_op op_add (pe_callB call_len_seq (by rfl) G.len PySem.boot_len (pa_cons (pe_has DT hr rfl (pa_cons (pv 0) pa_nil)) pa_nil)) (pv 0))), ?_⟩
    refine ⟨_, rfl, n, rfl, n0, fun p H' xs S hp hx hl => ?_⟩
    refine ⟨p, _, rfl, .inl (SqL.of hx), _, rfl, _, _, rfl, rfl, k _ H' S ?_ ?_⟩ <;> omega
theorem ok_fsize {f : Addr} {fd : FuncData} (F : Fun K "field_size" "field_size" sFSize f fd) (DP : Has P w K mg base "part_size" 2 ["size"] spPart) : FnOk P w K mg base CX0 3 f fd ["size"] spFSize := by
  refine F.ok scFSize (fun vs H Q E h => ?_) (fun cdv A outer s H vs Q E hr h => ?_)
  · obtain ⟨n, rfl, _⟩ := h
    rfl
  · obtain ⟨n, rfl, n0, k⟩ := h
    refine ⟨_, pss_one (ps_ret (pe_op op_add pe_int (pe_has DP hr rfl (pa_cons (pv 0) pa_nil)))), ?_⟩
    refine ⟨_, rfl, n, rfl, n0, fun m H' S l1 l2 => ?_⟩
    exact ⟨_, _, rfl, rfl, k _ H' S (by omega) (by omega)⟩
end
end Fh
set_option Elab.async false
set_option linter.all false
set_option maxRecDepth 100000
set_option maxHeartbeats 4000000
namespace Fh
open PySem L2 PyProof.Rows
/-! ### fields -/
structure Fl where
  num : Int
  nam : Str
  kd : Kn
  must : Bool
def needS (b : Bool) : Str := if b = true then "must" else "may"
def Fl.d (f : Fl) : PyData := .tuple [.int f.num, .str f.nam, f.kd.d, .str (needS f.must)]
def fieldsD (fs : List Fl) : PyData := .tuple (fs.map Fl.d)
theorem need_must (b : Bool) : decide (V.str (needS b) = V.str "must") = b := by
  cases b with
  | true => exact decide_eq_true rfl
  | false => exact decide_eq_false (sne (by decide +kernel : ("may" : Str) ≠ "must"))
theorem need_may (b : Bool) : decide (V.str (needS b) = V.str "may") = !b := by
  cases b with
  | true => exact decide_eq_false (sne (by decide +kernel : ("must" : Str) ≠ "may"))
  | false => exact decide_eq_true rfl
theorem flds_at {H : Hp} {xs : List V} {fs : List Fl} {i : Nat} {x : V} (q : TpAll H xs (fs.map Fl.d)) (e : xs[i]? = some x) :
    ∃ f t u, fs[i]? = some f ∧ x = .ref t ∧ H t = some (.tup [.int f.num, .str f.nam, u, .str (needS f.must)]) ∧ Tp H u f.kd.d := by
  obtain ⟨d, e2, tx⟩ := q.get' e
  rw [List.getElem?_map] at e2
  cases hr : fs[i]? with
  | none => rw [hr] at e2; cases e2
  | some f =>
    rw [hr] at e2
    cases e2
    obtain ⟨t, x1, x2, x3, x4, rfl, ht, t1, t2, t3, t4⟩ := Tp.four tx
    rw [t1.iint, t2.istr, t4.istr] at ht
    exact ⟨f, t, x3, rfl, rfl, ht, t3⟩
theorem atI_zero {α : Type} {x : α} {r : List α} : atI (x :: r) 0 = some x := by
  obtain ⟨v, e, h, _⟩ := atI_in (xs := x :: r) (i := 0) (Int.le_refl _) (by rw [List.length_cons]; omega)
  rw [e]
  exact h.symm
def Wf (cs rs : List (Str × PyData)) : Nat → Kn → Prop
  | _, .one (.ch z) => ∃ os, cs.lookup z = some (optsD os) ∧ OptsOk os
  | 0, .one (.rc _) => False
  | r + 1, .one (.rc z) => ∃ fs, rs.lookup z = some (fieldsD fs) ∧ fs.length ≤ 5 ∧ ∀ f ∈ fs, f.must = true → Wf cs rs r f.kd
  | _, _ => True
abbrev sLeastOf : Stmt := top 19
abbrev sLSize : Stmt := top 21
abbrev nLeastOf : List Str := ["face", "kind", "word", "fields", "number", "name", "inner", "need"]
def spLeastOf (C : Addr) (r : Nat) : Sp := fun vs H Q _ => ∃ (a : Addr) (v : V) (k : Kn) (cs rs : List (Str × PyData)), vs = [.ref a, v] ∧ FaceR C H a cs rs ∧ Tp H v k.d ∧ Wf cs rs r k ∧
  ∀ (x : V) (H' : Hp), Same H H' → x ≠ .non → (∀ z, k = .one (.rc z) → ∃ p kvs, x = .ref p ∧ H p = none ∧ H' p = some (.dK kvs) ∧ kvs.length ≤ 5) → (∀ z os, k = .one (.ch z) → cs.lookup z = some (optsD os) → OptsOk os → ∃ o ∈ os, x = .str o.2) → Q x H'
/-- the table of least values -/
structure Plains (K : PySem.W.Frag) (w : World) (mg : Str → Option Value) : Prop where
  ex : ∃ M : Addr, mg "LEAST_PLAIN" = some (.ref M) ∧ KDct K w M "whole" (.int 0) ∧ KDct K w M "truth" (.bl false) ∧ KDct K w M "text" (.str "")
theorem ff_meth {m : Str} {v1 v2 v3 v4 v5 : V} (h1 : m ≠ "name") (h2 : m ≠ "edition") (h3 : m ≠ "choices") (h4 : m ≠ "records") (h5 : m ≠ "calls") : (ff v1 v2 v3 v4 v5).lookup m = none := by
  unfold ff
  rw [lookup_putF, if_neg h5, lookup_putF, if_neg h4, lookup_putF, if_neg h3, lookup_putF, if_neg h2, lookup_putF, if_neg h1]
  rfl
theorem ff_fields {v1 v2 v3 v4 v5 : V} : (ff v1 v2 v3 v4 v5).lookup ("fields_of" : Str) = none := ff_meth (by decide +kernel) (by decide +kernel) (by decide +kernel) (by decide +kernel) (by decide +kernel)
theorem ff_options {v1 v2 v3 v4 v5 : V} : (ff v1 v2 v3 v4 v5).lookup ("options_of" : Str) = none := ff_meth (by decide +kernel) (by decide +kernel) (by decide +kernel) (by decide +kernel) (by decide +kernel)
section
variable {P : Program} {w : World} {K : PySem.W.Frag} {mg : Str → Option Value} {base : Heap}
theorem scLeastOf : FnScope nLeastOf ["face", "kind"] (defScope sLeastOf) := ⟨rfl, rfl, rfl, by decide +kernel, rfl, by decide +kernel, by decide +kernel⟩
theorem ok_leastOf {C f : Addr} {fd : FuncData} {n r : Nat} {sp : Sp} (F : Fun K "least_of" "least_of" sLeastOf f fd) (PL : Plains K w mg) (DW : Has P w K mg base "word_of" 1 ["kind"] spWord) (DF : HasM P w K mg base C "fields_of" 1 ["self", "record"] (spFields C)) (DO : HasM P w K mg base C "options_of" 1 ["self", "choice"] (spOptions C))
    (DL : Has P w K mg base "least_of" n ["face", "kind"] sp) (hn : 1 ≤ n) (hsp : ∀ r', r = r' + 1 → sp = spLeastOf C r') : FnOk P w K mg base CX0 (n + 1) f fd ["face", "kind"] (spLeastOf C r) := by
  obtain ⟨PA, mP, p1, p2, p3⟩ := PL.ex
  refine F.ok scLeastOf (fun vs H Q E h => ?_) (fun cdv A outer s H vs Q E hr h => ?_)
  · obtain ⟨a, v, k, cs, rs, rfl, _⟩ := h
    rfl
  · obtain ⟨a, v, k, cs, rs, rfl, hF, t, wf, q⟩ := h
    have hr1 : Room 1 _ := hr.mono hn
    refine ⟨_, pss_cons (ps_set (i := 2) scLeastOf.nd rfl (Or.inl rfl) (pe_has DW hr1 rfl (pa_cons (pv 1) pa_nil)))
      (pss_cons (ps_if (pt_cmpR op_eq (pv 2) pe_str (nomark _)) (pss_cons (ps_set (i := 3) scLeastOf.nd rfl (Or.inl rfl) (pe_hasM DF hr1 (pv 0) (pa_cons (pe_ix ix_tup (pv 1) pe_int (fun _ _ => rfl)) pa_nil)))
        (pss_one (ps_ret (pe_dc (own := [("number", 4), ("name", 5), ("inner", 6), ("need", 7)]) (g := gTup K 4 (gCons (gName 4) (gCons (gName 5) (gCons (gName 6) (gCons (gName 7) gNil))))) (tk := tVar 5) (tv := tCall sp [] E0 (tCons (tVar 0) (tCons (tVar 6) tNil))) rfl scLeastOf.nd (pi_tup (pv 3)) (blkOk_by (N := nLeastOf) (sc := defScope sLeastOf) (by decide +kernel))
          (fun _ _ _ _ _ => pg_tup rfl (pgs_cons (pg_name (i := 4) scLeastOf.nd rfl (.inl rfl)) (pgs_cons (pg_name (i := 5) scLeastOf.nd rfl (.inl rfl)) (pgs_cons (pg_name (i := 6) scLeastOf.nd rfl (.inl rfl)) (pgs_cons (pg_name (i := 7) scLeastOf.nd rfl (.inl rfl)) pgs_nil))))) (fun _ _ _ _ _ => pts_one (pt_cmpR op_eq (pv 7) pe_str (nomark _))) (fun _ _ _ _ _ => pv 5) (fun _ _ _ _ _ => pe_has DL hr rfl (pa_cons (pv 0) (pa_cons (pv 6) pa_nil))))))) pss_nil)
      (pss_cons (ps_if (pt_cmpR op_eq (pv 2) pe_str (nomark _)) (pss_one (ps_ret (pe_ix ix_tup (pe_ix ix_tup (pe_hasM DO hr1 (pv 0) (pa_cons (pe_ix ix_tup (pv 1) pe_int (fun _ _ => rfl)) pa_nil)) pe_int (fun _ _ => rfl)) pe_int (fun _ _ => rfl)))) pss_nil)
      (pss_cons (ps_if (pt_cmpR op_eq (pv 2) pe_str (nomark _)) (pss_one (ps_ret (pe_tup pa_nil))) pss_nil)
      (pss_one (ps_ret (pe_ix ix_kdict (pe_glob (v := .ref PA) rfl mP rfl) (pv 2) (fun _ _ => rfl))))))), ?_⟩
    obtain ⟨dx, v1, v2, v3, v4, v5, hA, t3, t4⟩ := id hF
    refine ⟨_, rfl, v, k, rfl, t, ?_⟩
    refine ⟨_, rfl, rfl, _, rfl, ?_⟩
    cases k with
    | lst c =>
      refine ite2 (fun h => absurd (of_decide_eq_true h) (sne (by decide +kernel : ("list" : Str) ≠ "record"))) (fun _ => ?_)
      refine ⟨_, rfl, rfl, _, rfl, ?_⟩
      refine ite2 (fun h => absurd (of_decide_eq_true h) (sne (by decide +kernel : ("list" : Str) ≠ "choice"))) (fun _ => ?_)
      refine ⟨_, rfl, rfl, _, rfl, ?_⟩
      refine ite2 (fun _ => ?_) (fun h => absurd (decide_eq_true rfl) h)
      exact ⟨Nat.zero_le _, fun p hp => q _ _ (Same.new hp) (fun e => by cases e) (fun z e => by cases e) (fun z os e => by cases e)⟩
    | one c =>
      cases c with
      | whole =>
        refine ite2 (fun h => absurd (of_decide_eq_true h) (sne (by decide +kernel : ("whole" : Str) ≠ "record"))) (fun _ => ?_)
        refine ⟨_, rfl, rfl, _, rfl, ?_⟩
        refine ite2 (fun h => absurd (of_decide_eq_true h) (sne (by decide +kernel : ("whole" : Str) ≠ "choice"))) (fun _ => ?_)
        refine ⟨_, rfl, rfl, _, rfl, ?_⟩
        refine ite2 (fun h => absurd (of_decide_eq_true h) (sne (by decide +kernel : ("whole" : Str) ≠ "list"))) (fun _ => ?_)
        exact ⟨_, rfl, PA, _, _, rfl, rfl, p1, q _ _ (Same.refl H) (fun e => by cases e) (fun z e => by cases e) (fun z os e => by cases e)⟩
      | truth =>
        refine ite2 (fun h => absurd (of_decide_eq_true h) (sne (by decide +kernel : ("truth" : Str) ≠ "record"))) (fun _ => ?_)
        refine ⟨_, rfl, rfl, _, rfl, ?_⟩
        refine ite2 (fun h => absurd (of_decide_eq_true h) (sne (by decide +kernel : ("truth" : Str) ≠ "choice"))) (fun _ => ?_)
        refine ⟨_, rfl, rfl, _, rfl, ?_⟩
        refine ite2 (fun h => absurd (of_decide_eq_true h) (sne (by decide +kernel : ("truth" : Str) ≠ "list"))) (fun _ => ?_)
        exact ⟨_, rfl, PA, _, _, rfl, rfl, p2, q _ _ (Same.refl H) (fun e => by cases e) (fun z e => by cases e) (fun z os e => by cases e)⟩
      | text =>
        refine ite2 (fun h => absurd (of_decide_eq_true h) (sne (by decide +kernel : ("text" : Str) ≠ "record"))) (fun _ => ?_)
        refine ⟨_, rfl, rfl, _, rfl, ?_⟩
        refine ite2 (fun h => absurd (of_decide_eq_true h) (sne (by decide +kernel : ("text" : Str) ≠ "choice"))) (fun _ => ?_)
        refine ⟨_, rfl, rfl, _, rfl, ?_⟩
        refine ite2 (fun h => absurd (of_decide_eq_true h) (sne (by decide +kernel : ("text" : Str) ≠ "list"))) (fun _ => ?_)
        exact ⟨_, rfl, PA, _, _, rfl, rfl, p3, q _ _ (Same.refl H) (fun e => by cases e) (fun z e => by cases e) (fun z os e => by cases e)⟩
      | ch z =>
        refine ite2 (fun h => absurd (of_decide_eq_true h) (sne (by decide +kernel : ("choice" : Str) ≠ "record"))) (fun _ => ?_)
        refine ⟨_, rfl, rfl, _, rfl, ?_⟩
        refine ite2 (fun _ => ?_) (fun h => absurd (decide_eq_true rfl) h)
        rcases kn_inv t with ⟨_, h | h | h⟩ | ⟨b, y, rfl, hb, ty⟩
        · cases h
        · cases h
        · cases h
        cases ty.istr
        have wf' : ∃ os, cs.lookup z = some (optsD os) ∧ OptsOk os := by cases r <;> exact wf
        obtain ⟨os, hl, ok⟩ := wf'
        refine ⟨_, rfl, a, dx, _, rfl, hA, ff_options, _, rfl, b, _, _, _, rfl, rfl, SqT.of hb, rfl, a, z, cs, rs, _, rfl, hF, hl, fun ov tv => ?_⟩
        obtain ⟨c, xs, rfl, hc, tq⟩ := Tp.inv tv
        obtain ⟨o, os', rfl⟩ : ∃ o r, os = o :: r := by
          cases os with
          | nil => exact absurd rfl ok.ne
          | cons o r => exact ⟨o, r, rfl⟩
        obtain ⟨x0, xr, rfl, tx0, _⟩ := tq.icons
        obtain ⟨c2, y1, y2, rfl, hc2, ty1, ty2⟩ := Tp.pair tx0
        rw [ty2.istr] at hc2
        refine ⟨c, _, _, _, rfl, rfl, SqT.of hc, atI_zero, c2, _, _, _, rfl, rfl, SqT.of hc2, rfl, q _ _ (Same.refl H) (fun e => by cases e) (fun z e => by cases e) (fun z2 os2 e hl2 ok2 => ?_)⟩
        cases e
        rw [hl] at hl2
        have e3 : optsD (o :: os') = optsD os2 := Option.some.inj hl2
        cases os2 with
        | nil => exact absurd rfl ok2.ne
        | cons o2 r2 =>
          refine ⟨o2, List.mem_cons_self, ?_⟩
          unfold optsD at e3
          rw [List.map_cons, List.map_cons] at e3
          injection e3 with e3
          injection e3 with e3 _
          injection e3 with e3
          injection e3 with _ e3
          injection e3 with e3 _
          injection e3 with e3
          rw [e3]
      | rc z =>
        refine ite2 (fun _ => ?_) (fun h => absurd (decide_eq_true rfl) h)
        rcases kn_inv t with ⟨_, h | h | h⟩ | ⟨b, y, rfl, hb, ty⟩
        · cases h
        · cases h
        · cases h
        cases ty.istr
        cases r with
        | zero => exact absurd wf id
        | succ r =>
          cases hsp r rfl
          obtain ⟨fs, hl, hlen, hall⟩ := wf
          refine ⟨_, rfl, a, dx, _, rfl, hA, ff_fields, _, rfl, b, _, _, _, rfl, rfl, SqT.of hb, rfl, a, z, cs, rs, _, rfl, hF, hl, fun ov tv => ?_⟩
          obtain ⟨c, xs, rfl, hc, tq⟩ := Tp.inv tv
          refine ⟨_, rfl, c, rfl, ⟨_, SqT.of hc⟩, fun D hD => ?_⟩
          have el : xs.length = fs.length := by rw [tq.length, List.length_map]
          refine dc_tup (xs := xs) (fun i H3 => Same H H3 ∧ ∃ kvs, H3 D = some (.dK kvs) ∧ kvs.length ≤ i) ?_ ?_ ?_ ?_
          · exact ⟨Same.new hD, [], upd_same, Nat.le_refl _⟩
          · rintro i H3 _ ⟨S3, _⟩
            exact SqT.of (S3 _ _ hc)
          · rintro i x H3 hx ⟨S3, kvs, h3, l3⟩
            obtain ⟨fl, t, u, hf, rfl, ht, tu⟩ := flds_at tq hx
            have hi : i < xs.length := by
              rw [List.getElem?_eq_some_iff] at hx
              exact hx.1
            refine ⟨t, _, rfl, SqT.of (S3 _ _ ht), rfl, _, _, rfl, _, _, rfl, _, _, rfl, _, _, rfl, rfl, rfl, ?_⟩
            refine ⟨_, rfl, rfl, _, rfl, ?_⟩
            rw [need_must]
            cases hm : fl.must with
            | false => exact iteF ⟨S3, kvs, h3, Nat.le_succ_of_le l3⟩
            | true =>
              refine iteT ?_
              refine ⟨_, rfl, _, rfl, _, rfl, a, u, fl.kd, cs, rs, rfl, hF.same S3, Tp.keep (Same.tk S3) _ _ tu, hall fl (List.mem_of_getElem? hf) hm, fun x H4 S4 _ _ _ => ?_⟩
              refine ⟨kvs, Sum.inr fl.nam, rfl, S4 _ _ h3, ?_, ?_⟩
              · exact Nat.lt_of_le_of_lt (Nat.le_trans l3 (Nat.le_trans (Nat.le_of_lt hi) (by rw [el]; exact hlen))) (by decide)
              · exact ⟨Same.wr (fun b o e => S4 b o (S3 b o e)) hD, _, upd_same, Nat.le_trans (length_putK _ _ _) (Nat.succ_le_succ l3)⟩
          · rintro H3 ⟨S3, kvs, h3, l3⟩
            refine q _ _ S3 (fun e => by cases e) (fun z e => ⟨D, kvs, rfl, hD, h3, by omega⟩) (fun z os e => by cases e)
end
end Fh
set_option Elab.async false
set_option linter.all false
set_option maxRecDepth 100000
set_option maxHeartbeats 4000000
namespace Fh
open PySem L2 PyProof.Rows
abbrev nLSize : List Str := ["face", "kind", "sizes", "word"]
def spLSize (C : Addr) : Sp := fun vs H Q _ => ∃ (a d : Addr) (v : V) (k : Kn) (cs rs : List (Str × PyData)) (kvs : List (Key × V)) (B : Int), vs = [.ref a, v, .ref d] ∧ FaceR C H a cs rs ∧ cs.length ≤ 100 ∧ rs.length ≤ 100 ∧ Tp H v k.d ∧ nobK cs rs k = false ∧ (∀ z, k = .one (.ch z) → ∃ os, cs.lookup z = some (optsD os) ∧ OptsOk os) ∧
  H d = some (.dK kvs) ∧ 0 ≤ B ∧ (∀ z, k = .one (.rc z) → ∃ m, valV kvs (.inr z) = some (.int m) ∧ 0 ≤ m ∧ m ≤ B) ∧ ∀ (m : Int) (H' : Hp), Same H H' → 0 ≤ m → m ≤ B + 1 → Q (.int m) H'
section
variable {P : Program} {w : World} {K : PySem.W.Frag} {mg : Str → Option Value} {base : Heap}
theorem scLSize : FnScope nLSize ["face", "kind", "sizes"] (defScope sLSize) := ⟨rfl, rfl, rfl, by decide +kernel, rfl, by decide +kernel, by decide +kernel⟩
theorem ok_lsize {C f : Addr} {fd : FuncData} (F : Fun K "least_size" "least_size" sLSize f fd) (G : Glb mg) (DN : Has P w K mg base "names_nobody" 3 ["face", "kind"] (spNob C fun _ => True)) (DW : Has P w K mg base "word_of" 1 ["kind"] spWord) (DD : Has P w K mg base "digits_of" 1 ["number"] spDigits)
    (DU : Has P w K mg base "number_of" 2 ["face", "kind", "value"] (spNum C)) (DL : Has P w K mg base "least_of" 2 ["face", "kind"] (spLeastOf C 0)) : FnOk P w K mg base CX0 4 f fd ["face", "kind", "sizes"] (spLSize C) := by
  refine F.ok scLSize (fun vs H Q E h => ?_) (fun cdv A outer s H vs Q E hr h => ?_)
  · obtain ⟨a, d, v, k, cs, rs, kvs, B, rfl, _⟩ := h
    rfl
  · obtain ⟨a, d, v, k, cs, rs, kvs, B, rfl, hF, lc, lr, t, hN, hC, hd, hB, hR, q⟩ := h
    have hr1 : Room 1 _ := hr.mono (by decide)
    have hr2 : Room 2 _ := hr.mono (by decide)
    have hu := hu_of hr
    refine ⟨_, pss_cons (ps_if (pt_val (pe_has DN hr rfl (pa_cons (pv 0) (pa_cons (pv 1) pa_nil)))) (pss_one (ps_ret pe_non)) pss_nil)
      (pss_cons (ps_set (i := 3) scLSize.nd rfl (Or.inl rfl) (pe_has DW hr1 rfl (pa_cons (pv 1) pa_nil)))
      (pss_cons (ps_if (pt_cmpR op_eq (pv 3) pe_str (nomark _)) (pss_one (ps_ret (pe_dget1 hu (pv 2) (pe_ix ix_tup (pv 1) pe_int (fun _ _ => rfl)) ⟨rfl, rfl, rfl, rfl⟩))) pss_nil)
      (pss_cons (ps_if (pt_cmpR op_eq (pv 3) pe_str (nomark _)) (pss_one (ps_ret pe_int)) pss_nil)
      (pss_one (ps_ret (pe_ifExp (pt_cmpR op_eq (pv 3) pe_str (nomark _)) (pe_callB call_len_seq (by rfl) G.len PySem.boot_len (pa_cons (pe_has DD hr1 rfl (pa_cons (pe_has DU hr2 rfl (pa_cons (pv 0) (pa_cons (pv 1) (pa_cons (pe_has DL hr2 rfl (pa_cons (pv 0) (pa_cons (pv 1) pa_nil))) pa_nil)))) pa_nil)) pa_nil)) pe_int)))))), ?_⟩
    refine ⟨_, rfl, _, rfl, a, v, k, cs, rs, rfl, hF, lc, lr, t, trivial, fun H1 S1 => ?_⟩
    rw [hN]
    refine ⟨false, rfl, iteF ?_⟩
    have t1 := Tp.keep (Same.tk S1) _ _ t
    have hF1 := hF.same S1
    refine ⟨_, rfl, v, k, rfl, t1, ?_⟩
    refine ⟨_, rfl, rfl, _, rfl, ?_⟩
    have plain : ∀ {u : Str}, u ≠ "record" → u ≠ "list" → u ≠ "choice" → k.word = u → (V.str k.word = V.str "record" → False) ∧ (V.str k.word = V.str "list" → False) ∧ (V.str k.word = V.str "choice" → False) := fun h1 h2 h3 e => by
      rw [e]
      exact ⟨sne h1, sne h2, sne h3⟩
    rcases kn_inv t1 with ⟨hv, hk⟩ | ⟨b, y, hv, hb, ty⟩
    · have hh : (V.str k.word = V.str "record" → False) ∧ (V.str k.word = V.str "list" → False) ∧ (V.str k.word = V.str "choice" → False) := by
        rcases hk with h | h | h
        · exact plain (u := "whole") (by decide +kernel) (by decide +kernel) (by decide +kernel) (by rw [h]; rfl)
        · exact plain (u := "truth") (by decide +kernel) (by decide +kernel) (by decide +kernel) (by rw [h]; rfl)
        · exact plain (u := "text") (by decide +kernel) (by decide +kernel) (by decide +kernel) (by rw [h]; rfl)
      refine ite2 (fun h => absurd (of_decide_eq_true h) hh.1) (fun _ => ?_)
      refine ⟨_, rfl, rfl, _, rfl, ?_⟩
      refine ite2 (fun h => absurd (of_decide_eq_true h) hh.2.1) (fun _ => ?_)
      refine ⟨_, rfl, rfl, _, rfl, ?_⟩
      refine ite2 (fun h => absurd (of_decide_eq_true h) hh.2.2) (fun _ => ?_)
      exact q 0 H1 S1 (by omega) (by omega)
    subst hv
    cases k with
    | lst c =>
      refine ite2 (fun h => absurd (of_decide_eq_true h) (sne (by decide +kernel : ("list" : Str) ≠ "record"))) (fun _ => ?_)
      refine ⟨_, rfl, rfl, _, rfl, ?_⟩
      refine ite2 (fun _ => ?_) (fun h => absurd (decide_eq_true rfl) h)
      exact q 1 H1 S1 (by omega) (by omega)
    | one c =>
      cases c with
      | whole => cases t
      | truth => cases t
      | text => cases t
      | rc z =>
        refine ite2 (fun _ => ?_) (fun h => absurd (decide_eq_true rfl) h)
        cases ty.istr
        obtain ⟨m, em, m0, m1⟩ := hR z rfl
        have hd1 := S1 _ _ hd
        refine ⟨_, rfl, d, rfl, .inl ⟨_, .inl hd1⟩, _, rfl, b, _, _, _, rfl, rfl, SqT.of hb, rfl, _, DGet.k (k := Sum.inr z) hd1, ?_⟩
        rw [em]
        exact q m H1 S1 m0 (by omega)
      | ch z =>
        refine ite2 (fun h => absurd (of_decide_eq_true h) (sne (by decide +kernel : ("choice" : Str) ≠ "record"))) (fun _ => ?_)
        refine ⟨_, rfl, rfl, _, rfl, ?_⟩
        refine ite2 (fun h => absurd (of_decide_eq_true h) (sne (by decide +kernel : ("choice" : Str) ≠ "list"))) (fun _ => ?_)
        refine ⟨_, rfl, rfl, _, rfl, ?_⟩
        refine ite2 (fun _ => ?_) (fun h => absurd (decide_eq_true rfl) h)
        obtain ⟨os, hl, ok⟩ := hC z rfl
        refine ⟨_, rfl, _, rfl, _, rfl, _, rfl, a, _, .one (.ch z), cs, rs, rfl, hF1, t1, ⟨os, hl, ok⟩, fun x H2 S2 _ _ hx => ?_⟩
        obtain ⟨o, ho, rfl⟩ := hx z os rfl hl ok
        refine ⟨a, _, _, .one (.ch z), cs, rs, rfl, hF1.same S2, Tp.keep (Same.tk S2) _ _ t1, .inr (.inr ⟨z, os, o.1, o.2, rfl, hl, ok, ho, rfl, fun H3 S3 => ?_⟩)⟩
        have hrg := ok.rg o ho
        refine ⟨o.1, 1, rfl, by omega, by show o.1 < 256 ^ 1; omega, by decide, fun p H4 ds S4 hp hp4 hl4 => ?_⟩
        refine ⟨p, _, rfl, .inl (SqL.of hp4), ?_⟩
        refine q _ H4 (fun b o e => S4 b o (S3 b o (S2 b o (S1 b o e)))) (by omega) ?_
        rw [List.length_map]
        omega
end
end Fh
set_option Elab.async false
set_option linter.all false
set_option maxRecDepth 100000
set_option maxHeartbeats 4000000
namespace Fh
open PySem L2 PyProof.Rows
abbrev sLSizes : Stmt := top 20
abbrev sLeast : Stmt := top 18
abbrev nLSizes : List Str := ["face", "sizes", "turn", "record", "fields", "parts", "number", "name", "kind", "need", "part"]
def okB (cs : List (Str × PyData)) : Kb → Prop
  | .rc z => z = "inner"
  | .ch z => ∃ os, cs.lookup z = some (optsD os) ∧ OptsOk os
  | _ => True
def okK (cs : List (Str × PyData)) : Kn → Prop
  | .one b => okB cs b
  | .lst b => okB cs b
def plainK (k : Kn) : Prop := k = .one .whole ∨ k = .one .truth ∨ k = .one .text
/-- a face of two records, of one field each -/
structure Gd (cs rs : List (Str × PyData)) (fi fo : Fl) : Prop where
  rs : rs = ([("inner", fieldsD [fi]), ("outer", fieldsD [fo])] : List (Str × PyData))
  cl : cs.length ≤ 100
  ik : plainK fi.kd
  ok : okK cs fo.kd
theorem mem_of_look {rows : List (Str × PyData)} {z : Str} {d : PyData} (h : rows.lookup z = some d) : z ∈ rows.map (·.1) := by
  obtain ⟨i, hi, e⟩ := look_at h
  exact List.mem_map.mpr ⟨rows[i], List.getElem_mem hi, e⟩
theorem nameIn_look {rows : List (Str × PyData)} {z : Str} {d : PyData} (h : rows.lookup z = some d) : nameIn z rows = true := decide_eq_true (mem_of_look h)
theorem okB_nob {cs rs : List (Str × PyData)} {fi fo : Fl} (g : Gd cs rs fi fo) {b : Kb} (h : okB cs b) : nobB cs rs b = false := by
  cases b with
  | whole => rfl
  | truth => rfl
  | text => rfl
  | rc z =>
    cases (show z = "inner" from h)
    show (!nameIn "inner" rs) = false
    rw [nameIn_look (d := fieldsD [fi]) (by rw [g.rs]; rfl)]
    rfl
  | ch z =>
    obtain ⟨os, hl, _⟩ := h
    show (!nameIn z cs) = false
    rw [nameIn_look hl]
    rfl
theorem okK_nob {cs rs : List (Str × PyData)} {fi fo : Fl} (g : Gd cs rs fi fo) {k : Kn} (h : okK cs k) : nobK cs rs k = false := by
  cases k with
  | one b => exact okB_nob g h
  | lst b => exact okB_nob g h
theorem plain_ok {cs : List (Str × PyData)} {k : Kn} (h : plainK k) : okK cs k := by
  rcases h with rfl | rfl | rfl <;> trivial
def InS (kvs : List (Key × V)) : Prop := ∃ m : Int, valV kvs (.inr "inner") = some (.int m) ∧ 0 ≤ m ∧ m ≤ 10
def OutS (kvs : List (Key × V)) : Prop := ∃ m : Int, valV kvs (.inr "outer") = some (.int m) ∧ 0 ≤ m ∧ m ≤ 100
def spLSizes (C : Addr) : Sp := fun vs H Q _ => ∃ (a : Addr) (cs rs : List (Str × PyData)) (fi fo : Fl), vs = [.ref a] ∧ FaceR C H a cs rs ∧ Gd cs rs fi fo ∧
  ∀ (d : Addr) (kvs : List (Key × V)) (H' : Hp), Same H H' → H d = none → H' d = some (.dK kvs) → InS kvs → OutS kvs → Q (.ref d) H'
def spLeast (C : Addr) : Sp := fun vs H Q _ => ∃ (a : Addr) (z : Str) (cs rs : List (Str × PyData)) (fi fo : Fl), vs = [.ref a, .str z] ∧ FaceR C H a cs rs ∧ Gd cs rs fi fo ∧ (z = "inner" ∨ z = "outer") ∧
  ∀ (d : Addr) (kvs : List (Key × V)) (H' : Hp), Same H H' → H d = none → H' d = some (.dK kvs) → kvs.length ≤ 5 → Q (.ref d) H'
section
variable {P : Program} {w : World} {K : PySem.W.Frag} {mg : Str → Option Value} {base : Heap}
theorem scLSizes : FnScope nLSizes ["face"] (defScope sLSizes) := ⟨rfl, rfl, rfl, by decide +kernel, rfl, by decide +kernel, by decide +kernel⟩
theorem ok_lsizes {C f : Addr} {fd : FuncData} (F : Fun K "least_sizes" "least_sizes" sLSizes f fd) (G : Glb mg) (cl : Cls K C) (n4 : NoAttr K C "records") (DZ : Has P w K mg base "least_size" 4 ["face", "kind", "sizes"] (spLSize C)) (DS : Has P w K mg base "field_size" 3 ["size"] spFSize) : FnOk P w K mg base CX0 5 f fd ["face"] (spLSizes C) := by
  refine F.ok scLSizes (fun vs H Q E h => ?_) (fun cdv A outer s H vs Q E hr h => ?_)
  · obtain ⟨a, cs, rs, fi, fo, rfl, _⟩ := h
    rfl
  · obtain ⟨a, cs, rs, fi, fo, rfl, hF, g, q⟩ := h
    have hr3 : Room 3 _ := hr.mono (by decide)
    have hu := hu_of hr
    refine ⟨_, pss_cons (ps_set (i := 1) scLSizes.nd rfl (Or.inr rfl) pe_dnewK)
      (pss_cons (ps_for PassesOwn.never rfl (pi_range1 rfl G.range (pa_cons (pe_callB call_len_seq (by rfl) G.len PySem.boot_len (pa_cons (pe_fld (pv 0) rfl) pa_nil)) pa_nil)) (pg_name (i := 2) scLSizes.nd rfl (Or.inl rfl))
        (pss_one (ps_for PassesOwn.never rfl (pi_tup (pe_fld (pv 0) rfl)) (pg_tup rfl (pgs_cons (pg_name (i := 3) scLSizes.nd rfl (.inl rfl)) (pgs_cons (pg_name (i := 4) scLSizes.nd rfl (.inl rfl)) pgs_nil)))
          (pss_cons (ps_setLc (i := 5) (own := [("number", 6), ("name", 7), ("kind", 8), ("need", 9)]) (g := gTup K 4 (gCons (gName 6) (gCons (gName 7) (gCons (gName 8) (gCons (gName 9) gNil))))) (te := tCall (spLSize C) [] E0 (tCons (tVar 0) (tCons (tVar 8) (tCons (tVar 1) tNil)))) rfl scLSizes.nd rfl rfl (sw_true rfl rfl rfl (by decide +kernel)) (pi_tup (pv 4)) (blkOk_by (N := nLSizes) (sc := defScope sLSizes) (by decide +kernel))
            (fun _ _ _ _ _ => pg_tup rfl (pgs_cons (pg_name (i := 6) scLSizes.nd rfl (.inl rfl)) (pgs_cons (pg_name (i := 7) scLSizes.nd rfl (.inl rfl)) (pgs_cons (pg_name (i := 8) scLSizes.nd rfl (.inl rfl)) (pgs_cons (pg_name (i := 9) scLSizes.nd rfl (.inl rfl)) pgs_nil))))) (fun _ _ _ _ _ => pts_one (pt_cmpR op_eq (pv 9) pe_str (nomark _))) (fun _ _ _ _ _ => pe_has DZ hr rfl (pa_cons (pv 0) (pa_cons (pv 8) (pa_cons (pv 1) pa_nil)))))
          (pss_one (ps_if (pt_cmpR op_notIn_seq pe_non (pv 5) rfl)
            (pss_one (ps_dput hu (pv 1) (pv 3) (pe_callB (cr_sum rfl) (by rfl) G.sum (by decide +kernel) (pa_cons (pe_lc (own := [("part", 10)]) (g := gName 10) (tt := tYes) (te := tCall spFSize [] E0 (tCons (tVar 10) tNil)) rfl scLSizes.nd (pi_list (pv 5)) (blkOk_by (N := nLSizes) (sc := defScope sLSizes) (by decide +kernel))
              (fun _ _ _ _ _ => pg_name (i := 10) scLSizes.nd rfl (Or.inl rfl)) (fun _ _ _ _ _ => pts_nil) (fun _ _ _ _ _ => pe_has DS hr3 rfl (pa_cons (pv 10) pa_nil))) pa_nil)) rfl)) pss_nil))))))
      (pss_one (ps_ret (pv 1)))), ?_⟩
    obtain ⟨dx, v1, v2, v3, v4, v5, hA, t3, t4⟩ := id hF
    have t4' := t4
    rw [g.rs] at t4'
    obtain ⟨b, xs, rfl, hb, tq⟩ := Tp.inv t4
    have el : xs.length = 2 := by rw [tq.length, List.length_map, g.rs]; rfl
    intro d hd
    have S0 : Same H (upd H d (.dK [])) := Same.new hd
    refine ⟨_, rfl, a, C, dx, _, _, rfl, S0 _ _ hA, cl, n4, ff_records, b, _, rfl, .inr (SqT.of (S0 _ _ hb)), (xs.length : Int), rfl, by omega, by omega, ?_⟩
    rw [el]
    refine for_range (lo := 0) (n := 2) (fun t σ H3 => ∃ kvs, (∃ a2 a3 a4 a5 a6 a7 a8 a9 a10, σ = [some (.ref a), some (.ref d), a2, a3, a4, a5, a6, a7, a8, a9, a10]) ∧ Same H H3 ∧ H3 d = some (.dK kvs) ∧ kvs.length ≤ 2 * t ∧ (1 ≤ t → InS kvs ∧ OutS kvs)) ?_ ?_ ?_
    · exact ⟨[], ⟨_, _, _, _, _, _, _, _, _, rfl⟩, S0, upd_same, Nat.le_refl _, fun h => absurd h (by decide)⟩
    · rintro t σ H3 ht ⟨kvs0, ⟨a2, a3, a4, a5, a6, a7, a8, a9, a10, rfl⟩, S3, hd3, l3, _⟩
      refine ⟨_, rfl, a, C, dx, _, _, rfl, S3 _ _ hA, cl, n4, ff_records, b, rfl, ⟨_, SqT.of (S3 _ _ hb)⟩, ?_⟩
      refine for_tup (xs := xs) (fun i σ H4 => ∃ kvs, (∃ a3 a4 a5 a6 a7 a8 a9 a10, σ = [some (.ref a), some (.ref d), some (.int (0 + (t : Int))), a3, a4, a5, a6, a7, a8, a9, a10]) ∧ Same H H4 ∧ H4 d = some (.dK kvs) ∧ kvs.length ≤ 2 * t + i ∧ (1 ≤ i → InS kvs) ∧ (2 ≤ i → OutS kvs)) ?_ ?_ ?_ ?_
      · exact ⟨kvs0, ⟨_, _, _, _, _, _, _, _, rfl⟩, S3, hd3, l3, (fun h => absurd h (by decide)), fun h => absurd h (by decide)⟩
      · rintro i σ H4 _ ⟨kvs, _, S4, _⟩
        exact SqT.of (S4 _ _ hb)
      · rintro i x σ H4 hx ⟨kvs, ⟨a3, a4, a5, a6, a7, a8, a9, a10, rfl⟩, S4, hd4, l4, hI, hO⟩
        obtain ⟨r, tp, u, hr', rfl, htp, tu⟩ := rows_at tq hx
        have hi : i < 2 := by
          rw [List.getElem?_eq_some_iff] at hx
          have := hx.1
          omega
        -- which of the two
        have hz : ∃ (f : Fl) (B : Int), r.2 = fieldsD [f] ∧ okK cs f.kd ∧ 0 ≤ B ∧ (∀ z, f.kd = .one (.rc z) → ∃ m, valV kvs (.inr z) = some (.int m) ∧ 0 ≤ m ∧ m ≤ B) ∧ ((r.1 = "inner" ∧ B = 0 ∧ i = 0) ∨ (r.1 = "outer" ∧ B = 10 ∧ i = 1)) := by
          rw [g.rs] at hr'
          rcases (by omega : i = 0 ∨ i = 1) with rfl | rfl
          · cases hr'
            refine ⟨fi, 0, rfl, plain_ok g.ik, Int.le_refl _, fun z e => ?_, .inl ⟨rfl, rfl, rfl⟩⟩
            have := g.ik
            rw [e] at this
            rcases this with h | h | h <;> cases h
          · cases hr'
            refine ⟨fo, 10, rfl, g.ok, by decide, fun z e => ?_, .inr ⟨rfl, rfl, rfl⟩⟩
            have h := g.ok
            rw [e] at h
            cases (show z = "inner" from h)
            exact hI (by decide)
        obtain ⟨fl, B, er, hok, hB, hRC, hcase⟩ := hz
        rw [er] at tu
        refine ⟨tp, _, rfl, SqT.of (S4 _ _ htp), rfl, _, _, rfl, _, _, rfl, rfl, ?_⟩
        -- parts
        obtain ⟨c, ys, rfl, hc, tys⟩ := Tp.inv tu
        refine ⟨_, rfl, c, rfl, ⟨_, SqT.of (S4 _ _ hc)⟩, fun D hD => ?_⟩
        have ly : ys.length = 1 := by rw [tys.length]; rfl
        have hDn : H D = none := Same.free S4 hD
        refine lc_tup (xs := ys) (fun j H5 => Same H4 H5 ∧ ∃ ms : List Int, H5 D = some (.lst (ms.map V.int)) ∧ ms.length ≤ j ∧ ∀ m ∈ ms, 0 ≤ m ∧ m ≤ B + 1) ?_ ?_ ?_ ?_
        · exact ⟨Same.new hD, [], upd_same, Nat.le_refl _, fun m h => nomatch h⟩
        · rintro j H5 _ ⟨S5, _⟩
          exact SqT.of (S5 _ _ (S4 _ _ hc))
        · rintro j y H5 hy ⟨S5, ms, h5, lm, hm⟩
          obtain ⟨f2, t2, u2, hf2, rfl, ht2, tu2⟩ := flds_at (fs := [fl]) tys hy
          have hj : j = 0 := by
            rw [List.getElem?_eq_some_iff] at hy
            have := hy.1
            omega
          subst hj
          cases hf2
          have S45 : Same H H5 := fun b o e => S5 b o (S4 b o e)
          refine ⟨t2, _, rfl, SqT.of (S45 _ _ ht2), rfl, _, _, rfl, _, _, rfl, _, _, rfl, _, _, rfl, rfl, rfl, ?_⟩
          refine ⟨_, rfl, rfl, _, rfl, ?_⟩
          rw [need_must]
          cases hmu : fl.must with
          | false => exact iteF ⟨S5, ms, h5, Nat.le_succ_of_le lm, hm⟩
          | true =>
            refine iteT ?_
            refine ⟨_, rfl, _, rfl, _, rfl, a, d, u2, fl.kd, cs, rs, kvs, B, rfl, hF.same S45, g.cl, (by rw [g.rs]; exact (by decide : 2 ≤ 100)), Tp.keep (Same.tk S45) _ _ tu2, okK_nob g hok, fun z e => ?_, S5 _ _ hd4, hB, hRC, fun m H6 S6 m0 m1 => ?_⟩
            · rw [e] at hok
              exact hok
            · refine ⟨_, S6 _ _ h5, ?_, Same.wr (fun b o e => S6 b o (S5 b o e)) hD, ms ++ [m], ?_, ?_, ?_⟩
              · rw [List.length_map]
                exact Nat.lt_of_le_of_lt lm (by decide)
              · rw [upd_same, List.map_append]; rfl
              · rw [List.length_append]
                exact Nat.succ_le_succ lm
              · intro m' hm'
                rcases List.mem_append.mp hm' with h | h
                · exact hm m' h
                · rw [List.mem_singleton.mp h]
                  exact ⟨m0, m1⟩
        · rintro H5 ⟨S5, ms, h5, lm, hm⟩
          rw [ly] at lm
          have hin : inV V.non (ms.map V.int) = false := by
            unfold inV
            rw [List.any_map, List.any_eq_false]
            intro m _ h
            cases h
          refine ⟨_, rfl, D, _, rfl, .inl (SqL.of h5), rfl, by simp [flatV], _, rfl, ?_⟩
          show if (!inV V.non (ms.map V.int)) = true then _ else _
          rw [hin]
          refine iteT ?_
          have S45 : Same H H5 := fun b o e => S5 b o (S4 b o e)
          refine ⟨_, rfl, D, rfl, ⟨_, SqL.of h5⟩, fun D2 hD2 => ?_⟩
          refine lc_list (xs := ms.map V.int) (fun j H6 => Same H5 H6 ∧ ∃ ns : List Int, H6 D2 = some (.lst (ns.map V.int)) ∧ ns.length ≤ j ∧ ∀ m ∈ ns, 0 ≤ m ∧ m ≤ B + 5) ?_ ?_ ?_ ?_
          · exact ⟨Same.new hD2, [], upd_same, Nat.le_refl _, fun m h => nomatch h⟩
          · rintro j H6 _ ⟨S6, _⟩
            exact SqL.of (S6 _ _ h5)
          · rintro j y H6 hy ⟨S6, ns, h6, ln, hn⟩
            have hjl : j < ms.length := by
              rw [List.getElem?_eq_some_iff] at hy
              have := hy.1
              rw [List.length_map] at this
              exact this
            rw [List.getElem?_map] at hy
            cases hmj : ms[j]? with
            | none => rw [hmj] at hy; cases hy
            | some mj =>
              rw [hmj] at hy
              cases hy
              have hb2 := hm mj (List.mem_of_getElem? hmj)
              refine ⟨rfl, yes (iteT ?_)⟩
              refine ⟨_, rfl, mj, rfl, hb2.1, fun m H7 S7 m0 m1 => ?_⟩
              refine ⟨_, S7 _ _ h6, ?_, Same.wr (fun b o e => S7 b o (S6 b o e)) hD2, ns ++ [m], ?_, ?_, ?_⟩
              · rw [List.length_map]
                exact Nat.lt_of_le_of_lt (Nat.le_trans ln (Nat.le_trans (Nat.le_of_lt hjl) lm)) (by decide)
              · rw [upd_same, List.map_append]; rfl
              · rw [List.length_append]
                exact Nat.succ_le_succ ln
              · intro m' hm'
                rcases List.mem_append.mp hm' with h | h
                · exact hn m' h
                · rw [List.mem_singleton.mp h]
                  omega
          · rintro H6 ⟨S6, ns, h6, ln, hn⟩
            rw [List.length_map] at ln
            have hs : 0 ≤ ns.sum ∧ ns.sum ≤ B + 5 := by
              match ns, (Nat.le_trans ln lm : ns.length ≤ 1), hn with
              | [], _, _ => exact ⟨Int.le_refl _, by show (0 : Int) ≤ B + 5; omega⟩
              | [m], _, hn =>
                have := hn m List.mem_cons_self
                have e : [m].sum = m := by simp
                rw [e]
                exact this
            have S46 : Same H H6 := fun b o e => S6 b o (S45 b o e)
            have hd6 : H6 d = some (.dK kvs) := S6 _ _ (S5 _ _ hd4)
            refine ⟨D2, ns, rfl, SqL.of h6, _, rfl, _, rfl, d, _, rfl, DPut.k (k := Sum.inr r.1) hd6 (Nat.lt_of_le_of_lt l4 (Nat.lt_of_lt_of_le (show 2 * t + i < 10 by omega) (by decide))), ?_⟩
            refine ⟨_, ⟨_, _, _, _, _, _, _, _, rfl⟩, Same.wr S46 hd, upd_same, Nat.le_trans (length_putK _ _ _) (by omega), fun h => ?_, fun h => ?_⟩
            · rcases hcase with ⟨e1, e2, e3⟩ | ⟨e1, e2, e3⟩
              · rw [e1]
                exact ⟨ns.sum, by rw [valV_put, if_pos rfl], hs.1, by omega⟩
              · obtain ⟨m, em, m0, m1⟩ := hI (by omega)
                rw [e1]
                refine ⟨m, ?_, m0, m1⟩
                rw [valV_put, if_neg (by decide +kernel)]
                exact em
            · rcases hcase with ⟨e1, e2, e3⟩ | ⟨e1, e2, e3⟩
              · omega
              · rw [e1]
                exact ⟨ns.sum, by rw [valV_put, if_pos rfl], hs.1, by omega⟩
      · rintro σ H4 ⟨kvs, ⟨a3, a4, a5, a6, a7, a8, a9, a10, rfl⟩, S4, hd4, l4, hI, hO⟩
        refine ⟨kvs, ⟨_, _, _, _, _, _, _, _, _, rfl⟩, S4, hd4, by omega, fun _ => ⟨hI (by omega), hO (by omega)⟩⟩
    · rintro σ H3 ⟨kvs, ⟨a2, a3, a4, a5, a6, a7, a8, a9, a10, rfl⟩, S3, hd3, l3, h3⟩
      exact ⟨_, rfl, q d kvs H3 S3 hd hd3 (h3 (by decide)).1 (h3 (by decide)).2⟩
theorem scLeast : FnScope ["face", "record", "size"] ["face", "record"] (defScope sLeast) := ⟨rfl, rfl, rfl, by decide +kernel, rfl, by decide +kernel, by decide +kernel⟩
theorem Gd.wfi {cs rs : List (Str × PyData)} {fi fo : Fl} (g : Gd cs rs fi fo) : Wf cs rs 1 (.one (.rc "inner")) := by
  refine ⟨[fi], by rw [g.rs]; rfl, (by decide : 1 ≤ 5), fun f hf _ => ?_⟩
  rw [List.mem_singleton.mp hf]
  rcases g.ik with h | h | h <;> rw [h] <;> trivial
theorem Gd.wfk {cs rs : List (Str × PyData)} {fi fo : Fl} (g : Gd cs rs fi fo) {k : Kn} (h : okK cs k) : Wf cs rs 1 k := by
  cases k with
  | lst b => trivial
  | one b => cases b with
    | whole => trivial
    | truth => trivial
    | text => trivial
    | rc z =>
      cases (show z = "inner" from h)
      exact g.wfi
    | ch z => exact h
theorem wf_up {cs rs : List (Str × PyData)} : ∀ {r : Nat} {k : Kn}, Wf cs rs r k → Wf cs rs (r + 1) k
  | r, .lst b, _ => by cases r <;> trivial
  | r, .one .whole, _ => by cases r <;> trivial
  | r, .one .truth, _ => by cases r <;> trivial
  | r, .one .text, _ => by cases r <;> trivial
  | r, .one (.ch z), h => by cases r <;> exact h
  | 0, .one (.rc z), h => h.elim
  | r + 1, .one (.rc z), ⟨fs, h1, h2, h3⟩ => ⟨fs, h1, h2, fun f hf hm => wf_up (h3 f hf hm)⟩
theorem Gd.wfo {cs rs : List (Str × PyData)} {fi fo : Fl} (g : Gd cs rs fi fo) : Wf cs rs 2 (.one (.rc "outer")) := by
  refine ⟨[fo], by rw [g.rs]; rfl, (by decide : 1 ≤ 5), fun f hf _ => ?_⟩
  rw [List.mem_singleton.mp hf]
  exact g.wfk g.ok
theorem ok_least {C f : Addr} {fd : FuncData} (F : Fun K "least" "least" sLeast f fd) (N : Nums mg) (DF : HasM P w K mg base C "fields_of" 1 ["self", "record"] (spFields C)) (DS : Has P w K mg base "least_sizes" 5 ["face"] (spLSizes C)) (DL : Has P w K mg base "least_of" 4 ["face", "kind"] (spLeastOf C 2)) : FnOk P w K mg base CX0 6 f fd ["face", "record"] (spLeast C) := by
  obtain ⟨tG, hG⟩ := N.body
  refine F.ok scLeast (fun vs H Q E h => ?_) (fun cdv A outer s H vs Q E hr h => ?_)
  · obtain ⟨a, z, cs, rs, fi, fo, rfl, _⟩ := h
    rfl
  · obtain ⟨a, z, cs, rs, fi, fo, rfl, hF, g, hz, q⟩ := h
    have hr1 : Room 1 _ := hr.mono (by decide)
    have hr4 : Room 4 _ := hr.mono (by decide)
    have hu := hu_of hr
    refine ⟨_, pss_cons (ps_expr (pe_hasM DF hr1 (pv 0) (pa_cons (pv 1) pa_nil)))
      (pss_cons (ps_set (i := 2) scLeast.nd rfl (Or.inl rfl) (pe_dget1 hu (pe_has DS hr rfl (pa_cons (pv 0) pa_nil)) (pv 1) ⟨rfl, rfl, rfl, rfl⟩))
      (pss_cons (ps_if (PW.pt (pw_or (pt_cmpR op_isN (pv 2) pe_non (nomark _)) (pw_or1 (pt_cmpR op_gt (pv 2) (pe_glob (v := .int 10000) rfl hG ⟨_, rfl⟩) (nomark _))))) (pss_one (ps_ret pe_non)) pss_nil)
      (pss_one (ps_ret (pe_has DL hr4 rfl (pa_cons (pv 0) (pa_cons (pe_tup (pa_cons pe_str (pa_cons (pv 1) pa_nil))) pa_nil))))))), ?_⟩
    obtain ⟨dx, v1, v2, v3, v4, v5, hA, t3, t4⟩ := id hF
    have hl : ∃ d, rs.lookup z = some d := by
      rw [g.rs]
      rcases hz with rfl | rfl
      · exact ⟨_, rfl⟩
      · exact ⟨_, rfl⟩
    obtain ⟨dd, hl⟩ := hl
    refine ⟨_, rfl, a, dx, _, rfl, hA, ff_fields, _, rfl, a, z, cs, rs, dd, rfl, hF, hl, fun v _ => ?_⟩
    refine ⟨_, rfl, a, cs, rs, fi, fo, rfl, hF, g, fun d kvs H1 S1 hd hd1 hI hO => ?_⟩
    have hm : ∃ m : Int, valV kvs (.inr z) = some (.int m) ∧ 0 ≤ m ∧ m ≤ 100 := by
      rcases hz with rfl | rfl
      · obtain ⟨m, e, m0, m1⟩ := hI
        exact ⟨m, e, m0, by omega⟩
      · exact hO
    obtain ⟨m, em, m0, m1⟩ := hm
    refine ⟨d, rfl, .inl ⟨_, .inl hd1⟩, _, rfl, _, DGet.k (k := Sum.inr z) hd1, ?_⟩
    rw [em]
    refine ⟨_, rfl, rfl, _, rfl, ?_⟩
    refine iteF ?_
    refine ⟨_, rfl, _, _, rfl, rfl, _, rfl, ?_⟩
    refine ite2 (fun h => absurd (of_decide_eq_true h) (by omega)) (fun _ => ?_)
    refine ⟨_, rfl, _, rfl, (by show 2 ≤ sizeLine; decide), fun p hp => ?_⟩
    have S2 : Same H (upd H1 p (.tup [.str "record", .str z])) := fun b o e => Same.new hp b o (S1 b o e)
    refine ⟨a, .ref p, .one (.rc z), cs, rs, rfl, hF.same S2, .tup upd_same (.cons (.str _) (.cons (.str _) .nil)), ?_, fun x H3 S3 _ hx _ => ?_⟩
    · rcases hz with rfl | rfl
      · exact wf_up g.wfi
      · exact g.wfo
    · obtain ⟨p2, kvs2, rfl, hp2, h3, l3⟩ := hx z rfl
      exact q p2 kvs2 H3 (fun b o e => S3 b o (S2 b o e)) (Same.free S2 hp2) h3 l3
end
end Fh
set_option Elab.async false
set_option linter.all false
set_option maxRecDepth 100000
set_option maxHeartbeats 4000000
namespace Fh
open PySem L2 PyProof.Rows
abbrev Chs : Type := List (Str × List (Int × Str))
def csD (chs : Chs) : List (Str × PyData) := chs.map fun c => (c.1, optsD c.2)
theorem csD_look {chs : Chs} {z : Str} {os : List (Int × Str)} (h : chs.lookup z = some os) : (csD chs).lookup z = some (optsD os) := by
  induction chs with
  | nil => cases h
  | cons c r ih =>
    obtain ⟨k, o⟩ := c
    show List.lookup z ((k, optsD o) :: csD r) = _
    rw [List.lookup_cons] at h ⊢
    cases e : (z == k) with
    | true =>
      rw [e] at h
      cases h
      rfl
    | false =>
      rw [e] at h
      exact ih h
/-- kinds of numbers -/
inductive Nk where
  | whole
  | truth
  | ch (os : List (Int × Str))
def Nk.can : Nk → Int → Bool
  | .whole, _ => true
  | .truth, n => decide (n ≤ 1)
  | .ch os, n => decide (n ∈ os.map (·.1))
def Nk.tell : Nk → List Int
  | .whole => [1000000000]
  | .truth => [0, 1]
  | .ch os => os.map (·.1)
def Nk.tellV : Nk → List V
  | .whole => [.int 1000000000]
  | .truth => [.bl false, .bl true]
  | .ch os => os.map fun o => V.str o.2
def NkOf (chs : Chs) : Kb → Nk → Prop
  | .whole, n => n = .whole
  | .truth, n => n = .truth
  | .ch z, n => ∃ os, chs.lookup z = some os ∧ OptsOk os ∧ n = .ch os
  | _, _ => False
def numB : Kb → Bool
  | .whole => true
  | .truth => true
  | .ch _ => true
  | _ => false
def okT (chs : Chs) : Kb → Prop
  | .rc z => z = "inner"
  | .ch z => (∃ os, chs.lookup z = some os ∧ OptsOk os) ∧ PyData.canLay0 (.str z) = true
  | _ => True
theorem okT_B {chs : Chs} {b : Kb} (h : okT chs b) : okB (csD chs) b := by
  cases b with
  | whole => trivial
  | truth => trivial
  | text => trivial
  | rc z => exact h
  | ch z =>
    obtain ⟨⟨os, h1, h2⟩, _⟩ := h
    exact ⟨os, csD_look h1, h2⟩
theorem lay_app {a b : PyData} (ha : a.canLay0 = true) (hb : b.canLay0 = true) : PyData.canLay0 (.tuple [a, b]) = true := lay_all [a, b] fun d hd => by
  simp only [List.mem_cons, List.not_mem_nil, or_false] at hd
  rcases hd with rfl | rfl
  · exact ha
  · exact hb
theorem okT_sh {chs : Chs} {b : Kb} (h : okT chs b) : Sh 1 b.d := by
  cases b with
  | whole => exact ⟨by decide +kernel, by decide⟩
  | truth => exact ⟨by decide +kernel, by decide⟩
  | text => exact ⟨by decide +kernel, by decide⟩
  | rc z =>
    cases (show z = "inner" from h)
    exact ⟨by decide +kernel, by decide⟩
  | ch z => exact ⟨lay_app (by decide +kernel) h.2, Nat.le_refl _⟩
abbrev sByNum : Stmt := top 26
abbrev sUNum : Stmt := top 28
abbrev sTell : Stmt := top 29
abbrev sCan : Stmt := top 30
def spByNum (C : Addr) : Sp := fun vs H Q _ => ∃ (a : Addr) (z : Str) (cs rs : List (Str × PyData)) (f : Fl), vs = [.ref a, .str z] ∧ FaceR C H a cs rs ∧ rs.lookup z = some (fieldsD [f]) ∧
  ∀ (d t : Addr) (u : V) (H' : Hp), Same H H' → H d = none → H' d = some (.dK [(.inl f.num, .ref t)]) → H' t = some (.tup [.str f.nam, u, .str (needS f.must)]) → Tp H' u f.kd.d → Q (.ref d) H'
def spTell (C : Addr) : Sp := fun vs H Q _ => ∃ (a : Addr) (v : V) (b : Kb) (n : Nk) (chs : Chs) (rs : List (Str × PyData)), vs = [.ref a, v] ∧ FaceR C H a (csD chs) rs ∧ Tp H v b.d ∧ okT chs b ∧ NkOf chs b n ∧
  ∀ (p : Addr) (H' : Hp), Same H H' → H p = none → H' p = some (.lst n.tellV) → Q (.ref p) H'
def spCan (C : Addr) : Sp := fun vs H Q _ => ∃ (a : Addr) (v : V) (i : Int) (b : Kb) (n : Nk) (chs : Chs) (rs : List (Str × PyData)), vs = [.ref a, v, .int i] ∧ FaceR C H a (csD chs) rs ∧ Tp H v b.d ∧ okT chs b ∧ NkOf chs b n ∧
  ∀ (H' : Hp), Same H H' → Q (.bl (n.can i)) H'
def spUNum (C : Addr) : Sp := fun vs H Q _ => ∃ (a1 a2 : Addr) (v1 v2 : V) (b1 b2 : Kb) (n1 n2 : Nk) (c1 c2 : Chs) (r1 r2 : List (Str × PyData)), vs = [.ref a1, v1, .ref a2, v2] ∧ FaceR C H a1 (csD c1) r1 ∧ FaceR C H a2 (csD c2) r2 ∧ Tp H v1 b1.d ∧ Tp H v2 b2.d ∧ okT c1 b1 ∧ okT c2 b2 ∧ NkOf c1 b1 n1 ∧ NkOf c2 b2 n2 ∧
  ∀ (x : V) (H' : Hp), Same H H' → (x = .non ↔ n2.tell.all n1.can = true) → Q x H'
theorem eqv_tup_str (ds : List PyData) (z : Str) : PyData.eqv (.tuple ds) (.str z) = false := rfl
theorem eqv_strs (y z : Str) : PyData.eqv (.str y) (.str z) = decide (y = z) := by
  show (y == z) = _
  by_cases e : y = z
  · subst e
    simp
  · rw [decide_eq_false e]
    exact beq_eq_false_iff_ne.mpr e
section
variable {P : Program} {w : World} {K : PySem.W.Frag} {mg : Str → Option Value} {base : Heap}
abbrev nByNum : List Str := ["face", "record", "number", "name", "kind", "need"]
theorem scByNum : FnScope nByNum ["face", "record"] (defScope sByNum) := ⟨rfl, rfl, rfl, by decide +kernel, rfl, by decide +kernel, by decide +kernel⟩
theorem ok_byNum {C f : Addr} {fd : FuncData} (F : Fun K "fields_by_number" "fields_by_number" sByNum f fd) (DF : HasM P w K mg base C "fields_of" 1 ["self", "record"] (spFields C)) : FnOk P w K mg base CX0 2 f fd ["face", "record"] (spByNum C) := by
  refine F.ok scByNum (fun vs H Q E h => ?_) (fun cdv A outer s H vs Q E hr h => ?_)
  · obtain ⟨a, z, cs, rs, fl, rfl, _⟩ := h
    rfl
  · obtain ⟨a, z, cs, rs, fl, rfl, hF, hl, q⟩ := h
    refine ⟨_, pss_one (ps_ret (pe_dc (own := [("number", 2), ("name", 3), ("kind", 4), ("need", 5)]) (g := gTup K 4 (gCons (gName 2) (gCons (gName 3) (gCons (gName 4) (gCons (gName 5) gNil))))) (tt := tYes) (tk := tVar 2) (tv := tTup (tCons (tVar 3) (tCons (tVar 4) (tCons (tVar 5) tNil)))) rfl scByNum.nd (pi_tup (pe_hasM DF hr (pv 0) (pa_cons (pv 1) pa_nil))) (blkOk_by (N := nByNum) (sc := defScope sByNum) (by decide +kernel))
          (fun _ _ _ _ _ => pg_tup rfl (pgs_cons (pg_name (i := 2) scByNum.nd rfl (.inl rfl)) (pgs_cons (pg_name (i := 3) scByNum.nd rfl (.inl rfl)) (pgs_cons (pg_name (i := 4) scByNum.nd rfl (.inl rfl)) (pgs_cons (pg_name (i := 5) scByNum.nd rfl (.inl rfl)) pgs_nil))))) (fun _ _ _ _ _ => pts_nil) (fun _ _ _ _ _ => pv 2) (fun _ _ _ _ _ => pe_tup (pa_cons (pv 3) (pa_cons (pv 4) (pa_cons (pv 5) pa_nil)))))), ?_⟩
    obtain ⟨dx, v1, v2, v3, v4, v5, hA, t3, t4⟩ := id hF
    refine ⟨_, rfl, a, dx, _, rfl, hA, ff_fields, _, rfl, a, z, cs, rs, _, rfl, hF, hl, fun ov tv => ?_⟩
    obtain ⟨c, xs, rfl, hc, tq⟩ := Tp.inv tv
    refine ⟨c, rfl, ⟨_, SqT.of hc⟩, fun D hD => ?_⟩
    have el : xs.length = 1 := by rw [tq.length]; rfl
    refine dc_tup (xs := xs) (fun i H3 => Same H H3 ∧ ((i = 0 ∧ H3 D = some (.dK [])) ∨ (i = 1 ∧ ∃ t u, H3 D = some (.dK [(.inl fl.num, .ref t)]) ∧ H3 t = some (.tup [.str fl.nam, u, .str (needS fl.must)]) ∧ Tp H3 u fl.kd.d))) ?_ ?_ ?_ ?_
    · exact ⟨Same.new hD, .inl ⟨rfl, upd_same⟩⟩
    · rintro i H3 _ ⟨S3, _⟩
      exact SqT.of (S3 _ _ hc)
    · rintro i x H3 hx ⟨S3, h3⟩
      obtain ⟨f2, t2, u2, hf2, rfl, ht2, tu2⟩ := flds_at (fs := [fl]) tq hx
      have hi : i = 0 := by
        rw [List.getElem?_eq_some_iff] at hx
        have := hx.1
        omega
      subst hi
      cases hf2
      rcases h3 with ⟨_, h3⟩ | ⟨h, _⟩
      · refine ⟨t2, _, rfl, SqT.of (S3 _ _ ht2), rfl, _, _, rfl, _, _, rfl, _, _, rfl, _, _, rfl, rfl, rfl, yes (iteT ?_)⟩
        refine ⟨_, rfl, _, rfl, _, rfl, _, rfl, (by show 3 ≤ sizeLine; decide), fun t ht => ?_⟩
        have nDt : D ≠ t := ne_of_none h3 ht
        have S4 : Same H (upd H3 t (.tup [.str fl.nam, u2, .str (needS fl.must)])) := fun b o e => Same.new ht b o (S3 b o e)
        have S5 : Same H (upd (upd H3 t (.tup [.str fl.nam, u2, .str (needS fl.must)])) D (.dK (putK [] (.inl fl.num) (.ref t)))) := Same.wr S4 hD
        refine ⟨[], Sum.inl fl.num, rfl, (by rw [upd_ne nDt]; exact h3), (by show 0 < sizeLine; decide), S5, .inr ⟨rfl, t, u2, upd_same, by rw [upd_ne nDt.symm, upd_same], Tp.keep (Same.tk S5) _ _ tu2⟩⟩
      · cases h
    · rintro H3 ⟨S3, ⟨h, _⟩ | ⟨_, t, u, h3, h4, h5⟩⟩
      · omega
      · exact q D t u H3 S3 hD h3 h4 h5
abbrev nTell : List Str := ["face", "kind", "number", "word"]
theorem scTell : FnScope nTell ["face", "kind"] (defScope sTell) := ⟨rfl, rfl, rfl, by decide +kernel, rfl, by decide +kernel, by decide +kernel⟩
theorem ok_tell {C f : Addr} {fd : FuncData} (F : Fun K "telling_values" "telling_values" sTell f fd) (N : Nums mg) (DO : HasM P w K mg base C "options_of" 1 ["self", "choice"] (spOptions C)) : FnOk P w K mg base CX0 2 f fd ["face", "kind"] (spTell C) := by
  obtain ⟨tG, hG⟩ := N.great
  refine F.ok scTell (fun vs H Q E h => ?_) (fun cdv A outer s H vs Q E hr h => ?_)
  · obtain ⟨a, v, b, n, chs, rs, rfl, _⟩ := h
    rfl
  · obtain ⟨a, v, b, n, chs, rs, rfl, hF, t, hok, hn, q⟩ := h
    refine ⟨_, pss_cons (ps_if (pt_cmpR (op_eqD hr.units) (pv 1) pe_str (nomark _)) (pss_one (ps_ret (pe_lst (pa_cons (pe_glob (v := .int 1000000000) rfl hG ⟨_, rfl⟩) pa_nil)))) pss_nil)
      (pss_cons (ps_if (pt_cmpR (op_eqD hr.units) (pv 1) pe_str (nomark _)) (pss_one (ps_ret (pe_lst (pa_cons pe_bl (pa_cons pe_bl pa_nil))))) pss_nil)
      (pss_one (ps_ret (pe_lc (own := [("number", 2), ("word", 3)]) (g := gTup K 2 (gCons (gName 2) (gCons (gName 3) gNil))) (tt := tYes) (te := tVar 3) rfl scTell.nd (pi_tup (pe_hasM DO hr (pv 0) (pa_cons (pe_ix ix_tup (pv 1) pe_int (fun _ _ => rfl)) pa_nil))) (blkOk_by (N := nTell) (sc := defScope sTell) (by decide +kernel))
        (fun _ _ _ _ _ => pg_tup rfl (pgs_cons (pg_name (i := 2) scTell.nd rfl (.inl rfl)) (pgs_cons (pg_name (i := 3) scTell.nd rfl (.inl rfl)) pgs_nil))) (fun _ _ _ _ _ => pts_nil) (fun _ _ _ _ _ => pv 3))))), ?_⟩
    have sk := (okT_sh hok).shaped (by decide)
    have sw : SeqAt.shaped (PyData.str "whole") = true := by decide +kernel
    have st : SeqAt.shaped (PyData.str "truth") = true := by decide +kernel
    refine ⟨_, rfl, _, _, Tp.dp _ _ t, .str _, sk, sw, _, rfl, ?_⟩
    cases b with
    | text => exact hn.elim
    | rc z => exact hn.elim
    | whole =>
      cases (show n = .whole from hn)
      refine ite2 (fun _ => ?_) (fun h => absurd (by decide +kernel) h)
      exact ⟨(by show 1 ≤ sizeLine; decide), fun p hp => q p _ (Same.new hp) hp upd_same⟩
    | truth =>
      cases (show n = .truth from hn)
      refine ite2 (fun h => absurd h (by decide +kernel)) (fun _ => ?_)
      refine ⟨_, rfl, _, _, Tp.dp _ _ t, .str _, sk, st, _, rfl, ?_⟩
      refine ite2 (fun _ => ?_) (fun h => absurd (by decide +kernel) h)
      exact ⟨(by show 2 ≤ sizeLine; decide), fun p hp => q p _ (Same.new hp) hp upd_same⟩
    | ch z =>
      obtain ⟨os, hl, ok, rfl⟩ := hn
      refine ite2 (fun h => absurd h (by rw [show PyData.eqv (Kb.ch z).d (.str "whole") = false from rfl]; decide)) (fun _ => ?_)
      refine ⟨_, rfl, _, _, Tp.dp _ _ t, .str _, sk, st, _, rfl, ?_⟩
      refine ite2 (fun h => absurd h (by rw [show PyData.eqv (Kb.ch z).d (.str "truth") = false from rfl]; decide)) (fun _ => ?_)
      obtain ⟨c, y1, y2, rfl, hc, ty1, ty2⟩ := Tp.pair t
      cases ty2.istr
      obtain ⟨dx, v1, v2, v3, v4, v5, hA, t3, t4⟩ := id hF
      refine ⟨_, rfl, a, dx, _, rfl, hA, ff_options, _, rfl, c, _, _, _, rfl, rfl, SqT.of hc, rfl, a, z, _, rs, _, rfl, hF, csD_look hl, fun ov tv => ?_⟩
      obtain ⟨e, xs, rfl, he, tq⟩ := Tp.inv tv
      refine ⟨e, rfl, ⟨_, SqT.of he⟩, fun D hD => ?_⟩
      refine lc_tup (xs := xs) (fun i H3 => Same H H3 ∧ H3 D = some (.lst ((os.take i).map fun o => V.str o.2))) ?_ ?_ ?_ ?_
      · exact ⟨Same.new hD, upd_same⟩
      · rintro i H3 _ ⟨S3, _⟩
        exact SqT.of (S3 _ _ he)
      · rintro i x H3 hx ⟨S3, h3⟩
        obtain ⟨o, t, ho, rfl, ht⟩ := opts_at tq hx
        refine ⟨t, _, rfl, SqT.of (S3 _ _ ht), rfl, _, _, rfl, _, _, rfl, rfl, rfl, yes (iteT ?_)⟩
        refine ⟨_, rfl, _, h3, ?_, Same.wr S3 hD, ?_⟩
        · rw [List.length_map, List.length_take]
          exact Nat.lt_of_le_of_lt (Nat.min_le_right _ _) (Nat.lt_of_le_of_lt ok.len (by decide))
        · rw [upd_same, List.take_add_one, ho]
          simp
      · rintro H3 ⟨S3, h3⟩
        have el : xs.length = os.length := by rw [tq.length, List.length_map]
        rw [el, List.take_length] at h3
        exact q D H3 S3 hD h3
abbrev nCan : List Str := ["face", "kind", "number", "option", "word"]
theorem scCan : FnScope nCan ["face", "kind", "number"] (defScope sCan) := ⟨rfl, rfl, rfl, by decide +kernel, rfl, by decide +kernel, by decide +kernel⟩
theorem in_ints (z : Int) (zs : List Int) : inV (.int z) (zs.map V.int) = decide (z ∈ zs) := by
  unfold inV
  rw [List.any_map]
  by_cases h : z ∈ zs
  · rw [decide_eq_true h, List.any_eq_true]
    exact ⟨z, h, by simp [eqV]⟩
  · rw [decide_eq_false h, List.any_eq_false]
    intro y hy e
    simp [eqV] at e
    exact h (e ▸ hy)
theorem ok_can {C f : Addr} {fd : FuncData} (F : Fun K "can_be" "can_be" sCan f fd) (DO : HasM P w K mg base C "options_of" 1 ["self", "choice"] (spOptions C)) : FnOk P w K mg base CX0 2 f fd ["face", "kind", "number"] (spCan C) := by
  refine F.ok scCan (fun vs H Q E h => ?_) (fun cdv A outer s H vs Q E hr h => ?_)
  · obtain ⟨a, v, i, b, n, chs, rs, rfl, _⟩ := h
    rfl
  · obtain ⟨a, v, i, b, n, chs, rs, rfl, hF, t, hok, hn, q⟩ := h
    refine ⟨_, pss_cons (ps_if (pt_cmpR (op_eqD hr.units) (pv 1) pe_str (nomark _)) (pss_one (ps_ret pe_bl)) pss_nil)
      (pss_cons (ps_if (pt_cmpR (op_eqD hr.units) (pv 1) pe_str (nomark _)) (pss_one (ps_ret (pe_cmpR op_le (pv 2) pe_int (nomark _)))) pss_nil)
      (pss_one (ps_ret (pe_cmpR op_in_seq (pv 2) (pe_lc (own := [("option", 3), ("word", 4)]) (g := gTup K 2 (gCons (gName 3) (gCons (gName 4) gNil))) (tt := tYes) (te := tVar 3) rfl scCan.nd (pi_tup (pe_hasM DO hr (pv 0) (pa_cons (pe_ix ix_tup (pv 1) pe_int (fun _ _ => rfl)) pa_nil))) (blkOk_by (N := nCan) (sc := defScope sCan) (by decide +kernel))
        (fun _ _ _ _ _ => pg_tup rfl (pgs_cons (pg_name (i := 3) scCan.nd rfl (.inl rfl)) (pgs_cons (pg_name (i := 4) scCan.nd rfl (.inl rfl)) pgs_nil))) (fun _ _ _ _ _ => pts_nil) (fun _ _ _ _ _ => pv 3)) rfl)))), ?_⟩
    have sk := (okT_sh hok).shaped (by decide)
    have sw : SeqAt.shaped (PyData.str "whole") = true := by decide +kernel
    have st : SeqAt.shaped (PyData.str "truth") = true := by decide +kernel
    refine ⟨_, rfl, _, _, Tp.dp _ _ t, .str _, sk, sw, _, rfl, ?_⟩
    cases b with
    | text => exact hn.elim
    | rc z => exact hn.elim
    | whole =>
      cases (show n = .whole from hn)
      refine ite2 (fun _ => ?_) (fun h => absurd (by decide +kernel) h)
      exact q H (Same.refl H)
    | truth =>
      cases (show n = .truth from hn)
      refine ite2 (fun h => absurd h (by decide +kernel)) (fun _ => ?_)
      refine ⟨_, rfl, _, _, Tp.dp _ _ t, .str _, sk, st, _, rfl, ?_⟩
      refine ite2 (fun _ => ?_) (fun h => absurd (by decide +kernel) h)
      exact ⟨_, rfl, _, _, rfl, rfl, q H (Same.refl H)⟩
    | ch z =>
      obtain ⟨os, hl, ok, rfl⟩ := hn
      refine ite2 (fun h => absurd h (by rw [show PyData.eqv (Kb.ch z).d (.str "whole") = false from rfl]; decide)) (fun _ => ?_)
      refine ⟨_, rfl, _, _, Tp.dp _ _ t, .str _, sk, st, _, rfl, ?_⟩
      refine ite2 (fun h => absurd h (by rw [show PyData.eqv (Kb.ch z).d (.str "truth") = false from rfl]; decide)) (fun _ => ?_)
      obtain ⟨c, y1, y2, rfl, hc, ty1, ty2⟩ := Tp.pair t
      cases ty2.istr
      obtain ⟨dx, v1, v2, v3, v4, v5, hA, t3, t4⟩ := id hF
      refine ⟨_, rfl, _, rfl, a, dx, _, rfl, hA, ff_options, _, rfl, c, _, _, _, rfl, rfl, SqT.of hc, rfl, a, z, _, rs, _, rfl, hF, csD_look hl, fun ov tv => ?_⟩
      obtain ⟨e, xs, rfl, he, tq⟩ := Tp.inv tv
      refine ⟨e, rfl, ⟨_, SqT.of he⟩, fun D hD => ?_⟩
      refine lc_tup (xs := xs) (fun i H3 => Same H H3 ∧ H3 D = some (.lst ((os.take i).map fun o => V.int o.1))) ?_ ?_ ?_ ?_
      · exact ⟨Same.new hD, upd_same⟩
      · rintro i H3 _ ⟨S3, _⟩
        exact SqT.of (S3 _ _ he)
      · rintro i x H3 hx ⟨S3, h3⟩
        obtain ⟨o, t, ho, rfl, ht⟩ := opts_at tq hx
        refine ⟨t, _, rfl, SqT.of (S3 _ _ ht), rfl, _, _, rfl, _, _, rfl, rfl, rfl, yes (iteT ?_)⟩
        refine ⟨_, rfl, _, h3, ?_, Same.wr S3 hD, ?_⟩
        · rw [List.length_map, List.length_take]
          exact Nat.lt_of_le_of_lt (Nat.min_le_right _ _) (Nat.lt_of_le_of_lt ok.len (by decide))
        · rw [upd_same, List.take_add_one, ho]
          simp
      · rintro H3 ⟨S3, h3⟩
        have el : xs.length = os.length := by rw [tq.length, List.length_map]
        rw [el, List.take_length] at h3
        refine ⟨D, _, rfl, .inl (SqL.of h3), rfl, by simp [flatV], ?_⟩
        have e2 : (os.map fun o => V.int o.1) = (os.map (·.1)).map V.int := by rw [List.map_map]; rfl
        rw [e2, in_ints]
        exact q H3 S3
end
end Fh
set_option Elab.async false
set_option linter.all false
set_option maxRecDepth 100000
set_option maxHeartbeats 4000000
namespace Fh
open PySem L2 PyProof.Rows
abbrev sUPart : Stmt := top 27
/-- kinds that read one another, records counting as so -/
def nkB (chs : Chs) : Kb → Nk
  | .truth => .truth
  | .ch z => .ch ((chs.lookup z).getD [])
  | _ => .whole
theorem nkOf_ok {chs : Chs} {b : Kb} (h : okT chs b) (hn : numB b = true) : NkOf chs b (nkB chs b) := by
  cases b with
  | whole => rfl
  | truth => rfl
  | text => cases hn
  | rc z => cases hn
  | ch z =>
    obtain ⟨⟨os, h1, h2⟩, _⟩ := h
    refine ⟨os, h1, h2, ?_⟩
    show Nk.ch ((chs.lookup z).getD []) = _
    rw [h1]
    rfl
def readB (c1 c2 : Chs) (b1 b2 : Kb) : Bool :=
  if b1.mark = b2.mark then (if numB b1 = true then (nkB c2 b2).tell.all (nkB c1 b1).can else true) else false
def readK (c1 c2 : Chs) : Kn → Kn → Bool
  | .one b1, .one b2 => readB c1 c2 b1 b2
  | .lst b1, .lst b2 => readB c1 c2 b1 b2
  | _, _ => false
def Kn.base : Kn → Kb
  | .one b => b
  | .lst b => b
def spUPart (C : Addr) (ok : Kn → Prop) : Sp := fun vs H Q _ => ∃ (a1 a2 : Addr) (v1 v2 : V) (k1 k2 : Kn) (c1 c2 : Chs) (r1 r2 : List (Str × PyData)) (fi fo : Fl), vs = [.ref a1, v1, .ref a2, v2] ∧ FaceR C H a1 (csD c1) r1 ∧ FaceR C H a2 (csD c2) r2 ∧ Tp H v1 k1.d ∧ Tp H v2 k2.d ∧ okT c1 k1.base ∧ okT c2 k2.base ∧ Gd (csD c2) r2 fi fo ∧ ok k1 ∧
  ∀ (x : V) (H' : Hp), Same H H' → (x = .non ↔ readK c1 c2 k1 k2 = true) → Q x H'
theorem mark_num {b1 b2 : Kb} (h : b1.mark = b2.mark) (hn : numB b1 = true) : numB b2 = true := by
  cases b1 <;> cases b2 <;> first | rfl | (cases hn; done) | (simp [Kb.mark] at h; done)
section
variable {P : Program} {w : World} {K : PySem.W.Frag} {mg : Str → Option Value} {base : Heap}
abbrev nUNum : List Str := ["reader", "kind", "writer", "their_kind", "value"]
theorem scUNum : FnScope nUNum ["reader", "kind", "writer", "their_kind"] (defScope sUNum) := ⟨rfl, rfl, rfl, by decide +kernel, rfl, by decide +kernel, by decide +kernel⟩
theorem tell_at {chs : Chs} {b : Kb} {n : Nk} (hn : NkOf chs b n) {i : Nat} {x : V} (hx : n.tellV[i]? = some x) : x ≠ .non ∧ ∃ m, n.tell[i]? = some m ∧
    ((Kn.one b = .one .whole ∧ x = .int m) ∨ (Kn.one b = .one .truth ∧ ∃ c : Bool, x = .bl c ∧ m = if c = true then 1 else 0) ∨ ∃ z os u, Kn.one b = .one (.ch z) ∧ (csD chs).lookup z = some (optsD os) ∧ OptsOk os ∧ (m, u) ∈ os ∧ x = .str u) := by
  cases b with
  | text => exact hn.elim
  | rc z => exact hn.elim
  | whole =>
    cases (show n = .whole from hn)
    match i, hx with
    | 0, rfl => exact ⟨(fun e => by cases e), _, rfl, .inl ⟨rfl, rfl⟩⟩
  | truth =>
    cases (show n = .truth from hn)
    match i, hx with
    | 0, rfl => exact ⟨(fun e => by cases e), _, rfl, .inr (.inl ⟨rfl, false, rfl, rfl⟩)⟩
    | 1, rfl => exact ⟨(fun e => by cases e), _, rfl, .inr (.inl ⟨rfl, true, rfl, rfl⟩)⟩
  | ch z =>
    obtain ⟨os, hl, ok, rfl⟩ := hn
    have hx2 : (os.map fun o => V.str o.2)[i]? = some x := hx
    rw [List.getElem?_map] at hx2
    cases ho : os[i]? with
    | none => rw [ho] at hx2; cases hx2
    | some o =>
      rw [ho] at hx2
      cases hx2
      refine ⟨(fun e => by cases e), o.1, ?_, .inr (.inr ⟨z, os, o.2, rfl, csD_look hl, ok, List.mem_of_getElem? ho, rfl⟩)⟩
      show (os.map (·.1))[i]? = _
      rw [List.getElem?_map, ho]
      rfl
theorem tell_len {n : Nk} : n.tellV.length = n.tell.length := by
  cases n with
  | whole => rfl
  | truth => rfl
  | ch os => simp [Nk.tellV, Nk.tell]
theorem ok_unum {C f : Addr} {fd : FuncData} (F : Fun K "unread_numbered" "unread_numbered" sUNum f fd) (DT : Has P w K mg base "telling_values" 2 ["face", "kind"] (spTell C)) (DC : Has P w K mg base "can_be" 2 ["face", "kind", "number"] (spCan C)) (DU : Has P w K mg base "number_of" 2 ["face", "kind", "value"] (spNum C)) : FnOk P w K mg base CX0 3 f fd ["reader", "kind", "writer", "their_kind"] (spUNum C) := by
  refine F.ok scUNum (fun vs H Q E h => ?_) (fun cdv A outer s H vs Q E hr h => ?_)
  · obtain ⟨a1, a2, v1, v2, b1, b2, n1, n2, c1, c2, r1, r2, rfl, _⟩ := h
    rfl
  · obtain ⟨a1, a2, v1, v2, b1, b2, n1, n2, c1, c2, r1, r2, rfl, hF1, hF2, t1, t2, o1, o2, hn1, hn2, q⟩ := h
    refine ⟨_, pss_cons (ps_for PassesOwn.never rfl (pi_list (pe_has DT hr rfl (pa_cons (pv 2) (pa_cons (pv 3) pa_nil)))) (pg_name (i := 4) scUNum.nd rfl (Or.inl rfl))
        (pss_one (ps_if (pt_not (pt_val (pe_has DC hr rfl (pa_cons (pv 0) (pa_cons (pv 1) (pa_cons (pe_mid (pe_has DU hr rfl (pa_cons (pv 2) (pa_cons (pv 3) (pa_cons (pv 4) pa_nil))))) pa_nil)))))) (pss_one (ps_ret (pv 4))) pss_nil)))
      (pss_one (ps_ret pe_non)), ?_⟩
    refine ⟨_, rfl, _, rfl, a2, v2, b2, n2, c2, r2, rfl, hF2, t2, o2, hn2, fun p H1 S1 hp hp1 => ?_⟩
    refine ⟨p, rfl, ⟨_, SqL.of hp1⟩, ?_⟩
    refine for_list (xs := n2.tellV) (fun i σ H3 => (∃ a4, σ = [some (.ref a1), some v1, some (.ref a2), some v2, a4]) ∧ Same H H3 ∧ Same H1 H3 ∧ ∀ j m, j < i → n2.tell[j]? = some m → n1.can m = true) ?_ ?_ ?_ ?_
    · exact ⟨⟨_, rfl⟩, S1, Same.refl _, fun j m hj => absurd hj (Nat.not_lt_zero _)⟩
    · rintro i σ H3 _ ⟨_, _, S3, _⟩
      exact SqL.of (S3 _ _ hp1)
    · rintro i x σ H3 hx ⟨⟨a4, rfl⟩, S3, S13, hall⟩
      obtain ⟨xn, m, em, hcase⟩ := tell_at hn2 hx
      refine ⟨_, rfl, _, rfl, fun v H4 => v = .int m ∧ Same H3 H4, ⟨_, rfl, _, rfl, _, rfl, a2, v2, x, .one b2, csD c2, r2, rfl, hF2.same S3, Tp.keep (Same.tk S3) _ _ t2, ?_⟩, ?_⟩
      · rcases hcase with ⟨e, rfl⟩ | ⟨e, c, rfl, rfl⟩ | ⟨z, os, u, e, h1, h2, h3, rfl⟩
        · exact .inl ⟨e, m, rfl, rfl, Same.refl _⟩
        · exact .inr (.inl ⟨e, c, rfl, rfl, Same.refl _⟩)
        · exact .inr (.inr ⟨z, os, m, u, e, h1, h2, h3, rfl, fun H4 S4 => ⟨rfl, S4⟩⟩)
      · rintro v H4 ⟨rfl, S4⟩
        have S5 : Same H H4 := fun b o e => S4 b o (S3 b o e)
        refine ⟨a1, v1, m, b1, n1, c1, r1, rfl, hF1.same S5, Tp.keep (Same.tk S5) _ _ t1, o1, hn1, fun H' S' => ⟨_, rfl, ?_⟩⟩
        have S6 : Same H H' := fun b o e => S' b o (S5 b o e)
        have S7 : Same H1 H' := fun b o e => S' b o (S4 b o (S13 b o e))
        cases hc : n1.can m with
        | true =>
          refine iteF ⟨⟨_, rfl⟩, S6, S7, fun j m' hj hm' => ?_⟩
          by_cases ej : j = i
          · rw [ej, em] at hm'
            cases hm'
            exact hc
          · exact hall j m' (by omega) hm'
        | false =>
          refine iteT ⟨_, rfl, q x H' S6 ⟨fun e => absurd e xn, fun h => ?_⟩⟩
          rw [List.all_eq_true] at h
          have := h m (List.mem_of_getElem? em)
          rw [hc] at this
          cases this
    · rintro σ H3 ⟨_, S3, _, hall⟩
      refine q .non H3 S3 ⟨fun _ => ?_, fun _ => rfl⟩
      rw [List.all_eq_true]
      intro m hm
      obtain ⟨j, hj, e⟩ := List.getElem_of_mem hm
      exact hall j m (by rw [tell_len]; exact hj) (by rw [List.getElem?_eq_getElem hj, e])
abbrev nUPart : List Str := ["reader", "kind", "writer", "their_kind", "word", "part"]
theorem scUPart : FnScope nUPart ["reader", "kind", "writer", "their_kind"] (defScope sUPart) := ⟨rfl, rfl, rfl, by decide +kernel, rfl, by decide +kernel, by decide +kernel⟩
theorem ok_upart {C f : Addr} {fd : FuncData} {n : Nat} {ok ok' : Kn → Prop} (F : Fun K "unread_part" "unread_part" sUPart f fd) (DM : Has P w K mg base "mark_of" 2 ["kind"] spMark) (DW : Has P w K mg base "word_of" 1 ["kind"] spWord) (DL : Has P w K mg base "least_of" 3 ["face", "kind"] (spLeastOf C 1)) (DN : Has P w K mg base "unread_numbered" 3 ["reader", "kind", "writer", "their_kind"] (spUNum C))
    (DU : Has P w K mg base "unread_part" n ["reader", "kind", "writer", "their_kind"] (spUPart C ok')) (h3 : 3 ≤ n) (hok : ∀ b, ok (.lst b) → ok' (.one b)) : FnOk P w K mg base CX0 (n + 1) f fd ["reader", "kind", "writer", "their_kind"] (spUPart C ok) := by
  refine F.ok scUPart (fun vs H Q E h => ?_) (fun cdv A outer s H vs Q E hr h => ?_)
  · obtain ⟨a1, a2, v1, v2, k1, k2, c1, c2, r1, r2, fi, fo, rfl, _⟩ := h
    rfl
  · obtain ⟨a1, a2, v1, v2, k1, k2, c1, c2, r1, r2, fi, fo, rfl, hF1, hF2, t1, t2, o1, o2, g, hk, q⟩ := h
    have hr3 : Room 3 _ := hr.mono h3
    have hr2 : Room 2 _ := hr3.mono (by decide)
    have hr1 : Room 1 _ := hr3.mono (by decide)
    refine ⟨_, pss_cons (ps_if (pt_cmpR op_ne (pe_has DM hr2 rfl (pa_cons (pv 1) pa_nil)) (pe_has DM hr2 rfl (pa_cons (pv 3) pa_nil)) (nomark _)) (pss_one (ps_ret (pe_has DL hr3 rfl (pa_cons (pv 2) (pa_cons (pv 3) pa_nil))))) pss_nil)
      (pss_cons (ps_set (i := 4) scUPart.nd rfl (Or.inl rfl) (pe_has DW hr1 rfl (pa_cons (pv 1) pa_nil)))
      (pss_cons (ps_if (pt_cmpR op_eq (pv 4) pe_str (nomark _)) (pss_cons (ps_set (i := 5) scUPart.nd rfl (Or.inl rfl) (pe_has DU hr rfl (pa_cons (pv 0) (pa_cons (pe_ix ix_tup (pv 1) pe_int (fun _ _ => rfl)) (pa_cons (pv 2) (pa_cons (pe_ix ix_tup (pv 3) pe_int (fun _ _ => rfl)) pa_nil))))))
        (pss_one (ps_ret (pe_ifExp (pt_cmpR op_isN (pv 5) pe_non (nomark _)) pe_non (pe_tup (pa_cons (pv 5) pa_nil)))))) pss_nil)
      (pss_cons (ps_if (pt_cmpR op_in_seq (pv 4) (pe_tup (pa_cons pe_str (pa_cons pe_str pa_nil))) rfl) (pss_one (ps_ret pe_non)) pss_nil)
      (pss_one (ps_ret (pe_has DN hr3 rfl (pa_cons (pv 0) (pa_cons (pv 1) (pa_cons (pv 2) (pa_cons (pv 3) pa_nil)))))))))), ?_⟩
    refine ⟨_, rfl, v1, k1, rfl, t1, _, rfl, v2, k2, rfl, t2, rfl, _, rfl, ?_⟩
    have okK2 : okK (csD c2) k2 := by cases k2 <;> exact okT_B o2
    by_cases em : k1.mark = k2.mark
    · refine ite2 (fun h => ?_) (fun _ => ?_)
      · rw [em] at h
        simp at h
      refine ⟨_, rfl, v1, k1, rfl, t1, ?_⟩
      refine ⟨_, rfl, rfl, _, rfl, ?_⟩
      cases k1 with
      | lst b1 =>
        cases k2 with
        | one b2 =>
          exfalso
          cases b2 <;> simp [Kn.mark, Kb.mark] at em
        | lst b2 =>
          refine ite2 (fun _ => ?_) (fun h => absurd (decide_eq_true rfl) h)
          obtain ⟨p1, x1, y1, rfl, hp1, _, ty1⟩ := Tp.pair t1
          obtain ⟨p2, x2, y2, rfl, hp2, _, ty2⟩ := Tp.pair t2
          refine ⟨_, rfl, _, rfl, p1, _, _, _, rfl, rfl, SqT.of hp1, rfl, _, rfl, _, rfl, p2, _, _, _, rfl, rfl, SqT.of hp2, rfl, ?_⟩
          refine ⟨a1, a2, y1, y2, .one b1, .one b2, c1, c2, r1, r2, fi, fo, rfl, hF1, hF2, ty1, ty2, o1, o2, g, hok b1 hk, fun x H1 S1 hx => ?_⟩
          refine ⟨_, rfl, rfl, _, rfl, ?_⟩
          refine ite2 (fun h => ?_) (fun h => ?_)
          · have e : x = .non := of_decide_eq_true h
            exact q .non H1 S1 ⟨fun _ => hx.mp e, fun _ => rfl⟩
          · have e : x ≠ .non := fun e => h (decide_eq_true e)
            refine ⟨_, rfl, (by show 1 ≤ sizeLine; decide), fun p hp => ?_⟩
            exact q _ _ (fun b o e => Same.new hp b o (S1 b o e)) ⟨fun e2 => (by cases e2), fun e2 => absurd (hx.mpr e2) e⟩
      | one b1 =>
        cases k2 with
        | lst b2 =>
          exfalso
          cases b1 <;> simp [Kn.mark, Kb.mark] at em
        | one b2 =>
          have em2 : b1.mark = b2.mark := em
          have hl : ¬ V.str (Kn.one b1).word = V.str "list" := by
            cases b1
            · exact sne (by decide +kernel : ("whole" : Str) ≠ "list")
            · exact sne (by decide +kernel : ("truth" : Str) ≠ "list")
            · exact sne (by decide +kernel : ("text" : Str) ≠ "list")
            · exact sne (by decide +kernel : ("record" : Str) ≠ "list")
            · exact sne (by decide +kernel : ("choice" : Str) ≠ "list")
          refine ite2 (fun h => absurd (of_decide_eq_true h) hl) (fun _ => ?_)
          refine ⟨_, rfl, (by show 2 ≤ sizeLine; decide), fun p hp => ?_⟩
          have S1 : Same H (upd H p (.tup [.str "text", .str "record"])) := Same.new hp
          refine ⟨p, _, rfl, .inr (SqT.of upd_same), rfl, rfl, _, rfl, ?_⟩
          have hin : inV (.str (Kn.one b1).word) [.str "text", .str "record"] = !numB b1 := by
            cases b1
            · exact (by decide +kernel : inV (.str "whole") [.str "text", .str "record"] = false)
            · exact (by decide +kernel : inV (.str "truth") [.str "text", .str "record"] = false)
            · exact (by decide +kernel : inV (.str "text") [.str "text", .str "record"] = true)
            · exact (by decide +kernel : inV (.str "record") [.str "text", .str "record"] = true)
            · exact (by decide +kernel : inV (.str "choice") [.str "text", .str "record"] = false)
          show if (inV (.str (Kn.one b1).word) [.str "text", .str "record"]) = true then _ else _
          rw [hin]
          have er : readK c1 c2 (.one b1) (.one b2) = if numB b1 = true then (nkB c2 b2).tell.all (nkB c1 b1).can else true := by
            show readB c1 c2 b1 b2 = _
            unfold readB
            rw [if_pos em2]
          cases hn : numB b1 with
          | false =>
            refine iteT (q .non _ S1 ⟨fun _ => ?_, fun _ => rfl⟩)
            rw [er, hn]
            rfl
          | true =>
            refine iteF ?_
            refine ⟨_, rfl, _, rfl, _, rfl, _, rfl, a1, a2, v1, v2, b1, b2, _, _, c1, c2, r1, r2, rfl, hF1.same S1, hF2.same S1, Tp.keep (Same.tk S1) _ _ t1, Tp.keep (Same.tk S1) _ _ t2, o1, o2, nkOf_ok o1 hn, nkOf_ok o2 (mark_num em2 hn), fun x H' S' hx => ?_⟩
            refine q x H' (fun b o e => S' b o (S1 b o e)) ?_
            rw [hx, er, hn, if_pos rfl]
    · refine ite2 (fun _ => ?_) (fun h => ?_)
      · refine ⟨_, rfl, _, rfl, a2, v2, k2, _, r2, rfl, hF2, t2, g.wfk okK2, fun x H' S' hx _ _ => ?_⟩
        refine q x H' S' ⟨fun e => absurd e hx, fun e => ?_⟩
        exfalso
        cases k1 with
        | one b1 => cases k2 with
          | one b2 =>
            have e2 : readB c1 c2 b1 b2 = true := e
            unfold readB at e2
            rw [if_neg (show ¬ b1.mark = b2.mark from em)] at e2
            cases e2
          | lst b2 => cases e
        | lst b1 => cases k2 with
          | one b2 => cases e
          | lst b2 => exact em rfl
      · refine absurd ?_ h
        simp [em]
end
end Fh
set_option Elab.async false
set_option linter.all false
set_option maxRecDepth 100000
set_option maxHeartbeats 4000000
namespace Fh
open PySem L2 PyProof.Rows
abbrev sHere : Stmt := top 25
abbrev sBelow : Stmt := top 31
def hereB (c1 c2 : Chs) (f1 f2 : Fl) : Bool :=
  if f1.num = f2.num then (if f1.must = true ∧ f2.must = false then false else readK c1 c2 f1.kd f2.kd) else !f1.must
def isRc : Kb → Bool
  | .rc _ => true
  | _ => false
def belowB (f1 f2 : Fl) : Bool := decide (f1.num = f2.num) && isRc f1.kd.base
/-- a face of two records -/
structure Sd (C : Addr) (H : Hp) (a : Addr) (chs : Chs) (rs : List (Str × PyData)) (fi fo : Fl) : Prop where
  F : FaceR C H a (csD chs) rs
  g : Gd (csD chs) rs fi fo
  ok : okT chs fo.kd.base
theorem Sd.same {C : Addr} {H H' : Hp} {a : Addr} {chs : Chs} {rs : List (Str × PyData)} {fi fo : Fl} (s : Sd C H a chs rs fi fo) (h : Same H H') : Sd C H' a chs rs fi fo := ⟨s.F.same h, s.g, s.ok⟩
/-- the field of one of the two -/
structure Pk (z : Str) (fi fo f : Fl) : Prop where
  ex : (z = "inner" ∧ f = fi) ∨ (z = "outer" ∧ f = fo)
theorem Sd.look {C : Addr} {H : Hp} {a : Addr} {chs : Chs} {rs : List (Str × PyData)} {fi fo f : Fl} {z : Str} (s : Sd C H a chs rs fi fo) (p : Pk z fi fo f) : rs.lookup z = some (fieldsD [f]) := by
  rw [s.g.rs]
  rcases p.ex with ⟨rfl, rfl⟩ | ⟨rfl, rfl⟩
  · rfl
  · rfl
theorem Sd.okf {C : Addr} {H : Hp} {a : Addr} {chs : Chs} {rs : List (Str × PyData)} {fi fo f : Fl} {z : Str} (s : Sd C H a chs rs fi fo) (p : Pk z fi fo f) : okT chs f.kd.base := by
  rcases p.ex with ⟨rfl, rfl⟩ | ⟨rfl, rfl⟩
  · rcases s.g.ik with h | h | h <;> rw [h] <;> trivial
  · exact s.ok
def spHere (C : Addr) : Sp := fun vs H Q _ => ∃ (a1 a2 : Addr) (z : Str) (c1 c2 : Chs) (r1 r2 : List (Str × PyData)) (fi1 fo1 fi2 fo2 f1 f2 : Fl), vs = [.ref a1, .str z, .ref a2, .str z] ∧ Sd C H a1 c1 r1 fi1 fo1 ∧ Sd C H a2 c2 r2 fi2 fo2 ∧ Pk z fi1 fo1 f1 ∧ Pk z fi2 fo2 f2 ∧
  ∀ (x : V) (H' : Hp), Same H H' → ((x = .non ∧ hereB c1 c2 f1 f2 = true) ∨ (x ≠ .non ∧ hereB c1 c2 f1 f2 = false)) → Q x H'
def spBelow (C : Addr) : Sp := fun vs H Q _ => ∃ (a1 a2 : Addr) (z : Str) (c1 c2 : Chs) (r1 r2 : List (Str × PyData)) (fi1 fo1 fi2 fo2 f1 f2 : Fl), vs = [.ref a1, .str z, .ref a2, .str z] ∧ Sd C H a1 c1 r1 fi1 fo1 ∧ Sd C H a2 c2 r2 fi2 fo2 ∧ Pk z fi1 fo1 f1 ∧ Pk z fi2 fo2 f2 ∧ hereB c1 c2 f1 f2 = true ∧
  ∀ (p : Addr) (H' : Hp), Same H H' → H p = none → ((belowB f1 f2 = false ∧ H' p = some (.lst [])) ∨ (belowB f1 f2 = true ∧ ∃ t t2 il, H' p = some (.lst [.ref t]) ∧ H' t = some (.tup [.ref t2, .str f2.nam, .bl il]) ∧ H' t2 = some (.tup [.str "inner", .str "inner"]))) → Q (.ref p) H'
theorem val_one {i j : Int} {v : V} : valV [((.inl i : Key), v)] (.inl j) = if i = j then some v else none := by
  by_cases h : i = j
  · subst h
    rw [valV_pos rfl, if_pos rfl]
  · rw [valV_neg (fun e => h (Sum.inl.inj e)), valV_nil, if_neg h]
section
variable {P : Program} {w : World} {K : PySem.W.Frag} {mg : Str → Option Value} {base : Heap}
abbrev nHere : List Str := ["reader", "one", "writer", "other", "theirs", "number", "name", "kind", "need", "field", "their_kind", "their_need", "part", "value"]
theorem scHere : FnScope nHere ["reader", "one", "writer", "other"] (defScope sHere) := ⟨rfl, rfl, rfl, by decide +kernel, rfl, by decide +kernel, by decide +kernel⟩
theorem ok_here {C f : Addr} {fd : FuncData} (F : Fun K "unread_here" "unread_here" sHere f fd) (DF : HasM P w K mg base C "fields_of" 1 ["self", "record"] (spFields C)) (DB : Has P w K mg base "fields_by_number" 2 ["face", "record"] (spByNum C)) (DL : Has P w K mg base "least" 6 ["face", "record"] (spLeast C))
    (DU : Has P w K mg base "unread_part" 5 ["reader", "kind", "writer", "their_kind"] (spUPart C fun _ => True)) : FnOk P w K mg base CX0 7 f fd ["reader", "one", "writer", "other"] (spHere C) := by
  refine F.ok scHere (fun vs H Q E h => ?_) (fun cdv A outer s H vs Q E hr h => ?_)
  · obtain ⟨a1, a2, z, c1, c2, r1, r2, fi1, fo1, fi2, fo2, f1, f2, rfl, _⟩ := h
    rfl
  · obtain ⟨a1, a2, z, c1, c2, r1, r2, fi1, fo1, fi2, fo2, f1, f2, rfl, s1, s2, p1, p2, q⟩ := h
    have hr1 : Room 1 _ := hr.mono (by decide)
    have hr2 : Room 2 _ := hr.mono (by decide)
    have hr5 : Room 5 _ := hr.mono (by decide)
    have hu := hu_of hr
    refine ⟨_, pss_cons (ps_set (i := 4) scHere.nd rfl (Or.inl rfl) (pe_has DB hr2 rfl (pa_cons (pv 2) (pa_cons (pv 3) pa_nil))))
      (pss_cons (ps_for PassesOwn.never rfl (pi_tup (pe_hasM DF hr1 (pv 0) (pa_cons (pv 1) pa_nil))) (pg_tup rfl (pgs_cons (pg_name (i := 5) scHere.nd rfl (.inl rfl)) (pgs_cons (pg_name (i := 6) scHere.nd rfl (.inl rfl)) (pgs_cons (pg_name (i := 7) scHere.nd rfl (.inl rfl)) (pgs_cons (pg_name (i := 8) scHere.nd rfl (.inl rfl)) pgs_nil)))))
        (C8.pss_cut (ps_if (PW.pt (pw_and (pt_cmpR op_eq (pv 8) pe_str (nomark _)) (pw_and1 (PW.pt (pw_or (pt_cmp (pc_dnotin hu (pv 5) (pv 4))) (pw_or1 (pt_cmpR op_eq (pe_ix ix_tup (pe_dget hu (pv 4) (pv 5) (fun _ _ => rfl)) pe_int (fun _ _ => rfl)) pe_str (nomark _)))))))) (pss_one (ps_ret (pe_has DL hr rfl (pa_cons (pv 2) (pa_cons (pv 3) pa_nil))))) pss_nil)
        (pss_one (ps_if (pt_cmp (pc_din hu (pv 5) (pv 4)))
          (pss_cons (ps_asg (pe_dget hu (pv 4) (pv 5) (fun _ _ => rfl)) (pg_tup rfl (pgs_cons (pg_name (i := 9) scHere.nd rfl (.inl rfl)) (pgs_cons (pg_name (i := 10) scHere.nd rfl (.inl rfl)) (pgs_cons (pg_name (i := 11) scHere.nd rfl (.inl rfl)) pgs_nil)))))
          (pss_cons (ps_set (i := 12) scHere.nd rfl (Or.inl rfl) (pe_has DU hr5 rfl (pa_cons (pv 0) (pa_cons (pv 7) (pa_cons (pv 2) (pa_cons (pv 10) pa_nil))))))
          (pss_one (ps_if (pt_cmpR op_notN (pv 12) pe_non (nomark _))
            (pss_cons (ps_set (i := 13) scHere.nd rfl (Or.inl rfl) (pe_has DL hr rfl (pa_cons (pv 2) (pa_cons (pv 3) pa_nil))))
            (pss_cons (ps_dput hu (pv 13) (pv 9) (pv 12) rfl)
            (pss_one (ps_ret (pv 13))))) pss_nil)))) pss_nil))))
      (pss_one (ps_ret pe_non))), ?_⟩
    have hz : z = "inner" ∨ z = "outer" := p2.ex.imp And.left And.left
    refine ⟨_, rfl, _, rfl, a2, z, _, r2, f2, rfl, s2.F, s2.look p2, fun d t u H1 S1 hd hd1 ht1 tu1 => ?_⟩
    obtain ⟨dx, v1, v2, v3, v4, v5, hA, t3, t4⟩ := (s1.F.same S1)
    refine ⟨_, rfl, a1, dx, _, rfl, hA, ff_fields, _, rfl, a1, z, _, r1, _, rfl, s1.F.same S1, s1.look p1, fun ov tv => ?_⟩
    obtain ⟨c, xs, rfl, hc, tq⟩ := Tp.inv tv
    have el : xs.length = 1 := by rw [tq.length]; rfl
    refine ⟨c, rfl, ⟨_, SqT.of hc⟩, ?_⟩
    refine for_tup (xs := xs) (fun i σ H3 => (∃ b5 b6 b7 b8 b9 b10 b11 b12 b13, σ = [some (.ref a1), some (.str z), some (.ref a2), some (.str z), some (.ref d), b5, b6, b7, b8, b9, b10, b11, b12, b13]) ∧ Same H1 H3 ∧ (1 ≤ i → hereB c1 c2 f1 f2 = true)) ?_ ?_ ?_ ?_
    · exact ⟨⟨_, _, _, _, _, _, _, _, _, rfl⟩, Same.refl _, fun h => absurd h (by decide)⟩
    · rintro i σ H3 _ ⟨_, S3, _⟩
      exact SqT.of (S3 _ _ hc)
    · rintro i x σ H3 hx ⟨⟨b5, b6, b7, b8, b9, b10, b11, b12, b13, rfl⟩, S3, _⟩
      obtain ⟨f1', t2, u2, hf, rfl, ht2, tu2⟩ := flds_at (fs := [f1]) tq hx
      have hi : i = 0 := by
        rw [List.getElem?_eq_some_iff] at hx
        have := hx.1
        omega
      subst hi
      cases hf
      have S03 : Same H H3 := fun b o e => S3 b o (S1 b o e)
      have hd3 := S3 _ _ hd1
      have ht3 := S3 _ _ ht1
      have lst : ∀ (H4 : Hp), Same H H4 → ∀ (Q' : V → Hp → Prop), (∀ (p : Addr) (kvs : List (Key × V)) (H' : Hp), Same H H' → Same H4 H' → H p = none → H' p = some (.dK kvs) → kvs.length ≤ 5 → Q' (.ref p) H') → spLeast C [.ref a2, .str z] H4 Q' E0 := fun H4 S4 Q' k =>
        ⟨a2, z, _, r2, fi2, fo2, rfl, s2.F.same S4, s2.g, hz, fun p kvs H' S' hp hp' hl => k p kvs H' (fun b o e => S' b o (S4 b o e)) S' (Same.free S4 hp) hp' hl⟩
      refine ⟨t2, _, rfl, SqT.of (S3 _ _ ht2), rfl, _, _, rfl, _, _, rfl, _, _, rfl, _, _, rfl, rfl, ?_⟩
      refine ⟨fun σ H4 => σ = [some (.ref a1), some (.str z), some (.ref a2), some (.str z), some (.ref d), some (.int f1.num), some (.str f1.nam), some u2, some (.str (needS f1.must)), b9, b10, b11, b12, b13] ∧ H4 = H3 ∧ (f1.num = f2.num → f1.must = true → f2.must = true) ∧ (f1.num ≠ f2.num → f1.must = false), ?_, ?_⟩
      · refine ⟨_, rfl, rfl, _, rfl, ?_⟩
        rw [need_must]
        cases hm : f1.must with
        | false => exact iteF (iteF ⟨rfl, rfl, (fun _ h => by cases h), fun _ => rfl⟩)
        | true =>
          refine iteT ?_
          refine ⟨_, rfl, _, rfl, d, _, rfl, DGet.k (k := Sum.inl f1.num) hd3, _, rfl, ?_⟩
          rw [val_one]
          by_cases e : f1.num = f2.num
          · rw [if_pos e.symm]
            refine iteF ?_
            refine ⟨_, rfl, _, rfl, d, _, rfl, (by have h := DGet.k (k := Sum.inl f1.num) hd3; rw [val_one, if_pos e.symm] at h; exact h), t, _, _, _, rfl, rfl, SqT.of ht3, rfl, rfl, _, rfl, ?_⟩
            rw [need_may]
            cases hm2 : f2.must with
            | true => exact iteF ⟨rfl, rfl, (fun _ _ => rfl), fun h => absurd e h⟩
            | false =>
              refine iteT ?_
              refine ⟨_, rfl, _, rfl, lst H3 S03 _ fun p kvs H' S' _ hp hp' hl => ?_⟩
              refine q _ H' S' (.inr ⟨fun e => (by cases e), ?_⟩)
              unfold hereB
              rw [if_pos e, if_pos ⟨hm, hm2⟩]
          · rw [if_neg (show ¬ f2.num = f1.num from fun h => e h.symm)]
            refine iteT ?_
            refine iteT ?_
            refine ⟨_, rfl, _, rfl, lst H3 S03 _ fun p kvs H' S' _ hp hp' hl => ?_⟩
            refine q _ H' S' (.inr ⟨fun e => (by cases e), ?_⟩)
            unfold hereB
            rw [if_neg e, hm]
            rfl
      · rintro σ H4 ⟨rfl, rfl, h1, h2⟩
        have rest : hereB c1 c2 f1 f2 = if f1.num = f2.num then readK c1 c2 f1.kd f2.kd else true := by
          unfold hereB
          by_cases e : f1.num = f2.num
          · rw [if_pos e, if_pos e, if_neg]
            rintro ⟨x, y⟩
            rw [h1 e x] at y
            cases y
          · rw [if_neg e, if_neg e, h2 e]
            rfl
        refine ⟨_, rfl, _, rfl, d, _, rfl, DGet.k (k := Sum.inl f1.num) hd3, _, rfl, ?_⟩
        rw [val_one]
        by_cases e : f1.num = f2.num
        · rw [if_pos e] at rest
          rw [if_pos e.symm]
          refine iteT ?_
          refine ⟨_, rfl, _, rfl, d, _, rfl, (by have h := DGet.k (k := Sum.inl f1.num) hd3; rw [val_one, if_pos e.symm] at h; exact h), t, _, rfl, SqT.of ht3, rfl, _, _, rfl, _, _, rfl, _, _, rfl, rfl, ?_⟩
          refine ⟨_, rfl, _, rfl, _, rfl, _, rfl, a1, a2, u2, u, f1.kd, f2.kd, c1, c2, r1, r2, fi2, fo2, rfl, s1.F.same S03, s2.F.same S03, Tp.keep (Same.tk S3) _ _ tu2, Tp.keep (Same.tk S3) _ _ tu1, s1.okf p1, s2.okf p2, s2.g, trivial, fun x H5 S5 hx => ?_⟩
          have S05 : Same H H5 := fun b o e => S5 b o (S03 b o e)
          refine ⟨_, rfl, rfl, _, rfl, ?_⟩
          by_cases ex : x = .non
          · rw [decide_eq_true ex]
            exact iteF ⟨⟨_, _, _, _, _, _, _, _, _, rfl⟩, (fun b o e => S5 b o (S3 b o e)), fun _ => by rw [rest]; exact hx.mp ex⟩
          · rw [decide_eq_false ex]
            refine iteT ?_
            refine ⟨_, rfl, _, rfl, a2, z, _, r2, fi2, fo2, rfl, s2.F.same S05, s2.g, hz, fun p kvs H' S'' hp'' hp' hl => ?_⟩
            have S' : Same H H' := fun b o e => S'' b o (S05 b o e)
            have hp : H p = none := Same.free S05 hp''
            refine ⟨_, rfl, _, rfl, _, rfl, p, _, rfl, DPut.k (k := Sum.inr f2.nam) hp' (Nat.lt_of_le_of_lt hl (by decide)), ?_⟩
            refine ⟨_, rfl, q _ _ (Same.wr S' hp) (.inr ⟨fun e => (by cases e), ?_⟩)⟩
            rw [rest]
            cases hh : readK c1 c2 f1.kd f2.kd with
            | false => rfl
            | true => exact absurd (hx.mpr hh) ex
        · rw [if_neg e] at rest
          rw [if_neg (show ¬ f2.num = f1.num from fun h => e h.symm)]
          exact iteF ⟨⟨_, _, _, _, _, _, _, _, _, rfl⟩, S3, fun _ => rest⟩
    · rintro σ H3 ⟨_, S3, h⟩
      exact q .non H3 (fun b o e => S3 b o (S1 b o e)) (.inl ⟨rfl, h (by omega)⟩)
end
end Fh
set_option Elab.async false
set_option linter.all false
set_option maxRecDepth 100000
set_option maxHeartbeats 4000000
namespace Fh
open PySem L2 PyProof.Rows
theorem mark_rc {z : Str} {b : Kb} (h : (Kb.rc z).mark = b.mark) : ∃ y, b = .rc y := by
  cases b with
  | rc y => exact ⟨y, rfl⟩
  | _ => simp [Kb.mark] at h
theorem readB_mark {c1 c2 : Chs} {b1 b2 : Kb} (h : readB c1 c2 b1 b2 = true) : b1.mark = b2.mark := by
  unfold readB at h
  by_cases e : b1.mark = b2.mark
  · exact e
  · rw [if_neg e] at h
    cases h
section
variable {P : Program} {w : World} {K : PySem.W.Frag} {mg : Str → Option Value} {base : Heap}
abbrev nBelow : List Str := ["reader", "one", "writer", "other", "theirs", "found", "number", "name", "kind", "need", "field", "their_kind", "their_need", "is_listed", "inner", "their_inner"]
theorem scBelow : FnScope nBelow ["reader", "one", "writer", "other"] (defScope sBelow) := ⟨rfl, rfl, rfl, by decide +kernel, rfl, by decide +kernel, by decide +kernel⟩
theorem ok_below {C f : Addr} {fd : FuncData} (F : Fun K "pairs_below" "pairs_below" sBelow f fd) (DW : Has P w K mg base "word_of" 1 ["kind"] spWord) (DF : HasM P w K mg base C "fields_of" 1 ["self", "record"] (spFields C)) (DB : Has P w K mg base "fields_by_number" 2 ["face", "record"] (spByNum C)) : FnOk P w K mg base CX0 3 f fd ["reader", "one", "writer", "other"] (spBelow C) := by
  refine F.ok scBelow (fun vs H Q E h => ?_) (fun cdv A outer s H vs Q E hr h => ?_)
  · obtain ⟨a1, a2, z, c1, c2, r1, r2, fi1, fo1, fi2, fo2, f1, f2, rfl, _⟩ := h
    rfl
  · obtain ⟨a1, a2, z, c1, c2, r1, r2, fi1, fo1, fi2, fo2, f1, f2, rfl, s1, s2, p1, p2, hB, q⟩ := h
    have hr1 : Room 1 _ := hr.mono (by decide)
    have hu := hu_of hr
    refine ⟨_, pss_cons (ps_set (i := 4) scBelow.nd rfl (Or.inl rfl) (pe_has DB hr rfl (pa_cons (pv 2) (pa_cons (pv 3) pa_nil))))
      (pss_cons (ps_set (i := 5) scBelow.nd rfl (Or.inl rfl) (pe_lst pa_nil))
      (pss_cons (ps_for PassesOwn.never rfl (pi_tup (pe_hasM DF hr1 (pv 0) (pa_cons (pv 1) pa_nil))) (pg_tup rfl (pgs_cons (pg_name (i := 6) scBelow.nd rfl (.inl rfl)) (pgs_cons (pg_name (i := 7) scBelow.nd rfl (.inl rfl)) (pgs_cons (pg_name (i := 8) scBelow.nd rfl (.inl rfl)) (pgs_cons (pg_name (i := 9) scBelow.nd rfl (.inl rfl)) pgs_nil)))))
        (pss_one (ps_if (pt_cmp (pc_din hu (pv 6) (pv 4)))
          (pss_cons (ps_asg (pe_dget hu (pv 4) (pv 6) (fun _ _ => rfl)) (pg_tup rfl (pgs_cons (pg_name (i := 10) scBelow.nd rfl (.inl rfl)) (pgs_cons (pg_name (i := 11) scBelow.nd rfl (.inl rfl)) (pgs_cons (pg_name (i := 12) scBelow.nd rfl (.inl rfl)) pgs_nil)))))
          (pss_cons (ps_set (i := 13) scBelow.nd rfl (Or.inl rfl) (pe_cmpR op_eq (pe_has DW hr1 rfl (pa_cons (pv 8) pa_nil)) pe_str (nomark _)))
          (C8.pss_cut (ps_asg (pe_ifExp (pt_val (pv 13)) (pe_tup (pa_cons (pe_ix ix_tup (pv 8) pe_int (fun _ _ => rfl)) (pa_cons (pe_ix ix_tup (pv 11) pe_int (fun _ _ => rfl)) pa_nil))) (pe_tup (pa_cons (pv 8) (pa_cons (pv 11) pa_nil)))) (pg_tup rfl (pgs_cons (pg_name (i := 14) scBelow.nd rfl (.inl rfl)) (pgs_cons (pg_name (i := 15) scBelow.nd rfl (.inl rfl)) pgs_nil))))
          (pss_one (ps_if (pt_cmpR op_eq (pe_has DW hr1 rfl (pa_cons (pv 14) pa_nil)) pe_str (nomark _))
            (pss_one (ps_expr (pe_bm PySem.F.plainAttrs_list PySem.F.slot_list_append PySem.F.type_list_append mt_append (pv 5) (pa_cons (pe_tup (pa_cons (pe_tup (pa_cons (pe_ix ix_tup (pv 14) pe_int (fun _ _ => rfl)) (pa_cons (pe_ix ix_tup (pv 15) pe_int (fun _ _ => rfl)) pa_nil))) (pa_cons (pv 10) (pa_cons (pv 13) pa_nil)))) pa_nil)))) pss_nil))))) pss_nil)))
      (pss_one (ps_ret (pv 5))))), ?_⟩
    refine ⟨_, rfl, _, rfl, a2, z, _, r2, f2, rfl, s2.F, s2.look p2, fun d t u H1 S1 hd hd1 ht1 tu1 => ?_⟩
    refine ⟨Nat.zero_le _, fun p hp1 => ?_⟩
    have S2 : Same H1 (upd H1 p (.lst [])) := Same.new hp1
    have S02 : Same H (upd H1 p (.lst [])) := fun b o e => S2 b o (S1 b o e)
    have hp : H p = none := Same.free S1 hp1
    obtain ⟨dx, v1, v2, v3, v4, v5, hA, t3, t4⟩ := s1.F.same S02
    refine ⟨_, rfl, a1, dx, _, rfl, hA, ff_fields, _, rfl, a1, z, _, r1, _, rfl, s1.F.same S02, s1.look p1, fun ov tv => ?_⟩
    obtain ⟨c, xs, rfl, hc, tq⟩ := Tp.inv tv
    have el : xs.length = 1 := by rw [tq.length]; rfl
    have hc1 : H1 c = some (.tup xs) := by
      by_cases e : c = p
      · rw [e, upd_same] at hc
        cases hc
      · rw [upd_ne e] at hc
        exact hc
    refine ⟨c, rfl, ⟨_, SqT.of hc⟩, ?_⟩
    refine for_tup (xs := xs) (fun i σ H3 => (∃ b6 b7 b8 b9 b10 b11 b12 b13 b14 b15, σ = [some (.ref a1), some (.str z), some (.ref a2), some (.str z), some (.ref d), some (.ref p), b6, b7, b8, b9, b10, b11, b12, b13, b14, b15]) ∧ Same H1 H3 ∧
      ((i = 0 ∧ H3 p = some (.lst []) ∧ Same (upd H1 p (.lst [])) H3) ∨ (i = 1 ∧ ((belowB f1 f2 = false ∧ H3 p = some (.lst [])) ∨ (belowB f1 f2 = true ∧ ∃ t t2 il, H3 p = some (.lst [.ref t]) ∧ H3 t = some (.tup [.ref t2, .str f2.nam, .bl il]) ∧ H3 t2 = some (.tup [.str "inner", .str "inner"])))))) ?_ ?_ ?_ ?_
    · exact ⟨⟨_, _, _, _, _, _, _, _, _, _, rfl⟩, S2, .inl ⟨rfl, upd_same, Same.refl _⟩⟩
    · rintro i σ H3 _ ⟨_, S3, _⟩
      exact SqT.of (S3 _ _ hc1)
    · rintro i x σ H3 hx ⟨⟨b6, b7, b8, b9, b10, b11, b12, b13, b14, b15, rfl⟩, S3, h3⟩
      have hi : i = 0 := by
        rw [List.getElem?_eq_some_iff] at hx
        have := hx.1
        omega
      subst hi
      rcases h3 with ⟨_, hp3, S23⟩ | ⟨h, _⟩
      rotate_left
      · cases h
      obtain ⟨f1', t2, u2, hf, rfl, ht2, tu2⟩ := flds_at (fs := [f1]) tq hx
      cases hf
      have S03 : Same H H3 := fun b o e => S3 b o (S1 b o e)
      have hd3 := S3 _ _ hd1
      have ht3 := S3 _ _ ht1
      refine ⟨t2, _, rfl, SqT.of (S23 _ _ ht2), rfl, _, _, rfl, _, _, rfl, _, _, rfl, _, _, rfl, rfl, ?_⟩
      refine ⟨_, rfl, _, rfl, d, _, rfl, DGet.k (k := Sum.inl f1.num) hd3, _, rfl, ?_⟩
      rw [val_one]
      by_cases e : f1.num = f2.num
      rotate_left
      · rw [if_neg (show ¬ f2.num = f1.num from fun h => e h.symm)]
        refine iteF ⟨⟨_, _, _, _, _, _, _, _, _, _, rfl⟩, S3, .inr ⟨rfl, .inl ⟨?_, hp3⟩⟩⟩
        unfold belowB
        rw [decide_eq_false e]
        rfl
      rw [if_pos e.symm]
      refine iteT ?_
      have hread : readK c1 c2 f1.kd f2.kd = true := by
        unfold hereB at hB
        rw [if_pos e] at hB
        split at hB
        · cases hB
        · exact hB
      refine ⟨_, rfl, _, rfl, d, _, rfl, (by have h := DGet.k (k := Sum.inl f1.num) hd3; rw [val_one, if_pos e.symm] at h; exact h), t, _, rfl, SqT.of ht3, rfl, _, _, rfl, _, _, rfl, _, _, rfl, rfl, ?_⟩
      have tk1 := Tp.keep (Same.tk S23) _ _ tu2
      have tk2 := Tp.keep (Same.tk S3) _ _ tu1
      refine ⟨_, rfl, u2, f1.kd, rfl, tk1, rfl, ?_⟩
      refine ⟨fun σ H4 => ∃ (il : Bool) (w1 w2 : V) (bb1 bb2 : Kb), σ = [some (.ref a1), some (.str z), some (.ref a2), some (.str z), some (.ref d), some (.ref p), some (.int f1.num), some (.str f1.nam), some u2, some (.str (needS f1.must)), some (.str f2.nam), some u, some (.str (needS f2.must)), some (.bl il), some w1, some w2] ∧ Same H3 H4 ∧ Tp H4 w1 bb1.d ∧ Tp H4 w2 bb2.d ∧ bb1 = f1.kd.base ∧ bb1.mark = bb2.mark ∧ okT c1 bb1 ∧ okT c2 bb2, ?_, ?_⟩
      · have o1 := s1.okf p1
        have o2 := s2.okf p2
        revert hread tk1 tk2 o1 o2
        cases k1 : f1.kd with
        | lst bb1 =>
          cases k2 : f2.kd with
          | one bb2 => intro h; cases h
          | lst bb2 =>
            intro hread tk1 tk2 o1 o2
            obtain ⟨q1, x1, y1, rfl, hq1, _, ty1⟩ := Tp.pair tk1
            obtain ⟨q2, x2, y2, rfl, hq2, _, ty2⟩ := Tp.pair tk2
            refine ⟨_, rfl, true, ?_, iteT ?_⟩
            · show V.bl (decide (V.str "list" = V.str "list")) = V.bl true
              rw [decide_eq_true rfl]
            refine ⟨_, rfl, q1, _, _, _, rfl, rfl, SqT.of hq1, rfl, _, rfl, q2, _, _, _, rfl, rfl, SqT.of hq2, rfl, (by show 2 ≤ sizeLine; decide), fun m hm => ?_⟩
            refine ⟨m, _, rfl, SqT.of upd_same, rfl, _, _, rfl, _, _, rfl, rfl, ?_⟩
            have S4 : Same H3 (upd H3 m (.tup [y1, y2])) := Same.new hm
            refine ⟨true, y1, y2, bb1, bb2, ?_, S4, Tp.keep (Same.tk S4) _ _ ty1, Tp.keep (Same.tk S4) _ _ ty2, rfl, readB_mark hread, o1, o2⟩
            show [_, _, _, _, _, _, _, _, _, _, _, _, _, some (V.bl (decide (V.str "list" = V.str "list"))), _, _] = _
            rw [decide_eq_true rfl]
        | one bb1 =>
          cases k2 : f2.kd with
          | lst bb2 => intro h; cases h
          | one bb2 =>
            intro hread tk1 tk2 o1 o2
            have hl : ¬ V.str (Kn.one bb1).word = V.str "list" := by
              cases bb1
              · exact sne (by decide +kernel : ("whole" : Str) ≠ "list")
              · exact sne (by decide +kernel : ("truth" : Str) ≠ "list")
              · exact sne (by decide +kernel : ("text" : Str) ≠ "list")
              · exact sne (by decide +kernel : ("record" : Str) ≠ "list")
              · exact sne (by decide +kernel : ("choice" : Str) ≠ "list")
            refine ⟨_, rfl, false, ?_, iteF ?_⟩
            · rw [decide_eq_false hl]
            refine ⟨_, rfl, _, rfl, (by show 2 ≤ sizeLine; decide), fun m hm => ?_⟩
            refine ⟨m, _, rfl, SqT.of upd_same, rfl, _, _, rfl, _, _, rfl, rfl, ?_⟩
            have S4 : Same H3 (upd H3 m (.tup [u2, u])) := Same.new hm
            refine ⟨false, u2, u, bb1, bb2, ?_, S4, Tp.keep (Same.tk S4) _ _ tk1, Tp.keep (Same.tk S4) _ _ tk2, rfl, readB_mark hread, o1, o2⟩
            show [_, _, _, _, _, _, _, _, _, _, _, _, _, some (V.bl (decide (V.str (Kn.one bb1).word = V.str "list"))), _, _] = _
            rw [decide_eq_false hl]
      · rintro σ H4 ⟨il, w1, w2, bb1, bb2, rfl, S4, tw1, tw2, eb, em, o1, o2⟩
        have S14 : Same H1 H4 := fun b o e => S4 b o (S3 b o e)
        refine ⟨_, rfl, w1, .one bb1, rfl, tw1, rfl, _, rfl, ?_⟩
        have eB : belowB f1 f2 = isRc bb1 := by
          unfold belowB
          rw [decide_eq_true e, eb]
          rfl
        cases bb1 with
        | rc y1 =>
          cases (show y1 = "inner" from o1)
          obtain ⟨y2, rfl⟩ := mark_rc em
          cases (show y2 = "inner" from o2)
          refine ite2 (fun _ => ?_) (fun h => absurd (decide_eq_true rfl) h)
          obtain ⟨q1, x1, z1, rfl, hq1, _, tz1⟩ := Tp.pair tw1
          obtain ⟨q2, x2, z2, rfl, hq2, _, tz2⟩ := Tp.pair tw2
          cases tz1.istr
          cases tz2.istr
          have hp4 := S4 _ _ hp3
          refine ⟨_, rfl, .inl ⟨rfl, _, SqL.of hp4⟩, _, rfl, q1, _, _, _, rfl, rfl, SqT.of hq1, rfl, _, rfl, q2, _, _, _, rfl, rfl, SqT.of hq2, rfl, (by show 2 ≤ sizeLine; decide), fun m hm => ?_⟩
          refine ⟨_, rfl, _, rfl, (by show 3 ≤ sizeLine; decide), fun m2 hm2 => ?_⟩
          have S5 : Same H4 (upd H4 m (.tup [.str "inner", .str "inner"])) := Same.new hm
          have S6 : Same (upd H4 m (.tup [.str "inner", .str "inner"])) (upd (upd H4 m (.tup [.str "inner", .str "inner"])) m2 (.tup [.ref m, .str f2.nam, .bl il])) := Same.new hm2
          have hp6 := S6 _ _ (S5 _ _ hp4)
          have nm : m ≠ p := fun e => by rw [e, hp4] at hm; cases hm
          have nm2 : m2 ≠ p := fun e => by rw [e, S5 _ _ hp4] at hm2; cases hm2
          refine ⟨p, _, _, rfl, rfl, hp6, (by show 0 < sizeLine; decide), ?_⟩
          refine ⟨⟨_, _, _, _, _, _, _, _, _, _, rfl⟩, Same.wr (fun b o e => S6 b o (S5 b o (S14 b o e))) hp1, .inr ⟨rfl, .inr ⟨eB, m2, m, il, upd_same, ?_, ?_⟩⟩⟩
          · rw [upd_ne nm2, upd_same]
          · rw [upd_ne nm]
            exact S6 _ _ upd_same
        | whole =>
          refine ite2 (fun h => absurd (of_decide_eq_true h) (sne (by decide +kernel : ("whole" : Str) ≠ "record"))) (fun _ => ?_)
          exact ⟨⟨_, _, _, _, _, _, _, _, _, _, rfl⟩, S14, .inr ⟨rfl, .inl ⟨eB, S4 _ _ hp3⟩⟩⟩
        | truth =>
          refine ite2 (fun h => absurd (of_decide_eq_true h) (sne (by decide +kernel : ("truth" : Str) ≠ "record"))) (fun _ => ?_)
          exact ⟨⟨_, _, _, _, _, _, _, _, _, _, rfl⟩, S14, .inr ⟨rfl, .inl ⟨eB, S4 _ _ hp3⟩⟩⟩
        | text =>
          refine ite2 (fun h => absurd (of_decide_eq_true h) (sne (by decide +kernel : ("text" : Str) ≠ "record"))) (fun _ => ?_)
          exact ⟨⟨_, _, _, _, _, _, _, _, _, _, rfl⟩, S14, .inr ⟨rfl, .inl ⟨eB, S4 _ _ hp3⟩⟩⟩
        | ch y =>
          refine ite2 (fun h => absurd (of_decide_eq_true h) (sne (by decide +kernel : ("choice" : Str) ≠ "record"))) (fun _ => ?_)
          exact ⟨⟨_, _, _, _, _, _, _, _, _, _, rfl⟩, S14, .inr ⟨rfl, .inl ⟨eB, S4 _ _ hp3⟩⟩⟩
    · rintro σ H3 ⟨⟨b6, b7, b8, b9, b10, b11, b12, b13, b14, b15, rfl⟩, S3, h3⟩
      refine ⟨_, rfl, q p H3 (fun b o e => S3 b o (S1 b o e)) hp ?_⟩
      rcases h3 with ⟨h, _⟩ | ⟨_, h⟩
      · omega
      · exact h
end
end Fh
set_option Elab.async false
set_option linter.all false
set_option maxRecDepth 100000
set_option maxHeartbeats 4000000
namespace Fh
open PySem L2 PyProof.Rows
/-! ### a dict of one pair whose key is a tuple -/
def tDisp1T (tk tv : TE) : TE := fun σ H Q => ∀ p, H p = none → tk σ (upd H p (.dT [])) fun x H1 => tv σ H1 fun y H2 => ∃ b ks, x = .ref b ∧ H2 b = some (.tup (ks.map kV)) ∧ H2 p = some (.dT []) ∧ Q (.ref p) (upd H2 p (.dT [(ks, y)]))
theorem pe_disp1T {X : Cx} {pos : Pos} {k v : Expr} {tk tv : TE} (hu : X.A.units + 1 < cLine) (hk : PE X k tk) (hv : PE X v tv) : PE X (.Dict [some k] [v] pos) (tDisp1T tk tv) := by
  refine ⟨fun pins s σ H Q I q => ?_⟩
  have I1 := I.laid (a := s.heap.objs.size) (o := .dT []) (h' := s.heap.push { cls := .type "dict", data := .dict #[] }) (t' := s.toks) (fun _ _ q => Heap.get?_push_of_some _ q) (Nat.le_refl _) (dt_empty s.heap I.big)
  have q1 := q _ (I.hok.fresh (Nat.le_refl s.heap.objs.size))
  have two := pps_cons (pos := pos) hk hv pps_nil
  rw [arm_eval_Dict, zip_pairTrees [some k] [v] X.env pos rfl rfl, dictDisplay_pairs _ (by simp [pairTrees]) (by simp [pairTrees])]
  refine wpAny_bind (wpAny_standAt (wpAny_bind ?_))
  unfold subDict
  refine wpAny_bind (wpAny_alloc (wpAny_bind (wpAny_holding ?_)))
  rw [if_pos (by simp [pairTrees])]
  refine wpAny_bind (thn (two.run pins _ σ _ (fun ps H2 => match ps with
    | [(x, y)] => ∃ b ks, x = .ref b ∧ H2 b = some (.tup (ks.map kV)) ∧ H2 s.heap.objs.size = some (.dT []) ∧ Q (.ref s.heap.objs.size) (upd H2 s.heap.objs.size (.dT [(ks, y)]))
    | _ => False) I1 q1) fun vs s2 ⟨ps, H2, I2, rel, hq⟩ => ?_)
  refine wpAny_holding ?_
  have hps : ∃ x y, ps = [(x, y)] ∧ ∃ b ks, x = .ref b ∧ H2 b = some (.tup (ks.map kV)) ∧ H2 s.heap.objs.size = some (.dT []) ∧ Q (.ref s.heap.objs.size) (upd H2 s.heap.objs.size (.dT [(ks, y)])) := by
    cases ps with
    | nil => exact False.elim hq
    | cons p r =>
      cases r with
      | nil => exact ⟨p.1, p.2, rfl, hq⟩
      | cons _ _ => exact False.elim hq
  clear hq q1 q
  obtain ⟨x, y, eps, b, ks, ex, hb, hd, q2⟩ := hps
  subst eps ex
  cases rel with
  | @cons _ w0 _ _ r0 rn =>
    cases rn
    obtain ⟨u, r⟩ := w0
    obtain ⟨rx, ry⟩ := r0
    obtain rfl : u = Value.ref b := rx
    rw [List.forIn_cons]
    obtain ⟨_, hsys, xs, kt, dd⟩ := dt_of I2.hok hd
    cases kt
    refine wpAny_bind (wpAny_bind ?_)
    show wpAny _ _ (dictSet s.heap.objs.size (Value.ref b) r >>= fun _ => pure (ForInStep.yield PUnit.unit)) _ _ _
    refine wpAny_bind ((wpAny_dictSet_heap (knd := tupleKind (mixKind X.prog X.w)) (show X.A.units < cLine from Nat.lt_of_succ_lt hu) (key_of I2.hok hb) dd (fun h' dd' hs => ?_) (by show 0 ≤ sizeLine; decide)))
    refine wpAny_pure ?_
    show wpAny _ _ (forIn [] PUnit.unit _) _ _ _
    rw [List.forIn_nil]
    refine wpAny_pure (wpAny_pure (wpAny_pure (wpAny_pure ?_)))
    obtain ⟨q, es, ep, hq, h2, h3, h4, _, h5⟩ := dd'
    have ne : b ≠ s.heap.objs.size := fun e => by
      rw [e, hd] at hb
      cases hb
    have hb' : (upd H2 s.heap.objs.size (.dT [(ks, y)])) b = some (.tup (ks.map kV)) := by
      rw [upd_ne ne]
      exact hb
    exact ⟨.ref s.heap.objs.size, _, d_write (ob := .dT [(ks, y)]) I2 (by rw [hd]; exact True.intro) hs ⟨q, hq⟩ ⟨(by show 1 ≤ sizeLine; decide), hsys, _, .cons ⟨rfl, hb', ry⟩ .nil, q, es, ep, hq, h2, h3, h4, h5⟩, rfl, q2⟩
end Fh
set_option Elab.async false
set_option linter.all false
set_option maxRecDepth 100000
set_option maxHeartbeats 4000000
namespace Fh
open PySem L2 PyProof.Rows
abbrev sWrap : Stmt := top 32
abbrev sUnread : Stmt := top 24
abbrev sReads : Stmt := top 23
def oo : List Key := [.inr "outer", .inr "outer"]
def ii : List Key := [.inr "inner", .inr "inner"]
def spWrap (C : Addr) : Sp := fun vs H Q _ => ∃ (a wd pr : Addr) (x : V) (chs : Chs) (rs : List (Str × PyData)) (fi fo : Fl) (kvs : List (List Key × V)), vs = [.ref a, .ref wd, .ref pr, x] ∧ Sd C H a chs rs fi fo ∧ x ≠ .non ∧ H wd = some (.dT kvs) ∧ valV kvs oo = some .non ∧
  ((H pr = some (.tup (oo.map kV))) ∨ (H pr = some (.tup (ii.map kV)) ∧ ∃ t p0 fn il, valV kvs ii = some (.ref t) ∧ H t = some (.tup [.ref p0, .str fn, .bl il]) ∧ H p0 = some (.tup (oo.map kV)))) ∧
  ∀ (y : V) (H' : Hp), Same H H' → y ≠ .non → Q y H'
section
variable {P : Program} {w : World} {K : PySem.W.Frag} {mg : Str → Option Value} {base : Heap}
abbrev nWrap : List Str := ["writer", "ways", "pair", "value", "outer", "way", "above", "field", "is_listed", "inner"]
theorem scWrap : FnScope nWrap ["writer", "ways", "pair", "value"] (defScope sWrap) := ⟨rfl, rfl, rfl, by decide +kernel, rfl, by decide +kernel, by decide +kernel⟩
def muW : L2.St → Hp → Nat := fun σ _ => match σ with
  | [_, _, _, _, _, some .non, _, _, _, _] => 0
  | _ => 1
theorem ok_wrap {C f : Addr} {fd : FuncData} (F : Fun K "wrapped" "wrapped" sWrap f fd) (DL : Has P w K mg base "least" 6 ["face", "record"] (spLeast C)) : FnOk P w K mg base CX0 7 f fd ["writer", "ways", "pair", "value"] (spWrap C) := by
  refine F.ok scWrap (fun vs H Q E h => ?_) (fun cdv A outer s H vs Q E hr h => ?_)
  · obtain ⟨a, wd, pr, x, chs, rs, fi, fo, kvs, rfl, _⟩ := h
    rfl
  · obtain ⟨a, wd, pr, x, chs, rs, fi, fo, kvs, rfl, sd, hx, hw, ho, hpr, q⟩ := h
    have hu := hu_of hr
    refine ⟨_, pss_cons (ps_set (i := 4) scWrap.nd rfl (Or.inl rfl) (pv 3))
      (pss_cons (ps_set (i := 5) scWrap.nd rfl (Or.inl rfl) (pe_dget hu (pv 1) (pv 2) (fun _ _ => rfl)))
      (pss_cons (ps_while PassesOwn.never (pt_cmpR op_notN (pv 5) pe_non (nomark _))
        (pss_cons (ps_asg (pv 5) (pg_tup rfl (pgs_cons (pg_name (i := 6) scWrap.nd rfl (.inl rfl)) (pgs_cons (pg_name (i := 7) scWrap.nd rfl (.inl rfl)) (pgs_cons (pg_name (i := 8) scWrap.nd rfl (.inl rfl)) pgs_nil)))))
        (pss_cons (ps_set (i := 9) scWrap.nd rfl (Or.inl rfl) (pv 4))
        (pss_cons (ps_set (i := 4) scWrap.nd rfl (Or.inl rfl) (pe_has DL hr rfl (pa_cons (pv 0) (pa_cons (pe_ix ix_tup (pv 6) pe_int (fun _ _ => rfl)) pa_nil))))
        (C8.pss_cut (ps_dput hu (pv 4) (pv 7) (pe_ifExp (pt_val (pv 8)) (pe_tup (pa_cons (pv 9) pa_nil)) (pv 9)) rfl)
        (pss_one (ps_set (i := 5) scWrap.nd rfl (Or.inl rfl) (pe_dget hu (pv 1) (pv 6) (fun _ _ => rfl)))))))))
      (pss_one (ps_ret (pv 4))))), ?_⟩
    refine ⟨_, rfl, ?_⟩
    have start : ∃ v, DGet H wd (.ref pr) (some v) ∧ (v = .non ∨ ∃ t p0 fn il, v = .ref t ∧ H t = some (.tup [.ref p0, .str fn, .bl il]) ∧ H p0 = some (.tup (oo.map kV))) := by
      rcases hpr with h | ⟨h, t, p0, fn, il, e, ht, hp0⟩
      · have g := DGet.t (k := oo) hw h
        rw [ho] at g
        exact ⟨_, g, .inl rfl⟩
      · have g := DGet.t (k := ii) hw h
        rw [e] at g
        exact ⟨_, g, .inr ⟨t, p0, fn, il, rfl, ht, hp0⟩⟩
    obtain ⟨v, g, hv⟩ := start
    refine ⟨_, rfl, _, rfl, wd, v, rfl, g, ?_⟩
    refine while_by (fun σ H3 => Same H H3 ∧ ∃ (o v : V) (b6 b7 b8 b9 : Option V), σ = [some (.ref a), some (.ref wd), some (.ref pr), some x, some o, some v, b6, b7, b8, b9] ∧ o ≠ .non ∧ (v = .non ∨ ∃ t p0 fn il, v = .ref t ∧ H t = some (.tup [.ref p0, .str fn, .bl il]) ∧ H p0 = some (.tup (oo.map kV)))) muW ?_ ?_ ?_
    · exact ⟨Same.refl _, x, v, none, none, none, none, rfl, hx, hv⟩
    · rintro σ H3 ⟨S3, o, v, b6, b7, b8, b9, rfl, hO, hv⟩
      refine ⟨_, rfl, rfl, _, rfl, ?_⟩
      rcases hv with rfl | ⟨t, p0, fn, il, rfl, ht, hp0⟩
      · rw [decide_eq_true rfl]
        exact iteF ⟨_, rfl, q o H3 S3 hO⟩
      · rw [decide_eq_false (fun e => by cases e)]
        refine iteT ?_
        refine ⟨_, rfl, t, _, rfl, SqT.of (S3 _ _ ht), rfl, _, _, rfl, _, _, rfl, _, _, rfl, rfl, ?_⟩
        refine ⟨_, rfl, ?_⟩
        refine ⟨_, rfl, _, rfl, p0, _, _, _, rfl, rfl, SqT.of (S3 _ _ hp0), rfl, a, "outer", _, rs, fi, fo, rfl, sd.F.same S3, sd.g, .inr rfl, fun p kvs2 H4 S4 hp hp4 l4 => ?_⟩
        have S04 : Same H H4 := fun b o e => S4 b o (S3 b o e)
        have hpH : H p = none := Same.free S3 hp
        refine ⟨fun σ H5 => σ = [some (.ref a), some (.ref wd), some (.ref pr), some x, some (.ref p), some (.ref t), some (.ref p0), some (.str fn), some (.bl il), some o] ∧ Same H H5, ?_, ?_⟩
        · refine ⟨_, rfl, il, rfl, ?_⟩
          have l5 : kvs2.length < sizeLine := Nat.lt_of_le_of_lt l4 (by decide)
          cases il with
          | true =>
            refine iteT ?_
            refine ⟨_, rfl, (by show 1 ≤ sizeLine; decide), fun m hm => ?_⟩
            have S5 : Same H4 (upd H4 m (.tup [o])) := Same.new hm
            exact ⟨_, rfl, _, rfl, p, _, rfl, DPut.k (k := Sum.inr fn) (S5 _ _ hp4) l5, rfl, Same.wr (fun b o e => S5 b o (S04 b o e)) hpH⟩
          | false =>
            refine iteF ?_
            exact ⟨_, rfl, _, rfl, _, rfl, p, _, rfl, DPut.k (k := Sum.inr fn) hp4 l5, rfl, Same.wr S04 hpH⟩
        · rintro σ H5 ⟨rfl, S5⟩
          have g5 := DGet.t (k := oo) (S5 _ _ hw) (S5 _ _ hp0)
          rw [ho] at g5
          refine ⟨_, rfl, _, rfl, wd, .non, rfl, g5, ?_⟩
          exact ⟨⟨S5, .ref p, .non, _, _, _, _, rfl, (fun e => by cases e), .inl rfl⟩, Nat.zero_lt_one⟩
    · rintro σ H Q Q' m ⟨v, e1, e2, k, e3, h⟩
      exact ⟨v, e1, e2, k, e3, m _ _ h⟩
end
end Fh
set_option Elab.async false
set_option linter.all false
set_option maxRecDepth 100000
set_option maxHeartbeats 4000000
namespace Fh
open PySem L2 PyProof.Rows
def dueB (c1 c2 : Chs) (fi1 fo1 fi2 fo2 : Fl) : Bool := hereB c1 c2 fo1 fo2 && (!belowB fo1 fo2 || hereB c1 c2 fi1 fi2)
def spUnread (C : Addr) : Sp := fun vs H Q _ => ∃ (a1 a2 : Addr) (c1 c2 : Chs) (r1 r2 : List (Str × PyData)) (fi1 fo1 fi2 fo2 : Fl), vs = [.ref a1, .str "outer", .ref a2, .str "outer"] ∧ Sd C H a1 c1 r1 fi1 fo1 ∧ Sd C H a2 c2 r2 fi2 fo2 ∧
  ∀ (x : V) (H' : Hp), Same H H' → (x = .non ↔ dueB c1 c2 fi1 fo1 fi2 fo2 = true) → Q x H'
def spReads (C : Addr) : Sp := fun vs H Q _ => ∃ (a1 a2 : Addr) (c1 c2 : Chs) (r1 r2 : List (Str × PyData)) (fi1 fo1 fi2 fo2 : Fl), vs = [.ref a1, .str "outer", .ref a2, .str "outer"] ∧ Sd C H a1 c1 r1 fi1 fo1 ∧ Sd C H a2 c2 r2 fi2 fo2 ∧
  ∀ (H' : Hp), Same H H' → Q (.bl (dueB c1 c2 fi1 fo1 fi2 fo2)) H'
def muU : L2.St → Hp → Nat := fun σ _ => match σ with
  | [_, _, _, _, _, _, some (.int n), _, _, _, _, _] => (2 - n).toNat
  | _ => 0
theorem plain_rc {k : Kn} (h : plainK k) : isRc k.base = false := by
  rcases h with rfl | rfl | rfl <;> rfl
section
variable {P : Program} {w : World} {K : PySem.W.Frag} {mg : Str → Option Value} {base : Heap}
abbrev nUnread : List Str := ["reader", "one", "writer", "other", "ways", "pairs", "at", "pair", "value", "below", "field", "is_listed"]
abbrev pUnread : List Str := ["reader", "one", "writer", "other"]
theorem scUnread : FnScope nUnread pUnread (defScope sUnread) := ⟨rfl, rfl, rfl, by decide +kernel, rfl, by decide +kernel, by decide +kernel⟩
theorem scReads : FnScope pUnread pUnread (defScope sReads) := ⟨rfl, rfl, rfl, by decide +kernel, rfl, by decide +kernel, by decide +kernel⟩
theorem ok_unread {C f : Addr} {fd : FuncData} (F : Fun K "unread" "unread" sUnread f fd) (G : Glb mg) (DH : Has P w K mg base "unread_here" 7 pUnread (spHere C)) (DW : Has P w K mg base "wrapped" 7 ["writer", "ways", "pair", "value"] (spWrap C)) (DB : Has P w K mg base "pairs_below" 3 pUnread (spBelow C)) : FnOk P w K mg base CX0 8 f fd pUnread (spUnread C) := by
  refine F.ok scUnread (fun vs H Q E h => ?_) (fun cdv A outer s H vs Q E hr h => ?_)
  · obtain ⟨a1, a2, c1, c2, r1, r2, fi1, fo1, fi2, fo2, rfl, _⟩ := h
    rfl
  · obtain ⟨a1, a2, c1, c2, r1, r2, fi1, fo1, fi2, fo2, rfl, s1, s2, q⟩ := h
    have hu := hu_of hr
    have hr3 : Room 3 _ := hr.mono (by decide)
    refine ⟨_, pss_cons (ps_set (i := 4) scUnread.nd rfl (Or.inl rfl) (pe_disp1T hu (pe_tup (pa_cons (pv 1) (pa_cons (pv 3) pa_nil))) pe_non))
      (pss_cons (ps_set (i := 5) scUnread.nd rfl (Or.inl rfl) (pe_lst (pa_cons (pe_tup (pa_cons (pv 1) (pa_cons (pv 3) pa_nil))) pa_nil)))
      (pss_cons (ps_set (i := 6) scUnread.nd rfl (Or.inl rfl) pe_int)
      (pss_cons (ps_while PassesOwn.never (pt_cmpR op_lt (pv 6) (pe_callB call_len_seq (by rfl) G.len PySem.boot_len (pa_cons (pv 5) pa_nil)) (nomark _))
        (pss_cons (ps_set (i := 7) scUnread.nd rfl (Or.inl rfl) (pe_ix ix_list (pv 5) (pv 6) (fun _ _ => rfl)))
        (pss_cons (ps_set (i := 8) scUnread.nd rfl (Or.inl rfl) (pe_has DH hr rfl (pa_cons (pv 0) (pa_cons (pe_ix ix_tup (pv 7) pe_int (fun _ _ => rfl)) (pa_cons (pv 2) (pa_cons (pe_ix ix_tup (pv 7) pe_int (fun _ _ => rfl)) pa_nil))))))
        (pss_cons (ps_if (pt_cmpR op_notN (pv 8) pe_non (nomark _)) (pss_one (ps_ret (pe_has DW hr rfl (pa_cons (pv 2) (pa_cons (pv 4) (pa_cons (pv 7) (pa_cons (pv 8) pa_nil))))))) pss_nil)
        (pss_cons (ps_for PassesOwn.never rfl (pi_list (pe_has DB hr3 rfl (pa_cons (pv 0) (pa_cons (pe_ix ix_tup (pv 7) pe_int (fun _ _ => rfl)) (pa_cons (pv 2) (pa_cons (pe_ix ix_tup (pv 7) pe_int (fun _ _ => rfl)) pa_nil)))))) (pg_tup rfl (pgs_cons (pg_name (i := 9) scUnread.nd rfl (.inl rfl)) (pgs_cons (pg_name (i := 10) scUnread.nd rfl (.inl rfl)) (pgs_cons (pg_name (i := 11) scUnread.nd rfl (.inl rfl)) pgs_nil))))
          (pss_one (ps_if (pt_cmp (pc_dnotin hu (pv 9) (pv 4))) (pss_cons (ps_dput hu (pv 4) (pv 9) (pe_tup (pa_cons (pv 7) (pa_cons (pv 10) (pa_cons (pv 11) pa_nil)))) rfl)
            (pss_one (ps_expr (pe_bm PySem.F.plainAttrs_list PySem.F.slot_list_append PySem.F.type_list_append mt_append (pv 5) (pa_cons (pv 9) pa_nil))))) pss_nil)))
        (pss_one (ps_aug (i := 6) scUnread.nd rfl (.inl rfl) pe_int ip_add)))))))
      (pss_one (ps_ret pe_non))))), ?_⟩
    intro wd hwd
    refine ⟨_, rfl, _, rfl, (by show 2 ≤ sizeLine; decide), fun k0 hk0 => ?_⟩
    have hwd1 : (upd (upd H wd (.dT [])) k0 (.tup [.str "outer", .str "outer"])) wd = some (.dT []) := by
      rw [upd_ne (ne_of_none upd_same hk0), upd_same]
    refine ⟨k0, oo, rfl, upd_same, hwd1, ?_⟩
    have S1 : Same H (upd (upd (upd H wd (.dT [])) k0 (.tup [.str "outer", .str "outer"])) wd (.dT [(oo, .non)])) := Same.wr (fun b o e => Same.new hk0 b o (Same.new hwd b o e)) hwd
    have hw1 : (upd (upd (upd H wd (.dT [])) k0 (.tup [.str "outer", .str "outer"])) wd (.dT [(oo, .non)])) wd = some (.dT [(oo, .non)]) := upd_same
    generalize (upd (upd (upd H wd (.dT [])) k0 (.tup [.str "outer", .str "outer"])) wd (.dT [(oo, .non)])) = H1 at S1 hw1 ⊢
    refine ⟨_, rfl, _, rfl, (by show 2 ≤ sizeLine; decide), fun p0 hp0 => ?_⟩
    refine ⟨(by show 1 ≤ sizeLine; decide), fun pA hpA => ?_⟩
    have S2 : Same H1 (upd (upd H1 p0 (.tup [.str "outer", .str "outer"])) pA (.lst [.ref p0])) := fun b o e => Same.new hpA b o (Same.new hp0 b o e)
    have hA2 : (upd (upd H1 p0 (.tup [.str "outer", .str "outer"])) pA (.lst [.ref p0])) pA = some (.lst [.ref p0]) := upd_same
    have h02 : (upd (upd H1 p0 (.tup [.str "outer", .str "outer"])) pA (.lst [.ref p0])) p0 = some (.tup (oo.map kV)) := by
      rw [upd_ne (ne_of_none upd_same hpA), upd_same]
      rfl
    have hpAH : H pA = none := Same.free (fun b o e => Same.new hp0 b o (S1 b o e)) hpA
    have npw : pA ≠ wd := fun e => by
      rw [e, Same.new hp0 _ _ hw1] at hpA
      cases hpA
    generalize (upd (upd H1 p0 (.tup [.str "outer", .str "outer"])) pA (.lst [.ref p0])) = H2 at S2 hA2 h02 ⊢
    have S02 : Same H H2 := fun b o e => S2 b o (S1 b o e)
    refine while_by (fun σ H3 => Same H H3 ∧ H3 p0 = some (.tup (oo.map kV)) ∧ ∃ (n : Int) (b7 b8 b9 b10 b11 : Option V), σ = [some (.ref a1), some (.str "outer"), some (.ref a2), some (.str "outer"), some (.ref wd), some (.ref pA), some (.int n), b7, b8, b9, b10, b11] ∧
      ((n = 0 ∧ H3 wd = some (.dT [(oo, .non)]) ∧ H3 pA = some (.lst [.ref p0])) ∨ (n = 1 ∧ hereB c1 c2 fo1 fo2 = true ∧ belowB fo1 fo2 = false ∧ H3 pA = some (.lst [.ref p0])) ∨
        (n = 1 ∧ hereB c1 c2 fo1 fo2 = true ∧ belowB fo1 fo2 = true ∧ ∃ t p1 fn il, H3 wd = some (.dT [(oo, .non), (ii, .ref t)]) ∧ H3 t = some (.tup [.ref p0, .str fn, .bl il]) ∧ H3 pA = some (.lst [.ref p0, .ref p1]) ∧ H3 p1 = some (.tup (ii.map kV))) ∨
        (n = 2 ∧ dueB c1 c2 fi1 fo1 fi2 fo2 = true ∧ ∃ p1, H3 pA = some (.lst [.ref p0, .ref p1])))) muU ?_ ?_ ?_
    · exact ⟨S02, h02, 0, none, none, none, none, none, rfl, .inl ⟨rfl, S2 _ _ hw1, hA2⟩⟩
    · rintro σ H3 ⟨S3, h03, n, b7, b8, b9, b10, b11, rfl, hcase⟩
      rcases hcase with ⟨rfl, hw3, hA3⟩ | ⟨rfl, hh, hb, hA3⟩ | ⟨rfl, hh, hb, t, p1, fn, il, hw3, ht3, hA3, h13⟩ | ⟨rfl, hd, p1, hA3⟩
      · refine ⟨_, rfl, _, rfl, pA, _, rfl, .inl (SqL.of hA3), _, _, rfl, rfl, _, rfl, ?_⟩
        refine ite2 (fun _ => ?_) (fun h => absurd (by simp) h)
        refine ⟨_, rfl, _, rfl, pA, _, _, _, rfl, rfl, SqL.of hA3, rfl, ?_⟩
        refine ⟨_, rfl, _, rfl, p0, _, _, _, rfl, rfl, SqT.of h03, rfl, _, rfl, _, rfl, p0, _, _, _, rfl, rfl, SqT.of h03, rfl, a1, a2, "outer", c1, c2, r1, r2, fi1, fo1, fi2, fo2, fo1, fo2, rfl, s1.same S3, s2.same S3, ⟨.inr ⟨rfl, rfl⟩⟩, ⟨.inr ⟨rfl, rfl⟩⟩, fun x H4 S4 hx => ?_⟩
        have S04 : Same H H4 := fun b o e => S4 b o (S3 b o e)
        have hw4 := S4 _ _ hw3
        have hA4 := S4 _ _ hA3
        have h04 := S4 _ _ h03
        refine ⟨_, rfl, rfl, _, rfl, ?_⟩
        rcases hx with ⟨rfl, hh⟩ | ⟨hx, hh⟩
        · rw [decide_eq_true rfl]
          refine iteF ?_
          refine ⟨_, rfl, _, rfl, p0, _, _, _, rfl, rfl, SqT.of h04, rfl, _, rfl, _, rfl, p0, _, _, _, rfl, rfl, SqT.of h04, rfl, a1, a2, "outer", c1, c2, r1, r2, fi1, fo1, fi2, fo2, fo1, fo2, rfl, s1.same S04, s2.same S04, ⟨.inr ⟨rfl, rfl⟩⟩, ⟨.inr ⟨rfl, rfl⟩⟩, hh, fun l H5 S5 hl hl5 => ?_⟩
          have S05 : Same H H5 := fun b o e => S5 b o (S04 b o e)
          have hw5 := S5 _ _ hw4
          have hA5 := S5 _ _ hA4
          have h05 := S5 _ _ h04
          rcases hl5 with ⟨hb, hl5⟩ | ⟨hb, t, t2, il, hl5, ht5, ht25⟩
          · refine ⟨l, rfl, ⟨_, SqL.of hl5⟩, ?_⟩
            refine for_list (xs := []) (fun i σ H6 => H6 = H5 ∧ σ = [some (.ref a1), some (.str "outer"), some (.ref a2), some (.str "outer"), some (.ref wd), some (.ref pA), some (.int 0), some (.ref p0), some .non, b9, b10, b11]) ⟨rfl, rfl⟩ ?_ ?_ ?_
            · rintro i σ H6 _ ⟨rfl, _⟩
              exact SqL.of hl5
            · rintro i x σ H6 hx
              cases hx
            · rintro σ H6 ⟨rfl, rfl⟩
              refine ⟨_, rfl, _, _, rfl, rfl, ?_⟩
              exact ⟨⟨S05, h05, 1, _, _, _, _, _, rfl, .inr (.inl ⟨rfl, hh, hb, hA5⟩)⟩, by show (2 - (0 + 1 : Int)).toNat < (2 - (0 : Int)).toNat; decide⟩
          · refine ⟨l, rfl, ⟨_, SqL.of hl5⟩, ?_⟩
            have nlA : l ≠ pA := fun e => by rw [e, hA4] at hl; cases hl
            have nlw : l ≠ wd := fun e => by rw [e, hw4] at hl; cases hl
            refine for_list (xs := [.ref t]) (fun i σ H6 => Same H H6 ∧ H6 p0 = some (.tup (oo.map kV)) ∧ H6 l = some (.lst [.ref t]) ∧ (∃ b9 b10 b11, σ = [some (.ref a1), some (.str "outer"), some (.ref a2), some (.str "outer"), some (.ref wd), some (.ref pA), some (.int 0), some (.ref p0), some .non, b9, b10, b11]) ∧
              ((i = 0 ∧ H6 = H5) ∨ (i = 1 ∧ ∃ t p1 fn il, H6 wd = some (.dT [(oo, .non), (ii, .ref t)]) ∧ H6 t = some (.tup [.ref p0, .str fn, .bl il]) ∧ H6 pA = some (.lst [.ref p0, .ref p1]) ∧ H6 p1 = some (.tup (ii.map kV))))) ⟨S05, h05, hl5, ⟨_, _, _, rfl⟩, .inl ⟨rfl, rfl⟩⟩ ?_ ?_ ?_
            · rintro i σ H6 _ ⟨_, _, hl6, _⟩
              exact SqL.of hl6
            · rintro i x σ H6 hx ⟨_, _, _, ⟨b9, b10, b11, rfl⟩, hi⟩
              match i, hx, hi with
              | 0, hx, hi =>
                obtain rfl : V.ref t = x := by simpa using hx
                obtain rfl : H6 = H5 := by
                  rcases hi with ⟨_, e⟩ | ⟨e, _⟩
                  · exact e
                  · cases e
                refine ⟨t, _, rfl, SqT.of ht5, rfl, _, _, rfl, _, _, rfl, _, _, rfl, rfl, ?_⟩
                have g := DGet.t (k := ii) hw5 (show H6 t2 = some (.tup (ii.map kV)) from ht25)
                refine ⟨_, rfl, _, rfl, wd, _, rfl, g, _, rfl, ?_⟩
                rw [show valV [(oo, V.non)] ii = none from by decide +kernel]
                refine iteT ?_
                refine ⟨_, rfl, _, rfl, _, rfl, (by show 3 ≤ sizeLine; decide), fun m hm => ?_⟩
                have S7 : Same H6 (upd H6 m (.tup [.ref p0, .str fo2.nam, .bl il])) := Same.new hm
                refine ⟨_, rfl, _, rfl, wd, _, rfl, DPut.t (k := ii) (S7 _ _ hw5) (S7 _ _ (show H6 t2 = some (.tup (ii.map kV)) from ht25)) (by show 1 < sizeLine; decide), ?_⟩
                rw [show putK [(oo, V.non)] ii (V.ref m) = [(oo, .non), (ii, .ref m)] from rfl]
                have S8 : Same H (upd (upd H6 m (.tup [.ref p0, .str fo2.nam, .bl il])) wd (.dT [(oo, .non), (ii, .ref m)])) := Same.wr (fun b o e => S7 b o (S05 b o e)) hwd
                have keep : ∀ a xs, H6 a = some (.tup xs) → (upd (upd H6 m (.tup [.ref p0, .str fo2.nam, .bl il])) wd (.dT [(oo, .non), (ii, .ref m)])) a = some (.tup xs) := fun a xs e => by
                  rw [upd_ne (fun e2 => by rw [e2, hw5] at e; cases e)]
                  exact S7 _ _ e
                have keepL : ∀ a xs, H6 a = some (.lst xs) → (upd (upd H6 m (.tup [.ref p0, .str fo2.nam, .bl il])) wd (.dT [(oo, .non), (ii, .ref m)])) a = some (.lst xs) := fun a xs e => by
                  rw [upd_ne (fun e2 => by rw [e2, hw5] at e; cases e)]
                  exact S7 _ _ e
                have hm8 : (upd (upd H6 m (.tup [.ref p0, .str fo2.nam, .bl il])) wd (.dT [(oo, .non), (ii, .ref m)])) m = some (.tup [.ref p0, .str fo2.nam, .bl il]) := by
                  rw [upd_ne (fun e => by rw [e, hw5] at hm; cases hm), upd_same]
                have hw8 : (upd (upd H6 m (.tup [.ref p0, .str fo2.nam, .bl il])) wd (.dT [(oo, .non), (ii, .ref m)])) wd = some (.dT [(oo, .non), (ii, .ref m)]) := upd_same
                have hA8 := keepL _ _ hA5
                have hl8 := keepL _ _ hl5
                have h08 := keep _ _ h05
                have ht28 := keep _ _ ht25
                generalize (upd (upd H6 m (.tup [.ref p0, .str fo2.nam, .bl il])) wd (.dT [(oo, .non), (ii, .ref m)])) = H8 at S8 hm8 hw8 hA8 hl8 h08 ht28 ⊢
                refine ⟨_, rfl, .inl ⟨rfl, _, SqL.of hA8⟩, _, rfl, pA, _, _, rfl, rfl, hA8, (by show 1 < sizeLine; decide), ?_⟩
                have ntA : ∀ a xs, H8 a = some (.tup xs) → a ≠ pA := fun a xs e e2 => by rw [e2, hA8] at e; cases e
                refine ⟨Same.wr S8 hpAH, by rw [upd_ne (ntA _ _ h08)]; exact h08, by rw [upd_ne nlA]; exact hl8, ⟨_, _, _, rfl⟩, .inr ⟨rfl, m, t2, _, _, by rw [upd_ne npw.symm]; exact hw8, by rw [upd_ne (ntA _ _ hm8)]; exact hm8, upd_same, by rw [upd_ne (ntA _ _ ht28)]; exact ht28⟩⟩
              | i + 1, hx, _ => simp at hx
            · rintro σ H6 ⟨S6, h06, _, ⟨b9, b10, b11, rfl⟩, hi⟩
              rcases hi with ⟨e, _⟩ | ⟨_, t, p1, fn, il, e1, e2, e3, e4⟩
              · cases e
              · refine ⟨_, rfl, _, _, rfl, rfl, ?_⟩
                exact ⟨⟨S6, h06, 1, _, _, _, _, _, rfl, .inr (.inr (.inl ⟨rfl, hh, hb, t, p1, fn, il, e1, e2, e3, e4⟩))⟩, by show (2 - (0 + 1 : Int)).toNat < (2 - (0 : Int)).toNat; decide⟩
        · rw [decide_eq_false hx]
          refine iteT ?_
          refine ⟨_, rfl, _, rfl, _, rfl, _, rfl, a2, wd, p0, x, c2, r2, fi2, fo2, _, rfl, s2.same S04, hx, hw4, by decide +kernel, .inl h04, fun y H5 S5 hy => ?_⟩
          refine q y H5 (fun b o e => S5 b o (S04 b o e)) ⟨fun e => absurd e hy, fun e => ?_⟩
          unfold dueB at e
          rw [hh] at e
          cases e
      · refine ⟨_, rfl, _, rfl, pA, _, rfl, .inl (SqL.of hA3), _, _, rfl, rfl, _, rfl, ?_⟩
        refine ite2 (fun h => absurd h (by simp)) (fun _ => ?_)
        refine q .non H3 S3 ⟨fun _ => ?_, fun _ => rfl⟩
        unfold dueB
        rw [hh, hb]
        rfl
      · refine ⟨_, rfl, _, rfl, pA, _, rfl, .inl (SqL.of hA3), _, _, rfl, rfl, _, rfl, ?_⟩
        refine ite2 (fun _ => ?_) (fun h => absurd (by simp) h)
        refine ⟨_, rfl, _, rfl, pA, _, _, _, rfl, rfl, SqL.of hA3, rfl, ?_⟩
        refine ⟨_, rfl, _, rfl, p1, _, _, _, rfl, rfl, SqT.of h13, rfl, _, rfl, _, rfl, p1, _, _, _, rfl, rfl, SqT.of h13, rfl, a1, a2, "inner", c1, c2, r1, r2, fi1, fo1, fi2, fo2, fi1, fi2, rfl, s1.same S3, s2.same S3, ⟨.inl ⟨rfl, rfl⟩⟩, ⟨.inl ⟨rfl, rfl⟩⟩, fun x H4 S4 hx => ?_⟩
        have S04 : Same H H4 := fun b o e => S4 b o (S3 b o e)
        have hw4 := S4 _ _ hw3
        have hA4 := S4 _ _ hA3
        have h04 := S4 _ _ h03
        have h14 := S4 _ _ h13
        refine ⟨_, rfl, rfl, _, rfl, ?_⟩
        have ed : dueB c1 c2 fi1 fo1 fi2 fo2 = hereB c1 c2 fi1 fi2 := by
          unfold dueB
          rw [hh, hb]
          simp
        rcases hx with ⟨rfl, hi⟩ | ⟨hx, hi⟩
        · rw [decide_eq_true rfl]
          refine iteF ?_
          refine ⟨_, rfl, _, rfl, p1, _, _, _, rfl, rfl, SqT.of h14, rfl, _, rfl, _, rfl, p1, _, _, _, rfl, rfl, SqT.of h14, rfl, a1, a2, "inner", c1, c2, r1, r2, fi1, fo1, fi2, fo2, fi1, fi2, rfl, s1.same S04, s2.same S04, ⟨.inl ⟨rfl, rfl⟩⟩, ⟨.inl ⟨rfl, rfl⟩⟩, hi, fun l H5 S5 hl hl5 => ?_⟩
          have S05 : Same H H5 := fun b o e => S5 b o (S04 b o e)
          have hbi : belowB fi1 fi2 = false := by
            unfold belowB
            rw [plain_rc s1.g.ik]
            simp
          have hl5' : H5 l = some (.lst []) := by
            rcases hl5 with ⟨_, h⟩ | ⟨h, _⟩
            · exact h
            · rw [hbi] at h
              cases h
          refine ⟨l, rfl, ⟨_, SqL.of hl5'⟩, ?_⟩
          refine for_list (xs := []) (fun i σ H6 => H6 = H5 ∧ σ = [some (.ref a1), some (.str "outer"), some (.ref a2), some (.str "outer"), some (.ref wd), some (.ref pA), some (.int 1), some (.ref p1), some .non, b9, b10, b11]) ⟨rfl, rfl⟩ ?_ ?_ ?_
          · rintro i σ H6 _ ⟨rfl, _⟩
            exact SqL.of hl5'
          · rintro i x σ H6 hx
            cases hx
          · rintro σ H6 ⟨rfl, rfl⟩
            refine ⟨_, rfl, _, _, rfl, rfl, ?_⟩
            exact ⟨⟨S05, S5 _ _ h04, 2, _, _, _, _, _, rfl, .inr (.inr (.inr ⟨rfl, by rw [ed]; exact hi, p1, S5 _ _ hA4⟩))⟩, by show (2 - (1 + 1 : Int)).toNat < (2 - (1 : Int)).toNat; decide⟩
        · rw [decide_eq_false hx]
          refine iteT ?_
          refine ⟨_, rfl, _, rfl, _, rfl, _, rfl, a2, wd, p1, x, c2, r2, fi2, fo2, _, rfl, s2.same S04, hx, hw4, rfl, .inr ⟨h14, t, p0, fn, il, ?_, S4 _ _ ht3, h04⟩, fun y H5 S5 hy => ?_⟩
          · rw [valV_neg (by decide +kernel), valV_pos rfl]
          refine q y H5 (fun b o e => S5 b o (S04 b o e)) ⟨fun e => absurd e hy, fun e => ?_⟩
          rw [ed, hi] at e
          cases e
      · refine ⟨_, rfl, _, rfl, pA, _, rfl, .inl (SqL.of hA3), _, _, rfl, rfl, _, rfl, ?_⟩
        refine ite2 (fun h => absurd h (by simp)) (fun _ => ?_)
        exact q .non H3 S3 ⟨fun _ => hd, fun _ => rfl⟩
    · rintro σ H Q Q' m ⟨v, e1, v2, e2, p, xs, e3, h4, i, j, e5, e6, k, e7, q⟩
      exact ⟨v, e1, v2, e2, p, xs, e3, h4, i, j, e5, e6, k, e7, m _ _ q⟩
theorem ok_reads {C f : Addr} {fd : FuncData} (F : Fun K "reads" "reads" sReads f fd) (DU : Has P w K mg base "unread" 8 pUnread (spUnread C)) : FnOk P w K mg base CX0 9 f fd pUnread (spReads C) := by
  refine F.ok scReads (fun vs H Q E h => ?_) (fun cdv A outer s H vs Q E hr h => ?_)
  · obtain ⟨a1, a2, c1, c2, r1, r2, fi1, fo1, fi2, fo2, rfl, _⟩ := h
    rfl
  · obtain ⟨a1, a2, c1, c2, r1, r2, fi1, fo1, fi2, fo2, rfl, s1, s2, q⟩ := h
    refine ⟨_, pss_one (ps_ret (pe_cmpR op_isN (pe_has DU hr rfl (pa_cons (pv 0) (pa_cons (pv 1) (pa_cons (pv 2) (pa_cons (pv 3) pa_nil))))) pe_non (nomark _))), ?_⟩
    refine ⟨_, rfl, _, rfl, _, rfl, _, rfl, a1, a2, c1, c2, r1, r2, fi1, fo1, fi2, fo2, rfl, s1, s2, fun x H' S' hx => ⟨rfl, ?_⟩⟩
    have e : decide (x = V.non) = dueB c1 c2 fi1 fo1 fi2 fo2 := by
      cases hd : dueB c1 c2 fi1 fo1 fi2 fo2 with
      | true => exact decide_eq_true (hx.mpr hd)
      | false =>
        refine decide_eq_false fun e => ?_
        have := hx.mp e
        rw [hd] at this
        cases this
    rw [e]
    exact q H' S'
end
end Fh
set_option Elab.async false
set_option linter.all false
set_option maxRecDepth 100000
set_option maxHeartbeats 4000000
namespace Fh
open PySem L2 PyProof.Rows
/-! ### a text times a small number -/
theorem rep_size (a : Array Nat) : ∀ (k : Nat) (i : Array Nat), ((List.replicate k a).foldl (· ++ ·) i).size = i.size + k * a.size
  | 0, i => by simp
  | k + 1, i => by
    rw [List.replicate_succ, List.foldl_cons, rep_size a k, Array.size_append, Nat.succ_mul]
    omega
theorem mul_len {z : Str} {n : Int} (hz : z.length ≤ 10) (h0 : 0 ≤ n) (h1 : n ≤ 10) : (Txt.mul z n).length ≤ 100 := by
  unfold Txt.mul
  split
  · exact Nat.zero_le _
  · split
    · omega
    · show ((List.replicate n.toNat z.cps).foldl (· ++ ·) #[]).size ≤ 100
      rw [rep_size]
      have : n.toNat * z.cps.size ≤ 10 * 10 := Nat.mul_le_mul (by omega) hz
      simp
      omega
theorem mul_ok {z : Str} {n : Int} (hz : z.length ≤ 10) (h0 : 0 ≤ n) (h1 : n ≤ 10) : MulOk z n := by
  refine ⟨?_, fun h2 _ h => ?_, fun _ _ => ?_⟩
  · rw [decide_eq_false (by omega), decide_eq_false (by omega)]
    rfl
  · have : (2 ^ 63 - 1) / n ≥ 10 := by
      rw [ge_iff_le, Int.le_ediv_iff_mul_le (by omega)]
      omega
    omega
  · have : z.length * n.toNat ≤ 10 * 10 := Nat.mul_le_mul hz (by omega)
    exact decide_eq_false (Nat.not_lt.mpr (Nat.le_trans this (by decide)))
def rMulS : V → V → Hp → (V → Hp → Prop) → Prop := fun x y H Q => ∃ z n, x = .str z ∧ y = .int n ∧ z.length ≤ 10 ∧ 0 ≤ n ∧ n ≤ 10 ∧ ∀ u : Str, u.length ≤ 100 → Q (.str u) H
theorem op_mulS {X : Cx} : OpR X (binaryOp .Mult) rMulS := by
  intro pins s σ H x y v u Q I rx ry h
  obtain ⟨z, n, rfl, rfl, hz, h0, h1, q⟩ := h
  obtain ⟨t, rfl⟩ := rx
  obtain ⟨t', rfl⟩ := ry
  exact SB.mul (mul_ok hz h0 h1) fun t' k => ⟨.str (Txt.mul z n), H, I.tok _, ⟨_, rfl⟩, q _ (mul_len hz h0 h1)⟩
/-! ### names and numbers drawn -/
abbrev sNames : Stmt := top 40
abbrev sNumbers : Stmt := top 41
abbrev nNames : List Str := ["_law_bag_here", "_law_size", "_law_letters", "_law_begun", "_law_spot", "_law_word"]
def spNames : Sp := fun vs H Q _ => ∃ (b : Addr) (size : Int) (n : Nat), vs = [.ref b, .int size] ∧ Bag H b n ∧ 0 ≤ size ∧ size ≤ 20 ∧ n + 100 ≤ most ∧
  ∀ (p : Addr) (zs : List Str) (H' : Hp), H p = none → H' p = some (.lst (zs.map V.str)) → (zs.length : Int) = size → zs.Nodup → Kp b H H' → Bag H' b (n + 50) → Q (.ref p) H'
def spNumbers : Sp := fun vs H Q _ => ∃ (b : Addr) (size : Int) (n : Nat), vs = [.ref b, .int size] ∧ Bag H b n ∧ 0 ≤ size ∧ size ≤ 20 ∧ n + 100 ≤ most ∧
  ∀ (p : Addr) (ns : List Int) (H' : Hp), H p = none → H' p = some (.lst (ns.map V.int)) → (ns.length : Int) = size → (∀ x ∈ ns, 1 ≤ x ∧ x ≤ 200) → Kp b H H' → Bag H' b (n + 50) → Q (.ref p) H'
theorem abc_j (j c : Nat) (h : abc.cps.toList[j]? = some c) : c = 97 + j := by
  rw [abc_codes] at h
  have hj : j < 26 := by
    rw [List.getElem?_eq_some_iff] at h
    exact h.1
  have all : ∀ j : Nat, j < 26 → ([97, 98, 99, 100, 101, 102, 103, 104, 105, 106, 107, 108, 109, 110, 111, 112, 113, 114, 115, 116, 117, 118, 119, 120, 121, 122] : List Nat)[j]? = some (97 + j) := by decide
  rw [all j hj] at h
  cases h
  rfl
theorem tl_app (u : Str) (c : Nat) : (u ++ one c).cps.toList = u.cps.toList ++ [c] := by
  show (u.cps ++ #[c]).toList = _
  simp
theorem names_nd {zs : List Str} (h : ∀ (j : Nat) (z : Str), zs[j]? = some z → ∃ c u, abc.cps.toList[j]? = some c ∧ z = u ++ one c) : zs.Nodup := by
  refine List.pairwise_iff_getElem.mpr fun i j hi hj hij e => ?_
  obtain ⟨c, u, hc, e1⟩ := h i zs[i] (List.getElem?_eq_getElem hi)
  obtain ⟨d, v, hd, e2⟩ := h j zs[j] (List.getElem?_eq_getElem hj)
  rw [e1, e2] at e
  have e3 := congrArg (fun z : Str => z.cps.toList) e
  simp only [tl_app] at e3
  have e4 : c = d := by
    have := List.append_inj_right' e3 rfl
    simpa using this
  have := abc_j i c hc
  have := abc_j j d hd
  omega
section
variable {P : Program} {w : World} {K : PySem.W.Frag} {mg : Str → Option Value} {base : Heap}
theorem scNames : FnScope nNames ["_law_bag_here", "_law_size"] (defScope sNames) := ⟨rfl, rfl, rfl, by decide +kernel, rfl, by decide +kernel, by decide +kernel⟩
theorem ok_names {f : Addr} {fd : FuncData} (F : Fun K "_law_names" "_law_names" sNames f fd) (G : Glb mg) (DT : Has P w K mg base "_law_take" 1 pTake spTake) : FnOk P w K mg base CX0 2 f fd pTake spNames := by
  refine F.ok scNames (fun vs H Q E h => ?_) (fun cdv A outer s H vs Q E hr h => ?_)
  · obtain ⟨b, size, n, rfl, _⟩ := h
    rfl
  · obtain ⟨b, size, n, rfl, hB, s0, s1, hn, k⟩ := h
    have hn' : n + 100 ≤ 1000000 := hn
    refine ⟨_, pss_cons (ps_set (i := 2) scNames.nd rfl (Or.inr rfl) pe_str)
      (pss_cons (ps_setLc (i := 3) (own := [("_law_spot", 4)]) (g := gName 4) (tt := tYes) (te := tOp rMulS (tOp rIxS (tVar 2) (tCall spTake [] E0 (tCons (tVar 0) (tCons (tC (.int 26)) tNil)))) (tOp (rIxL K) (tLst (tCons (tC (.int 0)) (tCons (tC (.int 1)) (tCons (tC (.int 1)) (tCons (tC (.int 2)) (tCons (tC (.int 7)) tNil)))))) (tCall spTake [] E0 (tCons (tVar 0) (tCons (tC (.int 5)) tNil))))) rfl scNames.nd rfl rfl (sw_true rfl rfl rfl (by decide +kernel)) (pi_range1 rfl G.range (pa_cons (pv 1) pa_nil)) (blkOk_by (N := nNames) (sc := defScope sNames) (by decide +kernel))
        (fun _ _ _ _ _ => pg_name (i := 4) scNames.nd rfl (Or.inl rfl)) (fun _ _ _ _ _ => pts_nil)
        (fun _ _ _ _ _ => pe_op op_mulS (pe_ix ix_str (pv 2) (pe_has DT hr rfl (pa_cons (pv 0) (pa_cons pe_int pa_nil))) (fun _ _ => rfl)) (pe_ix ix_list (pe_lst (pa_cons pe_int (pa_cons pe_int (pa_cons pe_int (pa_cons pe_int (pa_cons pe_int pa_nil)))))) (pe_has DT hr rfl (pa_cons (pv 0) (pa_cons pe_int pa_nil))) (fun _ _ => rfl))))
      (pss_one (ps_ret (pe_lc (own := [("_law_spot", 4), ("_law_word", 5)]) (g := gTup K 2 (gCons (gName 4) (gCons (gName 5) gNil))) (tt := tYes) rfl scNames.nd (pi_enum rfl G.enumerate (pa_cons (pv 3) pa_nil)) (blkOk_by (N := nNames) (sc := defScope sNames) (by decide +kernel))
        (fun _ _ _ _ _ => pg_tup rfl (pgs_cons (pg_name (i := 4) scNames.nd rfl (.inl rfl)) (pgs_cons (pg_name (i := 5) scNames.nd rfl (.inl rfl)) pgs_nil))) (fun _ _ _ _ _ => pts_nil)
        (fun _ _ _ _ _ => pe_op op_add_str (pv 5) (pe_ix ix_str (pv 2) (pv 4) (fun _ _ => rfl))))))), ?_⟩
    refine ⟨_, rfl, size, rfl, by omega, by omega, fun D hD => ?_⟩
    have nDb : D ≠ b := new_ne hD hB
    refine lc_range (lo := 0) (n := size.toNat) (fun i H3 => Kp b H H3 ∧ Bag H3 b (n + 2 * i) ∧ ∃ us : List Str, H3 D = some (.lst (us.map V.str)) ∧ us.length = i ∧ ∀ u ∈ us, u.length ≤ 100) ?_ ?_ ?_
    · exact ⟨Kp.refl.new hD, hB.new hD, [], upd_same, rfl, fun u h => nomatch h⟩
    · rintro i H3 hi ⟨K3, B3, us, hD3, hl, hu⟩
      refine ⟨rfl, yes (iteT ?_)⟩
      refine ⟨_, rfl, _, rfl, b, 26, n + 2 * i, rfl, by decide, by decide, B3, by show n + 2 * i ≤ 1000000; omega, fun e H4 e0 e1 K4 B4 => ?_⟩
      obtain ⟨c, hce, hcl⟩ := abc_at e0 e1
      refine ⟨_, _, c, rfl, rfl, by decide +kernel, hce, (by show 5 ≤ sizeLine; decide), fun q hq => ?_⟩
      have nqb : q ≠ b := new_ne hq B4
      refine ⟨_, rfl, b, 5, n + 2 * i + 1, rfl, by decide, by decide, B4.new hq, by show n + 2 * i + 1 ≤ 1000000; omega, fun d H5 d0 d1 K5 B5 => ?_⟩
      have hq5 := K5 q _ nqb upd_same
      obtain ⟨y, e2, _, hy⟩ := atI_in (xs := [V.int 0, V.int 1, V.int 1, V.int 2, V.int 7]) d0 (by show d < 5; exact d1)
      have hm : ∃ m : Int, y = .int m ∧ 0 ≤ m ∧ m ≤ 10 := by
        simp only [List.mem_cons, List.not_mem_nil, or_false] at hy
        rcases hy with rfl | rfl | rfl | rfl | rfl <;> exact ⟨_, rfl, by decide, by decide⟩
      obtain ⟨m, rfl, m0, m1⟩ := hm
      refine ⟨q, _, _, _, rfl, rfl, SqL.of hq5, e2, _, m, rfl, rfl, (by show 1 ≤ 10; decide), m0, m1, fun u hu' => ?_⟩
      have K45 : Kp b H3 H5 := (K4.new hq).trans K5
      refine ⟨_, K45 D _ nDb hD3, ?_, ?_⟩
      · rw [List.length_map, hl]
        exact Nat.lt_of_lt_of_le hi (Nat.le_trans (show size.toNat ≤ 20 by omega) (by decide))
      · refine ⟨(K3.trans K45).wr hD, (B5.mono (by omega)).ne nDb, us ++ [u], ?_, by rw [List.length_append, hl]; rfl, ?_⟩
        · rw [upd_same, List.map_append]; rfl
        · intro u2 h2
          rcases List.mem_append.mp h2 with h | h
          · exact hu u2 h
          · rw [List.mem_singleton.mp h]; exact hu'
    · rintro H3 ⟨K3, B3, us, hD3, hl, hu⟩
      refine ⟨_, rfl, D, _, rfl, SqL.of hD3, fun D2 hD2 => ?_⟩
      have nD2b : D2 ≠ b := new_ne hD2 B3
      have hD2H : H D2 = none := K3.free B3.at hD2
      refine lc_it (walk_enum (K := K) (a := D) (xs := us.map V.str)) (fun i H4 => Same H3 H4 ∧ ∃ zs : List Str, H4 D2 = some (.lst (zs.map V.str)) ∧ zs.length = i ∧ ∀ (j : Nat) (z : Str), zs[j]? = some z → ∃ c u, abc.cps.toList[j]? = some c ∧ z = u ++ one c) ?_ ?_ ?_ ?_
      · exact ⟨Same.new hD2, [], upd_same, rfl, fun j z h => by simp at h⟩
      · rintro i H4 _ ⟨S4, _⟩
        exact SqL.of (S4 _ _ hD3)
      · rintro i x H4 H4' hi ⟨S4, zs, hz, lz, hzs⟩ ⟨T, x1, y1, rfl, hT, rfl, e1, e2⟩
        cases e1
        have e2 : (us.map V.str)[i]? = some y1 := e2
        rw [List.getElem?_map] at e2
        cases hui : us[i]? with
        | none => rw [hui] at e2; cases e2
        | some u =>
          rw [hui] at e2
          cases e2
          have li : i < 20 := by
            rw [List.length_map, hl] at hi
            omega
          obtain ⟨c, hce, hc2, hcm⟩ := atI_in (xs := abc.cps.toList) (i := (i : Int)) (by omega) (by rw [abc_codes]; show (i : Int) < 26; omega)
          refine ⟨T, _, rfl, SqT.of upd_same, rfl, _, _, rfl, _, _, rfl, rfl, rfl, yes (iteT ?_)⟩
          have hul := hu u (List.mem_of_getElem? hui)
          refine ⟨_, rfl, _, rfl, _, rfl, _, _, c, rfl, rfl, by decide +kernel, hce, _, _, rfl, rfl, ?_, ?_⟩
          · show u.length + 1 ≤ sizeLine
            exact Nat.le_trans (Nat.succ_le_succ hul) (by decide)
          · have S5 : Same H4 (upd H4 T (.tup [.int (i : Nat), .str u])) := Same.new hT
            refine ⟨_, S5 _ _ hz, ?_, Same.wr (fun b o e => S5 b o (S4 b o e)) hD2, zs ++ [u ++ one c], ?_, by rw [List.length_append, lz]; rfl, ?_⟩
            · rw [List.length_map, lz]
              exact Nat.lt_trans li (by decide)
            · rw [upd_same, List.map_append]; rfl
            · intro j z hj
              by_cases hjl : j < zs.length
              · rw [List.getElem?_append_left hjl] at hj
                exact hzs j z hj
              · rw [List.getElem?_append_right (by omega)] at hj
                have ej : j - zs.length = 0 := by
                  rw [List.getElem?_eq_some_iff] at hj
                  have := hj.1
                  simp at this
                  omega
                rw [ej] at hj
                cases hj
                have : j = i := by omega
                subst this
                exact ⟨c, u, by simpa using hc2, rfl⟩
      · rintro H4 ⟨S4, zs, hz, lz, hzs⟩
        refine k D2 zs H4 hD2H hz ?_ (names_nd hzs) (K3.same S4) ((B3.same S4).mono (by omega))
        rw [lz, List.length_map, hl]
        omega
abbrev nNumbers : List Str := ["_law_bag_here", "_law_size", "_law_found", "_law_last", "_law_spot"]
theorem scNumbers : FnScope nNumbers pTake (defScope sNumbers) := ⟨rfl, rfl, rfl, by decide +kernel, rfl, by decide +kernel, by decide +kernel⟩
theorem ok_numbers {f : Addr} {fd : FuncData} (F : Fun K "_law_numbers" "_law_numbers" sNumbers f fd) (G : Glb mg) (DT : Has P w K mg base "_law_take" 1 pTake spTake) : FnOk P w K mg base CX0 2 f fd pTake spNumbers := by
  refine F.ok scNumbers (fun vs H Q E h => ?_) (fun cdv A outer s H vs Q E hr h => ?_)
  · obtain ⟨b, size, n, rfl, _⟩ := h
    rfl
  · obtain ⟨b, size, n, rfl, hB, s0, s1, hn, k⟩ := h
    have hn' : n + 100 ≤ 1000000 := hn
    refine ⟨_, pss_cons (ps_par (i := 2) (j := 3) rfl scNumbers.nd rfl rfl (by decide) rfl rfl (pa_cons (pe_lst pa_nil) (pa_cons pe_int pa_nil)) (by rfl))
      (pss_cons (ps_for PassesOwn.never rfl (pi_range1 rfl G.range (pa_cons (pv 1) pa_nil)) (pg_name (i := 4) scNumbers.nd rfl (Or.inl rfl))
        (pss_cons (ps_set (i := 3) scNumbers.nd rfl (Or.inl rfl) (pe_op op_add (pe_op op_add (pv 3) pe_int) (pe_has DT hr rfl (pa_cons (pv 0) (pa_cons (pe_mid (pe_ix ix_list (pe_lst (pa_cons pe_int (pa_cons pe_int pa_nil))) (pe_has DT hr rfl (pa_cons (pv 0) (pa_cons pe_int pa_nil))) (fun _ _ => rfl))) pa_nil)))))
        (pss_one (ps_expr (pe_bm PySem.F.plainAttrs_list PySem.F.slot_list_append PySem.F.type_list_append mt_append (pv 2) (pa_cons (pv 3) pa_nil))))))
      (pss_one (ps_ret (pv 2)))), ?_⟩
    refine ⟨Nat.zero_le _, fun p hp => ⟨_, _, rfl, ?_⟩⟩
    have npb : p ≠ b := new_ne hp hB
    refine ⟨_, rfl, size, rfl, by omega, by omega, ?_⟩
    refine for_range (lo := 0) (n := size.toNat) (fun i σ H3 => ∃ (L : Int) (ns : List Int), (∃ a4, σ = [some (.ref b), some (.int size), some (.ref p), some (.int L), a4]) ∧ Kp b H H3 ∧ Bag H3 b (n + 2 * i) ∧ H3 p = some (.lst (ns.map V.int)) ∧ ns.length = i ∧ (∀ x ∈ ns, 1 ≤ x ∧ x ≤ 200) ∧ 0 ≤ L ∧ L ≤ 5 * i) ?_ ?_ ?_
    · exact ⟨0, [], ⟨_, rfl⟩, Kp.refl.new hp, hB.new hp, upd_same, rfl, (fun x h => nomatch h), by omega, by omega⟩
    · rintro i σ H3 hi ⟨L, ns, ⟨a4, rfl⟩, K3, B3, hp3, hl, hx, L0, L1⟩
      refine ⟨_, rfl, _, _, rfl, rfl, _, rfl, fun v H4 => ∃ m : Int, v = .int m ∧ 1 ≤ m ∧ m ≤ 5 ∧ Kp b H3 H4 ∧ Bag H4 b (n + 2 * i + 1), ?_, ?_⟩
      · refine ⟨(by show 2 ≤ sizeLine; decide), fun q hq => ?_⟩
        refine ⟨_, rfl, b, 2, n + 2 * i, rfl, by decide, by decide, B3.new hq, by show n + 2 * i ≤ 1000000; omega, fun d H4 d0 d1 K4 B4 => ?_⟩
        have nqb : q ≠ b := new_ne hq B3
        have hq4 := K4 q _ nqb upd_same
        have kp4 : Kp b H3 H4 := (Kp.refl.new hq).trans K4
        have hd : d = 0 ∨ d = 1 := by omega
        rcases hd with rfl | rfl
        · exact ⟨q, _, _, _, rfl, rfl, SqL.of hq4, rfl, 1, rfl, by decide, by decide, kp4, B4⟩
        · exact ⟨q, _, _, _, rfl, rfl, SqL.of hq4, rfl, 5, rfl, by decide, by decide, kp4, B4⟩
      · rintro v H4 ⟨m, rfl, m0, m1, K4, B4⟩
        refine ⟨b, m, _, rfl, by omega, by omega, B4, by show n + 2 * i + 1 ≤ 1000000; omega, fun d H5 d0 d1 K5 B5 => ?_⟩
        refine ⟨_, _, rfl, rfl, ?_⟩
        have hp5 : H5 p = some (.lst (ns.map V.int)) := K5 p _ npb (K4 p _ npb hp3)
        refine ⟨_, rfl, .inl ⟨rfl, _, SqL.of hp5⟩, _, rfl, p, _, _, rfl, rfl, hp5, ?_, ?_⟩
        · rw [List.length_map, hl]
          exact Nat.lt_trans (show i < 20 by omega) (by decide)
        · refine ⟨L + 1 + d, ns ++ [L + 1 + d], ⟨_, rfl⟩, ((K3.trans K4).trans K5).wr hp, (B5.mono (by omega)).ne npb, ?_, by rw [List.length_append, hl]; rfl, ?_, by omega, by omega⟩
          · rw [upd_same, List.map_append]; rfl
          · intro x hx'
            rcases List.mem_append.mp hx' with h | h
            · exact hx x h
            · rw [List.mem_singleton.mp h]
              omega
    · rintro σ H3 ⟨L, ns, ⟨a4, rfl⟩, K3, B3, hp3, hl, hx, L0, L1⟩
      exact ⟨_, rfl, k p ns H3 hp hp3 (by omega) hx K3 (B3.mono (by omega))⟩
end
end Fh
set_option Elab.async false
set_option linter.all false
set_option maxRecDepth 100000
set_option maxHeartbeats 4000000
namespace Fh
open PySem L2 PyProof.Rows
abbrev sInit : Stmt := inClass (top 36) 0
abbrev sFace : Stmt := top 43
structure ClsF (K : PySem.W.Frag) (mg : Str → Option Value) (C : Addr) : Prop where
  cl : Cls K C
  n1 : NoAttr K C "name"
  n2 : NoAttr K C "edition"
  n3 : NoAttr K C "choices"
  n4 : NoAttr K C "records"
  n5 : NoAttr K C "calls"
  mgC : mg "Face" = some (.ref C)
def spInitF (C : Addr) : Sp := fun vs H Q _ => ∃ (x dx : Addr) (v1 v2 v3 v4 v5 : V), vs = [.ref x, v1, v2, v3, v4, v5] ∧ H x = some (.ins C dx []) ∧ Q .non (upd H x (.ins C dx (ff v1 v2 v3 v4 v5)))
section
variable {P : Program} {w : World} {K : PySem.W.Frag} {mg : Str → Option Value} {base : Heap}
abbrev pInit : List Str := ["self", "name", "edition", "choices", "records", "calls"]
theorem scInit : FnScope pInit pInit (defScope sInit) := ⟨rfl, rfl, rfl, by decide +kernel, rfl, by decide +kernel, by decide +kernel⟩
theorem ok_init {f C : Addr} {fd : FuncData} {kws : List (Str × V)} (F : FunD K "__init__" "Face.__init__" (defArgs sInit) (defBody sInit) (defScope sInit) [] kws f fd) (T : ClsF K mg C) : FnOk P w K mg base CX0 1 f fd pInit (spInitF C) := by
  refine F.ok scInit (fun vs H Q E h => ?_) (fun cdv A outer s H vs Q E hr h => ?_)
  · obtain ⟨x, dx, v1, v2, v3, v4, v5, rfl, _⟩ := h
    rfl
  · obtain ⟨x, dx, v1, v2, v3, v4, v5, rfl, hx, k⟩ := h
    refine ⟨_, PSs.nox (pss_cons (ps_fld (pv 0) (pv 1) rfl) (pss_cons (ps_fld (pv 0) (pv 2) rfl) (pss_cons (ps_fld (pv 0) (pv 3) rfl) (pss_cons (ps_fld (pv 0) (pv 4) rfl) (pss_one (ps_fld (pv 0) (pv 5) rfl)))))), ?_⟩
    refine ⟨_, rfl, _, rfl, x, C, dx, _, rfl, hx, T.cl, T.n1, (by show 0 < 1000; decide), ?_⟩
    refine ⟨_, rfl, _, rfl, x, C, dx, _, rfl, upd_same, T.cl, T.n2, ?_, ?_⟩
    · exact Nat.lt_of_le_of_lt (putF_len _ _ _) (by show 0 + 1 < 1000; decide)
    refine ⟨_, rfl, _, rfl, x, C, dx, _, rfl, upd_same, T.cl, T.n3, ?_, ?_⟩
    · exact Nat.lt_of_le_of_lt (Nat.le_trans (putF_len _ _ _) (Nat.succ_le_succ (putF_len _ _ _))) (by show 0 + 1 + 1 < 1000; decide)
    refine ⟨_, rfl, _, rfl, x, C, dx, _, rfl, upd_same, T.cl, T.n4, ?_, ?_⟩
    · exact Nat.lt_of_le_of_lt (Nat.le_trans (putF_len _ _ _) (Nat.succ_le_succ (Nat.le_trans (putF_len _ _ _) (Nat.succ_le_succ (putF_len _ _ _))))) (by show 0 + 1 + 1 + 1 < 1000; decide)
    refine ⟨_, rfl, _, rfl, x, C, dx, _, rfl, upd_same, T.cl, T.n5, ?_, ?_⟩
    · exact Nat.lt_of_le_of_lt (Nat.le_trans (putF_len _ _ _) (Nat.succ_le_succ (Nat.le_trans (putF_len _ _ _) (Nat.succ_le_succ (Nat.le_trans (putF_len _ _ _) (Nat.succ_le_succ (putF_len _ _ _))))))) (by show 0 + 1 + 1 + 1 + 1 < 1000; decide)
    have e : upd (upd (upd (upd (upd H x (.ins C dx (putF "name" v1 []))) x (.ins C dx (putF "edition" v2 (putF "name" v1 [])))) x (.ins C dx (putF "choices" v3 (putF "edition" v2 (putF "name" v1 []))))) x (.ins C dx (putF "records" v4 (putF "choices" v3 (putF "edition" v2 (putF "name" v1 [])))))) x (.ins C dx (ff v1 v2 v3 v4 v5)) = upd H x (.ins C dx (ff v1 v2 v3 v4 v5)) := by
      rw [upd_upd, upd_upd, upd_upd, upd_upd]
    rw [← e] at k
    exact k
end
structure MkF (P : Program) (w : World) (K : PySem.W.Frag) (mg : Str → Option Value) (base : Heap) (C : Addr) : Prop where
  ex : ∃ (f : Addr) (fd : FuncData) (e1 e2 e3 : Addr), Mk K C f ∧ FnOk P w K mg base CX0 1 f fd pInit (spInitF C) ∧ FunD K "__init__" "Face.__init__" (defArgs sInit) (defBody sInit) (defScope sInit) [] [("choices", .ref e1), ("records", .ref e2), ("calls", .ref e3)] f fd
  mgC : mg "Face" = some (.ref C)
def g0 {α : Type} (us mv ws : List α) : List α := us ++ ws
section
variable {K : PySem.W.Frag} {f : Addr} {fd : FuncData} {e1 e2 e3 : Addr}
abbrev DInit (K : PySem.W.Frag) (e1 e2 e3 f : Addr) (fd : FuncData) : Prop := FunD K "__init__" "Face.__init__" (defArgs sInit) (defBody sInit) (defScope sInit) [] [("choices", .ref e1), ("records", .ref e2), ("calls", .ref e3)] f fd
theorem kb0 (F : DInit K e1 e2 e3 f fd) : ∃ mv : List Value, KBn K fd pInit 3 ["choices", "records", "calls"] (fun us ws => g0 us mv ws) (fun vs zs => g0 vs [] zs) :=
  FunD.kbinds0 F 3 ["choices", "records", "calls"] [] (fun {α} us mv ws => g0 us mv ws) (by simp) (fun q h => by cases h) (fun r1 _ r3 => r1.append r3) fun D doc pm an cdv ct us mv ws h1 h2 h3 => by
    match us, h1, ws, h3, mv, h2 with
    | [_, _, _], _, [_, _, _], _, [], _ => exact rfl
end
def spFace (C : Addr) : Sp := fun vs H Q _ => ∃ (p : Addr) (v1 v2 v3 v4 v5 : V), vs = [.ref p] ∧ H p = some (.tup [v1, v2, v3, v4, v5]) ∧
  ∀ (x dx : Addr) (H' : Hp), Same H H' → H x = none → H' x = some (.ins C dx (ff v1 v2 v3 v4 v5)) → Q (.ref x) H'
section
variable {P : Program} {w : World} {K : PySem.W.Frag} {mg : Str → Option Value} {base : Heap}
theorem scFace : FnScope ["_law_parts"] ["_law_parts"] (defScope sFace) := ⟨rfl, rfl, rfl, by decide +kernel, rfl, by decide +kernel, by decide +kernel⟩
theorem ok_face {f C : Addr} {fd : FuncData} (F : Fun K "_law_face" "_law_face" sFace f fd) (M : MkF P w K mg base C) : FnOk P w K mg base CX0 3 f fd ["_law_parts"] (spFace C) := by
  obtain ⟨fi, fdi, e1, e2, e3, mk, FI, DI⟩ := M.ex
  obtain ⟨mv, hb⟩ := kb0 DI
  refine F.ok scFace (fun vs H Q E h => ?_) (fun cdv A outer s H vs Q E hr h => ?_)
  · obtain ⟨p, v1, v2, v3, v4, v5, rfl, _⟩ := h
    rfl
  · obtain ⟨p, v1, v2, v3, v4, v5, rfl, hp, k⟩ := h
    refine ⟨_, pss_one (ps_ret (pe_makeK mk FI hr rfl M.mgC hb pass0 (pa_cons (pe_ix ix_tup (pv 0) pe_int (fun _ _ => rfl)) (pa_cons (pe_ix ix_tup (pv 0) pe_int (fun _ _ => rfl)) pa_nil))
      (pk_cons (pe_ix ix_tup (pv 0) pe_int (fun _ _ => rfl)) (pk_cons (pe_ix ix_tup (pv 0) pe_int (fun _ _ => rfl)) (pk_cons (pe_ix ix_tup (pv 0) pe_int (fun _ _ => rfl)) pk_nil))))), ?_⟩
    refine ⟨_, rfl, p, _, _, _, rfl, rfl, SqT.of hp, rfl, _, rfl, p, _, _, _, rfl, rfl, SqT.of hp, rfl, _, rfl, p, _, _, _, rfl, rfl, SqT.of hp, rfl, _, rfl, p, _, _, _, rfl, rfl, SqT.of hp, rfl, _, rfl, p, _, _, _, rfl, rfl, SqT.of hp, rfl, rfl, rfl, fun x dx hx hdx hne => ?_⟩
    refine ⟨x, dx, v1, v2, v3, v4, v5, rfl, upd_same, rfl, k x dx _ ?_ hx upd_same⟩
    refine Same.wr (Same.wr (Same.new hdx) hx) hx
end
end Fh
set_option Elab.async false
set_option linter.all false
set_option maxRecDepth 100000
set_option maxHeartbeats 4000000
namespace Fh
open PySem L2 PyProof.Rows
abbrev sLOf : Stmt := top 42
abbrev sLMark : Stmt := top 44
abbrev sLCan : Stmt := top 45
abbrev sLKR : Stmt := top 46
abbrev sLDue : Stmt := top 49
def spLOf : Sp := fun vs H Q _ => ∃ (v : V) (z : Str) (rows : List (Str × PyData)) (d : PyData), vs = [v, .str z] ∧ Tp H v (rowsD rows) ∧ rows.lookup z = some d ∧ ∀ u, Tp H u d → Q u H
def spLMark : Sp := fun vs H Q _ => ∃ (v : V) (k : Kn), vs = [v] ∧ Tp H v k.d ∧ ∀ H', Same H H' → Q (.int k.mark) H'
/-- the parts of a face, as a tuple -/
def Prt (H : Hp) (p : Addr) (chs : Chs) (rs : List (Str × PyData)) : Prop := ∃ v1 v2 v3 v4 v5 : V, H p = some (.tup [v1, v2, v3, v4, v5]) ∧ Tp H v3 (rowsD (csD chs)) ∧ Tp H v4 (rowsD rs)
theorem Prt.same {H H' : Hp} {p : Addr} {chs : Chs} {rs : List (Str × PyData)} (h : Prt H p chs rs) (s : Same H H') : Prt H' p chs rs := by
  obtain ⟨v1, v2, v3, v4, v5, e, t3, t4⟩ := h
  exact ⟨v1, v2, v3, v4, v5, s _ _ e, Tp.keep (Same.tk s) _ _ t3, Tp.keep (Same.tk s) _ _ t4⟩
def Nk.lst : Nk → Option (List Int)
  | .whole => none
  | .truth => some [0, 1]
  | .ch os => some (os.map (·.1))
def lstV (H : Hp) : Option (List Int) → V → Prop
  | none, x => x = .non
  | some l, x => ∃ q, x = .ref q ∧ H q = some (.lst (l.map V.int))
theorem lstV.same {H H' : Hp} (s : Same H H') {o : Option (List Int)} {x : V} (h : lstV H o x) : lstV H' o x := by
  cases o with
  | none => exact h
  | some l =>
    obtain ⟨q, rfl, e⟩ := h
    exact ⟨q, rfl, s _ _ e⟩
def spLCan : Sp := fun vs H Q _ => ∃ (p : Addr) (v : V) (b : Kb) (n : Nk) (chs : Chs) (rs : List (Str × PyData)), vs = [.ref p, v] ∧ Prt H p chs rs ∧ Tp H v b.d ∧ NkOf chs b n ∧
  ∀ (x : V) (H' : Hp), Same H H' → lstV H' n.lst x → Q x H'
def kindR (c1 c2 : Chs) (k1 k2 : Kn) (bd : Bool) : Bool := readK c1 c2 k1 k2 && (!isRc k1.base || bd)
def spLKR (ok : Kn → Prop) : Sp := fun vs H Q _ => ∃ (p1 p2 bd : Addr) (v1 v2 : V) (k1 k2 : Kn) (c1 c2 : Chs) (r1 r2 : List (Str × PyData)) (kvs : List (List Key × V)), vs = [.ref p1, .ref p2, v1, v2, .ref bd] ∧ Prt H p1 c1 r1 ∧ Prt H p2 c2 r2 ∧ Tp H v1 k1.d ∧ Tp H v2 k2.d ∧ okT c1 k1.base ∧ okT c2 k2.base ∧ ok k1 ∧ H bd = some (.dT kvs) ∧
  ∀ (H' : Hp), Same H H' → Q (.bl (kindR c1 c2 k1 k2 (!(valV kvs ii).isSome))) H'
/-- whether each of the few is among the wide -/
def wideB : Option (List Int) → Option (List Int) → Bool
  | none, _ => true
  | some _, none => false
  | some l, some m => m.all fun n => decide (n ∈ l)
theorem wide_all {c1 c2 : Chs} {b1 b2 : Kb} {n1 n2 : Nk} (h1 : NkOf c1 b1 n1) (h2 : NkOf c2 b2 n2) : wideB n1.lst n2.lst = n2.tell.all n1.can := by
  have rg : ∀ {c : Chs} {b : Kb} {os : List (Int × Str)}, NkOf c b (.ch os) → ∀ x ∈ os.map (·.1), 1 ≤ x ∧ x ≤ 200 := fun {c b os} h x hx => by
    cases b with
    | whole => cases (show Nk.ch os = .whole from h)
    | truth => cases (show Nk.ch os = .truth from h)
    | text => exact h.elim
    | rc z => exact h.elim
    | ch z =>
      obtain ⟨os2, _, ok, e⟩ := h
      cases e
      obtain ⟨o, ho, rfl⟩ := List.mem_map.mp hx
      exact ok.rg o ho
  cases n1 with
  | whole =>
    show true = _
    symm
    rw [List.all_eq_true]
    intro x _
    rfl
  | truth =>
    cases n2 with
    | whole => rfl
    | truth => rfl
    | ch os =>
      show (os.map (·.1)).all (fun n => decide (n ∈ [0, 1])) = (os.map (·.1)).all fun n => decide (n ≤ 1)
      rw [Bool.eq_iff_iff, List.all_eq_true, List.all_eq_true]
      constructor
      · intro h x hx
        have := of_decide_eq_true (h x hx)
        simp at this
        exact decide_eq_true (by omega)
      · intro h x hx
        have := of_decide_eq_true (h x hx)
        have := rg h2 x hx
        exact decide_eq_true (by simp; omega)
  | ch os1 =>
    cases n2 with
    | whole =>
      show false = [1000000000].all fun n => decide (n ∈ os1.map (·.1))
      symm
      rw [List.all_eq_false]
      refine ⟨1000000000, List.mem_cons_self, ?_⟩
      rw [decide_eq_true_eq]
      intro h
      have := rg h1 _ h
      omega
    | truth => rfl
    | ch os => rfl
theorem in_false (bs : List Bool) : (!inV (.bl false) (bs.map V.bl)) = bs.all id := by
  induction bs with
  | nil => rfl
  | cons b r ih =>
    show (!((eqV (.bl b) (.bl false)) || inV (.bl false) (r.map V.bl))) = (b && r.all id)
    rw [← ih]
    cases b <;> simp [eqV]
section
variable {P : Program} {w : World} {K : PySem.W.Frag} {mg : Str → Option Value} {base : Heap}
theorem scLOf : FnScope ["_law_rows", "_law_word", "_law_own_one", "_law_things"] ["_law_rows", "_law_word"] (defScope sLOf) := ⟨rfl, rfl, rfl, by decide +kernel, rfl, by decide +kernel, by decide +kernel⟩
theorem ok_lof {f : Addr} {fd : FuncData} (F : Fun K "_law_of" "_law_of" sLOf f fd) : FnOk P w K mg base CX0 1 f fd ["_law_rows", "_law_word"] spLOf := by
  refine F.ok scLOf (fun vs H Q E h => ?_) (fun cdv A outer s H vs Q E hr h => ?_)
  · obtain ⟨v, z, rows, d, rfl, _⟩ := h
    rfl
  · obtain ⟨v, z, rows, d, rfl, t, hl, k⟩ := h
    refine ⟨_, pss_cons (ps_for PassesOwn.never rfl (pi_tup (pv 0)) (pg_tup rfl (pgs_cons (pg_name (i := 2) scLOf.nd rfl (.inl rfl)) (pgs_cons (pg_name (i := 3) scLOf.nd rfl (.inl rfl)) pgs_nil)))
        (pss_one (ps_if (pt_cmpR op_eq (pv 2) (pv 1) (nomark _)) (pss_one (ps_ret (pv 3))) pss_nil))) (pss_one ps_never), ?_⟩
    obtain ⟨b, xs, rfl, hb, q⟩ := Tp.inv t
    refine ⟨_, rfl, b, rfl, ⟨_, SqT.of hb⟩, ?_⟩
    refine for_tup (xs := xs) (fun i σ H3 => H3 = H ∧ (∃ a2 a3, σ = [some (.ref b), some (.str z), a2, a3]) ∧ ∀ (j : Nat) (r : Str × PyData), j < i → rows[j]? = some r → r.1 ≠ z) ?_ ?_ ?_ ?_
    · exact ⟨rfl, ⟨_, _, rfl⟩, fun j r hj => absurd hj (Nat.not_lt_zero _)⟩
    · rintro i σ H3 _ ⟨rfl, _⟩
      exact SqT.of hb
    · rintro i x σ H3 hx ⟨rfl, ⟨a2, a3, rfl⟩, hB⟩
      obtain ⟨r, t, u, hr', rfl, ht, tu⟩ := rows_at q hx
      refine ⟨t, _, rfl, SqT.of ht, rfl, _, _, rfl, _, _, rfl, rfl, ?_⟩
      refine ⟨_, rfl, _, rfl, rfl, _, rfl, ?_⟩
      refine ite2 (fun h => ?_) (fun h => ?_)
      · have e : r.1 = z := by
          have := of_decide_eq_true h
          cases this
          rfl
        have e2 := look_first hl hr' e hB
        rw [e2] at tu
        exact ⟨_, rfl, k _ tu⟩
      · have e : r.1 ≠ z := fun q => h (decide_eq_true (by rw [q]))
        refine ⟨rfl, ⟨_, _, rfl⟩, fun j s hj hs => ?_⟩
        by_cases ej : j = i
        · rw [ej, hr'] at hs
          cases hs
          exact e
        · exact hB j s (by omega) hs
    · rintro σ H3 ⟨rfl, _, hB⟩
      obtain ⟨i, hi, e⟩ := look_at hl
      have el : xs.length = rows.length := by rw [q.length, List.length_map]
      exact hB i rows[i] (by omega) (List.getElem?_eq_getElem hi) e
theorem scLMark : FnScope ["_law_kind"] ["_law_kind"] (defScope sLMark) := ⟨rfl, rfl, rfl, by decide +kernel, rfl, by decide +kernel, by decide +kernel⟩
theorem ok_lmark {f : Addr} {fd : FuncData} (F : Fun K "_law_mark" "_law_mark" sLMark f fd) (G : Glb mg) : FnOk P w K mg base CX0 1 f fd ["_law_kind"] spLMark := by
  refine F.ok scLMark (fun vs H Q E h => ?_) (fun cdv A outer s H vs Q E hr h => ?_)
  · obtain ⟨v, k, rfl, _⟩ := h
    rfl
  · obtain ⟨v, k, rfl, t, q⟩ := h
    have hu := hu_of hr
    refine ⟨_, pss_cons (ps_if (pt_val (pe_callB call_isi (by rfl) G.isi (by decide +kernel) (pa_cons (pv 0) (pa_cons (pe_bltn (v := .ty "str") rfl G.str (by decide +kernel) rfl) pa_nil))))
        (pss_one (ps_ret (pe_op op_add pe_int (pe_callTy call_int1 (by rfl) G.int (by decide +kernel) (pa_cons (pe_cmpR op_eq (pv 0) pe_str (nomark _)) pa_nil))))) pss_nil)
      (pss_one (ps_ret (pe_dget hu (pe_disp (pps_cons pe_str pe_int (pps_cons pe_str pe_int (pps_cons pe_str pe_int pps_nil))) rfl rfl (by simp) (by decide)) (pe_ix ix_tup (pv 0) pe_int (fun _ _ => rfl)) (fun _ _ => rfl)))), ?_⟩
    rcases kn_inv t with ⟨rfl, hk⟩ | ⟨a, u, rfl, ha, tu⟩
    · refine ⟨_, rfl, _, _, .type "str", .type "str", true, rfl, .ty _, .base (.str _), rfl, true, rfl, iteT ?_⟩
      refine ⟨_, rfl, rfl, .inr ⟨_, rfl, _, _, rfl, rfl, ?_⟩⟩
      have e : (1 + if decide (V.str k.word = V.str "text") = true then (1 : Int) else 0) = k.mark := by
        rcases hk with rfl | rfl | rfl
        · rw [if_neg (by rw [decide_eq_true_eq]; exact sne (by decide +kernel : ("whole" : Str) ≠ "text"))]
          rfl
        · rw [if_neg (by rw [decide_eq_true_eq]; exact sne (by decide +kernel : ("truth" : Str) ≠ "text"))]
          rfl
        · show (1 + if decide (V.str "text" = V.str "text") = true then (1 : Int) else 0) = 2
          rw [if_pos (decide_eq_true rfl)]
          rfl
      have q1 := q H (Same.refl H)
      rw [← e] at q1
      exact q1
    · refine ⟨_, rfl, _, _, .type "tuple", .type "str", false, rfl, .ty _, .base (.tup ha), rfl, false, rfl, iteF ?_⟩
      intro p hp
      refine ⟨upd_same, [(.inr "choice", .int 1), (.inr "list", .int 3), (.inr "record", .int 4)], rfl, (by show 3 ≤ 15; decide), ?_⟩
      have S1 : Same H (upd (upd H p (.dK [])) p (.dK (mergeK [] [(.inr "choice", .int 1), (.inr "list", .int 3), (.inr "record", .int 4)]))) := Same.wr (Same.new hp) hp
      refine ⟨_, rfl, a, _, _, _, rfl, rfl, SqT.of (S1 _ _ ha), rfl, p, .int k.mark, rfl, ?_, q _ S1⟩
      have g := DGet.k (k := Sum.inr k.word) (upd_same (H := upd H p (.dK [])) (a := p) (o := .dK (mergeK [] [(.inr "choice", .int 1), (.inr "list", .int 3), (.inr "record", .int 4)])))
      have e : valV (mergeK [] [((.inr "choice" : Key), V.int 1), (.inr "list", .int 3), (.inr "record", .int 4)]) (.inr k.word) = some (.int k.mark) := by
        cases k with
        | lst c => exact (by decide +kernel : valV (mergeK [] [((.inr "choice" : Key), V.int 1), (.inr "list", .int 3), (.inr "record", .int 4)]) (.inr "list") = some (.int 3))
        | one c =>
          cases c with
          | whole => cases t
          | truth => cases t
          | text => cases t
          | rc z => exact (by decide +kernel : valV (mergeK [] [((.inr "choice" : Key), V.int 1), (.inr "list", .int 3), (.inr "record", .int 4)]) (.inr "record") = some (.int 4))
          | ch z => exact (by decide +kernel : valV (mergeK [] [((.inr "choice" : Key), V.int 1), (.inr "list", .int 3), (.inr "record", .int 4)]) (.inr "choice") = some (.int 1))
      rw [e] at g
      exact g
abbrev nLCan : List Str := ["_law_parts", "_law_kind", "_law_number", "_law_word"]
theorem scLCan : FnScope nLCan ["_law_parts", "_law_kind"] (defScope sLCan) := ⟨rfl, rfl, rfl, by decide +kernel, rfl, by decide +kernel, by decide +kernel⟩
theorem ok_lcan {f : Addr} {fd : FuncData} (F : Fun K "_law_can_be" "_law_can_be" sLCan f fd) (G : Glb mg) (DO : Has P w K mg base "_law_of" 1 ["_law_rows", "_law_word"] spLOf) : FnOk P w K mg base CX0 2 f fd ["_law_parts", "_law_kind"] spLCan := by
  refine F.ok scLCan (fun vs H Q E h => ?_) (fun cdv A outer s H vs Q E hr h => ?_)
  · obtain ⟨p, v, b, n, chs, rs, rfl, _⟩ := h
    rfl
  · obtain ⟨p, v, b, n, chs, rs, rfl, hP, t, hn, q⟩ := h
    refine ⟨_, pss_cons (ps_if (pt_val (pe_callB call_isi (by rfl) G.isi (by decide +kernel) (pa_cons (pv 1) (pa_cons (pe_bltn (v := .ty "str") rfl G.str (by decide +kernel) rfl) pa_nil))))
        (pss_one (ps_ret (pe_ifExp (pt_cmpR op_eq (pv 1) pe_str (nomark _)) (pe_lst (pa_cons pe_int (pa_cons pe_int pa_nil))) pe_non))) pss_nil)
      (pss_one (ps_ret (pe_lc (own := [("_law_number", 2), ("_law_word", 3)]) (g := gTup K 2 (gCons (gName 2) (gCons (gName 3) gNil))) (tt := tYes) (te := tVar 2) rfl scLCan.nd (pi_tup (pe_has DO hr rfl (pa_cons (pe_ix ix_tup (pv 0) pe_int (fun _ _ => rfl)) (pa_cons (pe_ix ix_tup (pv 1) pe_int (fun _ _ => rfl)) pa_nil)))) (blkOk_by (N := nLCan) (sc := defScope sLCan) (by decide +kernel))
        (fun _ _ _ _ _ => pg_tup rfl (pgs_cons (pg_name (i := 2) scLCan.nd rfl (.inl rfl)) (pgs_cons (pg_name (i := 3) scLCan.nd rfl (.inl rfl)) pgs_nil))) (fun _ _ _ _ _ => pts_nil) (fun _ _ _ _ _ => pv 2)))), ?_⟩
    cases b with
    | text => exact hn.elim
    | rc z => exact hn.elim
    | whole =>
      cases (show n = .whole from hn)
      cases Tp.istr t
      refine ⟨_, rfl, _, _, .type "str", .type "str", true, rfl, .ty _, .base (.str _), rfl, true, rfl, iteT ?_⟩
      refine ⟨_, rfl, rfl, _, rfl, ?_⟩
      refine ite2 (fun h => absurd (of_decide_eq_true h) (sne (by decide +kernel : ("whole" : Str) ≠ "truth"))) (fun _ => ?_)
      exact q .non H (Same.refl H) rfl
    | truth =>
      cases (show n = .truth from hn)
      cases Tp.istr t
      refine ⟨_, rfl, _, _, .type "str", .type "str", true, rfl, .ty _, .base (.str _), rfl, true, rfl, iteT ?_⟩
      refine ⟨_, rfl, rfl, _, rfl, ?_⟩
      refine ite2 (fun _ => ?_) (fun h => absurd (decide_eq_true rfl) h)
      exact ⟨(by show 2 ≤ sizeLine; decide), fun m hm => q _ _ (Same.new hm) ⟨m, rfl, upd_same⟩⟩
    | ch z =>
      obtain ⟨os, hl, ok, rfl⟩ := hn
      obtain ⟨c, y1, y2, rfl, hc, ty1, ty2⟩ := Tp.pair t
      cases ty2.istr
      obtain ⟨v1, v2, v3, v4, v5, hp, t3, t4⟩ := id hP
      refine ⟨_, rfl, _, _, .type "tuple", .type "str", false, rfl, .ty _, .base (.tup hc), rfl, false, rfl, iteF ?_⟩
      refine ⟨_, rfl, p, _, _, _, rfl, rfl, SqT.of hp, rfl, _, rfl, c, _, _, _, rfl, rfl, SqT.of hc, rfl, v3, z, _, _, rfl, t3, csD_look hl, fun ov tv => ?_⟩
      obtain ⟨e, xs, rfl, he, tq⟩ := Tp.inv tv
      refine ⟨e, rfl, ⟨_, SqT.of he⟩, fun D hD => ?_⟩
      refine lc_tup (xs := xs) (fun i H3 => Same H H3 ∧ H3 D = some (.lst ((os.take i).map fun o => V.int o.1))) ?_ ?_ ?_ ?_
      · exact ⟨Same.new hD, upd_same⟩
      · rintro i H3 _ ⟨S3, _⟩
        exact SqT.of (S3 _ _ he)
      · rintro i x H3 hx ⟨S3, h3⟩
        obtain ⟨o, t, ho, rfl, ht⟩ := opts_at tq hx
        refine ⟨t, _, rfl, SqT.of (S3 _ _ ht), rfl, _, _, rfl, _, _, rfl, rfl, rfl, yes (iteT ?_)⟩
        refine ⟨_, rfl, _, h3, ?_, Same.wr S3 hD, ?_⟩
        · rw [List.length_map, List.length_take]
          exact Nat.lt_of_le_of_lt (Nat.min_le_right _ _) (Nat.lt_of_le_of_lt ok.len (by decide))
        · rw [upd_same, List.take_add_one, ho]
          simp
      · rintro H3 ⟨S3, h3⟩
        have el : xs.length = os.length := by rw [tq.length, List.length_map]
        rw [el, List.take_length] at h3
        refine q _ H3 S3 ⟨D, rfl, ?_⟩
        rw [h3, List.map_map]
        rfl
end
end Fh
set_option Elab.async false
set_option linter.all false
set_option maxRecDepth 100000
set_option maxHeartbeats 4000000
namespace Fh
open PySem L2 PyProof.Rows
theorem lst_len {chs : Chs} {b : Kb} {n : Nk} (h : NkOf chs b n) {l : List Int} (e : n.lst = some l) : l.length ≤ 100 := by
  cases n with
  | whole => cases e
  | truth =>
    cases e
    decide
  | ch os =>
    cases e
    rw [List.length_map]
    cases b with
    | whole => cases (show Nk.ch os = .whole from h)
    | truth => cases (show Nk.ch os = .truth from h)
    | text => exact h.elim
    | rc z => exact h.elim
    | ch z =>
      obtain ⟨os2, _, ok, e⟩ := h
      cases e
      exact ok.len
section
variable {P : Program} {w : World} {K : PySem.W.Frag} {mg : Str → Option Value} {base : Heap}
abbrev nLKR : List Str := ["_law_own_reader", "_law_own_writer", "_law_own_one", "_law_own_other", "_law_bad", "_law_wide", "_law_few", "_law_number"]
abbrev pLKR : List Str := ["_law_own_reader", "_law_own_writer", "_law_own_one", "_law_own_other", "_law_bad"]
theorem scLKR : FnScope nLKR pLKR (defScope sLKR) := ⟨rfl, rfl, rfl, by decide +kernel, rfl, by decide +kernel, by decide +kernel⟩
theorem ok_lkr {f : Addr} {fd : FuncData} {n : Nat} {ok ok' : Kn → Prop} (F : Fun K "_law_kind_reads" "_law_kind_reads" sLKR f fd) (DM : Has P w K mg base "_law_mark" 1 ["_law_kind"] spLMark) (DC : Has P w K mg base "_law_can_be" 2 ["_law_parts", "_law_kind"] spLCan)
    (DK : Has P w K mg base "_law_kind_reads" n pLKR (spLKR ok')) (h2 : 2 ≤ n) (hok : ∀ b, ok (.lst b) → ok' (.one b)) : FnOk P w K mg base CX0 (n + 1) f fd pLKR (spLKR ok) := by
  refine F.ok scLKR (fun vs H Q E h => ?_) (fun cdv A outer s H vs Q E hr h => ?_)
  · obtain ⟨p1, p2, bd, v1, v2, k1, k2, c1, c2, r1, r2, kvs, rfl, _⟩ := h
    rfl
  · obtain ⟨p1, p2, bd, v1, v2, k1, k2, c1, c2, r1, r2, kvs, rfl, hP1, hP2, t1, t2, o1, o2, hk, hbd, q⟩ := h
    have hu := hu_of hr
    have hr2 : Room 2 _ := hr.mono h2
    have hr1 : Room 1 _ := hr2.mono (by decide)
    refine ⟨_, pss_cons (ps_if (pt_cmpR op_ne (pe_has DM hr1 rfl (pa_cons (pv 2) pa_nil)) (pe_has DM hr1 rfl (pa_cons (pv 3) pa_nil)) (nomark _)) (pss_one (ps_ret pe_bl)) pss_nil)
      (C8.pss_cut (ps_if (pt_cmpR (op_eqD hr.units) (pv 2) pe_str (nomark _)) (pss_one (ps_ret pe_bl)) pss_nil)
      (C8.pss_cut (ps_if (pt_cmpR op_eq (pe_ix ix_seq (pv 2) pe_int (fun _ _ => rfl)) pe_str (nomark _)) (pss_one (ps_ret (pe_has DK hr rfl (pa_cons (pv 0) (pa_cons (pv 1) (pa_cons (pe_ix ix_tup (pv 2) pe_int (fun _ _ => rfl)) (pa_cons (pe_ix ix_tup (pv 3) pe_int (fun _ _ => rfl)) (pa_cons (pv 4) pa_nil)))))))) pss_nil)
      (C8.pss_cut (ps_if (pt_cmpR op_eq (pe_ix ix_seq (pv 2) pe_int (fun _ _ => rfl)) pe_str (nomark _)) (pss_one (ps_ret (pe_cmp (pc_dnotin hu (pe_tup (pa_cons (pe_ix ix_tup (pv 2) pe_int (fun _ _ => rfl)) (pa_cons (pe_ix ix_tup (pv 3) pe_int (fun _ _ => rfl)) pa_nil))) (pv 4)) rfl))) pss_nil)
      (pss_cons (ps_asg (pe_tup (pa_cons (pe_has DC hr2 rfl (pa_cons (pv 0) (pa_cons (pv 2) pa_nil))) (pa_cons (pe_has DC hr2 rfl (pa_cons (pv 1) (pa_cons (pv 3) pa_nil))) pa_nil))) (pg_tup rfl (pgs_cons (pg_name (i := 5) scLKR.nd rfl (.inr rfl)) (pgs_cons (pg_name (i := 6) scLKR.nd rfl (.inl rfl)) pgs_nil))))
      (pss_one (ps_ret (pe_or (pe_cmpR op_isN (pv 5) pe_non (nomark _)) (pe_one (pe_and (pe_cmpR op_notN (pv 6) pe_non (nomark _)) (pe_one (pe_cmpR op_notIn_seq pe_bl (pe_lc (own := [("_law_number", 7)]) (g := gName 7) (tt := tYes) (te := tOp (rIn K false) (tVar 7) (tVar 5)) rfl scLKR.nd (pi_list (pv 6)) (blkOk_by (N := nLKR) (sc := defScope sLKR) (by decide +kernel))
        (fun _ _ _ _ _ => pg_name (i := 7) scLKR.nd rfl (Or.inl rfl)) (fun _ _ _ _ _ => pts_nil) (fun _ _ _ _ _ => pe_cmpR op_in_seq (pv 7) (pv 5) rfl)) rfl))))))))))), ?_⟩
    refine ⟨_, rfl, v1, k1, rfl, t1, fun H1 S1 => ?_⟩
    refine ⟨_, rfl, v2, k2, rfl, Tp.keep (Same.tk S1) _ _ t2, fun H2 S2 => ?_⟩
    have S02 : Same H H2 := fun b o e => S2 b o (S1 b o e)
    refine ⟨rfl, _, rfl, ?_⟩
    by_cases em : k1.mark = k2.mark
    rotate_left
    · refine ite2 (fun _ => ?_) (fun h => absurd (by simp [em]) h)
      have e : kindR c1 c2 k1 k2 (!(valV kvs ii).isSome) = false := by
        unfold kindR
        have : readK c1 c2 k1 k2 = false := by
          cases k1 with
          | one b1 => cases k2 with
            | one b2 =>
              show readB c1 c2 b1 b2 = false
              unfold readB
              rw [if_neg (show ¬ b1.mark = b2.mark from em)]
            | lst b2 => rfl
          | lst b1 => cases k2 with
            | one b2 => rfl
            | lst b2 => exact absurd rfl em
        rw [this]
        rfl
      have q1 := q H2 S02
      rw [e] at q1
      exact q1
    refine ite2 (fun h => ?_) (fun _ => ?_)
    · rw [em] at h
      simp at h
    have t12 := Tp.keep (Same.tk S02) _ _ t1
    have t22 := Tp.keep (Same.tk S02) _ _ t2
    have sk : SeqAt.shaped k1.d = true := by
      cases k1 with
      | one b1 => exact (okT_sh o1).shaped (by decide)
      | lst b1 => exact (Sh.tup (n := 1) (ds := [.str "list", b1.d]) fun d hd => by
          simp only [List.mem_cons, List.not_mem_nil, or_false] at hd
          rcases hd with rfl | rfl
          · exact ⟨by decide +kernel, by decide⟩
          · exact okT_sh o1).shaped (by decide)
    refine ⟨fun σ H3 => σ = [some (.ref p1), some (.ref p2), some v1, some v2, some (.ref bd), none, none, none] ∧ H3 = H2 ∧ k1 ≠ .one .text, ?_, ?_⟩
    · refine ⟨_, rfl, _, _, Tp.dp _ _ t12, .str _, sk, by decide +kernel, _, rfl, ?_⟩
      by_cases et : k1 = .one .text
      · subst et
        refine ite2 (fun _ => ?_) (fun h => absurd (by decide +kernel) h)
        have e : kindR c1 c2 (.one .text) k2 (!(valV kvs ii).isSome) = true := by
          cases k2 with
          | lst b2 => simp [Kn.mark, Kb.mark] at em
          | one b2 =>
            have em2 : Kb.text.mark = b2.mark := em
            unfold kindR
            show (readB c1 c2 .text b2 && _) = true
            unfold readB
            rw [if_pos em2]
            rfl
        have q1 := q H2 S02
        rw [e] at q1
        exact q1
      · have e : PyData.eqv k1.d (.str "text") = false := by
          cases k1 with
          | lst b1 => rfl
          | one b1 => cases b1 with
            | whole => decide +kernel
            | truth => decide +kernel
            | text => exact absurd rfl et
            | rc z => rfl
            | ch z => rfl
        rw [e]
        exact iteF ⟨rfl, rfl, et⟩
    rintro σ H3 ⟨rfl, rfl, nt⟩
    refine ⟨fun σ H4 => σ = [some (.ref p1), some (.ref p2), some v1, some v2, some (.ref bd), none, none, none] ∧ H4 = H3 ∧ ∃ b1 b2, k1 = .one b1 ∧ k2 = .one b2, ?_, ?_⟩
    · cases k1 with
      | lst b1 =>
        cases k2 with
        | one b2 =>
          exfalso
          cases b2 <;> simp [Kn.mark, Kb.mark] at em
        | lst b2 =>
          obtain ⟨q1, x1, y1, rfl, hq1, tx1, ty1⟩ := Tp.pair t12
          obtain ⟨q2, x2, y2, rfl, hq2, _, ty2⟩ := Tp.pair t22
          cases tx1.istr
          refine ⟨_, rfl, .inr (.inl ⟨q1, _, _, _, rfl, rfl, SqT.of hq1, rfl, ?_⟩)⟩
          refine ⟨rfl, _, rfl, ?_⟩
          refine ite2 (fun _ => ?_) (fun h => absurd (decide_eq_true rfl) h)
          exact ⟨_, rfl, _, rfl, _, rfl, q1, _, _, _, rfl, rfl, SqT.of hq1, rfl, _, rfl, q2, _, _, _, rfl, rfl, SqT.of hq2, rfl, _, rfl, p1, p2, bd, y1, y2, .one b1, .one b2, c1, c2, r1, r2, kvs, rfl, hP1.same S02, hP2.same S02, ty1, ty2, o1, o2, hok b1 hk, S02 _ _ hbd, fun H3 S3 => q H3 fun b o e => S3 b o (S02 b o e)⟩
      | one b1 =>
        cases k2 with
        | lst b2 =>
          exfalso
          cases b1 <;> simp [Kn.mark, Kb.mark] at em
        | one b2 =>
          rcases kn_inv t12 with ⟨rfl, h | h | h⟩ | ⟨a, u, rfl, ha, _⟩
          · cases h
            refine ⟨_, rfl, .inr (.inr ⟨_, _, 119, rfl, rfl, by decide +kernel, by decide +kernel, rfl, _, rfl, ?_⟩)⟩
            refine ite2 (fun h => absurd (of_decide_eq_true h) (sne (by decide +kernel : (⟨#[119]⟩ : Str) ≠ "list"))) (fun _ => ⟨rfl, rfl, _, _, rfl, rfl⟩)
          · cases h
            refine ⟨_, rfl, .inr (.inr ⟨_, _, 116, rfl, rfl, by decide +kernel, by decide +kernel, rfl, _, rfl, ?_⟩)⟩
            refine ite2 (fun h => absurd (of_decide_eq_true h) (sne (by decide +kernel : (⟨#[116]⟩ : Str) ≠ "list"))) (fun _ => ⟨rfl, rfl, _, _, rfl, rfl⟩)
          · exact absurd h nt
          · refine ⟨_, rfl, .inr (.inl ⟨a, _, _, _, rfl, rfl, SqT.of ha, rfl, ?_⟩)⟩
            refine ⟨rfl, _, rfl, ?_⟩
            have hl : ¬ V.str (Kn.one b1).word = V.str "list" := by
              cases b1
              · exact sne (by decide +kernel : ("whole" : Str) ≠ "list")
              · exact sne (by decide +kernel : ("truth" : Str) ≠ "list")
              · exact sne (by decide +kernel : ("text" : Str) ≠ "list")
              · exact sne (by decide +kernel : ("record" : Str) ≠ "list")
              · exact sne (by decide +kernel : ("choice" : Str) ≠ "list")
            exact ite2 (fun h => absurd (of_decide_eq_true h) hl) (fun _ => ⟨rfl, rfl, _, _, rfl, rfl⟩)
    rintro σ H4 ⟨rfl, rfl, b1, b2, rfl, rfl⟩
    have em2 : b1.mark = b2.mark := em
    have er : readK c1 c2 (.one b1) (.one b2) = if numB b1 = true then (nkB c2 b2).tell.all (nkB c1 b1).can else true := by
      show readB c1 c2 b1 b2 = _
      unfold readB
      rw [if_pos em2]
    refine ⟨fun σ H5 => σ = [some (.ref p1), some (.ref p2), some v1, some v2, some (.ref bd), none, none, none] ∧ H5 = H4 ∧ numB b1 = true ∧ isRc b1 = false, ?_, ?_⟩
    · rcases kn_inv t12 with ⟨rfl, h | h | h⟩ | ⟨a, u, rfl, ha, tu⟩
      · cases h
        refine ⟨_, rfl, .inr (.inr ⟨_, _, 119, rfl, rfl, by decide +kernel, by decide +kernel, rfl, _, rfl, ?_⟩)⟩
        exact ite2 (fun h => absurd (of_decide_eq_true h) (sne (by decide +kernel : (⟨#[119]⟩ : Str) ≠ "record"))) (fun _ => ⟨rfl, rfl, rfl, rfl⟩)
      · cases h
        refine ⟨_, rfl, .inr (.inr ⟨_, _, 116, rfl, rfl, by decide +kernel, by decide +kernel, rfl, _, rfl, ?_⟩)⟩
        exact ite2 (fun h => absurd (of_decide_eq_true h) (sne (by decide +kernel : (⟨#[116]⟩ : Str) ≠ "record"))) (fun _ => ⟨rfl, rfl, rfl, rfl⟩)
      · exact absurd h nt
      · refine ⟨_, rfl, .inr (.inl ⟨a, _, _, _, rfl, rfl, SqT.of ha, rfl, ?_⟩)⟩
        refine ⟨rfl, _, rfl, ?_⟩
        cases b1 with
        | whole => cases t12
        | truth => cases t12
        | text => cases t12
        | ch z => exact ite2 (fun h => absurd (of_decide_eq_true h) (sne (by decide +kernel : ("choice" : Str) ≠ "record"))) (fun _ => ⟨rfl, rfl, rfl, rfl⟩)
        | rc z =>
          cases (show z = "inner" from o1)
          obtain ⟨z2, rfl⟩ := mark_rc em2
          cases (show z2 = "inner" from o2)
          cases tu.istr
          obtain ⟨a2, x2, y2, rfl, ha2, _, ty2⟩ := Tp.pair t22
          cases ty2.istr
          refine ite2 (fun _ => ?_) (fun h => absurd (decide_eq_true rfl) h)
          refine ⟨_, rfl, a, _, _, _, rfl, rfl, SqT.of ha, rfl, _, rfl, a2, _, _, _, rfl, rfl, SqT.of ha2, rfl, (by show 2 ≤ sizeLine; decide), fun m hm => ?_⟩
          have S5 : Same H4 (upd H4 m (.tup [.str "inner", .str "inner"])) := Same.new hm
          have S05 : Same H (upd H4 m (.tup [.str "inner", .str "inner"])) := fun b o e => S5 b o (S02 b o e)
          refine ⟨_, rfl, bd, _, rfl, DGet.t (k := ii) (S05 _ _ hbd) upd_same, ?_⟩
          have e : kindR c1 c2 (.one (.rc "inner")) (.one (.rc "inner")) (!(valV kvs ii).isSome) = !(valV kvs ii).isSome := by
            unfold kindR
            rw [er]
            rfl
          have q1 := q _ S05
          rw [e] at q1
          exact q1
    rintro σ H5 ⟨rfl, rfl, hnum, hrc⟩
    have o1 : okT c1 b1 := o1
    have o2 : okT c2 b2 := o2
    have e : kindR c1 c2 (.one b1) (.one b2) (!(valV kvs ii).isSome) = wideB (nkB c1 b1).lst (nkB c2 b2).lst := by
      rw [wide_all (nkOf_ok o1 hnum) (nkOf_ok o2 (mark_num em2 hnum))]
      unfold kindR
      rw [er, if_pos hnum]
      show ((nkB c2 b2).tell.all (nkB c1 b1).can && (!isRc b1 || _)) = _
      rw [hrc]
      simp
    rw [e] at q
    refine ⟨_, rfl, _, rfl, p1, v1, b1, _, c1, r1, rfl, hP1.same S02, t12, nkOf_ok o1 hnum, fun x6 H6 S6 hx6 => ?_⟩
    have S06 : Same H H6 := fun b o e => S6 b o (S02 b o e)
    refine ⟨_, rfl, _, rfl, p2, v2, b2, _, c2, r2, rfl, hP2.same S06, Tp.keep (Same.tk S6) _ _ t22, nkOf_ok o2 (mark_num em2 hnum), fun x7 H7 S7 hx7 => ?_⟩
    have S07 : Same H H7 := fun b o e => S7 b o (S06 b o e)
    refine ⟨(by show 2 ≤ sizeLine; decide), fun m hm => ?_⟩
    have S8 : Same H7 (upd H7 m (.tup [x6, x7])) := Same.new hm
    have S08 : Same H (upd H7 m (.tup [x6, x7])) := fun b o e => S8 b o (S07 b o e)
    have hx6' := lstV.same (H' := upd H7 m (.tup [x6, x7])) (fun b o e => S8 b o (S7 b o e)) hx6
    have hx7' := lstV.same S8 hx7
    refine ⟨m, _, rfl, SqT.of upd_same, rfl, _, _, rfl, _, _, rfl, rfl, ?_⟩
    generalize (upd H7 m (.tup [x6, x7])) = H8 at S08 hx6' hx7' ⊢
    refine ⟨_, rfl, rfl, _, rfl, ?_⟩
    cases h6 : (nkB c1 b1).lst with
    | none =>
      rw [h6] at hx6' q
      cases (show x6 = .non from hx6')
      rw [decide_eq_true rfl]
      exact iteT (q H8 S08)
    | some l =>
      rw [h6] at hx6' q
      obtain ⟨q6, rfl, hq6⟩ := hx6'
      rw [decide_eq_false (fun e => by cases e)]
      refine iteF ?_
      refine ⟨_, rfl, rfl, _, rfl, ?_⟩
      cases h7 : (nkB c2 b2).lst with
      | none =>
        rw [h7] at hx7' q
        cases (show x7 = .non from hx7')
        rw [decide_eq_true rfl]
        exact iteF (q H8 S08)
      | some l2 =>
        rw [h7] at hx7' q
        obtain ⟨q7, rfl, hq7⟩ := hx7'
        rw [decide_eq_false (fun e => by cases e)]
        refine iteT ?_
        refine ⟨_, rfl, q7, rfl, ⟨_, SqL.of hq7⟩, fun D hD => ?_⟩
        refine lc_list (xs := l2.map V.int) (fun i H9 => Same H8 H9 ∧ H9 D = some (.lst (((l2.take i).map fun n => decide (n ∈ l)).map V.bl))) ?_ ?_ ?_ ?_
        · exact ⟨Same.new hD, upd_same⟩
        · rintro i H9 _ ⟨S9, _⟩
          exact SqL.of (S9 _ _ hq7)
        · rintro i y H9 hy ⟨S9, h9⟩
          rw [List.getElem?_map] at hy
          cases hmj : l2[i]? with
          | none => rw [hmj] at hy; cases hy
          | some mj =>
            rw [hmj] at hy
            cases hy
            refine ⟨rfl, yes (iteT ?_)⟩
            refine ⟨_, rfl, _, rfl, q6, _, rfl, .inl (SqL.of (S9 _ _ hq6)), rfl, by simp [flatV], ?_⟩
            refine ⟨_, h9, ?_, Same.wr S9 hD, ?_⟩
            · rw [List.length_map, List.length_map, List.length_take]
              exact Nat.lt_of_le_of_lt (Nat.min_le_right _ _) (Nat.lt_of_le_of_lt (lst_len (nkOf_ok o2 (mark_num em2 hnum)) h7) (by decide))
            · rw [upd_same, List.take_add_one, hmj]
              show some (HO.lst (_ ++ [V.bl (inV (V.int mj) (l.map V.int))])) = _
              rw [in_ints]
              simp
        · rintro H9 ⟨S9, h9⟩
          rw [List.length_map, List.take_length] at h9
          refine ⟨D, _, rfl, .inl (SqL.of h9), rfl, by simp [flatV], ?_⟩
          show Q (.bl (!inV (V.bl false) ((l2.map fun n => decide (n ∈ l)).map V.bl))) H9
          rw [in_false]
          have e2 : (l2.map fun n => decide (n ∈ l)).all id = wideB (some l) (some l2) := by
            show _ = l2.all fun n => decide (n ∈ l)
            rw [List.all_map]
            rfl
          rw [e2]
          exact q H9 fun b o e => S9 b o (S08 b o e)
end
end Fh
set_option Elab.async false
set_option linter.all false
set_option maxRecDepth 100000
set_option maxHeartbeats 4000000
namespace Fh
open PySem L2 PyProof.Rows
structure Pd (H : Hp) (p : Addr) (chs : Chs) (rs : List (Str × PyData)) (fi fo : Fl) : Prop where
  P : Prt H p chs rs
  g : Gd (csD chs) rs fi fo
  ok : okT chs fo.kd.base
theorem Pd.same {H H' : Hp} {p : Addr} {chs : Chs} {rs : List (Str × PyData)} {fi fo : Fl} (h : Pd H p chs rs fi fo) (s : Same H H') : Pd H' p chs rs fi fo := ⟨h.P.same s, h.g, h.ok⟩
theorem Pd.look {H : Hp} {p : Addr} {chs : Chs} {rs : List (Str × PyData)} {fi fo f : Fl} {z : Str} (h : Pd H p chs rs fi fo) (k : Pk z fi fo f) : rs.lookup z = some (fieldsD [f]) := by
  rw [h.g.rs]
  rcases k.ex with ⟨rfl, rfl⟩ | ⟨rfl, rfl⟩
  · rfl
  · rfl
theorem Pd.okf {H : Hp} {p : Addr} {chs : Chs} {rs : List (Str × PyData)} {fi fo f : Fl} {z : Str} (h : Pd H p chs rs fi fo) (k : Pk z fi fo f) : okT chs f.kd.base := by
  rcases k.ex with ⟨rfl, rfl⟩ | ⟨rfl, rfl⟩
  · rcases h.g.ik with e | e | e <;> rw [e] <;> trivial
  · exact h.ok
def dueZ (z : Str) (c1 c2 : Chs) (fi1 fo1 fi2 fo2 : Fl) : Bool := if z = "inner" then hereB c1 c2 fi1 fi2 else dueB c1 c2 fi1 fo1 fi2 fo2
def spLDue (ok : Str → Prop) : Sp := fun vs H Q _ => ∃ (p1 p2 : Addr) (z : Str) (c1 c2 : Chs) (r1 r2 : List (Str × PyData)) (fi1 fo1 fi2 fo2 f1 f2 : Fl), vs = [.ref p1, .ref p2, .str z] ∧ Pd H p1 c1 r1 fi1 fo1 ∧ Pd H p2 c2 r2 fi2 fo2 ∧ Pk z fi1 fo1 f1 ∧ Pk z fi2 fo2 f2 ∧ ok z ∧
  ∀ (H' : Hp), Same H H' → Q (.bl (dueZ z c1 c2 fi1 fo1 fi2 fo2)) H'
theorem oi : ("outer" : Str) ≠ "inner" := by decide +kernel
/-- what is due, by the field alone and what its inner record comes to -/
theorem due_is {z : Str} {c1 c2 : Chs} {fi1 fo1 fi2 fo2 f1 f2 : Fl} (k1 : Pk z fi1 fo1 f1) (k2 : Pk z fi2 fo2 f2) (g1 : plainK fi1.kd) (bd : Bool) (hb : z = "outer" → bd = hereB c1 c2 fi1 fi2) :
    dueZ z c1 c2 fi1 fo1 fi2 fo2 = if f1.num = f2.num then (if f1.must = true ∧ f2.must = false then false else kindR c1 c2 f1.kd f2.kd bd) else !f1.must := by
  unfold dueZ
  rcases k1.ex with ⟨hz, rfl⟩ | ⟨hz, rfl⟩
  · rcases k2.ex with ⟨_, rfl⟩ | ⟨hz2, _⟩
    · rw [if_pos hz]
      unfold hereB kindR
      rw [plain_rc g1]
      simp
    · rw [hz] at hz2
      exact absurd hz2.symm oi
  · rcases k2.ex with ⟨hz2, _⟩ | ⟨_, rfl⟩
    · rw [hz] at hz2
      exact absurd hz2 oi
    · rw [if_neg (by rw [hz]; exact oi), hb hz]
      unfold dueB belowB kindR
      by_cases e : f1.num = f2.num
      · rw [if_pos e, decide_eq_true e]
        conv => lhs; lhs; unfold hereB
        rw [if_pos e]
        split
        · rfl
        · simp
      · rw [if_neg e, decide_eq_false e]
        conv => lhs; lhs; unfold hereB
        rw [if_neg e]
        simp
section
variable {P : Program} {w : World} {K : PySem.W.Frag} {mg : Str → Option Value} {base : Heap}
abbrev nLDue : List Str := ["_law_own_reader", "_law_own_writer", "_law_record", "_law_number", "_law_own", "_law_kind", "_law_need", "_law_own_other", "_law_word", "_law_theirs", "_law_given", "_law_bad"]
abbrev pLDue : List Str := ["_law_own_reader", "_law_own_writer", "_law_record"]
theorem scLDue : FnScope nLDue pLDue (defScope sLDue) := ⟨rfl, rfl, rfl, by decide +kernel, rfl, by decide +kernel, by decide +kernel⟩
theorem one_field {H : Hp} {v : V} {f : Fl} (t : Tp H v (fieldsD [f])) : ∃ a t2 u, v = .ref a ∧ H a = some (.tup [.ref t2]) ∧ H t2 = some (.tup [.int f.num, .str f.nam, u, .str (needS f.must)]) ∧ Tp H u f.kd.d := by
  obtain ⟨a, xs, rfl, ha, q⟩ := Tp.inv t
  obtain ⟨x, r, rfl, tx, q⟩ := q.icons
  rw [q.inil] at ha
  obtain ⟨t2, x1, x2, x3, x4, rfl, ht, t1, t2', t3, t4⟩ := Tp.four tx
  rw [t1.iint, t2'.istr, t4.istr] at ht
  exact ⟨a, t2, x3, rfl, ha, ht, t3⟩
theorem ok_ldue {f : Addr} {fd : FuncData} {n : Nat} {ok ok' : Str → Prop} (F : Fun K "_law_due" "_law_due" sLDue f fd) (DO : Has P w K mg base "_law_of" 1 ["_law_rows", "_law_word"] spLOf) (DK : Has P w K mg base "_law_kind_reads" 4 pLKR (spLKR fun _ => True))
    (DD : Has P w K mg base "_law_due" n pLDue (spLDue ok')) (h4 : 4 ≤ n) (hok : ok "outer" → ok' "inner") : FnOk P w K mg base CX0 (n + 1) f fd pLDue (spLDue ok) := by
  refine F.ok scLDue (fun vs H Q E h => ?_) (fun cdv A outer s H vs Q E hr h => ?_)
  · obtain ⟨p1, p2, z, c1, c2, r1, r2, fi1, fo1, fi2, fo2, f1, f2, rfl, _⟩ := h
    rfl
  · obtain ⟨p1, p2, z, c1, c2, r1, r2, fi1, fo1, fi2, fo2, f1, f2, rfl, d1, d2, k1, k2, hz, q⟩ := h
    have hu := hu_of hr
    have hr4 : Room 4 _ := hr.mono h4
    have hr1 : Room 1 _ := hr4.mono (by decide)
    refine ⟨_, pss_cons (ps_asg (pe_ix ix_tup (pe_has DO hr1 rfl (pa_cons (pe_ix ix_tup (pv 0) pe_int (fun _ _ => rfl)) (pa_cons (pv 2) pa_nil))) pe_int (fun _ _ => rfl)) (pg_tup rfl (pgs_cons (pg_name (i := 3) scLDue.nd rfl (.inl rfl)) (pgs_cons (pg_name (i := 4) scLDue.nd rfl (.inl rfl)) (pgs_cons (pg_name (i := 5) scLDue.nd rfl (.inl rfl)) (pgs_cons (pg_name (i := 6) scLDue.nd rfl (.inl rfl)) pgs_nil))))))
      (pss_cons (ps_asg (pe_ix ix_tup (pe_has DO hr1 rfl (pa_cons (pe_ix ix_tup (pv 1) pe_int (fun _ _ => rfl)) (pa_cons (pv 2) pa_nil))) pe_int (fun _ _ => rfl)) (pg_tup rfl (pgs_cons (pg_name (i := 7) scLDue.nd rfl (.inl rfl)) (pgs_cons (pg_name (i := 8) scLDue.nd rfl (.inl rfl)) (pgs_cons (pg_name (i := 9) scLDue.nd rfl (.inl rfl)) (pgs_cons (pg_name (i := 10) scLDue.nd rfl (.inl rfl)) pgs_nil))))))
      (pss_cons (ps_if (pt_cmpR op_ne (pv 3) (pv 7) (nomark _)) (pss_one (ps_ret (pe_cmpR op_eq (pv 6) pe_str (nomark _)))) pss_nil)
      (C8.pss_cut (ps_if (PW.pt (pw_and (pt_cmpR op_eq (pv 6) pe_str (nomark _)) (pw_and1 (pt_cmpR op_eq (pv 10) pe_str (nomark _))))) (pss_one (ps_ret pe_bl)) pss_nil)
      (pss_cons (ps_set (i := 11) scLDue.nd rfl (Or.inl rfl) pe_dnewT)
      (C8.pss_cut (ps_if (PW.pt (pw_and (pt_cmpR op_eq (pv 2) pe_str (nomark _)) (pw_and1 (pt_not (pt_val (pe_has DD hr rfl (pa_cons (pv 0) (pa_cons (pv 1) (pa_cons pe_str pa_nil))))))))) (pss_one (ps_set (i := 11) scLDue.nd rfl (Or.inl rfl) (pe_disp1T hu (pe_tup (pa_cons pe_str (pa_cons pe_str pa_nil))) pe_bl))) pss_nil)
      (pss_one (ps_ret (pe_has DK hr4 rfl (pa_cons (pv 0) (pa_cons (pv 1) (pa_cons (pv 5) (pa_cons (pv 9) (pa_cons (pv 11) pa_nil))))))))))))), ?_⟩
    obtain ⟨v1, v2, v3, v4, v5, hp1, _, t14⟩ := d1.P
    obtain ⟨w1, w2, w3, w4, w5, hp2, _, t24⟩ := d2.P
    refine ⟨_, rfl, p1, _, _, _, rfl, rfl, SqT.of hp1, rfl, _, rfl, v4, z, _, _, rfl, t14, d1.look k1, fun ov tv => ?_⟩
    obtain ⟨a1, ta1, u1, rfl, ha1, hta1, tu1⟩ := one_field tv
    refine ⟨a1, _, _, _, rfl, rfl, SqT.of ha1, rfl, ta1, _, rfl, SqT.of hta1, rfl, _, _, rfl, _, _, rfl, _, _, rfl, _, _, rfl, rfl, ?_⟩
    refine ⟨_, rfl, p2, _, _, _, rfl, rfl, SqT.of hp2, rfl, _, rfl, w4, z, _, _, rfl, t24, d2.look k2, fun ov tv => ?_⟩
    obtain ⟨a2, ta2, u2, rfl, ha2, hta2, tu2⟩ := one_field tv
    refine ⟨a2, _, _, _, rfl, rfl, SqT.of ha2, rfl, ta2, _, rfl, SqT.of hta2, rfl, _, _, rfl, _, _, rfl, _, _, rfl, _, _, rfl, rfl, ?_⟩
    refine ⟨_, rfl, _, rfl, rfl, _, rfl, ?_⟩
    have dz := due_is (c1 := c1) (c2 := c2) k1 k2 d1.g.ik (hereB c1 c2 fi1 fi2) (fun _ => rfl)
    by_cases e : f1.num = f2.num
    rotate_left
    · refine ite2 (fun _ => ?_) (fun h => absurd (by rw [decide_eq_false (fun q => e (V.int.inj q))]; rfl) h)
      refine ⟨_, rfl, rfl, ?_⟩
      rw [need_may]
      have q1 := q H (Same.refl H)
      rw [dz, if_neg e] at q1
      exact q1
    refine ite2 (fun h => ?_) (fun _ => ?_)
    · rw [e] at h
      simp at h
    rw [if_pos e] at dz
    refine ⟨fun σ H3 => σ = [some (.ref p1), some (.ref p2), some (.str z), some (.int f1.num), some (.str f1.nam), some u1, some (.str (needS f1.must)), some (.int f2.num), some (.str f2.nam), some u2, some (.str (needS f2.must)), none] ∧ H3 = H ∧ ¬ (f1.must = true ∧ f2.must = false), ?_, ?_⟩
    · refine ⟨_, rfl, rfl, _, rfl, ?_⟩
      rw [need_must]
      cases hm : f1.must with
      | false => exact iteF (iteF ⟨rfl, rfl, fun h => by cases h.1⟩)
      | true =>
        refine iteT ?_
        refine ⟨_, rfl, rfl, _, rfl, ?_⟩
        rw [need_may]
        cases hm2 : f2.must with
        | true => exact iteF ⟨rfl, rfl, fun h => by cases h.2⟩
        | false =>
          refine iteT ?_
          have q1 := q H (Same.refl H)
          rw [dz, if_pos ⟨hm, hm2⟩] at q1
          exact q1
    rintro σ H3 ⟨rfl, rfl, hmm⟩
    intro bd0 hbd0
    refine ⟨fun σ H4 => ∃ bd kvs, σ = [some (.ref p1), some (.ref p2), some (.str z), some (.int f1.num), some (.str f1.nam), some u1, some (.str (needS f1.must)), some (.int f2.num), some (.str f2.nam), some u2, some (.str (needS f2.must)), some (.ref bd)] ∧ Same H3 H4 ∧ H4 bd = some (.dT kvs) ∧ (z = "outer" → (!(valV kvs ii).isSome) = hereB c1 c2 fi1 fi2), ?_, ?_⟩
    · refine ⟨_, rfl, rfl, _, rfl, ?_⟩
      have S1 : Same H3 (upd H3 bd0 (.dT [])) := Same.new hbd0
      by_cases hzo : z = "outer"
      · subst hzo
        refine ite2 (fun _ => ?_) (fun h => absurd (decide_eq_true rfl) h)
        have kk : ∀ {fi fo f : Fl}, Pk "outer" fi fo f → Pk "inner" fi fo fi := fun _ => ⟨.inl ⟨rfl, rfl⟩⟩
        refine ⟨_, rfl, _, rfl, p1, p2, "inner", c1, c2, r1, r2, fi1, fo1, fi2, fo2, fi1, fi2, rfl, d1.same S1, d2.same S1, kk k1, kk k2, hok hz, fun H5 S5 => ?_⟩
        have S15 : Same H3 H5 := fun b o e => S5 b o (S1 b o e)
        have ez : dueZ "inner" c1 c2 fi1 fo1 fi2 fo2 = hereB c1 c2 fi1 fi2 := by
          unfold dueZ
          rw [if_pos rfl]
        rw [ez]
        refine ⟨_, rfl, ?_⟩
        cases hi : hereB c1 c2 fi1 fi2 with
        | true => exact iteF ⟨bd0, [], rfl, S15, S5 _ _ upd_same, fun _ => rfl⟩
        | false =>
          refine iteT ?_
          intro p hp
          refine ⟨(by show 2 ≤ sizeLine; decide), fun m hm => ?_⟩
          have nmp : p ≠ m := ne_of_none upd_same hm
          refine ⟨m, ii, rfl, upd_same, (by rw [upd_ne nmp, upd_same]), ?_⟩
          refine ⟨p, [(ii, .bl true)], rfl, ?_, upd_same, fun _ => ?_⟩
          · exact Same.wr (fun b o e => Same.new hm b o (Same.new hp b o (S15 b o e))) (Same.free S15 hp)
          · rw [valV_pos rfl]
            rfl
      · refine ite2 (fun h => absurd (by have := of_decide_eq_true h; cases this; rfl) hzo) (fun _ => ?_)
        exact iteF ⟨bd0, [], rfl, S1, upd_same, fun h => absurd h hzo⟩
    · rintro σ H4 ⟨bd, kvs, rfl, S4, hb4, hbv⟩
      refine ⟨_, rfl, _, rfl, _, rfl, _, rfl, _, rfl, p1, p2, bd, u1, u2, f1.kd, f2.kd, c1, c2, r1, r2, kvs, rfl, d1.P.same S4, d2.P.same S4, Tp.keep (Same.tk S4) _ _ tu1, Tp.keep (Same.tk S4) _ _ tu2, d1.okf k1, d2.okf k2, trivial, hb4, fun H5 S5 => ?_⟩
      have dz2 := due_is (c1 := c1) (c2 := c2) k1 k2 d1.g.ik (!(valV kvs ii).isSome) hbv
      rw [if_pos e, if_neg hmm] at dz2
      have q1 := q H5 fun b o e => S5 b o (S4 b o e)
      rw [dz2] at q1
      exact q1
end
end Fh
set_option Elab.async false
set_option linter.all false
set_option maxRecDepth 100000
set_option maxHeartbeats 4000000
namespace Fh
open PySem L2 PyProof.Rows
abbrev sDrawn : Stmt := top 47
abbrev sSide : Stmt := top 48
def drawnB : Kb → Prop
  | .rc z => z = "inner"
  | .ch z => z = "alpha" ∨ z = "beta"
  | _ => True
def spDrawn : Sp := fun vs H Q _ => ∃ (b pk t0 t1 : Addr) (w0 w1 : V) (n : Nat), vs = [.ref b, .ref pk] ∧ Bag H b n ∧ H pk = some (.lst [.ref t0, .ref t1]) ∧ H t0 = some (.tup [.str "alpha", w0]) ∧ H t1 = some (.tup [.str "beta", w1]) ∧ n + 10 ≤ most ∧
  ∀ (v : V) (k : Kn) (H' : Hp), Tp H' v k.d → drawnB k.base → Kp b H H' → Bag H' b (n + 2) → Q v H'
section
variable {P : Program} {w : World} {K : PySem.W.Frag} {mg : Str → Option Value} {base : Heap}
abbrev nDrawn : List Str := ["_law_bag_here", "_law_picks", "_law_some", "_law_kind"]
theorem scDrawn : FnScope nDrawn ["_law_bag_here", "_law_picks"] (defScope sDrawn) := ⟨rfl, rfl, rfl, by decide +kernel, rfl, by decide +kernel, by decide +kernel⟩
theorem ok_drawn {f : Addr} {fd : FuncData} (F : Fun K "_law_drawn" "_law_drawn" sDrawn f fd) (DT : Has P w K mg base "_law_take" 1 pTake spTake) : FnOk P w K mg base CX0 2 f fd ["_law_bag_here", "_law_picks"] spDrawn := by
  refine F.ok scDrawn (fun vs H Q E h => ?_) (fun cdv A outer s H vs Q E hr h => ?_)
  · obtain ⟨b, pk, t0, t1, w0, w1, n, rfl, _⟩ := h
    rfl
  · obtain ⟨b, pk, t0, t1, w0, w1, n, rfl, hB, hpk, ht0, ht1, hn, k⟩ := h
    have hn' : n + 10 ≤ 1000000 := hn
    refine ⟨_, pss_cons (ps_set (i := 2) scDrawn.nd rfl (Or.inl rfl) (pe_lst (pa_cons pe_str (pa_cons pe_str (pa_cons pe_str (pa_cons pe_str (pa_cons (pe_tup (pa_cons pe_str (pa_cons pe_str pa_nil))) (pa_cons (pe_tup (pa_cons pe_str (pa_cons (pe_ix ix_tup (pe_ix ix_list (pv 1) pe_int (fun _ _ => rfl)) pe_int (fun _ _ => rfl)) pa_nil))) (pa_cons (pe_tup (pa_cons pe_str (pa_cons (pe_ix ix_tup (pe_ix ix_list (pv 1) pe_int (fun _ _ => rfl)) pe_int (fun _ _ => rfl)) pa_nil))) pa_nil)))))))))
      (pss_cons (ps_set (i := 3) scDrawn.nd rfl (Or.inl rfl) (pe_mid (pe_ix ix_list (pv 2) (pe_has DT hr rfl (pa_cons (pv 0) (pa_cons pe_int pa_nil))) (fun _ _ => rfl))))
      (pss_one (ps_ret (pe_ifExp (pt_cmpR op_eq (pe_has DT hr rfl (pa_cons (pv 0) (pa_cons pe_int pa_nil))) pe_int (nomark _)) (pe_tup (pa_cons pe_str (pa_cons (pv 3) pa_nil))) (pv 3))))), ?_⟩
    refine ⟨(by show 2 ≤ sizeLine; decide), fun m1 hm1 => ?_⟩
    have S1 : Same H (upd H m1 (.tup [.str "record", .str "inner"])) := Same.new hm1
    have e1 : (upd H m1 (.tup [.str "record", .str "inner"])) m1 = some (.tup [.str "record", .str "inner"]) := upd_same
    generalize (upd H m1 (.tup [.str "record", .str "inner"])) = H1 at S1 e1 ⊢
    refine ⟨_, rfl, pk, _, _, _, rfl, rfl, SqL.of (S1 _ _ hpk), rfl, t0, _, _, _, rfl, rfl, SqT.of (S1 _ _ ht0), rfl, (by show 2 ≤ sizeLine; decide), fun m2 hm2 => ?_⟩
    have S2 : Same H1 (upd H1 m2 (.tup [.str "choice", .str "alpha"])) := Same.new hm2
    have e2 : (upd H1 m2 (.tup [.str "choice", .str "alpha"])) m2 = some (.tup [.str "choice", .str "alpha"]) := upd_same
    generalize (upd H1 m2 (.tup [.str "choice", .str "alpha"])) = H2 at S2 e2 ⊢
    refine ⟨_, rfl, pk, _, _, _, rfl, rfl, SqL.of (S2 _ _ (S1 _ _ hpk)), rfl, t1, _, _, _, rfl, rfl, SqT.of (S2 _ _ (S1 _ _ ht1)), rfl, (by show 2 ≤ sizeLine; decide), fun m3 hm3 => ?_⟩
    have S3 : Same H2 (upd H2 m3 (.tup [.str "choice", .str "beta"])) := Same.new hm3
    have e3 : (upd H2 m3 (.tup [.str "choice", .str "beta"])) m3 = some (.tup [.str "choice", .str "beta"]) := upd_same
    generalize (upd H2 m3 (.tup [.str "choice", .str "beta"])) = H3 at S3 e3 ⊢
    refine ⟨(by show 7 ≤ sizeLine; decide), fun l hl => ?_⟩
    have S4 : Same H3 (upd H3 l (.lst [.str "whole", .str "truth", .str "text", .str "truth", .ref m1, .ref m2, .ref m3])) := Same.new hl
    have e4 : (upd H3 l (.lst [.str "whole", .str "truth", .str "text", .str "truth", .ref m1, .ref m2, .ref m3])) l = some (.lst [.str "whole", .str "truth", .str "text", .str "truth", .ref m1, .ref m2, .ref m3]) := upd_same
    generalize (upd H3 l (.lst [.str "whole", .str "truth", .str "text", .str "truth", .ref m1, .ref m2, .ref m3])) = H4 at S4 e4 ⊢
    have S04 : Same H H4 := fun b o e => S4 b o (S3 b o (S2 b o (S1 b o e)))
    have B4 := hB.same S04
    have nlb : l ≠ b := fun e => by
      rw [e] at e4
      obtain ⟨x, y, z, h, _⟩ := B4
      rw [h] at e4
      cases e4
    refine ⟨fun v H5 => ∃ c : Kb, Tp H5 v c.d ∧ drawnB c ∧ Kp b H H5 ∧ Bag H5 b (n + 1), ?_, ?_⟩
    · refine ⟨_, rfl, _, rfl, b, 7, n, rfl, by decide, by decide, B4, by show n ≤ 1000000; omega, fun d H5 d0 d1 K5 B5 => ?_⟩
      have e5 := K5 l _ nlb e4
      have K05 : Kp b H H5 := fun a o ne e => K5 a o ne (S04 a o e)
      have tk5 := K5.tk B4
      obtain ⟨y, ey, _, hy⟩ := atI_in (xs := [V.str "whole", V.str "truth", V.str "text", V.str "truth", V.ref m1, V.ref m2, V.ref m3]) d0 (by show d < 7; exact d1)
      have f1 : H5 m1 = some (.tup [.str "record", .str "inner"]) := tk5 _ _ (S4 _ _ (S3 _ _ (S2 _ _ e1)))
      have f2 : H5 m2 = some (.tup [.str "choice", .str "alpha"]) := tk5 _ _ (S4 _ _ (S3 _ _ e2))
      have f3 : H5 m3 = some (.tup [.str "choice", .str "beta"]) := tk5 _ _ (S4 _ _ e3)
      refine ⟨l, _, _, _, rfl, rfl, SqL.of e5, ey, ?_⟩
      simp only [List.mem_cons, List.not_mem_nil, or_false] at hy
      rcases hy with rfl | rfl | rfl | rfl | rfl | rfl | rfl
      · exact ⟨.whole, .str _, trivial, K05, B5⟩
      · exact ⟨.truth, .str _, trivial, K05, B5⟩
      · exact ⟨.text, .str _, trivial, K05, B5⟩
      · exact ⟨.truth, .str _, trivial, K05, B5⟩
      · exact ⟨.rc "inner", .tup f1 (.cons (.str _) (.cons (.str _) .nil)), rfl, K05, B5⟩
      · exact ⟨.ch "alpha", .tup f2 (.cons (.str _) (.cons (.str _) .nil)), .inl rfl, K05, B5⟩
      · exact ⟨.ch "beta", .tup f3 (.cons (.str _) (.cons (.str _) .nil)), .inr rfl, K05, B5⟩
    · rintro v H5 ⟨c, tc, hc, K5, B5⟩
      refine ⟨_, rfl, b, 3, n + 1, rfl, by decide, by decide, B5, by show n + 1 ≤ 1000000; omega, fun d H6 d0 d1 K6 B6 => ?_⟩
      have tc6 := Tp.keep (K6.tk B5) _ _ tc
      refine ⟨rfl, _, rfl, ?_⟩
      refine ite2 (fun _ => ?_) (fun _ => ?_)
      · refine ⟨_, rfl, (by show 2 ≤ sizeLine; decide), fun m hm => ?_⟩
        exact k _ (.lst c) _ (.tup upd_same (.cons (.str _) (.cons (Tp.keep (Tk.new hm) _ _ tc6) .nil))) hc ((K5.trans K6).new hm) (B6.new hm)
      · exact ⟨_, rfl, k _ (.one c) _ tc6 hc (K5.trans K6) B6⟩
end
end Fh
set_option Elab.async false
set_option linter.all false
set_option maxRecDepth 100000
set_option maxHeartbeats 4000000
namespace Fh
open PySem L2 PyProof.Rows
def spSide : Sp := fun vs H Q _ => ∃ (b : Addr) (num : Int) (n : Nat), vs = [.ref b, .int num] ∧ Bag H b n ∧ n + 1000 ≤ most ∧
  ∀ (p : Addr) (chs : Chs) (rs : List (Str × PyData)) (fi fo : Fl) (H' : Hp), Pd H' p chs rs fi fo → H p = none → Kp b H H' → Bag H' b (n + 600) → Q (.ref p) H'
theorem Pd.kp {b : Addr} {H H' : Hp} {n : Nat} {p : Addr} {chs : Chs} {rs : List (Str × PyData)} {fi fo : Fl} (h : Pd H p chs rs fi fo) (k : Kp b H H') (hb : Bag H b n) : Pd H' p chs rs fi fo := by
  obtain ⟨⟨v1, v2, v3, v4, v5, e, t3, t4⟩, g, ok⟩ := h
  have tk := k.tk hb
  exact ⟨⟨v1, v2, v3, v4, v5, tk _ _ e, Tp.keep tk _ _ t3, Tp.keep tk _ _ t4⟩, g, ok⟩
def optP (o : Int × Str) : PyData := .tuple [.int o.1, .str o.2]
def rowP (r : Str × PyData) : PyData := .tuple [.str r.1, r.2]
theorem okT_drawn {o0 o1 : List (Int × Str)} (h0 : OptsOk o0) (h1 : OptsOk o1) {c : Kb} (h : drawnB c) : okT [("alpha", o0), ("beta", o1)] c := by
  cases c with
  | whole => trivial
  | truth => trivial
  | text => trivial
  | rc z => exact h
  | ch z =>
    rcases h with rfl | rfl
    · exact ⟨⟨o0, rfl, h0⟩, by decide +kernel⟩
    · exact ⟨⟨o1, rfl, h1⟩, by decide +kernel⟩
section
variable {P : Program} {w : World} {K : PySem.W.Frag} {mg : Str → Option Value} {base : Heap}
abbrev nSide : List Str := ["_law_bag_here", "_law_number", "_law_picks", "_law_word", "_law_numbers_here", "_law_kind", "_law_need", "_law_inner", "_law_outer", "_law_own_one", "_law_own"]
theorem scSide : FnScope nSide ["_law_bag_here", "_law_number"] (defScope sSide) := ⟨rfl, rfl, rfl, by decide +kernel, rfl, by decide +kernel, by decide +kernel⟩
theorem zip_snd : ∀ {ns : List Int} {zs : List Str}, ns.length = zs.length → (ns.zip zs).map (·.2) = zs
  | [], [], _ => rfl
  | n :: ns, z :: zs, h => by
    show z :: (ns.zip zs).map (·.2) = _
    rw [zip_snd (Nat.succ.inj h)]
theorem ok_side {f : Addr} {fd : FuncData} (F : Fun K "_law_side" "_law_side" sSide f fd) (G : Glb mg) (DT : Has P w K mg base "_law_take" 1 pTake spTake) (DN : Has P w K mg base "_law_names" 2 pTake spNames) (DU : Has P w K mg base "_law_numbers" 2 pTake spNumbers) (DD : Has P w K mg base "_law_drawn" 2 ["_law_bag_here", "_law_picks"] spDrawn) : FnOk P w K mg base CX0 3 f fd ["_law_bag_here", "_law_number"] spSide := by
  refine F.ok scSide (fun vs H Q E h => ?_) (fun cdv A outer s H vs Q E hr h => ?_)
  · obtain ⟨b, num, n, rfl, _⟩ := h
    rfl
  · obtain ⟨b, num, n, rfl, hB, hn, k⟩ := h
    have hn' : n + 1000 ≤ 1000000 := hn
    have hr1 : Room 1 _ := hr.mono (by decide)
    refine ⟨_, pss_cons (ps_set (i := 2) scSide.nd rfl (Or.inl rfl) (pe_lst pa_nil))
      (pss_cons (ps_for PassesOwn.never rfl (pi_list (pe_lst (pa_cons pe_str (pa_cons pe_str pa_nil)))) (pg_name (i := 3) scSide.nd rfl (Or.inl rfl))
        (pss_cons (ps_set (i := 4) scSide.nd rfl (Or.inl rfl) (pe_mid (pe_ix ix_list (pe_lst (pa_cons (pe_lst (pa_cons pe_int pa_nil)) (pa_cons (pe_has DU hr rfl (pa_cons (pv 0) (pa_cons (pe_op op_add pe_int (pe_has DT hr1 rfl (pa_cons (pv 0) (pa_cons pe_int pa_nil)))) pa_nil))) pa_nil))) (pe_has DT hr1 rfl (pa_cons (pv 0) (pa_cons pe_int pa_nil))) (fun _ _ => rfl))))
        (pss_one (ps_expr (pe_bm PySem.F.plainAttrs_list PySem.F.slot_list_append PySem.F.type_list_append mt_append (pv 2) (pa_cons (pe_tup (pa_cons (pv 3) (pa_cons (pe_callTy call_tuple_of (by rfl) G.tuple (by decide +kernel) (pa_cons (pe_lc (own := [("_law_own_one", 9), ("_law_own", 10)]) (g := gTup K 2 (gCons (gName 9) (gCons (gName 10) gNil))) (tt := tYes) (te := tTup (tCons (tVar 9) (tCons (tVar 10) tNil))) rfl scSide.nd (pi_zip rfl G.zip (pa_cons (pv 4) (pa_cons (pe_has DN hr rfl (pa_cons (pv 0) (pa_cons (pe_callB call_len_seq (by rfl) G.len PySem.boot_len (pa_cons (pv 4) pa_nil)) pa_nil))) pa_nil))) (blkOk_by (N := nSide) (sc := defScope sSide) (by decide +kernel))
          (fun _ _ _ _ _ => pg_tup rfl (pgs_cons (pg_name (i := 9) scSide.nd rfl (.inl rfl)) (pgs_cons (pg_name (i := 10) scSide.nd rfl (.inl rfl)) pgs_nil))) (fun _ _ _ _ _ => pts_nil) (fun _ _ _ _ _ => pe_tup (pa_cons (pv 9) (pa_cons (pv 10) pa_nil)))) pa_nil)) pa_nil))) pa_nil))))))
      (pss_cons (ps_par (i := 5) (j := 6) rfl scSide.nd rfl rfl (by decide) rfl rfl (pa_cons (pe_has DD hr rfl (pa_cons (pv 0) (pa_cons (pv 2) pa_nil))) (pa_cons (pe_mid (pe_ix ix_list (pe_lst (pa_cons pe_str (pa_cons pe_str pa_nil))) (pe_has DT hr1 rfl (pa_cons (pv 0) (pa_cons pe_int pa_nil))) (fun _ _ => rfl))) pa_nil)) (by rfl))
      (pss_cons (ps_set (i := 7) scSide.nd rfl (Or.inl rfl) (pe_mid (pe_tup (pa_cons pe_str (pa_cons (pe_tup (pa_cons (pe_tup (pa_cons pe_int (pa_cons pe_str (pa_cons (pe_mid (pe_ix ix_list (pe_lst (pa_cons pe_str (pa_cons pe_str (pa_cons pe_str pa_nil)))) (pe_has DT hr1 rfl (pa_cons (pv 0) (pa_cons pe_int pa_nil))) (fun _ _ => rfl))) (pa_cons (pe_mid (pe_ix ix_list (pe_lst (pa_cons pe_str (pa_cons pe_str pa_nil))) (pe_has DT hr1 rfl (pa_cons (pv 0) (pa_cons pe_int pa_nil))) (fun _ _ => rfl))) pa_nil))))) pa_nil)) pa_nil)))))
      (pss_cons (ps_set (i := 8) scSide.nd rfl (Or.inl rfl) (pe_mid (pe_tup (pa_cons pe_str (pa_cons (pe_tup (pa_cons (pe_tup (pa_cons (pv 1) (pa_cons (pe_ix ix_list (pe_has DN hr rfl (pa_cons (pv 0) (pa_cons pe_int pa_nil))) pe_int (fun _ _ => rfl)) (pa_cons (pv 5) (pa_cons (pv 6) pa_nil))))) pa_nil)) pa_nil)))))
      (pss_one (ps_ret (pe_tup (pa_cons pe_str (pa_cons (pe_op op_add pe_int (pe_has DT hr1 rfl (pa_cons (pv 0) (pa_cons pe_int pa_nil)))) (pa_cons (pe_callTy call_tuple_of (by rfl) G.tuple (by decide +kernel) (pa_cons (pv 2) pa_nil)) (pa_cons (pe_tup (pa_cons (pv 7) (pa_cons (pv 8) pa_nil))) (pa_cons (pe_tup pa_nil) pa_nil)))))))))))), ?_⟩
    refine ⟨Nat.zero_le _, fun pk hpk => ?_⟩
    have npkb : pk ≠ b := new_ne hpk hB
    refine ⟨(by show 2 ≤ sizeLine; decide), fun lw hlw => ?_⟩
    have nlwb : lw ≠ b := new_ne hlw (hB.new hpk)
    have npl : lw ≠ pk := fun e => by rw [e, upd_same] at hlw; cases hlw
    refine ⟨lw, rfl, ⟨_, SqL.of upd_same⟩, ?_⟩
    have needs : ∀ (σ : L2.St) (H1 : Hp) (m : Nat), Bag H1 b m → m ≤ 999990 → σ[0]? = some (some (.ref b)) → (tOp (rIxL K) (tLst (tCons (tC (.str "must")) (tCons (tC (.str "may")) tNil))) (tCall spTake [] E0 (tCons (tVar 0) (tCons (tC (.int 2)) tNil)))) σ H1 fun v H2 => ∃ mu : Bool, v = .str (needS mu) ∧ Kp b H1 H2 ∧ Bag H2 b (m + 1) := by
      intro σ H1 m B1 hm h0
      refine ⟨(by show 2 ≤ sizeLine; decide), fun q hq => ?_⟩
      have nqb : q ≠ b := new_ne hq B1
      refine ⟨_, h0, b, 2, m, rfl, by decide, by decide, B1.new hq, by show m ≤ 1000000; omega, fun d H2 d0 d1 K2 B2 => ?_⟩
      have hq2 := K2 q _ nqb upd_same
      have kp : Kp b H1 H2 := (Kp.refl.new hq).trans K2
      have hd : d = 0 ∨ d = 1 := by omega
      rcases hd with rfl | rfl
      · exact ⟨q, _, _, _, rfl, rfl, SqL.of hq2, rfl, true, rfl, kp, B2⟩
      · exact ⟨q, _, _, _, rfl, rfl, SqL.of hq2, rfl, false, rfl, kp, B2⟩
    refine for_list (xs := [.str "alpha", .str "beta"]) (fun i σ H3 => ∃ (chs : Chs) (vs : List V), (∃ a3 a4 a5 a6 a7 a8 a9 a10, σ = [some (.ref b), some (.int num), some (.ref pk), a3, a4, a5, a6, a7, a8, a9, a10]) ∧ Kp b H H3 ∧ Bag H3 b (n + 150 * i) ∧ H3 lw = some (.lst [.str "alpha", .str "beta"]) ∧ H3 pk = some (.lst vs) ∧ TpAll H3 vs ((csD chs).map rowP) ∧ chs.map (·.1) = (["alpha", "beta"] : List Str).take i ∧ ∀ c ∈ chs, OptsOk c.2) ?_ ?_ ?_ ?_
    · refine ⟨[], [], ⟨_, _, _, _, _, _, _, _, rfl⟩, (Kp.refl.new hpk).new hlw, (hB.new hpk).new hlw, upd_same, ?_, .nil, rfl, fun c h => nomatch h⟩
      rw [upd_ne npl.symm, upd_same]
    · rintro i σ H3 _ ⟨_, _, _, _, _, h, _⟩
      exact SqL.of h
    · rintro i x σ H3 hx ⟨chs, vs, ⟨a3, a4, a5, a6, a7, a8, a9, a10, rfl⟩, K3, B3, hlw3, hpk3, tvs, hnm, hoks⟩
      have hi : i < 2 := by
        rw [List.getElem?_eq_some_iff] at hx
        exact hx.1
      have hword : ∃ wz : Str, x = .str wz ∧ (["alpha", "beta"] : List Str)[i]? = some wz := by
        rcases (by omega : i = 0 ∨ i = 1) with rfl | rfl
        · cases hx
          exact ⟨_, rfl, rfl⟩
        · cases hx
          exact ⟨_, rfl, rfl⟩
      obtain ⟨wz, rfl, hwz⟩ := hword
      refine ⟨fun v H4 => ∃ (q : Addr) (ns : List Int), v = .ref q ∧ H4 q = some (.lst (ns.map V.int)) ∧ 1 ≤ ns.length ∧ ns.length ≤ 6 ∧ (∀ x ∈ ns, 1 ≤ x ∧ x ≤ 200) ∧ q ≠ b ∧ Kp b H3 H4 ∧ Bag H4 b (n + 150 * i + 52), ?_, ?_⟩
      · refine ⟨(by show 1 ≤ sizeLine; decide), fun q1 hq1 => ?_⟩
        have nq1b : q1 ≠ b := new_ne hq1 B3
        refine ⟨_, rfl, _, rfl, b, 6, n + 150 * i, rfl, by decide, by decide, B3.new hq1, by show n + 150 * i ≤ 1000000; omega, fun d H4 d0 d1 K4 B4 => ?_⟩
        refine ⟨_, _, rfl, rfl, b, 1 + d, n + 150 * i + 1, rfl, B4, by omega, by omega, by show n + 150 * i + 1 + 100 ≤ 1000000; omega, fun q2 ns H5 hq2 hq5 hl5 hns K5 B5 => ?_⟩
        have nq2b : q2 ≠ b := new_ne hq2 B4
        refine ⟨(by show 2 ≤ sizeLine; decide), fun q3 hq3 => ?_⟩
        have nq3b : q3 ≠ b := new_ne hq3 B5
        refine ⟨_, rfl, b, 2, n + 150 * i + 1 + 50, rfl, by decide, by decide, B5.new hq3, by show n + 150 * i + 1 + 50 ≤ 1000000; omega, fun e H6 e0 e1 K6 B6 => ?_⟩
        have h36 := K6 q3 _ nq3b upd_same
        have K36 : Kp b H3 H6 := (((Kp.refl.new hq1).trans K4).trans (K5.new hq3)).trans K6
        have he : e = 0 ∨ e = 1 := by omega
        rcases he with rfl | rfl
        · refine ⟨q3, _, _, _, rfl, rfl, SqL.of h36, rfl, q1, [1], rfl, ?_, by decide, by decide, fun x hx => by rw [List.mem_singleton.mp hx]; decide, nq1b, K36, B6.mono (by omega)⟩
          have h4 := K4 q1 _ nq1b upd_same
          exact K6 q1 _ nq1b ((K5.new hq3) q1 _ nq1b h4)
        · refine ⟨q3, _, _, _, rfl, rfl, SqL.of h36, rfl, q2, ns, rfl, ?_, by omega, by omega, hns, nq2b, K36, B6.mono (by omega)⟩
          exact K6 q2 _ nq2b (by rw [upd_ne (ne_of_none hq5 hq3)]; exact hq5)
      · rintro v H4 ⟨q, ns, rfl, hq4, l1, l6, hns, nqb, K4, B4⟩
        have hpk4 := K4 pk _ npkb hpk3
        refine ⟨_, rfl, .inl ⟨rfl, _, SqL.of hpk4⟩, _, rfl, _, rfl, _, rfl, _, rfl, q, _, rfl, .inl (SqL.of hq4), b, _, n + 150 * i + 52, rfl, B4, by omega, by rw [List.length_map]; omega, by show n + 150 * i + 52 + 100 ≤ 1000000; omega, fun qz zs H5 hqz hqz5 hlz hnd K5 B5 => ?_⟩
        have hq5 := K5 q _ nqb hq4
        have hlz2 : ns.length = zs.length := by
          rw [List.length_map] at hlz
          omega
        refine ⟨q, qz, _, _, rfl, SqL.of hq5, SqL.of hqz5, fun D hD => ?_⟩
        have nDb : D ≠ b := new_ne hD B5
        have osl : (ns.zip zs).length = ns.length := by rw [List.length_zip, hlz2]; exact Nat.min_self _
        refine lc_it (walk_zip (K := K) (a := q) (b := qz) (xs := ns.map V.int) (ys := zs.map V.str) (n := ns.length) (by rw [List.length_map, List.length_map, hlz2]; exact (Nat.min_self _).symm)) (fun j H6 => Same H5 H6 ∧ ∃ us : List V, H6 D = some (.lst us) ∧ TpAll H6 us (((ns.zip zs).take j).map optP)) ?_ ?_ ?_ ?_
        · exact ⟨Same.new hD, [], upd_same, .nil⟩
        · rintro j H6 _ ⟨S6, _⟩
          exact ⟨SqL.of (S6 _ _ hq5), SqL.of (S6 _ _ hqz5)⟩
        · rintro j y H6 H6' hj ⟨S6, us, hD6, tus⟩ ⟨T, x1, y1, rfl, hT, rfl, e1, e2⟩
          have e1 : (ns.map V.int)[j]? = some x1 := e1
          have e2 : (zs.map V.str)[j]? = some y1 := e2
          rw [List.getElem?_map, List.getElem?_eq_getElem hj] at e1
          rw [List.getElem?_map, List.getElem?_eq_getElem (show j < zs.length by omega)] at e2
          cases e1
          cases e2
          refine ⟨T, _, rfl, SqT.of upd_same, rfl, _, _, rfl, _, _, rfl, rfl, rfl, yes (iteT ?_)⟩
          have S7 : Same H6 (upd H6 T (.tup [.int ns[j], .str (zs[j]'(by omega))])) := Same.new hT
          refine ⟨_, rfl, _, rfl, (by show 2 ≤ sizeLine; decide), fun T2 hT2 => ?_⟩
          have S8 : Same (upd H6 T (.tup [.int ns[j], .str (zs[j]'(by omega))])) (upd (upd H6 T (.tup [.int ns[j], .str (zs[j]'(by omega))])) T2 (.tup [.int ns[j], .str (zs[j]'(by omega))])) := Same.new hT2
          have hD8 := S8 _ _ (S7 _ _ hD6)
          have nTD : T2 ≠ D := fun e => by rw [e, S7 _ _ hD6] at hT2; cases hT2
          have hl : us.length = j := by
            rw [tus.length, List.length_map, List.length_take, osl]
            omega
          refine ⟨_, hD8, by rw [hl]; exact Nat.lt_of_lt_of_le hj (Nat.le_trans l6 (by decide)), ?_⟩
          have tk8 : Tk H6 (upd (upd (upd H6 T (.tup [.int ns[j], .str (zs[j]'(by omega))])) T2 (.tup [.int ns[j], .str (zs[j]'(by omega))])) D (.lst (us ++ [.ref T2]))) := fun a xs e => by
            rw [upd_ne (fun e2 => by rw [e2, hD6] at e; cases e)]
            exact S8 _ _ (S7 _ _ e)
          refine ⟨Same.wr (fun b o e => S8 b o (S7 b o (S6 b o e))) hD, us ++ [.ref T2], upd_same, ?_⟩
          rw [List.take_add_one, List.getElem?_eq_getElem (show j < (ns.zip zs).length by omega)]
          show TpAll _ _ (((ns.zip zs).take j ++ [(ns.zip zs)[j]'(by omega)]).map optP)
          rw [List.map_append]
          refine TpAll.app (TpAll.keep tk8 _ _ tus) (.cons (.tup (xs := [.int ns[j], .str (zs[j]'(by omega))]) ?_ ?_) .nil)
          · rw [upd_ne nTD, upd_same]
          · rw [List.getElem_zip]
            exact .cons (.int _) (.cons (.str _) .nil)
        · rintro H6 ⟨S6, us, hD6, tus⟩
          rw [List.take_of_length_le (by omega)] at tus
          refine ⟨D, us, rfl, .inl ⟨SqL.of hD6, fun m hm => ?_⟩⟩
          have S7 : Same H6 (upd H6 m (.tup us)) := Same.new hm
          refine ⟨(by show 2 ≤ sizeLine; decide), fun m2 hm2 => ?_⟩
          have S8 : Same (upd H6 m (.tup us)) (upd (upd H6 m (.tup us)) m2 (.tup [.str wz, .ref m])) := Same.new hm2
          have S58 : Same H5 (upd (upd H6 m (.tup us)) m2 (.tup [.str wz, .ref m])) := fun b o e => S8 b o (S7 b o (S6 b o e))
          have hpk5 := K5 pk _ npkb hpk4
          have hpk8 := S58 _ _ hpk5
          have hm8 : (upd (upd H6 m (.tup us)) m2 (.tup [.str wz, .ref m])) m = some (.tup us) := S8 _ _ upd_same
          have hm28 : (upd (upd H6 m (.tup us)) m2 (.tup [.str wz, .ref m])) m2 = some (.tup [.str wz, .ref m]) := upd_same
          have tus8 := TpAll.keep (Tk.trans (Same.tk S7) (Same.tk S8)) _ _ tus
          have K38 : Kp b H3 (upd (upd H6 m (.tup us)) m2 (.tup [.str wz, .ref m])) := (K4.trans K5).same S58
          have B8 := B5.same S58
          have hlw8 := K38 lw _ nlwb hlw3
          have tvs8 := TpAll.keep (K38.tk B3) _ _ tvs
          generalize (upd (upd H6 m (.tup us)) m2 (.tup [.str wz, .ref m])) = H8 at hpk8 hm8 hm28 tus8 K38 B8 hlw8 tvs8 ⊢
          have lvs : vs.length ≤ 2 := by
            rw [tvs.length, List.length_map]
            have := congrArg List.length hnm
            rw [List.length_map, List.length_take] at this
            unfold csD
            rw [List.length_map, this]
            exact Nat.min_le_right _ _
          refine ⟨pk, _, _, rfl, rfl, hpk8, Nat.lt_of_le_of_lt lvs (by decide), ?_⟩
          have tk9 : Tk H8 (upd H8 pk (.lst (vs ++ [.ref m2]))) := Tk.wr hpk8
          refine ⟨chs ++ [(wz, ns.zip zs)], vs ++ [.ref m2], ⟨_, _, _, _, _, _, _, _, rfl⟩, (K3.trans K38).wr hpk, (B8.mono (by omega)).ne npkb, by rw [upd_ne npl]; exact hlw8, upd_same, ?_, ?_, ?_⟩
          · show TpAll _ _ (((chs ++ [(wz, ns.zip zs)]).map fun c => (c.1, optsD c.2)).map rowP)
            rw [List.map_append, List.map_append]
            refine TpAll.app (TpAll.keep tk9 _ _ tvs8) (.cons (.tup (xs := [.str wz, .ref m]) (tk9 _ _ hm28) (.cons (.str _) (.cons (.tup (xs := us) (tk9 _ _ hm8) (TpAll.keep tk9 _ _ tus8)) .nil))) .nil)
          · rw [List.map_append, hnm, List.take_add_one, hwz]
            rfl
          · intro c hc
            rcases List.mem_append.mp hc with h | h
            · exact hoks c h
            · rw [List.mem_singleton.mp h]
              refine ⟨fun e => ?_, by rw [osl]; omega, by rw [zip_snd hlz2]; exact hnd, fun o ho => hns o.1 (List.of_mem_zip (show (o.1, o.2) ∈ ns.zip zs from ho)).1⟩
              have h0 := congrArg List.length e
              rw [osl] at h0
              have h1 : ns.length = 0 := h0
              omega
    · rintro σ H3 ⟨chs, vs, ⟨a3, a4, a5, a6, a7, a8, a9, a10, rfl⟩, K3, B3, hlw3, hpk3, tvs, hnm, hoks⟩
      obtain ⟨o0, o1, rfl⟩ : ∃ o0 o1, chs = ([("alpha", o0), ("beta", o1)] : Chs) := by
        match chs, hnm with
        | [(x, o0), (y, o1)], h =>
          have h : [x, y] = (["alpha", "beta"] : List Str) := h
          injection h with h1 h2
          injection h2 with h2 _
          exact ⟨o0, o1, by rw [h1, h2]⟩
        | [], h => cases h
        | [_], h =>
          have := congrArg List.length h
          cases this
        | _ :: _ :: _ :: _, h =>
          have := congrArg List.length h
          simp at this
      have ok0 := hoks _ (List.mem_cons_self)
      have ok1 := hoks _ (List.mem_cons_of_mem _ List.mem_cons_self)
      obtain ⟨x0, xr, rfl, tx0, tr⟩ := tvs.icons
      obtain ⟨x1, xr1, rfl, tx1, tr1⟩ := tr.icons
      cases tr1.inil
      obtain ⟨t0, y0, w0, rfl, ht0, ty0, _⟩ := Tp.pair tx0
      obtain ⟨t1, y1, w1, rfl, ht1, ty1, _⟩ := Tp.pair tx1
      cases ty0.istr
      cases ty1.istr
      have tvs3 : TpAll H3 [.ref t0, .ref t1] ((csD [("alpha", o0), ("beta", o1)]).map rowP) := .cons tx0 (.cons tx1 .nil)
      refine ⟨_, rfl, _, rfl, b, pk, t0, t1, w0, w1, n + 150 * 2, rfl, B3, hpk3, ht0, ht1, by show n + 150 * 2 + 10 ≤ 1000000; omega, fun vk kd H4 tvk hdr K4 B4 => ?_⟩
      refine ⟨_, needs _ _ _ B4 (by omega) rfl, ?_⟩
      rintro v4 H5 ⟨mo, rfl, K5, B5⟩
      refine ⟨_, _, rfl, ?_⟩
      have tvk5 := Tp.keep (K5.tk B4) _ _ tvk
      have K35 := K4.trans K5
      have hpk5 := K35 pk _ npkb hpk3
      have tvs5 := TpAll.keep (K35.tk B3) _ _ tvs3
      -- the inner record
      refine ⟨fun v H6 => ∃ (q : Addr) (fi : Fl), v = .ref q ∧ Tp H6 v (rowP ("inner", fieldsD [fi])) ∧ plainK fi.kd ∧ Kp b H5 H6 ∧ Bag H6 b (n + 320), ?_, ?_⟩
      · refine ⟨fun v H6 => ∃ kb : Kn, v = .str kb.word ∧ kb.d = .str kb.word ∧ plainK kb ∧ Kp b H5 H6 ∧ Bag H6 b (n + 310), ?_, ?_⟩
        · refine ⟨(by show 3 ≤ sizeLine; decide), fun q hq => ?_⟩
          have nqb : q ≠ b := new_ne hq B5
          refine ⟨_, rfl, b, 3, _, rfl, by decide, by decide, B5.new hq, by show _ ≤ 1000000; omega, fun d H6 d0 d1 K6 B6 => ?_⟩
          have hq6 := K6 q _ nqb upd_same
          have kp : Kp b H5 H6 := (Kp.refl.new hq).trans K6
          have B6' : Bag H6 b (n + 310) := B6.mono (by omega)
          have hd : d = 0 ∨ d = 1 ∨ d = 2 := by omega
          rcases hd with rfl | rfl | rfl
          · exact ⟨q, _, _, _, rfl, rfl, SqL.of hq6, rfl, .one .whole, rfl, rfl, .inl rfl, kp, B6'⟩
          · exact ⟨q, _, _, _, rfl, rfl, SqL.of hq6, rfl, .one .truth, rfl, rfl, .inr (.inl rfl), kp, B6'⟩
          · exact ⟨q, _, _, _, rfl, rfl, SqL.of hq6, rfl, .one .text, rfl, rfl, .inr (.inr rfl), kp, B6'⟩
        · rintro v H6 ⟨kb, rfl, ekb, hpl, K6, B6⟩
          refine ⟨_, needs _ _ _ B6 (by omega) rfl, ?_⟩
          rintro v7 H7 ⟨mi, rfl, K7, B7⟩
          refine ⟨(by show 4 ≤ sizeLine; decide), fun q1 hq1 => ?_⟩
          have S1 : Same H7 (upd H7 q1 (.tup [.int 3, .str "own", .str kb.word, .str (needS mi)])) := Same.new hq1
          have e1 : (upd H7 q1 (.tup [.int 3, .str "own", .str kb.word, .str (needS mi)])) q1 = some (.tup [.int 3, .str "own", .str kb.word, .str (needS mi)]) := upd_same
          generalize (upd H7 q1 (.tup [.int 3, .str "own", .str kb.word, .str (needS mi)])) = H8 at S1 e1 ⊢
          refine ⟨(by show 1 ≤ sizeLine; decide), fun q2 hq2 => ?_⟩
          have S2 : Same H8 (upd H8 q2 (.tup [.ref q1])) := Same.new hq2
          have e2 : (upd H8 q2 (.tup [.ref q1])) q2 = some (.tup [.ref q1]) := upd_same
          generalize (upd H8 q2 (.tup [.ref q1])) = H9 at S2 e2 ⊢
          refine ⟨(by show 2 ≤ sizeLine; decide), fun q3 hq3 => ?_⟩
          have S3 : Same H9 (upd H9 q3 (.tup [.str "inner", .ref q2])) := Same.new hq3
          have S73 : Same H7 (upd H9 q3 (.tup [.str "inner", .ref q2])) := fun b o e => S3 b o (S2 b o (S1 b o e))
          refine ⟨q3, ⟨3, "own", kb, mi⟩, rfl, .tup upd_same (.cons (.str _) (.cons (.tup (S3 _ _ e2) (.cons (.tup (S3 _ _ (S2 _ _ e1)) (.cons (.int _) (.cons (.str _) (.cons ?_ (.cons (.str _) .nil))))) .nil)) .nil)), hpl, (K6.trans K7).same S73, (B7.same S73).mono (by omega)⟩
          show Tp _ (.str kb.word) kb.d
          rw [ekb]
          exact .str _
      rintro vi H6 ⟨qi, fi, rfl, tvi, hpl, K6, B6⟩
      have tvk6 := Tp.keep (K6.tk B5) _ _ tvk5
      -- the outer record
      refine ⟨fun v H7 => ∃ (q : Addr) (fo : Fl), v = .ref q ∧ Tp H7 v (rowP ("outer", fieldsD [fo])) ∧ fo.kd = kd ∧ Kp b H6 H7 ∧ Bag H7 b (n + 380), ?_, ?_⟩
      · refine ⟨_, rfl, _, rfl, b, 1, n + 320, rfl, B6, by decide, by decide, by show n + 320 + 100 ≤ 1000000; omega, fun qz zs H7 hqz hz7 lz _ K7 B7 => ?_⟩
        obtain ⟨z0, rfl⟩ : ∃ z0, zs = [z0] := by
          match zs, lz with
          | [z0], _ => exact ⟨z0, rfl⟩
          | [], h => cases h
          | _ :: _ :: _, h =>
            simp at h
            omega
        refine ⟨qz, _, _, _, rfl, rfl, SqL.of hz7, rfl, _, rfl, _, rfl, (by show 4 ≤ sizeLine; decide), fun q1 hq1 => ?_⟩
        have tvk7 := Tp.keep (K7.tk B6) _ _ tvk6
        have S1 : Same H7 (upd H7 q1 (.tup [.int num, .str z0, vk, .str (needS mo)])) := Same.new hq1
        have e1 : (upd H7 q1 (.tup [.int num, .str z0, vk, .str (needS mo)])) q1 = some (.tup [.int num, .str z0, vk, .str (needS mo)]) := upd_same
        generalize (upd H7 q1 (.tup [.int num, .str z0, vk, .str (needS mo)])) = H8 at S1 e1 ⊢
        refine ⟨(by show 1 ≤ sizeLine; decide), fun q2 hq2 => ?_⟩
        have S2 : Same H8 (upd H8 q2 (.tup [.ref q1])) := Same.new hq2
        have e2 : (upd H8 q2 (.tup [.ref q1])) q2 = some (.tup [.ref q1]) := upd_same
        generalize (upd H8 q2 (.tup [.ref q1])) = H9 at S2 e2 ⊢
        refine ⟨(by show 2 ≤ sizeLine; decide), fun q3 hq3 => ?_⟩
        have S3 : Same H9 (upd H9 q3 (.tup [.str "outer", .ref q2])) := Same.new hq3
        have S73 : Same H7 (upd H9 q3 (.tup [.str "outer", .ref q2])) := fun b o e => S3 b o (S2 b o (S1 b o e))
        exact ⟨q3, ⟨num, z0, kd, mo⟩, rfl, .tup upd_same (.cons (.str _) (.cons (.tup (S3 _ _ e2) (.cons (.tup (S3 _ _ (S2 _ _ e1)) (.cons (.int _) (.cons (.str _) (.cons (Tp.keep (Same.tk S73) _ _ tvk7) (.cons (.str _) .nil))))) .nil)) .nil)), rfl, K7.same S73, (B7.same S73).mono (by omega)⟩
      rintro vo H7 ⟨qo, fo, rfl, tvo, ekd, K7, B7⟩
      have tvi7 := Tp.keep (K7.tk B6) _ _ tvi
      have K57 := K6.trans K7
      have tvs7 := TpAll.keep (K57.tk B5) _ _ tvs5
      have hpk7 := K57 pk _ npkb hpk5
      refine ⟨_, rfl, b, 99, n + 380, rfl, by decide, by decide, B7, by show n + 380 ≤ 1000000; omega, fun d H8 d0 d1 K8 B8 => ?_⟩
      have tvi8 := Tp.keep (K8.tk B7) _ _ tvi7
      have tvo8 := Tp.keep (K8.tk B7) _ _ tvo
      have tvs8 := TpAll.keep (K8.tk B7) _ _ tvs7
      have hpk8 := K8 pk _ npkb hpk7
      refine ⟨_, _, rfl, rfl, _, rfl, pk, _, rfl, .inl ⟨SqL.of hpk8, fun m hm => ?_⟩⟩
      have S1 : Same H8 (upd H8 m (.tup [.ref t0, .ref t1])) := Same.new hm
      have e1 : (upd H8 m (.tup [.ref t0, .ref t1])) m = some (.tup [.ref t0, .ref t1]) := upd_same
      generalize (upd H8 m (.tup [.ref t0, .ref t1])) = H9 at S1 e1 ⊢
      refine ⟨_, rfl, _, rfl, (by show 2 ≤ sizeLine; decide), fun m2 hm2 => ?_⟩
      have S2 : Same H9 (upd H9 m2 (.tup [.ref qi, .ref qo])) := Same.new hm2
      have e2 : (upd H9 m2 (.tup [.ref qi, .ref qo])) m2 = some (.tup [.ref qi, .ref qo]) := upd_same
      generalize (upd H9 m2 (.tup [.ref qi, .ref qo])) = H10 at S2 e2 ⊢
      refine ⟨Nat.zero_le _, fun m3 hm3 => ?_⟩
      have S3 : Same H10 (upd H10 m3 (.tup [])) := Same.new hm3
      generalize (upd H10 m3 (.tup [])) = H11 at S3 ⊢
      refine ⟨(by show 5 ≤ sizeLine; decide), fun p hp => ?_⟩
      have S4 : Same H11 (upd H11 p (.tup [.str "side", .int (1 + d), .ref m, .ref m2, .ref m3])) := Same.new hp
      have S84 : Same H8 (upd H11 p (.tup [.str "side", .int (1 + d), .ref m, .ref m2, .ref m3])) := fun b o e => S4 b o (S3 b o (S2 b o (S1 b o e)))
      have K08 : Kp b H H8 := ((K3.trans K35).trans K57).trans K8
      have hpH8 : H8 p = none := Same.free (fun b o e => S3 b o (S2 b o (S1 b o e))) hp
      refine k p [("alpha", o0), ("beta", o1)] [("inner", fieldsD [fi]), ("outer", fieldsD [fo])] fi fo _ ⟨⟨_, _, _, _, _, upd_same, ?_, ?_⟩, ⟨rfl, (by decide : 2 ≤ 100), hpl, ?_⟩, ?_⟩ (K08.free B8.at hpH8) (K08.same S84) ((B8.same S84).mono (by omega))
      · exact .tup (S4 _ _ (S3 _ _ (S2 _ _ e1))) (TpAll.keep (Same.tk S84) _ _ tvs8)
      · exact .tup (S4 _ _ (S3 _ _ e2)) (.cons (Tp.keep (Same.tk S84) _ _ tvi8) (.cons (Tp.keep (Same.tk S84) _ _ tvo8) .nil))
      · have h2 : okT [("alpha", o0), ("beta", o1)] fo.kd.base := okT_drawn ok0 ok1 (by rw [ekd]; exact hdr)
        cases hk : fo.kd with
        | one c =>
          rw [hk] at h2
          exact okT_B h2
        | lst c =>
          rw [hk] at h2
          exact okT_B h2
      · exact okT_drawn ok0 ok1 (by rw [ekd]; exact hdr)
end
end Fh
set_option Elab.async false
set_option linter.all false
set_option maxRecDepth 100000
set_option maxHeartbeats 4000000
namespace Fh
open PySem L2 PyProof.Rows
/-! ### a call by keywords alone -/
theorem pe_kwOnly {X : Cx} {CX : CXT} {k : Nat} {f : Addr} {fd : FuncData} {ps ks : List Str} {sp : Sp} {E : XK} {x : Str} {p pos : Pos} {kws : List Keyword} {tk : TA} {g : List Value → List Value → List Value} {gV : List V → List V → List V} (F : FnOk X.prog X.w X.K X.mg X.base CX k f fd ps sp) (hr : Room k X.A) (hg : Gl X x)
    (hm : X.mg x = some (.ref f)) (hk : PySem.W.keepIn X.K (.ref f) = true) (hb : KBn X.K fd ps 0 ks g gV) (hx : Passes CX X E) (hkw : PK X kws tk) (some_ : (backToKw pos (keywordEach kws X.env)).all (·.1.isSome) = true := by rfl) (names : (backToKw pos (keywordEach kws X.env)).filterMap (·.1) = ks := by rfl)
    (db : (x == ("__debug__" : Str)) = false := by decide) (plain : ((backTo pos (starEach [] X.env)).any (·.1) || (backToKw pos (keywordEach kws X.env)).any (·.1.isNone)) = false := by rfl) : PE X (.Call (.Name x p) [] kws pos) (tCallN 0 ks.length sp gV E tNil tk) := by
  subst names
  exact ⟨fun pins s σ H Q I h => wpAny_Call_Name_kw (ld_glob I hg hm (PySem.W.callWith_KW0 (h₀ := X.base) I.ok.mod.kin hk some_ (thn (hkw.run pos pins s σ H _ I h) fun ws s2 ⟨zs, H2, I2, rz, l1, l2, q2⟩ =>
    ⟨I2.kIn, run_fnN (us := []) (vs := []) F hr hb hx I2 .nil rz rfl l2 q2⟩) plain) db)⟩
def gU {α : Type} : List α → List α
  | [w, o, r, n] => [r, n, w, o]
  | _ => []
section
variable {P : Program} {w : World} {K : PySem.W.Frag} {mg : Str → Option Value} {base : Heap}
theorem kb_unread {f : Addr} {fd : FuncData} (F : Fun K "unread" "unread" sUnread f fd) : KBn K fd pUnread 0 ["writer", "other", "reader", "one"] (fun _ ws => gU ws) (fun _ zs => gU zs) := by
  obtain ⟨oc, od, kV, doc, pm, an, cdv, ct, osl, rfl, lk, hcd⟩ := F.ex
  refine ⟨fun s us ws X l1 l2 => ?_, fun {vs us zs ws} r1 r2 => ?_⟩
  · match us, l1, ws, l2 with
    | [], _, [_, _, _, _], _ => exact .of_eq rfl
  · cases r2 with
    | nil => exact .nil
    | cons a0 r => cases r with
      | nil => exact .nil
      | cons a1 r => cases r with
        | nil => exact .nil
        | cons a2 r => cases r with
          | nil => exact .nil
          | cons a3 r => cases r with
            | nil => exact .cons a2 (.cons a3 (.cons a0 (.cons a1 .nil)))
            | cons _ _ => exact .nil
/-- unread, called by its names too -/
structure HasU (P : Program) (w : World) (K : PySem.W.Frag) (mg : Str → Option Value) (base : Heap) (C : Addr) : Prop where
  ex : ∃ (f : Addr) (fd : FuncData), mg "unread" = some (.ref f) ∧ PySem.W.keepIn K (.ref f) = true ∧ KBn K fd pUnread 0 ["writer", "other", "reader", "one"] (fun _ ws => gU ws) (fun _ zs => gU zs) ∧ FnOk P w K mg base CX0 8 f fd pUnread (spUnread C)
end
theorem readB_self {c : Chs} {b : Kb} : readB c c b b = true := by
  unfold readB
  rw [if_pos rfl]
  split
  · rw [List.all_eq_true]
    intro x hx
    cases b with
    | whole => rfl
    | truth =>
      have hx : x ∈ [(0 : Int), 1] := hx
      simp at hx
      rcases hx with rfl | rfl <;> rfl
    | text => rfl
    | rc z => rfl
    | ch z => exact decide_eq_true hx
  · rfl
theorem dueB_self {c : Chs} {fi fo : Fl} : dueB c c fi fo fi fo = true := by
  have h : ∀ f : Fl, hereB c c f f = true := fun f => by
    unfold hereB
    rw [if_pos rfl, if_neg (fun h => by rw [h.1] at h; cases h.2)]
    cases f.kd with
    | one b => exact readB_self
    | lst b => exact readB_self
  unfold dueB
  rw [h, h]
  simp
def SidesOk (H : Hp) (vs : List V) : Prop := ∀ v ∈ vs, ∃ p chs rs fi fo, v = .ref p ∧ Pd H p chs rs fi fo
theorem SidesOk.same {H H' : Hp} {vs : List V} (h : SidesOk H vs) (s : Same H H') : SidesOk H' vs := fun v hv => by
  obtain ⟨p, chs, rs, fi, fo, e, q⟩ := h v hv
  exact ⟨p, chs, rs, fi, fo, e, q.same s⟩
theorem SidesOk.kp {b : Addr} {H H' : Hp} {n : Nat} {vs : List V} (h : SidesOk H vs) (k : Kp b H H') (hb : Bag H b n) : SidesOk H' vs := fun v hv => by
  obtain ⟨p, chs, rs, fi, fo, e, q⟩ := h v hv
  exact ⟨p, chs, rs, fi, fo, e, q.kp k hb⟩
abbrev sLaw : Stmt := top 50
abbrev nLaw : List Str := ["_law_script", "_law_k", "_law_bag_here", "_law_number", "_law_sides", "_law_own_reader", "_law_own_writer", "_law_own_one", "_law_own_other", "_law_found", "_law_due_here", "_law_turn"]
def spLaw (K : PySem.W.Frag) : Sp := fun vs H Q _ => ∃ (a : Addr) (ns : List Int), vs = [.ref a] ∧ SqL K H a (ns.map V.int) ∧ ∀ H', Q (.bl true) H'
section
variable {P : Program} {w : World} {K : PySem.W.Frag} {mg : Str → Option Value} {base : Heap}
theorem scLaw : FnScope nLaw ["_law_script"] (defScope sLaw) := ⟨rfl, rfl, rfl, by decide +kernel, rfl, by decide +kernel, by decide +kernel⟩
theorem ok_law {f C : Addr} {fd : FuncData} (F : Fun K "law" "law" sLaw f fd) (G : Glb mg) (DB : Has P w K mg base "_law_bag" 1 ["_law_script", "_law_at"] (spBag K)) (DT : Has P w K mg base "_law_take" 1 pTake spTake) (DS : Has P w K mg base "_law_side" 3 ["_law_bag_here", "_law_number"] spSide)
    (DF : Has P w K mg base "_law_face" 3 ["_law_parts"] (spFace C)) (DR : Has P w K mg base "reads" 9 pUnread (spReads C)) (DD : Has P w K mg base "_law_due" 6 pLDue (spLDue fun _ => True)) (DU : HasU P w K mg base C) : FnOk P w K mg base CX0 10 f fd ["_law_script"] (spLaw K) := by
  obtain ⟨uf, ufd, mU, kU, bU, FU⟩ := DU.ex
  refine F.ok scLaw (fun vs H Q E h => ?_) (fun cdv A outer s H vs Q E hr h => ?_)
  · obtain ⟨a, ns, rfl, _⟩ := h
    rfl
  · obtain ⟨a, ns, rfl, hS, k⟩ := h
    have hr1 : Room 1 _ := hr.mono (by decide)
    have hr3 : Room 3 _ := hr.mono (by decide)
    have hr6 : Room 6 _ := hr.mono (by decide)
    have hr8 : Room 8 _ := hr.mono (by decide)
    refine ⟨_, pss_cons (ps_for PassesOwn.never rfl (pi_range1 rfl G.range (pa_cons (pe_mid (pe_callB (call_max2 rfl) (by rfl) G.max (by decide +kernel) (pa_cons pe_int (pa_cons (pe_callB (call_min2 rfl) (by rfl) G.min (by decide +kernel) (pa_cons pe_int (pa_cons (pe_callB call_len_seq (by rfl) G.len PySem.boot_len (pa_cons (pv 0) pa_nil)) pa_nil))) pa_nil)))) pa_nil)) (pg_name (i := 1) scLaw.nd rfl (Or.inl rfl))
        (pss_cons (ps_set (i := 2) scLaw.nd rfl (Or.inr rfl) (pe_has DB hr1 rfl (pa_cons (pv 0) (pa_cons (pv 1) pa_nil))))
        (pss_cons (ps_set (i := 3) scLaw.nd rfl (Or.inr rfl) (pe_op op_add pe_int (pe_has DT hr1 rfl (pa_cons (pv 2) (pa_cons pe_int pa_nil)))))
        (pss_cons (ps_set (i := 4) scLaw.nd rfl (Or.inl rfl) (pe_mid (pe_op op_cat (pe_lc (own := [("_law_turn", 11)]) (g := gName 11) (tt := tYes) (te := tCall spSide [] E0 (tCons (tVar 2) (tCons (tVar 3) tNil))) rfl scLaw.nd (pi_range1 rfl G.range (pa_cons pe_int pa_nil)) (blkOk_by (N := nLaw) (sc := defScope sLaw) (by decide +kernel))
          (fun _ _ _ _ _ => pg_name (i := 11) scLaw.nd rfl (Or.inl rfl)) (fun _ _ _ _ _ => pts_nil) (fun _ _ _ _ _ => pe_has DS hr3 rfl (pa_cons (pv 2) (pa_cons (pv 3) pa_nil)))) (pe_lst (pa_cons (pe_has DS hr3 rfl (pa_cons (pv 2) (pa_cons (pe_op op_add pe_int (pe_has DT hr1 rfl (pa_cons (pv 2) (pa_cons pe_int pa_nil)))) pa_nil))) pa_nil)))))
        (pss_one (ps_for PassesOwn.never rfl (pi_list (pv 4)) (pg_name (i := 5) scLaw.nd rfl (Or.inl rfl))
          (pss_one (ps_for PassesOwn.never rfl (pi_list (pv 4)) (pg_name (i := 6) scLaw.nd rfl (Or.inl rfl))
            (pss_cons (ps_par (i := 7) (j := 8) rfl scLaw.nd rfl rfl (by decide) rfl rfl (pa_cons (pe_has DF hr3 rfl (pa_cons (pv 5) pa_nil)) (pa_cons (pe_has DF hr3 rfl (pa_cons (pv 6) pa_nil)) pa_nil)) (by rfl))
            (pss_cons (ps_par (i := 9) (j := 10) rfl scLaw.nd rfl rfl (by decide) rfl rfl (pa_cons (pe_has DR hr rfl (pa_cons (pv 7) (pa_cons pe_str (pa_cons (pv 8) (pa_cons pe_str pa_nil))))) (pa_cons (pe_has DD hr6 rfl (pa_cons (pv 5) (pa_cons (pv 6) (pa_cons pe_str pa_nil)))) pa_nil)) (by rfl))
            (pss_cons (ps_if (PW.pt (pw_or (pt_not (pt_val (pe_callB call_isi (by rfl) G.isi (by decide +kernel) (pa_cons (pv 9) (pa_cons (pe_bltn (v := .ty "bool") rfl G.bool (by decide +kernel) rfl) pa_nil))))) (pw_or1 (pt_cmpR op_ne (pv 9) (pv 10) (nomark _))))) (pss_one (ps_ret pe_bl)) pss_nil)
            (pss_cons (ps_if (pt_cmpR op_notBl (pe_has DR hr rfl (pa_cons (pv 8) (pa_cons pe_str (pa_cons (pv 8) (pa_cons pe_str pa_nil))))) pe_bl (nomark _)) (pss_one (ps_ret pe_bl)) pss_nil)
            (pss_one (ps_if (pt_cmpR op_ne (pe_cmpR op_isN (pe_kwOnly FU hr8 rfl mU kU bU pass0 (pk_cons (pv 8) (pk_cons pe_str (pk_cons (pv 7) (pk_cons pe_str pk_nil))))) pe_non (nomark _)) (pv 10) (nomark _)) (pss_one (ps_ret pe_bl)) pss_nil))))))))))))))
      (pss_one (ps_ret pe_bl)), ?_⟩
    refine ⟨fun v H1 => ∃ m : Int, v = .int m ∧ 0 ≤ m ∧ m ≤ 6 ∧ H1 = H, ?_, ?_⟩
    · refine ⟨_, rfl, a, _, rfl, .inl hS, _, _, rfl, _, _, rfl, _, rfl, ?_, ?_, rfl⟩
      · split <;> split <;> omega
      · split <;> split <;> omega
    rintro v H1 ⟨m, rfl, m0, m6, rfl⟩
    refine ⟨m, rfl, by omega, by omega, ?_⟩
    refine for_range (lo := 0) (n := m.toNat) (fun i σ H1' => (∃ a1 a2 a3 a4 a5 a6 a7 a8 a9 a10 a11, σ = [some (.ref a), a1, a2, a3, a4, a5, a6, a7, a8, a9, a10, a11]) ∧ Same H1 H1') ?_ ?_ ?_
    · exact ⟨⟨_, _, _, _, _, _, _, _, _, _, _, rfl⟩, Same.refl H1⟩
    · rintro i σ H2 hi ⟨⟨a1, a2, a3, a4, a5, a6, a7, a8, a9, a10, a11, rfl⟩, sm2⟩
      refine ⟨_, rfl, _, rfl, a, ns, _, rfl, Same.seq sm2 hS, by omega, by omega, fun b H3 sm3 hb B3 => ?_⟩
      have hb0 : H1 b = none := Same.free sm2 hb
      have toS : ∀ {H' : Hp}, Kp b H3 H' → Same H1 H' := fun {H'} kp c o e => kp c o (fun q => by rw [q, hb0] at e; cases e) (sm3 _ _ (sm2 _ _ e))
      refine ⟨_, rfl, b, 30, 0, rfl, by decide, by decide, B3, by decide, fun d H4 d0 d1 K4 B4 => ?_⟩
      refine ⟨_, _, rfl, rfl, ?_⟩
      refine ⟨fun v H5 => ∃ (l : Addr) (vs : List V), v = .ref l ∧ H5 l = some (.lst vs) ∧ SidesOk H5 vs ∧ Kp b H3 H5, ?_, ?_⟩
      · refine ⟨4, rfl, by decide, by decide, fun D hD => ?_⟩
        have nDb : D ≠ b := new_ne hD B4
        refine lc_range (lo := 0) (n := 4) (fun j H5 => Kp b H4 H5 ∧ Bag H5 b (1 + 600 * j) ∧ ∃ vs, H5 D = some (.lst vs) ∧ vs.length = j ∧ SidesOk H5 vs) ?_ ?_ ?_
        · exact ⟨Kp.refl.new hD, (B4.new hD).mono (by omega), [], upd_same, rfl, fun v h => nomatch h⟩
        · rintro j H5 hj ⟨K5, B5, vs, hD5, lv, so⟩
          refine ⟨rfl, yes (iteT ?_)⟩
          refine ⟨_, rfl, _, rfl, b, _, _, rfl, B5, by show 1 + 600 * j + 1000 ≤ 1000000; omega, fun p chs rs fi fo H6 pd hp K6 B6 => ?_⟩
          refine ⟨_, K6 D _ nDb hD5, by rw [lv]; exact Nat.lt_trans hj (by decide), ?_⟩
          have K46 := K5.trans K6
          have tk : Tk H6 (upd H6 D (.lst (vs ++ [.ref p]))) := Tk.wr (K6 D _ nDb hD5)
          have pdk : ∀ {q : Addr} {chs : Chs} {rs : List (Str × PyData)} {fi fo : Fl}, Pd H6 q chs rs fi fo → Pd (upd H6 D (.lst (vs ++ [.ref p]))) q chs rs fi fo := fun h => by
            obtain ⟨⟨v1, v2, v3, v4, v5, e, t3, t4⟩, g, ok⟩ := h
            exact ⟨⟨v1, v2, v3, v4, v5, tk _ _ e, Tp.keep tk _ _ t3, Tp.keep tk _ _ t4⟩, g, ok⟩
          refine ⟨K46.wr hD, (B6.mono (by omega)).ne nDb, vs ++ [.ref p], upd_same, by rw [List.length_append, lv]; rfl, fun v hv => ?_⟩
          rcases List.mem_append.mp hv with h | h
          · obtain ⟨q, c2, r2, fi2, fo2, e, qd⟩ := (so.kp K6 B5) v h
            exact ⟨q, c2, r2, fi2, fo2, e, pdk qd⟩
          · rw [List.mem_singleton.mp h]
            exact ⟨p, chs, rs, fi, fo, rfl, pdk pd⟩
        · rintro H5 ⟨K5, B5, vs, hD5, lv, so⟩
          refine ⟨_, rfl, _, rfl, b, 30, _, rfl, by decide, by decide, B5, by decide, fun e H6 e0 e1 K6 B6 => ?_⟩
          refine ⟨_, _, rfl, rfl, b, _, _, rfl, B6, by decide, fun p chs rs fi fo H7 pd hp K7 B7 => ?_⟩
          refine ⟨(by show 1 ≤ sizeLine; decide), fun l1 hl1 => ?_⟩
          have S8 : Same H7 (upd H7 l1 (.lst [.ref p])) := Same.new hl1
          have hD7 := K7 D _ nDb (K6 D _ nDb hD5)
          refine ⟨D, l1, _, _, rfl, rfl, S8 _ _ hD7, upd_same, ?_, fun l2 hl2 => ?_⟩
          · rw [lv]
            exact (by decide : 4 + 1 ≤ sizeLine)
          have S9 : Same H7 (upd (upd H7 l1 (.lst [.ref p])) l2 (.lst (vs ++ [.ref p]))) := fun b o e => Same.new hl2 b o (S8 b o e)
          refine ⟨l2, _, rfl, upd_same, ?_, (((K4.trans K5).trans K6).trans K7).same S9⟩
          have so7 := ((so.kp K6 B5).kp K7 B6).same S9
          intro v hv
          rcases List.mem_append.mp hv with h | h
          · exact so7 v h
          · rw [List.mem_singleton.mp h]
            exact ⟨p, chs, rs, fi, fo, rfl, pd.same S9⟩
      rintro v H5 ⟨l, vs, rfl, hl5, so5, K5⟩
      have sm5 : Same H1 H5 := toS K5
      refine ⟨_, rfl, l, rfl, ⟨_, SqL.of hl5⟩, ?_⟩
      refine for_list (xs := vs) (fun j σ H6 => Same H5 H6 ∧ ∃ a5 a6 a7 a8 a9 a10 a11, σ = [some (.ref a), some (.int (0 + (i : Int))), some (.ref b), some (.int (1 + d)), some (.ref l), a5, a6, a7, a8, a9, a10, a11]) ?_ ?_ ?_ ?_
      · exact ⟨Same.refl _, _, _, _, _, _, _, _, rfl⟩
      · rintro j σ H6 _ ⟨S6, _⟩
        exact SqL.of (S6 _ _ hl5)
      · rintro j x σ H6 hx ⟨S6, a5, a6, a7, a8, a9, a10, a11, rfl⟩
        obtain ⟨p1, c1, r1, fi1, fo1, rfl, pd1⟩ := so5 x (List.mem_of_getElem? hx)
        refine ⟨_, rfl, l, rfl, ⟨_, SqL.of (S6 _ _ hl5)⟩, ?_⟩
        refine for_list (xs := vs) (fun j σ H7 => Same H5 H7 ∧ ∃ a6 a7 a8 a9 a10 a11, σ = [some (.ref a), some (.int (0 + (i : Int))), some (.ref b), some (.int (1 + d)), some (.ref l), some (.ref p1), a6, a7, a8, a9, a10, a11]) ?_ ?_ ?_ ?_
        · exact ⟨S6, _, _, _, _, _, _, rfl⟩
        · rintro j σ H7 _ ⟨S7, _⟩
          exact SqL.of (S7 _ _ hl5)
        · rintro j x σ H7 hx ⟨S7, a6, a7, a8, a9, a10, a11, rfl⟩
          obtain ⟨p2, c2, r2, fi2, fo2, rfl, pd2⟩ := so5 x (List.mem_of_getElem? hx)
          have q1 := pd1.same S7
          have q2 := pd2.same S7
          obtain ⟨v1, v2, v3, v4, v5, hp1, t13, t14⟩ := q1.P
          obtain ⟨w1, w2, w3, w4, w5, hp2, t23, t24⟩ := q2.P
          refine ⟨_, rfl, p1, v1, v2, v3, v4, v5, rfl, hp1, fun x1 dx1 H8 S8 hx1 e8 => ?_⟩
          refine ⟨_, rfl, p2, w1, w2, w3, w4, w5, rfl, S8 _ _ hp2, fun x2 dx2 H9 S9 hx2 e9 => ⟨_, _, rfl, ?_⟩⟩
          have S79 : Same H7 H9 := fun b o e => S9 b o (S8 b o e)
          have sd1 : Sd C H9 x1 c1 r1 fi1 fo1 := ⟨⟨dx1, v1, v2, v3, v4, v5, S9 _ _ e8, Tp.keep (Same.tk S79) _ _ t13, Tp.keep (Same.tk S79) _ _ t14⟩, pd1.g, pd1.ok⟩
          have sd2 : Sd C H9 x2 c2 r2 fi2 fo2 := ⟨⟨dx2, w1, w2, w3, w4, w5, e9, Tp.keep (Same.tk S79) _ _ t23, Tp.keep (Same.tk S79) _ _ t24⟩, pd2.g, pd2.ok⟩
          refine ⟨_, rfl, _, rfl, x1, x2, c1, c2, r1, r2, fi1, fo1, fi2, fo2, rfl, sd1, sd2, fun H10 S10 => ?_⟩
          have S710 : Same H7 H10 := fun b o e => S10 b o (S79 b o e)
          refine ⟨_, rfl, _, rfl, p1, p2, "outer", c1, c2, r1, r2, fi1, fo1, fi2, fo2, fo1, fo2, rfl, q1.same S710, q2.same S710, ⟨.inr ⟨rfl, rfl⟩⟩, ⟨.inr ⟨rfl, rfl⟩⟩, trivial, fun H11 S11 => ⟨_, _, rfl, ?_⟩⟩
          have ez : dueZ "outer" c1 c2 fi1 fo1 fi2 fo2 = dueB c1 c2 fi1 fo1 fi2 fo2 := by
            unfold dueZ
            rw [if_neg oi]
          rw [ez]
          have S911 : Same H9 H11 := fun b o e => S11 b o (S10 b o e)
          refine ⟨_, rfl, _, _, .type "bool", .type "bool", true, rfl, .ty _, .base (.bl _), rfl, true, rfl, ?_⟩
          refine iteF ?_
          refine ⟨_, rfl, _, rfl, rfl, _, rfl, ?_⟩
          rw [decide_eq_true rfl]
          refine iteF ?_
          refine ⟨_, rfl, _, rfl, x2, x2, c2, c2, r2, r2, fi2, fo2, fi2, fo2, rfl, sd2.same S911, sd2.same S911, fun H12 S12 => ?_⟩
          rw [dueB_self]
          refine ⟨_, _, rfl, rfl, _, rfl, ?_⟩
          rw [decide_eq_true rfl]
          refine iteF ?_
          have S912 : Same H9 H12 := fun b o e => S12 b o (S911 b o e)
          refine ⟨_, rfl, _, rfl, rfl, rfl, x1, x2, c1, c2, r1, r2, fi1, fo1, fi2, fo2, rfl, sd1.same S912, sd2.same S912, fun x H13 S13 hx13 => ?_⟩
          refine ⟨rfl, _, rfl, rfl, _, rfl, ?_⟩
          have e : decide (x = V.non) = dueB c1 c2 fi1 fo1 fi2 fo2 := by
            cases hd : dueB c1 c2 fi1 fo1 fi2 fo2 with
            | true => exact decide_eq_true (hx13.mpr hd)
            | false =>
              refine decide_eq_false fun e => ?_
              have := hx13.mp e
              rw [hd] at this
              cases this
          rw [e, decide_eq_true rfl]
          exact iteF ⟨fun b o e => S13 b o (S912 b o (S79 b o (S7 b o e))), _, _, _, _, _, _, rfl⟩
        · rintro σ H7 ⟨S7, a6, a7, a8, a9, a10, a11, rfl⟩
          exact ⟨S7, _, _, _, _, _, _, _, rfl⟩
      · rintro σ H6 ⟨S6, a5, a6, a7, a8, a9, a10, a11, rfl⟩
        exact ⟨⟨_, _, _, _, _, _, _, _, _, _, _, rfl⟩, fun b o e => S6 b o (sm5 b o e)⟩
    · rintro σ H2 _
      exact k H2
end
end Fh
set_option Elab.async false
set_option linter.all false
set_option maxRecDepth 100000
set_option maxHeartbeats 0
namespace Fh
open PySem PySem.Spec PyProof.Rows L2
/-- where a keyword-only default of Face's making stands -/
def kwAt (x : Str) (K : PySem.W.Frag) : Addr := match K.lookup (He.fAd K ("Face", some "__init__")) with
  | some ⟨_, _, .func fd, _⟩ => (match fd.kwdefaults with
    | .ref D => (match PySem.W.nsIn K D x with
      | some (some (.ref a)) => a
      | _ => 0)
    | _ => 0)
  | _ => 0
def fdef (x : Str) (s : Stmt) : He.DefD := ⟨(x, none), x, x, defArgs s, defBody s, defScope s, [], []⟩
def mdef (m q : Str) (s : Stmt) : He.DefD := ⟨("Face", some m), m, q, defArgs s, defBody s, defScope s, [], []⟩
def dInit : He.DefD := ⟨("Face", some "__init__"), "__init__", "Face.__init__", defArgs sInit, defBody sInit, defScope sInit, [], [("choices", .adr (kwAt "choices")), ("records", .adr (kwAt "records")), ("calls", .adr (kwAt "calls"))]⟩
def fn : List He.DefD := [dInit, mdef "fields_of" "Face.fields_of" sFields, mdef "options_of" "Face.options_of" sOptions, fdef "word_of" sWord, fdef "mark_of" sMark, fdef "names_nobody" sNob, fdef "number_of" sNum, fdef "digits_of" sDigits, fdef "told_size" sTold, fdef "part_size" sPart, fdef "field_size" sFSize, fdef "least" sLeast, fdef "least_of" sLeastOf, fdef "least_sizes" sLSizes, fdef "least_size" sLSize, fdef "reads" sReads, fdef "unread" sUnread, fdef "unread_here" sHere, fdef "fields_by_number" sByNum, fdef "unread_part" sUPart, fdef "unread_numbered" sUNum, fdef "telling_values" sTell, fdef "can_be" sCan, fdef "pairs_below" sBelow, fdef "wrapped" sWrap, fdef "_law_bag" sBag, fdef "_law_take" sTake, fdef "_law_names" sNames, fdef "_law_numbers" sNumbers, fdef "_law_of" sLOf, fdef "_law_face" sFace, fdef "_law_mark" sLMark, fdef "_law_can_be" sLCan, fdef "_law_kind_reads" sLKR, fdef "_law_drawn" sDrawn, fdef "_law_side" sSide, fdef "_law_due" sLDue, fdef "law" sLaw]
def fa : List He.Fa := [.glo "Face", .glo "MARKS", .glo "LEAST_PLAIN", .glo "word_of", .glo "mark_of", .glo "names_nobody", .glo "number_of", .glo "digits_of", .glo "told_size", .glo "part_size", .glo "field_size", .glo "least", .glo "least_of", .glo "least_sizes", .glo "least_size", .glo "reads", .glo "unread", .glo "unread_here", .glo "fields_by_number", .glo "unread_part", .glo "unread_numbered", .glo "telling_values", .glo "can_be", .glo "pairs_below", .glo "wrapped", .glo "_law_bag", .glo "_law_take", .glo "_law_names", .glo "_law_numbers", .glo "_law_of", .glo "_law_face", .glo "_law_mark", .glo "_law_can_be", .glo "_law_kind_reads", .glo "_law_drawn", .glo "_law_side", .glo "_law_due", .glo "law", .free "len", .free "abs", .free "int", .free "range", .free "min", .free "max", .free "tuple", .free "zip", .free "enumerate", .free "isinstance", .free "str", .free "bool", .free "sum", .free "divmod", .int "BASE" 256, .int "FIRST_LONG_SIZE" 200, .int "GREATEST_WHOLE" 1000000000, .int "GREATEST_BODY" 10000, .cls "Face", .noat "Face" "name", .noat "Face" "edition", .noat "Face" "choices", .noat "Face" "records", .noat "Face" "calls", .mkr "Face", .meth "Face" "fields_of", .meth "Face" "options_of", .meth "Face" "__init__"]
abbrev fC (K : PySem.W.Frag) : Addr := He.ga K "Face"
def tM : List (Str × He.Dv) := [("whole", .int 1), ("truth", .int 1), ("choice", .int 1), ("text", .int 2), ("list", .int 3), ("record", .int 4)]
def tP : List (Str × He.Dv) := [("whole", .int 0), ("truth", .bl false), ("text", .str "")]
def ts : List He.Tab := [(fun K => He.ga K "MARKS", ["whole", "truth", "choice", "text", "list", "record"]), (fun K => He.ga K "LEAST_PLAIN", ["whole", "truth", "text"])]
def ex (K : PySem.W.Frag) : Bool := He.valsB K (He.ga K "MARKS") tM && He.valsB K (He.ga K "LEAST_PLAIN") tP
abbrev R : PySem.W.OpenRow := PySem.W.OpenLaw.row PySem.Challenge.rw_facehouse_k31_kinds_that_read
abbrev hk : PySem.W.Hook := He.hookX 6 fa fn ts [] ex
def ob (s : PySem.W.SharedT) : He.AlX := He.obsX 6 fa fn ts [] ex (HandSHeadRun.getT s)
theorem ob_eq (s : PySem.W.SharedT) : ob s = hk.obs s.abs := He.obsX_eq (HandSHeadRun.getT_eq s)
def loose0 : List Str := ["_wall", "__name__", "MARKS", "word_of", "mark_of", "names_nobody", "number_of", "BASE", "FIRST_LONG_SIZE", "digits_of", "told_size", "part_size"]
def loose1 : List Str := ["field_size", "GREATEST_WHOLE", "GREATEST_BODY", "LEAST_PLAIN", "least", "least_of", "least_sizes", "least_size", "reads", "unread", "unread_here", "fields_by_number"]
def loose2 : List Str := ["unread_part", "unread_numbered", "telling_values", "can_be", "pairs_below", "wrapped", "NoName", "Face", "_law_bag", "_law_take", "_law_names", "_law_numbers"]
def loose3 : List Str := ["_law_of", "_law_face", "_law_mark", "_law_can_be", "_law_kind_reads", "_law_drawn", "_law_side", "_law_due"]
def loose : List Str := loose0 ++ loose1 ++ loose2 ++ loose3
theorem run (w : World) : HandSHeadRun.RunEq R (PySem.W.view R.prog [50]) hk ob 20000 loose w := by
  refine PySem.W.byRow2 "special-get-raises" (P := fun w => HandSHeadRun.RunEq R (PySem.W.view R.prog [50]) hk ob 20000 loose w) (fun w os => ?_) (fun w os => ?_) w
  · kernel_rfl
  · kernel_rfl
end Fh
set_option Elab.async false
set_option linter.all false
set_option maxRecDepth 100000
set_option maxHeartbeats 0
namespace Fh
open PySem PySem.Spec PyProof.Rows L2
theorem toFun {K : PySem.W.Frag} {x q : Str} {st : Stmt} {f : Addr} {fd : FuncData} (F : FunD K x q (defArgs st) (defBody st) (defScope st) [] [] f fd) : Fun K x q st f fd := by
  obtain ⟨oc, od, dV, kV, doc, pm, an, cdv, ct, osl, e, lk, hcd, hD, _⟩ := F.ex
  rcases hD with ⟨_, rfl⟩ | ⟨e, _⟩
  · exact ⟨⟨oc, od, kV, doc, pm, an, cdv, ct, osl, e, lk, hcd⟩, F.kp⟩
  · exact absurd rfl e
section
variable {P : Program} {w : World} {K : PySem.W.Frag} {mg : Str → Option Value} {base : Heap}
theorem none_nob {C f : Addr} {fd : FuncData} (F : Fun K "names_nobody" "names_nobody" sNob f fd) : FnOk P w K mg base CX0 1 f fd ["face", "kind"] (spNob C fun _ => False) := by
  refine F.ok scNob (fun vs H Q E h => ?_) (fun cdv A outer s H vs Q E hr h => ?_)
  · obtain ⟨a, v, k, cs, rs, _, _, _, _, _, hk, _⟩ := h
    exact hk.elim
  · obtain ⟨a, v, k, cs, rs, _, _, _, _, _, hk, _⟩ := h
    exact hk.elim
theorem none_leastOf {f : Addr} {fd : FuncData} (F : Fun K "least_of" "least_of" sLeastOf f fd) : FnOk P w K mg base CX0 1 f fd ["face", "kind"] spNone := by
  refine F.ok scLeastOf (fun vs H Q E h => ?_) (fun cdv A outer s H vs Q E hr h => ?_)
  · exact False.elim h
  · exact False.elim h
theorem none_upart {C f : Addr} {fd : FuncData} (F : Fun K "unread_part" "unread_part" sUPart f fd) : FnOk P w K mg base CX0 3 f fd ["reader", "kind", "writer", "their_kind"] (spUPart C fun _ => False) := by
  refine F.ok scUPart (fun vs H Q E h => ?_) (fun cdv A outer s H vs Q E hr h => ?_)
  · obtain ⟨_, _, _, _, _, _, _, _, _, _, _, _, _, _, _, _, _, _, _, _, hk, _⟩ := h
    exact hk.elim
  · obtain ⟨_, _, _, _, _, _, _, _, _, _, _, _, _, _, _, _, _, _, _, _, hk, _⟩ := h
    exact hk.elim
theorem none_lkr {f : Addr} {fd : FuncData} (F : Fun K "_law_kind_reads" "_law_kind_reads" sLKR f fd) : FnOk P w K mg base CX0 2 f fd pLKR (spLKR fun _ => False) := by
  refine F.ok scLKR (fun vs H Q E h => ?_) (fun cdv A outer s H vs Q E hr h => ?_)
  · obtain ⟨_, _, _, _, _, _, _, _, _, _, _, _, _, _, _, _, _, _, _, hk, _⟩ := h
    exact hk.elim
  · obtain ⟨_, _, _, _, _, _, _, _, _, _, _, _, _, _, _, _, _, _, _, hk, _⟩ := h
    exact hk.elim
theorem none_ldue {f : Addr} {fd : FuncData} (F : Fun K "_law_due" "_law_due" sLDue f fd) : FnOk P w K mg base CX0 4 f fd pLDue (spLDue fun _ => False) := by
  refine F.ok scLDue (fun vs H Q E h => ?_) (fun cdv A outer s H vs Q E hr h => ?_)
  · obtain ⟨_, _, _, _, _, _, _, _, _, _, _, _, _, _, _, _, _, _, hk, _⟩ := h
    exact hk.elim
  · obtain ⟨_, _, _, _, _, _, _, _, _, _, _, _, _, _, _, _, _, _, hk, _⟩ := h
    exact hk.elim
end
theorem kdct {K : PySem.W.Frag} {w : World} {a : Addr} {kvs : List (Str × He.Dv)} (h : ∃ es n, KDict K w a es n) (v : He.valsB K a kvs = true) {x : Str} {d : He.Dv} (m : (x, d) ∈ kvs) : KDct K w a x (d.v K) := by
  obtain ⟨es, n, D⟩ := h
  obtain ⟨u, e, r⟩ := He.valsB_ok v m
  exact ⟨es, n, u, D.at_, D.lit, e, r⟩
theorem facts {P : Program} {w : World} {K : PySem.W.Frag} {h : Heap} {mg : Str → Option Value} {f : Addr} (X : K.In h) (G : h.Ns mainGlobals mg) (hfa : mg ("law" : Str) = some (.ref f)) (c : He.SaysX fa fn ts [] ex w h K) :
    ∃ fd : FuncData, (∀ (s : Shared) (v : Value), BindsTo s fd ⟨[v], []⟩ [("_law_script", v)]) ∧ ∀ base : Heap, K.In base → base.Ns mainGlobals mg → FnOk P w K mg base CX0 10 f fd ["_law_script"] (spLaw K) := by
  have d := c.t.d
  obtain ⟨x1, x2⟩ := He.ba c.more
  have gl : ∀ (i : Nat) {x : Str}, fa[i]? = some (.glo x) → mg x = some (.ref (He.ga K x)) := fun i x hi => He.glo_ok X G (d.fact i hi)
  have fr : ∀ (i : Nat) {x : Str}, fa[i]? = some (.free x) → mg x = none := fun i x hi => He.free_ok X G (d.fact i hi)
  have na : ∀ (i : Nat) {x y : Str}, fa[i]? = some (.noat x y) → NoAttr K (He.ga K x) y := fun i x y hi => He.noat_ok (d.fact i hi)
  have it : ∀ (i : Nat) {x : Str} {z : Int}, fa[i]? = some (.int x z) → ∃ t, mg x = some (.int z t) := fun i x z hi => He.int_ok X G (d.fact i hi)
  have GG : Glb mg := ⟨fr 38 rfl, fr 39 rfl, fr 40 rfl, fr 41 rfl, fr 42 rfl, fr 43 rfl, fr 44 rfl, fr 45 rfl, fr 46 rfl, fr 47 rfl, fr 48 rfl, fr 49 rfl, fr 50 rfl, fr 51 rfl⟩
  have NN : Nums mg := ⟨it 52 rfl, it 53 rfl, it 54 rfl, it 55 rfl⟩
  have MM : Marks K w mg := ⟨He.ga K "MARKS", gl 1 rfl, kdct (c.t.tab 0 rfl) x1 (x := "whole") (d := .int 1) (by simp [tM]), kdct (c.t.tab 0 rfl) x1 (x := "truth") (d := .int 1) (by simp [tM]), kdct (c.t.tab 0 rfl) x1 (x := "choice") (d := .int 1) (by simp [tM]), kdct (c.t.tab 0 rfl) x1 (x := "text") (d := .int 2) (by simp [tM]), kdct (c.t.tab 0 rfl) x1 (x := "list") (d := .int 3) (by simp [tM]), kdct (c.t.tab 0 rfl) x1 (x := "record") (d := .int 4) (by simp [tM])⟩
  have PP : Plains K w mg := ⟨He.ga K "LEAST_PLAIN", gl 2 rfl, kdct (c.t.tab 1 rfl) x2 (x := "whole") (d := .int 0) (by simp [tP]), kdct (c.t.tab 1 rfl) x2 (x := "truth") (d := .bl false) (by simp [tP]), kdct (c.t.tab 1 rfl) x2 (x := "text") (d := .str "") (by simp [tP])⟩
  have cl : Cls K (fC K) := He.cls_ok (d.fact 56 (f := .cls "Face") rfl)
  have mk : Mk K (fC K) (He.ma K (fC K) "__init__") := He.mkr_ok (d.fact 62 (f := .mkr "Face") rfl)
  have mF : Meth K (fC K) "fields_of" (He.ma K (fC K) "fields_of") := He.meth_ok (d.fact 63 (f := .meth "Face" "fields_of") rfl)
  have mO : Meth K (fC K) "options_of" (He.ma K (fC K) "options_of") := He.meth_ok (d.fact 64 (f := .meth "Face" "options_of") rfl)
  have T : ClsF K mg (fC K) := ⟨cl, na 57 rfl, na 58 rfl, na 59 rfl, na 60 rfl, na 61 rfl, gl 0 rfl⟩
  obtain ⟨fdI, DI0⟩ := d.def_ 0 (d := dInit) rfl
  obtain ⟨fdF, DF0⟩ := d.def_ 1 (d := mdef "fields_of" "Face.fields_of" sFields) rfl
  obtain ⟨fdO, DO0⟩ := d.def_ 2 (d := mdef "options_of" "Face.options_of" sOptions) rfl
  obtain ⟨fd0, D0⟩ := d.def_ 3 (d := fdef "word_of" sWord) rfl
  obtain ⟨fd1, D1⟩ := d.def_ 4 (d := fdef "mark_of" sMark) rfl
  obtain ⟨fd2, D2⟩ := d.def_ 5 (d := fdef "names_nobody" sNob) rfl
  obtain ⟨fd3, D3⟩ := d.def_ 6 (d := fdef "number_of" sNum) rfl
  obtain ⟨fd4, D4⟩ := d.def_ 7 (d := fdef "digits_of" sDigits) rfl
  obtain ⟨fd5, D5⟩ := d.def_ 8 (d := fdef "told_size" sTold) rfl
  obtain ⟨fd6, D6⟩ := d.def_ 9 (d := fdef "part_size" sPart) rfl
  obtain ⟨fd7, D7⟩ := d.def_ 10 (d := fdef "field_size" sFSize) rfl
  obtain ⟨fd8, D8⟩ := d.def_ 11 (d := fdef "least" sLeast) rfl
  obtain ⟨fd9, D9⟩ := d.def_ 12 (d := fdef "least_of" sLeastOf) rfl
  obtain ⟨fd10, D10⟩ := d.def_ 13 (d := fdef "least_sizes" sLSizes) rfl
  obtain ⟨fd11, D11⟩ := d.def_ 14 (d := fdef "least_size" sLSize) rfl
  obtain ⟨fd12, D12⟩ := d.def_ 15 (d := fdef "reads" sReads) rfl
  obtain ⟨fd13, D13⟩ := d.def_ 16 (d := fdef "unread" sUnread) rfl
  obtain ⟨fd14, D14⟩ := d.def_ 17 (d := fdef "unread_here" sHere) rfl
  obtain ⟨fd15, D15⟩ := d.def_ 18 (d := fdef "fields_by_number" sByNum) rfl
  obtain ⟨fd16, D16⟩ := d.def_ 19 (d := fdef "unread_part" sUPart) rfl
  obtain ⟨fd17, D17⟩ := d.def_ 20 (d := fdef "unread_numbered" sUNum) rfl
  obtain ⟨fd18, D18⟩ := d.def_ 21 (d := fdef "telling_values" sTell) rfl
  obtain ⟨fd19, D19⟩ := d.def_ 22 (d := fdef "can_be" sCan) rfl
  obtain ⟨fd20, D20⟩ := d.def_ 23 (d := fdef "pairs_below" sBelow) rfl
  obtain ⟨fd21, D21⟩ := d.def_ 24 (d := fdef "wrapped" sWrap) rfl
  obtain ⟨fd22, D22⟩ := d.def_ 25 (d := fdef "_law_bag" sBag) rfl
  obtain ⟨fd23, D23⟩ := d.def_ 26 (d := fdef "_law_take" sTake) rfl
  obtain ⟨fd24, D24⟩ := d.def_ 27 (d := fdef "_law_names" sNames) rfl
  obtain ⟨fd25, D25⟩ := d.def_ 28 (d := fdef "_law_numbers" sNumbers) rfl
  obtain ⟨fd26, D26⟩ := d.def_ 29 (d := fdef "_law_of" sLOf) rfl
  obtain ⟨fd27, D27⟩ := d.def_ 30 (d := fdef "_law_face" sFace) rfl
  obtain ⟨fd28, D28⟩ := d.def_ 31 (d := fdef "_law_mark" sLMark) rfl
  obtain ⟨fd29, D29⟩ := d.def_ 32 (d := fdef "_law_can_be" sLCan) rfl
  obtain ⟨fd30, D30⟩ := d.def_ 33 (d := fdef "_law_kind_reads" sLKR) rfl
  obtain ⟨fd31, D31⟩ := d.def_ 34 (d := fdef "_law_drawn" sDrawn) rfl
  obtain ⟨fd32, D32⟩ := d.def_ 35 (d := fdef "_law_side" sSide) rfl
  obtain ⟨fd33, D33⟩ := d.def_ 36 (d := fdef "_law_due" sLDue) rfl
  obtain ⟨fd34, D34⟩ := d.def_ 37 (d := fdef "law" sLaw) rfl
  have e2 := hfa.symm.trans (gl 37 (x := "law") rfl)
  cases e2
  have bL := FunD.bindsA (ps := ["_law_script"]) D34 fun _ _ _ _ _ _ us hl => match us, hl with | [_], _ => rfl
  refine ⟨fd34, fun s v => bL s [v] rfl, fun base _ _ => ?_⟩
  have DI : DInit K (kwAt "choices" K) (kwAt "records" K) (kwAt "calls" K) (He.ma K (fC K) "__init__") fdI := DI0
  have M : MkF P w K mg base (fC K) := ⟨⟨_, fdI, _, _, _, mk, ok_init DI T, DI⟩, gl 0 rfl⟩
  have HFi : HasM P w K mg base (fC K) "fields_of" 1 ["self", "record"] (spFields (fC K)) := ⟨cl, _, fdF, mF, FunD.bindsN DF0 (fun _ _ _ _ _ _ us hl => match us, hl with | [_, _], _ => rfl), ok_fields (toFun (x := "fields_of") (q := "Face.fields_of") (st := sFields) DF0) cl T.n4⟩
  have HOp : HasM P w K mg base (fC K) "options_of" 1 ["self", "choice"] (spOptions (fC K)) := ⟨cl, _, fdO, mO, FunD.bindsN DO0 (fun _ _ _ _ _ _ us hl => match us, hl with | [_, _], _ => rfl), ok_options (toFun (x := "options_of") (q := "Face.options_of") (st := sOptions) DO0) cl T.n3⟩
  have HW : Has P w K mg base "word_of" 1 ["kind"] (spWord) := ⟨_, fd0, gl 3 rfl, D0.kp, FunD.bindsN D0 (fun _ _ _ _ _ _ us hl => match us, hl with | [_], _ => rfl), ok_word (toFun (x := "word_of") (q := "word_of") (st := sWord) D0) GG⟩
  have HM : Has P w K mg base "mark_of" 2 ["kind"] (spMark) := ⟨_, fd1, gl 4 rfl, D1.kp, FunD.bindsN D1 (fun _ _ _ _ _ _ us hl => match us, hl with | [_], _ => rfl), ok_mark (toFun (x := "mark_of") (q := "mark_of") (st := sMark) D1) MM HW⟩
  have HN0 : Has P w K mg base "names_nobody" 1 ["face", "kind"] (spNob (fC K) fun _ => False) := ⟨_, fd2, gl 5 rfl, D2.kp, FunD.bindsN D2 (fun _ _ _ _ _ _ us hl => match us, hl with | [_, _], _ => rfl), none_nob (toFun (x := "names_nobody") (q := "names_nobody") (st := sNob) D2)⟩
  have HN1 : Has P w K mg base "names_nobody" 2 ["face", "kind"] (spNob (fC K) isOne) := ⟨_, fd2, gl 5 rfl, D2.kp, FunD.bindsN D2 (fun _ _ _ _ _ _ us hl => match us, hl with | [_, _], _ => rfl), ok_nob (toFun (x := "names_nobody") (q := "names_nobody") (st := sNob) D2) GG cl T.n3 T.n4 HN0 (fun b hb => by obtain ⟨_, hb⟩ := hb; cases hb)⟩
  have HN : Has P w K mg base "names_nobody" 3 ["face", "kind"] (spNob (fC K) fun _ => True) := ⟨_, fd2, gl 5 rfl, D2.kp, FunD.bindsN D2 (fun _ _ _ _ _ _ us hl => match us, hl with | [_, _], _ => rfl), ok_nob (toFun (x := "names_nobody") (q := "names_nobody") (st := sNob) D2) GG cl T.n3 T.n4 HN1 (fun b _ => ⟨b, rfl⟩)⟩
  have HU : Has P w K mg base "number_of" 2 ["face", "kind", "value"] (spNum (fC K)) := ⟨_, fd3, gl 6 rfl, D3.kp, FunD.bindsN D3 (fun _ _ _ _ _ _ us hl => match us, hl with | [_, _, _], _ => rfl), ok_num (toFun (x := "number_of") (q := "number_of") (st := sNum) D3) HW HOp⟩
  have HD : Has P w K mg base "digits_of" 1 ["number"] (spDigits) := ⟨_, fd4, gl 7 rfl, D4.kp, FunD.bindsN D4 (fun _ _ _ _ _ _ us hl => match us, hl with | [_], _ => rfl), ok_digits (toFun (x := "digits_of") (q := "digits_of") (st := sDigits) D4) GG NN⟩
  have HT : Has P w K mg base "told_size" 1 ["size"] (spTold) := ⟨_, fd5, gl 8 rfl, D5.kp, FunD.bindsN D5 (fun _ _ _ _ _ _ us hl => match us, hl with | [_], _ => rfl), ok_told (toFun (x := "told_size") (q := "told_size") (st := sTold) D5) NN⟩
  have HP : Has P w K mg base "part_size" 2 ["size"] (spPart) := ⟨_, fd6, gl 9 rfl, D6.kp, FunD.bindsN D6 (fun _ _ _ _ _ _ us hl => match us, hl with | [_], _ => rfl), ok_part (toFun (x := "part_size") (q := "part_size") (st := sPart) D6) GG HT⟩
  have HS : Has P w K mg base "field_size" 3 ["size"] (spFSize) := ⟨_, fd7, gl 10 rfl, D7.kp, FunD.bindsN D7 (fun _ _ _ _ _ _ us hl => match us, hl with | [_], _ => rfl), ok_fsize (toFun (x := "field_size") (q := "field_size") (st := sFSize) D7) HP⟩
  have HLn : Has P w K mg base "least_of" 1 ["face", "kind"] (spNone) := ⟨_, fd9, gl 12 rfl, D9.kp, FunD.bindsN D9 (fun _ _ _ _ _ _ us hl => match us, hl with | [_, _], _ => rfl), none_leastOf (toFun (x := "least_of") (q := "least_of") (st := sLeastOf) D9)⟩
  have HL0 : Has P w K mg base "least_of" 2 ["face", "kind"] (spLeastOf (fC K) 0) := ⟨_, fd9, gl 12 rfl, D9.kp, FunD.bindsN D9 (fun _ _ _ _ _ _ us hl => match us, hl with | [_, _], _ => rfl), ok_leastOf (toFun (x := "least_of") (q := "least_of") (st := sLeastOf) D9) PP HW HFi HOp HLn (by decide) (fun r' e => by cases e)⟩
  have HL1 : Has P w K mg base "least_of" 3 ["face", "kind"] (spLeastOf (fC K) 1) := ⟨_, fd9, gl 12 rfl, D9.kp, FunD.bindsN D9 (fun _ _ _ _ _ _ us hl => match us, hl with | [_, _], _ => rfl), ok_leastOf (toFun (x := "least_of") (q := "least_of") (st := sLeastOf) D9) PP HW HFi HOp HL0 (by decide) (fun r' e => by cases e; rfl)⟩
  have HL2 : Has P w K mg base "least_of" 4 ["face", "kind"] (spLeastOf (fC K) 2) := ⟨_, fd9, gl 12 rfl, D9.kp, FunD.bindsN D9 (fun _ _ _ _ _ _ us hl => match us, hl with | [_, _], _ => rfl), ok_leastOf (toFun (x := "least_of") (q := "least_of") (st := sLeastOf) D9) PP HW HFi HOp HL1 (by decide) (fun r' e => by cases e; rfl)⟩
  have HZ : Has P w K mg base "least_size" 4 ["face", "kind", "sizes"] (spLSize (fC K)) := ⟨_, fd11, gl 14 rfl, D11.kp, FunD.bindsN D11 (fun _ _ _ _ _ _ us hl => match us, hl with | [_, _, _], _ => rfl), ok_lsize (toFun (x := "least_size") (q := "least_size") (st := sLSize) D11) GG HN HW HD HU HL0⟩
  have HZs : Has P w K mg base "least_sizes" 5 ["face"] (spLSizes (fC K)) := ⟨_, fd10, gl 13 rfl, D10.kp, FunD.bindsN D10 (fun _ _ _ _ _ _ us hl => match us, hl with | [_], _ => rfl), ok_lsizes (toFun (x := "least_sizes") (q := "least_sizes") (st := sLSizes) D10) GG cl T.n4 HZ HS⟩
  have HLe : Has P w K mg base "least" 6 ["face", "record"] (spLeast (fC K)) := ⟨_, fd8, gl 11 rfl, D8.kp, FunD.bindsN D8 (fun _ _ _ _ _ _ us hl => match us, hl with | [_, _], _ => rfl), ok_least (toFun (x := "least") (q := "least") (st := sLeast) D8) NN HFi HZs HL2⟩
  have HBy : Has P w K mg base "fields_by_number" 2 ["face", "record"] (spByNum (fC K)) := ⟨_, fd15, gl 18 rfl, D15.kp, FunD.bindsN D15 (fun _ _ _ _ _ _ us hl => match us, hl with | [_, _], _ => rfl), ok_byNum (toFun (x := "fields_by_number") (q := "fields_by_number") (st := sByNum) D15) HFi⟩
  have HTe : Has P w K mg base "telling_values" 2 ["face", "kind"] (spTell (fC K)) := ⟨_, fd18, gl 21 rfl, D18.kp, FunD.bindsN D18 (fun _ _ _ _ _ _ us hl => match us, hl with | [_, _], _ => rfl), ok_tell (toFun (x := "telling_values") (q := "telling_values") (st := sTell) D18) NN HOp⟩
  have HC : Has P w K mg base "can_be" 2 ["face", "kind", "number"] (spCan (fC K)) := ⟨_, fd19, gl 22 rfl, D19.kp, FunD.bindsN D19 (fun _ _ _ _ _ _ us hl => match us, hl with | [_, _, _], _ => rfl), ok_can (toFun (x := "can_be") (q := "can_be") (st := sCan) D19) HOp⟩
  have HUN : Has P w K mg base "unread_numbered" 3 ["reader", "kind", "writer", "their_kind"] (spUNum (fC K)) := ⟨_, fd17, gl 20 rfl, D17.kp, FunD.bindsN D17 (fun _ _ _ _ _ _ us hl => match us, hl with | [_, _, _, _], _ => rfl), ok_unum (toFun (x := "unread_numbered") (q := "unread_numbered") (st := sUNum) D17) HTe HC HU⟩
  have HUP0 : Has P w K mg base "unread_part" 3 ["reader", "kind", "writer", "their_kind"] (spUPart (fC K) fun _ => False) := ⟨_, fd16, gl 19 rfl, D16.kp, FunD.bindsN D16 (fun _ _ _ _ _ _ us hl => match us, hl with | [_, _, _, _], _ => rfl), none_upart (toFun (x := "unread_part") (q := "unread_part") (st := sUPart) D16)⟩
  have HUP1 : Has P w K mg base "unread_part" 4 ["reader", "kind", "writer", "their_kind"] (spUPart (fC K) isOne) := ⟨_, fd16, gl 19 rfl, D16.kp, FunD.bindsN D16 (fun _ _ _ _ _ _ us hl => match us, hl with | [_, _, _, _], _ => rfl), ok_upart (toFun (x := "unread_part") (q := "unread_part") (st := sUPart) D16) HM HW HL1 HUN HUP0 (by decide) (fun b hb => by obtain ⟨_, hb⟩ := hb; cases hb)⟩
  have HUP : Has P w K mg base "unread_part" 5 ["reader", "kind", "writer", "their_kind"] (spUPart (fC K) fun _ => True) := ⟨_, fd16, gl 19 rfl, D16.kp, FunD.bindsN D16 (fun _ _ _ _ _ _ us hl => match us, hl with | [_, _, _, _], _ => rfl), ok_upart (toFun (x := "unread_part") (q := "unread_part") (st := sUPart) D16) HM HW HL1 HUN HUP1 (by decide) (fun b _ => ⟨b, rfl⟩)⟩
  have HH : Has P w K mg base "unread_here" 7 ["reader", "one", "writer", "other"] (spHere (fC K)) := ⟨_, fd14, gl 17 rfl, D14.kp, FunD.bindsN D14 (fun _ _ _ _ _ _ us hl => match us, hl with | [_, _, _, _], _ => rfl), ok_here (toFun (x := "unread_here") (q := "unread_here") (st := sHere) D14) HFi HBy HLe HUP⟩
  have HB : Has P w K mg base "pairs_below" 3 ["reader", "one", "writer", "other"] (spBelow (fC K)) := ⟨_, fd20, gl 23 rfl, D20.kp, FunD.bindsN D20 (fun _ _ _ _ _ _ us hl => match us, hl with | [_, _, _, _], _ => rfl), ok_below (toFun (x := "pairs_below") (q := "pairs_below") (st := sBelow) D20) HW HFi HBy⟩
  have HWr : Has P w K mg base "wrapped" 7 ["writer", "ways", "pair", "value"] (spWrap (fC K)) := ⟨_, fd21, gl 24 rfl, D21.kp, FunD.bindsN D21 (fun _ _ _ _ _ _ us hl => match us, hl with | [_, _, _, _], _ => rfl), ok_wrap (toFun (x := "wrapped") (q := "wrapped") (st := sWrap) D21) HLe⟩
  have FU : FnOk P w K mg base CX0 8 (He.ga K "unread") fd13 pUnread (spUnread (fC K)) := ok_unread (toFun (x := "unread") (q := "unread") (st := sUnread) D13) GG HH HWr HB
  have HUr : Has P w K mg base "unread" 8 ["reader", "one", "writer", "other"] (spUnread (fC K)) := ⟨_, fd13, gl 16 rfl, D13.kp, FunD.bindsN D13 (fun _ _ _ _ _ _ us hl => match us, hl with | [_, _, _, _], _ => rfl), FU⟩
  have HUU : HasU P w K mg base (fC K) := ⟨_, fd13, gl 16 rfl, D13.kp, kb_unread (toFun (x := "unread") (q := "unread") (st := sUnread) D13), FU⟩
  have HR : Has P w K mg base "reads" 9 ["reader", "one", "writer", "other"] (spReads (fC K)) := ⟨_, fd12, gl 15 rfl, D12.kp, FunD.bindsN D12 (fun _ _ _ _ _ _ us hl => match us, hl with | [_, _, _, _], _ => rfl), ok_reads (toFun (x := "reads") (q := "reads") (st := sReads) D12) HUr⟩
  have LB : Has P w K mg base "_law_bag" 1 ["_law_script", "_law_at"] (spBag K) := ⟨_, fd22, gl 25 rfl, D22.kp, FunD.bindsN D22 (fun _ _ _ _ _ _ us hl => match us, hl with | [_, _], _ => rfl), ok_bag (toFun (x := "_law_bag") (q := "_law_bag") (st := sBag) D22) GG⟩
  have LT : Has P w K mg base "_law_take" 1 ["_law_bag_here", "_law_size"] (spTake) := ⟨_, fd23, gl 26 rfl, D23.kp, FunD.bindsN D23 (fun _ _ _ _ _ _ us hl => match us, hl with | [_, _], _ => rfl), ok_take (toFun (x := "_law_take") (q := "_law_take") (st := sTake) D23)⟩
  have LN : Has P w K mg base "_law_names" 2 ["_law_bag_here", "_law_size"] (spNames) := ⟨_, fd24, gl 27 rfl, D24.kp, FunD.bindsN D24 (fun _ _ _ _ _ _ us hl => match us, hl with | [_, _], _ => rfl), ok_names (toFun (x := "_law_names") (q := "_law_names") (st := sNames) D24) GG LT⟩
  have LU : Has P w K mg base "_law_numbers" 2 ["_law_bag_here", "_law_size"] (spNumbers) := ⟨_, fd25, gl 28 rfl, D25.kp, FunD.bindsN D25 (fun _ _ _ _ _ _ us hl => match us, hl with | [_, _], _ => rfl), ok_numbers (toFun (x := "_law_numbers") (q := "_law_numbers") (st := sNumbers) D25) GG LT⟩
  have LO : Has P w K mg base "_law_of" 1 ["_law_rows", "_law_word"] (spLOf) := ⟨_, fd26, gl 29 rfl, D26.kp, FunD.bindsN D26 (fun _ _ _ _ _ _ us hl => match us, hl with | [_, _], _ => rfl), ok_lof (toFun (x := "_law_of") (q := "_law_of") (st := sLOf) D26)⟩
  have LF : Has P w K mg base "_law_face" 3 ["_law_parts"] (spFace (fC K)) := ⟨_, fd27, gl 30 rfl, D27.kp, FunD.bindsN D27 (fun _ _ _ _ _ _ us hl => match us, hl with | [_], _ => rfl), ok_face (toFun (x := "_law_face") (q := "_law_face") (st := sFace) D27) M⟩
  have LM : Has P w K mg base "_law_mark" 1 ["_law_kind"] (spLMark) := ⟨_, fd28, gl 31 rfl, D28.kp, FunD.bindsN D28 (fun _ _ _ _ _ _ us hl => match us, hl with | [_], _ => rfl), ok_lmark (toFun (x := "_law_mark") (q := "_law_mark") (st := sLMark) D28) GG⟩
  have LC : Has P w K mg base "_law_can_be" 2 ["_law_parts", "_law_kind"] (spLCan) := ⟨_, fd29, gl 32 rfl, D29.kp, FunD.bindsN D29 (fun _ _ _ _ _ _ us hl => match us, hl with | [_, _], _ => rfl), ok_lcan (toFun (x := "_law_can_be") (q := "_law_can_be") (st := sLCan) D29) GG LO⟩
  have LK0 : Has P w K mg base "_law_kind_reads" 2 ["_law_own_reader", "_law_own_writer", "_law_own_one", "_law_own_other", "_law_bad"] (spLKR fun _ => False) := ⟨_, fd30, gl 33 rfl, D30.kp, FunD.bindsN D30 (fun _ _ _ _ _ _ us hl => match us, hl with | [_, _, _, _, _], _ => rfl), none_lkr (toFun (x := "_law_kind_reads") (q := "_law_kind_reads") (st := sLKR) D30)⟩
  have LK1 : Has P w K mg base "_law_kind_reads" 3 ["_law_own_reader", "_law_own_writer", "_law_own_one", "_law_own_other", "_law_bad"] (spLKR isOne) := ⟨_, fd30, gl 33 rfl, D30.kp, FunD.bindsN D30 (fun _ _ _ _ _ _ us hl => match us, hl with | [_, _, _, _, _], _ => rfl), ok_lkr (toFun (x := "_law_kind_reads") (q := "_law_kind_reads") (st := sLKR) D30) LM LC LK0 (by decide) (fun b hb => by obtain ⟨_, hb⟩ := hb; cases hb)⟩
  have LK : Has P w K mg base "_law_kind_reads" 4 ["_law_own_reader", "_law_own_writer", "_law_own_one", "_law_own_other", "_law_bad"] (spLKR fun _ => True) := ⟨_, fd30, gl 33 rfl, D30.kp, FunD.bindsN D30 (fun _ _ _ _ _ _ us hl => match us, hl with | [_, _, _, _, _], _ => rfl), ok_lkr (toFun (x := "_law_kind_reads") (q := "_law_kind_reads") (st := sLKR) D30) LM LC LK1 (by decide) (fun b _ => ⟨b, rfl⟩)⟩
  have LD0 : Has P w K mg base "_law_due" 4 ["_law_own_reader", "_law_own_writer", "_law_record"] (spLDue fun _ => False) := ⟨_, fd33, gl 36 rfl, D33.kp, FunD.bindsN D33 (fun _ _ _ _ _ _ us hl => match us, hl with | [_, _, _], _ => rfl), none_ldue (toFun (x := "_law_due") (q := "_law_due") (st := sLDue) D33)⟩
  have LD1 : Has P w K mg base "_law_due" 5 ["_law_own_reader", "_law_own_writer", "_law_record"] (spLDue fun z => z = "inner") := ⟨_, fd33, gl 36 rfl, D33.kp, FunD.bindsN D33 (fun _ _ _ _ _ _ us hl => match us, hl with | [_, _, _], _ => rfl), ok_ldue (toFun (x := "_law_due") (q := "_law_due") (st := sLDue) D33) LO LK LD0 (by decide) (fun e => oi e)⟩
  have LD : Has P w K mg base "_law_due" 6 ["_law_own_reader", "_law_own_writer", "_law_record"] (spLDue fun _ => True) := ⟨_, fd33, gl 36 rfl, D33.kp, FunD.bindsN D33 (fun _ _ _ _ _ _ us hl => match us, hl with | [_, _, _], _ => rfl), ok_ldue (toFun (x := "_law_due") (q := "_law_due") (st := sLDue) D33) LO LK LD1 (by decide) (fun _ => rfl)⟩
  have LDr : Has P w K mg base "_law_drawn" 2 ["_law_bag_here", "_law_picks"] (spDrawn) := ⟨_, fd31, gl 34 rfl, D31.kp, FunD.bindsN D31 (fun _ _ _ _ _ _ us hl => match us, hl with | [_, _], _ => rfl), ok_drawn (toFun (x := "_law_drawn") (q := "_law_drawn") (st := sDrawn) D31) LT⟩
  have LS : Has P w K mg base "_law_side" 3 ["_law_bag_here", "_law_number"] (spSide) := ⟨_, fd32, gl 35 rfl, D32.kp, FunD.bindsN D32 (fun _ _ _ _ _ _ us hl => match us, hl with | [_, _], _ => rfl), ok_side (toFun (x := "_law_side") (q := "_law_side") (st := sSide) D32) GG LT LN LU LDr⟩
  exact ok_law (toFun (x := "law") (q := "law") (st := sLaw) D34) GG LB LT LS LF HR LD HUU
end Fh
open PySem PySem.W PySem.Calls PyProof.Rows
theorem PySem.Challenge.cw_facehouse_k31_kinds_that_read_holds : PySem.Challenge.rw_facehouse_k31_kinds_that_read.Holds := by
  w_on; o_law
  refine HandSHeadRun.head_any (r := Fh.R) (q := view Fh.R.prog [50]) (H := Fh.hk) (ob := Fh.ob) (M := 20000) (loose := Fh.loose) (d := HandSHeadRun.topDef Fh.R.prog 50) (kwd := []) Fh.ob_eq
    (by kernel_rfl) (fun s => by kernel_rfl) Fh.run (by kernel_rfl) (by kernel_rfl) (by kernel_rfl) (by rfl) (by first | assumption | decide +kernel) (by decide +kernel) ⟨rfl, rfl, rfl, rfl, rfl, by decide +kernel⟩ ?hw ?hc
  case hw => w_witness2
  case hc =>
    refine L2.walk_ofE (l := PySem.Challenge.rw_facehouse_k31_kinds_that_read) (n := 63) (k := 10) (x := "_law_script") (CX := L2.CX0) rfl (by decide) (by kernel_rfl) ⟨rfl, by decide, by decide⟩ ?F (fun _ _ _ _ z => z)
    intro w mg fa h Y G hmg0
    obtain ⟨K, KX, c⟩ := Y
    have hmg : mg ("law" : PySem.Str) = some (.ref fa) := by
      have e : (HandSHeadRun.topDef Fh.R.prog 50).name = ("law" : PySem.Str) := by kernel_rfl
      rw [← e]
      exact hmg0
    obtain ⟨fd, hb, hF⟩ := Fh.facts (P := (PySem.Challenge.rw_facehouse_k31_kinds_that_read).prog) (w := w) KX G hmg c
    exact ⟨K, fd, Fh.spLaw K, KX, hb, fun H a ns hl _ hS => ⟨a, ns, rfl, hS, fun _ => rfl⟩, hF⟩
