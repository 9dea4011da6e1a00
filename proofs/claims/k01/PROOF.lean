import PyProof.Rows.All
import Wide.All
import OpenK.AllK
import Wide.FinOn
import HandS.ForMost
import HandS.Codes
import HandS.IsInst
import HandS.Wide
import HandS.DictTup
import PyProof.DictMoreH
import HandS.TupLen
import HandS.Nested
import HandS.ExcInit
import HandS.FStr
import HandS.ExcOwn
import HandS.ExcIs
import HandS.ExcField
import KE.KExcIs
import HandS.WordsExc
import HandS.Rev
import HandS.Style
import HandS.Zip
import HandS.Walk
import HandS.TryOnly
import KE.KExcSuper
import KE.KExcMake
import PySem.Challenge.RW_lentpages_k01_shape_paths
set_option Elab.async false
set_option linter.all false
set_option maxRecDepth 100000
set_option maxHeartbeats 4000000
namespace Lw
open PySem PySem.Spec PyProof.Rows L2 NdefX
open C8 (Def Cal cal0 pe_c)
def topS (i : Nat) : Stmt := PySem.Challenge.pw_lentpages_k01_shape_paths.main.body.getD i (.Pass ⟨0, 0, 0, 0⟩)

/-! ### data in the heap, tracked -/
mutual
def Dh (H : Hp) : PyData → V → Prop
  | .none, x => x = .non
  | .bool b, x => x = .bl b
  | .int i, x => x = .int i
  | .str s, x => x = .str s
  | .list ds, x => ∃ a xs, x = .ref a ∧ H a = some (.lst xs) ∧ DhAll H ds xs
  | .tuple ds, x => ∃ a xs, x = .ref a ∧ H a = some (.tup xs) ∧ DhAll H ds xs
  | .dict _, _ => False
def DhAll (H : Hp) : List PyData → List V → Prop
  | [], xs => xs = []
  | d :: ds, xs => ∃ v vs, xs = v :: vs ∧ Dh H d v ∧ DhAll H ds vs
end
mutual
theorem Dh.mono {H H' : Hp} (s : Same H H') : ∀ (d : PyData) (x : V), Dh H d x → Dh H' d x
  | .none, x, h => h
  | .bool b, x, h => h
  | .int i, x, h => h
  | .str i, x, h => h
  | .list ds, x, h => by
    obtain ⟨a, xs, e, g, r⟩ := h
    exact ⟨a, xs, e, s _ _ g, DhAll.mono s ds xs r⟩
  | .tuple ds, x, h => by
    obtain ⟨a, xs, e, g, r⟩ := h
    exact ⟨a, xs, e, s _ _ g, DhAll.mono s ds xs r⟩
  | .dict _, x, h => False.elim h
theorem DhAll.mono {H H' : Hp} (s : Same H H') : ∀ (ds : List PyData) (xs : List V), DhAll H ds xs → DhAll H' ds xs
  | [], xs, h => h
  | d :: ds, xs, h => by
    obtain ⟨v, vs, e, g, r⟩ := h
    exact ⟨v, vs, e, Dh.mono s d v g, DhAll.mono s ds vs r⟩
end
theorem DhAll.len {H : Hp} : ∀ {ds : List PyData} {xs : List V}, DhAll H ds xs → xs.length = ds.length
  | [], xs, h => by
    cases (show xs = [] from h)
    rfl
  | d :: ds, xs, h => by
    obtain ⟨v, vs, e, g, r⟩ := h
    rw [e, List.length_cons, List.length_cons, DhAll.len r]
theorem DhAll.get {H : Hp} : ∀ {ds : List PyData} {xs : List V} {i : Nat} {d : PyData}, DhAll H ds xs → ds[i]? = some d → ∃ x, xs[i]? = some x ∧ Dh H d x
  | [], xs, i, d, h, e => by simp at e
  | d' :: ds, xs, 0, d, h, e => by
    obtain ⟨v, vs, e', g, r⟩ := h
    simp at e
    subst e
    exact ⟨v, by rw [e']; rfl, g⟩
  | d' :: ds, xs, i + 1, d, h, e => by
    obtain ⟨v, vs, e', g, r⟩ := h
    obtain ⟨x, h1, h2⟩ := DhAll.get (i := i) (d := d) r (by simpa using e)
    exact ⟨x, by rw [e']; simpa using h1, h2⟩
mutual
theorem Dh.dp {K : PySem.W.Frag} {H : Hp} : ∀ (d : PyData) (x : V), Dh H d x → Dp K H x d
  | .none, x, h => by
    cases (show x = .non from h)
    exact .non
  | .bool b, x, h => by
    cases (show x = .bl b from h)
    exact .bl b
  | .int i, x, h => by
    cases (show x = .int i from h)
    exact .int i
  | .str i, x, h => by
    cases (show x = .str i from h)
    exact .str i
  | .list ds, x, h => by
    obtain ⟨a, xs, e, g, r⟩ := h
    rw [e]
    exact .lst (SqL.of g) (DhAll.dp ds xs r)
  | .tuple ds, x, h => by
    obtain ⟨a, xs, e, g, r⟩ := h
    rw [e]
    exact .tup (SqT.of g) (DhAll.dp ds xs r)
  | .dict _, x, h => False.elim h
theorem DhAll.dp {K : PySem.W.Frag} {H : Hp} : ∀ (ds : List PyData) (xs : List V), DhAll H ds xs → DpAll K H xs ds
  | [], xs, h => by
    cases (show xs = [] from h)
    exact .nil
  | d :: ds, xs, h => by
    obtain ⟨v, vs, e, g, r⟩ := h
    rw [e]
    exact .cons (Dh.dp d v g) (DhAll.dp ds vs r)
end
/-- a datum's type -/
def tyN : PyData → String
  | .none => "NoneType"
  | .bool _ => "bool"
  | .int _ => "int"
  | .str _ => "str"
  | .list _ => "list"
  | .tuple _ => "tuple"
  | .dict _ => "dict"
theorem Dh.ty {K : PySem.W.Frag} {H : Hp} : ∀ {d : PyData} {x : V}, Dh H d x → TyX K H x (.type (tyN d))
  | .none, x, h => by
    cases (show x = .non from h)
    exact .base .non
  | .bool b, x, h => by
    cases (show x = .bl b from h)
    exact .base (.bl b)
  | .int i, x, h => by
    cases (show x = .int i from h)
    exact .base (.int i)
  | .str i, x, h => by
    cases (show x = .str i from h)
    exact .base (.str i)
  | .list ds, x, h => by
    obtain ⟨a, xs, e, g, r⟩ := h
    rw [e]
    exact .base (.lst g)
  | .tuple ds, x, h => by
    obtain ⟨a, xs, e, g, r⟩ := h
    rw [e]
    exact .base (.tup g)
  | .dict _, x, h => False.elim h
/-- at most n lists and tuples in one another, none of them long -/
def Dle : Nat → PyData → Prop
  | 0, _ => False
  | n + 1, .list ds => ds.length ≤ 100000 ∧ ∀ d ∈ ds, Dle n d
  | n + 1, .tuple ds => ds.length ≤ 100000 ∧ ∀ d ∈ ds, Dle n d
  | _, .dict _ => False
  | _, _ => True
theorem same_upd {H : Hp} {p : Addr} {o : HO} (h : H p = none) : Same H (upd H p o) := fun b x e => by
  rw [upd_ne (ne_of_none e h)]
  exact e
theorem same_rfl {H : Hp} : Same H H := fun _ _ e => e
/-- what is asked of the top's names -/
structure Txt (mg : Str → Option Value) : Prop where
  len : mg "len" = none
  abs : mg "abs" = none
  int : mg "int" = none
  range : mg "range" = none
  isinstance : mg "isinstance" = none
  bool : mg "bool" = none
  str : mg "str" = none
  list : mg "list" = none
  tuple : mg "tuple" = none
abbrev sI (i : Int) : Option V := some (.int i)
abbrev sR (a : Addr) : Option V := some (.ref a)
abbrev sS (x : Str) : Option V := some (.str x)
abbrev sB (b : Bool) : Option V := some (.bl b)

/-! ### steps of a reading -/
theorem ifD {p : Prop} [Decidable p] {A B : Prop} (a : p → A) (b : ¬ p → B) : if decide p = true then A else B := by
  by_cases h : p
  · rw [if_pos (decide_eq_true h)]
    exact a h
  · rw [if_neg (fun z => h (of_decide_eq_true z))]
    exact b h
theorem ifEq {x y : Int} {A B : Prop} (a : x = y → A) (b : x ≠ y → B) : if decide (V.int x = V.int y) = true then A else B :=
  ifD (fun h => a (V.int.inj h)) (fun h => b (fun z => h (congrArg V.int z)))
theorem ifT {p : Prop} [Decidable p] {A B : Prop} (h : p) (a : A) : if decide p = true then A else B := by
  rw [if_pos (decide_eq_true h)]
  exact a
theorem ifF {p : Prop} [Decidable p] {A B : Prop} (h : ¬ p) (b : B) : if decide p = true then A else B := by
  rw [if_neg (fun z => h (of_decide_eq_true z))]
  exact b
theorem ifEqT {x y : Int} {A B : Prop} (h : x = y) (a : A) : if decide (V.int x = V.int y) = true then A else B := ifT (congrArg V.int h) a
theorem ifEqF {x y : Int} {A B : Prop} (h : x ≠ y) (b : B) : if decide (V.int x = V.int y) = true then A else B := ifF (fun z => h (V.int.inj z)) b
theorem cmul_l {i j : Int} (h : -(2 ^ 64) < i ∧ i < 2 ^ 64) : CMul i j := .inl h
theorem cmul_r {i j : Int} (h : -(2 ^ 64) < j ∧ j < 2 ^ 64) : CMul i j := .inr h
/-- a statement that the steps stop at -/
@[irreducible] def tMk (t : TS) : TS := t
theorem tMk_eq (t : TS) : tMk t = t := by
  unfold tMk
  rfl
theorem ps_mk {X : Cx} {s : Stmt} {t : TS} (h : PS X s t) : PS X s (tMk t) := by
  rw [tMk_eq]
  exact h
theorem un {t : TS} {D : Ends} {σ : L2.St} {H : Hp} (h : t D σ H) : tMk t D σ H := by
  rw [tMk_eq]
  exact h
/-- what follows, said once -/
theorem jn {t : TS} {D : Ends} {σ : L2.St} {H : Hp} (M : L2.St → Hp → Prop) (h2 : ∀ σ H, M σ H → D.nx σ H) (h1 : ∀ N : L2.St → Hp → Prop, (∀ σ H, M σ H → N σ H) → t { D with nx := N } σ H) : tMk t D σ H := by
  rw [tMk_eq]
  exact h1 D.nx h2
/-- a wish that the steps stop at -/
@[irreducible] def Ob (p : Prop) : Prop := p
theorem ob {p : Prop} (h : p) : Ob p := by
  unfold Ob
  exact h
theorem unob {p : Prop} (h : Ob p) : p := by
  unfold Ob at h
  exact h
theorem atI_getD {ns : List Int} {j : Int} (h0 : 0 ≤ j) (h1 : j < (ns.length : Int)) : atI (ns.map V.int) j = some (.int (ns.getD j.toNat 0)) := by
  have e : j = ((j.toNat : Nat) : Int) := by omega
  have hj : j.toNat < ns.length := by omega
  have q : atI (ns.map V.int) ((j.toNat : Nat) : Int) = some (.int (ns.getD j.toNat 0)) := atI_nat (by
    rw [List.getElem?_map, List.getElem?_eq_getElem hj, List.getD_eq_getElem?_getD, List.getElem?_eq_getElem hj]
    rfl)
  rw [← e] at q
  exact q
theorem sz {n : Nat} (h : n ≤ 1000 := by first | decide | simp) : n ≤ sizeLine := Nat.le_of_lt (small1000 h)
theorem sz5 {n : Nat} (h : n ≤ 1000000) : n < sizeLine := by
  rw [sizeLine_eq]
  omega
theorem take_succ_eq {α : Type} {xs ys : List α} {i : Nat} {x y : α} (hx : xs[i]? = some x) (hy : ys[i]? = some y) : xs.take (i + 1) = ys.take (i + 1) ↔ xs.take i = ys.take i ∧ x = y := by
  rw [List.take_add_one, List.take_add_one, hx, hy]
  constructor
  · intro h
    have h1 := List.append_inj' h rfl
    refine ⟨h1.1, ?_⟩
    have h2 := h1.2
    simpa using h2
  · rintro ⟨h1, rfl⟩
    rw [h1]
-- size2
theorem ifN {b : Bool} {A B : Prop} (h : if b = true then B else A) : if (!b) = true then A else B := by
  cases b
  · exact h
  · exact h
theorem ifNe {x y : Int} {A B : Prop} (a : x ≠ y → A) (b : x = y → B) : if (!decide (V.int x = V.int y)) = true then A else B := ifN (ifEq b a)
theorem ixAny {K : PySem.W.Frag} {H : Hp} {a : Addr} {xs : List V} {i : Int} {v : V} {Q : VK} (h : SqL K H a xs ∨ SqT K H a xs) (e : atI xs i = some v) (q : Q v H) : rIx K (.ref a) (.int i) H Q := by
  rcases h with h | h
  · exact .inl ⟨a, xs, i, v, rfl, rfl, h, e, q⟩
  · exact .inr (.inl ⟨a, xs, i, v, rfl, rfl, h, e, q⟩)
theorem sameT {K : PySem.W.Frag} {H H' : Hp} {a : Addr} {xs : List V} (s : Same H H') (h : SqT K H a xs) : SqT K H' a xs := by
  rcases h with (g | ⟨o, g⟩) | g
  · exact .inl (.inl (s _ _ g))
  · exact .inl (.inr ⟨o, s _ _ g⟩)
  · exact .inr g
theorem sqAny {K : PySem.W.Frag} {H H' : Hp} {a : Addr} {xs : List V} (s : Same H H') (h : SqL K H a xs ∨ SqT K H a xs) : SqL K H' a xs ∨ SqT K H' a xs := h.imp (fun z => s.seq z) (fun z => sameT s z)
theorem same_put {H H1 : Hp} {D : Addr} {o : HO} (s : Same H H1) (h : H D = none) : Same H (upd H1 D o) := fun b x e => by
  rw [upd_ne (ne_of_none e h)]
  exact s b x e

/-! ### rules that say the written part by a letter -/
theorem ixL {X : Cx} (K : PySem.W.Frag) (h : X.K = K) : IxR X (rIxL K) := by
  subst h
  exact ix_list
theorem ixT {X : Cx} (K : PySem.W.Frag) (h : X.K = K) : IxR X (rIxT K) := by
  subst h
  exact ix_tup
theorem ixA {X : Cx} (K : PySem.W.Frag) (h : X.K = K) : IxR X (rIx K) := by
  subst h
  exact ix_seq
def rLen (K : PySem.W.Frag) : List V → Hp → VK → Prop := fun xs H Q => ∃ p ys, xs = [.ref p] ∧ (SqL K H p ys ∨ SqT K H p ys) ∧ Q (.int ys.length) H
theorem lenQ {X : Cx} (K : PySem.W.Frag) (h : X.K = K) : CallR X (.builtin "len") (rLen K) := by
  subst h
  exact call_len_seq
def isB : PyData → Bool
  | .bool _ => true
  | _ => false
def isI : PyData → Bool
  | .int _ => true
  | _ => false
def isS : PyData → Bool
  | .str _ => true
  | _ => false
def isL : PyData → Bool
  | .list _ => true
  | _ => false
def isT : PyData → Bool
  | .tuple _ => true
  | _ => false
theorem kit_B {K : PySem.W.Frag} : ∀ (d : PyData), PySem.W.kitOne K (.type (tyN d)) (.type "bool") = some (isB d)
  | .none => kit_ty (show kitB "NoneType" "bool" = some false by decide +kernel)
  | .bool _ => kit_ty (show kitB "bool" "bool" = some true by decide +kernel)
  | .int _ => kit_ty (show kitB "int" "bool" = some false by decide +kernel)
  | .str _ => kit_ty (show kitB "str" "bool" = some false by decide +kernel)
  | .list _ => kit_ty (show kitB "list" "bool" = some false by decide +kernel)
  | .tuple _ => kit_ty (show kitB "tuple" "bool" = some false by decide +kernel)
  | .dict _ => kit_ty (show kitB "dict" "bool" = some false by decide +kernel)
theorem kit_I {K : PySem.W.Frag} : ∀ (d : PyData), PySem.W.kitOne K (.type (tyN d)) (.type "int") = some (isI d || isB d)
  | .none => kit_ty (show kitB "NoneType" "int" = some false by decide +kernel)
  | .bool _ => kit_ty (show kitB "bool" "int" = some true by decide +kernel)
  | .int _ => kit_ty (show kitB "int" "int" = some true by decide +kernel)
  | .str _ => kit_ty (show kitB "str" "int" = some false by decide +kernel)
  | .list _ => kit_ty (show kitB "list" "int" = some false by decide +kernel)
  | .tuple _ => kit_ty (show kitB "tuple" "int" = some false by decide +kernel)
  | .dict _ => kit_ty (show kitB "dict" "int" = some false by decide +kernel)
theorem kit_S {K : PySem.W.Frag} : ∀ (d : PyData), PySem.W.kitOne K (.type (tyN d)) (.type "str") = some (isS d)
  | .none => kit_ty (show kitB "NoneType" "str" = some false by decide +kernel)
  | .bool _ => kit_ty (show kitB "bool" "str" = some false by decide +kernel)
  | .int _ => kit_ty (show kitB "int" "str" = some false by decide +kernel)
  | .str _ => kit_ty (show kitB "str" "str" = some true by decide +kernel)
  | .list _ => kit_ty (show kitB "list" "str" = some false by decide +kernel)
  | .tuple _ => kit_ty (show kitB "tuple" "str" = some false by decide +kernel)
  | .dict _ => kit_ty (show kitB "dict" "str" = some false by decide +kernel)
theorem kit_L {K : PySem.W.Frag} : ∀ (d : PyData), PySem.W.kitOne K (.type (tyN d)) (.type "list") = some (isL d)
  | .none => kit_ty (show kitB "NoneType" "list" = some false by decide +kernel)
  | .bool _ => kit_ty (show kitB "bool" "list" = some false by decide +kernel)
  | .int _ => kit_ty (show kitB "int" "list" = some false by decide +kernel)
  | .str _ => kit_ty (show kitB "str" "list" = some false by decide +kernel)
  | .list _ => kit_ty (show kitB "list" "list" = some true by decide +kernel)
  | .tuple _ => kit_ty (show kitB "tuple" "list" = some false by decide +kernel)
  | .dict _ => kit_ty (show kitB "dict" "list" = some false by decide +kernel)
theorem kit_T {K : PySem.W.Frag} : ∀ (d : PyData), PySem.W.kitOne K (.type (tyN d)) (.type "tuple") = some (isT d)
  | .none => kit_ty (show kitB "NoneType" "tuple" = some false by decide +kernel)
  | .bool _ => kit_ty (show kitB "bool" "tuple" = some false by decide +kernel)
  | .int _ => kit_ty (show kitB "int" "tuple" = some false by decide +kernel)
  | .str _ => kit_ty (show kitB "str" "tuple" = some false by decide +kernel)
  | .list _ => kit_ty (show kitB "list" "tuple" = some false by decide +kernel)
  | .tuple _ => kit_ty (show kitB "tuple" "tuple" = some true by decide +kernel)
  | .dict _ => kit_ty (show kitB "dict" "tuple" = some false by decide +kernel)
theorem kit_LT {K : PySem.W.Frag} (d : PyData) : PySem.W.kitAny K (.type (tyN d)) [.type "list", .type "tuple"] = some (isL d || isT d) := by
  refine kitAny_cons (kit_L d) (fun h => ?_) (fun h => by rw [h]; rfl)
  rw [h]
  refine kitAny_cons (kit_T d) (fun h => by rw [h]; rfl) (fun h => by rw [h]; rfl)
/-- isinstance of a datum -/
def rIsD (T : String) (g : PyData → Bool) : List V → Hp → VK → Prop := fun xs H Q => ∃ x d, xs = [x, .ty T] ∧ Dh H d x ∧ Q (.bl (g d)) H
theorem isOf {X : Cx} {T : String} {g : PyData → Bool} (h : ∀ d, PySem.W.kitOne X.K (.type (tyN d)) (.type T) = some (g d)) : CallR X (.builtin "isinstance") (rIsD T g) := by
  intro pins s σ H xs us Q I r z
  obtain ⟨x, d, rfl, hx, q⟩ := z
  exact call_isi pins s σ H _ us Q I r ⟨_, _, _, _, _, rfl, .ty T, hx.ty, h d, q⟩
theorem is_bool {X : Cx} : CallR X (.builtin "isinstance") (rIsD "bool" isB) := isOf kit_B
theorem is_int {X : Cx} : CallR X (.builtin "isinstance") (rIsD "int" fun d => isI d || isB d) := isOf kit_I
theorem is_str {X : Cx} : CallR X (.builtin "isinstance") (rIsD "str" isS) := isOf kit_S
theorem is_list {X : Cx} : CallR X (.builtin "isinstance") (rIsD "list" isL) := isOf kit_L
theorem is_tuple {X : Cx} : CallR X (.builtin "isinstance") (rIsD "tuple" isT) := isOf kit_T
/-- isinstance(x, (list, tuple)) of a datum -/
def rIsLT : List V → Hp → VK → Prop := fun xs H Q => ∃ x d p, xs = [x, .ref p] ∧ H p = some (.tup [.ty "list", .ty "tuple"]) ∧ Dh H d x ∧ Q (.bl (isL d || isT d)) H
theorem is_lt {X : Cx} : CallR X (.builtin "isinstance") rIsLT := by
  intro pins s σ H xs us Q I r z
  obtain ⟨x, d, p, rfl, hp, hx, q⟩ := z
  exact call_isiT pins s σ H _ us Q I r ⟨_, _, _, _, _, _, rfl, hp, .cons (.ty "list") (.cons (.ty "tuple") .nil), hx.ty, kit_LT d, q⟩
theorem ifBT {b : Bool} {A B : Prop} (h : b = true) (a : A) : if b = true then A else B := by
  rw [if_pos h]
  exact a
theorem ifBF {b : Bool} {A B : Prop} (h : b = false) (q : B) : if b = true then A else B := by
  rw [h, if_neg Bool.false_ne_true]
  exact q
theorem inQ {X : Cx} (K : PySem.W.Frag) (h : X.K = K) : OpR X (compareOp .In) (rIn K false) := by
  subst h
  exact op_in_seq
theorem notInQ {X : Cx} (K : PySem.W.Frag) (h : X.K = K) : OpR X (compareOp .NotIn) (rIn K true) := by
  subst h
  exact op_notIn_seq
theorem eqQ {X : Cx} (K : PySem.W.Frag) (h : X.K = K) (hu : X.A.units + 64 < cLine) : OpR X (compareOp .Eq) (rEqD K) := by
  subst h
  exact op_eqD hu
theorem neQ {X : Cx} (K : PySem.W.Frag) (h : X.K = K) (hu : X.A.units + 64 < cLine) : OpR X (compareOp .NotEq) (rNeD K) := by
  subst h
  exact op_neD hu
def rLst (K : PySem.W.Frag) : List V → Hp → VK → Prop := fun xs H Q => ∃ p ys, xs = [.ref p] ∧ (SqL K H p ys ∨ SqT K H p ys) ∧ ∀ l, H l = none → Q (.ref l) (upd H l (.lst ys))
theorem listQ {X : Cx} (K : PySem.W.Frag) (h : X.K = K) : CallR X (.type "list") (rLst K) := by
  subst h
  exact call_list_of

/-! ### an own error (over ValueError, by any own classes) whose __init__ begins with super().__init__(text) -/
section
variable {prog : Program} {w : World} {A : Around} {E : Value → Shared → Prop} {h : Heap} {g : Array GenState} {d : Drawn} {t : Nat} {os : OsState}
theorem mw_call {u a C N t1 : Addr} {dv : Option Addr} {ws : List Value} {Q : Value → Shared → Prop} {nm q : Str} {bs bm : List Value} {hdct : Bool} {sn : List Str} {sub : List Value} {ab : Bool} {col : Option Bool} {dd : Option Addr} {k0 k1 k2 k3 k5 : Option Value}
    (hC : h.get? C = some (excClassObj nm q C N bs bm hdct sn sub ab col dd k0 k1 k2 k3 k5 "ValueError.__new__")) (he : h.get? a = some (PySem.W.excObj C t1 dv .none)) (hu : h.get? u = some (PySem.W.kxs_mw "ValueError.__init__" a)) (hl : ws.length ≤ sizeLine)
    (hq : ∀ h' t2, (∀ b o, b ≠ a → h.get? b = some o → h'.get? b = some o) → h'.get? a = some (PySem.W.excObj C t2 dv .none) → Q .none ⟨h', g, d, t, os⟩) : wpAny (model prog w) A (call (.ref u) ws) Q E ⟨h, g, d, t, os⟩ := by
  have FB := F.excBase_ValueError
  refine (wpAny_call (codeAny_of_tree ?_)); show wpAny _ A.in1 (callAny (.ref u) ⟨ws, []⟩) _ _ _; simp only [callAny]
  refine (wpAny_bind (wpAny_load hu ?_)); simp only [PySem.W.kxs_mw]; refine (PySem.W.KFB.if_so (by decide) (wpAny_bind (PySem.W.check_bound_init FB.toExcCallFacts hC he rfl (wpAny_bind (wpAny_pure (wpAny_pure ⟨plainId_quiet FB.init.plain _, codeAny_builtin FB.initEntry ?_⟩))))))
  exact PySem.W.exc_init_tree (cls := .ref C) (t0 := t1) (dv := dv) (c2 := .none) (c3 := .none) (b4 := .bool false) he hl fun h' k e _ => hq h' _ k e
end
/-- what the written part and the text say of the def F at f, an __init__ of the class at D -/
structure SupAt (P : Program) (K : PySem.W.Frag) (mg : Str → Option Value) (F : NF) (f D cc : Addr) (me : Str) (dV kV doc pm ctv : Value) (an : Option Addr) : Prop where
  fn : ∃ oc od osl, K.lookup f = some ⟨oc, od, .func (PySem.W.fnX F.name F.qual F.params F.body F.scope F.cl dV kV doc pm an (.ref F.c) ctv), osl⟩
  cl : F.cl = [(("__class__" : Str), cc)]
  code : PySem.W.codeIn K (.ref F.c) F.qual = true
  file : ∃ ccl cdd vs ccs file tf, K.lookup F.c = some ⟨ccl, cdd, .fields vs, ccs⟩ ∧ vs[2]? = some (.str file tf) ∧ ((P.main.file : Str) == file) = true
  top : (P.main.scope.names.lookup ("super" : Str)).isSome = false
  cell : ∃ cl cld csl, K.lookup cc = some ⟨cl, cld, .cell (some (.ref D)), csl⟩
  sup : mg "super" = none
  par : ∃ ar : Arg, (F.params.posonlyargs ++ F.params.args).head? = some ar ∧ ar.arg = me
  sk : F.scope.names.lookup ("super" : Str) = some .globalImplicit
  exc : OexC K D
  mro : PySem.W.mroIn K D (.ref D) = some true
  ini : PySem.W.ks_superIn K D D "__init__" = some (some (.builtin "ValueError.__init__"))
  ve : PySem.W.subIn K (.ref D) (.type "ValueError") = some true
  any : PySem.W.nsIn K cStatics "thirdparty.any" = some none
section
variable {CX : CXT} {P : Program} {w : World} {K : PySem.W.Frag} {mg : Str → Option Value} {base : Heap} {N ps : List Str} {F : NF} {f D cc : Addr} {k : Nat} {sp : Sp} {me : Str} {dV kV doc pm ctv : Value} {an : Option Addr} {msg : Expr} {rest : List Stmt} {p0 p1 p2 p3 p4 : Pos}
theorem fn_sup (S : NScope N ps ["__class__"] F.scope) (U : SupAt P K mg F f D cc me dV kV doc pm ctv an) (hps : ps[0]? = some me) (hF : F.body = .Expr (.Call (.Attribute (.Call (.Name "super" p0) [] [] p1) "__init__" p2) [msg] [] p3) p4 :: rest)
    (len : ∀ vs H Q E, sp vs H Q E → vs.length = ps.length)
    (hbody : ∀ (A : Around) (outer : List Env) (s : Shared) (H : Hp) (vs : List V) (Q : VK) (E : XK), Room k (A.deeper (envF F f s.heap.objs.size)) → sp vs H Q E →
      ∃ ta t, PA (ncx CX P w K mg base N F f A outer s H E) [msg] ta ∧ PSs (ncx CX P w K mg base N F f A outer s H E) rest t ∧
        ∃ a, vs[0]? = some (.ref a) ∧ H a = some (exo a D none) ∧ ta (startF N vs [none]) H fun xs H1 => xs.length ≤ 1000 ∧ H1 a = some (exo a D none) ∧ t { nx := fun _ H' => Q .non H', rt := Q } (startF N vs [none]) H1)
    {pl : Env → Sem Bool} (he : ∀ env : Env, eval (.Call (.Attribute (.Call (.Name "super" p0) [] [] p1) "__init__" p2) [msg] [] p3) env = (do
      let ov ← attributeBase (.Call (.Name "super" p0) [] [] p1) "__init__" env (eval (.Call (.Name "super" p0) [] [] p1) env)
      standAt p2.atName
      let (f, first) ← holding [ov] (getMethod ov "__init__" (pl env))
      callWith p3 f first (backTo p3 (starEach [msg] env)) []) := by intro _; rfl)
    (hm : ∀ env : Env, starEach [msg] env = [(false, eval msg env)] := by intro _; rfl) (hs : ∀ env : Env, swapsWith (.Call (.Attribute (.Call (.Name "super" p0) [] [] p1) "__init__" p2) [msg] [] p3) none p4.line env = pure false := by intro _; rfl) :
    FnOk P w K mg base CX (k + 1) f (PySem.W.fnX F.name F.qual F.params F.body F.scope F.cl dV kV doc pm an (.ref F.c) ctv) ps sp := by
  refine ⟨len, fun A outer s H args us vs Q E hr e0 hb r hsp => ?_⟩
  have hl := len _ _ _ _ hsp
  have KX : K.In s.heap := e0.mod.kin.keeps fun b o e => (e0.bs b o e).1
  have lim : s.heap.NoLimit := e0.mod.nolimit.keeps fun b o e => (e0.bs b o e).1
  obtain ⟨oc, od, osl, lk⟩ := U.fn
  obtain ⟨cl, cld, csl, hcc⟩ := U.cell
  have CA : CellsAt F.cl ["__class__"] [none] s.heap H := by
    rw [U.cl]
    have one : ∀ {y : Str} {c : Addr}, ([("__class__", cc)] : List (Str × Addr)).lookup y = some c → y = "__class__" ∧ c = cc := fun {y c} e => by
      have m := PySem.mem_of_lookup e
      rcases List.mem_singleton.mp m with z
      cases z
      exact ⟨rfl, rfl⟩
    refine ⟨rfl, fun y c e => ?_, fun x y c e1 e2 => ?_, fun i y e => ?_⟩
    · obtain ⟨rfl, rfl⟩ := one e
      exact ⟨(e0.bs _ _ (e0.mod.kin _ _ hcc)).2, _, _, KX _ _ hcc, rfl⟩
    · rw [(one e1).1, (one e2).1]
    · have hy : y = "__class__" := by
        have m := List.mem_of_getElem? e
        exact List.mem_singleton.mp m
      rw [hy]
      refine ⟨cc, by simp [List.lookup], fun v hv => ?_⟩
      cases i with
      | zero => simp at hv
      | succ i => simp at hv
  refine ks_codeAny_call_defAt (binds := ps.zip us) hr.depth (KX _ _ lk) rfl lim (PySem.W.codeRec_of KX U.code) rfl hb S.nocell (fun ⟨n, _⟩ hy => S.par n (List.of_mem_zip hy).1) (fun h₁ hns kp => ?_) S.co S.gen S.kind
  obtain ⟨ta, t, hta, ht, a, ha0, ha, q⟩ := hbody A outer s H vs Q E (hr.deeper _) hsp
  have I : Inv (ncx CX P w K mg base N F f A outer s H E) [] (startF N vs [none]) H { s with heap := h₁, toks := s.toks + (ps.zip us).length } := inv_startN S hr.hd e0 hl r CA hns kp
  show PySem.wpAt _ (A.deeper (envF F f s.heap.objs.size)) (.func F.body (envF F f s.heap.objs.size)) (execs F.body (envF F f s.heap.objs.size)) _ _ _
  rw [hF]
  refine ks_wpAt_execs_cons (ks_wpAt_mono (Q := fun fl s' => fl = .next ∧ ∃ H1, Inv (ncx CX P w K mg base N F f A outer s H E) [] (startF N vs [none]) H1 s' ∧ t { nx := fun _ H' => Q .non H', rt := Q } (startF N vs [none]) H1) ?one ?two fun _ _ z => z)
  case two =>
    rintro fl s' ⟨rfl, H1, J, q1⟩
    refine wpAt_of_wpAny (wpAny_mono (ht.run [] s' (startF N vs [none]) H1 _ J q1) (fun fl s2 hs => ?_) fun e s2 hs => hs)
    have fin : ∀ {σ' : L2.St} {H' : Hp} {v : V} {u : Value}, Inv (ncx CX P w K mg base N F f A outer s H E) [] σ' H' s2 → RelV v u → Q v H' → CE outer P w H s Q u s2 := fun {σ' H' v u} J2 rv q2 => ⟨v, H', J2.os, J2.bare, J2.base, J2.hok, rv, q2⟩
    cases fl with
    | ret u =>
      obtain ⟨v, σ', H', J2, rv, q2⟩ := hs
      exact fin J2 rv q2
    | next =>
      obtain ⟨σ', H', J2, q2⟩ := hs
      exact fin (v := V.non) (u := Value.none) J2 rfl q2
    | brk =>
      obtain ⟨_, _, _, q2⟩ := hs
      exact q2.elim
    | cont =>
      obtain ⟨_, _, _, q2⟩ := hs
      exact q2.elim
  case one =>
    have IX := I
    obtain ⟨oD, cdD, hD0, hD1, hD2⟩ : ∃ oD cdD, PySem.W.clsIn K D = some cdD ∧ K.lookup D = some oD ∧ oD.data = .cls cdD := by
      obtain ⟨nm, qq, NN, bs, bm, sn, sub, ab, col, dd, k0, k1, k2, k3, k5, hC, _⟩ := U.exc.cls
      exact ⟨_, _, by unfold PySem.W.clsIn; rw [hC] <;> rfl, hC, rfl⟩
    obtain ⟨ccl, cdd, vsc, ccs, file, tf, hfc, hv2, hfile⟩ := U.file
    obtain ⟨ar, har, harm⟩ := U.par
    obtain ⟨t1, ho⟩ := exo_at I.hok ha
    have K1 := I.kIn
    have hN0 : N[0]? = some me := by
      have z : (N.take (ps.length + [("__class__" : Str)].length))[0]? = (ps ++ [("__class__" : Str)])[0]? := by rw [S.pre]
      rw [List.getElem?_take_of_lt (by simp)] at z
      rw [z, List.getElem?_append_left (List.getElem?_eq_some_iff.mp hps).1, hps]
    have hme : F.scope.names.lookup me = some .local := S.par _ (List.mem_of_getElem? hps)
    have hs0 : (startF N vs [none])[0]? = some (some (.ref a)) := by
      have hlt : 0 < vs.length := (List.getElem?_eq_some_iff.mp ha0).1
      unfold startF
      rw [List.getElem?_append_left (by rw [List.length_map]; exact hlt), List.getElem?_map, ha0]
      rfl
    refine ks_wpAt_Expr_any (ks_wpAt_MethodCall ?_ (he _)) (hi := I.quiet) (hs := hs _)
    refine ks_wpAt_super_base (env := envF F f s.heap.objs.size) U.sk (S.frk _ (List.mem_singleton.mpr rfl)) (by decide) rfl (K1 _ _ lk) rfl har rfl (K1 _ _ hfc) rfl hv2 hfile U.top ?_
    obtain ⟨mb, hb1, hb2⟩ := I.mod.blt
    refine PySem.W.ks_loadName_global S.kind U.sk (Calls.loadGlobal_builtin (I.mod.glob.keeps I.bk) U.sup (hb1.keeps I.bk) ((hb2 "super" (by decide)).trans (show bootBuiltins "super" = some (.type "super") from by first | rfl | kernel_rfl)) ⟨rfl, ?_⟩)
    refine wpAny_loadName_free (c := cc) (v := .ref D) S.kind (S.frk _ (List.mem_singleton.mpr rfl)) (by show F.cl.lookup _ = _; rw [U.cl]; simp [List.lookup]) ⟨_, K1 _ _ hcc, rfl⟩ ?_
    obtain ⟨m, hns1, hlook⟩ := I.loc
    obtain ⟨u, hu, hL⟩ := hlook 0 me (.ref a) hN0 hs0 (.inl hme)
    obtain rfl : u = Value.ref a := hu
    have hmu : m me = some (.ref a) := by
      rcases hL with ⟨_, z⟩ | ⟨z, _⟩
      · exact z
      · have z2 : F.scope.names.lookup me = some .cell ∨ F.scope.names.lookup me = some .free := z
        rw [hme] at z2
        rcases z2 with z2 | z2 <;> cases z2
    rw [harm]
    refine wpAny_loadName_local S.kind hme hns1 hmu ?_
    refine ks_wpAny_isType_cls (K1 _ _ hD1) hD2 ⟨rfl, ?_⟩
    refine ks_wpAny_call_super (K1 _ _ hD1) hD2 ho rfl (fun c z => by cases z) (PySem.W.looks_mroIn K1 U.mro) (fun h2 e2 kk2 => ?_)
    have I2 := I.kept (t' := s.toks + (ps.zip us).length) kk2
    have K2 := I2.kIn
    have ia : PySem.W.InstAt h2 a (PySem.W.excObj D t1 none .none) D none := ⟨kk2 _ _ ho, rfl, rfl, trivial⟩
    have aD : a ≠ D := fun z => by
      have z2 := K1 _ _ hD1
      rw [← z, ho] at z2
      have z3 := Option.some.inj z2
      rw [← z3] at hD2
      cases hD2
    have ini := U.ini
    unfold PySem.W.ks_superIn at ini
    rw [hD0] at ini
    refine PySem.W.kxs_getMethod PySem.W.kxs_ValueError e2 (PySem.W.looks_opaque K2 U.any) (l₀ := cdD.mro) (fun A' Q' E' s' k' q' => wpAny_bind ((PySem.W.looks_clsIn K2 hD0) A' _ E' s' k' (wpAny_pure q'))) rfl K2 ini (ia.type.andThen (PySem.W.looks_subIn K2 U.ve)) aD (by decide) ?_
    have I3 := I2.kept (t' := s.toks + (ps.zip us).length + 1) (h' := h2.push (PySem.W.kxs_mw "ValueError.__init__" a)) (fun b o e => Heap.get?_push_of_some _ e)
    have I4 : Inv (ncx CX P w K mg base N F f A outer s H E) ([] ++ [(h2.objs.size, PySem.W.kxs_mw "ValueError.__init__" a)]) (startF N vs [none]) H _ := I3.pins_of (fun p hp => by
      obtain rfl := List.mem_singleton.mp hp
      exact ⟨Heap.get?_push_at rfl rfl, I2.hok.fresh (Nat.le_refl _), Nat.ne_of_gt I2.lt, I2.nofs (Nat.le_refl _), fun v z => by cases z⟩)
    show wpAny _ _ (callWith p3 (.ref h2.objs.size) [] (backTo p3 (starEach [msg] (envF F f s.heap.objs.size))) []) _ _ _
    have hsp2 := hta.run p3 _ _ _ _ _ I4 q
    have hst : starEach [msg] (ncx CX P w K mg base N F f A outer s H E).env = [(false, eval msg (envF F f s.heap.objs.size))] := hm _
    rw [hst] at hsp2
    rw [hm]
    refine PySem.W.kxs_callWith (i := "ValueError.__init__") (x := a) rfl (Calls.evalArgs_plain (thn hsp2 fun us2 s7 ⟨xs, H1, I8, r8, hl8, ea, q8⟩ => ?_))
    obtain ⟨nm, qq, NN, bs, bm, sn, sub, ab, col, dd, k0, k1, k2, k3, k5, hC, _⟩ := U.exc.cls
    obtain ⟨h7, g7, d7, t7, os7⟩ := s7
    have pn := (I8.pin (h2.objs.size, PySem.W.kxs_mw "ValueError.__init__" a) (List.mem_append_right _ (List.mem_append_right _ (List.mem_singleton.mpr rfl)))).1
    obtain ⟨t8, ho8⟩ := exo_at I8.hok ea
    refine ⟨pn, mw_call (I8.kIn _ _ hC) ho8 pn (by show us2.length ≤ sizeLine; rw [← r8.length, sizeLine_eq]; omega) fun h9 t9 k9 e9 => ⟨rfl, H1, ?_, q8⟩⟩
    have J := I8.write (t' := t7) (x := a) (e := a) (o := exo a D none) (by rw [ea]; exact True.intro) (.inl rfl) k9 ⟨_, e9⟩ (exo_ok e9)
    have eu : upd H1 a (exo a D none) = H1 := by
      funext b
      by_cases hb : b = a
      · rw [hb, upd_same, ea]
      · rw [upd_ne hb]
    rw [eu] at J
    exact J.unpinned
end

/-! ### a chain of three comparisons -/
section
variable {X : Cx} {a b c d : Expr} {ta tb tc td : TE} {r r2 r3 : R2} {op op2 op3 : CmpOp} {pos : Pos}
def tChain3 (r r2 r3 : R2) (ta tb tc td : TE) : TE := fun σ H Q => ta σ H fun x H1 => tb σ H1 fun y H2 => r x y H2 fun z H3 => ∃ k, z = .bl k ∧
  (if k = true then tc σ H3 fun u H4 => r2 y u H4 fun z2 H5 => ∃ k2, z2 = .bl k2 ∧ (if k2 = true then td σ H5 fun v H6 => r3 u v H6 Q else Q (.bl false) H5) else Q (.bl false) H3)
theorem if_ff {A B : Prop} (h : B) : if (false : Bool) = true then A else B := by
  rw [if_neg (by decide)]
  exact h
theorem if_tt {A B : Prop} (h : A) : if (true : Bool) = true then A else B := by
  rw [if_pos rfl]
  exact h
theorem pt_chain3 (h1 : OpR X (compareOp op) r) (h2 : OpR X (compareOp op2) r2) (h3 : OpR X (compareOp op3) r3) (ha : PE X a ta) (hb : PE X b tb) (hc : PE X c tc) (hd : PE X d td)
    (hm : lastMarks [op, op2, op3] [b, c, d] = false := by with_unfolding_all rfl) : PT X (.Compare a [op, op2, op3] [b, c, d] pos) (tTest (tChain3 r r2 r3 ta tb tc td)) := by
  refine ⟨fun pins s σ H Q I h => ?_⟩
  refine isTrue_chain (thn (ha.run pins s σ H _ I h) fun v s1 ⟨x, H1, I1, e1, q1⟩ => test_link (thn (hb.run pins s1 σ H1 _ I1 q1) fun u s2 ⟨y, H2, I2, e2, q2⟩ => thn (h1 pins s2 σ H2 x y v u _ I2 e1 e2 q2) fun dv s3 ⟨z, H3, I3, e3, k, ek, q3⟩ => ?_)) hm
  subst ek
  cases e3
  refine wpAny_truthy_bool ?_
  cases k with
  | false =>
    obtain ⟨k', e', q'⟩ := q3
    cases e'
    exact if_ff ⟨H3, I3, q'⟩
  | true =>
    refine if_tt (test_link (thn (hc.run pins s3 σ H3 _ I3 (if_pos rfl ▸ q3)) fun w4 s4 ⟨z4, H4, I4, e4, q4⟩ => thn (h2 pins s4 σ H4 y z4 u w4 _ I4 e2 e4 q4) fun d5 s5 ⟨z5, H5, I5, e5, k2, ek2, q5⟩ => ?_))
    subst ek2
    cases e5
    refine wpAny_truthy_bool ?_
    cases k2 with
    | false =>
      obtain ⟨k', e', q'⟩ := q5
      cases e'
      exact if_ff ⟨H5, I5, q'⟩
    | true =>
      refine if_tt (test_last (thn (hd.run pins s5 σ H5 _ I5 q5) fun w6 s6 ⟨z6, H6, I6, e6, q6⟩ => thn (h3 pins s6 σ H6 z4 z6 w4 w6 _ I6 e4 e6 q6) fun d7 s7 ⟨z7, H7, I7, e7, k3, ek3, q7⟩ => ?_))
      subst ek3
      cases e7
      exact wpAny_truthy_bool ⟨H7, I7, q7⟩
end

/-! ### defs that may raise, called -/
/-- the def under its name, which may let out what sp says -/
structure CalE (P : Program) (w : World) (K : PySem.W.Frag) (mg : Str → Option Value) (base : Heap) (k : Nat) (x : Str) (sp : Sp) : Prop where
  ex : ∃ (f : Addr) (fd : FuncData) (ps : List Str), FnOk P w K mg base (L2.CX P w) k f fd ps sp ∧ mg x = some (.ref f) ∧ PySem.W.keepIn K (.ref f) = true ∧ Binds K fd ps []
section
variable {P : Program} {w : World} {K : PySem.W.Frag} {mg : Str → Option Value} {base : Heap}
theorem fnE {x qual : Str} {st : Stmt} {f : Addr} {fd : FuncData} {N ps : List Str} {k : Nat} {sp : Sp} (F : C8.Fun K x qual st f fd) (S : FnScope N ps (C8.fnScope st)) (len : ∀ vs H Q E, sp vs H Q E → vs.length = ps.length)
    (hb : ∀ (cdv : Value) (A : Around) (outer : List Env) (s : Shared) (H : Hp) (vs : List V) (Q : VK) (E : XK), Room k (A.deeper (envOfC qual (C8.fnScope st) s.heap.objs.size f cdv)) → sp vs H Q E →
      ∃ t, PSs (cxOf (L2.CX P w) P w K mg base N qual (C8.fnScope st) f cdv A outer s H E) (C8.fnBody st) t ∧ t { nx := fun _ H' => Q .non H', rt := Q } (start N vs) H) : FnOk P w K mg base (L2.CX P w) (k + 1) f fd ps sp := by
  obtain ⟨oc, od, dV, kV, doc, pm, an, cdv, ct, osl, rfl, lk, hcd⟩ := F.ex
  exact fn_of lk hcd S len fun A outer s H vs Q E hr hs => hb cdv A outer s H vs Q E hr hs
theorem calE {x : Str} {st : Stmt} {f : Addr} {fd : FuncData} {N ps : List Str} {k : Nat} {sp : Sp} (D : Def K mg x st f fd) (b : Binds K fd ps []) (S : FnScope N ps (C8.fnScope st)) (len : ∀ vs H Q E, sp vs H Q E → vs.length = ps.length)
    (hb : ∀ (cdv : Value) (A : Around) (outer : List Env) (s : Shared) (H : Hp) (vs : List V) (Q : VK) (E : XK), Room k (A.deeper (envOfC x (C8.fnScope st) s.heap.objs.size f cdv)) → sp vs H Q E →
      ∃ t, PSs (cxOf (L2.CX P w) P w K mg base N x (C8.fnScope st) f cdv A outer s H E) (C8.fnBody st) t ∧ t { nx := fun _ H' => Q .non H', rt := Q } (start N vs) H) : CalE P w K mg base (k + 1) x sp :=
  ⟨f, fd, ps, fnE D.fn S len hb, D.mgf, D.kp, b⟩
end
section
variable {X : Cx} {x : Str} {p pos : Pos} {e : Expr} {es : List Expr} {ta : TA} {sp : Sp} {k j : Nat}
/-- its call where exceptions go to W -/
theorem pe_cE (c : CalE X.prog X.w X.K X.mg X.base k x sp) {W : WX} (tk : Takes X W) (hr : Room j X.A) (hk : k ≤ j) (hg : Gl X x) (ha : PA X (e :: es) ta) (hdb : (x == ("__debug__" : Str)) = false := by decide)
    (he : starEach (e :: es) X.env = (false, eval e X.env) :: starEach es X.env := by rfl) (hpl : (backTo pos (starEach es X.env)).any (·.1) = false := by rfl) : PE X (.Call (.Name x p) (e :: es) [] pos) (tCallS sp (WE W) ta) := by
  obtain ⟨f, fd, ps, F, m, kp, b⟩ := c.ex
  exact pe_callS (F.mono hk) hr hg m kp b (passAt tk) ha hdb he hpl
end
/-- a method that may raise -/
structure MetE (P : Program) (w : World) (K : PySem.W.Frag) (mg : Str → Option Value) (base : Heap) (k : Nat) (C : Addr) (m : Str) (sp : Sp) : Prop where
  ex : ∃ (f : Addr) (fd : FuncData) (ps : List Str), Cls K C ∧ Meth K C m f ∧ FnOk P w K mg base (L2.CX P w) k f fd ps sp ∧ Binds K fd ps []
def tMtE (C : Addr) (m : Str) (sp : Sp) (E : L2.St → XK) (ta : TE) (t : TA) : TE := fun σ H Q => ta σ H fun x H1 => ∃ a dx fs, x = .ref a ∧ H1 a = some (.ins C dx fs) ∧ fs.lookup m = none ∧ t σ H1 fun vs H2 => sp (x :: vs) H2 Q (E σ)
section
variable {P : Program} {w : World} {K : PySem.W.Frag} {mg : Str → Option Value} {base : Heap}
theorem metE {m qual : Str} {C : Addr} {st : Stmt} {f : Addr} {fd : FuncData} {N ps : List Str} {k : Nat} {sp : Sp} (c : Cls K C) (me : Meth K C m f) (F : C8.Fun K m qual st f fd) (b : Binds K fd ps []) (S : FnScope N ps (C8.fnScope st)) (len : ∀ vs H Q E, sp vs H Q E → vs.length = ps.length)
    (hb : ∀ (cdv : Value) (A : Around) (outer : List Env) (s : Shared) (H : Hp) (vs : List V) (Q : VK) (E : XK), Room k (A.deeper (envOfC qual (C8.fnScope st) s.heap.objs.size f cdv)) → sp vs H Q E →
      ∃ t, PSs (cxOf (L2.CX P w) P w K mg base N qual (C8.fnScope st) f cdv A outer s H E) (C8.fnBody st) t ∧ t { nx := fun _ H' => Q .non H', rt := Q } (start N vs) H) : MetE P w K mg base (k + 1) C m sp :=
  ⟨f, fd, ps, c, me, fnE F S len hb, b⟩
end
section
variable {X : Cx} {m : Str} {C : Addr} {pos apos : Pos} {e o : Expr} {es : List Expr} {ta : TE} {t : TA} {sp : Sp} {k j : Nat}
theorem pe_mE {pl : Sem Bool} (c : MetE X.prog X.w X.K X.mg X.base k C m sp) {W : WX} (tk : Takes X W) (hr : Room j X.A) (hk : k ≤ j) (he : PE X o ta) (ha : PA X (e :: es) t)
    (hst : starEach (e :: es) X.env = (false, eval e X.env) :: starEach es X.env := by rfl) (hpl : (backTo pos (starEach es X.env)).any (·.1) = false := by rfl)
    (ht : eval (.Call (.Attribute o m apos) (e :: es) [] pos) X.env = (do
      let ov ← eval o X.env
      standAt apos.atName
      let (f, first) ← holding [ov] (getMethod ov m pl)
      callWith pos f first (backTo pos (starEach (e :: es) X.env)) (backToKw pos (keywordEach [] X.env))) := by rfl) : PE X (.Call (.Attribute o m apos) (e :: es) [] pos) (tMtE C m sp (WE W) ta t) := by
  obtain ⟨f, fd, ps, hc, hm, F, b⟩ := c.ex
  refine ⟨fun pins s σ H Q I h => PySem.W.methodCall_KW (pl := pl) (thn (he.run pins s σ H _ I h) fun u s1 ⟨x, H1, I1, rx, a, dx, fs, ex, ea, l, q⟩ => ?_) ht⟩
  subst ex
  cases (show u = Value.ref a from rx)
  exact getmeth_ok I1 ea hc hm l (PySem.W.callWith_K (first := [.ref a]) (h₀ := X.base) I.ok.mod.kin hm.kp (thn (ha.run pos pins s1 σ H1 _ I1 q) fun us s2 ⟨vs, H2, I2, r, q2⟩ => ⟨I2.kIn, run_fnS (us := .ref a :: us) (vs := .ref a :: vs) (F.mono hk) hr b (passAt tk σ) I2 (.cons rfl r) q2⟩) hst hpl)
end

/-! ### isinstance of the exception that a suite holds, with its fields -/
def rIsX (K : PySem.W.Frag) (D a : Addr) (cls : Value) (d0 : Option Addr) : List V → Hp → VK → Prop := fun xs H Q => cls = .ref D ∧ ∃ (d : Addr) (c : V) (u : Value) (b : Bool) (fs : List (Str × V)), d0 = some d ∧ xs = [.ref a, c] ∧ ClsV c u ∧ H d = some (.xd fs) ∧ PySem.W.kitOne K (.ref D) u = some b ∧ Q (.bl b) H
def rIsXT (K : PySem.W.Frag) (D a : Addr) (cls : Value) (d0 : Option Addr) : List V → Hp → VK → Prop := fun xs H Q => cls = .ref D ∧ ∃ (d tp : Addr) (cs : List V) (us : List Value) (b : Bool) (fs : List (Str × V)), d0 = some d ∧ xs = [.ref a, .ref tp] ∧ H tp = some (.tup cs) ∧ Paired ClsV cs us ∧ H d = some (.xd fs) ∧ PySem.W.kitAny K (.ref D) us = some b ∧ Q (.bl b) H
section
variable {X : Cx} {a D : Addr} {cls : Value} {d0 : Option Addr} {oe : Obj} {pn : List (Addr × Obj)}
theorem exx_at {d : Addr} {pins : List (Addr × Obj)} {σ : L2.St} {H : Hp} {s : Shared} {fs : List (Str × V)} (hz : Zc (.ref D) (some d) oe) (hf : ∃ vs, oe.data = .fields vs) (I : Inv (X.suite a ((a, oe) :: pn)) pins σ H s) (hd : H d = some (.xd fs)) : ∃ od, PySem.W.InstAt s.heap a oe D (some od) := by
  obtain ⟨hget, _⟩ := I.pin (a, oe) (List.mem_append.mpr (.inl List.mem_cons_self))
  obtain ⟨mA, hns, _⟩ := (show ObjOk X.prog X.w H s.heap d (.xd fs) from I.hok d _ hd)
  obtain ⟨od, _, _, hod, _⟩ := hns
  obtain ⟨vs, hv⟩ := hf
  refine ⟨od, hget, hz.1, ?_, ?_⟩
  · obtain ⟨oc, od2, oda, osl⟩ := oe
    dsimp only at hv
    subst hv
    rfl
  · rw [hz.2]
    exact hod
theorem call_isX (K : PySem.W.Frag) (hK : X.K = K) (C : ExcC K D) (hz : Zc cls d0 oe) (hf : ∃ vs, oe.data = .fields vs) : CallR (X.suite a ((a, oe) :: pn)) (.builtin "isinstance") (rIsX K D a cls d0) := by
  intro pins s σ H xs us Q I r h
  obtain ⟨rfl, d, c, u, b, fs, rfl, rfl, hc, hd, e, q⟩ := h
  subst hK
  obtain ⟨u1, u2, rfl, r1, r2⟩ := vals2 r
  cases (show u1 = Value.ref a from r1)
  obtain rfl := hc.eq r2
  obtain ⟨od, J⟩ := exx_at hz hf I hd
  have hcl : (PySem.W.clsIn X.K D).isSome = true := by
    obtain ⟨cd, hcd, _⟩ := PySem.W.any_some C.hd
    rw [hcd]
    rfl
  exact PySem.W.kia_one (PySem.W.kitx_exc hcl C.hg C.hk C.hs C.ha C.hn C.ht C.hm) I.kIn J e (fun z => nomatch z) fun tk => ⟨.bl b, H, I.tok tk, rfl, q⟩
theorem call_isXT (K : PySem.W.Frag) (hK : X.K = K) (C : ExcC K D) (hz : Zc cls d0 oe) (hf : ∃ vs, oe.data = .fields vs) : CallR (X.suite a ((a, oe) :: pn)) (.builtin "isinstance") (rIsXT K D a cls d0) := by
  intro pins s σ H xs us Q I r h
  obtain ⟨rfl, d, tp, cs, ws, b, fs, rfl, rfl, hT, hk, hd, e, q⟩ := h
  subst hK
  obtain ⟨u1, u2, rfl, r1, r2⟩ := vals2 r
  cases (show u1 = Value.ref a from r1)
  cases (show u2 = Value.ref tp from r2)
  obtain ⟨od, J⟩ := exx_at hz hf I hd
  obtain ⟨_, its, rv, o, g1, g2, n, g3⟩ := (show ObjOk X.prog X.w H s.heap tp (.tup cs) from I.hok tp _ hT)
  obtain rfl := ClsV.all hk rv
  obtain ⟨oc, od2, dt, sl⟩ := o
  simp only at g2 g3
  subst g2 g3
  have hcl : (PySem.W.clsIn X.K D).isSome = true := by
    obtain ⟨cd, hcd, _⟩ := PySem.W.any_some C.hd
    rw [hcd]
    rfl
  exact PySem.W.kia_tup (PySem.W.kitx_exc hcl C.hg C.hk C.hs C.ha C.hn C.ht C.hm) I.kIn J g1 e (fun z => nomatch z) fun tk => ⟨.bl b, H, I.tok tk, rfl, q⟩
end

section

-- a condition of an operator
local macro_rules | `(tactic| walk_at "cond") => `(tactic| first
  | (show (0 : Int) < _; omega)
  | (show CDiv _ _; constructor <;> (first | decide | omega))
  | (show CMul _ _; first | (refine cmul_l ?_; constructor <;> (first | decide | omega)) | (refine cmul_r ?_; constructor <;> (first | decide | omega)))
  | (show CPow _ _; exact (by refine ⟨by decide, by decide, by decide⟩))
  | (show CDivW _ _; exact ⟨by decide, by decide +kernel⟩))
local macro_rules | `(tactic| walk_at "sq") => `(tactic| first | assumption | exact Dh.mono (same_upd (by assumption)) _ _ (by assumption) | exact .inl (.inl (.inl (by assumption))) | exact .inr (.inl (.inl (by assumption))) | exact SqL.of (by assumption) | exact .inl (by assumption) | exact .inl (SqL.of (by assumption)) | exact SqT.of (by assumption) | exact .inr (SqT.of (by assumption)))
local macro_rules | `(tactic| walk_at "st") => `(tactic| first
  | refine ⟨_, rfl, ?_⟩
  | refine ⟨_, _, rfl, rfl, ?_⟩
  | refine .inl ⟨_, rfl, ?_⟩
  | refine ⟨rfl, ?_⟩
  | refine ⟨_, _, rfl, by walk_at "sq", ?_⟩
  | refine ⟨.inl ⟨rfl, _, SqL.of (by assumption)⟩, ?_⟩
  | refine ⟨by walk_at "cond", ?_⟩
  | (refine' ifBT ?hh ?_; (case hh => first | rfl | assumption))
  | (refine' ifBF ?hh ?_; (case hh => first | rfl | assumption)))
local macro_rules | `(tactic| walk_at "go") => `(tactic| repeat walk_at "st")
local macro_rules | `(tactic| walk_at "yes") => `(tactic| (refine' ifT ?hh ?_; (case hh => first | rfl | decide +kernel)))
local macro_rules | `(tactic| walk_at "no") => `(tactic| (refine' ifF ?hh ?_; (case hh => first | decide +kernel | (intro z; cases z; done))))

/-! ### BadRange, check_range -/
abbrev s_BadRange_init : Stmt := inClass (topS 7) 0
theorem sn_BadRange_init : NScope ["self", "start", "end", "__class__"] ["self", "start", "end"] ["__class__"] (C8.fnScope s_BadRange_init) := nscope_by (by decide +kernel)
abbrev s_check_range : Stmt := topS 12
theorem sc_check_range : FnScope ["start", "end", "limit"] ["start", "end", "limit"] (C8.fnScope s_check_range) := C8.fnScope_by (by decide +kernel)
theorem no_fly {P : Program} {w : World} {l : List Env} {H : Hp} {s s' : Shared} {e : Value} {p : Prop} (c : L2.CX P w l H s (fun _ _ _ => False) e s') : p := by
  obtain ⟨_, _, _, _, _, _, _, _, _, _, _, _, z⟩ := c
  exact z.elim
def brF (i j : Int) : List (Str × V) := [("end", .int j), ("start", .int i)]
def spBR (D : Addr) : Sp := fun vs H Q _ => ∃ (a : Addr) (i j : Int), vs = [.ref a, .int i, .int j] ∧ H a = some (exo a D none) ∧ i.natAbs.log2 < 1920 ∧ j.natAbs.log2 < 1920 ∧
  ∀ dx, H dx = none → dx ≠ a → Q .non (upd (upd (upd H dx (exd dx [("start", .int i)])) a (exo a D (some dx))) dx (exd dx (brF i j)))
def spCheck (D : Addr) : Sp := fun vs H Q E => ∃ i j n : Int, vs = [.int i, .int j, .int n] ∧ i.natAbs.log2 < 1920 ∧ j.natAbs.log2 < 1920 ∧ ((0 ≤ i ∧ i < j ∧ j ≤ n) → Q .non H) ∧
  (¬ (0 ≤ i ∧ i < j ∧ j ≤ n) → ∀ d, H d = none → E (.ref D) (some d) (upd H d (.xd (brF i j))))
theorem sz3 {n : Nat} (h : n ≤ 10000) : n ≤ sizeLine := by
  rw [sizeLine_eq]
  omega
theorem len_ap {a b : Str} {m n : Nat} (ha : a.length ≤ m) (hb : b.length ≤ n) : (a ++ b).length ≤ m + n := by
  rw [Str.length_append]
  omega
section
variable {P : Program} {w : World} {K : PySem.W.Frag} {mg : Str → Option Value} {base : Heap}
theorem ok_BadRange {F : NF} {f D cc : Addr} {dV kV doc pm ctv : Value} {an : Option Addr} {q : Str} {cl : List (Str × Addr)} {c : Addr} (U : SupAt P K mg (NF.of s_BadRange_init "__init__" q cl c) f D cc "self" dV kV doc pm ctv an)
    (nS : PySem.W.findIn K (.ref D) "start" = some none) (nE : PySem.W.findIn K (.ref D) "end" = some none) :
    FnOk P w K mg base (L2.CX P w) 1 f (PySem.W.fnX "__init__" q (C8.fnArgs s_BadRange_init) (C8.fnBody s_BadRange_init) (C8.fnScope s_BadRange_init) cl dV kV doc pm an (.ref c) ctv) ["self", "start", "end"] (spBR D) := by
  refine fn_sup (F := NF.of s_BadRange_init "__init__" q cl c) (N := ["self", "start", "end", "__class__"]) sn_BadRange_init U rfl (by rfl) (fun vs H Q E h => ?_) (fun A outer s H vs Q E hr h => ?_)
  · obtain ⟨a, i, j, rfl, _⟩ := h
    rfl
  obtain ⟨a, i, j, rfl, ha, hi, hj, q⟩ := h
  refine ⟨_, _, pa_cons (pe_joined (.cons pe_str (.cons (pe_fmt (pv 1)) (.cons pe_str (.cons (pe_fmt (pv 2)) (.cons pe_str .nil)))))) pa_nil, pss_cons (ps_ost (pv 0) (pv 1)) (pss_one (ps_ost (pv 0) (pv 2))), a, rfl, ha, ?_⟩
  have l1 := len_ap (show Str.empty.length ≤ 0 by decide +kernel) (show ("the range (" : Str).length ≤ 50 by decide +kernel)
  have l2 := len_ap l1 (int_text_len_1921 hi)
  have l3 := len_ap l2 (show (", " : Str).length ≤ 50 by decide +kernel)
  have l4 := len_ap l3 (int_text_len_1921 hj)
  have l5 := len_ap l4 (show (") is empty, reversed or outside" : Str).length ≤ 50 by decide +kernel)
  refine ⟨_, rfl, sz3 (Nat.le_trans l1 (by decide)), ?_⟩
  refine ⟨_, rfl, .inr ⟨i, rfl, hi, _, rfl, sz3 (Nat.le_trans l2 (by decide)), ?_⟩⟩
  refine ⟨_, rfl, sz3 (Nat.le_trans l3 (by decide)), ?_⟩
  refine ⟨_, rfl, .inr ⟨j, rfl, hj, _, rfl, sz3 (Nat.le_trans l4 (by decide)), ?_⟩⟩
  refine ⟨_, rfl, sz3 (Nat.le_trans l5 (by decide)), ?_⟩
  refine ⟨(by show 1 ≤ 1000; decide), ha, _, rfl, _, rfl, a, D, rfl, U.exc, nS, .inl ⟨ha, fun dx nd ne => ?_⟩⟩
  refine ⟨_, rfl, _, rfl, a, D, rfl, U.exc, nE, .inr ⟨dx, _, upd_same, ?_, (by show 1 ≤ 900; decide), q dx nd ne⟩⟩
  rw [upd_ne ne]
  exact upd_same
theorem ok_check {D f2 : Addr} {fd2 : FuncData} (B : FnOk P w K mg base (L2.CX P w) 1 f2 fd2 ["self", "start", "end"] (spBR D)) (O : OexC K D) (iC : PySem.W.findIn K (.ref D) "__init__" = some (some (.ref f2))) (tI : PySem.W.typeIn K (.ref f2) = some (.type "function"))
    (hb : Binds K fd2 ["self", "start", "end"] []) (mD : mg "BadRange" = some (.ref D)) {f : Addr} {fd : FuncData} (Df : Def K mg "check_range" s_check_range f fd) (b : Binds K fd ["start", "end", "limit"] []) : CalE P w K mg base 3 "check_range" (spCheck D) := by
  refine calE Df b sc_check_range (fun vs H Q E h => ?_) (fun cdv A outer s H vs Q E hr h => ?_)
  · obtain ⟨i, j, n, rfl, _⟩ := h
    rfl
  obtain ⟨i, j, n, rfl, hi, hj, q1, q2⟩ := h
  refine ⟨_, pss_one (ps_mk (ps_if (pt_not (pt_chain3 op_le op_lt op_le pe_int (pv 0) (pv 1) (pv 2))) (pss_one (ps_raise rfl (takes_of rfl rfl rfl rfl) (pmk_oex O iC tI B hr hb .nil (fun _ _ _ _ e s' _ c => no_fly c) rfl mD (pa_cons (pv 0) (pa_cons (pv 1) pa_nil))))) pss_nil)), ?_⟩
  have bad : ¬ (0 ≤ i ∧ i < j ∧ j ≤ n) → ([V.int i, V.int j] : List V).length ≤ 1000 ∧ ∀ a, H a = none → spBR D (V.ref a :: ([V.int i, V.int j] ++ [])) (upd H a (exo a D none))
      (fun v H2 => v = .non ∧ ∃ d fs, H2 a = some (exo a D (some d)) ∧ H2 d = some (exd d fs) ∧ H d = none ∧ E (.ref D) (some d) (upd (del H2 a) d (.xd fs))) (fun _ _ _ => False) := fun z => by
    refine ⟨(by show 2 ≤ 1000; decide), fun a na => ⟨a, i, j, rfl, upd_same, hi, hj, fun dx nd ne => ⟨rfl, dx, brF i j, ?_, upd_same, ?_, ?_⟩⟩⟩
    · rw [upd_ne ne.symm]
      exact upd_same
    · rw [upd_ne ne] at nd
      exact nd
    · rw [upd_ne ne] at nd
      have e : upd (del (upd (upd (upd (upd H a (exo a D none)) dx (exd dx [("start", .int i)])) a (exo a D (some dx))) dx (exd dx (brF i j))) a) dx (.xd (brF i j)) = upd H dx (.xd (brF i j)) := by
        funext c
        by_cases h1 : c = dx
        · rw [h1, upd_same, upd_same]
        · rw [upd_ne h1, upd_ne h1]
          by_cases h2 : c = a
          · rw [h2, del_same, na]
          · rw [del_ne h2, upd_ne h1, upd_ne h2, upd_ne h1, upd_ne h2]
      rw [e]
      exact q2 z dx nd
  refine un ?_
  walk_at "go"
  refine ifD (fun c1 => ?_) (fun c1 => ?_)
  · walk_at "go"
    refine ifD (fun c2 => ?_) (fun c2 => ?_)
    · walk_at "go"
      by_cases c3 : j ≤ n
      · refine ifBF (by rw [decide_eq_true c3]; rfl) ?_
        exact q1 ⟨c1, c2, c3⟩
      · refine ifBT (by rw [decide_eq_false c3]; rfl) ?_
        walk_at "go"
        exact bad fun z => c3 z.2.2
    · walk_at "go"
      exact bad fun z => c2 z.2.1
  · walk_at "go"
    exact bad fun z => c1 z.1
end

end

open RT
open RZ

def spLaw (K : PySem.W.Frag) : Sp := fun vs H Q _ => ∃ (a : Addr) (ns : List Int), vs = [.ref a] ∧ SqL K H a (ns.map V.int) ∧ ns.length ≤ 63 ∧ ∀ H', Q (.bl true) H'
/-- what the written part says, asked one by one -/
theorem err_mk {P : Program} {K : PySem.W.Frag} {h : Heap} {mg : Str → Option Value} (X : K.In h) (G : h.Ns mainGlobals mg) {D f cc c N : Addr} {oc ccl cl dV kV doc pm ctv : Value} {od an cdd cld dd : Option Addr} {osl ccs csl : Array (Option Value)} {vs : Array Value} {file : Str} {tf : Tok}
    {nm q : Str} {bs bm : List Value} {sn : List Str} {sub : List Value} {ab : Bool} {col : Option Bool} {k0 k1 k2 k3 k5 : Option Value} {ar : Arg}
    (aD : PySem.W.nsIn K mainGlobals "BadRange" = some (some (.ref D)))
    (iC : PySem.W.findIn K (.ref D) "__init__" = some (some (.ref f))) (tI : PySem.W.typeIn K (.ref f) = some (.type "function"))
    (lF : K.lookup f = some ⟨oc, od, .func (PySem.W.fnX "__init__" "BadRange.__init__" (C8.fnArgs s_BadRange_init) (C8.fnBody s_BadRange_init) (C8.fnScope s_BadRange_init) [("__class__", cc)] dV kV doc pm an (.ref c) ctv), osl⟩)
    (cF : PySem.W.codeIn K (.ref c) "BadRange.__init__" = true) (lc : K.lookup c = some ⟨ccl, cdd, .fields vs, ccs⟩) (hv : vs[2]? = some (.str file tf)) (hf : ((P.main.file : Str) == file) = true) (tp : (P.main.scope.names.lookup ("super" : Str)).isSome = false)
    (lcc : K.lookup cc = some ⟨cl, cld, .cell (some (.ref D)), csl⟩) (zs : PySem.W.nsIn K mainGlobals "super" = some none) (hp : ((C8.fnArgs s_BadRange_init).posonlyargs ++ (C8.fnArgs s_BadRange_init).args).head? = some ar) (ha : ar.arg = "self")
    (sk : (C8.fnScope s_BadRange_init).names.lookup ("super" : Str) = some .globalImplicit)
    (lD : K.lookup D = some (excClassObj nm q D N bs bm true sn sub ab col dd k0 k1 k2 k3 k5 "ValueError.__new__")) (rb : PySem.HandSPX.refsVE bm = true)
    (sa : PySem.W.findIn K (.ref D) "__setattr__" = some (some (.builtin "object.__setattr__"))) (ex : PySem.W.subIn K (.ref D) (.type "BaseException") = some true) (ty : PySem.W.typeIn K (.ref D) = some (.type "type")) (kC : PySem.W.keepIn K (.ref D) = true)
    (mr : PySem.W.mroIn K D (.ref D) = some true) (ini : PySem.W.ks_superIn K D D "__init__" = some (some (.builtin "ValueError.__init__"))) (ve : PySem.W.subIn K (.ref D) (.type "ValueError") = some true) (any : PySem.W.nsIn K cStatics "thirdparty.any" = some none)
    (nS : PySem.W.findIn K (.ref D) "start" = some none) (nE : PySem.W.findIn K (.ref D) "end" = some none) :
    SupAt P K mg (NF.of s_BadRange_init "__init__" "BadRange.__init__" [("__class__", cc)] c) f D cc "self" dV kV doc pm ctv an ∧ OexC K D := by
  have O : OexC K D := ⟨⟨nm, q, N, bs, bm, sn, sub, ab, col, dd, k0, k1, k2, k3, k5, lD, rb⟩, sa, ex, ty, kC⟩
  exact ⟨⟨⟨_, _, _, lF⟩, rfl, cF, ⟨_, _, _, _, _, _, lc, hv, hf⟩, tp, ⟨_, _, _, lcc⟩, PySem.W.mg_none_of X G zs, ⟨ar, hp, ha⟩, sk, O, mr, ini, ve, any⟩, O⟩

section

-- a condition of an operator
local macro_rules | `(tactic| walk_at "cond") => `(tactic| first
  | (show (0 : Int) < _; omega)
  | (show CDiv _ _; constructor <;> (first | decide | omega))
  | (show CMul _ _; first | (refine cmul_l ?_; constructor <;> (first | decide | omega)) | (refine cmul_r ?_; constructor <;> (first | decide | omega)))
  | (show CPow _ _; exact (by refine ⟨by decide, by decide, by decide⟩))
  | (show CDivW _ _; exact ⟨by decide, by decide +kernel⟩))
local macro_rules | `(tactic| walk_at "sq") => `(tactic| first | assumption | exact Dh.mono (same_upd (by assumption)) _ _ (by assumption) | exact .inl (.inl (.inl (by assumption))) | exact .inr (.inl (.inl (by assumption))) | exact SqL.of (by assumption) | exact .inl (by assumption) | exact .inl (SqL.of (by assumption)) | exact SqT.of (by assumption) | exact .inr (SqT.of (by assumption)))
local macro_rules | `(tactic| walk_at "st") => `(tactic| first
  | refine ⟨_, rfl, ?_⟩
  | refine ⟨_, _, rfl, rfl, ?_⟩
  | refine .inl ⟨_, rfl, ?_⟩
  | refine ⟨rfl, ?_⟩
  | refine ⟨_, _, rfl, by walk_at "sq", ?_⟩
  | refine ⟨.inl ⟨rfl, _, SqL.of (by assumption)⟩, ?_⟩
  | refine ⟨by walk_at "cond", ?_⟩
  | (refine' ifBT ?hh ?_; (case hh => first | rfl | assumption))
  | (refine' ifBF ?hh ?_; (case hh => first | rfl | assumption)))
local macro_rules | `(tactic| walk_at "go") => `(tactic| repeat walk_at "st")
local macro_rules | `(tactic| walk_at "yes") => `(tactic| (refine' ifT ?hh ?_; (case hh => first | rfl | decide +kernel)))
local macro_rules | `(tactic| walk_at "no") => `(tactic| (refine' ifF ?hh ?_; (case hh => first | decide +kernel | (intro z; cases z; done))))

/-! ### a try whose wish the body sees as a letter -/
def tTry (K : PySem.W.Frag) (c : Value) (i : Nat) (tb : WX → TS) (ts : Addr → Value → Option Addr → TS) (Wout : WX) : TS := fun D σ H => ∀ W : WX, (∀ cls d σ2 H2, wAs K c i ts Wout D cls d σ2 H2 → W cls d σ2 H2) → tb W D σ H
theorem ps_try_m {X : Cx} {x n : Str} {c : Value} {i : Nat} {body suite : List Stmt} {b0 : Stmt} {np pos pos2 : Pos} {tb : WX → TS} {ts : Addr → Value → Option Addr → TS} {Wout : WX} (hs : X.stack = X.env :: X.outer) (hf : X.env.frame = some X.env.locals) (hN : X.N.Nodup) (hi : X.N[i]? = some n) (hln : X.env.kindOf n = some .local) (hc : Names X x c) (tk : Takes X Wout)
    (hb : ∀ (W : WX) (pn : List (Addr × Obj)) (xe : Value → Shared → Prop), Takes (X.tr pn xe) W → PassesOwn (model X.prog X.w) X.A X.env xe → PSs (X.tr pn xe) body (tb W))
    (hu : ∀ (a : Addr) (oe : Obj) (cls : Value) (d : Option Addr) (pn : List (Addr × Obj)), Zc cls d oe → (∃ vs, oe.data = .fields vs) → PSs (X.suite a ((a, oe) :: pn)) (b0 :: suite) (ts a cls d)) :
    PS X (.Try body [.ExceptHandler (some (.Name x np)) (some n) (b0 :: suite) pos2] [] [] pos) (tTry X.K c i tb ts Wout) :=
  ⟨fun pins s σ H D I h => (ps_try_as hs hf hN hi hln hc tk hb hu).run pins s σ H D I (h _ fun _ _ _ _ z => z)⟩
/-- what follows a wrapped statement, said once -/
theorem jnS {a b : TS} {D : Ends} {σ : L2.St} {H : Hp} (M : L2.St → Hp → Prop) (h2 : ∀ σ H, M σ H → b D σ H) (h1 : ∀ N : L2.St → Hp → Prop, (∀ σ H, M σ H → N σ H) → a { D with nx := N } σ H) : tSeq (tMk a) b D σ H := by
  rw [tMk_eq]
  exact h1 (b D) h2
/-- the catch takes it -/
theorem catch_yes {K : PySem.W.Frag} {c : Value} {i : Nat} {ts : Addr → Value → Option Addr → TS} {Wout : WX} {D : Ends} {cls : Value} {d : Option Addr} {σ : L2.St} {H : Hp} (e : PySem.W.exmOne K cls c = some true)
    (h : ∀ a, H a = none → ts a cls d { nx := fun σ' H' => D.nx (σ'.set i none) H', rt := D.rt, bk := fun σ' H' => D.bk (σ'.set i none) H', ct := fun σ' H' => D.ct (σ'.set i none) H' } (σ.set i (some (.ref a))) H) : wAs K c i ts Wout D cls d σ H :=
  ⟨true, e, fun _ => h, fun z => by cases z⟩

/-! ### _spans_of -/
abbrev s_spans_of : Stmt := topS 15
theorem sc_spans_of : FnScope ["widths", "spans", "width"] ["widths"] (C8.fnScope s_spans_of) := C8.fnScope_by (by decide +kernel)
structure Txt1 (mg : Str → Option Value) : Prop where
  len : mg "len" = none
  reversed : mg "reversed" = none
  tuple : mg "tuple" = none
  zip : mg "zip" = none
  sum : mg "sum" = none
def prodI : List Int → Int
  | [] => 1
  | w :: ws => w * prodI ws
def spansOf : List Int → List Int
  | [] => []
  | _ :: ws => prodI ws :: spansOf ws
def Small (ws : List Int) : Prop := ws ≠ [] ∧ ws.length ≤ 6 ∧ ∀ w ∈ ws, 2 ≤ w ∧ w ≤ 8
theorem spans_last (w : Int) : spansOf [w] = [1] := rfl
theorem spans_drop {ws : List Int} {k : Nat} (h : k + 1 < ws.length) : spansOf (ws.drop k) = (prodI (ws.drop (k + 1))) :: spansOf (ws.drop (k + 1)) := by
  rw [List.drop_eq_getElem_cons (by omega)]
  rfl
theorem prod_drop {ws : List Int} {k : Nat} (h : k < ws.length) : prodI (ws.drop k) = ws[k] * prodI (ws.drop (k + 1)) := by
  rw [List.drop_eq_getElem_cons h]
  rfl
theorem six1 {n d : Nat} (h : 1 ≤ n) : HT.sIx n d (some 1) = 1 := by
  rw [show (1 : Int) = ((1 : Nat) : Int) from rfl, HT.sIx_nat]
  omega
theorem cut_tail (x : V) (xs : List V) : cutV (x :: xs) (some 1) none = xs := by
  unfold cutV
  rw [six1 (by simp), HT.sIx_none]
  simp
def spSpans (K : PySem.W.Frag) : Sp := fun vs H Q _ => ∃ (p : Addr) (ws : List Int), vs = [.ref p] ∧ SqT K H p (ws.map V.int) ∧ Small ws ∧ ∀ r H', Same H H' → H r = none → H' r = some (.tup ((spansOf ws).map V.int)) → Q (.ref r) H'
section
variable {P : Program} {w : World} {K : PySem.W.Frag} {mg : Str → Option Value} {base : Heap}
theorem ok_spans {f : Addr} {fd : FuncData} (D : Def K mg "_spans_of" s_spans_of f fd) (b : Binds K fd ["widths"] []) (T : Txt1 mg) : Cal P w K mg base 1 "_spans_of" (spSpans K) [] := by
  refine cal0 D b .nil sc_spans_of (fun vs H Q E h => ?_) (fun cdv A outer s H vs Q E hr h => ?_)
  · obtain ⟨p, ws, rfl, _⟩ := h
    rfl
  obtain ⟨p, ws, rfl, hp, sm, q⟩ := h
  refine ⟨_, (pss_cons (ps_set (i := 1) sc_spans_of.nd rfl (.inl rfl) (pe_lst (pa_cons pe_int pa_nil)))
      (pss_cons (ps_mk (ps_for PassesOwn.never rfl (pi_revA (by rfl) T.reversed (pe_slice sl_tup (pv 0) (po_some pe_int) po_none)) (pg_name (i := 2) sc_spans_of.nd rfl (.inl rfl))
      (pss_one (ps_expr (pe_bm PySem.F.plainAttrs_list PySem.F.slot_list_append PySem.F.type_list_append mt_append (pv 1) (pa_cons (pe_op op_mul (pe_ix (ixL K rfl) (pv 1) (pe_un un_neg pe_int) (fun _ _ => rfl)) (pv 2)) pa_nil))))))
      (pss_one (ps_ret (pe_callTy call_tuple_of (by rfl) T.tuple (by decide +kernel) (pa_cons (pe_revL (pv 1)) pa_nil)))))), ?_⟩
  walk_at "go"
  refine ⟨sz, fun L nL => ?_⟩
  have s1 := same_upd (o := HO.lst [V.int 1]) nL
  have gL := upd_same (H := H) (a := L) (o := HO.lst [V.int 1])
  have hp1 := sameT s1 hp
  generalize upd H L (HO.lst [V.int 1]) = H1 at *
  obtain ⟨ne, l6, sm⟩ := sm
  obtain ⟨w0, w1, rfl⟩ : ∃ w0 w1, ws = w0 :: w1 := by
    cases ws with
    | nil => exact absurd rfl ne
    | cons a b => exact ⟨a, b, rfl⟩
  walk_at "go"
  refine jnS (M := fun σ H' => Same H H' ∧ ∃ y, H' L = some (.lst ((spansOf (w0 :: w1)).reverse.map V.int)) ∧ σ = [sR p, sR L, y]) ?_ (fun N kk => ?_)
  · rintro σ H2 ⟨s2, y, g2, rfl⟩
    walk_at "go"
    intro r nr
    walk_at "go"
    refine ⟨r, _, rfl, .inl ⟨SqL.of upd_same, fun t nt => ?_⟩⟩
    have s3 := s2.trans (same_upd (o := HO.lst ((spansOf (w0 :: w1)).reverse.map V.int).reverse) nr)
    refine q t _ (s3.trans (same_upd nt)) (s3.free nt) ?_
    rw [upd_same, ← List.map_reverse, List.reverse_reverse]
  walk_at "go"
  have n7 : 1 ≤ ((w0 :: w1).map V.int).length := by simp
  refine ⟨fun z => absurd z.1 (by rw [six1 n7]; decide), fun t nt => ?_⟩
  have s2 := same_upd (o := HO.tup (cutV ((w0 :: w1).map V.int) (some 1) none)) nt
  have gt := upd_same (H := H1) (a := t) (o := HO.tup (cutV ((w0 :: w1).map V.int) (some 1) none))
  rw [show cutV ((w0 :: w1).map V.int) (some 1) none = w1.map V.int from cut_tail _ _] at s2 gt ⊢
  have gL2 := s2 _ _ gL
  have s02 := s1.trans s2
  have hLt : L ≠ t := ne_of_none gL nt
  generalize upd H1 t (HO.tup (w1.map V.int)) = H2 at *
  have nw : w1.length + 1 ≤ 6 := l6
  refine ⟨t, _, rfl, .inr ⟨SqT.of gt, for_ItvT (fun i σ H' => Ob (Same H H' ∧ H' t = some (.tup (w1.map V.int)) ∧ ∃ y, H' L = some (.lst ((spansOf ((w0 :: w1).drop (w1.length - i))).reverse.map V.int)) ∧ σ = [sR p, sR L, y])) (ob ⟨s02, gt, none, ?_, rfl⟩) (fun i σ H' h => SqT.of (unob h).2.1) ?_ ?_⟩⟩
  · have e : (w0 :: w1).drop w1.length = [(w0 :: w1)[w1.length]] := by
      rw [List.drop_eq_getElem_cons (by simp), List.drop_of_length_le (by simp)]
    rw [Nat.sub_zero, e]
    exact gL2
  · intro i x σ H' hi hx h
    obtain ⟨s3, gt3, y, gL3, rfl⟩ := unob h
    rw [List.length_map] at hi hx
    obtain ⟨k, hk⟩ : ∃ k, w1.length - i = k + 1 := ⟨w1.length - i - 1, by omega⟩
    have hk1 : k + 1 < (w0 :: w1).length := by simp; omega
    have ex : x = .int ((w0 :: w1)[k + 1]) := by
      have e1 : w1.length - 1 - i = k := by omega
      rw [e1, List.getElem?_map, List.getElem?_eq_getElem (by omega)] at hx
      exact (Option.some.inj hx).symm
    subst ex
    have hw := sm _ (List.getElem_mem hk1)
    have pd := prod_drop hk1
    generalize (w0 :: w1)[k + 1] = wv at *
    have el : spansOf ((w0 :: w1).drop (k + 1)) = prodI ((w0 :: w1).drop (k + 2)) :: (spansOf ((w0 :: w1).drop (k + 1))).tail := by
      rw [List.drop_eq_getElem_cons hk1]
      rfl
    have ln : (spansOf ((w0 :: w1).drop (k + 1))).length ≤ 1000 := by
      have gen : ∀ l : List Int, (spansOf l).length = l.length := fun l => by
        induction l with
        | nil => rfl
        | cons a l ih => exact congrArg (· + 1) ih
      rw [gen, List.length_drop]
      simp
      omega
    rw [hk] at gL3
    have sd := spans_drop (ws := w0 :: w1) (k := k) hk1
    have lastv : atI ((spansOf ((w0 :: w1).drop (k + 1))).reverse.map V.int) (-1) = some (.int (prodI ((w0 :: w1).drop (k + 2)))) := by
      rw [el, List.reverse_cons, List.map_append]
      exact atI_last _ _
    walk_at "go"
    refine ⟨L, _, -1, _, rfl, rfl, SqL.of gL3, lastv, ?_⟩
    walk_at "go"
    refine ⟨L, _, _, rfl, rfl, gL3, sz5 (by rw [List.length_map, List.length_reverse]; omega), ?_⟩
    walk_at "go"
    have nL0 := nL
    refine ob ⟨same_put s3 nL, ?_, _, ?_, rfl⟩
    · rw [upd_ne hLt.symm]
      exact gt3
    · rw [upd_same, show w1.length - (i + 1) = k by omega, sd, List.reverse_cons, List.map_append, pd, Int.mul_comm]
      rfl
  · intro σ H' h
    obtain ⟨s3, gt3, y, gL3, rfl⟩ := unob h
    rw [List.length_map, Nat.sub_self, List.drop_zero] at gL3
    exact kk _ _ ⟨s3, y, gL3, rfl⟩
end

end

section

-- a condition of an operator
local macro_rules | `(tactic| walk_at "cond") => `(tactic| first
  | (show (0 : Int) < _; omega)
  | (show CDiv _ _; constructor <;> (first | decide | omega))
  | (show CMul _ _; first | (refine cmul_l ?_; constructor <;> (first | decide | omega)) | (refine cmul_r ?_; constructor <;> (first | decide | omega)))
  | (show CPow _ _; exact (by refine ⟨by decide, by decide, by decide⟩))
  | (show CDivW _ _; exact ⟨by decide, by decide +kernel⟩))
local macro_rules | `(tactic| walk_at "sq") => `(tactic| first | assumption | exact Dh.mono (same_upd (by assumption)) _ _ (by assumption) | exact .inl (.inl (.inl (by assumption))) | exact .inr (.inl (.inl (by assumption))) | exact SqL.of (by assumption) | exact .inl (by assumption) | exact .inl (SqL.of (by assumption)) | exact SqT.of (by assumption) | exact .inr (SqT.of (by assumption)))
local macro_rules | `(tactic| walk_at "st") => `(tactic| first
  | refine ⟨_, rfl, ?_⟩
  | refine ⟨_, _, rfl, rfl, ?_⟩
  | refine .inl ⟨_, rfl, ?_⟩
  | refine ⟨rfl, ?_⟩
  | refine ⟨_, _, rfl, by walk_at "sq", ?_⟩
  | refine ⟨.inl ⟨rfl, _, SqL.of (by assumption)⟩, ?_⟩
  | refine ⟨by walk_at "cond", ?_⟩
  | (refine' ifBT ?hh ?_; (case hh => first | rfl | assumption))
  | (refine' ifBF ?hh ?_; (case hh => first | rfl | assumption)))
local macro_rules | `(tactic| walk_at "go") => `(tactic| repeat walk_at "st")
local macro_rules | `(tactic| walk_at "yes") => `(tactic| (refine' ifT ?hh ?_; (case hh => first | rfl | decide +kernel)))
local macro_rules | `(tactic| walk_at "no") => `(tactic| (refine' ifF ?hh ?_; (case hh => first | decide +kernel | (intro z; cases z; done))))

/-! ### Shape -/
abbrev s_Shape___init__ : Stmt := inClass (topS 14) 0
theorem sc_Shape___init__ : FnScope ["self", "widths"] ["self", "widths"] (C8.fnScope s_Shape___init__) := C8.fnScope_by (by decide +kernel)
abbrev s_Shape_span : Stmt := inClass (topS 14) 1
theorem sc_Shape_span : FnScope ["self", "level"] ["self", "level"] (C8.fnScope s_Shape_span) := C8.fnScope_by (by decide +kernel)
abbrev s_Shape_block_at : Stmt := inClass (topS 14) 4
theorem sc_Shape_block_at : FnScope ["self", "level", "page", "span", "start"] ["self", "level", "page"] (C8.fnScope s_Shape_block_at) := C8.fnScope_by (by decide +kernel)
structure STxt (K : PySem.W.Frag) (mg : Str → Option Value) (C : Addr) : Prop where
  cl : Cls K C
  nW : NoAttr K C "widths"
  nL : NoAttr K C "levels"
  nS : NoAttr K C "_spans"
  nP : NoAttr K C "page_count"
  mgC : mg "Shape" = some (.ref C)
def f1 (wt : Addr) : List (Str × V) := putF "widths" (.ref wt) []
def f2 (wt : Addr) (n : Nat) : List (Str × V) := putF "levels" (.int n) (f1 wt)
def f3 (wt : Addr) (n : Nat) (st : Addr) : List (Str × V) := putF "_spans" (.ref st) (f2 wt n)
def shF (wt st : Addr) (ws : List Int) : List (Str × V) := putF "page_count" (.int (prodI ws)) (f3 wt ws.length st)
theorem ne1 : ¬ (("widths" : Str) = "levels") := by decide +kernel
theorem ne2 : ¬ (("widths" : Str) = "_spans") := by decide +kernel
theorem ne3 : ¬ (("widths" : Str) = "page_count") := by decide +kernel
theorem ne4 : ¬ (("levels" : Str) = "_spans") := by decide +kernel
theorem ne5 : ¬ (("levels" : Str) = "page_count") := by decide +kernel
theorem ne6 : ¬ (("_spans" : Str) = "page_count") := by decide +kernel
theorem l1w {wt : Addr} : (f1 wt).lookup ("widths" : Str) = some (.ref wt) := by
  unfold f1
  rw [lookup_putF, if_pos rfl]
theorem l3w {wt st : Addr} {n : Nat} : (f3 wt n st).lookup ("widths" : Str) = some (.ref wt) := by
  unfold f3 f2
  rw [lookup_putF, if_neg ne2, lookup_putF, if_neg ne1, l1w]
theorem l2w {wt : Addr} {n : Nat} : (f2 wt n).lookup ("widths" : Str) = some (.ref wt) := by
  unfold f2
  rw [lookup_putF, if_neg ne1, l1w]
theorem l3s {wt st : Addr} {n : Nat} : (f3 wt n st).lookup ("_spans" : Str) = some (.ref st) := by
  unfold f3
  rw [lookup_putF, if_pos rfl]
theorem shw {wt st : Addr} {ws : List Int} : (shF wt st ws).lookup ("widths" : Str) = some (.ref wt) := by
  unfold shF
  rw [lookup_putF, if_neg ne3, l3w]
theorem shs {wt st : Addr} {ws : List Int} : (shF wt st ws).lookup ("_spans" : Str) = some (.ref st) := by
  unfold shF
  rw [lookup_putF, if_neg ne6, l3s]
theorem shl {wt st : Addr} {ws : List Int} : (shF wt st ws).lookup ("levels" : Str) = some (.int ws.length) := by
  unfold shF f3 f2
  rw [lookup_putF, if_neg ne5, lookup_putF, if_neg ne4, lookup_putF, if_pos rfl]
theorem shp {wt st : Addr} {ws : List Int} : (shF wt st ws).lookup ("page_count" : Str) = some (.int (prodI ws)) := by
  unfold shF
  rw [lookup_putF, if_pos rfl]
theorem sh_no {wt st : Addr} {ws : List Int} {m : Str} (h1 : ¬ m = "page_count") (h2 : ¬ m = "_spans") (h3 : ¬ m = "levels") (h4 : ¬ m = "widths") : (shF wt st ws).lookup m = none := by
  unfold shF f3 f2 f1
  rw [lookup_putF, if_neg h1, lookup_putF, if_neg h2, lookup_putF, if_neg h3, lookup_putF, if_neg h4]
  rfl
structure ShapeAt (C : Addr) (H : Hp) (p wt st dx : Addr) (ws : List Int) : Prop where
  g : H p = some (.ins C dx (shF wt st ws))
  w : H wt = some (.tup (ws.map V.int))
  s : H st = some (.tup ((spansOf ws).map V.int))
  sm : Small ws
theorem ShapeAt.same {C : Addr} {H H' : Hp} {p wt st dx : Addr} {ws : List Int} (h : ShapeAt C H p wt st dx ws) (s : Same H H') : ShapeAt C H' p wt st dx ws := ⟨s _ _ h.g, s _ _ h.w, s _ _ h.s, h.sm⟩
theorem spans_len : ∀ l : List Int, (spansOf l).length = l.length
  | [] => rfl
  | _ :: l => congrArg (· + 1) (spans_len l)
/-- the span of a level -/
def spanN (ws : List Int) (k : Nat) : Int := prodI (ws.drop (k + 1))
theorem spans_get : ∀ {ws : List Int} {k : Nat}, k < ws.length → (spansOf ws)[k]? = some (spanN ws k)
  | [], _, h => absurd h (Nat.not_lt_zero _)
  | _ :: _, 0, _ => rfl
  | _ :: ws, k + 1, h => by
    show (spansOf ws)[k]? = some (spanN ws k)
    exact spans_get (by simpa using h)
theorem prod_pos : ∀ {ws : List Int}, (∀ w ∈ ws, 2 ≤ w ∧ w ≤ 8) → 1 ≤ prodI ws ∧ prodI ws ≤ 8 ^ ws.length
  | [], _ => ⟨by decide, by decide⟩
  | w :: ws, h => by
    have h1 := h w List.mem_cons_self
    have h2 := prod_pos (ws := ws) fun x hx => h x (List.mem_cons_of_mem _ hx)
    show 1 ≤ w * prodI ws ∧ w * prodI ws ≤ _
    rw [List.length_cons, Int.pow_succ, Int.mul_comm _ 8]
    exact ⟨by
      have := Int.mul_le_mul (show (1 : Int) ≤ w by omega) h2.1 (by omega) (by omega)
      omega, Int.mul_le_mul h1.2 h2.2 (by omega) (by omega)⟩
def But (H H' : Hp) (p : Addr) : Prop := ∀ b o, b ≠ p → H b = some o → H' b = some o
def spShI (C : Addr) (K : PySem.W.Frag) : Sp := fun vs H Q _ => ∃ (p dx a : Addr) (ws : List Int), vs = [.ref p, .ref a] ∧ H p = some (.ins C dx []) ∧ (H a = some (.lst (ws.map V.int)) ∨ H a = some (.tup (ws.map V.int))) ∧ Small ws ∧
  ∀ wt st H', ShapeAt C H' p wt st dx ws → But H H' p → Q .non H'
def spSpan (C : Addr) : Sp := fun vs H Q _ => ∃ (p wt st dx : Addr) (ws : List Int) (k : Nat), vs = [.ref p, .int k] ∧ ShapeAt C H p wt st dx ws ∧ k < ws.length ∧ Q (.int (spanN ws k)) H
def spBlock (C D : Addr) : Sp := fun vs H Q E => ∃ (p wt st dx : Addr) (ws : List Int) (k : Nat) (i : Int), vs = [.ref p, .int k, .int i] ∧ ShapeAt C H p wt st dx ws ∧ k < ws.length ∧ -(10 ^ 9) ≤ i ∧ i ≤ 10 ^ 9 ∧
  ((0 ≤ i ∧ i < prodI ws) → ∀ r H', Same H H' → H' r = some (.tup [.int (i / spanN ws k * spanN ws k), .int (i / spanN ws k * spanN ws k + spanN ws k)]) → Q (.ref r) H') ∧
  (¬ (0 ≤ i ∧ i < prodI ws) → ∀ d, H d = none → E (.ref D) (some d) (upd H d (.xd (brF i (i + 1)))))
section
variable {P : Program} {w : World} {K : PySem.W.Frag} {mg : Str → Option Value} {base : Heap} {C D : Addr}
theorem ok_span {f : Addr} {fd : FuncData} (F : C8.Fun K "span" "Shape.span" s_Shape_span f fd) (M : Meth K C "span" f) (b : Binds K fd ["self", "level"] []) (T : STxt K mg C) : C8.Met P w K mg base 1 C "span" (spSpan C) [] := by
  refine C8.met0 T.cl M F b sc_Shape_span (fun vs H Q E h => ?_) (fun cdv A outer s H vs Q E hr h => ?_)
  · obtain ⟨p, wt, st, dx, ws, k, rfl, _⟩ := h
    rfl
  obtain ⟨p, wt, st, dx, ws, k, rfl, hs, hk, q⟩ := h
  have g := hs.g
  refine ⟨_, (pss_one (ps_ret (pe_ix (ixT K rfl) (pe_fld (pv 0) rfl) (pv 1) (fun _ _ => rfl)))), ?_⟩
  walk_at "go"
  refine ⟨_, _, _, _, _, rfl, g, T.cl, T.nS, shs, ?_⟩
  walk_at "go"
  refine ⟨_, _, _, _, rfl, rfl, SqT.of hs.s, atI_nat (by rw [List.getElem?_map, spans_get hk]; rfl), ?_⟩
  exact q
theorem log_small {i : Int} (h1 : -(10 ^ 10) ≤ i) (h2 : i ≤ 10 ^ 10) : i.natAbs.log2 < 1920 := by
  by_cases z : i.natAbs = 0
  · rw [z]
    decide
  · rw [Nat.log2_lt z]
    have : i.natAbs ≤ 10 ^ 10 := by omega
    exact Nat.lt_of_le_of_lt this (Nat.lt_of_lt_of_le (show 10 ^ 10 < 2 ^ 40 by decide) (Nat.pow_le_pow_right (by decide) (by decide)))
theorem ok_block {f : Addr} {fd : FuncData} (F : C8.Fun K "block_at" "Shape.block_at" s_Shape_block_at f fd) (M : Meth K C "block_at" f) (b : Binds K fd ["self", "level", "page"] []) (T : STxt K mg C)
    (e_check : CalE P w K mg base 3 "check_range" (spCheck D)) (m_span : C8.Met P w K mg base 1 C "span" (spSpan C) []) : MetE P w K mg base 4 C "block_at" (spBlock C D) := by
  refine metE T.cl M F b sc_Shape_block_at (fun vs H Q E h => ?_) (fun cdv A outer s H vs Q E hr h => ?_)
  · obtain ⟨p, wt, st, dx, ws, k, i, rfl, _⟩ := h
    rfl
  obtain ⟨p, wt, st, dx, ws, k, i, rfl, hs, hk, i0, i1, q1, q2⟩ := h
  have g := hs.g
  refine ⟨_, (pss_cons (ps_expr (pe_cE e_check (takes_of rfl rfl rfl rfl) hr (by omega) (by rfl) (pa_cons (pv 2) (pa_cons (pe_op op_add (pv 2) pe_int) (pa_cons (pe_fld (pv 0) rfl) pa_nil)))))
      (pss_cons (ps_set (i := 3) sc_Shape_block_at.nd rfl (.inl rfl) (C8.pe_mt m_span hr (by omega) (pv 0) (pa_cons (pv 1) pa_nil)))
      (pss_cons (ps_set (i := 4) sc_Shape_block_at.nd rfl (.inl rfl) (pe_op op_mul (pe_op op_fdiv (pv 2) (pv 3)) (pv 3)))
      (pss_one (ps_ret (pe_tup (pa_cons (pv 4) (pa_cons (pe_op op_add (pv 4) (pv 3)) pa_nil)))))))), ?_⟩
  walk_at "go"
  refine ⟨_, _, _, _, _, rfl, g, T.cl, T.nP, shp, ?_⟩
  walk_at "go"
  refine ⟨i, i + 1, prodI ws, rfl, log_small (by omega) (by omega), log_small (by omega) (by omega), fun z => ?_, fun z d nd => q2 (fun y => z ⟨y.1, by omega, by omega⟩) d nd⟩
  walk_at "go"
  refine ⟨p, dx, _, rfl, g, sh_no (by decide +kernel) (by decide +kernel) (by decide +kernel) (by decide +kernel), ?_⟩
  walk_at "go"
  refine ⟨p, wt, st, dx, ws, k, rfl, hs, hk, ?_⟩
  have pp := prod_pos (ws := ws.drop (k + 1)) fun x hx => hs.sm.2.2 x (List.mem_of_mem_drop hx)
  have s0 : 0 < spanN ws k := by
    show 0 < prodI _
    omega
  have s1 : spanN ws k ≤ 8 ^ 6 := by
    refine Int.le_trans pp.2 (Int.le_trans (b := ((8 ^ 6 : Nat) : Int)) ?_ (by decide))
    have h6 := hs.sm.2.1
    have : (8 : Nat) ^ (ws.drop (k + 1)).length ≤ 8 ^ 6 := Nat.pow_le_pow_right (by decide) (by rw [List.length_drop]; omega)
    exact_mod_cast this
  generalize spanN ws k = sp at *
  walk_at "go"
  refine ⟨sz, fun r nr => ?_⟩
  exact q1 ⟨z.1, by omega⟩ r _ (same_upd nr) upd_same
theorem ok_shI {f : Addr} {fd : FuncData} (F : C8.Fun K "__init__" "Shape.__init__" s_Shape___init__ f fd) (M : Mk K C f) (b : Binds K fd ["self", "widths"] []) (S : STxt K mg C) (T : Txt1 mg) (c__spans_of : Cal P w K mg base 1 "_spans_of" (spSpans K) []) : C8.Mak P w K mg base 2 "Shape" C (spShI C K) [] := by
  refine C8.mak0 M S.mgC F b .nil sc_Shape___init__ (fun vs H Q E h => ?_) (fun cdv A outer s H vs Q E hr h => ?_)
  · obtain ⟨p, dx, a, ws, rfl, _⟩ := h
    rfl
  obtain ⟨p, dx, a, ws, rfl, hp, hA, sm, q⟩ := h
  refine ⟨_, (pss_cons (ps_mk (ps_fld (pv 0) (pe_callTy call_tuple_of (by rfl) T.tuple (by decide +kernel) (pa_cons (pv 1) pa_nil)) rfl))
      (pss_cons (ps_fld (pv 0) (pe_callB (lenQ K rfl) (by rfl) T.len PySem.boot_len (pa_cons (pe_fld (pv 0) rfl) pa_nil)) rfl)
      (pss_cons (ps_fld (pv 0) (C8.pe_c c__spans_of hr (by omega) (by rfl) (pa_cons (pe_fld (pv 0) rfl) pa_nil)) rfl)
      (pss_one (ps_fld (pv 0) (pe_op op_mul (pe_ix (ixT K rfl) (pe_fld (pv 0) rfl) pe_int (fun _ _ => rfl)) (pe_ix (ixT K rfl) (pe_fld (pv 0) rfl) pe_int (fun _ _ => rfl))) rfl))))), ?_⟩
  refine jnS (M := fun σ H' => ∃ wt, H' p = some (.ins C dx (f1 wt)) ∧ H' wt = some (.tup (ws.map V.int)) ∧ But H H' p ∧ σ = [sR p, sR a]) ?_ (fun N kk => ?_)
  rotate_left
  · walk_at "go"
    rcases hA with hA | hA
    · refine ⟨a, _, rfl, .inl ⟨SqL.of hA, fun l nl => ?_⟩⟩
      have s1 := same_upd (o := HO.tup (ws.map V.int)) nl
      have hp1 := s1 _ _ hp
      have hlp : l ≠ p := (ne_of_none hp nl).symm
      refine ⟨_, rfl, p, C, dx, [], rfl, hp1, S.cl, S.nW, (by show 0 < 1000; decide), ?_⟩
      refine kk _ _ ⟨l, upd_same, ?_, fun c o n e => ?_, rfl⟩
      · rw [upd_ne hlp]
        exact upd_same
      · rw [upd_ne n]
        exact s1 _ _ e
    · refine ⟨a, _, rfl, .inr ⟨SqT.of hA, ?_⟩⟩
      have hap : a ≠ p := ne_of hA hp (fun z => by cases z)
      refine ⟨_, rfl, p, C, dx, [], rfl, hp, S.cl, S.nW, (by show 0 < 1000; decide), ?_⟩
      refine kk _ _ ⟨a, upd_same, ?_, fun c o n e => ?_, rfl⟩
      · rw [upd_ne hap]
        exact hA
      · rw [upd_ne n]
        exact e
  rintro σ H1 ⟨wt, g1, gw, b1, rfl⟩
  have hwp : wt ≠ p := ne_of gw g1 (fun z => by cases z)
  walk_at "go"
  refine ⟨_, _, _, _, _, rfl, g1, S.cl, S.nW, l1w, ?_⟩
  walk_at "go"
  obtain ⟨w0, w1, rfl⟩ : ∃ w0 w1, ws = w0 :: w1 := by
    cases ws with
    | nil => exact absurd rfl sm.1
    | cons a b => exact ⟨a, b, rfl⟩
  refine ⟨p, C, dx, _, rfl, g1, S.cl, S.nL, (by show 1 < 1000; decide), ?_⟩
  have el : putF "levels" (V.int (((w0 :: w1).map V.int).length : Nat)) (f1 wt) = f2 wt (w0 :: w1).length := by rw [List.length_map]; rfl
  rw [el]
  have g2 := upd_same (H := H1) (a := p) (o := HO.ins C dx (f2 wt (w0 :: w1).length))
  have gw2 : upd H1 p (HO.ins C dx (f2 wt (w0 :: w1).length)) wt = some (.tup ((w0 :: w1).map V.int)) := by rw [upd_ne hwp]; exact gw
  have b2 : But H (upd H1 p (HO.ins C dx (f2 wt (w0 :: w1).length))) p := fun c o n e => by
    rw [upd_ne n]
    exact b1 _ _ n e
  generalize upd H1 p (HO.ins C dx (f2 wt (w0 :: w1).length)) = H2 at *
  walk_at "go"
  refine ⟨_, _, _, _, _, rfl, g2, S.cl, S.nW, l2w, ?_⟩
  walk_at "go"
  refine ⟨sm, fun st H3 s3 nst gst => ?_⟩
  have g3 := s3 _ _ g2
  have gw3 := s3 _ _ gw2
  have hsp : st ≠ p := (ne_of_none g2 nst).symm
  walk_at "go"
  refine ⟨p, C, dx, _, rfl, g3, S.cl, S.nS, (by show 2 < 1000; decide), ?_⟩
  show _
  have g4 := upd_same (H := H3) (a := p) (o := HO.ins C dx (f3 wt (w0 :: w1).length st))
  have gw4 : upd H3 p (HO.ins C dx (f3 wt (w0 :: w1).length st)) wt = some (.tup ((w0 :: w1).map V.int)) := by rw [upd_ne hwp]; exact gw3
  have gs4 : upd H3 p (HO.ins C dx (f3 wt (w0 :: w1).length st)) st = some (.tup ((spansOf (w0 :: w1)).map V.int)) := by rw [upd_ne hsp]; exact gst
  have b4 : But H (upd H3 p (HO.ins C dx (f3 wt (w0 :: w1).length st))) p := fun c o n e => by
    rw [upd_ne n]
    exact s3 _ _ (b2 _ _ n e)
  have e3 : upd H3 p (HO.ins C dx (putF "_spans" (V.ref st) (f2 wt (w0 :: w1).length))) = upd H3 p (HO.ins C dx (f3 wt (w0 :: w1).length st)) := rfl
  rw [e3]
  generalize upd H3 p (HO.ins C dx (f3 wt (w0 :: w1).length st)) = H4 at *
  have hw0 := sm.2.2 w0 List.mem_cons_self
  walk_at "go"
  refine ⟨_, _, _, _, _, rfl, g4, S.cl, S.nW, l3w, ?_⟩
  walk_at "go"
  refine ⟨_, _, _, .int w0, rfl, rfl, SqT.of gw4, atI_nat (j := 0) rfl, ?_⟩
  walk_at "go"
  refine ⟨_, _, _, _, _, rfl, g4, S.cl, S.nS, l3s, ?_⟩
  walk_at "go"
  refine ⟨_, _, _, .int (prodI w1), rfl, rfl, SqT.of gs4, atI_nat (j := 0) rfl, ?_⟩
  walk_at "go"
  refine ⟨p, C, dx, _, rfl, g4, S.cl, S.nP, (by show 3 < 1000; decide), ?_⟩
  refine q wt st _ ⟨upd_same, by rw [upd_ne hwp]; exact gw4, by rw [upd_ne hsp]; exact gs4, sm⟩ fun c o n e => ?_
  rw [upd_ne n]
  exact b4 _ _ n e
end

end

section

-- a condition of an operator
local macro_rules | `(tactic| walk_at "cond") => `(tactic| first
  | (show (0 : Int) < _; omega)
  | (show CDiv _ _; constructor <;> (first | decide | omega))
  | (show CMul _ _; first | (refine cmul_l ?_; constructor <;> (first | decide | omega)) | (refine cmul_r ?_; constructor <;> (first | decide | omega)))
  | (show CPow _ _; exact (by refine ⟨by decide, by decide, by decide⟩))
  | (show CDivW _ _; exact ⟨by decide, by decide +kernel⟩))
local macro_rules | `(tactic| walk_at "sq") => `(tactic| first | assumption | exact Dh.mono (same_upd (by assumption)) _ _ (by assumption) | exact .inl (.inl (.inl (by assumption))) | exact .inr (.inl (.inl (by assumption))) | exact SqL.of (by assumption) | exact .inl (by assumption) | exact .inl (SqL.of (by assumption)) | exact SqT.of (by assumption) | exact .inr (SqT.of (by assumption)))
local macro_rules | `(tactic| walk_at "st") => `(tactic| first
  | refine ⟨_, rfl, ?_⟩
  | refine ⟨_, _, rfl, rfl, ?_⟩
  | refine .inl ⟨_, rfl, ?_⟩
  | refine ⟨rfl, ?_⟩
  | refine ⟨_, _, rfl, by walk_at "sq", ?_⟩
  | refine ⟨.inl ⟨rfl, _, SqL.of (by assumption)⟩, ?_⟩
  | refine ⟨by walk_at "cond", ?_⟩
  | (refine' ifBT ?hh ?_; (case hh => first | rfl | assumption))
  | (refine' ifBF ?hh ?_; (case hh => first | rfl | assumption)))
local macro_rules | `(tactic| walk_at "go") => `(tactic| repeat walk_at "st")
local macro_rules | `(tactic| walk_at "yes") => `(tactic| (refine' ifT ?hh ?_; (case hh => first | rfl | decide +kernel)))
local macro_rules | `(tactic| walk_at "no") => `(tactic| (refine' ifF ?hh ?_; (case hh => first | decide +kernel | (intro z; cases z; done))))

/-! ### Shape.path -/
abbrev s_Shape_path : Stmt := inClass (topS 14) 2
theorem sc_Shape_path : FnScope ["self", "page", "span", "width"] ["self", "page"] (C8.fnScope s_Shape_path) := C8.fnScope_by (by decide +kernel)
theorem walk_zipT {K : PySem.W.Frag} {a b : Addr} {xs ys : List V} {n : Nat} (hn : n = xs.length) (hm : n = ys.length) : Walk (ItzT K a b) n (fun H => SqT K H a xs ∧ SqT K H b ys) (YPair (fun i => xs[i]?) (fun i => ys[i]?)) := by
  refine ⟨fun i H hi q => ⟨xs, ys, _, _, q.1, q.2, List.getElem?_eq_getElem (by omega), List.getElem?_eq_getElem (by omega)⟩, fun H q => ⟨xs, ys, q.1, q.2, .inl (by omega)⟩, fun i H v H' _ q y => ?_⟩
  obtain ⟨T, x, z, h1, h2, h3, h4, h5⟩ := y
  exact ⟨T, x, z, h1, h2, h3, h4 _ q.1, h5 _ q.2⟩
/-- the entry number at a level -/
def digN (ws : List Int) (i : Int) (k : Nat) : Int := i / spanN ws k % ws.getD k 0
def digs (ws : List Int) (i : Int) (n : Nat) : List Int := (List.range n).map (digN ws i)
def spPath (C D : Addr) : Sp := fun vs H Q E => ∃ (p wt st dx : Addr) (ws : List Int) (i : Int), vs = [.ref p, .int i] ∧ ShapeAt C H p wt st dx ws ∧ -(10 ^ 9) ≤ i ∧ i ≤ 10 ^ 9 ∧
  ((0 ≤ i ∧ i < prodI ws) → ∀ r H', Same H H' → H r = none → H' r = some (.tup ((digs ws i ws.length).map V.int)) → Q (.ref r) H') ∧
  (¬ (0 ≤ i ∧ i < prodI ws) → ∀ d, H d = none → E (.ref D) (some d) (upd H d (.xd (brF i (i + 1)))))
section
variable {P : Program} {w : World} {K : PySem.W.Frag} {mg : Str → Option Value} {base : Heap} {C D : Addr}
theorem ok_path {f : Addr} {fd : FuncData} (F : C8.Fun K "path" "Shape.path" s_Shape_path f fd) (M : Meth K C "path" f) (b : Binds K fd ["self", "page"] []) (S : STxt K mg C) (T : Txt1 mg) (e_check : CalE P w K mg base 3 "check_range" (spCheck D)) : MetE P w K mg base 4 C "path" (spPath C D) := by
  refine metE S.cl M F b sc_Shape_path (fun vs H Q E h => ?_) (fun cdv A outer s H vs Q E hr h => ?_)
  · obtain ⟨p, wt, st, dx, ws, i, rfl, _⟩ := h
    rfl
  obtain ⟨p, wt, st, dx, ws, i, rfl, hs, i0, i1, q1, q2⟩ := h
  have g := hs.g
  refine ⟨_, (pss_cons (ps_expr (pe_cE e_check (takes_of rfl rfl rfl rfl) hr (by omega) (by rfl) (pa_cons (pv 1) (pa_cons (pe_op op_add (pv 1) pe_int) (pa_cons (pe_fld (pv 0) rfl) pa_nil)))))
      (pss_one (ps_ret (pe_callTy call_tuple_of (by rfl) T.tuple (by decide +kernel) (pa_cons (pe_lc (own := [("span", 2), ("width", 3)]) (g := gTup K 2 (gCons (gName 2) (gCons (gName 3) gNil))) (tt := tYes) rfl sc_Shape_path.nd (pi_zipA (by rfl) T.zip (pa_cons (pe_fld (pv 0) rfl) (pa_cons (pe_fld (pv 0) rfl) pa_nil))) (blkOk_by (own := [("span", 2), ("width", 3)]) (N := ["self", "page", "span", "width"]) (sc := C8.fnScope s_Shape_path) (by decide +kernel)) (fun _ _ _ _ _ => (pg_tup rfl (pgs_cons (pg_name (i := 2) sc_Shape_path.nd rfl (.inl rfl)) (pgs_cons (pg_name (i := 3) sc_Shape_path.nd rfl (.inl rfl)) pgs_nil)))) (fun _ _ _ _ _ => pts_nil) (fun _ _ _ _ _ => (pe_op op_mod (pe_op op_fdiv (pv 1) (pv 2)) (pv 3)))) pa_nil))))), ?_⟩
  walk_at "go"
  refine ⟨_, _, _, _, _, rfl, g, S.cl, S.nP, shp, ?_⟩
  walk_at "go"
  refine ⟨i, i + 1, prodI ws, rfl, log_small (by omega) (by omega), log_small (by omega) (by omega), fun z => ?_, fun z d nd => q2 (fun y => z ⟨y.1, by omega, by omega⟩) d nd⟩
  walk_at "go"
  refine ⟨_, _, _, _, _, rfl, g, S.cl, S.nS, shs, ?_⟩
  walk_at "go"
  refine ⟨_, _, _, _, _, rfl, g, S.cl, S.nW, shw, ?_⟩
  walk_at "go"
  refine ⟨st, wt, _, _, rfl, .inr ⟨SqT.of hs.s, SqT.of hs.w, fun L nL => lc_it (walk_zipT (n := ws.length) (by rw [List.length_map, spans_len]) (by rw [List.length_map])) (fun j H' => Ob (Same H H' ∧ H' L = some (.lst ((digs ws i j).map V.int)))) (ob ⟨same_upd nL, upd_same⟩) (fun j H' _ h => ⟨SqT.of ((unob h).1 _ _ hs.s), SqT.of ((unob h).1 _ _ hs.w)⟩) ?_ ?_⟩⟩
  · intro j x H1 H2 hj h y
    obtain ⟨s1, g1⟩ := unob h
    obtain ⟨t2, x1, x2, rfl, n2, rfl, e1, e2⟩ := y
    obtain rfl : x1 = .int (spanN ws j) := by
      dsimp only at e1
      rw [List.getElem?_map, spans_get hj] at e1
      exact (Option.some.inj e1).symm
    have ew : ws.getD j 0 = ws[j] := by rw [List.getD_eq_getElem?_getD, List.getElem?_eq_getElem hj]; rfl
    obtain rfl : x2 = .int (ws.getD j 0) := by
      dsimp only at e2
      rw [List.getElem?_map, List.getElem?_eq_getElem hj] at e2
      rw [ew]
      exact (Option.some.inj e2).symm
    have hw := hs.sm.2.2 _ (List.getElem_mem hj)
    rw [← ew] at hw
    have pp := prod_pos (ws := ws.drop (j + 1)) fun x hx => hs.sm.2.2 x (List.mem_of_mem_drop hx)
    have s0 : 0 < spanN ws j := by
      show 0 < prodI _
      omega
    have sb : spanN ws j ≤ 8 ^ 6 := by
      refine Int.le_trans pp.2 (Int.le_trans (b := ((8 ^ 6 : Nat) : Int)) ?_ (by decide))
      have h6 := hs.sm.2.1
      have : (8 : Nat) ^ (ws.drop (j + 1)).length ≤ 8 ^ 6 := Nat.pow_le_pow_right (by decide) (by rw [List.length_drop]; omega)
      exact_mod_cast this
    have ds : digs ws i (j + 1) = digs ws i j ++ [i / spanN ws j % ws.getD j 0] := by
      unfold digs
      rw [List.range_succ, List.map_append]
      rfl
    have s2 := s1.trans (same_upd (o := HO.tup [V.int (spanN ws j), V.int (ws.getD j 0)]) n2)
    have gp := upd_same (H := H1) (a := t2) (o := HO.tup [V.int (spanN ws j), V.int (ws.getD j 0)])
    have g2 := same_upd (o := HO.tup [V.int (spanN ws j), V.int (ws.getD j 0)]) n2 _ _ g1
    generalize upd H1 t2 (HO.tup [V.int (spanN ws j), V.int (ws.getD j 0)]) = H2 at *
    have dl : (digs ws i j).length = j := by
      unfold digs
      rw [List.length_map, List.length_range]
    have h6 := hs.sm.2.1
    refine ⟨t2, _, rfl, SqT.of gp, rfl, ?_⟩
    refine ⟨_, _, rfl, ?_⟩
    refine ⟨_, _, rfl, ?_⟩
    refine ⟨rfl, ?_⟩
    refine ⟨rfl, ?_⟩
    have hwp : 0 < ws.getD j 0 := by omega
    generalize ws.getD j 0 = wv at *
    generalize spanN ws j = sp at *
    walk_at "go"
    refine ⟨_, g2, sz5 (by rw [List.length_map, dl]; omega), ob ⟨same_put s2 nL, ?_⟩⟩
    rw [upd_same, ds, List.map_append]
    rfl
  · intro H1 h
    obtain ⟨s1, g1⟩ := unob h
    walk_at "go"
    refine ⟨L, _, rfl, .inl ⟨SqL.of g1, fun r nr => ?_⟩⟩
    exact q1 ⟨z.1, by omega⟩ r _ (s1.trans (same_upd nr)) (s1.free nr) upd_same
end

end

section

-- a condition of an operator
local macro_rules | `(tactic| walk_at "cond") => `(tactic| first
  | (show (0 : Int) < _; omega)
  | (show CDiv _ _; constructor <;> (first | decide | omega))
  | (show CMul _ _; first | (refine cmul_l ?_; constructor <;> (first | decide | omega)) | (refine cmul_r ?_; constructor <;> (first | decide | omega)))
  | (show CPow _ _; exact (by refine ⟨by decide, by decide, by decide⟩))
  | (show CDivW _ _; exact ⟨by decide, by decide +kernel⟩))
local macro_rules | `(tactic| walk_at "sq") => `(tactic| first | assumption | exact Dh.mono (same_upd (by assumption)) _ _ (by assumption) | exact .inl (.inl (.inl (by assumption))) | exact .inr (.inl (.inl (by assumption))) | exact SqL.of (by assumption) | exact .inl (by assumption) | exact .inl (SqL.of (by assumption)) | exact SqT.of (by assumption) | exact .inr (SqT.of (by assumption)))
local macro_rules | `(tactic| walk_at "st") => `(tactic| first
  | refine ⟨_, rfl, ?_⟩
  | refine ⟨_, _, rfl, rfl, ?_⟩
  | refine .inl ⟨_, rfl, ?_⟩
  | refine ⟨rfl, ?_⟩
  | refine ⟨_, _, rfl, by walk_at "sq", ?_⟩
  | refine ⟨.inl ⟨rfl, _, SqL.of (by assumption)⟩, ?_⟩
  | refine ⟨by walk_at "cond", ?_⟩
  | (refine' ifBT ?hh ?_; (case hh => first | rfl | assumption))
  | (refine' ifBF ?hh ?_; (case hh => first | rfl | assumption)))
local macro_rules | `(tactic| walk_at "go") => `(tactic| repeat walk_at "st")
local macro_rules | `(tactic| walk_at "yes") => `(tactic| (refine' ifT ?hh ?_; (case hh => first | rfl | decide +kernel)))
local macro_rules | `(tactic| walk_at "no") => `(tactic| (refine' ifF ?hh ?_; (case hh => first | decide +kernel | (intro z; cases z; done))))

/-! ### Shape.page_at -/
abbrev s_Shape_page_at : Stmt := inClass (topS 14) 3
theorem sc_Shape_page_at : FnScope ["self", "path", "number", "span"] ["self", "path"] (C8.fnScope s_Shape_page_at) := C8.fnScope_by (by decide +kernel)
def sumN (ws ds : List Int) (n : Nat) : List Int := (List.range n).map fun k => ds.getD k 0 * spanN ws k
def spPageAt (C : Addr) : Sp := fun vs H Q _ => ∃ (p wt st dx t : Addr) (ws ds : List Int), vs = [.ref p, .ref t] ∧ ShapeAt C H p wt st dx ws ∧ H t = some (.tup (ds.map V.int)) ∧ ds.length = ws.length ∧ (∀ d ∈ ds, 0 ≤ d ∧ d < 8) ∧
  ∀ H', Same H H' → Q (.int (sumN ws ds ws.length).sum) H'
section
variable {P : Program} {w : World} {K : PySem.W.Frag} {mg : Str → Option Value} {base : Heap} {C : Addr}
theorem ok_page_at {f : Addr} {fd : FuncData} (F : C8.Fun K "page_at" "Shape.page_at" s_Shape_page_at f fd) (M : Meth K C "page_at" f) (b : Binds K fd ["self", "path"] []) (S : STxt K mg C) (T : Txt1 mg) : C8.Met P w K mg base 1 C "page_at" (spPageAt C) [] := by
  refine C8.met0 S.cl M F b sc_Shape_page_at (fun vs H Q E h => ?_) (fun cdv A outer s H vs Q E hr h => ?_)
  · obtain ⟨p, wt, st, dx, t, ws, ds, rfl, _⟩ := h
    rfl
  obtain ⟨p, wt, st, dx, t, ws, ds, rfl, hs, ht, hl, hd, q⟩ := h
  have g := hs.g
  refine ⟨_, (pss_one (ps_ret (pe_callB (cr_sum rfl) (by rfl) T.sum (by decide +kernel) (pa_cons (pe_lc (own := [("number", 2), ("span", 3)]) (g := gTup K 2 (gCons (gName 2) (gCons (gName 3) gNil))) (tt := tYes) rfl sc_Shape_page_at.nd (pi_zipA (by rfl) T.zip (pa_cons (pv 1) (pa_cons (pe_fld (pv 0) rfl) pa_nil))) (blkOk_by (own := [("number", 2), ("span", 3)]) (N := ["self", "path", "number", "span"]) (sc := C8.fnScope s_Shape_page_at) (by decide +kernel)) (fun _ _ _ _ _ => (pg_tup rfl (pgs_cons (pg_name (i := 2) sc_Shape_page_at.nd rfl (.inl rfl)) (pgs_cons (pg_name (i := 3) sc_Shape_page_at.nd rfl (.inl rfl)) pgs_nil)))) (fun _ _ _ _ _ => pts_nil) (fun _ _ _ _ _ => (pe_op op_mul (pv 2) (pv 3)))) pa_nil)))), ?_⟩
  walk_at "go"
  refine ⟨_, _, _, _, _, rfl, g, S.cl, S.nS, shs, ?_⟩
  walk_at "go"
  refine ⟨t, st, _, _, rfl, .inr ⟨SqT.of ht, SqT.of hs.s, fun L nL => lc_it (walk_zipT (n := ws.length) (by rw [List.length_map, hl]) (by rw [List.length_map, spans_len])) (fun j H' => Ob (Same H H' ∧ H' L = some (.lst ((sumN ws ds j).map V.int)))) (ob ⟨same_upd nL, upd_same⟩) (fun j H' _ h => ⟨SqT.of ((unob h).1 _ _ ht), SqT.of ((unob h).1 _ _ hs.s)⟩) ?_ ?_⟩⟩
  · intro j x H1 H2 hj h y
    obtain ⟨s1, g1⟩ := unob h
    obtain ⟨t2, x1, x2, rfl, n2, rfl, e1, e2⟩ := y
    have ew : ds.getD j 0 = ds[j]'(by omega) := by rw [List.getD_eq_getElem?_getD, List.getElem?_eq_getElem (by omega)]; rfl
    obtain rfl : x1 = .int (ds.getD j 0) := by
      dsimp only at e1
      rw [List.getElem?_map, List.getElem?_eq_getElem (by omega)] at e1
      rw [ew]
      exact (Option.some.inj e1).symm
    obtain rfl : x2 = .int (spanN ws j) := by
      dsimp only at e2
      rw [List.getElem?_map, spans_get hj] at e2
      exact (Option.some.inj e2).symm
    have hw := hd _ (List.getElem_mem (show j < ds.length by omega))
    rw [← ew] at hw
    have hs1 : sumN ws ds (j + 1) = sumN ws ds j ++ [ds.getD j 0 * spanN ws j] := by
      unfold sumN
      rw [List.range_succ, List.map_append]
      rfl
    have s2 := s1.trans (same_upd (o := HO.tup [V.int (ds.getD j 0), V.int (spanN ws j)]) n2)
    have gp := upd_same (H := H1) (a := t2) (o := HO.tup [V.int (ds.getD j 0), V.int (spanN ws j)])
    have g2 := same_upd (o := HO.tup [V.int (ds.getD j 0), V.int (spanN ws j)]) n2 _ _ g1
    generalize upd H1 t2 (HO.tup [V.int (ds.getD j 0), V.int (spanN ws j)]) = H2 at *
    have dl : (sumN ws ds j).length = j := by
      unfold sumN
      rw [List.length_map, List.length_range]
    have h6 := hs.sm.2.1
    refine ⟨t2, _, rfl, SqT.of gp, rfl, ?_⟩
    refine ⟨_, _, rfl, ?_⟩
    refine ⟨_, _, rfl, ?_⟩
    refine ⟨rfl, ?_⟩
    refine ⟨rfl, ?_⟩
    generalize ds.getD j 0 = dv at *
    generalize spanN ws j = sp at *
    walk_at "go"
    refine ⟨_, g2, sz5 (by rw [List.length_map, dl]; omega), ob ⟨same_put s2 nL, ?_⟩⟩
    rw [upd_same, hs1, List.map_append]
    rfl
  · intro H1 h
    obtain ⟨s1, g1⟩ := unob h
    walk_at "go"
    exact q _ s1
end

end

section

-- a condition of an operator
local macro_rules | `(tactic| walk_at "cond") => `(tactic| first
  | (show (0 : Int) < _; omega)
  | (show CDiv _ _; constructor <;> (first | decide | omega))
  | (show CMul _ _; first | (refine cmul_l ?_; constructor <;> (first | decide | omega)) | (refine cmul_r ?_; constructor <;> (first | decide | omega)))
  | (show CPow _ _; exact (by refine ⟨by decide, by decide, by decide⟩))
  | (show CDivW _ _; exact ⟨by decide, by decide +kernel⟩))
local macro_rules | `(tactic| walk_at "sq") => `(tactic| first | assumption | exact Dh.mono (same_upd (by assumption)) _ _ (by assumption) | exact .inl (.inl (.inl (by assumption))) | exact .inr (.inl (.inl (by assumption))) | exact SqL.of (by assumption) | exact .inl (by assumption) | exact .inl (SqL.of (by assumption)) | exact SqT.of (by assumption) | exact .inr (SqT.of (by assumption)))
local macro_rules | `(tactic| walk_at "st") => `(tactic| first
  | refine ⟨_, rfl, ?_⟩
  | refine ⟨_, _, rfl, rfl, ?_⟩
  | refine .inl ⟨_, rfl, ?_⟩
  | refine ⟨rfl, ?_⟩
  | refine ⟨_, _, rfl, by walk_at "sq", ?_⟩
  | refine ⟨.inl ⟨rfl, _, SqL.of (by assumption)⟩, ?_⟩
  | refine ⟨by walk_at "cond", ?_⟩
  | (refine' ifBT ?hh ?_; (case hh => first | rfl | assumption))
  | (refine' ifBF ?hh ?_; (case hh => first | rfl | assumption)))
local macro_rules | `(tactic| walk_at "go") => `(tactic| repeat walk_at "st")
local macro_rules | `(tactic| walk_at "yes") => `(tactic| (refine' ifT ?hh ?_; (case hh => first | rfl | decide +kernel)))
local macro_rules | `(tactic| walk_at "no") => `(tactic| (refine' ifF ?hh ?_; (case hh => first | decide +kernel | (intro z; cases z; done))))

/-! ### _law_fan_spans, _law_fan, _law_page -/
abbrev s_fan_spans : Stmt := topS 20
theorem sc_fan_spans : FnScope ["_law_fan_here", "_law_spans", "_law_level", "_law_span", "_law_one"] ["_law_fan_here"] (C8.fnScope s_fan_spans) := C8.fnScope_by (by decide +kernel)
def spFanSpans (K : PySem.W.Frag) : Sp := fun vs H Q _ => ∃ (a : Addr) (ws : List Int), vs = [.ref a] ∧ SqL K H a (ws.map V.int) ∧ Small ws ∧ ∀ r H', Same H H' → H r = none → H' r = some (.lst ((spansOf ws).map V.int)) → Q (.ref r) H'
theorem cut_from (xs : List V) (k : Nat) (h : k + 1 ≤ xs.length) : cutV xs (some (((k : Nat) : Int) + 1)) none = xs.drop (k + 1) := by
  unfold cutV
  have e : ((k : Nat) : Int) + 1 = ((k + 1 : Nat) : Int) := by omega
  rw [e, HT.sIx_nat, HT.sIx_none, Nat.min_eq_left h, List.take_of_length_le (by rw [List.length_drop]; exact Nat.le_refl _)]
theorem prod_snoc : ∀ (l : List Int) (x : Int), prodI (l ++ [x]) = prodI l * x
  | [], x => by
    show x * 1 = 1 * x
    omega
  | a :: l, x => by
    show a * prodI (l ++ [x]) = a * prodI l * x
    rw [prod_snoc l x, Int.mul_assoc]
theorem take_snoc {l : List Int} {i : Nat} (h : i < l.length) : prodI (l.take (i + 1)) = prodI (l.take i) * l[i] := by
  rw [List.take_add_one, List.getElem?_eq_getElem h]
  exact prod_snoc _ _
section
variable {P : Program} {w : World} {K : PySem.W.Frag} {mg : Str → Option Value} {base : Heap}
theorem ok_fan_spans {f : Addr} {fd : FuncData} (D : Def K mg "_law_fan_spans" s_fan_spans f fd) (b : Binds K fd ["_law_fan_here"] []) (T : Txt mg) : Cal P w K mg base 1 "_law_fan_spans" (spFanSpans K) [] := by
  refine cal0 D b .nil sc_fan_spans (fun vs H Q E h => ?_) (fun cdv A outer s H vs Q E hr h => ?_)
  · obtain ⟨a, ws, rfl, _⟩ := h
    rfl
  obtain ⟨a, ws, rfl, ha, sm, q⟩ := h
  refine ⟨_, (pss_cons (ps_set (i := 1) sc_fan_spans.nd rfl (.inl rfl) (pe_lst pa_nil))
      (pss_cons (ps_mk (ps_for PassesOwn.never rfl (pi_range1 (by rfl) T.range (pa_cons (pe_callB (lenQ K rfl) (by rfl) T.len PySem.boot_len (pa_cons (pv 0) pa_nil)) pa_nil)) (pg_name (i := 2) sc_fan_spans.nd rfl (.inl rfl))
      (pss_cons (ps_set (i := 3) sc_fan_spans.nd rfl (.inl rfl) pe_int)
      (pss_cons (ps_mk (ps_for PassesOwn.never rfl (pi_list (pe_slice sl_list (pv 0) (po_some (pe_op op_add (pv 2) pe_int)) po_none)) (pg_name (i := 4) sc_fan_spans.nd rfl (.inl rfl))
      (pss_one (ps_set (i := 3) sc_fan_spans.nd rfl (.inl rfl) (pe_op op_mul (pv 3) (pv 4))))))
      (pss_one (ps_expr (pe_bm PySem.F.plainAttrs_list PySem.F.slot_list_append PySem.F.type_list_append mt_append (pv 1) (pa_cons (pv 3) pa_nil))))))))
      (pss_one (ps_ret (pv 1))))), ?_⟩
  walk_at "go"
  refine ⟨sz, fun L nL => ?_⟩
  have s1 := same_upd (o := HO.lst []) nL
  have gL := upd_same (H := H) (a := L) (o := HO.lst [])
  generalize upd H L (HO.lst []) = H1 at *
  refine jnS (M := fun σ H' => Same H H' ∧ ∃ y2 y3 y4, H' L = some (.lst ((spansOf ws).map V.int)) ∧ σ = [sR a, sR L, y2, y3, y4]) ?_ (fun N kk => ?_)
  · rintro σ H2 ⟨s2, y2, y3, y4, g2, rfl⟩
    walk_at "go"
    exact q L _ s2 nL g2
  have h6 := sm.2.1
  have ha1 := s1.seq ha
  walk_at "go"
  rw [List.length_map]
  refine ⟨by omega, by omega, for_range (lo := 0) (n := ws.length) (fun j σ H' => Ob (Same H H' ∧ ∃ y2 y3 y4, H' L = some (.lst (((spansOf ws).take j).map V.int)) ∧ σ = [sR a, sR L, y2, y3, y4])) (ob ⟨s1, none, none, none, gL, rfl⟩) ?_ ?_⟩
  · intro j σ H2 hj h
    obtain ⟨s2, y2, y3, y4, g2, rfl⟩ := unob h
    clear h kk ha1 gL s1
    have ha2 := s2.seq ha
    rw [Int.zero_add]
    walk_at "go"
    refine jnS (M := fun σ H' => Same H H' ∧ ∃ y4, H' L = some (.lst (((spansOf ws).take j).map V.int)) ∧ σ = [sR a, sR L, sI j, sI (spanN ws j), y4]) ?_ (fun N kk => ?_)
    · rintro σ H3 ⟨s3, y4, g3, rfl⟩
      walk_at "go"
      refine ⟨L, _, _, rfl, rfl, g3, sz5 (by rw [List.length_map, List.length_take, spans_len]; omega), ?_⟩
      refine ob ⟨same_put s3 nL, _, _, _, ?_, rfl⟩
      rw [upd_same, List.take_add_one, spans_get hj, List.map_append]
      rfl
    walk_at "go"
    intro t nt
    have ec : cutV (ws.map V.int) (some ((j : Int) + 1)) none = (ws.drop (j + 1)).map V.int := by
      rw [cut_from _ _ (by rw [List.length_map]; omega), List.map_drop]
    have s3 := same_upd (o := HO.lst (cutV (ws.map V.int) (some ((j : Int) + 1)) none)) nt
    have gt := upd_same (H := H2) (a := t) (o := HO.lst (cutV (ws.map V.int) (some ((j : Int) + 1)) none))
    have g3 := s3 _ _ g2
    have s23 := s2.trans s3
    rw [ec] at s3 gt g3 s23 ⊢
    generalize upd H2 t (HO.lst ((ws.drop (j + 1)).map V.int)) = H3 at *
    have sd : ∀ x ∈ ws.drop (j + 1), 2 ≤ x ∧ x ≤ 8 := fun x hx => sm.2.2 x (List.mem_of_mem_drop hx)
    refine ⟨t, rfl, ⟨_, SqL.of gt⟩, for_list (K := K) (a := t) (xs := (ws.drop (j + 1)).map V.int) (fun i σ H' => Ob (H' = H3 ∧ ∃ y4, σ = [sR a, sR L, sI j, sI (prodI ((ws.drop (j + 1)).take i)), y4])) (ob ⟨rfl, y4, rfl⟩) (fun i σ H' _ h => by rw [(unob h).1]; exact SqL.of gt) ?_ ?_⟩
    · intro i x σ H' hi h
      obtain ⟨rfl, y4, rfl⟩ := unob h
      have hil : i < (ws.drop (j + 1)).length := by
        have z := (List.getElem?_eq_some_iff.mp hi).1
        rw [List.length_map] at z
        exact z
      obtain rfl : x = .int (ws.drop (j + 1))[i] := by
        rw [List.getElem?_map, List.getElem?_eq_getElem hil] at hi
        exact (Option.some.inj hi).symm
      have hx := sd _ (List.getElem_mem hil)
      have ts := take_snoc hil
      generalize (ws.drop (j + 1))[i] = xv at *
      walk_at "go"
      refine ob ⟨rfl, sI xv, ?_⟩
      rw [ts]
      rfl
    · intro σ H' h
      obtain ⟨rfl, y4, rfl⟩ := unob h
      rw [List.length_map, List.take_length]
      exact kk _ _ ⟨s23, y4, g3, rfl⟩
  · intro σ H2 h
    obtain ⟨s2, y2, y3, y4, g2, rfl⟩ := unob h
    rw [List.take_of_length_le (by rw [spans_len]; exact Nat.le_refl _)] at g2
    exact kk _ _ ⟨s2, y2, y3, y4, g2, rfl⟩
end

end

section

-- a condition of an operator
local macro_rules | `(tactic| walk_at "cond") => `(tactic| first
  | (show (0 : Int) < _; omega)
  | (show CDiv _ _; constructor <;> (first | decide | omega))
  | (show CMul _ _; first | (refine cmul_l ?_; constructor <;> (first | decide | omega)) | (refine cmul_r ?_; constructor <;> (first | decide | omega)))
  | (show CPow _ _; exact (by refine ⟨by decide, by decide, by decide⟩))
  | (show CDivW _ _; exact ⟨by decide, by decide +kernel⟩))
local macro_rules | `(tactic| walk_at "sq") => `(tactic| first | assumption | exact Dh.mono (same_upd (by assumption)) _ _ (by assumption) | exact .inl (.inl (.inl (by assumption))) | exact .inr (.inl (.inl (by assumption))) | exact SqL.of (by assumption) | exact .inl (by assumption) | exact .inl (SqL.of (by assumption)) | exact SqT.of (by assumption) | exact .inr (SqT.of (by assumption)))
local macro_rules | `(tactic| walk_at "st") => `(tactic| first
  | refine ⟨_, rfl, ?_⟩
  | refine ⟨_, _, rfl, rfl, ?_⟩
  | refine .inl ⟨_, rfl, ?_⟩
  | refine ⟨rfl, ?_⟩
  | refine ⟨_, _, rfl, by walk_at "sq", ?_⟩
  | refine ⟨.inl ⟨rfl, _, SqL.of (by assumption)⟩, ?_⟩
  | refine ⟨by walk_at "cond", ?_⟩
  | (refine' ifBT ?hh ?_; (case hh => first | rfl | assumption))
  | (refine' ifBF ?hh ?_; (case hh => first | rfl | assumption)))
local macro_rules | `(tactic| walk_at "go") => `(tactic| repeat walk_at "st")
local macro_rules | `(tactic| walk_at "yes") => `(tactic| (refine' ifT ?hh ?_; (case hh => first | rfl | decide +kernel)))
local macro_rules | `(tactic| walk_at "no") => `(tactic| (refine' ifF ?hh ?_; (case hh => first | decide +kernel | (intro z; cases z; done))))

/-! ### _law_number -/
/-- n times // 1000 -/
def itd : Nat → Int → Int
  | 0, r => r
  | n + 1, r => itd n r / 1000
theorem itd_zero : ∀ n, itd n 0 = 0
  | 0 => rfl
  | n + 1 => by
    show itd n 0 / 1000 = 0
    rw [itd_zero n]
    rfl
theorem itd_add (r : Int) (h : itd n r = 0) : ∀ m, itd (n + m) r = 0
  | 0 => h
  | m + 1 => by
    show itd (n + m) r / 1000 = 0
    rw [itd_add r h m]
    rfl
theorem itd_nn {r : Int} (h : 0 ≤ r) : ∀ n, 0 ≤ itd n r
  | 0 => h
  | n + 1 => Int.ediv_nonneg (itd_nn h n) (by decide)
def nCell (ns : List Int) (i : Int) : Int := if ns.length = 0 then 0 else (ns.getD (i % (ns.length : Int)).toNat 0).natAbs
def nTurn (ns : List Int) (i : Int) : Int := if ns.length = 0 then i else i / (ns.length : Int)
def nPick (ns : List Int) (i k : Int) : Int := k + 16 * nTurn ns i
def nMix (c p : Int) : Int :=
  let a := (c + 7919 * p + 13) % 2147483647
  let b := (a * (a + 48271)) % 2147483629
  (b * (b + 69621) + 31 * p) % 2147483647
def num (ns : List Int) (i k size : Int) : Int :=
  let c := nCell ns i
  let p := nPick ns i k
  if c ≥ 10 ^ 18 then
    if itd p.toNat (c / 10 ^ 18) > 0 then itd p.toNat (c / 10 ^ 18) % 1000 % size else nMix c p / 9 % size
  else nMix c p / 9 % size
theorem num_nn {ns : List Int} {i k size : Int} (h : 0 < size) : 0 ≤ num ns i k size := by
  unfold num
  dsimp only
  split
  · split
    · exact Int.emod_nonneg _ (by omega)
    · exact Int.emod_nonneg _ (by omega)
  · exact Int.emod_nonneg _ (by omega)
theorem num_lt {ns : List Int} {i k size : Int} (h : 0 < size) : num ns i k size < size := by
  unfold num
  dsimp only
  split
  · split
    · exact Int.emod_lt_of_pos _ h
    · exact Int.emod_lt_of_pos _ h
  · exact Int.emod_lt_of_pos _ h
def spNum (K : PySem.W.Frag) : Sp := fun vs H Q _ => ∃ (a : Addr) (ns : List Int) (i k size : Int), vs = [.ref a, .int i, .int k, .int size] ∧ SqL K H a (ns.map V.int) ∧ ns.length ≤ 63 ∧
  0 ≤ i ∧ i ≤ 1000000000 ∧ 0 ≤ k ∧ k ≤ 1000000000 ∧ 0 < size ∧ Q (.int (num ns i k size)) H

abbrev s_number : Stmt := topS 17
theorem sc_number : FnScope ["_law_script", "_law_at", "_law_k", "_law_size", "_law_cell", "_law_turn", "_law_pick", "_law_rest", "_law_step", "_law_mixed"] ["_law_script", "_law_at", "_law_k", "_law_size"] (C8.fnScope s_number) := C8.fnScope_by (by decide +kernel)
section
variable {P : Program} {w : World} {K : PySem.W.Frag} {mg : Str → Option Value} {base : Heap}
theorem ok_number {f : Addr} {fd : FuncData} (D : Def K mg "_law_number" s_number f fd) (b : Binds K fd ["_law_script", "_law_at", "_law_k", "_law_size"] []) (T : Txt mg) : Cal P w K mg base 1 "_law_number" (spNum K) [] := by
  refine cal0 D b .nil sc_number (fun vs H Q E h => ?_) (fun cdv A outer s H vs Q E hr h => ?_)
  · obtain ⟨a, ns, i, k, size, rfl, _⟩ := h
    rfl
  obtain ⟨a, ns, i, k, size, rfl, hS, hl, i0, i1, k0, k1, hz, q⟩ := h
  refine ⟨_, (pss_cons (ps_set (i := 4) sc_number.nd rfl (.inl rfl) pe_int)
      (pss_cons (ps_set (i := 5) sc_number.nd rfl (.inl rfl) (pv 1))
      (pss_cons (ps_mk (ps_if (pt_cmpR op_gt (pe_callB (lenQ K rfl) (by rfl) T.len PySem.boot_len (pa_cons (pv 0) pa_nil)) pe_int (nomark _))
      (pss_cons (ps_set (i := 4) sc_number.nd rfl (.inl rfl) (pe_callB call_abs (by rfl) T.abs (by decide +kernel) (pa_cons (pe_ix (ixL K rfl) (pv 0) (pe_op op_mod (pe_callTy call_int1 (by rfl) T.int (by decide +kernel) (pa_cons (pv 1) pa_nil)) (pe_callB (lenQ K rfl) (by rfl) T.len PySem.boot_len (pa_cons (pv 0) pa_nil))) (fun _ _ => rfl)) pa_nil)))
      (pss_one (ps_set (i := 5) sc_number.nd rfl (.inl rfl) (pe_op op_fdiv (pv 1) (pe_callB (lenQ K rfl) (by rfl) T.len PySem.boot_len (pa_cons (pv 0) pa_nil))))))
      pss_nil))
      (pss_cons (ps_set (i := 6) sc_number.nd rfl (.inl rfl) (pe_op op_add (pv 2) (pe_op op_mul pe_int (pv 5))))
      (pss_cons (ps_mk (ps_if (pt_cmpR op_ge (pv 4) (pe_op op_pow pe_int pe_int) (nomark _))
      (pss_cons (ps_set (i := 7) sc_number.nd rfl (.inl rfl) (pe_op op_fdivW (pv 4) (pe_op op_pow pe_int pe_int)))
      (pss_cons (ps_mk (ps_for PassesOwn.never rfl (pi_range1 (by rfl) T.range (pa_cons (pv 6) pa_nil)) (pg_name (i := 8) sc_number.nd rfl (.inl rfl))
      (pss_cons (ps_mk (ps_if (pt_cmpR op_eq (pv 7) pe_int (nomark _))
      (pss_one ps_break)
      pss_nil))
      (pss_one (ps_set (i := 7) sc_number.nd rfl (.inl rfl) (pe_op op_fdiv (pv 7) pe_int))))))
      (pss_one (ps_mk (ps_if (pt_cmpR op_gt (pv 7) pe_int (nomark _))
      (pss_one (ps_ret (pe_op op_mod (pe_callTy call_int1 (by rfl) T.int (by decide +kernel) (pa_cons (pe_op op_mod (pe_callTy call_int1 (by rfl) T.int (by decide +kernel) (pa_cons (pv 7) pa_nil)) pe_int) pa_nil)) (pv 3))))
      pss_nil)))))
      pss_nil))
      (pss_cons (ps_set (i := 9) sc_number.nd rfl (.inl rfl) (pe_op op_mod (pe_callTy call_int1 (by rfl) T.int (by decide +kernel) (pa_cons (pe_op op_add (pe_op op_add (pv 4) (pe_op op_mul pe_int (pv 6))) pe_int) pa_nil)) pe_int))
      (pss_cons (ps_set (i := 9) sc_number.nd rfl (.inl rfl) (pe_op op_mod (pe_callTy call_int1 (by rfl) T.int (by decide +kernel) (pa_cons (pe_op op_mul (pv 9) (pe_op op_add (pv 9) pe_int)) pa_nil)) pe_int))
      (pss_cons (ps_set (i := 9) sc_number.nd rfl (.inl rfl) (pe_op op_mod (pe_callTy call_int1 (by rfl) T.int (by decide +kernel) (pa_cons (pe_op op_add (pe_op op_mul (pv 9) (pe_op op_add (pv 9) pe_int)) (pe_op op_mul pe_int (pv 6))) pa_nil)) pe_int))
      (pss_one (ps_ret (pe_op op_mod (pe_callTy call_int1 (by rfl) T.int (by decide +kernel) (pa_cons (pe_op op_fdiv (pv 9) pe_int) pa_nil)) (pv 3)))))))))))), ?_⟩
  have hml : (ns.map V.int).length = ns.length := List.length_map _
  have t0 : 0 ≤ nTurn ns i ∧ nTurn ns i ≤ 1000000000 := by
    unfold nTurn
    split
    · exact ⟨i0, i1⟩
    · exact ⟨Int.ediv_nonneg i0 (by omega), Int.le_trans (Int.ediv_le_self _ i0) i1⟩
  have p0 : 0 ≤ nPick ns i k ∧ nPick ns i k ≤ 17000000000 := by
    unfold nPick
    omega
  walk_at "go"
  refine jn (M := fun σ H' => ∃ c t : Int, c = nCell ns i ∧ t = nTurn ns i ∧ H' = H ∧ σ = [sR a, sI i, sI k, sI size, sI c, sI t, none, none, none, none]) ?_ (fun N kk => ?_)
  · rintro σ H' ⟨c, t, ec, et, rfl, rfl⟩
    walk_at "go"
    -- behind the pick
    have ep : k + 16 * t = nPick ns i k := by
      rw [et]
      rfl
    have c0 : 0 ≤ c := by
      rw [ec]
      unfold nCell
      split <;> omega
    have en : c < 10 ^ 18 ∨ ¬ itd (nPick ns i k).toNat (c / 10 ^ 18) > 0 → num ns i k size = nMix c (nPick ns i k) / 9 % size := fun h => by
      unfold num
      dsimp only
      rw [← ec]
      rcases h with h | h
      · rw [if_neg (by omega)]
      · split
        · rfl
        · rfl
    refine jn (M := fun σ H2 => H2 = H' ∧ (c < 10 ^ 18 ∨ ¬ itd (nPick ns i k).toNat (c / 10 ^ 18) > 0) ∧ ∃ y8 y9, σ = [sR a, sI i, sI k, sI size, sI c, sI t, sI (nPick ns i k), y8, y9, none]) ?_ (fun N kk => ?_)
    · rintro σ H2 ⟨rfl, hc, y8, y9, rfl⟩
      walk_at "go"
      have e := en hc
      unfold nMix at e
      dsimp only at e
      rw [e] at q
      exact q
    · walk_at "go"
      refine ifD (fun g => ?_) (fun g => ?_)
      · have g' : c ≥ 10 ^ 18 := g
        walk_at "go"
        have r0 : 0 ≤ c / 10 ^ 18 := Int.ediv_nonneg c0 (by decide)
        refine jn (M := fun σ H2 => H2 = H' ∧ ∃ y9, σ = [sR a, sI i, sI k, sI size, sI c, sI t, sI (nPick ns i k), sI (itd (nPick ns i k).toNat (c / 10 ^ 18)), y9, none]) ?_ (fun N2 k2 => ?_)
        · rintro σ H2 ⟨rfl, y9, rfl⟩
          refine un ?_
          walk_at "go"
          refine ifD (fun g2 => ?_) (fun g2 => ?_)
          · walk_at "go"
            have e : num ns i k size = itd (nPick ns i k).toNat (c / 10 ^ 18) % 1000 % size := by
              unfold num
              dsimp only
              rw [← ec, if_pos g', if_pos g2]
            rw [e] at q
            exact q
          · walk_at "go"
            exact kk _ _ ⟨rfl, .inr g2, _, _, rfl⟩
        · walk_at "go"
          refine ⟨(show -(2 ^ 62) ≤ k + 16 * t by omega), (show k + 16 * t < 2 ^ 62 by omega), for_range (lo := 0) (n := (k + 16 * t).toNat) (fun j σ H2 => Ob (H2 = H' ∧ ∃ y9, σ = [sR a, sI i, sI k, sI size, sI c, sI t, sI (nPick ns i k), sI (itd j (c / 10 ^ 18)), y9, none])) (ob ⟨rfl, none, ?_⟩) ?_ ?_⟩
          · rw [← ep]
            rfl
          · rintro j σ H2 hj h
            obtain ⟨rfl, y9, rfl⟩ := unob h
            refine un ?_
            walk_at "go"
            refine ifEq (fun z => ?_) (fun z => ?_)
            · walk_at "go"
              refine k2 _ _ ⟨rfl, sI (0 + (j : Int)), ?_⟩
              have z2 : itd (nPick ns i k).toNat (c / 10 ^ 18) = 0 := by
                have z3 := itd_add _ z ((nPick ns i k).toNat - j)
                rw [show j + ((nPick ns i k).toNat - j) = (nPick ns i k).toNat by omega] at z3
                exact z3
              rw [z2, ← z]
              rfl
            · walk_at "go"
              exact ob ⟨rfl, _, rfl⟩
          · rintro σ H2 h
            obtain ⟨rfl, y9, rfl⟩ := unob h
            refine k2 _ _ ⟨rfl, y9, ?_⟩
            rw [ep]
      · walk_at "go"
        have g' : ¬ c ≥ 10 ^ 18 := g
        refine kk _ _ ⟨rfl, .inl (by omega), none, none, ?_⟩
        rw [← ep]
        rfl
  · walk_at "go"
    refine ifD (fun c => ?_) (fun c => ?_)
    · walk_at "go"
      rw [hml] at c
      refine ⟨_, _, _, _, rfl, rfl, hS, atI_getD (Int.emod_nonneg _ (by omega)) (by rw [hml]; exact Int.emod_lt_of_pos _ (by omega)), ?_⟩
      walk_at "go"
      refine kk _ _ ⟨_, _, ?_, ?_, rfl, rfl⟩
      · unfold nCell
        rw [if_neg (show ¬ ns.length = 0 by omega)]
        simp only [hml]
        split
        · omega
        · omega
      · unfold nTurn
        rw [if_neg (by omega), hml]
    · walk_at "go"
      rw [hml] at c
      refine kk _ _ ⟨_, _, ?_, ?_, rfl, rfl⟩
      · unfold nCell
        rw [if_pos (by omega)]
      · unfold nTurn
        rw [if_pos (by omega)]
end

local macro_rules | `(tactic| walk_at "st") => `(tactic| refine ⟨_, _, _, _, _, rfl, by assumption, by assumption, by omega, by omega, by omega, by omega, by omega, ?_⟩)
local macro_rules | `(tactic| walk_at "st") => `(tactic| refine ⟨_, _, _, _, _, rfl, Same.seq (by assumption) (by assumption), by assumption, by omega, by omega, by omega, by omega, by omega, ?_⟩)

/-! ### _law_fan -/
abbrev s_fan : Stmt := topS 21
theorem sc_fan : FnScope ["_law_script", "_law_at", "_law_most", "_law_fan_here", "_law_total", "_law_k", "_law_width"] ["_law_script", "_law_at", "_law_most"] (C8.fnScope s_fan) := C8.fnScope_by (by decide +kernel)
def spFan (K : PySem.W.Frag) : Sp := fun vs H Q _ => ∃ (a : Addr) (ns : List Int) (i : Int), vs = [.ref a, .int i, .int 4096] ∧ SqL K H a (ns.map V.int) ∧ ns.length ≤ 63 ∧ 0 ≤ i ∧ i ≤ 1000000 ∧
  ∀ r ws H', Same H H' → H r = none → Small ws → prodI ws ≤ 4096 → H' r = some (.lst (ws.map V.int)) → Q (.ref r) H'
section
variable {P : Program} {w : World} {K : PySem.W.Frag} {mg : Str → Option Value} {base : Heap}
theorem ok_fan {f : Addr} {fd : FuncData} (D : Def K mg "_law_fan" s_fan f fd) (b : Binds K fd ["_law_script", "_law_at", "_law_most"] []) (T : Txt mg) (c_number : Cal P w K mg base 1 "_law_number" (spNum K) []) : Cal P w K mg base 2 "_law_fan" (spFan K) [] := by
  refine cal0 D b .nil sc_fan (fun vs H Q E h => ?_) (fun cdv A outer s H vs Q E hr h => ?_)
  · obtain ⟨a, ns, i, rfl, _⟩ := h
    rfl
  obtain ⟨a, ns, i, rfl, ha, hl, i0, i1, q⟩ := h
  refine ⟨_, (pss_cons (ps_set (i := 3) sc_fan.nd rfl (.inl rfl) (pe_lst pa_nil))
      (pss_cons (ps_set (i := 4) sc_fan.nd rfl (.inl rfl) pe_int)
      (pss_cons (ps_mk (ps_for PassesOwn.never rfl (pi_range1 (by rfl) T.range (pa_cons (pe_op op_add pe_int (C8.pe_c c_number hr (by omega) (by rfl) (pa_cons (pv 0) (pa_cons (pv 1) (pa_cons pe_int (pa_cons pe_int pa_nil)))))) pa_nil)) (pg_name (i := 5) sc_fan.nd rfl (.inl rfl))
      (pss_cons (ps_set (i := 6) sc_fan.nd rfl (.inl rfl) (pe_op op_add pe_int (C8.pe_c c_number hr (by omega) (by rfl) (pa_cons (pv 0) (pa_cons (pv 1) (pa_cons (pv 5) (pa_cons pe_int pa_nil)))))))
      (pss_one (ps_mk (ps_if (pt_cmpR op_le (pe_op op_mul (pv 4) (pv 6)) (pv 2) (nomark _))
      (pss_cons (ps_expr (pe_bm PySem.F.plainAttrs_list PySem.F.slot_list_append PySem.F.type_list_append mt_append (pv 3) (pa_cons (pv 6) pa_nil)))
      (pss_one (ps_set (i := 4) sc_fan.nd rfl (.inl rfl) (pe_op op_mul (pv 4) (pv 6)))))
      pss_nil))))))
      (pss_one (ps_ret (pv 3)))))), ?_⟩
  walk_at "go"
  refine ⟨sz, fun L nL => ?_⟩
  have s1 := same_upd (o := HO.lst []) nL
  have gL := upd_same (H := H) (a := L) (o := HO.lst [])
  have ha1 := s1.seq ha
  generalize upd H L (HO.lst []) = H1 at *
  walk_at "go"
  refine jnS (M := fun σ H' => Same H H' ∧ ∃ (ws : List Int) (y4 y5 y6 : Option V), Small ws ∧ prodI ws ≤ 4096 ∧ H' L = some (.lst (ws.map V.int)) ∧ σ = [sR a, sI i, sI 4096, sR L, y4, y5, y6]) ?_ (fun N kk => ?_)
  · rintro σ H2 ⟨s2, ws, y4, y5, y6, sm, pl, g2, rfl⟩
    walk_at "go"
    exact q L ws _ s2 nL sm pl g2
  have n0 : 0 ≤ num ns i 6 4 := num_nn (by decide)
  have n1 : num ns i 6 4 < 4 := num_lt (by decide)
  walk_at "go"
  refine ⟨by omega, by omega, for_range (lo := 0) (n := (1 + num ns i 6 4).toNat) (fun j σ H' => Ob (Same H H' ∧ ∃ (ws : List Int) (y5 y6 : Option V), ws.length ≤ j ∧ (0 < j → ws ≠ []) ∧ (∀ x ∈ ws, 2 ≤ x ∧ x ≤ 8) ∧ prodI ws ≤ 4096 ∧ H' L = some (.lst (ws.map V.int)) ∧ σ = [sR a, sI i, sI 4096, sR L, sI (prodI ws), y5, y6])) (ob ⟨s1, [], none, none, Nat.le_refl _, fun z => absurd z (Nat.lt_irrefl _), fun x hx => (by cases hx), (by decide), gL, rfl⟩) ?_ ?_⟩
  · intro j σ H2 hj h
    obtain ⟨s2, ws, y5, y6, lj, ne, sm, pl, g2, rfl⟩ := unob h
    clear h kk ha1 gL s1
    have ha2 := s2.seq ha
    have hj4 : j < 4 := by omega
    have w0 : 0 ≤ num ns i (0 + (j : Int)) 7 := num_nn (by decide)
    have w1 : num ns i (0 + (j : Int)) 7 < 7 := num_lt (by decide)
    have pp := prod_pos sm
    walk_at "go"
    generalize num ns i (0 + (j : Int)) 7 = u at *
    refine un ?_
    walk_at "go"
    refine ifD (fun c => ?_) (fun c => ?_)
    · have c' : prodI ws * (2 + u) ≤ 4096 := c
      walk_at "go"
      refine ⟨L, _, _, rfl, rfl, g2, sz5 (by rw [List.length_map]; omega), ?_⟩
      walk_at "go"
      refine ob ⟨same_put s2 nL, ws ++ [2 + u], sI (0 + (j : Int)), sI (2 + u), by rw [List.length_append]; exact Nat.add_le_add_right lj 1, fun _ => by simp, fun x hx => ?_, ?_, ?_, ?_⟩
      · rcases List.mem_append.mp hx with hx | hx
        · exact sm x hx
        · obtain rfl := List.mem_singleton.mp hx
          omega
      · rw [prod_snoc]
        exact c'
      · rw [upd_same, List.map_append]
        rfl
      · rw [prod_snoc]
        rfl
    · walk_at "go"
      refine ob ⟨s2, ws, _, _, Nat.le_succ_of_le lj, fun _ => ?_, sm, pl, g2, rfl⟩
      intro e
      rw [e] at c
      exact c (by show 1 * (2 + u) ≤ 4096; omega)
  · intro σ H2 h
    obtain ⟨s2, ws, y5, y6, lj, ne, sm, pl, g2, rfl⟩ := unob h
    exact kk _ _ ⟨s2, ws, _, _, _, ⟨ne (by omega), by omega, sm⟩, pl, g2, rfl⟩
end

end

section

-- a condition of an operator
local macro_rules | `(tactic| walk_at "cond") => `(tactic| first
  | (show (0 : Int) < _; omega)
  | (show CDiv _ _; constructor <;> (first | decide | omega))
  | (show CMul _ _; first | (refine cmul_l ?_; constructor <;> (first | decide | omega)) | (refine cmul_r ?_; constructor <;> (first | decide | omega)))
  | (show CPow _ _; exact (by refine ⟨by decide, by decide, by decide⟩))
  | (show CDivW _ _; exact ⟨by decide, by decide +kernel⟩))
local macro_rules | `(tactic| walk_at "sq") => `(tactic| first | assumption | exact Dh.mono (same_upd (by assumption)) _ _ (by assumption) | exact .inl (.inl (.inl (by assumption))) | exact .inr (.inl (.inl (by assumption))) | exact SqL.of (by assumption) | exact .inl (by assumption) | exact .inl (SqL.of (by assumption)) | exact SqT.of (by assumption) | exact .inr (SqT.of (by assumption)))
local macro_rules | `(tactic| walk_at "st") => `(tactic| first
  | refine ⟨_, rfl, ?_⟩
  | refine ⟨_, _, rfl, rfl, ?_⟩
  | refine .inl ⟨_, rfl, ?_⟩
  | refine ⟨rfl, ?_⟩
  | refine ⟨_, _, rfl, by walk_at "sq", ?_⟩
  | refine ⟨.inl ⟨rfl, _, SqL.of (by assumption)⟩, ?_⟩
  | refine ⟨by walk_at "cond", ?_⟩
  | (refine' ifBT ?hh ?_; (case hh => first | rfl | assumption))
  | (refine' ifBF ?hh ?_; (case hh => first | rfl | assumption)))
local macro_rules | `(tactic| walk_at "go") => `(tactic| repeat walk_at "st")
local macro_rules | `(tactic| walk_at "yes") => `(tactic| (refine' ifT ?hh ?_; (case hh => first | rfl | decide +kernel)))
local macro_rules | `(tactic| walk_at "no") => `(tactic| (refine' ifF ?hh ?_; (case hh => first | decide +kernel | (intro z; cases z; done))))

local macro_rules | `(tactic| walk_at "st") => `(tactic| refine ⟨_, _, _, _, _, rfl, by assumption, by assumption, by omega, by omega, by omega, by omega, by omega, ?_⟩)
local macro_rules | `(tactic| walk_at "st") => `(tactic| refine ⟨_, _, _, _, _, rfl, Same.seq (by assumption) (by assumption), by assumption, by omega, by omega, by omega, by omega, by omega, ?_⟩)

/-! ### _law_page -/
abbrev s_page : Stmt := topS 22
theorem sc_page : FnScope ["_law_script", "_law_at", "_law_total", "_law_number_here"] ["_law_script", "_law_at", "_law_total"] (C8.fnScope s_page) := C8.fnScope_by (by decide +kernel)
def spPage (K : PySem.W.Frag) : Sp := fun vs H Q _ => ∃ (a : Addr) (ns : List Int) (i t : Int), vs = [.ref a, .int i, .int t] ∧ SqL K H a (ns.map V.int) ∧ ns.length ≤ 63 ∧ 0 ≤ i ∧ i ≤ 1000000 ∧ 1 ≤ t ∧ t ≤ 1000000 ∧
  ∀ v H', Same H H' → -10000000 ≤ v → v ≤ 10000000 → Q (.int v) H'
section
variable {P : Program} {w : World} {K : PySem.W.Frag} {mg : Str → Option Value} {base : Heap}
theorem ok_page {f : Addr} {fd : FuncData} (D : Def K mg "_law_page" s_page f fd) (b : Binds K fd ["_law_script", "_law_at", "_law_total"] []) (T : Txt mg) (c_number : Cal P w K mg base 1 "_law_number" (spNum K) []) : Cal P w K mg base 2 "_law_page" (spPage K) [] := by
  refine cal0 D b .nil sc_page (fun vs H Q E h => ?_) (fun cdv A outer s H vs Q E hr h => ?_)
  · obtain ⟨a, ns, i, t, rfl, _⟩ := h
    rfl
  obtain ⟨a, ns, i, t, rfl, ha, hl, i0, i1, t0, t1, q⟩ := h
  refine ⟨_, (pss_cons (ps_set (i := 3) sc_page.nd rfl (.inl rfl) (pe_op op_mod (pe_callTy call_int1 (by rfl) T.int (by decide +kernel) (pa_cons (pe_op op_add (C8.pe_c c_number hr (by omega) (by rfl) (pa_cons (pv 0) (pa_cons (pv 1) (pa_cons pe_int (pa_cons pe_int pa_nil))))) (pe_op op_mul pe_int (C8.pe_c c_number hr (by omega) (by rfl) (pa_cons (pv 0) (pa_cons (pv 1) (pa_cons pe_int (pa_cons pe_int pa_nil))))))) pa_nil)) (pv 2)))
      (pss_cons (ps_mk (ps_if (pt_cmpR op_eq (C8.pe_c c_number hr (by omega) (by rfl) (pa_cons (pv 0) (pa_cons (pv 1) (pa_cons pe_int (pa_cons pe_int pa_nil))))) pe_int (nomark _))
      (pss_one (ps_set (i := 3) sc_page.nd rfl (.inl rfl) (pe_ix (ixL K rfl) (pe_lst (pa_cons (pe_un un_neg pe_int) (pa_cons (pv 2) (pa_cons (pe_op op_add (pv 2) pe_int) (pa_cons (pe_op op_sub pe_int (pv 2)) pa_nil))))) (C8.pe_c c_number hr (by omega) (by rfl) (pa_cons (pv 0) (pa_cons (pv 1) (pa_cons pe_int (pa_cons pe_int pa_nil))))) (fun _ _ => rfl))))
      pss_nil))
      (pss_one (ps_ret (pv 3))))), ?_⟩
  have w0 : 0 ≤ num ns i 12 5 := num_nn (by decide)
  have w1 : num ns i 12 5 < 5 := num_lt (by decide)
  have v0 : 0 ≤ num ns i 11 1000 := num_nn (by decide)
  have v1 : num ns i 11 1000 < 1000 := num_lt (by decide)
  have tp : 0 < t := by omega
  walk_at "go"
  refine jnS (M := fun σ H' => Same H H' ∧ ∃ v, -10000000 ≤ v ∧ v ≤ 10000000 ∧ σ = [sR a, sI i, sI t, sI v]) ?_ (fun N kk => ?_)
  · rintro σ H2 ⟨s2, v, b0, b1, rfl⟩
    walk_at "go"
    exact q v _ s2 b0 b1
  have m0 := Int.emod_nonneg (num ns i 11 1000 + 1000 * num ns i 12 5) (show t ≠ 0 by omega)
  have m1 := Int.emod_lt_of_pos (num ns i 11 1000 + 1000 * num ns i 12 5) tp
  walk_at "go"
  refine ifEq (fun c => ?_) (fun c => ?_)
  · walk_at "go"
    refine ⟨sz, fun p np => ?_⟩
    have s2 := same_upd (o := HO.lst [V.int (-1), V.int t, V.int (t + 7), V.int (0 - t)]) np
    have gp := upd_same (H := H) (a := p) (o := HO.lst [V.int (-1), V.int t, V.int (t + 7), V.int (0 - t)])
    have ha2 := s2.seq ha
    obtain ⟨z, hz, z0, z1⟩ : ∃ z, atI [V.int (-1), V.int t, V.int (t + 7), V.int (0 - t)] (num ns i 13 4) = some (.int z) ∧ -10000000 ≤ z ∧ z ≤ 10000000 := by
      have u0 : 0 ≤ num ns i 13 4 := num_nn (by decide)
      have u1 : num ns i 13 4 < 4 := num_lt (by decide)
      have h : num ns i 13 4 = 0 ∨ num ns i 13 4 = 1 ∨ num ns i 13 4 = 2 ∨ num ns i 13 4 = 3 := by omega
      rcases h with e | e | e | e
      · exact ⟨_, by rw [e]; rfl, by omega, by omega⟩
      · exact ⟨_, by rw [e]; rfl, by omega, by omega⟩
      · exact ⟨_, by rw [e]; rfl, by omega, by omega⟩
      · exact ⟨_, by rw [e]; rfl, by omega, by omega⟩
    generalize upd H p (HO.lst [V.int (-1), V.int t, V.int (t + 7), V.int (0 - t)]) = H2 at *
    walk_at "go"
    refine ⟨_, _, _, _, rfl, rfl, SqL.of gp, hz, ?_⟩
    walk_at "go"
    exact kk _ _ ⟨s2, z, z0, z1, rfl⟩
  · walk_at "go"
    exact kk _ _ ⟨same_rfl, _, by omega, by omega, rfl⟩
end

end

section

-- a condition of an operator
local macro_rules | `(tactic| walk_at "cond") => `(tactic| first
  | (show (0 : Int) < _; omega)
  | (show CDiv _ _; constructor <;> (first | decide | omega))
  | (show CMul _ _; first | (refine cmul_l ?_; constructor <;> (first | decide | omega)) | (refine cmul_r ?_; constructor <;> (first | decide | omega)))
  | (show CPow _ _; exact (by refine ⟨by decide, by decide, by decide⟩))
  | (show CDivW _ _; exact ⟨by decide, by decide +kernel⟩))
local macro_rules | `(tactic| walk_at "sq") => `(tactic| first | assumption | exact Dh.mono (same_upd (by assumption)) _ _ (by assumption) | exact .inl (.inl (.inl (by assumption))) | exact .inr (.inl (.inl (by assumption))) | exact SqL.of (by assumption) | exact .inl (by assumption) | exact .inl (SqL.of (by assumption)) | exact SqT.of (by assumption) | exact .inr (SqT.of (by assumption)))
local macro_rules | `(tactic| walk_at "st") => `(tactic| first
  | refine ⟨_, rfl, ?_⟩
  | refine ⟨_, _, rfl, rfl, ?_⟩
  | refine .inl ⟨_, rfl, ?_⟩
  | refine ⟨rfl, ?_⟩
  | refine ⟨_, _, rfl, by walk_at "sq", ?_⟩
  | refine ⟨.inl ⟨rfl, _, SqL.of (by assumption)⟩, ?_⟩
  | refine ⟨by walk_at "cond", ?_⟩
  | (refine' ifBT ?hh ?_; (case hh => first | rfl | assumption))
  | (refine' ifBF ?hh ?_; (case hh => first | rfl | assumption)))
local macro_rules | `(tactic| walk_at "go") => `(tactic| repeat walk_at "st")
local macro_rules | `(tactic| walk_at "yes") => `(tactic| (refine' ifT ?hh ?_; (case hh => first | rfl | decide +kernel)))
local macro_rules | `(tactic| walk_at "no") => `(tactic| (refine' ifF ?hh ?_; (case hh => first | decide +kernel | (intro z; cases z; done))))

/-! ### _law_is_whole, _law_same -/
abbrev s_is_whole : Stmt := topS 18
theorem sc_is_whole : FnScope ["_law_told"] ["_law_told"] (C8.fnScope s_is_whole) := C8.fnScope_by (by decide +kernel)
abbrev s_same : Stmt := topS 19
theorem sc_same : FnScope ["_law_told", "_law_due", "_law_k"] ["_law_told", "_law_due"] (C8.fnScope s_same) := C8.fnScope_by (by decide +kernel)
def spWhole : Sp := fun vs H Q _ => ∃ (x : V) (d : PyData), vs = [x] ∧ Dh H d x ∧ Q (.bl (isI d)) H
def spSame (n : Nat) : Sp := fun vs H Q _ => ∃ (x y : V) (d e : PyData), vs = [x, y] ∧ Dh H d x ∧ Dh H e y ∧ Dle n e ∧ ∀ (b : Bool) (H' : Hp), (b = true ↔ d = e) → Same H H' → Q (.bl b) H'
section
variable {P : Program} {w : World} {K : PySem.W.Frag} {mg : Str → Option Value} {base : Heap}
theorem ok_whole {f : Addr} {fd : FuncData} (D : Def K mg "_law_is_whole" s_is_whole f fd) (b : Binds K fd ["_law_told"] []) (T : Txt mg) : Cal P w K mg base 1 "_law_is_whole" spWhole [] := by
  refine cal0 D b .nil sc_is_whole (fun vs H Q E h => ?_) (fun cdv A outer s H vs Q E hr h => ?_)
  · obtain ⟨x, d, rfl, _⟩ := h
    rfl
  obtain ⟨x, d, rfl, hx, q⟩ := h
  refine ⟨_, (pss_one (ps_ret (pe_and (pe_callB is_int (by rfl) T.isinstance (by decide +kernel) (pa_cons (pv 0) (pa_cons (pe_bltn (v := .ty "int") (by rfl) T.int (by decide +kernel) rfl) pa_nil))) (pe_one (pe_not (pe_callB is_bool (by rfl) T.isinstance (by decide +kernel) (pa_cons (pv 0) (pa_cons (pe_bltn (v := .ty "bool") (by rfl) T.bool (by decide +kernel) rfl) pa_nil)))))))), ?_⟩
  cases d <;> (walk_at "go"; exact q)
theorem ok_same_step {f : Addr} {fd : FuncData} (D : Def K mg "_law_same" s_same f fd) (b : Binds K fd ["_law_told", "_law_due"] []) (T : Txt mg) (c_is_whole : Cal P w K mg base 1 "_law_is_whole" spWhole []) {n : Nat}
    (c_same : Cal P w K mg base (n + 1) "_law_same" (spSame n) []) : Cal P w K mg base (n + 2) "_law_same" (spSame (n + 1)) [] := by
  refine cal0 D b .nil sc_same (fun vs H Q E h => ?_) (fun cdv A outer s H vs Q E hr h => ?_)
  · obtain ⟨x, y, d, e, rfl, _⟩ := h
    rfl
  obtain ⟨x, y, d, e, rfl, hx, hy, he, q⟩ := h
  refine ⟨_, (pss_cons (ps_mk (ps_if (pt_val (pe_callB is_lt (by rfl) T.isinstance (by decide +kernel) (pa_cons (pv 1) (pa_cons (pe_tup (pa_cons (pe_bltn (v := .ty "list") (by rfl) T.list (by decide +kernel) rfl) (pa_cons (pe_bltn (v := .ty "tuple") (by rfl) T.tuple (by decide +kernel) rfl) pa_nil))) pa_nil))))
      (pss_cons (ps_mk (ps_if (PW.pt (pw_or (pt_not (pt_val (pe_callB is_lt (by rfl) T.isinstance (by decide +kernel) (pa_cons (pv 0) (pa_cons (pe_tup (pa_cons (pe_bltn (v := .ty "list") (by rfl) T.list (by decide +kernel) rfl) (pa_cons (pe_bltn (v := .ty "tuple") (by rfl) T.tuple (by decide +kernel) rfl) pa_nil))) pa_nil))))) (pw_or1 (pt_cmpR op_ne (pe_callB is_list (by rfl) T.isinstance (by decide +kernel) (pa_cons (pv 0) (pa_cons (pe_bltn (v := .ty "list") (by rfl) T.list (by decide +kernel) rfl) pa_nil))) (pe_callB is_list (by rfl) T.isinstance (by decide +kernel) (pa_cons (pv 1) (pa_cons (pe_bltn (v := .ty "list") (by rfl) T.list (by decide +kernel) rfl) pa_nil))) (nomark _)))))
      (pss_one (ps_ret pe_bl))
      pss_nil))
      (pss_cons (ps_mk (ps_if (pt_cmpR op_ne (pe_callB (lenQ K rfl) (by rfl) T.len PySem.boot_len (pa_cons (pv 0) pa_nil)) (pe_callB (lenQ K rfl) (by rfl) T.len PySem.boot_len (pa_cons (pv 1) pa_nil)) (nomark _))
      (pss_one (ps_ret pe_bl))
      pss_nil))
      (pss_one (ps_ret (pe_cmpR op_eq (pe_callB (lenQ K rfl) (by rfl) T.len PySem.boot_len (pa_cons (pe_lc (own := [("_law_k", 2)]) (g := gName 2) rfl sc_same.nd (pi_range1 (by rfl) T.range (pa_cons (pe_callB (lenQ K rfl) (by rfl) T.len PySem.boot_len (pa_cons (pv 1) pa_nil)) pa_nil)) (blkOk_by (own := [("_law_k", 2)]) (N := ["_law_told", "_law_due", "_law_k"]) (sc := C8.fnScope s_same) (by decide +kernel)) (fun _ _ _ _ _ => (pg_name (i := 2) sc_same.nd rfl (.inl rfl))) (fun _ _ _ _ _ => (pts_one (pt_not (pt_val (C8.pe_c c_same hr (by omega) (by rfl) (pa_cons (pe_ix (ixA K rfl) (pv 0) (pv 2) (fun _ _ => rfl)) (pa_cons (pe_ix (ixA K rfl) (pv 1) (pv 2) (fun _ _ => rfl)) pa_nil))))))) (fun _ _ _ _ _ => (pv 2))) pa_nil)) pe_int (nomark _))))))
      pss_nil))
      (pss_cons (ps_mk (ps_if (pt_val (pe_callB is_bool (by rfl) T.isinstance (by decide +kernel) (pa_cons (pv 1) (pa_cons (pe_bltn (v := .ty "bool") (by rfl) T.bool (by decide +kernel) rfl) pa_nil))))
      (pss_one (ps_ret (pe_and (pe_callB is_bool (by rfl) T.isinstance (by decide +kernel) (pa_cons (pv 0) (pa_cons (pe_bltn (v := .ty "bool") (by rfl) T.bool (by decide +kernel) rfl) pa_nil))) (pe_one (pe_cmpR op_eq (pv 0) (pv 1) (nomark _))))))
      pss_nil))
      (pss_cons (ps_mk (ps_if (pt_val (pe_callB is_int (by rfl) T.isinstance (by decide +kernel) (pa_cons (pv 1) (pa_cons (pe_bltn (v := .ty "int") (by rfl) T.int (by decide +kernel) rfl) pa_nil))))
      (pss_one (ps_ret (pe_and (C8.pe_c c_is_whole hr (by omega) (by rfl) (pa_cons (pv 0) pa_nil)) (pe_one (pe_cmpR op_eq (pv 0) (pv 1) (nomark _))))))
      pss_nil))
      (pss_cons (ps_mk (ps_if (pt_val (pe_callB is_str (by rfl) T.isinstance (by decide +kernel) (pa_cons (pv 1) (pa_cons (pe_bltn (v := .ty "str") (by rfl) T.str (by decide +kernel) rfl) pa_nil))))
      (pss_one (ps_ret (pe_and (pe_callB is_str (by rfl) T.isinstance (by decide +kernel) (pa_cons (pv 0) (pa_cons (pe_bltn (v := .ty "str") (by rfl) T.str (by decide +kernel) rfl) pa_nil))) (pe_one (pe_cmpR op_eq (pv 0) (pv 1) (nomark _))))))
      pss_nil))
      (pss_one (ps_ret (pe_and (pe_cmpR op_isN (pv 0) pe_non (nomark _)) (pe_one (pe_cmpR op_isN (pv 1) pe_non (nomark _)))))))))), ?_⟩
  refine jn (M := fun σ H' => Same H H' ∧ σ = [some x, some y, none] ∧ (isL e || isT e) = false) ?_ (fun N kk => ?_)
  · rintro σ H1 ⟨s1, rfl, hf⟩
    have hx1 := Dh.mono s1 _ _ hx
    have hy1 := Dh.mono s1 _ _ hy
    clear hx hy he
    cases e with
    | list es => cases hf
    | tuple es => cases hf
    | dict kvs => exact False.elim hy1
    | none =>
      cases (show y = V.non from hy1)
      cases d
      case dict => exact False.elim hx1
      all_goals first | (obtain ⟨_, _, e1, _, _⟩ := id hx1; cases e1) | (cases (show x = _ from hx1))
      all_goals repeat (first | refine un ?_ | walk_at "st")
      all_goals exact q _ _ (by simp) s1
    | bool c =>
      cases (show y = V.bl c from hy1)
      cases d
      case dict => exact False.elim hx1
      all_goals first | (obtain ⟨_, _, e1, _, _⟩ := id hx1; cases e1) | (cases (show x = _ from hx1))
      all_goals repeat (first | refine un ?_ | walk_at "st")
      all_goals exact q _ _ (by simp) s1
    | int c =>
      cases (show y = V.int c from hy1)
      cases d
      case dict => exact False.elim hx1
      all_goals first | (obtain ⟨_, _, e1, _, _⟩ := id hx1; cases e1) | (cases (show x = _ from hx1))
      all_goals repeat (first | refine un ?_ | walk_at "st")
      all_goals first | exact q _ _ (by simp) s1 | skip
      all_goals refine ⟨_, _, rfl, hx1, ?_⟩
      all_goals repeat (first | refine un ?_ | walk_at "st")
      all_goals exact q _ _ (by simp) s1
    | str c =>
      cases (show y = V.str c from hy1)
      cases d
      case dict => exact False.elim hx1
      all_goals first | (obtain ⟨_, _, e1, _, _⟩ := id hx1; cases e1) | (cases (show x = _ from hx1))
      all_goals repeat (first | refine un ?_ | walk_at "st")
      all_goals exact q _ _ (by simp) s1
  · walk_at "go"
    refine ⟨sz, fun p hp => ?_⟩
    refine ⟨_, _, _, rfl, upd_same, Dh.mono (same_upd hp) _ _ hy, ?_⟩
    walk_at "go"
    have s1 : Same H (upd H p (.tup [.ty "list", .ty "tuple"])) := same_upd hp
    have hx1 := Dh.mono s1 _ _ hx
    have hy1 := Dh.mono s1 _ _ hy
    cases hf : (isL e || isT e) with
    | false =>
      refine ifBF rfl ?_
      exact kk _ _ ⟨s1, rfl, hf⟩
    | true =>
      refine ifBT rfl ?_
      generalize upd H p (HO.tup [V.ty "list", V.ty "tuple"]) = H1 at *
      clear hx hy kk hp
      walk_at "go"
      refine jn (M := fun σ H2 => Same H1 H2 ∧ ∃ a c xs ys ds es, σ = [sR a, sR c, none] ∧ (SqL K H2 a xs ∨ SqT K H2 a xs) ∧ (SqL K H2 c ys ∨ SqT K H2 c ys) ∧ DhAll H2 ds xs ∧ DhAll H2 es ys ∧ es.length ≤ 100000 ∧ (∀ e' ∈ es, Dle n e') ∧ (d = e ↔ ds = es)) ?_ (fun N2 k2 => ?_)
      · rintro σ H2 ⟨s2, a, c, xs, ys, ds, es, rfl, hA, hC, hds, hes, hlen, hle, hiff⟩
        have lx := hds.len
        have ly := hes.len
        walk_at "go"
        refine jn (M := fun σ H3 => H3 = H2 ∧ σ = [sR a, sR c, none] ∧ ds.length = es.length) ?_ (fun N3 k3 => ?_)
        · rintro σ H3 ⟨rfl, rfl, el⟩
          walk_at "go"
          refine ⟨by omega, by omega, fun L hL => lc_range (lo := 0) (n := ((ys.length : Nat) : Int).toNat)
            (fun i H' => Ob (Same H3 H' ∧ ∃ acc, H' L = some (.lst acc) ∧ acc.length ≤ i ∧ (acc = [] ↔ ds.take i = es.take i))) (ob ⟨same_upd hL, [], upd_same, Nat.le_refl _, by simp⟩) ?_ ?_⟩
          · intro i H4 hi h4
            obtain ⟨s4, acc, g4, l4, e4⟩ := unob h4
            have hi2 : i < es.length := by omega
            have hi3 : i < ds.length := by omega
            obtain ⟨xv, ex, dx⟩ := hds.get (List.getElem?_eq_getElem hi3)
            obtain ⟨yv, ey, dy⟩ := hes.get (List.getElem?_eq_getElem hi2)
            have tk := take_succ_eq (List.getElem?_eq_getElem hi3) (List.getElem?_eq_getElem hi2)
            have ax : atI xs (0 + (i : Int)) = some xv := by
              rw [Int.zero_add]
              exact atI_nat ex
            have ay : atI ys (0 + (i : Int)) = some yv := by
              rw [Int.zero_add]
              exact atI_nat ey
            refine ⟨rfl, ?_⟩
            walk_at "go"
            refine ixAny (sqAny s4 hA) ax ?_
            walk_at "go"
            refine ixAny (sqAny s4 hC) ay ?_
            walk_at "go"
            refine ⟨_, _, _, _, rfl, Dh.mono s4 _ _ dx, Dh.mono s4 _ _ dy, hle _ (List.getElem_mem hi2), fun b5 H5 hb s5 => ?_⟩
            walk_at "go"
            refine ifN ?_
            cases b5 with
            | true =>
              refine ifBT rfl (ob ⟨s4.trans s5, acc, s5 _ _ g4, Nat.le_succ_of_le l4, ?_⟩)
              rw [e4, tk]
              exact ⟨fun z => ⟨z, hb.mp rfl⟩, fun z => z.1⟩
            | false =>
              refine ifBF rfl ?_
              walk_at "go"
              refine ⟨acc, s5 _ _ g4, sz5 (by omega), ob ⟨same_put (s4.trans s5) hL, _, upd_same, ?_, ?_⟩⟩
              · rw [List.length_append]
                exact Nat.add_le_add_right l4 1
              · constructor
                · intro z
                  exact absurd (congrArg List.length z) (by rw [List.length_append]; simp)
                · intro z
                  exact absurd (hb.mpr (tk.mp z).2) Bool.false_ne_true
          · intro H4 h4
            obtain ⟨s4, acc, g4, l4, e4⟩ := unob h4
            walk_at "go"
            refine q _ _ ?_ ((s1.trans s2).trans s4)
            rw [hiff]
            have et : ((ys.length : Nat) : Int).toNat = es.length := by omega
            rw [et, List.take_of_length_le (by omega), List.take_of_length_le (Nat.le_refl _)] at e4
            rw [← e4, decide_eq_true_iff]
            constructor
            · intro z
              have z2 := V.int.inj z
              exact List.eq_nil_of_length_eq_zero (by omega)
            · intro z
              rw [z]
              rfl
        · walk_at "go"
          refine ifNe (fun z => ?_) (fun z => ?_)
          · walk_at "go"
            refine q _ _ ?_ (s1.trans s2)
            rw [hiff]
            constructor
            · intro h
              cases h
            · intro h
              rw [h] at lx
              omega
          · walk_at "go"
            exact k3 _ _ ⟨rfl, rfl, by omega⟩
      · walk_at "go"
        refine ⟨sz, fun p2 hp2 => ?_⟩
        have s2 : Same H1 (upd H1 p2 (HO.tup [V.ty "list", V.ty "tuple"])) := same_upd hp2
        refine ⟨_, _, _, rfl, upd_same, Dh.mono s2 _ _ hx1, ?_⟩
        have hx2 := Dh.mono s2 _ _ hx1
        have hy2 := Dh.mono s2 _ _ hy1
        walk_at "go"
        generalize upd H1 p2 (HO.tup [V.ty "list", V.ty "tuple"]) = H2 at *
        clear hp2
        cases e with
        | none => cases hf
        | bool _ => cases hf
        | int _ => cases hf
        | str _ => cases hf
        | dict kvs => cases hf
        | list es =>
          obtain ⟨c, ys, rfl, gy, hes⟩ := id hy2
          cases d
          case dict => exact False.elim hx2
          case list ds =>
            obtain ⟨a, xs, rfl, gx, hds⟩ := id hx2
            walk_at "go"
            exact k2 _ _ ⟨s2, _, _, _, _, ds, es, rfl, .inl (.inl (.inl gx)), .inl (.inl (.inl gy)), hds, hes, he.1, he.2, by simp⟩
          all_goals walk_at "go"
          all_goals exact q _ _ (by simp) (s1.trans s2)
        | tuple es =>
          obtain ⟨c, ys, rfl, gy, hes⟩ := id hy2
          cases d
          case dict => exact False.elim hx2
          case tuple ds =>
            obtain ⟨a, xs, rfl, gx, hds⟩ := id hx2
            walk_at "go"
            exact k2 _ _ ⟨s2, _, _, _, _, ds, es, rfl, .inr (.inl (.inl gx)), .inr (.inl (.inl gy)), hds, hes, he.1, he.2, by simp⟩
          all_goals walk_at "go"
          all_goals exact q _ _ (by simp) (s1.trans s2)
theorem ok_same {f : Addr} {fd : FuncData} (D : Def K mg "_law_same" s_same f fd) (b : Binds K fd ["_law_told", "_law_due"] []) (T : Txt mg) (c_is_whole : Cal P w K mg base 1 "_law_is_whole" spWhole []) :
    ∀ n, Cal P w K mg base (n + 1) "_law_same" (spSame n) []
  | 0 => by
    have no : ∀ vs H Q E, ¬ spSame 0 vs H Q E := fun vs H Q E h => by
      obtain ⟨x, y, d, e, _, _, _, h1, _⟩ := h
      exact h1
    exact ⟨f, fd, _, _, ⟨fun vs H Q E h => absurd h (no vs H Q E), fun A outer s H args us vs Q E _ _ _ _ h => absurd h (no vs H Q E)⟩, D.mgf, D.kp, b, .nil⟩
  | n + 1 => ok_same_step D b T c_is_whole (ok_same D b T c_is_whole n)
end

/-! ### _law_shape_good -/
abbrev s_shape_good : Stmt := topS 24
theorem sc_shape_good : FnScope ["_law_shape", "_law_fan_here", "_law_spans", "_law_told", "_law_k"] ["_law_shape", "_law_fan_here"] (C8.fnScope s_shape_good) := C8.fnScope_by (by decide +kernel)
theorem dh_ints {H : Hp} : ∀ (ns : List Int), DhAll H (ns.map PyData.int) (ns.map V.int)
  | [] => rfl
  | n :: ns => ⟨.int n, ns.map V.int, rfl, rfl, dh_ints ns⟩
def spShG (C : Addr) : Sp := fun vs H Q _ => ∃ (p wt st dx a : Addr) (ws : List Int), vs = [.ref p, .ref a] ∧ ShapeAt C H p wt st dx ws ∧ H a = some (.lst (ws.map V.int)) ∧ ∀ H', Same H H' → Q (.bl true) H'
def shD (ws : List Int) : PyData := .list [.tuple (ws.map PyData.int), .int ws.length, .int (prodI ws), .list ((spansOf ws).map PyData.int)]
theorem dle_shD {ws : List Int} (h : ws.length ≤ 6) : Dle 4 (shD ws) := by
  refine ⟨show (4 : Nat) ≤ 100000 by decide, fun e he => ?_⟩
  rcases List.mem_cons.mp he with rfl | he
  · refine ⟨by rw [List.length_map]; omega, fun e he => ?_⟩
    obtain ⟨x, _, rfl⟩ := List.mem_map.mp he
    trivial
  rcases List.mem_cons.mp he with rfl | he
  · trivial
  rcases List.mem_cons.mp he with rfl | he
  · trivial
  · obtain rfl := List.mem_singleton.mp he
    refine ⟨by rw [List.length_map, spans_len]; omega, fun e he => ?_⟩
    obtain ⟨x, _, rfl⟩ := List.mem_map.mp he
    trivial
section
variable {P : Program} {w : World} {K : PySem.W.Frag} {mg : Str → Option Value} {base : Heap} {C : Addr}
theorem ok_shape_good {f : Addr} {fd : FuncData} (D : Def K mg "_law_shape_good" s_shape_good f fd) (b : Binds K fd ["_law_shape", "_law_fan_here"] []) (T : Txt mg) (S : STxt K mg C) (c_fan_spans : Cal P w K mg base 1 "_law_fan_spans" (spFanSpans K) []) (m_span : C8.Met P w K mg base 1 C "span" (spSpan C) [])
    (c_same : Cal P w K mg base 5 "_law_same" (spSame 4) []) : Cal P w K mg base 6 "_law_shape_good" (spShG C) [] := by
  refine cal0 D b .nil sc_shape_good (fun vs H Q E h => ?_) (fun cdv A outer s H vs Q E hr h => ?_)
  · obtain ⟨p, wt, st, dx, a, ws, rfl, _⟩ := h
    rfl
  obtain ⟨p, wt, st, dx, a, ws, rfl, hs, ha, q⟩ := h
  refine ⟨_, (pss_cons (ps_set (i := 2) sc_shape_good.nd rfl (.inl rfl) (C8.pe_c c_fan_spans hr (by omega) (by rfl) (pa_cons (pv 1) pa_nil)))
      (pss_cons (ps_set (i := 3) sc_shape_good.nd rfl (.inl rfl) (pe_lst (pa_cons (pe_fld (pv 0) rfl) (pa_cons (pe_fld (pv 0) rfl) (pa_cons (pe_fld (pv 0) rfl) (pa_cons (pe_lc (own := [("_law_k", 4)]) (g := gName 4) (tt := tYes) rfl sc_shape_good.nd (pi_range1 (by rfl) T.range (pa_cons (pe_callB (lenQ K rfl) (by rfl) T.len PySem.boot_len (pa_cons (pv 1) pa_nil)) pa_nil)) (blkOk_by (own := [("_law_k", 4)]) (N := ["_law_shape", "_law_fan_here", "_law_spans", "_law_told", "_law_k"]) (sc := C8.fnScope s_shape_good) (by decide +kernel)) (fun _ _ _ _ _ => (pg_name (i := 4) sc_shape_good.nd rfl (.inl rfl))) (fun _ _ _ _ _ => pts_nil) (fun _ _ _ _ _ => (C8.pe_mt m_span hr (by omega) (pv 0) (pa_cons (pv 4) pa_nil)))) pa_nil))))))
      (pss_one (ps_ret (C8.pe_c c_same hr (by omega) (by rfl) (pa_cons (pv 3) (pa_cons (pe_lst (pa_cons (pe_callTy call_tuple_of (by rfl) T.tuple (by decide +kernel) (pa_cons (pv 1) pa_nil)) (pa_cons (pe_callB (lenQ K rfl) (by rfl) T.len PySem.boot_len (pa_cons (pv 1) pa_nil)) (pa_cons (pe_op op_mul (pe_ix (ixL K rfl) (pv 2) pe_int (fun _ _ => rfl)) (pe_ix (ixL K rfl) (pv 1) pe_int (fun _ _ => rfl))) (pa_cons (pv 2) pa_nil))))) pa_nil))))))), ?_⟩
  have sm := hs.sm
  have h6 := hs.sm.2.1
  walk_at "go"
  refine ⟨sm, fun sp H1 s1 nsp gsp => ?_⟩
  have hs1 := hs.same s1
  have ha1 := s1 _ _ ha
  have g1 := hs1.g
  walk_at "go"
  refine ⟨_, _, _, _, _, rfl, g1, S.cl, S.nW, shw, ?_⟩
  walk_at "go"
  refine ⟨_, _, _, _, _, rfl, g1, S.cl, S.nL, shl, ?_⟩
  walk_at "go"
  refine ⟨_, _, _, _, _, rfl, g1, S.cl, S.nP, shp, ?_⟩
  walk_at "go"
  rw [List.length_map]
  refine ⟨by omega, by omega, fun L nL => lc_range (lo := 0) (n := ws.length) (fun j H' => Ob (Same H1 H' ∧ H' L = some (.lst (((spansOf ws).take j).map V.int)))) (ob ⟨same_upd nL, upd_same⟩) ?_ ?_⟩
  · intro j H2 hj h
    obtain ⟨s2, g2⟩ := unob h
    have hs2 := hs1.same s2
    have gg := hs2.g
    refine ⟨rfl, ?_⟩
    rw [Int.zero_add]
    walk_at "go"
    refine ⟨p, dx, _, rfl, gg, sh_no (by decide +kernel) (by decide +kernel) (by decide +kernel) (by decide +kernel), ?_⟩
    walk_at "go"
    refine ⟨p, wt, st, dx, ws, j, rfl, hs2, hj, ?_⟩
    walk_at "go"
    refine ⟨_, g2, sz5 (by rw [List.length_map, List.length_take, spans_len]; omega), ob ⟨same_put s2 nL, ?_⟩⟩
    rw [upd_same, List.take_add_one, spans_get hj, List.map_append]
    rfl
  · intro H2 h
    obtain ⟨s2, g2⟩ := unob h
    rw [List.take_of_length_le (by rw [spans_len]; exact Nat.le_refl _)] at g2
    walk_at "go"
    refine ⟨sz, fun tl ntl => ?_⟩
    have s3 := same_upd (o := HO.lst [V.ref wt, V.int ws.length, V.int (prodI ws), V.ref L]) ntl
    have gtl := upd_same (H := H2) (a := tl) (o := HO.lst [V.ref wt, V.int ws.length, V.int (prodI ws), V.ref L])
    have s13 := s2.trans s3
    have gL := s3 _ _ g2
    generalize upd H2 tl (HO.lst [V.ref wt, V.int ws.length, V.int (prodI ws), V.ref L]) = H3 at *
    have ha3 := s13 _ _ ha1
    have gsp3 := s13 _ _ gsp
    have hs3 := hs1.same s13
    obtain ⟨w0, w1, rfl⟩ : ∃ w0 w1, ws = w0 :: w1 := by
      cases ws with
      | nil => exact absurd rfl sm.1
      | cons a b => exact ⟨a, b, rfl⟩
    have hw0 := sm.2.2 w0 List.mem_cons_self
    walk_at "go"
    refine ⟨a, _, rfl, .inl ⟨SqL.of ha3, fun tt ntt => ?_⟩⟩
    have s4 := same_upd (o := HO.tup ((w0 :: w1).map V.int)) ntt
    have gtt := upd_same (H := H3) (a := tt) (o := HO.tup ((w0 :: w1).map V.int))
    have ha4 := s4 _ _ ha3
    have gsp4 := s4 _ _ gsp3
    have hs4 := hs3.same s4
    have gtl4 := s4 _ _ gtl
    have gL4 := s4 _ _ gL
    have s14 := s13.trans s4
    generalize upd H3 tt (HO.tup ((w0 :: w1).map V.int)) = H4 at *
    walk_at "go"
    refine ⟨_, _, _, .int (prodI w1), rfl, rfl, SqL.of gsp4, atI_nat (j := 0) rfl, ?_⟩
    walk_at "go"
    refine ⟨_, _, _, .int w0, rfl, rfl, SqL.of ha4, atI_nat (j := 0) rfl, ?_⟩
    walk_at "go"
    refine ⟨sz, fun dl ndl => ?_⟩
    have e5 : prodI w1 * w0 = prodI (w0 :: w1) := Int.mul_comm _ _
    have ln : (((w0 :: w1).map V.int).length : Nat) = (w0 :: w1).length := List.length_map _
    refine ⟨.ref tl, .ref dl, shD (w0 :: w1), shD (w0 :: w1), rfl, ?_, ?_, dle_shD h6, fun bo H5 hb s5 => ?_⟩
    · have s6 := same_upd (o := HO.lst [V.ref tt, V.int (((w0 :: w1).map V.int).length : Nat), V.int (prodI w1 * w0), V.ref sp]) ndl
      exact ⟨tl, _, rfl, s6 _ _ gtl4, _, _, rfl, ⟨wt, _, rfl, s6 _ _ hs4.w, dh_ints _⟩, _, _, rfl, rfl, _, _, rfl, rfl, _, _, rfl, ⟨L, _, rfl, s6 _ _ gL4, dh_ints _⟩, rfl⟩
    · have s6 := same_upd (o := HO.lst [V.ref tt, V.int (((w0 :: w1).map V.int).length : Nat), V.int (prodI w1 * w0), V.ref sp]) ndl
      exact ⟨dl, _, rfl, upd_same, _, _, rfl, ⟨tt, _, rfl, s6 _ _ gtt, dh_ints _⟩, _, _, rfl, (by rw [ln]; rfl), _, _, rfl, (by rw [← e5]; rfl), _, _, rfl, ⟨sp, _, rfl, s6 _ _ gsp4, dh_ints _⟩, rfl⟩
    · obtain rfl : bo = true := hb.mpr rfl
      exact q _ (s1.trans (s14.trans ((same_upd ndl).trans s5)))
end

end

section

-- a condition of an operator
local macro_rules | `(tactic| walk_at "cond") => `(tactic| first
  | (show (0 : Int) < _; omega)
  | (show CDiv _ _; constructor <;> (first | decide | omega))
  | (show CMul _ _; first | (refine cmul_l ?_; constructor <;> (first | decide | omega)) | (refine cmul_r ?_; constructor <;> (first | decide | omega)))
  | (show CPow _ _; exact (by refine ⟨by decide, by decide, by decide⟩))
  | (show CDivW _ _; exact ⟨by decide, by decide +kernel⟩))
local macro_rules | `(tactic| walk_at "sq") => `(tactic| first | assumption | exact Dh.mono (same_upd (by assumption)) _ _ (by assumption) | exact .inl (.inl (.inl (by assumption))) | exact .inr (.inl (.inl (by assumption))) | exact SqL.of (by assumption) | exact .inl (by assumption) | exact .inl (SqL.of (by assumption)) | exact SqT.of (by assumption) | exact .inr (SqT.of (by assumption)))
local macro_rules | `(tactic| walk_at "st") => `(tactic| first
  | refine ⟨_, rfl, ?_⟩
  | refine ⟨_, _, rfl, rfl, ?_⟩
  | refine .inl ⟨_, rfl, ?_⟩
  | refine ⟨rfl, ?_⟩
  | refine ⟨_, _, rfl, by walk_at "sq", ?_⟩
  | refine ⟨.inl ⟨rfl, _, SqL.of (by assumption)⟩, ?_⟩
  | refine ⟨by walk_at "cond", ?_⟩
  | (refine' ifBT ?hh ?_; (case hh => first | rfl | assumption))
  | (refine' ifBF ?hh ?_; (case hh => first | rfl | assumption)))
local macro_rules | `(tactic| walk_at "go") => `(tactic| repeat walk_at "st")
local macro_rules | `(tactic| walk_at "yes") => `(tactic| (refine' ifT ?hh ?_; (case hh => first | rfl | decide +kernel)))
local macro_rules | `(tactic| walk_at "no") => `(tactic| (refine' ifF ?hh ?_; (case hh => first | decide +kernel | (intro z; cases z; done))))

/-! ### the law's catch -/
abbrev s_outside : Stmt := topS 23
theorem sc_outside : FnScope ["_law_shape", "_law_level", "_law_page_here", "e"] ["_law_shape", "_law_level", "_law_page_here"] (C8.fnScope s_outside) := C8.fnScope_by (by decide +kernel)
/-- what the top says of the errors -/
structure ETxt (K : PySem.W.Frag) (mg : Str → Option Value) (D AE PgE U DN BF LE ME FE CE : Addr) : Prop where
  mB : mg "BadRange" = some (.ref D)
  mA : mg "AccessError" = some (.ref AE)
  mP : mg "PagesError" = some (.ref PgE)
  mU : mg "Unmapped" = some (.ref U)
  mD : mg "Denied" = some (.ref DN)
  mBF : mg "BeyondFile" = some (.ref BF)
  mL : mg "LimitError" = some (.ref LE)
  mM : mg "MissingError" = some (.ref ME)
  mF : mg "FileError" = some (.ref FE)
  mC : mg "CodeError" = some (.ref CE)
  zV : mg "ValueError" = none
  zI : mg "isinstance" = none
  xc : ExcC K D
  xf : XfC K D
  nS : PySem.W.findIn K (.ref D) "start" = some none
  nE : PySem.W.findIn K (.ref D) "end" = some none
  ex : PySem.W.exmOne K (.ref D) (.ref AE) = some true
  iB : PySem.W.kitOne K (.ref D) (.ref D) = some true
  iP : PySem.W.kitOne K (.ref D) (.ref PgE) = some true
  iV : PySem.W.kitOne K (.ref D) (.type "ValueError") = some true
  iN : PySem.W.kitAny K (.ref D) [.ref U, .ref DN, .ref BF, .ref LE, .ref ME, .ref FE, .ref CE] = some false
theorem br_end {i j : Int} : (brF i j).lookup ("end" : Str) = some (.int j) := by
  unfold brF
  simp [List.lookup]
theorem br_start {i j : Int} : (brF i j).lookup ("start" : Str) = some (.int i) := by
  unfold brF
  have e : (("start" : Str) == ("end" : Str)) = false := by decide +kernel
  simp [List.lookup, e]
def spOut (C : Addr) : Sp := fun vs H Q _ => ∃ (p wt st dx : Addr) (ws : List Int) (lv i : Int), vs = [.ref p, .int lv, .int i] ∧ ShapeAt C H p wt st dx ws ∧ ¬ (0 ≤ i ∧ i < prodI ws) ∧ -(10 ^ 9) ≤ i ∧ i ≤ 10 ^ 9 ∧ lv < ws.length ∧
  ∀ r H', Same H H' → H' r = some (.tup [.int i, .int (i + 1)]) → Q (.ref r) H'
section
variable {P : Program} {w : World} {K : PySem.W.Frag} {mg : Str → Option Value} {base : Heap} {C D AE PgE U DN BF LE ME FE CE : Addr}
theorem ok_outside {f : Addr} {fd : FuncData} (Df : Def K mg "_law_outside" s_outside f fd) (b : Binds K fd ["_law_shape", "_law_level", "_law_page_here"] []) (T : Txt mg) (TE : ETxt K mg D AE PgE U DN BF LE ME FE CE)
    (e_path : MetE P w K mg base 4 C "path" (spPath C D)) (e_block : MetE P w K mg base 4 C "block_at" (spBlock C D)) : Cal P w K mg base 5 "_law_outside" (spOut C) [] := by
  refine cal0 Df b .nil sc_outside (fun vs H Q E h => ?_) (fun cdv A outer s H vs Q E hr h => ?_)
  · obtain ⟨p, wt, st, dx, ws, lv, i, rfl, _⟩ := h
    rfl
  obtain ⟨p, wt, st, dx, ws, lv, i, rfl, hs, out, i0, i1, hl, q⟩ := h
  have hp := hs.g
  refine ⟨_, (pss_cons (ps_mk (ps_try_m (i := 3) rfl rfl sc_outside.nd rfl rfl ⟨rfl, by decide, Or.inl TE.mA⟩ takes0 (fun W pn xe tk _ =>
      (pss_one (ps_mk (ps_if (pt_cmpR op_lt (pv 1) pe_int (nomark _))
      (pss_one (ps_expr (pe_mE e_path tk hr (by omega) (pv 0) (pa_cons (pv 2) pa_nil))))
      (pss_one (ps_expr (pe_mE e_block tk hr (by omega) (pv 0) (pa_cons (pv 1) (pa_cons (pv 2) pa_nil)))))))))
      (fun a oe cls d pn hz hf =>
      (pss_cons (ps_mk (ps_if (PW.pt (pw_or (pt_not (pt_val (pe_callB (call_isX K rfl TE.xc hz hf) (by rfl) T.isinstance (by decide +kernel) (pa_cons (pv 3) (pa_cons (pe_glob (v := V.ref D) (by rfl) TE.mB rfl) pa_nil))))) (pw_or (pt_not (pt_val (pe_callB (call_isX K rfl TE.xc hz hf) (by rfl) T.isinstance (by decide +kernel) (pa_cons (pv 3) (pa_cons (pe_glob (v := V.ref PgE) (by rfl) TE.mP rfl) pa_nil))))) (pw_or1 (pt_not (pt_val (pe_callB (call_isX K rfl TE.xc hz hf) (by rfl) T.isinstance (by decide +kernel) (pa_cons (pv 3) (pa_cons (pe_bltn (v := .ty "ValueError") (by rfl) TE.zV (by decide +kernel) rfl) pa_nil)))))))))
      (pss_one (ps_ret pe_non))
      pss_nil))
      (pss_cons (ps_mk (ps_if (pt_val (pe_callB (call_isXT K rfl TE.xc hz hf) (by rfl) T.isinstance (by decide +kernel) (pa_cons (pv 3) (pa_cons (pe_tup (pa_cons (pe_glob (v := V.ref U) (by rfl) TE.mU rfl) (pa_cons (pe_glob (v := V.ref DN) (by rfl) TE.mD rfl) (pa_cons (pe_glob (v := V.ref BF) (by rfl) TE.mBF rfl) (pa_cons (pe_glob (v := V.ref LE) (by rfl) TE.mL rfl) (pa_cons (pe_glob (v := V.ref ME) (by rfl) TE.mM rfl) (pa_cons (pe_glob (v := V.ref FE) (by rfl) TE.mF rfl) (pa_cons (pe_glob (v := V.ref CE) (by rfl) TE.mC rfl) pa_nil)))))))) pa_nil))))
      (pss_one (ps_ret pe_non))
      pss_nil))
      (pss_one (ps_ret (pe_tup (pa_cons (pe_xf TE.xf TE.nS hz hf (pv 3)) (pa_cons (pe_xf TE.xf TE.nE hz hf (pv 3)) pa_nil))))))))))
      (pss_one (ps_ret pe_non))), ?_⟩
  refine jnS (M := fun _ _ => False) (fun _ _ z => z.elim) (fun N kk => ?_)
  intro W hW
  have key : ∀ d, H d = none → W (.ref D) (some d) (start ["_law_shape", "_law_level", "_law_page_here", "e"] [V.ref p, V.int lv, V.int i]) (upd H d (.xd (brF i (i + 1)))) := fun d nd => hW _ _ _ _ (catch_yes TE.ex fun a na => by
    have s1 := same_upd (o := HO.xd (brF i (i + 1))) nd
    have gd := upd_same (H := H) (a := d) (o := HO.xd (brF i (i + 1)))
    clear hW
    generalize upd H d (HO.xd (brF i (i + 1))) = H1 at *
    refine jnS (M := fun σ H' => H' = H1 ∧ σ = [sR p, sI lv, sI i, sR a]) ?_ (fun N2 k2 => ?_)
    rotate_left
    · walk_at "go"
      refine ⟨d, _, _, true, _, rfl, rfl, .own D, gd, TE.iB, ?_⟩
      walk_at "go"
      refine ⟨d, _, _, true, _, rfl, rfl, .own PgE, gd, TE.iP, ?_⟩
      walk_at "go"
      refine ⟨d, _, _, true, _, rfl, rfl, .ty "ValueError", gd, TE.iV, ?_⟩
      walk_at "go"
      exact k2 _ _ ⟨rfl, rfl⟩
    rintro σ H2 ⟨rfl, rfl⟩
    refine jnS (M := fun σ H' => Same H2 H' ∧ σ = [sR p, sI lv, sI i, sR a]) ?_ (fun N2 k2 => ?_)
    rotate_left
    · walk_at "go"
      refine ⟨sz, fun tp ntp => ?_⟩
      have s2 := same_upd (o := HO.tup [V.ref U, V.ref DN, V.ref BF, V.ref LE, V.ref ME, V.ref FE, V.ref CE]) ntp
      walk_at "go"
      refine ⟨d, tp, _, _, false, _, rfl, rfl, upd_same, .cons (.own U) (.cons (.own DN) (.cons (.own BF) (.cons (.own LE) (.cons (.own ME) (.cons (.own FE) (.cons (.own CE) .nil)))))), s2 _ _ gd, TE.iN, ?_⟩
      walk_at "go"
      exact k2 _ _ ⟨s2, rfl⟩
    rintro σ H3 ⟨s3, rfl⟩
    have gd3 := s3 _ _ gd
    walk_at "go"
    refine ⟨d, _, .int i, rfl, gd3, br_start, ?_⟩
    walk_at "go"
    refine ⟨d, _, .int (i + 1), rfl, gd3, br_end, ?_⟩
    walk_at "go"
    refine ⟨sz, fun r nr => ?_⟩
    exact q r _ ((s1.trans s3).trans (same_upd nr)) upd_same)
  refine un ?_
  walk_at "go"
  refine ifD (fun c => ?_) (fun c => ?_)
  · walk_at "go"
    refine ⟨p, dx, _, rfl, hp, sh_no (by decide +kernel) (by decide +kernel) (by decide +kernel) (by decide +kernel), ?_⟩
    walk_at "go"
    exact ⟨p, wt, st, dx, ws, i, rfl, hs, i0, i1, fun z => absurd z out, fun _ d nd => key d nd⟩
  · walk_at "go"
    refine ⟨p, dx, _, rfl, hp, sh_no (by decide +kernel) (by decide +kernel) (by decide +kernel) (by decide +kernel), ?_⟩
    walk_at "go"
    exact ⟨p, wt, st, dx, ws, lv.toNat, i, by rw [Int.toNat_of_nonneg (by omega)], hs, by omega, i0, i1, fun z => absurd z out, fun _ d nd => key d nd⟩
end

end

section

-- a condition of an operator
local macro_rules | `(tactic| walk_at "cond") => `(tactic| first
  | (show (0 : Int) < _; omega)
  | (show CDiv _ _; constructor <;> (first | decide | omega))
  | (show CMul _ _; first | (refine cmul_l ?_; constructor <;> (first | decide | omega)) | (refine cmul_r ?_; constructor <;> (first | decide | omega)))
  | (show CPow _ _; exact (by refine ⟨by decide, by decide, by decide⟩))
  | (show CDivW _ _; exact ⟨by decide, by decide +kernel⟩))
local macro_rules | `(tactic| walk_at "sq") => `(tactic| first | assumption | exact Dh.mono (same_upd (by assumption)) _ _ (by assumption) | exact .inl (.inl (.inl (by assumption))) | exact .inr (.inl (.inl (by assumption))) | exact SqL.of (by assumption) | exact .inl (by assumption) | exact .inl (SqL.of (by assumption)) | exact SqT.of (by assumption) | exact .inr (SqT.of (by assumption)))
local macro_rules | `(tactic| walk_at "st") => `(tactic| first
  | refine ⟨_, rfl, ?_⟩
  | refine ⟨_, _, rfl, rfl, ?_⟩
  | refine .inl ⟨_, rfl, ?_⟩
  | refine ⟨rfl, ?_⟩
  | refine ⟨_, _, rfl, by walk_at "sq", ?_⟩
  | refine ⟨.inl ⟨rfl, _, SqL.of (by assumption)⟩, ?_⟩
  | refine ⟨by walk_at "cond", ?_⟩
  | (refine' ifBT ?hh ?_; (case hh => first | rfl | assumption))
  | (refine' ifBF ?hh ?_; (case hh => first | rfl | assumption)))
local macro_rules | `(tactic| walk_at "go") => `(tactic| repeat walk_at "st")
local macro_rules | `(tactic| walk_at "yes") => `(tactic| (refine' ifT ?hh ?_; (case hh => first | rfl | decide +kernel)))
local macro_rules | `(tactic| walk_at "no") => `(tactic| (refine' ifF ?hh ?_; (case hh => first | decide +kernel | (intro z; cases z; done))))

/-! ### _law_page_good -/
abbrev s_page_good : Stmt := topS 25
theorem sc_page_good : FnScope ["_law_shape", "_law_fan_here", "_law_page_here", "_law_spans", "_law_due", "_law_k", "_law_digits", "_law_told", "_law_low"] ["_law_shape", "_law_fan_here", "_law_page_here"] (C8.fnScope s_page_good) := C8.fnScope_by (by decide +kernel)
theorem spans_cons (w : Int) (ws : List Int) (k : Nat) : spanN (w :: ws) (k + 1) = spanN ws k := rfl
theorem span_zero (w : Int) (ws : List Int) : spanN (w :: ws) 0 = prodI ws := rfl
theorem mod_split {i w P : Int} (hP : 0 < P) (hw : 0 < w) : i % (w * P) = (i / P % w) * P + i % P := by
  have e1 := Int.mul_ediv_add_emod i P
  have e2 := Int.mul_ediv_add_emod (i / P) w
  have r0 := Int.emod_nonneg i (show P ≠ 0 by omega)
  have r1 := Int.emod_lt_of_pos i hP
  have d0 := Int.emod_nonneg (i / P) (show w ≠ 0 by omega)
  have d1 := Int.emod_lt_of_pos (i / P) hw
  generalize i % P = r at *
  generalize i / P % w = d at *
  generalize i / P / w = q at *
  have e : i = (d * P + r) + w * P * q := by
    rw [← e1, ← e2, Int.mul_add, Int.mul_comm P d, Int.mul_comm w P, Int.mul_assoc]
    omega
  rw [e, Int.add_mul_emod_self_left]
  refine Int.emod_eq_of_lt ?_ ?_
  · have := Int.mul_nonneg d0 (show 0 ≤ P by omega)
    omega
  · have := Int.mul_le_mul_of_nonneg_right (show d + 1 ≤ w by omega) (show 0 ≤ P by omega)
    rw [Int.add_mul] at this
    omega
theorem digs_cons (w : Int) (ws : List Int) (i : Int) (n : Nat) : digs (w :: ws) i (n + 1) = (i / prodI ws % w) :: digs ws i n := by
  unfold digs
  rw [List.range_succ_eq_map, List.map_cons, List.map_map]
  rfl
theorem sumN_cons (w d : Int) (ws ds : List Int) (n : Nat) : sumN (w :: ws) (d :: ds) (n + 1) = d * prodI ws :: sumN ws ds n := by
  unfold sumN
  rw [List.range_succ_eq_map, List.map_cons, List.map_map]
  rfl
theorem sum_digs : ∀ (ws : List Int) (i : Int), (∀ w ∈ ws, 2 ≤ w ∧ w ≤ 8) → (sumN ws (digs ws i ws.length) ws.length).sum = i % prodI ws
  | [], i, _ => by
    show (0 : Int) = i % 1
    omega
  | w :: ws, i, h => by
    have h1 := h w List.mem_cons_self
    have h2 : ∀ x ∈ ws, 2 ≤ x ∧ x ≤ 8 := fun x hx => h x (List.mem_cons_of_mem _ hx)
    have pp := prod_pos h2
    rw [List.length_cons, digs_cons, sumN_cons, List.sum_cons, sum_digs ws i h2]
    show _ = i % (w * prodI ws)
    rw [mod_split (by omega) (by omega)]
theorem digs_len (ws : List Int) (i : Int) (n : Nat) : (digs ws i n).length = n := by
  unfold digs
  rw [List.length_map, List.length_range]
theorem digs_snoc (ws : List Int) (i : Int) (j : Nat) : digs ws i (j + 1) = digs ws i j ++ [i / spanN ws j % ws.getD j 0] := by
  unfold digs
  rw [List.range_succ, List.map_append]
  rfl
theorem digs_small {ws : List Int} (h : ∀ w ∈ ws, 2 ≤ w ∧ w ≤ 8) (i : Int) : ∀ d ∈ digs ws i ws.length, 0 ≤ d ∧ d < 8 := fun d hd => by
  unfold digs at hd
  obtain ⟨k, hk, rfl⟩ := List.mem_map.mp hd
  have hk2 := List.mem_range.mp hk
  have ew : ws.getD k 0 = ws[k] := by rw [List.getD_eq_getElem?_getD, List.getElem?_eq_getElem hk2]; rfl
  have hw := h _ (List.getElem_mem hk2)
  show 0 ≤ i / spanN ws k % ws.getD k 0 ∧ i / spanN ws k % ws.getD k 0 < 8
  rw [ew]
  have := Int.emod_nonneg (i / spanN ws k) (show ws[k] ≠ 0 by omega)
  have := Int.emod_lt_of_pos (i / spanN ws k) (show 0 < ws[k] by omega)
  omega
theorem span_b {ws : List Int} (sm : Small ws) (k : Nat) : 0 < spanN ws k ∧ spanN ws k ≤ 8 ^ 6 := by
  have pp := prod_pos (ws := ws.drop (k + 1)) fun x hx => sm.2.2 x (List.mem_of_mem_drop hx)
  refine ⟨by show 0 < prodI _; omega, Int.le_trans pp.2 (Int.le_trans (b := ((8 ^ 6 : Nat) : Int)) ?_ (by decide))⟩
  have h6 := sm.2.1
  have : (8 : Nat) ^ (ws.drop (k + 1)).length ≤ 8 ^ 6 := Nat.pow_le_pow_right (by decide) (by rw [List.length_drop]; omega)
  exact_mod_cast this
theorem dle_ints2 {n : Nat} (ns : List Int) (h : ns.length ≤ 100000) : Dle (n + 2) (.tuple (ns.map PyData.int)) := ⟨by rw [List.length_map]; exact h, fun e he => by
  obtain ⟨x, _, rfl⟩ := List.mem_map.mp he
  trivial⟩
theorem span0_mul : ∀ {ws : List Int}, 0 < ws.length → spanN ws 0 * ws.getD 0 0 = prodI ws
  | [], h => absurd h (Nat.lt_irrefl _)
  | w :: ws, _ => Int.mul_comm _ _
def spPgG (C : Addr) : Sp := fun vs H Q _ => ∃ (p wt st dx a : Addr) (ws : List Int) (i : Int), vs = [.ref p, .ref a, .int i] ∧ ShapeAt C H p wt st dx ws ∧ H a = some (.lst (ws.map V.int)) ∧ -(10 ^ 8) ≤ i ∧ i ≤ 10 ^ 8 ∧ ∀ H', Same H H' → Q (.bl true) H'
section
variable {P : Program} {w : World} {K : PySem.W.Frag} {mg : Str → Option Value} {base : Heap} {C D : Addr}
theorem ok_page_good {f : Addr} {fd : FuncData} (Df : Def K mg "_law_page_good" s_page_good f fd) (b : Binds K fd ["_law_shape", "_law_fan_here", "_law_page_here"] []) (T : Txt mg) (S : STxt K mg C) (c_fan_spans : Cal P w K mg base 1 "_law_fan_spans" (spFanSpans K) [])
    (e_path : MetE P w K mg base 4 C "path" (spPath C D)) (e_block : MetE P w K mg base 4 C "block_at" (spBlock C D)) (m_page_at : C8.Met P w K mg base 1 C "page_at" (spPageAt C) []) (c_outside : Cal P w K mg base 5 "_law_outside" (spOut C) [])
    (c_same : Cal P w K mg base 5 "_law_same" (spSame 4) []) : Cal P w K mg base 6 "_law_page_good" (spPgG C) [] := by
  refine cal0 Df b .nil sc_page_good (fun vs H Q E h => ?_) (fun cdv A outer s H vs Q E hr h => ?_)
  · obtain ⟨p, wt, st, dx, a, ws, i, rfl, _⟩ := h
    rfl
  obtain ⟨p, wt, st, dx, a, ws, i, rfl, hs, ha, i0, i1, q⟩ := h
  refine ⟨_, (pss_cons (ps_set (i := 3) sc_page_good.nd rfl (.inr rfl) (C8.pe_c c_fan_spans hr (by omega) (by rfl) (pa_cons (pv 1) pa_nil)))
      (pss_cons (ps_mk (ps_if (PW.pt (pw_or (pt_cmpR op_lt (pv 2) pe_int (nomark _)) (pw_or1 (pt_cmpR op_ge (pv 2) (pe_op op_mul (pe_ix (ixL K rfl) (pv 3) pe_int (fun _ _ => rfl)) (pe_ix (ixL K rfl) (pv 1) pe_int (fun _ _ => rfl))) (nomark _)))))
      (pss_cons (ps_set (i := 4) sc_page_good.nd rfl (.inr rfl) (pe_tup (pa_cons (pv 2) (pa_cons (pe_op op_add (pv 2) pe_int) pa_nil))))
      (pss_one (ps_ret (pe_cmpR op_eq (pe_callB (lenQ K rfl) (by rfl) T.len PySem.boot_len (pa_cons (pe_lc (own := [("_law_k", 5)]) (g := gName 5) rfl sc_page_good.nd (pi_range1 (by rfl) T.range (pa_cons (pe_op op_add (pe_callB (lenQ K rfl) (by rfl) T.len PySem.boot_len (pa_cons (pv 1) pa_nil)) pe_int) pa_nil)) (blkOk_by (own := [("_law_k", 5)]) (N := ["_law_shape", "_law_fan_here", "_law_page_here", "_law_spans", "_law_due", "_law_k", "_law_digits", "_law_told", "_law_low"]) (sc := C8.fnScope s_page_good) (by decide +kernel)) (fun _ _ _ _ _ => (pg_name (i := 5) sc_page_good.nd rfl (.inl rfl))) (fun _ _ _ _ _ => (pts_one (pt_not (pt_val (C8.pe_c c_same hr (by omega) (by rfl) (pa_cons (C8.pe_c c_outside hr (by omega) (by rfl) (pa_cons (pv 0) (pa_cons (pe_op op_sub (pv 5) pe_int) (pa_cons (pv 2) pa_nil)))) (pa_cons (pv 4) pa_nil))))))) (fun _ _ _ _ _ => (pv 5))) pa_nil)) pe_int (nomark _)))))
      pss_nil))
      (pss_cons (ps_set (i := 6) sc_page_good.nd rfl (.inl rfl) (pe_callTy call_tuple_of (by rfl) T.tuple (by decide +kernel) (pa_cons (pe_lc (own := [("_law_k", 5)]) (g := gName 5) (tt := tYes) rfl sc_page_good.nd (pi_range1 (by rfl) T.range (pa_cons (pe_callB (lenQ K rfl) (by rfl) T.len PySem.boot_len (pa_cons (pv 1) pa_nil)) pa_nil)) (blkOk_by (own := [("_law_k", 5)]) (N := ["_law_shape", "_law_fan_here", "_law_page_here", "_law_spans", "_law_due", "_law_k", "_law_digits", "_law_told", "_law_low"]) (sc := C8.fnScope s_page_good) (by decide +kernel)) (fun _ _ _ _ _ => (pg_name (i := 5) sc_page_good.nd rfl (.inl rfl))) (fun _ _ _ _ _ => pts_nil) (fun _ _ _ _ _ => (pe_op op_mod (pe_callTy call_int1 (by rfl) T.int (by decide +kernel) (pa_cons (pe_op op_fdiv (pv 2) (pe_ix (ixL K rfl) (pv 3) (pv 5) (fun _ _ => rfl))) pa_nil)) (pe_ix (ixL K rfl) (pv 1) (pv 5) (fun _ _ => rfl))))) pa_nil)))
      (pss_cons (ps_set (i := 7) sc_page_good.nd rfl (.inl rfl) (pe_mE e_path takes0 hr (by omega) (pv 0) (pa_cons (pv 2) pa_nil)))
      (pss_cons (ps_mk (ps_if (PW.pt (pw_or (pt_not (pt_val (C8.pe_c c_same hr (by omega) (by rfl) (pa_cons (pv 7) (pa_cons (pv 6) pa_nil))))) (pw_or1 (pt_not (pt_val (C8.pe_c c_same hr (by omega) (by rfl) (pa_cons (C8.pe_mt m_page_at hr (by omega) (pv 0) (pa_cons (pv 7) pa_nil)) (pa_cons (pv 2) pa_nil))))))))
      (pss_one (ps_ret pe_bl))
      pss_nil))
      (pss_cons (ps_mk (ps_if (pt_not (pt_val (C8.pe_c c_same hr (by omega) (by rfl) (pa_cons (C8.pe_mt m_page_at hr (by omega) (pv 0) (pa_cons (pv 6) pa_nil)) (pa_cons (pv 2) pa_nil)))))
      (pss_one (ps_ret pe_bl))
      pss_nil))
      (pss_cons (ps_mk (ps_for PassesOwn.never rfl (pi_range1 (by rfl) T.range (pa_cons (pe_callB (lenQ K rfl) (by rfl) T.len PySem.boot_len (pa_cons (pv 1) pa_nil)) pa_nil)) (pg_name (i := 5) sc_page_good.nd rfl (.inl rfl))
      (pss_cons (ps_set (i := 8) sc_page_good.nd rfl (.inl rfl) (pe_op op_mul (pe_op op_fdiv (pv 2) (pe_ix (ixL K rfl) (pv 3) (pv 5) (fun _ _ => rfl))) (pe_ix (ixL K rfl) (pv 3) (pv 5) (fun _ _ => rfl))))
      (pss_one (ps_mk (ps_if (pt_not (pt_val (C8.pe_c c_same hr (by omega) (by rfl) (pa_cons (pe_mE e_block takes0 hr (by omega) (pv 0) (pa_cons (pv 5) (pa_cons (pv 2) pa_nil))) (pa_cons (pe_tup (pa_cons (pv 8) (pa_cons (pe_op op_add (pv 8) (pe_ix (ixL K rfl) (pv 3) (pv 5) (fun _ _ => rfl))) pa_nil))) pa_nil)))))
      (pss_one (ps_ret pe_bl))
      pss_nil))))))
      (pss_one (ps_ret pe_bl))))))))), ?_⟩
  have sm := hs.sm
  have h6 := hs.sm.2.1
  walk_at "go"
  refine ⟨sm, fun sp H1 s1 nsp gsp => ?_⟩
  have hs1 := hs.same s1
  have ha1 := s1 _ _ ha
  have g1 := hs1.g
  clear hs ha
  have l0 : 0 < ws.length := List.length_pos_iff.mpr sm.1
  have b0 := span_b sm 0
  have e0 := span0_mul l0
  have at0 : atI (ws.map V.int) 0 = some (.int (ws.getD 0 0)) := atI_getD (Int.le_refl 0) (by omega)
  have w00 := sm.2.2 _ (List.getElem_mem l0)
  have ts : ∀ j, j < ws.length → atI ((spansOf ws).map V.int) ((j : Nat) : Int) = some (.int (spanN ws j)) := fun j hj => atI_nat (by rw [List.getElem?_map, spans_get hj]; rfl)
  have tw : ∀ j, j < ws.length → atI (ws.map V.int) ((j : Nat) : Int) = some (.int (ws.getD j 0)) := fun j hj => atI_getD (by omega) (by omega)
  have wb : ∀ j, j < ws.length → 2 ≤ ws.getD j 0 ∧ ws.getD j 0 ≤ 8 := fun j hj => by
    rw [List.getD_eq_getElem?_getD, List.getElem?_eq_getElem hj]
    exact sm.2.2 _ (List.getElem_mem hj)
  refine jnS (M := fun σ H' => (0 ≤ i ∧ i < prodI ws) ∧ H' = H1 ∧ σ = [sR p, sR a, sI i, sR sp, none, none, none, none, none]) ?_ (fun N kk => ?_)
  rotate_left
  · walk_at "go"
    by_cases hin : 0 ≤ i ∧ i < prodI ws
    · refine ifD (fun c => absurd c (by omega)) (fun c => ?_)
      walk_at "go"
      refine ⟨_, _, _, .int (spanN ws 0), rfl, rfl, SqL.of gsp, ts 0 l0, ?_⟩
      walk_at "go"
      refine ⟨_, _, _, .int (ws.getD 0 0), rfl, rfl, SqL.of ha1, at0, ?_⟩
      walk_at "go"
      refine ifD (fun c => absurd c (by rw [e0]; omega)) (fun c => ?_)
      exact kk _ _ ⟨hin, rfl, rfl⟩
    · refine ifD (fun c => ?_) (fun c => ?_)
      rotate_left
      walk_at "go"
      refine ⟨_, _, _, .int (spanN ws 0), rfl, rfl, SqL.of gsp, ts 0 l0, ?_⟩
      walk_at "go"
      refine ⟨_, _, _, .int (ws.getD 0 0), rfl, rfl, SqL.of ha1, at0, ?_⟩
      walk_at "go"
      refine ifD (fun c => ?_) (fun c => absurd c (by rw [e0]; omega))
      all_goals
        walk_at "go"
        refine ⟨sz, fun du ndu => ?_⟩
        have s2 := same_upd (o := HO.tup [V.int i, V.int (i + 1)]) ndu
        have gdu := upd_same (H := H1) (a := du) (o := HO.tup [V.int i, V.int (i + 1)])
        have hs2 := hs1.same s2
        have ha2 := s2 _ _ ha1
        have s12 := s1.trans s2
        generalize upd H1 du (HO.tup [V.int i, V.int (i + 1)]) = H2 at *
        walk_at "go"
        rw [List.length_map]
        refine ⟨by omega, by omega, fun L nL => lc_range (lo := 0) (n := ((ws.length : Int) + 1).toNat) (fun j H' => Ob (Same H2 H' ∧ H' L = some (.lst []))) (ob ⟨same_upd nL, upd_same⟩) ?_ ?_⟩
        · intro j H3 hj h
          obtain ⟨s3, g3⟩ := unob h
          refine ⟨rfl, ?_⟩
          walk_at "go"
          refine ⟨p, wt, st, dx, ws, _, i, rfl, hs2.same s3, hin, by omega, by omega, by omega, fun r H4 s4 gr => ?_⟩
          walk_at "go"
          refine ⟨_, _, .tuple ([i, i + 1].map PyData.int), .tuple ([i, i + 1].map PyData.int), rfl, ⟨r, _, rfl, gr, dh_ints [i, i + 1]⟩, ⟨du, _, rfl, s4 _ _ (s3 _ _ gdu), dh_ints [i, i + 1]⟩, dle_ints2 [i, i + 1] (by simp), fun bo H5 hb s5 => ?_⟩
          obtain rfl : bo = true := hb.mpr rfl
          walk_at "go"
          exact ob ⟨s3.trans (s4.trans s5), s5 _ _ (s4 _ _ g3)⟩
        · intro H3 h
          obtain ⟨s3, g3⟩ := unob h
          walk_at "go"
          exact q _ (s12.trans s3)
  rintro σ H2 ⟨hin, rfl, rfl⟩
  walk_at "go"
  rw [List.length_map]
  refine ⟨by omega, by omega, fun L nL => lc_range (lo := 0) (n := ws.length) (fun j H' => Ob (Same H2 H' ∧ H' L = some (.lst ((digs ws i j).map V.int)))) (ob ⟨same_upd nL, upd_same⟩) ?_ ?_⟩
  · intro j H3 hj h
    obtain ⟨s3, g3⟩ := unob h
    refine ⟨rfl, ?_⟩
    rw [Int.zero_add]
    walk_at "go"
    refine ⟨_, _, _, .int (spanN ws j), rfl, rfl, SqL.of (s3 _ _ gsp), ts j hj, ?_⟩
    have sb := span_b sm j
    have ds := digs_snoc ws i j
    have wbj := wb j hj
    have twj := tw j hj
    generalize spanN ws j = spj at *
    generalize ws.getD j 0 = wj at *
    walk_at "go"
    refine ⟨_, _, _, .int wj, rfl, rfl, SqL.of (s3 _ _ ha1), twj, ?_⟩
    walk_at "go"
    refine ⟨_, g3, sz5 (by rw [List.length_map, digs_len]; omega), ob ⟨same_put s3 nL, ?_⟩⟩
    rw [upd_same, ds, List.map_append]
    rfl
  intro H3 h
  obtain ⟨s3, g3⟩ := unob h
  walk_at "go"
  refine ⟨L, _, rfl, .inl ⟨SqL.of g3, fun dg ndg => ?_⟩⟩
  have s4 := s3.trans (same_upd (o := HO.tup ((digs ws i ws.length).map V.int)) ndg)
  have gdg := upd_same (H := H3) (a := dg) (o := HO.tup ((digs ws i ws.length).map V.int))
  generalize upd H3 dg (HO.tup ((digs ws i ws.length).map V.int)) = H4 at *
  have hs4 := hs1.same s4
  have g4 := hs4.g
  walk_at "go"
  refine ⟨p, dx, _, rfl, g4, sh_no (by decide +kernel) (by decide +kernel) (by decide +kernel) (by decide +kernel), ?_⟩
  walk_at "go"
  refine ⟨p, wt, st, dx, ws, i, rfl, hs4, by omega, by omega, fun _ r H5 s5 nr gr => ?_, fun z => absurd hin z⟩
  have s45 := s4.trans s5
  have hs5 := hs1.same s45
  have gdg5 := s5 _ _ gdg
  clear hs4 g4 gdg s5 nr s4 g3 ndg nL s3 h
  have dl := digs_len ws i ws.length
  have dsm := digs_small sm.2.2 i
  have sumi : (sumN ws (digs ws i ws.length) ws.length).sum = i := by
    rw [sum_digs ws i sm.2.2]
    exact Int.emod_eq_of_lt hin.1 hin.2
  generalize digs ws i ws.length = ds at *
  have dleD : Dle 4 (.tuple (ds.map PyData.int)) := dle_ints2 ds (by omega)
  refine jnS (M := fun σ H' => Same H5 H' ∧ σ = [sR p, sR a, sI i, sR sp, none, none, sR dg, sR r, none]) ?_ (fun N kk => ?_)
  rotate_left
  · walk_at "go"
    refine ⟨_, _, .tuple (ds.map PyData.int), .tuple (ds.map PyData.int), rfl, ⟨r, _, rfl, gr, dh_ints _⟩, ⟨dg, _, rfl, gdg5, dh_ints _⟩, dleD, fun bo H6 hb s6 => ?_⟩
    obtain rfl : bo = true := hb.mpr rfl
    walk_at "go"
    have hs6 := hs5.same s6
    refine ⟨p, dx, _, rfl, hs6.g, sh_no (by decide +kernel) (by decide +kernel) (by decide +kernel) (by decide +kernel), ?_⟩
    walk_at "go"
    refine ⟨p, wt, st, dx, r, ws, ds, rfl, hs6, s6 _ _ gr, dl, dsm, fun H7 s7 => ?_⟩
    rw [sumi]
    walk_at "go"
    refine ⟨_, _, .int i, .int i, rfl, rfl, rfl, trivial, fun bo H8 hb s8 => ?_⟩
    obtain rfl : bo = true := hb.mpr rfl
    walk_at "go"
    exact kk _ _ ⟨s6.trans (s7.trans s8), rfl⟩
  rintro σ H6 ⟨s6, rfl⟩
  have hs6 := hs5.same s6
  refine jnS (M := fun σ H' => Same H5 H' ∧ σ = [sR p, sR a, sI i, sR sp, none, none, sR dg, sR r, none]) ?_ (fun N kk => ?_)
  rotate_left
  · walk_at "go"
    refine ⟨p, dx, _, rfl, hs6.g, sh_no (by decide +kernel) (by decide +kernel) (by decide +kernel) (by decide +kernel), ?_⟩
    walk_at "go"
    refine ⟨p, wt, st, dx, dg, ws, ds, rfl, hs6, s6 _ _ gdg5, dl, dsm, fun H7 s7 => ?_⟩
    rw [sumi]
    walk_at "go"
    refine ⟨_, _, .int i, .int i, rfl, rfl, rfl, trivial, fun bo H8 hb s8 => ?_⟩
    obtain rfl : bo = true := hb.mpr rfl
    walk_at "go"
    exact kk _ _ ⟨s6.trans (s7.trans s8), rfl⟩
  clear s6 hs6 H6
  rintro σ H6 ⟨s6, rfl⟩
  have hs6 := hs5.same s6
  have s16 := s45.trans s6
  have gsp6 := s16 _ _ gsp
  have ha6 := s16 _ _ ha1
  refine jnS (M := fun _ H' => Same H6 H') (fun σ H' s7 => ?_) (fun N kk => ?_)
  · walk_at "go"
    exact q _ (s1.trans (s16.trans s7))
  walk_at "go"
  rw [List.length_map]
  refine ⟨by omega, by omega, for_range (lo := 0) (n := ws.length) (fun j σ H' => Ob (Same H6 H' ∧ ∃ y5 y8, σ = [sR p, sR a, sI i, sR sp, none, y5, sR dg, sR r, y8])) (ob ⟨same_rfl, none, none, rfl⟩) ?_ ?_⟩
  · intro j σ H7 hj h
    obtain ⟨s7, y5, y8, rfl⟩ := unob h
    rw [Int.zero_add]
    have sb := span_b sm j
    have gsp7 := s7 _ _ gsp6
    have tj := ts j hj
    have hs7 := hs6.same s7
    have fin : ∀ (d : Int) H9, Same H7 H9 → Ob (Same H6 H9 ∧ ∃ y5 y8, [sR p, sR a, sI i, sR sp, none, sI (j : Int), sR dg, sR r, sI d] = [sR p, sR a, sI i, sR sp, none, y5, sR dg, sR r, y8]) := fun d H9 s9 => ob ⟨s7.trans s9, _, _, rfl⟩
    walk_at "go"
    refine ⟨_, _, _, .int (spanN ws j), rfl, rfl, SqL.of gsp7, tj, ?_⟩
    walk_at "go"
    refine ⟨_, _, _, .int (spanN ws j), rfl, rfl, SqL.of gsp7, tj, ?_⟩
    walk_at "go"
    refine un ?_
    walk_at "go"
    refine ⟨p, dx, _, rfl, hs7.g, sh_no (by decide +kernel) (by decide +kernel) (by decide +kernel) (by decide +kernel), ?_⟩
    walk_at "go"
    refine ⟨p, wt, st, dx, ws, j, i, rfl, hs7, hj, by omega, by omega, fun _ r2 H8 s8 gr2 => ?_, fun z => absurd hin z⟩
    walk_at "go"
    refine ⟨_, _, _, .int (spanN ws j), rfl, rfl, SqL.of (s8 _ _ gsp7), tj, ?_⟩
    walk_at "go"
    refine ⟨sz, fun t2 nt2 => ?_⟩
    have s9 := same_upd (o := HO.tup [V.int (i / spanN ws j * spanN ws j), V.int (i / spanN ws j * spanN ws j + spanN ws j)]) nt2
    refine ⟨_, _, .tuple ([i / spanN ws j * spanN ws j, i / spanN ws j * spanN ws j + spanN ws j].map PyData.int), .tuple ([i / spanN ws j * spanN ws j, i / spanN ws j * spanN ws j + spanN ws j].map PyData.int), rfl, ⟨r2, _, rfl, s9 _ _ gr2, dh_ints [i / spanN ws j * spanN ws j, i / spanN ws j * spanN ws j + spanN ws j]⟩, ⟨t2, _, rfl, upd_same, dh_ints [i / spanN ws j * spanN ws j, i / spanN ws j * spanN ws j + spanN ws j]⟩, dle_ints2 [i / spanN ws j * spanN ws j, i / spanN ws j * spanN ws j + spanN ws j] (by simp), fun bo H9 hb s10 => ?_⟩
    obtain rfl : bo = true := hb.mpr rfl
    walk_at "go"
    exact fin _ _ (s8.trans (s9.trans s10))
  · intro σ H7 h
    obtain ⟨s7, y5, y8, rfl⟩ := unob h
    exact kk _ _ s7
end

end

section

-- a condition of an operator
local macro_rules | `(tactic| walk_at "cond") => `(tactic| first
  | (show (0 : Int) < _; omega)
  | (show CDiv _ _; constructor <;> (first | decide | omega))
  | (show CMul _ _; first | (refine cmul_l ?_; constructor <;> (first | decide | omega)) | (refine cmul_r ?_; constructor <;> (first | decide | omega)))
  | (show CPow _ _; exact (by refine ⟨by decide, by decide, by decide⟩))
  | (show CDivW _ _; exact ⟨by decide, by decide +kernel⟩))
local macro_rules | `(tactic| walk_at "sq") => `(tactic| first | assumption | exact Dh.mono (same_upd (by assumption)) _ _ (by assumption) | exact .inl (.inl (.inl (by assumption))) | exact .inr (.inl (.inl (by assumption))) | exact SqL.of (by assumption) | exact .inl (by assumption) | exact .inl (SqL.of (by assumption)) | exact SqT.of (by assumption) | exact .inr (SqT.of (by assumption)))
local macro_rules | `(tactic| walk_at "st") => `(tactic| first
  | refine ⟨_, rfl, ?_⟩
  | refine ⟨_, _, rfl, rfl, ?_⟩
  | refine .inl ⟨_, rfl, ?_⟩
  | refine ⟨rfl, ?_⟩
  | refine ⟨_, _, rfl, by walk_at "sq", ?_⟩
  | refine ⟨.inl ⟨rfl, _, SqL.of (by assumption)⟩, ?_⟩
  | refine ⟨by walk_at "cond", ?_⟩
  | (refine' ifBT ?hh ?_; (case hh => first | rfl | assumption))
  | (refine' ifBF ?hh ?_; (case hh => first | rfl | assumption)))
local macro_rules | `(tactic| walk_at "go") => `(tactic| repeat walk_at "st")
local macro_rules | `(tactic| walk_at "yes") => `(tactic| (refine' ifT ?hh ?_; (case hh => first | rfl | decide +kernel)))
local macro_rules | `(tactic| walk_at "no") => `(tactic| (refine' ifF ?hh ?_; (case hh => first | decide +kernel | (intro z; cases z; done))))

local macro_rules | `(tactic| walk_at "st") => `(tactic| refine ⟨_, _, _, _, _, rfl, by assumption, by assumption, by omega, by omega, by omega, by omega, by omega, ?_⟩)
local macro_rules | `(tactic| walk_at "st") => `(tactic| refine ⟨_, _, _, _, _, rfl, Same.seq (by assumption) (by assumption), by assumption, by omega, by omega, by omega, by omega, by omega, ?_⟩)

/-! ### law (k01) -/
abbrev s_law : Stmt := topS 26
theorem sc_law : FnScope ["_law_script", "_law_fan_here", "_law_twin", "_law_k", "_law_given", "_law_shape", "_law_other", "_law_total", "_law_at", "_law_page_here", "_law_again"] ["_law_script"] (C8.fnScope s_law) := C8.fnScope_by (by decide +kernel)
section
variable {P : Program} {w : World} {K : PySem.W.Frag} {mg : Str → Option Value} {base : Heap} {C : Addr}
theorem ShapeAt.put {C : Addr} {H : Hp} {p wt st dx G : Addr} {ws : List Int} {xs ys : List V} (h : ShapeAt C H p wt st dx ws) (g : H G = some (.lst xs)) : ShapeAt C (upd H G (.lst ys)) p wt st dx ws := by
  have n1 : p ≠ G := fun e => by
    have z := h.g
    rw [e, g] at z
    cases z
  have n2 : wt ≠ G := fun e => by
    have z := h.w
    rw [e, g] at z
    cases z
  have n3 : st ≠ G := fun e => by
    have z := h.s
    rw [e, g] at z
    cases z
  exact ⟨by rw [upd_ne n1]; exact h.g, by rw [upd_ne n2]; exact h.w, by rw [upd_ne n3]; exact h.s, h.sm⟩
theorem prod_b {ws : List Int} (sm : Small ws) : 1 ≤ prodI ws ∧ prodI ws ≤ 1000000 := by
  have pp := prod_pos sm.2.2
  refine ⟨pp.1, Int.le_trans pp.2 (Int.le_trans (b := ((8 ^ 6 : Nat) : Int)) ?_ (by decide))⟩
  have : (8 : Nat) ^ ws.length ≤ 8 ^ 6 := Nat.pow_le_pow_right (by decide) sm.2.1
  exact_mod_cast this
theorem ok_law {f : Addr} {fd : FuncData} (Df : Def K mg "law" s_law f fd) (T : Txt mg) (c_number : Cal P w K mg base 1 "_law_number" (spNum K) []) (c_fan : Cal P w K mg base 2 "_law_fan" (spFan K) []) (c_Shape : C8.Mak P w K mg base 2 "Shape" C (spShI C K) [])
    (c_same : Cal P w K mg base 5 "_law_same" (spSame 4) []) (c_fan_spans : Cal P w K mg base 1 "_law_fan_spans" (spFanSpans K) []) (c_page : Cal P w K mg base 2 "_law_page" (spPage K) []) (c_shape_good : Cal P w K mg base 6 "_law_shape_good" (spShG C) [])
    (c_page_good : Cal P w K mg base 6 "_law_page_good" (spPgG C) []) : FnOk P w K mg base C8.CX0 7 f fd ["_law_script"] (spLaw K) := by
  refine C8.fn0 Df.fn sc_law (fun vs H Q E h => ?_) (fun cdv A outer s H vs Q E hr h => ?_)
  · obtain ⟨a, ns, rfl, _⟩ := h
    rfl
  obtain ⟨a, ns, rfl, hS, hl, q⟩ := h
  refine ⟨_, (pss_cons (ps_set (i := 1) sc_law.nd rfl (.inl rfl) (C8.pe_c c_fan hr (by omega) (by rfl) (pa_cons (pv 0) (pa_cons pe_int (pa_cons pe_int pa_nil)))))
      (pss_cons (ps_set (i := 2) sc_law.nd rfl (.inl rfl) (C8.pe_c c_fan hr (by omega) (by rfl) (pa_cons (pv 0) (pa_cons pe_int (pa_cons pe_int pa_nil)))))
      (pss_cons (ps_mk (ps_if (pt_cmpR op_eq (C8.pe_c c_number hr (by omega) (by rfl) (pa_cons (pv 0) (pa_cons pe_int (pa_cons pe_int (pa_cons pe_int pa_nil))))) pe_int (nomark _))
      (pss_one (ps_setLc (i := 1) (own := [("_law_k", 3)]) (g := gName 3) (tt := tYes) rfl sc_law.nd rfl rfl (sw_true rfl rfl rfl (by decide +kernel)) (pi_range1 (by rfl) T.range (pa_cons (pe_op op_add pe_int (C8.pe_c c_number hr (by omega) (by rfl) (pa_cons (pv 0) (pa_cons pe_int (pa_cons pe_int (pa_cons pe_int pa_nil)))))) pa_nil)) (blkOk_by (own := [("_law_k", 3)]) (N := ["_law_script", "_law_fan_here", "_law_twin", "_law_k", "_law_given", "_law_shape", "_law_other", "_law_total", "_law_at", "_law_page_here", "_law_again"]) (sc := C8.fnScope s_law) (by decide +kernel)) (fun _ _ _ _ _ => (pg_name (i := 3) sc_law.nd rfl (.inl rfl))) (fun _ _ _ _ _ => pts_nil) (fun _ _ _ _ _ => (pe_op op_add pe_int (C8.pe_c c_number hr (by omega) (by rfl) (pa_cons (pv 0) (pa_cons pe_int (pa_cons (pv 3) (pa_cons pe_int pa_nil)))))))))
      pss_nil))
      (pss_cons (ps_set (i := 4) sc_law.nd rfl (.inl rfl) (pe_callTy (listQ K rfl) (by rfl) T.list (by decide +kernel) (pa_cons (pv 1) pa_nil)))
      (pss_cons (ps_set (i := 5) sc_law.nd rfl (.inl rfl) (C8.pe_mk c_Shape hr (by omega) (by rfl) (pa_cons (pv 4) pa_nil)))
      (pss_cons (ps_set (i := 6) sc_law.nd rfl (.inl rfl) (C8.pe_mk c_Shape hr (by omega) (by rfl) (pa_cons (pe_callTy call_tuple_of (by rfl) T.tuple (by decide +kernel) (pa_cons (pv 2) pa_nil)) pa_nil)))
      (pss_cons (ps_mk (ps_if (pt_not (pt_val (C8.pe_c c_same hr (by omega) (by rfl) (pa_cons (pv 4) (pa_cons (pv 1) pa_nil)))))
      (pss_one (ps_ret pe_bl))
      pss_nil))
      (pss_cons (ps_asg (pe_op op_sub pe_int (pe_ix (ixL K rfl) (pv 4) pe_int (fun _ _ => rfl))) (pg_sub (pv 4) pe_int set_list))
      (pss_cons (ps_expr (pe_bm PySem.F.plainAttrs_list PySem.F.slot_list_append PySem.F.type_list_append mt_append (pv 4) (pa_cons pe_int pa_nil)))
      (pss_cons (ps_set (i := 7) sc_law.nd rfl (.inl rfl) (pe_op op_mul (pe_ix (ixL K rfl) (C8.pe_c c_fan_spans hr (by omega) (by rfl) (pa_cons (pv 1) pa_nil)) pe_int (fun _ _ => rfl)) (pe_ix (ixL K rfl) (pv 1) pe_int (fun _ _ => rfl))))
      (pss_cons (ps_mk (ps_for PassesOwn.never rfl (pi_range2 (by rfl) T.range (pa_cons pe_int (pa_cons (pe_op op_add pe_int (C8.pe_c c_number hr (by omega) (by rfl) (pa_cons (pv 0) (pa_cons pe_int (pa_cons pe_int (pa_cons pe_int pa_nil)))))) pa_nil))) (pg_name (i := 8) sc_law.nd rfl (.inl rfl))
      (pss_cons (ps_set (i := 9) sc_law.nd rfl (.inl rfl) (C8.pe_c c_page hr (by omega) (by rfl) (pa_cons (pv 0) (pa_cons (pv 8) (pa_cons (pv 7) pa_nil)))))
      (pss_one (ps_mk (ps_for PassesOwn.never rfl (pi_range1 (by rfl) T.range (pa_cons pe_int pa_nil)) (pg_name (i := 10) sc_law.nd rfl (.inl rfl))
      (pss_cons (ps_mk (ps_if (PW.pt (pw_or (pt_not (pt_val (C8.pe_c c_shape_good hr (by omega) (by rfl) (pa_cons (pv 5) (pa_cons (pv 1) pa_nil))))) (pw_or1 (pt_not (pt_val (C8.pe_c c_page_good hr (by omega) (by rfl) (pa_cons (pv 5) (pa_cons (pv 1) (pa_cons (pv 9) pa_nil)))))))))
      (pss_one (ps_ret pe_bl))
      pss_nil))
      (pss_one (ps_mk (ps_if (PW.pt (pw_or (pt_not (pt_val (C8.pe_c c_shape_good hr (by omega) (by rfl) (pa_cons (pv 6) (pa_cons (pv 2) pa_nil))))) (pw_or1 (pt_not (pt_val (C8.pe_c c_page_good hr (by omega) (by rfl) (pa_cons (pv 6) (pa_cons (pv 2) (pa_cons (pv 9) pa_nil)))))))))
      (pss_one (ps_ret pe_bl))
      pss_nil))))))))))
      (pss_one (ps_ret pe_bl))))))))))))), ?_⟩
  walk_at "go"
  refine ⟨_, _, _, rfl, hS, hl, by omega, by omega, fun L0 ws0 H1 s1 nL0 sm0 pl0 g1 => ?_⟩
  have hS1 := s1.seq hS
  walk_at "go"
  refine ⟨_, _, _, rfl, hS1, hl, by omega, by omega, fun L2 ws2 H2 s2 nL2 sm2 pl2 g2 => ?_⟩
  have s12 := s1.trans s2
  have hS2 := s12.seq hS
  have g1 := s2 _ _ g1
  clear s2 nL2 hS1
  refine jnS (M := fun σ H' => Same H H' ∧ ∃ L ws, Small ws ∧ H' L = some (.lst (ws.map V.int)) ∧ H' L2 = some (.lst (ws2.map V.int)) ∧ σ = [sR a, sR L, sR L2, none, none, none, none, none, none, none, none]) ?_ (fun N kk => ?_)
  rotate_left
  · walk_at "go"
    refine ifEq (fun c => ?_) (fun c => ?_)
    · have n0 : 0 ≤ num ns 0 7 2 := num_nn (by decide)
      have n1 : num ns 0 7 2 < 2 := num_lt (by decide)
      walk_at "go"
      refine ⟨by omega, by omega, fun L nL => lc_range (lo := 0) (n := (5 + num ns 0 7 2).toNat) (fun j H' => Ob (Same H2 H' ∧ ∃ ws : List Int, ws.length = j ∧ (∀ x ∈ ws, 2 ≤ x ∧ x ≤ 8) ∧ H' L = some (.lst (ws.map V.int)))) (ob ⟨same_upd nL, [], rfl, fun x hx => (by cases hx), upd_same⟩) ?_ ?_⟩
      · intro j H3 hj h
        obtain ⟨s3, ws, lj, sm, g3⟩ := unob h
        have hS3 := s3.seq hS2
        have w0 : 0 ≤ num ns 0 (0 + (j : Int)) 2 := num_nn (by decide)
        have w1 : num ns 0 (0 + (j : Int)) 2 < 2 := num_lt (by decide)
        refine ⟨rfl, ?_⟩
        walk_at "go"
        refine ⟨_, g3, sz5 (by rw [List.length_map]; omega), ob ⟨same_put s3 nL, ws ++ [2 + num ns 0 (0 + (j : Int)) 2], by rw [List.length_append, lj]; rfl, fun x hx => ?_, ?_⟩⟩
        · rcases List.mem_append.mp hx with hx | hx
          · exact sm x hx
          · obtain rfl := List.mem_singleton.mp hx
            omega
        · rw [upd_same, List.map_append]
          rfl
      · intro H3 h
        obtain ⟨s3, ws, lj, sm, g3⟩ := unob h
        walk_at "go"
        exact kk _ _ ⟨s12.trans s3, L, ws, ⟨fun e => by rw [e] at lj; simp at lj; omega, by omega, sm⟩, g3, s3 _ _ g2, rfl⟩
    · walk_at "go"
      exact kk _ _ ⟨s12, L0, ws0, sm0, g1, g2, rfl⟩
  clear s12 g1 g2 s1 hS2 nL0 sm0 pl0
  rintro σ H3 ⟨s3, L, ws, sm, gL, gL2, rfl⟩
  have pb := prod_b sm
  have h6 := sm.2.1
  have l0 : 0 < ws.length := List.length_pos_iff.mpr sm.1
  walk_at "go"
  intro G nG
  have s4 := same_upd (o := HO.lst (ws.map V.int)) nG
  have nG0 : H G = none := s3.free nG
  have gG := upd_same (H := H3) (a := G) (o := HO.lst (ws.map V.int))
  have gL := s4 _ _ gL
  have gL2 := s4 _ _ gL2
  have hLG : L ≠ G := ne_of_none (by assumption) nG
  have hLG2 : L2 ≠ G := ne_of_none (by assumption) nG
  have s34 := s3.trans s4
  generalize upd H3 G (HO.lst (ws.map V.int)) = H4 at *
  clear s3 s4 nG
  walk_at "go"
  intro p dx np ndx npx
  have sC : Same H4 (upd (upd H4 dx (.own p)) p (.ins C dx [])) := (same_upd ndx).trans (same_upd (by rw [upd_ne npx.symm]; exact np))
  refine ⟨p, dx, G, ws, rfl, upd_same, .inl (sC _ _ gG), sm, fun wt st H5 hs b5 => ⟨rfl, ?_⟩⟩
  have s45 : Same H4 H5 := fun b o e => b5 _ _ (ne_of_none e np) (sC _ _ e)
  have s5 := s34.trans s45
  have gG := s45 _ _ gG
  have gL := s45 _ _ gL
  have gL2 := s45 _ _ gL2
  clear sC s45 s34 b5 np ndx npx
  walk_at "go"
  refine ⟨L2, _, rfl, .inl ⟨SqL.of gL2, fun tt ntt => ?_⟩⟩
  have s6 := same_upd (o := HO.tup (ws2.map V.int)) ntt
  have gtt := upd_same (H := H5) (a := tt) (o := HO.tup (ws2.map V.int))
  have gG := s6 _ _ gG
  have gL := s6 _ _ gL
  have gL2 := s6 _ _ gL2
  have hs := hs.same s6
  have s56 := s5.trans s6
  generalize upd H5 tt (HO.tup (ws2.map V.int)) = H6 at *
  clear s5 s6 ntt
  walk_at "go"
  intro p2 dx2 np ndx npx
  have sC : Same H6 (upd (upd H6 dx2 (.own p2)) p2 (.ins C dx2 [])) := (same_upd ndx).trans (same_upd (by rw [upd_ne npx.symm]; exact np))
  refine ⟨p2, dx2, tt, ws2, rfl, upd_same, .inr (sC _ _ gtt), sm2, fun wt2 st2 H7 hs2 b7 => ⟨rfl, ?_⟩⟩
  have s67 : Same H6 H7 := fun b o e => b7 _ _ (ne_of_none e np) (sC _ _ e)
  have s7 := s56.trans s67
  have gG := s67 _ _ gG
  have gL := s67 _ _ gL
  have gL2 := s67 _ _ gL2
  have hs := hs.same s67
  clear sC s67 s56 b7 np ndx npx gtt
  have dleL : Dle 4 (.list (ws.map PyData.int)) := ⟨by rw [List.length_map]; omega, fun e he => by
    obtain ⟨x, _, rfl⟩ := List.mem_map.mp he
    trivial⟩
  refine jnS (M := fun σ H' => Same H7 H' ∧ σ = [sR a, sR L, sR L2, none, sR G, sR p, sR p2, none, none, none, none]) ?_ (fun N kk => ?_)
  rotate_left
  · walk_at "go"
    refine ⟨_, _, .list (ws.map PyData.int), .list (ws.map PyData.int), rfl, ⟨G, _, rfl, gG, dh_ints _⟩, ⟨L, _, rfl, gL, dh_ints _⟩, dleL, fun bo H8 hb s8 => ?_⟩
    obtain rfl : bo = true := hb.mpr rfl
    walk_at "go"
    exact kk _ _ ⟨s8, rfl⟩
  rintro σ H8 ⟨s8, rfl⟩
  have gG := s8 _ _ gG
  have gL := s8 _ _ gL
  have gL2 := s8 _ _ gL2
  have hs := hs.same s8
  have hs2 := hs2.same s8
  have s8 := s7.trans s8
  clear s7 dleL
  have tw : atI (ws.map V.int) 0 = some (.int (ws.getD 0 0)) := atI_getD (Int.le_refl 0) (by omega)
  walk_at "go"
  refine ⟨_, _, _, .int (ws.getD 0 0), rfl, rfl, SqL.of gG, tw, ?_⟩
  walk_at "go"
  refine ⟨G, _, 0, 0, rfl, rfl, gG, (by unfold ixN; rw [if_pos (Int.le_refl 0), if_pos (by rw [List.length_map]; omega)]; rfl), ?_⟩
  have gG9 := upd_same (H := H8) (a := G) (o := HO.lst ((ws.map V.int).set 0 (V.int (10 - ws.getD 0 0))))
  have s9 := same_put (o := HO.lst ((ws.map V.int).set 0 (V.int (10 - ws.getD 0 0)))) s8 nG0
  have gL9 : (upd H8 G (HO.lst ((ws.map V.int).set 0 (V.int (10 - ws.getD 0 0))))) L = some (.lst (ws.map V.int)) := by
    rw [upd_ne hLG]
    exact gL
  have gL29 : (upd H8 G (HO.lst ((ws.map V.int).set 0 (V.int (10 - ws.getD 0 0))))) L2 = some (.lst (ws2.map V.int)) := by
    rw [upd_ne hLG2]
    exact gL2
  have hs9 := hs.put (ys := (ws.map V.int).set 0 (V.int (10 - ws.getD 0 0))) gG
  have hs29 := hs2.put (ys := (ws.map V.int).set 0 (V.int (10 - ws.getD 0 0))) gG
  have lset : ((ws.map V.int).set 0 (V.int (10 - ws.getD 0 0))).length ≤ 1000000 := by
    rw [List.length_set, List.length_map]
    omega
  show _
  generalize (ws.map V.int).set 0 (V.int (10 - ws.getD 0 0)) = gs at *
  generalize upd H8 G (HO.lst gs) = H9 at *
  clear s8 gG gL gL2 hs hs2
  walk_at "go"
  refine ⟨_, _, _, rfl, rfl, gG9, sz5 lset, ?_⟩
  have s10 := same_put (o := HO.lst (gs ++ [V.int 2])) s9 nG0
  have gL : (upd H9 G (HO.lst (gs ++ [V.int 2]))) L = some (.lst (ws.map V.int)) := by
    rw [upd_ne hLG]
    exact gL9
  have gL2 : (upd H9 G (HO.lst (gs ++ [V.int 2]))) L2 = some (.lst (ws2.map V.int)) := by
    rw [upd_ne hLG2]
    exact gL29
  have hs := hs9.put (ys := gs ++ [V.int 2]) gG9
  have hs2 := hs29.put (ys := gs ++ [V.int 2]) gG9
  show _
  generalize upd H9 G (HO.lst (gs ++ [V.int 2])) = H10 at *
  clear s9 gG9 gL9 gL29 hs9 hs29 lset
  walk_at "go"
  refine ⟨sm, fun sp H11 s11 nsp gsp => ?_⟩
  have gL := s11 _ _ gL
  have gL2 := s11 _ _ gL2
  have hs := hs.same s11
  have hs2 := hs2.same s11
  have s11 := s10.trans s11
  have e0 := span0_mul l0
  have sb := span_b sm 0
  clear s10 nsp
  walk_at "go"
  refine ⟨_, _, _, .int (spanN ws 0), rfl, rfl, SqL.of gsp, atI_nat (j := 0) (by rw [List.getElem?_map, spans_get l0]; rfl), ?_⟩
  walk_at "go"
  refine ⟨_, _, _, .int (ws.getD 0 0), rfl, rfl, SqL.of gL, tw, ?_⟩
  walk_at "go"
  have hS11 := s11.seq hS
  have n0 : 0 ≤ num ns 0 9 6 := num_nn (by decide)
  have n1 : num ns 0 9 6 < 6 := num_lt (by decide)
  have tb : 1 ≤ spanN ws 0 * ws.getD 0 0 ∧ spanN ws 0 * ws.getD 0 0 ≤ 1000000 := by
    rw [e0]
    exact pb
  clear e0 sb tw gsp pb l0
  refine jnS (M := fun _ _ => True) (fun σ H' _ => ?_) (fun N kk => ?_)
  · walk_at "go"
    exact q _
  walk_at "go"
  refine ⟨_, _, rfl, ⟨by omega, by omega, by omega, by omega⟩, for_range (lo := 1) (n := (2 + num ns 0 9 6 - 1).toNat) (fun j σ H' => Ob (Same H11 H' ∧ ∃ y8 y9 y10, σ = [sR a, sR L, sR L2, none, sR G, sR p, sR p2, sI (spanN ws 0 * ws.getD 0 0), y8, y9, y10])) (ob ⟨same_rfl, none, none, none, rfl⟩) ?_ ?_⟩
  · intro j σ H12 hj h
    obtain ⟨s12, y8, y9, y10, rfl⟩ := unob h
    generalize spanN ws 0 * ws.getD 0 0 = tot at *
    clear kk h
    walk_at "go"
    refine ⟨_, _, _, _, rfl, s12.seq hS11, hl, by omega, by omega, tb.1, tb.2, fun v H13 s13 v0 v1 => ?_⟩
    have s13 := s12.trans s13
    walk_at "go"
    refine un ?_
    walk_at "go"
    refine ⟨by omega, by omega, for_range (lo := 0) (n := 2) (fun j2 σ H' => Ob (Same H11 H' ∧ ∃ y10, σ = [sR a, sR L, sR L2, none, sR G, sR p, sR p2, sI tot, sI (1 + (j : Int)), sI v, y10])) (ob ⟨s13, y10, rfl⟩) ?_ ?_⟩
    · intro j2 σ H14 hj2 h
      obtain ⟨s14, y10, rfl⟩ := unob h
      have gL := s14 _ _ gL
      have gL2 := s14 _ _ gL2
      have hs := hs.same s14
      have hs2 := hs2.same s14
      refine jnS (M := fun σ H' => Same H14 H' ∧ σ = [sR a, sR L, sR L2, none, sR G, sR p, sR p2, sI tot, sI (1 + (j : Int)), sI v, sI (0 + (j2 : Int))]) ?_ (fun N kk => ?_)
      rotate_left
      · walk_at "go"
        refine ⟨p, wt, st, dx, L, ws, rfl, hs, gL, fun H15 s15 => ?_⟩
        walk_at "go"
        refine ⟨p, wt, st, dx, L, ws, v, rfl, hs.same s15, s15 _ _ gL, by omega, by omega, fun H16 s16 => ?_⟩
        walk_at "go"
        exact kk _ _ ⟨s15.trans s16, rfl⟩
      rintro σ H15 ⟨s15, rfl⟩
      have gL2 := s15 _ _ gL2
      have hs2 := hs2.same s15
      refine un ?_
      walk_at "go"
      refine ⟨p2, wt2, st2, dx2, L2, ws2, rfl, hs2, gL2, fun H16 s16 => ?_⟩
      walk_at "go"
      refine ⟨p2, wt2, st2, dx2, L2, ws2, v, rfl, hs2.same s16, s16 _ _ gL2, by omega, by omega, fun H17 s17 => ?_⟩
      walk_at "go"
      exact ob ⟨s14.trans (s15.trans (s16.trans s17)), _, rfl⟩
    · intro σ H14 h
      obtain ⟨s14, y10, rfl⟩ := unob h
      exact ob ⟨s14, _, _, _, rfl⟩
  · intro σ H12 h
    exact kk _ _ trivial
end

end

section

-- a condition of an operator
local macro_rules | `(tactic| walk_at "cond") => `(tactic| first
  | (show (0 : Int) < _; omega)
  | (show CDiv _ _; constructor <;> (first | decide | omega))
  | (show CMul _ _; first | (refine cmul_l ?_; constructor <;> (first | decide | omega)) | (refine cmul_r ?_; constructor <;> (first | decide | omega)))
  | (show CPow _ _; exact (by refine ⟨by decide, by decide, by decide⟩))
  | (show CDivW _ _; exact ⟨by decide, by decide +kernel⟩))
local macro_rules | `(tactic| walk_at "sq") => `(tactic| first | assumption | exact Dh.mono (same_upd (by assumption)) _ _ (by assumption) | exact .inl (.inl (.inl (by assumption))) | exact .inr (.inl (.inl (by assumption))) | exact SqL.of (by assumption) | exact .inl (by assumption) | exact .inl (SqL.of (by assumption)) | exact SqT.of (by assumption) | exact .inr (SqT.of (by assumption)))
local macro_rules | `(tactic| walk_at "st") => `(tactic| first
  | refine ⟨_, rfl, ?_⟩
  | refine ⟨_, _, rfl, rfl, ?_⟩
  | refine .inl ⟨_, rfl, ?_⟩
  | refine ⟨rfl, ?_⟩
  | refine ⟨_, _, rfl, by walk_at "sq", ?_⟩
  | refine ⟨.inl ⟨rfl, _, SqL.of (by assumption)⟩, ?_⟩
  | refine ⟨by walk_at "cond", ?_⟩
  | (refine' ifBT ?hh ?_; (case hh => first | rfl | assumption))
  | (refine' ifBF ?hh ?_; (case hh => first | rfl | assumption)))
local macro_rules | `(tactic| walk_at "go") => `(tactic| repeat walk_at "st")
local macro_rules | `(tactic| walk_at "yes") => `(tactic| (refine' ifT ?hh ?_; (case hh => first | rfl | decide +kernel)))
local macro_rules | `(tactic| walk_at "no") => `(tactic| (refine' ifF ?hh ?_; (case hh => first | decide +kernel | (intro z; cases z; done))))

theorem all_mk {l : PySem.W.OpenLaw} {w : World} {K : PySem.W.Frag} {h : Heap} {mg : Str → Option Value} {fa : Addr} (X : K.In h) (G : h.Ns mainGlobals mg) (hfa : mg "law" = some (.ref fa))
    {CS : Addr} (aCS : PySem.W.nsIn K mainGlobals "Shape" = some (some (.ref CS)))
    {od_m_init an_m_init : Option Addr} {sl_m_init : Array (Option Value)} {f_m_init : Addr} {oc_m_init kV_m_init dc_m_init pm_m_init cd_m_init ct_m_init : Value}
    (a_m_init : PySem.W.findIn K (.ref CS) "__init__" = some (some (.ref f_m_init))) (i_m_init : PySem.W.isFn K (.ref f_m_init) = true)
    (l_m_init : K.lookup f_m_init = some ⟨oc_m_init, od_m_init, .func (PySem.W.fnOf "__init__" "Shape.__init__" (C8.fnArgs s_Shape___init__) (C8.fnBody s_Shape___init__) (C8.fnScope s_Shape___init__) .none kV_m_init dc_m_init pm_m_init an_m_init cd_m_init ct_m_init), sl_m_init⟩)
    (c_m_init : PySem.W.codeIn K cd_m_init "Shape.__init__" = true) (k_m_init : PySem.W.keepIn K (.ref f_m_init) = true)
    {od_m_span an_m_span : Option Addr} {sl_m_span : Array (Option Value)} {f_m_span : Addr} {oc_m_span kV_m_span dc_m_span pm_m_span cd_m_span ct_m_span : Value}
    (a_m_span : PySem.W.findIn K (.ref CS) "span" = some (some (.ref f_m_span))) (i_m_span : PySem.W.isFn K (.ref f_m_span) = true)
    (l_m_span : K.lookup f_m_span = some ⟨oc_m_span, od_m_span, .func (PySem.W.fnOf "span" "Shape.span" (C8.fnArgs s_Shape_span) (C8.fnBody s_Shape_span) (C8.fnScope s_Shape_span) .none kV_m_span dc_m_span pm_m_span an_m_span cd_m_span ct_m_span), sl_m_span⟩)
    (c_m_span : PySem.W.codeIn K cd_m_span "Shape.span" = true) (k_m_span : PySem.W.keepIn K (.ref f_m_span) = true)
    {od_m_path an_m_path : Option Addr} {sl_m_path : Array (Option Value)} {f_m_path : Addr} {oc_m_path kV_m_path dc_m_path pm_m_path cd_m_path ct_m_path : Value}
    (a_m_path : PySem.W.findIn K (.ref CS) "path" = some (some (.ref f_m_path))) (i_m_path : PySem.W.isFn K (.ref f_m_path) = true)
    (l_m_path : K.lookup f_m_path = some ⟨oc_m_path, od_m_path, .func (PySem.W.fnOf "path" "Shape.path" (C8.fnArgs s_Shape_path) (C8.fnBody s_Shape_path) (C8.fnScope s_Shape_path) .none kV_m_path dc_m_path pm_m_path an_m_path cd_m_path ct_m_path), sl_m_path⟩)
    (c_m_path : PySem.W.codeIn K cd_m_path "Shape.path" = true) (k_m_path : PySem.W.keepIn K (.ref f_m_path) = true)
    {od_m_page_at an_m_page_at : Option Addr} {sl_m_page_at : Array (Option Value)} {f_m_page_at : Addr} {oc_m_page_at kV_m_page_at dc_m_page_at pm_m_page_at cd_m_page_at ct_m_page_at : Value}
    (a_m_page_at : PySem.W.findIn K (.ref CS) "page_at" = some (some (.ref f_m_page_at))) (i_m_page_at : PySem.W.isFn K (.ref f_m_page_at) = true)
    (l_m_page_at : K.lookup f_m_page_at = some ⟨oc_m_page_at, od_m_page_at, .func (PySem.W.fnOf "page_at" "Shape.page_at" (C8.fnArgs s_Shape_page_at) (C8.fnBody s_Shape_page_at) (C8.fnScope s_Shape_page_at) .none kV_m_page_at dc_m_page_at pm_m_page_at an_m_page_at cd_m_page_at ct_m_page_at), sl_m_page_at⟩)
    (c_m_page_at : PySem.W.codeIn K cd_m_page_at "Shape.page_at" = true) (k_m_page_at : PySem.W.keepIn K (.ref f_m_page_at) = true)
    {od_m_block_at an_m_block_at : Option Addr} {sl_m_block_at : Array (Option Value)} {f_m_block_at : Addr} {oc_m_block_at kV_m_block_at dc_m_block_at pm_m_block_at cd_m_block_at ct_m_block_at : Value}
    (a_m_block_at : PySem.W.findIn K (.ref CS) "block_at" = some (some (.ref f_m_block_at))) (i_m_block_at : PySem.W.isFn K (.ref f_m_block_at) = true)
    (l_m_block_at : K.lookup f_m_block_at = some ⟨oc_m_block_at, od_m_block_at, .func (PySem.W.fnOf "block_at" "Shape.block_at" (C8.fnArgs s_Shape_block_at) (C8.fnBody s_Shape_block_at) (C8.fnScope s_Shape_block_at) .none kV_m_block_at dc_m_block_at pm_m_block_at an_m_block_at cd_m_block_at ct_m_block_at), sl_m_block_at⟩)
    (c_m_block_at : PySem.W.codeIn K cd_m_block_at "Shape.block_at" = true) (k_m_block_at : PySem.W.keepIn K (.ref f_m_block_at) = true)
    (pgCS : PySem.W.plainGet K CS Str.empty = true) (hdCS : PySem.W.hasDictIn K CS = true) (poCS : PySem.W.plainOver K CS = true) (saCS : PySem.W.findIn K (.ref CS) "__setattr__" = some (some (.builtin "object.__setattr__"))) (mkCS : PySem.W.makesIn K CS = true) (kcCS : PySem.W.keepIn K (.ref CS) = true)
    (nWS : PySem.W.findIn K (.ref CS) "widths" = some none)
    (nLS : PySem.W.findIn K (.ref CS) "levels" = some none)
    (nSS : PySem.W.findIn K (.ref CS) "_spans" = some none)
    (nPS : PySem.W.findIn K (.ref CS) "page_count" = some none)
    {D fE cc cE NE : Addr} {ocE cclE clE kVE docE pmE ctvE : Value} {odE anE cddE cldE ddE : Option Addr} {oslE ccsE cslE : Array (Option Value)} {vsE : Array Value} {fileE : Str} {tfE : Tok}
    {nmE qE : Str} {bsE bmE : List Value} {snE : List Str} {subE : List Value} {abE : Bool} {colE : Option Bool} {k0E k1E k2E k3E k5E : Option Value}
    (aD : PySem.W.nsIn K mainGlobals "BadRange" = some (some (.ref D)))
    (iC : PySem.W.findIn K (.ref D) "__init__" = some (some (.ref fE))) (tI : PySem.W.typeIn K (.ref fE) = some (.type "function"))
    (lF : K.lookup fE = some ⟨ocE, odE, .func (PySem.W.fnX "__init__" "BadRange.__init__" (C8.fnArgs s_BadRange_init) (C8.fnBody s_BadRange_init) (C8.fnScope s_BadRange_init) [("__class__", cc)] .none kVE docE pmE anE (.ref cE) ctvE), oslE⟩)
    (cF : PySem.W.codeIn K (.ref cE) "BadRange.__init__" = true) (lc : K.lookup cE = some ⟨cclE, cddE, .fields vsE, ccsE⟩) (x_hv : vsE[2]? = some (.str fileE tfE)) (x_hf : ((l.prog.main.file : Str) == fileE) = true) (x_tp : (l.prog.main.scope.names.lookup ("super" : Str)).isSome = false)
    (lcc : K.lookup cc = some ⟨clE, cldE, .cell (some (.ref D)), cslE⟩) (zsuper : PySem.W.nsIn K mainGlobals "super" = some none)
    (lD : K.lookup D = some (excClassObj nmE qE D NE bsE bmE true snE subE abE colE ddE k0E k1E k2E k3E k5E "ValueError.__new__")) (x_rb : PySem.HandSPX.refsVE bmE = true)
    (saD : PySem.W.findIn K (.ref D) "__setattr__" = some (some (.builtin "object.__setattr__"))) (exD : PySem.W.subIn K (.ref D) (.type "BaseException") = some true) (tyD : PySem.W.typeIn K (.ref D) = some (.type "type")) (kD : PySem.W.keepIn K (.ref D) = true)
    (mrD : PySem.W.mroIn K D (.ref D) = some true) (x_iniD : PySem.W.ks_superIn K D D "__init__" = some (some (.builtin "ValueError.__init__"))) (veD : PySem.W.subIn K (.ref D) (.type "ValueError") = some true) (anyD : PySem.W.nsIn K cStatics "thirdparty.any" = some none)
    (nSD : PySem.W.findIn K (.ref D) "start" = some none) (nED : PySem.W.findIn K (.ref D) "end" = some none)
    {AE PgE U DN BF LE ME FE CE : Addr}
    (aAE : PySem.W.nsIn K mainGlobals "AccessError" = some (some (.ref AE)))
    (aPgE : PySem.W.nsIn K mainGlobals "PagesError" = some (some (.ref PgE)))
    (aU : PySem.W.nsIn K mainGlobals "Unmapped" = some (some (.ref U)))
    (aDN : PySem.W.nsIn K mainGlobals "Denied" = some (some (.ref DN)))
    (aBF : PySem.W.nsIn K mainGlobals "BeyondFile" = some (some (.ref BF)))
    (aLE : PySem.W.nsIn K mainGlobals "LimitError" = some (some (.ref LE)))
    (aME : PySem.W.nsIn K mainGlobals "MissingError" = some (some (.ref ME)))
    (aFE : PySem.W.nsIn K mainGlobals "FileError" = some (some (.ref FE)))
    (aCE : PySem.W.nsIn K mainGlobals "CodeError" = some (some (.ref CE)))
    (zValueError : PySem.W.nsIn K mainGlobals "ValueError" = some none)
    (hgD : PySem.W.findIn K (.ref D) "__getattribute__" = some (some (.builtin "BaseException.__getattribute__")))
    (hkD : PySem.W.findIn K (.ref D) "__getattr__" = some none)
    (hdD : PySem.W.hasDictIn K D = true)
    (haD : PySem.W.findIn K (.ref D) "__class__" = some (some (.builtin "object.__class__")))
    (hnD : PySem.W.specialIn K (.builtin "object.__class__") "__get__" = some (some (.builtin "getset_descriptor.__get__")))
    (htD : PySem.W.takesIn K (.builtin "object.__class__") = some true)
    (hmD : PySem.W.mroIn K D (.type "object") = some true)
    (x_ex : PySem.W.exmOne K (.ref D) (.ref AE) = some true)
    (x_iB : PySem.W.kitOne K (.ref D) (.ref D) = some true)
    (x_iP : PySem.W.kitOne K (.ref D) (.ref PgE) = some true)
    (x_iV : PySem.W.kitOne K (.ref D) (.type "ValueError") = some true)
    (x_iN : PySem.W.kitAny K (.ref D) [.ref U, .ref DN, .ref BF, .ref LE, .ref ME, .ref FE, .ref CE] = some false)
    {od_check_range an_check_range : Option Addr} {sl_check_range : Array (Option Value)} {f_check_range : Addr} {oc_check_range kV_check_range dc_check_range pm_check_range cd_check_range ct_check_range : Value}
    (a_check_range : PySem.W.nsIn K mainGlobals "check_range" = some (some (.ref f_check_range)))
    (l_check_range : K.lookup f_check_range = some ⟨oc_check_range, od_check_range, .func (PySem.W.fnOf "check_range" "check_range" (C8.fnArgs s_check_range) (C8.fnBody s_check_range) (C8.fnScope s_check_range) .none kV_check_range dc_check_range pm_check_range an_check_range cd_check_range ct_check_range), sl_check_range⟩)
    (c_check_range : PySem.W.codeIn K cd_check_range "check_range" = true) (k_check_range : PySem.W.keepIn K (.ref f_check_range) = true)
    {od_spans_of an_spans_of : Option Addr} {sl_spans_of : Array (Option Value)} {f_spans_of : Addr} {oc_spans_of kV_spans_of dc_spans_of pm_spans_of cd_spans_of ct_spans_of : Value}
    (a_spans_of : PySem.W.nsIn K mainGlobals "_spans_of" = some (some (.ref f_spans_of)))
    (l_spans_of : K.lookup f_spans_of = some ⟨oc_spans_of, od_spans_of, .func (PySem.W.fnOf "_spans_of" "_spans_of" (C8.fnArgs s_spans_of) (C8.fnBody s_spans_of) (C8.fnScope s_spans_of) .none kV_spans_of dc_spans_of pm_spans_of an_spans_of cd_spans_of ct_spans_of), sl_spans_of⟩)
    (c_spans_of : PySem.W.codeIn K cd_spans_of "_spans_of" = true) (k_spans_of : PySem.W.keepIn K (.ref f_spans_of) = true)
    {od_number an_number : Option Addr} {sl_number : Array (Option Value)} {f_number : Addr} {oc_number kV_number dc_number pm_number cd_number ct_number : Value}
    (a_number : PySem.W.nsIn K mainGlobals "_law_number" = some (some (.ref f_number)))
    (l_number : K.lookup f_number = some ⟨oc_number, od_number, .func (PySem.W.fnOf "_law_number" "_law_number" (C8.fnArgs s_number) (C8.fnBody s_number) (C8.fnScope s_number) .none kV_number dc_number pm_number an_number cd_number ct_number), sl_number⟩)
    (c_number : PySem.W.codeIn K cd_number "_law_number" = true) (k_number : PySem.W.keepIn K (.ref f_number) = true)
    {od_is_whole an_is_whole : Option Addr} {sl_is_whole : Array (Option Value)} {f_is_whole : Addr} {oc_is_whole kV_is_whole dc_is_whole pm_is_whole cd_is_whole ct_is_whole : Value}
    (a_is_whole : PySem.W.nsIn K mainGlobals "_law_is_whole" = some (some (.ref f_is_whole)))
    (l_is_whole : K.lookup f_is_whole = some ⟨oc_is_whole, od_is_whole, .func (PySem.W.fnOf "_law_is_whole" "_law_is_whole" (C8.fnArgs s_is_whole) (C8.fnBody s_is_whole) (C8.fnScope s_is_whole) .none kV_is_whole dc_is_whole pm_is_whole an_is_whole cd_is_whole ct_is_whole), sl_is_whole⟩)
    (c_is_whole : PySem.W.codeIn K cd_is_whole "_law_is_whole" = true) (k_is_whole : PySem.W.keepIn K (.ref f_is_whole) = true)
    {od_same an_same : Option Addr} {sl_same : Array (Option Value)} {f_same : Addr} {oc_same kV_same dc_same pm_same cd_same ct_same : Value}
    (a_same : PySem.W.nsIn K mainGlobals "_law_same" = some (some (.ref f_same)))
    (l_same : K.lookup f_same = some ⟨oc_same, od_same, .func (PySem.W.fnOf "_law_same" "_law_same" (C8.fnArgs s_same) (C8.fnBody s_same) (C8.fnScope s_same) .none kV_same dc_same pm_same an_same cd_same ct_same), sl_same⟩)
    (c_same : PySem.W.codeIn K cd_same "_law_same" = true) (k_same : PySem.W.keepIn K (.ref f_same) = true)
    {od_fan_spans an_fan_spans : Option Addr} {sl_fan_spans : Array (Option Value)} {f_fan_spans : Addr} {oc_fan_spans kV_fan_spans dc_fan_spans pm_fan_spans cd_fan_spans ct_fan_spans : Value}
    (a_fan_spans : PySem.W.nsIn K mainGlobals "_law_fan_spans" = some (some (.ref f_fan_spans)))
    (l_fan_spans : K.lookup f_fan_spans = some ⟨oc_fan_spans, od_fan_spans, .func (PySem.W.fnOf "_law_fan_spans" "_law_fan_spans" (C8.fnArgs s_fan_spans) (C8.fnBody s_fan_spans) (C8.fnScope s_fan_spans) .none kV_fan_spans dc_fan_spans pm_fan_spans an_fan_spans cd_fan_spans ct_fan_spans), sl_fan_spans⟩)
    (c_fan_spans : PySem.W.codeIn K cd_fan_spans "_law_fan_spans" = true) (k_fan_spans : PySem.W.keepIn K (.ref f_fan_spans) = true)
    {od_fan an_fan : Option Addr} {sl_fan : Array (Option Value)} {f_fan : Addr} {oc_fan kV_fan dc_fan pm_fan cd_fan ct_fan : Value}
    (a_fan : PySem.W.nsIn K mainGlobals "_law_fan" = some (some (.ref f_fan)))
    (l_fan : K.lookup f_fan = some ⟨oc_fan, od_fan, .func (PySem.W.fnOf "_law_fan" "_law_fan" (C8.fnArgs s_fan) (C8.fnBody s_fan) (C8.fnScope s_fan) .none kV_fan dc_fan pm_fan an_fan cd_fan ct_fan), sl_fan⟩)
    (c_fan : PySem.W.codeIn K cd_fan "_law_fan" = true) (k_fan : PySem.W.keepIn K (.ref f_fan) = true)
    {od_page an_page : Option Addr} {sl_page : Array (Option Value)} {f_page : Addr} {oc_page kV_page dc_page pm_page cd_page ct_page : Value}
    (a_page : PySem.W.nsIn K mainGlobals "_law_page" = some (some (.ref f_page)))
    (l_page : K.lookup f_page = some ⟨oc_page, od_page, .func (PySem.W.fnOf "_law_page" "_law_page" (C8.fnArgs s_page) (C8.fnBody s_page) (C8.fnScope s_page) .none kV_page dc_page pm_page an_page cd_page ct_page), sl_page⟩)
    (c_page : PySem.W.codeIn K cd_page "_law_page" = true) (k_page : PySem.W.keepIn K (.ref f_page) = true)
    {od_outside an_outside : Option Addr} {sl_outside : Array (Option Value)} {f_outside : Addr} {oc_outside kV_outside dc_outside pm_outside cd_outside ct_outside : Value}
    (a_outside : PySem.W.nsIn K mainGlobals "_law_outside" = some (some (.ref f_outside)))
    (l_outside : K.lookup f_outside = some ⟨oc_outside, od_outside, .func (PySem.W.fnOf "_law_outside" "_law_outside" (C8.fnArgs s_outside) (C8.fnBody s_outside) (C8.fnScope s_outside) .none kV_outside dc_outside pm_outside an_outside cd_outside ct_outside), sl_outside⟩)
    (c_outside : PySem.W.codeIn K cd_outside "_law_outside" = true) (k_outside : PySem.W.keepIn K (.ref f_outside) = true)
    {od_shape_good an_shape_good : Option Addr} {sl_shape_good : Array (Option Value)} {f_shape_good : Addr} {oc_shape_good kV_shape_good dc_shape_good pm_shape_good cd_shape_good ct_shape_good : Value}
    (a_shape_good : PySem.W.nsIn K mainGlobals "_law_shape_good" = some (some (.ref f_shape_good)))
    (l_shape_good : K.lookup f_shape_good = some ⟨oc_shape_good, od_shape_good, .func (PySem.W.fnOf "_law_shape_good" "_law_shape_good" (C8.fnArgs s_shape_good) (C8.fnBody s_shape_good) (C8.fnScope s_shape_good) .none kV_shape_good dc_shape_good pm_shape_good an_shape_good cd_shape_good ct_shape_good), sl_shape_good⟩)
    (c_shape_good : PySem.W.codeIn K cd_shape_good "_law_shape_good" = true) (k_shape_good : PySem.W.keepIn K (.ref f_shape_good) = true)
    {od_page_good an_page_good : Option Addr} {sl_page_good : Array (Option Value)} {f_page_good : Addr} {oc_page_good kV_page_good dc_page_good pm_page_good cd_page_good ct_page_good : Value}
    (a_page_good : PySem.W.nsIn K mainGlobals "_law_page_good" = some (some (.ref f_page_good)))
    (l_page_good : K.lookup f_page_good = some ⟨oc_page_good, od_page_good, .func (PySem.W.fnOf "_law_page_good" "_law_page_good" (C8.fnArgs s_page_good) (C8.fnBody s_page_good) (C8.fnScope s_page_good) .none kV_page_good dc_page_good pm_page_good an_page_good cd_page_good ct_page_good), sl_page_good⟩)
    (c_page_good : PySem.W.codeIn K cd_page_good "_law_page_good" = true) (k_page_good : PySem.W.keepIn K (.ref f_page_good) = true)
    {od_law an_law : Option Addr} {sl_law : Array (Option Value)} {f_law : Addr} {oc_law kV_law dc_law pm_law cd_law ct_law : Value}
    (a_law : PySem.W.nsIn K mainGlobals "law" = some (some (.ref f_law)))
    (l_law : K.lookup f_law = some ⟨oc_law, od_law, .func (PySem.W.fnOf "law" "law" (C8.fnArgs s_law) (C8.fnBody s_law) (C8.fnScope s_law) .none kV_law dc_law pm_law an_law cd_law ct_law), sl_law⟩)
    (c_law : PySem.W.codeIn K cd_law "law" = true) (k_law : PySem.W.keepIn K (.ref f_law) = true)
    (z_len : PySem.W.nsIn K mainGlobals "len" = some none)
    (z_abs : PySem.W.nsIn K mainGlobals "abs" = some none)
    (z_int : PySem.W.nsIn K mainGlobals "int" = some none)
    (z_range : PySem.W.nsIn K mainGlobals "range" = some none)
    (z_isinstance : PySem.W.nsIn K mainGlobals "isinstance" = some none)
    (z_bool : PySem.W.nsIn K mainGlobals "bool" = some none)
    (z_str : PySem.W.nsIn K mainGlobals "str" = some none)
    (z_list : PySem.W.nsIn K mainGlobals "list" = some none)
    (z_tuple : PySem.W.nsIn K mainGlobals "tuple" = some none)
    (z_reversed : PySem.W.nsIn K mainGlobals "reversed" = some none)
    (z_zip : PySem.W.nsIn K mainGlobals "zip" = some none)
    (z_sum : PySem.W.nsIn K mainGlobals "sum" = some none) :
    ∃ fd : FuncData, (∀ (s : Shared) (v : Value), BindsTo s fd ⟨[v], []⟩ [("_law_script", v)]) ∧ ∀ base : Heap, K.In base → base.Ns mainGlobals mg → FnOk l.prog w K mg base C8.CX0 7 fa fd ["_law_script"] (spLaw K) := by
  have e := hfa.symm.trans (PySem.W.mg_of X G a_law)
  cases e
  have T : Txt mg := ⟨PySem.W.mg_none_of X G z_len, PySem.W.mg_none_of X G z_abs, PySem.W.mg_none_of X G z_int, PySem.W.mg_none_of X G z_range, PySem.W.mg_none_of X G z_isinstance, PySem.W.mg_none_of X G z_bool, PySem.W.mg_none_of X G z_str, PySem.W.mg_none_of X G z_list, PySem.W.mg_none_of X G z_tuple⟩
  have T1 : Txt1 mg := ⟨PySem.W.mg_none_of X G z_len, PySem.W.mg_none_of X G z_reversed, PySem.W.mg_none_of X G z_tuple, PySem.W.mg_none_of X G z_zip, PySem.W.mg_none_of X G z_sum⟩
  have F_m_init : C8.Fun K "__init__" "Shape.__init__" s_Shape___init__ f_m_init _ := ⟨oc_m_init, od_m_init, .none, kV_m_init, dc_m_init, pm_m_init, an_m_init, cd_m_init, ct_m_init, sl_m_init, rfl, l_m_init, c_m_init⟩
  have b_m_init := F_m_init.binds (ps := ["self", "widths"]) rfl fun _ _ _ _ _ _ us hl => match us, hl with | [_, _], _ => rfl
  have F_m_span : C8.Fun K "span" "Shape.span" s_Shape_span f_m_span _ := ⟨oc_m_span, od_m_span, .none, kV_m_span, dc_m_span, pm_m_span, an_m_span, cd_m_span, ct_m_span, sl_m_span, rfl, l_m_span, c_m_span⟩
  have b_m_span := F_m_span.binds (ps := ["self", "level"]) rfl fun _ _ _ _ _ _ us hl => match us, hl with | [_, _], _ => rfl
  have F_m_path : C8.Fun K "path" "Shape.path" s_Shape_path f_m_path _ := ⟨oc_m_path, od_m_path, .none, kV_m_path, dc_m_path, pm_m_path, an_m_path, cd_m_path, ct_m_path, sl_m_path, rfl, l_m_path, c_m_path⟩
  have b_m_path := F_m_path.binds (ps := ["self", "page"]) rfl fun _ _ _ _ _ _ us hl => match us, hl with | [_, _], _ => rfl
  have F_m_page_at : C8.Fun K "page_at" "Shape.page_at" s_Shape_page_at f_m_page_at _ := ⟨oc_m_page_at, od_m_page_at, .none, kV_m_page_at, dc_m_page_at, pm_m_page_at, an_m_page_at, cd_m_page_at, ct_m_page_at, sl_m_page_at, rfl, l_m_page_at, c_m_page_at⟩
  have b_m_page_at := F_m_page_at.binds (ps := ["self", "path"]) rfl fun _ _ _ _ _ _ us hl => match us, hl with | [_, _], _ => rfl
  have F_m_block_at : C8.Fun K "block_at" "Shape.block_at" s_Shape_block_at f_m_block_at _ := ⟨oc_m_block_at, od_m_block_at, .none, kV_m_block_at, dc_m_block_at, pm_m_block_at, an_m_block_at, cd_m_block_at, ct_m_block_at, sl_m_block_at, rfl, l_m_block_at, c_m_block_at⟩
  have b_m_block_at := F_m_block_at.binds (ps := ["self", "level", "page"]) rfl fun _ _ _ _ _ _ us hl => match us, hl with | [_, _, _], _ => rfl
  have TS : STxt K mg CS := ⟨⟨pgCS, hdCS, poCS, saCS⟩, nWS, nLS, nSS, nPS, PySem.W.mg_of X G aCS⟩
  obtain ⟨U_D, O_D⟩ := err_mk (P := l.prog) X G aD iC tI lF cF lc x_hv x_hf x_tp lcc zsuper rfl rfl rfl lD x_rb saD exD tyD kD mrD x_iniD veD anyD nSD nED
  have b_BR : Binds K (PySem.W.fnX "__init__" "BadRange.__init__" (C8.fnArgs s_BadRange_init) (C8.fnBody s_BadRange_init) (C8.fnScope s_BadRange_init) [("__class__", cc)] .none kVE docE pmE anE (.ref cE) ctvE) ["self", "start", "end"] [] := .all fun us hl => match us, hl with | [_, _, _], _ => rfl
  have TE : ETxt K mg D AE PgE U DN BF LE ME FE CE := ⟨PySem.W.mg_of X G aD, PySem.W.mg_of X G aAE, PySem.W.mg_of X G aPgE, PySem.W.mg_of X G aU, PySem.W.mg_of X G aDN, PySem.W.mg_of X G aBF, PySem.W.mg_of X G aLE, PySem.W.mg_of X G aME, PySem.W.mg_of X G aFE, PySem.W.mg_of X G aCE, PySem.W.mg_none_of X G zValueError, PySem.W.mg_none_of X G z_isinstance, ⟨hgD, hkD, exD, hdD, haD, hnD, htD, hmD⟩, ⟨hgD, hkD, exD, hdD⟩, nSD, nED, x_ex, x_iB, x_iP, x_iV, x_iN⟩
  have D_check_range : Def K mg "check_range" s_check_range f_check_range _ := ⟨⟨oc_check_range, od_check_range, .none, kV_check_range, dc_check_range, pm_check_range, an_check_range, cd_check_range, ct_check_range, sl_check_range, rfl, l_check_range, c_check_range⟩, PySem.W.mg_of X G a_check_range, k_check_range⟩
  have b_check_range := D_check_range.fn.binds (ps := ["start", "end", "limit"]) rfl fun _ _ _ _ _ _ us hl => match us, hl with | [_, _, _], _ => rfl
  have D_spans_of : Def K mg "_spans_of" s_spans_of f_spans_of _ := ⟨⟨oc_spans_of, od_spans_of, .none, kV_spans_of, dc_spans_of, pm_spans_of, an_spans_of, cd_spans_of, ct_spans_of, sl_spans_of, rfl, l_spans_of, c_spans_of⟩, PySem.W.mg_of X G a_spans_of, k_spans_of⟩
  have b_spans_of := D_spans_of.fn.binds (ps := ["widths"]) rfl fun _ _ _ _ _ _ us hl => match us, hl with | [_], _ => rfl
  have D_number : Def K mg "_law_number" s_number f_number _ := ⟨⟨oc_number, od_number, .none, kV_number, dc_number, pm_number, an_number, cd_number, ct_number, sl_number, rfl, l_number, c_number⟩, PySem.W.mg_of X G a_number, k_number⟩
  have b_number := D_number.fn.binds (ps := ["_law_script", "_law_at", "_law_k", "_law_size"]) rfl fun _ _ _ _ _ _ us hl => match us, hl with | [_, _, _, _], _ => rfl
  have D_is_whole : Def K mg "_law_is_whole" s_is_whole f_is_whole _ := ⟨⟨oc_is_whole, od_is_whole, .none, kV_is_whole, dc_is_whole, pm_is_whole, an_is_whole, cd_is_whole, ct_is_whole, sl_is_whole, rfl, l_is_whole, c_is_whole⟩, PySem.W.mg_of X G a_is_whole, k_is_whole⟩
  have b_is_whole := D_is_whole.fn.binds (ps := ["_law_told"]) rfl fun _ _ _ _ _ _ us hl => match us, hl with | [_], _ => rfl
  have D_same : Def K mg "_law_same" s_same f_same _ := ⟨⟨oc_same, od_same, .none, kV_same, dc_same, pm_same, an_same, cd_same, ct_same, sl_same, rfl, l_same, c_same⟩, PySem.W.mg_of X G a_same, k_same⟩
  have b_same := D_same.fn.binds (ps := ["_law_told", "_law_due"]) rfl fun _ _ _ _ _ _ us hl => match us, hl with | [_, _], _ => rfl
  have D_fan_spans : Def K mg "_law_fan_spans" s_fan_spans f_fan_spans _ := ⟨⟨oc_fan_spans, od_fan_spans, .none, kV_fan_spans, dc_fan_spans, pm_fan_spans, an_fan_spans, cd_fan_spans, ct_fan_spans, sl_fan_spans, rfl, l_fan_spans, c_fan_spans⟩, PySem.W.mg_of X G a_fan_spans, k_fan_spans⟩
  have b_fan_spans := D_fan_spans.fn.binds (ps := ["_law_fan_here"]) rfl fun _ _ _ _ _ _ us hl => match us, hl with | [_], _ => rfl
  have D_fan : Def K mg "_law_fan" s_fan f_fan _ := ⟨⟨oc_fan, od_fan, .none, kV_fan, dc_fan, pm_fan, an_fan, cd_fan, ct_fan, sl_fan, rfl, l_fan, c_fan⟩, PySem.W.mg_of X G a_fan, k_fan⟩
  have b_fan := D_fan.fn.binds (ps := ["_law_script", "_law_at", "_law_most"]) rfl fun _ _ _ _ _ _ us hl => match us, hl with | [_, _, _], _ => rfl
  have D_page : Def K mg "_law_page" s_page f_page _ := ⟨⟨oc_page, od_page, .none, kV_page, dc_page, pm_page, an_page, cd_page, ct_page, sl_page, rfl, l_page, c_page⟩, PySem.W.mg_of X G a_page, k_page⟩
  have b_page := D_page.fn.binds (ps := ["_law_script", "_law_at", "_law_total"]) rfl fun _ _ _ _ _ _ us hl => match us, hl with | [_, _, _], _ => rfl
  have D_outside : Def K mg "_law_outside" s_outside f_outside _ := ⟨⟨oc_outside, od_outside, .none, kV_outside, dc_outside, pm_outside, an_outside, cd_outside, ct_outside, sl_outside, rfl, l_outside, c_outside⟩, PySem.W.mg_of X G a_outside, k_outside⟩
  have b_outside := D_outside.fn.binds (ps := ["_law_shape", "_law_level", "_law_page_here"]) rfl fun _ _ _ _ _ _ us hl => match us, hl with | [_, _, _], _ => rfl
  have D_shape_good : Def K mg "_law_shape_good" s_shape_good f_shape_good _ := ⟨⟨oc_shape_good, od_shape_good, .none, kV_shape_good, dc_shape_good, pm_shape_good, an_shape_good, cd_shape_good, ct_shape_good, sl_shape_good, rfl, l_shape_good, c_shape_good⟩, PySem.W.mg_of X G a_shape_good, k_shape_good⟩
  have b_shape_good := D_shape_good.fn.binds (ps := ["_law_shape", "_law_fan_here"]) rfl fun _ _ _ _ _ _ us hl => match us, hl with | [_, _], _ => rfl
  have D_page_good : Def K mg "_law_page_good" s_page_good f_page_good _ := ⟨⟨oc_page_good, od_page_good, .none, kV_page_good, dc_page_good, pm_page_good, an_page_good, cd_page_good, ct_page_good, sl_page_good, rfl, l_page_good, c_page_good⟩, PySem.W.mg_of X G a_page_good, k_page_good⟩
  have b_page_good := D_page_good.fn.binds (ps := ["_law_shape", "_law_fan_here", "_law_page_here"]) rfl fun _ _ _ _ _ _ us hl => match us, hl with | [_, _, _], _ => rfl
  have D_law : Def K mg "law" s_law fa _ := ⟨⟨oc_law, od_law, .none, kV_law, dc_law, pm_law, an_law, cd_law, ct_law, sl_law, rfl, l_law, c_law⟩, PySem.W.mg_of X G a_law, k_law⟩
  refine ⟨PySem.W.fnOf "law" "law" (C8.fnArgs s_law) (C8.fnBody s_law) (C8.fnScope s_law) .none kV_law dc_law pm_law an_law cd_law ct_law, fun s v => .of_eq rfl, fun base _ _ => ?_⟩
  have F_BR := ok_BadRange (w := w) (base := base) (F := NF.of s_BadRange_init "__init__" "BadRange.__init__" [("__class__", cc)] cE) U_D nSD nED
  have e_check := ok_check F_BR O_D iC tI b_BR (PySem.W.mg_of X G aD) D_check_range b_check_range
  have c_spans := ok_spans (P := l.prog) (w := w) (base := base) D_spans_of b_spans_of T1
  have m_span := ok_span (P := l.prog) (w := w) (base := base) F_m_span ⟨a_m_span, i_m_span, k_m_span⟩ b_m_span TS
  have e_block := ok_block F_m_block_at ⟨a_m_block_at, i_m_block_at, k_m_block_at⟩ b_m_block_at TS e_check m_span
  have e_path := ok_path F_m_path ⟨a_m_path, i_m_path, k_m_path⟩ b_m_path TS T1 e_check
  have m_page_at := ok_page_at (P := l.prog) (w := w) (base := base) F_m_page_at ⟨a_m_page_at, i_m_page_at, k_m_page_at⟩ b_m_page_at TS T1
  have c_Shape := ok_shI F_m_init ⟨mkCS, a_m_init, i_m_init, kcCS⟩ b_m_init TS T1 c_spans
  have c_number := ok_number (P := l.prog) (w := w) (base := base) D_number b_number T
  have c_whole := ok_whole (P := l.prog) (w := w) (base := base) D_is_whole b_is_whole T
  have c_same := ok_same D_same b_same T c_whole 4
  have c_fs := ok_fan_spans (P := l.prog) (w := w) (base := base) D_fan_spans b_fan_spans T
  have c_fan := ok_fan D_fan b_fan T c_number
  have c_page := ok_page D_page b_page T c_number
  have c_out := ok_outside D_outside b_outside T TE e_path e_block
  have c_sg := ok_shape_good D_shape_good b_shape_good T TS c_fs m_span c_same
  have c_pg := ok_page_good D_page_good b_page_good T TS c_fs e_path e_block m_page_at c_out c_same
  exact ok_law D_law T c_number c_fan c_Shape c_same c_fs c_page c_sg c_pg

end

end Lw
open PySem PySem.W PyProof.Rows
set_option maxRecDepth 100000 in
set_option maxHeartbeats 0 in
theorem PySem.Challenge.cw_lentpages_k01_shape_paths_holds : PySem.Challenge.rw_lentpages_k01_shape_paths.Holds := by
  w_on; o_law; k_head; (case hw => w_witness2)
  k_fill
  refine L2.walk_of (l := PySem.Challenge.rw_lentpages_k01_shape_paths) (n := 63) (k := 7) (x := "_law_script") (CX := fun _ => C8.CX0) (sp := fun w => Lw.spLaw _) rfl (by decide) rfl ⟨rfl, by decide, by decide⟩ (fun w h Y => by first | exact PySem.W.kIn_of Y | exact PySem.W.km_in_of Y) ?F (fun _ _ a ns hl _ hS => ⟨a, ns, rfl, hS, hl, fun _ => rfl⟩) (fun _ _ _ _ _ h => h)
  case F =>
    intro w mg fa h KX G hmg
    refine' Lw.all_mk KX G hmg ?aCS ?a_m_init ?i_m_init ?l_m_init ?c_m_init ?k_m_init ?a_m_span ?i_m_span ?l_m_span ?c_m_span ?k_m_span ?a_m_path ?i_m_path ?l_m_path ?c_m_path ?k_m_path ?a_m_page_at ?i_m_page_at ?l_m_page_at ?c_m_page_at ?k_m_page_at ?a_m_block_at ?i_m_block_at ?l_m_block_at ?c_m_block_at ?k_m_block_at ?pgCS ?hdCS ?poCS ?saCS ?mkCS ?kcCS ?nWS ?nLS ?nSS ?nPS ?aD ?iC ?tI ?lF ?cF ?lc ?x_hv ?x_hf ?x_tp ?lcc ?zsuper ?lD ?x_rb ?saD ?exD ?tyD ?kD ?mrD ?x_iniD ?veD ?anyD ?nSD ?nED ?aAE ?aPgE ?aU ?aDN ?aBF ?aLE ?aME ?aFE ?aCE ?zValueError ?hgD ?hkD ?hdD ?haD ?hnD ?htD ?hmD ?x_ex ?x_iB ?x_iP ?x_iV ?x_iN ?a_check_range ?l_check_range ?c_check_range ?k_check_range ?a_spans_of ?l_spans_of ?c_spans_of ?k_spans_of ?a_number ?l_number ?c_number ?k_number ?a_is_whole ?l_is_whole ?c_is_whole ?k_is_whole ?a_same ?l_same ?c_same ?k_same ?a_fan_spans ?l_fan_spans ?c_fan_spans ?k_fan_spans ?a_fan ?l_fan ?c_fan ?k_fan ?a_page ?l_page ?c_page ?k_page ?a_outside ?l_outside ?c_outside ?k_outside ?a_shape_good ?l_shape_good ?c_shape_good ?k_shape_good ?a_page_good ?l_page_good ?c_page_good ?k_page_good ?a_law ?l_law ?c_law ?k_law ?z_len ?z_abs ?z_int ?z_range ?z_isinstance ?z_bool ?z_str ?z_list ?z_tuple ?z_reversed ?z_zip ?z_sum
    (case aCS => k_is)
    (case a_m_init => k_is)
    (case i_m_init => k_is)
    (case l_m_init => k_is)
    (case c_m_init => k_is)
    (case k_m_init => k_is)
    (case a_m_span => k_is)
    (case i_m_span => k_is)
    (case l_m_span => k_is)
    (case c_m_span => k_is)
    (case k_m_span => k_is)
    (case a_m_path => k_is)
    (case i_m_path => k_is)
    (case l_m_path => k_is)
    (case c_m_path => k_is)
    (case k_m_path => k_is)
    (case a_m_page_at => k_is)
    (case i_m_page_at => k_is)
    (case l_m_page_at => k_is)
    (case c_m_page_at => k_is)
    (case k_m_page_at => k_is)
    (case a_m_block_at => k_is)
    (case i_m_block_at => k_is)
    (case l_m_block_at => k_is)
    (case c_m_block_at => k_is)
    (case k_m_block_at => k_is)
    (case pgCS => k_is)
    (case hdCS => k_is)
    (case poCS => k_is)
    (case saCS => k_is)
    (case mkCS => k_is)
    (case kcCS => k_is)
    (case nWS => k_is)
    (case nLS => k_is)
    (case nSS => k_is)
    (case nPS => k_is)
    (case aD => k_is)
    (case iC => k_is)
    (case tI => k_is)
    (case lF => k_is)
    (case cF => k_is)
    (case lc => k_is)
    (case x_hv => first | k_is | rfl | decide +kernel)
    (case x_hf => first | k_is | rfl | decide +kernel)
    (case x_tp => first | k_is | rfl | decide +kernel)
    (case lcc => k_is)
    (case zsuper => k_is)
    (case lD => k_is)
    (case x_rb => first | k_is | rfl | decide +kernel)
    (case saD => k_is)
    (case exD => k_is)
    (case tyD => k_is)
    (case kD => k_is)
    (case mrD => k_is)
    (case x_iniD => first | k_is | rfl | decide +kernel)
    (case veD => k_is)
    (case anyD => k_is)
    (case nSD => k_is)
    (case nED => k_is)
    (case aAE => k_is)
    (case aPgE => k_is)
    (case aU => k_is)
    (case aDN => k_is)
    (case aBF => k_is)
    (case aLE => k_is)
    (case aME => k_is)
    (case aFE => k_is)
    (case aCE => k_is)
    (case zValueError => k_is)
    (case hgD => k_is)
    (case hkD => k_is)
    (case hdD => k_is)
    (case haD => k_is)
    (case hnD => k_is)
    (case htD => k_is)
    (case hmD => k_is)
    (case x_ex => first | k_is | rfl | decide +kernel)
    (case x_iB => first | k_is | rfl | decide +kernel)
    (case x_iP => first | k_is | rfl | decide +kernel)
    (case x_iV => first | k_is | rfl | decide +kernel)
    (case x_iN => first | k_is | rfl | decide +kernel)
    (case a_check_range => k_is)
    (case l_check_range => k_is)
    (case c_check_range => k_is)
    (case k_check_range => k_is)
    (case a_spans_of => k_is)
    (case l_spans_of => k_is)
    (case c_spans_of => k_is)
    (case k_spans_of => k_is)
    (case a_number => k_is)
    (case l_number => k_is)
    (case c_number => k_is)
    (case k_number => k_is)
    (case a_is_whole => k_is)
    (case l_is_whole => k_is)
    (case c_is_whole => k_is)
    (case k_is_whole => k_is)
    (case a_same => k_is)
    (case l_same => k_is)
    (case c_same => k_is)
    (case k_same => k_is)
    (case a_fan_spans => k_is)
    (case l_fan_spans => k_is)
    (case c_fan_spans => k_is)
    (case k_fan_spans => k_is)
    (case a_fan => k_is)
    (case l_fan => k_is)
    (case c_fan => k_is)
    (case k_fan => k_is)
    (case a_page => k_is)
    (case l_page => k_is)
    (case c_page => k_is)
    (case k_page => k_is)
    (case a_outside => k_is)
    (case l_outside => k_is)
    (case c_outside => k_is)
    (case k_outside => k_is)
    (case a_shape_good => k_is)
    (case l_shape_good => k_is)
    (case c_shape_good => k_is)
    (case k_shape_good => k_is)
    (case a_page_good => k_is)
    (case l_page_good => k_is)
    (case c_page_good => k_is)
    (case k_page_good => k_is)
    (case a_law => k_is)
    (case l_law => k_is)
    (case c_law => k_is)
    (case k_law => k_is)
    (case z_len => k_is)
    (case z_abs => k_is)
    (case z_int => k_is)
    (case z_range => k_is)
    (case z_isinstance => k_is)
    (case z_bool => k_is)
    (case z_str => k_is)
    (case z_list => k_is)
    (case z_tuple => k_is)
    (case z_reversed => k_is)
    (case z_zip => k_is)
    (case z_sum => k_is)
